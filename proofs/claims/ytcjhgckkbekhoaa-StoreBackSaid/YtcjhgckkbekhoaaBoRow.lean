/-
  A slice of truths that comes in: what it reads as. No conditions.
-/
import Derived.Test.YtcjhgckkbekhoaaRow
import Derived.Test.YtcjhgckkbekhoaaMem
import Derived.Deep.Slices
import Derived.Deep.MidRow
import Derived.Lib.SmallJoins
namespace Go.Proofs.Ytcjhgckkbekhoaa
set_option maxRecDepth 20000
open Go.ChangeShapes Go.WideShapes Go.RowKit Go.Deep

/-- An act, by its bytes. -/
structure Bo where
  b : Bool
def Bo.cs (p : Bo) : List Value := [.bool p.b]
/-- An act as it may come in. -/
def Bo.Wf (_ : Bo) : Prop := True
theorem cells_Bo {H : Type} {enc : TypeId × Value → H} {W : World} {n : Nat} {cs : List Value} {x : DataW H × List MemPlace} (hl : cs.length = 1) (h : DataW.trod enc Try.prog W 0 (fun _ => true) true n 4 cs = some x) :
    ∃ p : Bo, cs = p.cs ∧ p.Wf := by
  match cs, hl with
  | [v0], _ =>
    obtain ⟨b, e0, _⟩ := DataW.trod_bool Try.underlying4 h
    injection e0 with e0
    subst e0
    exact ⟨⟨b⟩, rfl, trivial⟩
/-- A slice of acts whose address is A reads as the acts l: in a block below B. -/
def RdBo (w : World) (B : Nat) (A : Option Addr) (l : List Bo) : Prop :=
  ∀ (j : Nat) (p : Bo), l[j]? = some p → ∃ b o, A = some ⟨b, o, none⟩ ∧ b < B ∧ w.rangeAt b (o + j * 1) p.cs
theorem RdBo.kept {w w' : World} {B : Nat} {A : Option Addr} {l : List Bo} (h : RdBo w B A l) (hk : ∀ i, i < B → w'.heap[i]? = w.heap[i]?) : RdBo w' B A l := fun j p hl => by
  obtain ⟨b, o, h1, h2, h3⟩ := h j p hl
  exact ⟨b, o, h1, h2, fun i v hv => (World.cell?_of_block (a := ⟨b, o + j * 1 + i, none⟩) (hk b h2)).trans (h3 i v hv)⟩
theorem open_Bo {H : Type} {enc : TypeId × Value → H} {W : World} {base : Nat} {v : Value} {d : DataW H} {ps : List MemPlace}
    (hval : Value.okWide Try.prog W .any base 60 v) (hd : DataW.Trod enc Try.prog W 0 (fun _ => true) true 60 v d ps) :
    ∃ A c l, v = .slice A (List.length l) c ∧ l.length ≤ c ∧ c ≤ maxLen ∧ RdBo W W.heap.size A l ∧ ∀ p ∈ l, Bo.Wf p := by
  obtain ⟨a0, n0, c0, rfl⟩ := okWide_slice Try.underlying60 hval
  obtain ⟨fuel, hf⟩ := hd
  rcases open_slice Try.underlying60 hf with ⟨hcs, _⟩ | ⟨a, len, cap, m, n, D, Pl, hcs, _, hl, hm, hmm, _, hx⟩
  · simp [Value.cells] at hcs
    obtain ⟨rfl, rfl, rfl⟩ := hcs
    exact ⟨none, 0, [], rfl, by simp, by simp, fun j l h => by simp at h, by simp⟩
  · simp [Value.cells] at hcs
    obtain ⟨rfl, rfl, rfl⟩ := hcs
    simp only [if_true] at hmm
    have ce : Try.prog.cellsOf 4 = 1 := by kernel_rfl
    have each : ∀ i, i < n0 → ∃ y : Bo, y.Wf ∧ ∀ (j : Nat) (v : Value), y.cs[j]? = some v → W.cell? (a.add (i * 1 + j)) = some v := by
      intro i hi
      obtain ⟨cs', h1, h2⟩ := hx i (by omega)
      rw [ce] at h1
      obtain ⟨_, hlen, hcell⟩ := World.cells?_some h1
      obtain ⟨p, rfl, hw⟩ := cells_Bo hlen h2
      exact ⟨p, hw, fun j v hv => by
        have hj : j < 1 := by
          have := (List.getElem?_eq_some_iff.1 hv).1
          rwa [hlen] at this
        have q := hcell j hj
        rw [add_add] at q
        exact q.trans hv⟩
    haveI : Inhabited Bo := ⟨⟨false⟩⟩
    obtain ⟨y, hy⟩ := choose_lt each
    have hlen : ((List.range n0).map y).length = n0 := by simp
    refine ⟨some a, c0, (List.range n0).map y, by rw [hlen], by rw [hlen]; exact hl, hm, fun j x hj => ?_, fun x hx' => ?_⟩
    · obtain ⟨hj1, hj2⟩ := List.getElem?_eq_some_iff.1 hj
      rw [hlen] at hj1
      have hj3 : y j = x := by simpa using hj2
      obtain ⟨_, h1⟩ := hy j hj1
      have hz := (hy 0 (by omega)).2 0 _ rfl
      rw [Nat.zero_mul, ad_zero] at hz
      have hsp := World.cell?_spot hz
      obtain ⟨b, o, sp⟩ := a
      have hsp' : sp = none := hsp
      subst hsp'
      rw [hj3] at h1
      refine ⟨b, o, rfl, World.block_lt_of_cell? W _ hz, fun i v hv => ?_⟩
      have q := h1 i v hv
      rw [add_plain] at q
      rw [Nat.add_assoc]; exact q
    · simp only [List.mem_map, List.mem_range] at hx'
      obtain ⟨r, hr', rfl⟩ := hx'
      exact (hy r hr').1
end Go.Proofs.Ytcjhgckkbekhoaa
