/-
  A slice of law 15's acts that comes in: what it reads as. No conditions.
-/
import Derived.Test.YtcjhgckkbekhoaaRow
import Derived.Test.YtcjhgckkbekhoaaMem
import Derived.Deep.Slices
import Derived.Deep.MidRow
import Derived.Lib.SmallJoins
namespace Go.Proofs.Ytcjhgckkbekhoaa
set_option maxRecDepth 20000
open Go.ChangeShapes Go.WideShapes Go.RowKit Go.Deep

/-- An act, by its bytes. -/
structure At6 where
  k : Int
  s : Int
  c : Int
  t : Int
  a : Int
  v : Int
def At6.cs (p : At6) : List Value := [.int .u8 p.k, .int .u8 p.s, .int .u8 p.c, .int .u8 p.t, .int .u16 p.a, .int .u8 p.v]
/-- An act as it may come in. -/
def At6.Wf (p : At6) : Prop := (0 ≤ p.k ∧ p.k < 256) ∧ (0 ≤ p.s ∧ p.s < 256) ∧ (0 ≤ p.c ∧ p.c < 256) ∧ (0 ≤ p.t ∧ p.t < 256) ∧ (0 ≤ p.a ∧ p.a < 65536) ∧ (0 ≤ p.v ∧ p.v < 256)
theorem cells_At6 {H : Type} {enc : TypeId × Value → H} {W : World} {n : Nat} {cs : List Value} {x : DataW H × List MemPlace} (hl : cs.length = 6) (h : DataW.trod enc Try.prog W 0 (fun _ => true) true n 35 cs = some x) :
    ∃ p : At6, cs = p.cs ∧ p.Wf := by
  obtain ⟨xs, k, hk, hxy, _, hxl, hff⟩ := DataW.trod_struct Try.underlying35 h
  match xs, hxl, cs, hl with
  | [y0, y1, y2, y3, y4, y5], _, [v0, v1, v2, v3, v4, v5], _ =>
    have t0 : DataW.trod enc Try.prog W 0 (fun _ => true) true k 5 [v0] = some y0 := hff 0 _ rfl
    have t1 : DataW.trod enc Try.prog W 0 (fun _ => true) true k 5 [v1] = some y1 := hff 1 _ rfl
    have t2 : DataW.trod enc Try.prog W 0 (fun _ => true) true k 5 [v2] = some y2 := hff 2 _ rfl
    have t3 : DataW.trod enc Try.prog W 0 (fun _ => true) true k 5 [v3] = some y3 := hff 3 _ rfl
    have t4 : DataW.trod enc Try.prog W 0 (fun _ => true) true k 33 [v4] = some y4 := hff 4 _ rfl
    have t5 : DataW.trod enc Try.prog W 0 (fun _ => true) true k 5 [v5] = some y5 := hff 5 _ rfl
    obtain ⟨k, e0, _, w0⟩ := DataW.trod_int Try.underlying5 t0
    obtain ⟨s, e1, _, w1⟩ := DataW.trod_int Try.underlying5 t1
    obtain ⟨c, e2, _, w2⟩ := DataW.trod_int Try.underlying5 t2
    obtain ⟨t, e3, _, w3⟩ := DataW.trod_int Try.underlying5 t3
    obtain ⟨a, e4, _, w4⟩ := DataW.trod_int Try.underlying33 t4
    obtain ⟨v, e5, _, w5⟩ := DataW.trod_int Try.underlying5 t5
    injection e0 with e0; injection e1 with e1; injection e2 with e2; injection e3 with e3; injection e4 with e4; injection e5 with e5
    subst e0 e1 e2 e3 e4 e5
    exact ⟨⟨k, s, c, t, a, v⟩, rfl, wf_u8 w0, wf_u8 w1, wf_u8 w2, wf_u8 w3, wf_u16 w4, wf_u8 w5⟩
/-- A slice of acts whose address is A reads as the acts l: in a block below B. -/
def RdAt6 (w : World) (B : Nat) (A : Option Addr) (l : List At6) : Prop :=
  ∀ (j : Nat) (p : At6), l[j]? = some p → ∃ b o, A = some ⟨b, o, none⟩ ∧ b < B ∧ w.rangeAt b (o + j * 6) p.cs
theorem RdAt6.kept {w w' : World} {B : Nat} {A : Option Addr} {l : List At6} (h : RdAt6 w B A l) (hk : ∀ i, i < B → w'.heap[i]? = w.heap[i]?) : RdAt6 w' B A l := fun j p hl => by
  obtain ⟨b, o, h1, h2, h3⟩ := h j p hl
  exact ⟨b, o, h1, h2, fun i v hv => (World.cell?_of_block (a := ⟨b, o + j * 6 + i, none⟩) (hk b h2)).trans (h3 i v hv)⟩
theorem open_At6 {H : Type} {enc : TypeId × Value → H} {W : World} {base : Nat} {v : Value} {d : DataW H} {ps : List MemPlace}
    (hval : Value.okWide Try.prog W .any base 22 v) (hd : DataW.Trod enc Try.prog W 0 (fun _ => true) true 22 v d ps) :
    ∃ A c l, v = .slice A (List.length l) c ∧ l.length ≤ c ∧ c ≤ maxLen ∧ RdAt6 W W.heap.size A l ∧ ∀ p ∈ l, At6.Wf p := by
  obtain ⟨a0, n0, c0, rfl⟩ := okWide_slice Try.underlying22 hval
  obtain ⟨fuel, hf⟩ := hd
  rcases open_slice Try.underlying22 hf with ⟨hcs, _⟩ | ⟨a, len, cap, m, n, D, Pl, hcs, _, hl, hm, hmm, _, hx⟩
  · simp [Value.cells] at hcs
    obtain ⟨rfl, rfl, rfl⟩ := hcs
    exact ⟨none, 0, [], rfl, by simp, by simp, fun j l h => by simp at h, by simp⟩
  · simp [Value.cells] at hcs
    obtain ⟨rfl, rfl, rfl⟩ := hcs
    simp only [if_true] at hmm
    have ce : Try.prog.cellsOf 35 = 6 := by kernel_rfl
    have each : ∀ i, i < n0 → ∃ y : At6, y.Wf ∧ ∀ (j : Nat) (v : Value), y.cs[j]? = some v → W.cell? (a.add (i * 6 + j)) = some v := by
      intro i hi
      obtain ⟨cs', h1, h2⟩ := hx i (by omega)
      rw [ce] at h1
      obtain ⟨_, hlen, hcell⟩ := World.cells?_some h1
      obtain ⟨p, rfl, hw⟩ := cells_At6 hlen h2
      exact ⟨p, hw, fun j v hv => by
        have hj : j < 6 := by
          have := (List.getElem?_eq_some_iff.1 hv).1
          rwa [hlen] at this
        have q := hcell j hj
        rw [add_add] at q
        exact q.trans hv⟩
    haveI : Inhabited At6 := ⟨⟨0, 0, 0, 0, 0, 0⟩⟩
    obtain ⟨y, hy⟩ := choose_lt each
    have hlen : ((List.range n0).map y).length = n0 := by simp
    refine ⟨some a, c0, (List.range n0).map y, by rw [hlen], by rw [hlen]; exact hl, hm, fun j x hj => ?_, fun x hx' => ?_⟩
    · obtain ⟨hj1, hj2⟩ := List.getElem?_eq_some_iff.1 hj
      rw [hlen] at hj1
      have hj3 : y j = x := by simpa using hj2
      obtain ⟨_, h1⟩ := hy j hj1
      have hz := (hy 0 (by omega)).2 0 _ rfl
      rw [Nat.zero_mul, ad_zero] at hz
      have hsp := World.cell?_spot hz
      obtain ⟨b, o, sp⟩ := a
      have hsp' : sp = none := hsp
      subst hsp'
      rw [hj3] at h1
      refine ⟨b, o, rfl, World.block_lt_of_cell? W _ hz, fun i v hv => ?_⟩
      have q := h1 i v hv
      rw [add_plain] at q
      rw [Nat.add_assoc]; exact q
    · simp only [List.mem_map, List.mem_range] at hx'
      obtain ⟨r, hr', rfl⟩ := hx'
      exact (hy r hr').1
end Go.Proofs.Ytcjhgckkbekhoaa
