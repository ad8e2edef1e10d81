/-
  A plan that comes in, opened; a slice of plans: what it reads as. No conditions.
-/
import Derived.Test.YticefepcoemkoaaRow
import Derived.Test.YticefepcoemkoaaMem
import Derived.Deep.Slices
import Derived.Lib.SmallJoins
namespace Go.Proofs.Yticefepcoemkoaa
open Go.ChangeShapes Go.WideShapes Go.RowKit Go.Deep

/-- A plan, by its fields. -/
structure Pv where
  a : Int
  u : Int
  e : Int
  t : Int
  g : Bool
  l : Bool
def Pv.cs (p : Pv) : List Value := [.int .i64 p.a, .int .u8 p.u, .int .i64 p.e, .int .i64 p.t, .bool p.g, .bool p.l]
/-- A plan as it may come in. -/
def Pv.Wf (p : Pv) : Prop := (-9223372036854775808 ≤ p.a ∧ p.a ≤ 9223372036854775807) ∧ (0 ≤ p.u ∧ p.u < 256) ∧ (-9223372036854775808 ≤ p.e ∧ p.e ≤ 9223372036854775807) ∧ (-9223372036854775808 ≤ p.t ∧ p.t ≤ 9223372036854775807)

/-- Six cells that read as a plan. -/
theorem cells_plan {H : Type} {enc : TypeId × Value → H} {W : World} {n : Nat} {cs : List Value} {x : DataW H × List MemPlace} (hl : cs.length = 6) (h : DataW.trod enc Try.prog W 0 (fun _ => true) true n 23 cs = some x) :
    ∃ p : Pv, cs = p.cs ∧ p.Wf := by
  obtain ⟨xs, k, hk, hxy, _, hxl, hff⟩ := DataW.trod_struct Try.underlying23 h
  match xs, hxl, cs, hl with
  | [y0, y1, y2, y3, y4, y5], _, [v0, v1, v2, v3, v4, v5], _ =>
    have t0 : DataW.trod enc Try.prog W 0 (fun _ => true) true k 2 [v0] = some y0 := hff 0 _ rfl
    have t1 : DataW.trod enc Try.prog W 0 (fun _ => true) true k 5 [v1] = some y1 := hff 1 _ rfl
    have t2 : DataW.trod enc Try.prog W 0 (fun _ => true) true k 3 [v2] = some y2 := hff 2 _ rfl
    have t3 : DataW.trod enc Try.prog W 0 (fun _ => true) true k 3 [v3] = some y3 := hff 3 _ rfl
    have t4 : DataW.trod enc Try.prog W 0 (fun _ => true) true k 4 [v4] = some y4 := hff 4 _ rfl
    have t5 : DataW.trod enc Try.prog W 0 (fun _ => true) true k 4 [v5] = some y5 := hff 5 _ rfl
    obtain ⟨a, e0, _, w0⟩ := DataW.trod_int Try.underlying2 t0
    obtain ⟨u, e1, _, w1⟩ := DataW.trod_int Try.underlying5 t1
    obtain ⟨e, e2, _, w2⟩ := DataW.trod_int Try.underlying3 t2
    obtain ⟨t, e3, _, w3⟩ := DataW.trod_int Try.underlying3 t3
    obtain ⟨g, e4, _⟩ := DataW.trod_bool Try.underlying4 t4
    obtain ⟨l, e5, _⟩ := DataW.trod_bool Try.underlying4 t5
    injection e0 with e0; injection e1 with e1; injection e2 with e2; injection e3 with e3; injection e4 with e4; injection e5 with e5
    subst e0 e1 e2 e3 e4 e5
    exact ⟨⟨a, u, e, t, g, l⟩, rfl, wf_i64 w0, wf_u8 w1, wf_i64 w2, wf_i64 w3⟩

theorem open_plan {H : Type} {enc : TypeId × Value → H} {W : World} {base : Nat} {v : Value} {d : DataW H} {ps : List MemPlace}
    (hval : Value.okWide Try.prog W .any base 23 v) (hd : DataW.Trod enc Try.prog W 0 (fun _ => true) true 23 v d ps) :
    ∃ (a u e t : Int) (g l : Bool), v = .agg #[.int .i64 a, .int .u8 u, .int .i64 e, .int .i64 t, .bool g, .bool l] ∧ (⟨a, u, e, t, g, l⟩ : Pv).Wf := by
  obtain ⟨cs, rfl, hsz⟩ := okWide_struct Try.underlying23 hval
  obtain ⟨fuel, hf⟩ := hd
  have h6 : Try.prog.cellsOf 23 = 6 := by kernel_rfl
  obtain ⟨p, hp, hw⟩ := cells_plan (by rw [← Array.length_toList] at hsz; simpa [Value.cells, h6] using hsz) hf
  refine ⟨p.a, p.u, p.e, p.t, p.g, p.l, ?_, hw⟩
  obtain ⟨cs⟩ := cs
  simp [Value.cells] at hp
  rw [hp]; rfl

/-- A slice of plans whose address is A reads as the plans l: in a block below B. -/
def RdPlans (w : World) (B : Nat) (A : Option Addr) (l : List Pv) : Prop :=
  ∀ (j : Nat) (p : Pv), l[j]? = some p → ∃ b o, A = some ⟨b, o, none⟩ ∧ b < B ∧ ∀ (i : Nat) (v : Value), p.cs[i]? = some v → w.cell? ⟨b, o + j * 6 + i, none⟩ = some v
theorem RdPlans.kept {w w' : World} {B : Nat} {A : Option Addr} {l : List Pv} (h : RdPlans w B A l) (hk : ∀ i, i < B → w'.heap[i]? = w.heap[i]?) : RdPlans w' B A l := fun j p hl => by
  obtain ⟨b, o, h1, h2, h3⟩ := h j p hl
  exact ⟨b, o, h1, h2, fun i v hv => (World.cell?_of_block (hk b h2)).trans (h3 i v hv)⟩

theorem open_plans {H : Type} {enc : TypeId × Value → H} {W : World} {base : Nat} {v : Value} {d : DataW H} {ps : List MemPlace}
    (hval : Value.okWide Try.prog W .any base 42 v) (hd : DataW.Trod enc Try.prog W 0 (fun _ => true) true 42 v d ps) :
    ∃ A c l, v = .slice A (List.length l) c ∧ l.length ≤ c ∧ c ≤ maxLen ∧ RdPlans W W.heap.size A l ∧ ∀ p ∈ l, Pv.Wf p := by
  obtain ⟨a0, n0, c0, rfl⟩ := okWide_slice Try.underlying42 hval
  obtain ⟨fuel, hf⟩ := hd
  rcases open_slice Try.underlying42 hf with ⟨hcs, _⟩ | ⟨a, len, cap, m, n, D, Pl, hcs, _, hl, hm, hmm, _, hx⟩
  · simp [Value.cells] at hcs
    obtain ⟨rfl, rfl, rfl⟩ := hcs
    exact ⟨none, 0, [], rfl, by simp, by simp, fun j l h => by simp at h, by simp⟩
  · simp [Value.cells] at hcs
    obtain ⟨rfl, rfl, rfl⟩ := hcs
    simp only [if_true] at hmm
    have ce : Try.prog.cellsOf 23 = 6 := by kernel_rfl
    have each : ∀ i, i < n0 → ∃ y : Pv, y.Wf ∧ ∀ (j : Nat) (v : Value), y.cs[j]? = some v → W.cell? (a.add (i * 6 + j)) = some v := by
      intro i hi
      obtain ⟨cs', h1, h2⟩ := hx i (by omega)
      rw [ce] at h1
      obtain ⟨_, hlen, hcell⟩ := World.cells?_some h1
      obtain ⟨p, rfl, hw⟩ := cells_plan hlen h2
      exact ⟨p, hw, fun j v hv => by
        have hj : j < 6 := by
          have := (List.getElem?_eq_some_iff.1 hv).1
          rwa [hlen] at this
        have q := hcell j hj
        rw [add_add] at q
        exact q.trans hv⟩
    haveI : Inhabited Pv := ⟨⟨0, 0, 0, 0, false, false⟩⟩
    obtain ⟨y, hy⟩ := choose_lt each
    have hlen : ((List.range n0).map y).length = n0 := by simp
    refine ⟨some a, c0, (List.range n0).map y, by rw [hlen], by rw [hlen]; exact hl, hm, fun j x hj => ?_, fun x hx' => ?_⟩
    · obtain ⟨hj1, hj2⟩ := List.getElem?_eq_some_iff.1 hj
      rw [hlen] at hj1
      have hj3 : y j = x := by simpa using hj2
      obtain ⟨_, h1⟩ := hy j hj1
      have hz := (hy 0 (by omega)).2 0 _ rfl
      rw [Nat.zero_mul, ad_zero] at hz
      have hsp := World.cell?_spot hz
      obtain ⟨b, o, sp⟩ := a
      have hsp' : sp = none := hsp
      subst hsp'
      rw [hj3] at h1
      refine ⟨b, o, rfl, World.block_lt_of_cell? W _ hz, fun i v hv => ?_⟩
      have q := h1 i v hv
      rw [add_plain] at q
      rw [Nat.add_assoc]; exact q
    · simp only [List.mem_map, List.mem_range] at hx'
      obtain ⟨r, hr', rfl⟩ := hx'
      exact (hy r hr').1
end Go.Proofs.Yticefepcoemkoaa
