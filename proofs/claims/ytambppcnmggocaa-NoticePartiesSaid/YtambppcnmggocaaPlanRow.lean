/-
  A plan that comes in, opened. No conditions.
-/
import Derived.Test.YtambppcnmggocaaRow
import Derived.Test.YtambppcnmggocaaMem
import Derived.Deep.Slices
import Derived.Lib.SmallJoins
namespace Go.Proofs.Ytambppcnmggocaa
open Go.ChangeShapes Go.WideShapes Go.RowKit Go.Deep

/-- A plan, by its fields. -/
structure Pv where
  a : Int
  u : Int
  e : Int
  t : Int
  g : Bool
  l : Bool
def Pv.cs (p : Pv) : List Value := [.int .i64 p.a, .int .u8 p.u, .int .i64 p.e, .int .i64 p.t, .bool p.g, .bool p.l]
/-- A plan as it may come in. -/
def Pv.Wf (p : Pv) : Prop := (-9223372036854775808 ≤ p.a ∧ p.a ≤ 9223372036854775807) ∧ (0 ≤ p.u ∧ p.u < 256) ∧ (-9223372036854775808 ≤ p.e ∧ p.e ≤ 9223372036854775807) ∧ (-9223372036854775808 ≤ p.t ∧ p.t ≤ 9223372036854775807)

/-- Six cells that read as a plan. -/
theorem cells_plan {H : Type} {enc : TypeId × Value → H} {W : World} {n : Nat} {cs : List Value} {x : DataW H × List MemPlace} (hl : cs.length = 6) (h : DataW.trod enc Try.prog W 0 (fun _ => true) true n 23 cs = some x) :
    ∃ p : Pv, cs = p.cs ∧ p.Wf := by
  obtain ⟨xs, k, hk, hxy, _, hxl, hff⟩ := DataW.trod_struct Try.underlying23 h
  match xs, hxl, cs, hl with
  | [y0, y1, y2, y3, y4, y5], _, [v0, v1, v2, v3, v4, v5], _ =>
    have t0 : DataW.trod enc Try.prog W 0 (fun _ => true) true k 2 [v0] = some y0 := hff 0 _ rfl
    have t1 : DataW.trod enc Try.prog W 0 (fun _ => true) true k 5 [v1] = some y1 := hff 1 _ rfl
    have t2 : DataW.trod enc Try.prog W 0 (fun _ => true) true k 3 [v2] = some y2 := hff 2 _ rfl
    have t3 : DataW.trod enc Try.prog W 0 (fun _ => true) true k 3 [v3] = some y3 := hff 3 _ rfl
    have t4 : DataW.trod enc Try.prog W 0 (fun _ => true) true k 4 [v4] = some y4 := hff 4 _ rfl
    have t5 : DataW.trod enc Try.prog W 0 (fun _ => true) true k 4 [v5] = some y5 := hff 5 _ rfl
    obtain ⟨a, e0, _, w0⟩ := DataW.trod_int Try.underlying2 t0
    obtain ⟨u, e1, _, w1⟩ := DataW.trod_int Try.underlying5 t1
    obtain ⟨e, e2, _, w2⟩ := DataW.trod_int Try.underlying3 t2
    obtain ⟨t, e3, _, w3⟩ := DataW.trod_int Try.underlying3 t3
    obtain ⟨g, e4, _⟩ := DataW.trod_bool Try.underlying4 t4
    obtain ⟨l, e5, _⟩ := DataW.trod_bool Try.underlying4 t5
    injection e0 with e0; injection e1 with e1; injection e2 with e2; injection e3 with e3; injection e4 with e4; injection e5 with e5
    subst e0 e1 e2 e3 e4 e5
    exact ⟨⟨a, u, e, t, g, l⟩, rfl, wf_i64 w0, wf_u8 w1, wf_i64 w2, wf_i64 w3⟩

theorem open_plan {H : Type} {enc : TypeId × Value → H} {W : World} {base : Nat} {v : Value} {d : DataW H} {ps : List MemPlace}
    (hval : Value.okWide Try.prog W .any base 23 v) (hd : DataW.Trod enc Try.prog W 0 (fun _ => true) true 23 v d ps) :
    ∃ (a u e t : Int) (g l : Bool), v = .agg #[.int .i64 a, .int .u8 u, .int .i64 e, .int .i64 t, .bool g, .bool l] ∧ (⟨a, u, e, t, g, l⟩ : Pv).Wf := by
  obtain ⟨cs, rfl, hsz⟩ := okWide_struct Try.underlying23 hval
  obtain ⟨fuel, hf⟩ := hd
  have h6 : Try.prog.cellsOf 23 = 6 := by kernel_rfl
  obtain ⟨p, hp, hw⟩ := cells_plan (by rw [← Array.length_toList] at hsz; simpa [Value.cells, h6] using hsz) hf
  refine ⟨p.a, p.u, p.e, p.t, p.g, p.l, ?_, hw⟩
  obtain ⟨cs⟩ := cs
  simp [Value.cells] at hp
  rw [hp]; rfl

end Go.Proofs.Ytambppcnmggocaa
