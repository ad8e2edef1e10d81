/-
  A notice that comes in, opened. No conditions.
-/
import Derived.Test.YtcjhgckkbekhoaaNv
import Derived.Test.YtcjhgckkbekhoaaRow
import Derived.Lib.SmallJoins
namespace Go.Proofs.Ytcjhgckkbekhoaa
set_option maxRecDepth 20000
open Go.ChangeShapes Go.WideShapes Go.RowKit Go.Deep

/-- Six cells that read as a notice. -/
theorem cells_notice {H : Type} {enc : TypeId × Value → H} {W : World} {n : Nat} {cs : List Value} {x : DataW H × List MemPlace} (hl : cs.length = 6) (h : DataW.trod enc Try.prog W 0 (fun _ => true) true n 31 cs = some x) :
    ∃ p : Nv, cs = p.cs ∧ p.Wf := by
  obtain ⟨xs, k, hk, hxy, _, hxl, hff⟩ := DataW.trod_struct Try.underlying31 h
  match xs, hxl, cs, hl with
  | [y0, y1, y2, y3, y4, y5], _, [v0, v1, v2, v3, v4, v5], _ =>
    have t0 : DataW.trod enc Try.prog W 0 (fun _ => true) true k 5 [v0] = some y0 := hff 0 _ rfl
    have t1 : DataW.trod enc Try.prog W 0 (fun _ => true) true k 3 [v1] = some y1 := hff 1 _ rfl
    have t2 : DataW.trod enc Try.prog W 0 (fun _ => true) true k 3 [v2] = some y2 := hff 2 _ rfl
    have t3 : DataW.trod enc Try.prog W 0 (fun _ => true) true k 3 [v3] = some y3 := hff 3 _ rfl
    have t4 : DataW.trod enc Try.prog W 0 (fun _ => true) true k 2 [v4] = some y4 := hff 4 _ rfl
    have t5 : DataW.trod enc Try.prog W 0 (fun _ => true) true k 5 [v5] = some y5 := hff 5 _ rfl
    obtain ⟨a, e0, _, w0⟩ := DataW.trod_int Try.underlying5 t0
    obtain ⟨b, e1, _, w1⟩ := DataW.trod_int Try.underlying3 t1
    obtain ⟨c, e2, _, w2⟩ := DataW.trod_int Try.underlying3 t2
    obtain ⟨d, e3, _, w3⟩ := DataW.trod_int Try.underlying3 t3
    obtain ⟨e, e4, _, w4⟩ := DataW.trod_int Try.underlying2 t4
    obtain ⟨f, e5, _, w5⟩ := DataW.trod_int Try.underlying5 t5
    injection e0 with e0; injection e1 with e1; injection e2 with e2; injection e3 with e3; injection e4 with e4; injection e5 with e5
    subst e0 e1 e2 e3 e4 e5
    exact ⟨⟨a, b, c, d, e, f⟩, rfl, wf_u8 w0, wf_i64 w1, wf_i64 w2, wf_i64 w3, wf_i64 w4, wf_u8 w5⟩
theorem open_notice {H : Type} {enc : TypeId × Value → H} {W : World} {base : Nat} {v : Value} {d : DataW H} {ps : List MemPlace}
    (hval : Value.okWide Try.prog W .any base 31 v) (hd : DataW.Trod enc Try.prog W 0 (fun _ => true) true 31 v d ps) :
    ∃ K S C T M V : Int, v = .agg #[.int .u8 K, .int .i64 S, .int .i64 C, .int .i64 T, .int .i64 M, .int .u8 V] ∧ (⟨K, S, C, T, M, V⟩ : Nv).Wf := by
  obtain ⟨cs, rfl, hsz⟩ := okWide_struct Try.underlying31 hval
  obtain ⟨fuel, hf⟩ := hd
  have h6 : Try.prog.cellsOf 31 = 6 := by kernel_rfl
  obtain ⟨p, hp, hw⟩ := cells_notice (by rw [← Array.length_toList] at hsz; simpa [Value.cells, h6] using hsz) hf
  refine ⟨p.k, p.s, p.c, p.t, p.a, p.v, ?_, hw⟩
  obtain ⟨cs⟩ := cs
  simp [Value.cells] at hp
  rw [hp]; rfl
end Go.Proofs.Ytcjhgckkbekhoaa
