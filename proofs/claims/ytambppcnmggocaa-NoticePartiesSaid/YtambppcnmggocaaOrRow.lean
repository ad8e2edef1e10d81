/-
  A notice, and an order, that come in, opened. No conditions.
-/
import Derived.Test.YtambppcnmggocaaOr
import Derived.Lib.SmallJoins
namespace Go.Proofs.Ytambppcnmggocaa
set_option maxRecDepth 20000
open Go.ChangeShapes Go.WideShapes Go.RowKit Go.Deep

/-- Six cells that read as a notice. -/
theorem cells_notice {H : Type} {enc : TypeId × Value → H} {W : World} {n : Nat} {cs : List Value} {x : DataW H × List MemPlace} (hl : cs.length = 6) (h : DataW.trod enc Try.prog W 0 (fun _ => true) true n 25 cs = some x) :
    ∃ p : Nv, cs = p.cs ∧ p.Wf := by
  obtain ⟨xs, k, hk, hxy, _, hxl, hff⟩ := DataW.trod_struct Try.underlying25 h
  match xs, hxl, cs, hl with
  | [y0, y1, y2, y3, y4, y5], _, [v0, v1, v2, v3, v4, v5], _ =>
    have t0 : DataW.trod enc Try.prog W 0 (fun _ => true) true k 5 [v0] = some y0 := hff 0 _ rfl
    have t1 : DataW.trod enc Try.prog W 0 (fun _ => true) true k 3 [v1] = some y1 := hff 1 _ rfl
    have t2 : DataW.trod enc Try.prog W 0 (fun _ => true) true k 3 [v2] = some y2 := hff 2 _ rfl
    have t3 : DataW.trod enc Try.prog W 0 (fun _ => true) true k 3 [v3] = some y3 := hff 3 _ rfl
    have t4 : DataW.trod enc Try.prog W 0 (fun _ => true) true k 2 [v4] = some y4 := hff 4 _ rfl
    have t5 : DataW.trod enc Try.prog W 0 (fun _ => true) true k 5 [v5] = some y5 := hff 5 _ rfl
    obtain ⟨a, e0, _, w0⟩ := DataW.trod_int Try.underlying5 t0
    obtain ⟨b, e1, _, w1⟩ := DataW.trod_int Try.underlying3 t1
    obtain ⟨c, e2, _, w2⟩ := DataW.trod_int Try.underlying3 t2
    obtain ⟨d, e3, _, w3⟩ := DataW.trod_int Try.underlying3 t3
    obtain ⟨e, e4, _, w4⟩ := DataW.trod_int Try.underlying2 t4
    obtain ⟨f, e5, _, w5⟩ := DataW.trod_int Try.underlying5 t5
    injection e0 with e0; injection e1 with e1; injection e2 with e2; injection e3 with e3; injection e4 with e4; injection e5 with e5
    subst e0 e1 e2 e3 e4 e5
    exact ⟨⟨a, b, c, d, e, f⟩, rfl, wf_u8 w0, wf_i64 w1, wf_i64 w2, wf_i64 w3, wf_i64 w4, wf_u8 w5⟩
theorem open_notice {H : Type} {enc : TypeId × Value → H} {W : World} {base : Nat} {v : Value} {d : DataW H} {ps : List MemPlace}
    (hval : Value.okWide Try.prog W .any base 25 v) (hd : DataW.Trod enc Try.prog W 0 (fun _ => true) true 25 v d ps) :
    ∃ K S C T M V : Int, v = .agg #[.int .u8 K, .int .i64 S, .int .i64 C, .int .i64 T, .int .i64 M, .int .u8 V] ∧ (⟨K, S, C, T, M, V⟩ : Nv).Wf := by
  obtain ⟨cs, rfl, hsz⟩ := okWide_struct Try.underlying25 hval
  obtain ⟨fuel, hf⟩ := hd
  have h6 : Try.prog.cellsOf 25 = 6 := by kernel_rfl
  obtain ⟨p, hp, hw⟩ := cells_notice (by rw [← Array.length_toList] at hsz; simpa [Value.cells, h6] using hsz) hf
  refine ⟨p.k, p.s, p.c, p.t, p.a, p.v, ?_, hw⟩
  obtain ⟨cs⟩ := cs
  simp [Value.cells] at hp
  rw [hp]; rfl

/-- Sixteen cells that read as an order. -/
theorem cells_order {H : Type} {enc : TypeId × Value → H} {W : World} {n : Nat} {cs : List Value} {x : DataW H × List MemPlace} (hl : cs.length = 16) (h : DataW.trod enc Try.prog W 0 (fun _ => true) true n 27 cs = some x) :
    ∃ o : Ov, cs = .int .u8 o.k :: .int .i64 o.s :: .int .i64 o.p :: .int .i64 o.n :: (o.P.cs ++ o.A.cs) ∧ o.Wf := by
  obtain ⟨xs, k, hk, hxy, _, hxl, hff⟩ := DataW.trod_struct Try.underlying27 h
  match xs, hxl, cs, hl with
  | [y0, y1, y2, y3, y4, y5], _, [v0, v1, v2, v3, v4, v5, v6, v7, v8, v9, v10, v11, v12, v13, v14, v15], _ =>
    have t0 : DataW.trod enc Try.prog W 0 (fun _ => true) true k 5 [v0] = some y0 := hff 0 _ rfl
    have t1 : DataW.trod enc Try.prog W 0 (fun _ => true) true k 3 [v1] = some y1 := hff 1 _ rfl
    have t2 : DataW.trod enc Try.prog W 0 (fun _ => true) true k 3 [v2] = some y2 := hff 2 _ rfl
    have t3 : DataW.trod enc Try.prog W 0 (fun _ => true) true k 3 [v3] = some y3 := hff 3 _ rfl
    have t4 : DataW.trod enc Try.prog W 0 (fun _ => true) true k 23 [v4, v5, v6, v7, v8, v9] = some y4 := hff 4 _ rfl
    have t5 : DataW.trod enc Try.prog W 0 (fun _ => true) true k 25 [v10, v11, v12, v13, v14, v15] = some y5 := hff 5 _ rfl
    obtain ⟨a, e0, _, w0⟩ := DataW.trod_int Try.underlying5 t0
    obtain ⟨b, e1, _, w1⟩ := DataW.trod_int Try.underlying3 t1
    obtain ⟨c, e2, _, w2⟩ := DataW.trod_int Try.underlying3 t2
    obtain ⟨d, e3, _, w3⟩ := DataW.trod_int Try.underlying3 t3
    obtain ⟨p, hp, wp⟩ := cells_plan rfl t4
    obtain ⟨q, hq, wq⟩ := cells_notice rfl t5
    injection e0 with e0; injection e1 with e1; injection e2 with e2; injection e3 with e3
    subst e0 e1 e2 e3
    refine ⟨⟨a, b, c, d, p, q⟩, ?_, wf_u8 w0, wf_i64 w1, wf_i64 w2, wf_i64 w3, wp, wq⟩
    dsimp only
    rw [← hp, ← hq]; rfl
theorem open_order {H : Type} {enc : TypeId × Value → H} {W : World} {base : Nat} {v : Value} {d : DataW H} {ps : List MemPlace}
    (hval : Value.okWide Try.prog W .any base 27 v) (hd : DataW.Trod enc Try.prog W 0 (fun _ => true) true 27 v d ps) :
    ∃ (k s p n a u e t : Int) (g l : Bool) (K S C T M V : Int), v = .agg #[.int .u8 k, .int .i64 s, .int .i64 p, .int .i64 n, .int .i64 a, .int .u8 u, .int .i64 e, .int .i64 t, .bool g, .bool l, .int .u8 K, .int .i64 S, .int .i64 C, .int .i64 T, .int .i64 M, .int .u8 V] ∧ (⟨k, s, p, n, ⟨a, u, e, t, g, l⟩, ⟨K, S, C, T, M, V⟩⟩ : Ov).Wf := by
  obtain ⟨cs, rfl, hsz⟩ := okWide_struct Try.underlying27 hval
  obtain ⟨fuel, hf⟩ := hd
  have h6 : Try.prog.cellsOf 27 = 16 := by kernel_rfl
  obtain ⟨o, hp, hw⟩ := cells_order (by rw [← Array.length_toList] at hsz; simpa [Value.cells, h6] using hsz) hf
  refine ⟨o.k, o.s, o.p, o.n, o.P.a, o.P.u, o.P.e, o.P.t, o.P.g, o.P.l, o.A.k, o.A.s, o.A.c, o.A.t, o.A.a, o.A.v, ?_, hw⟩
  obtain ⟨cs⟩ := cs
  simp only [Value.cells] at hp
  rw [hp]; rfl
end Go.Proofs.Ytambppcnmggocaa
