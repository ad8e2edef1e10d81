/-
  One cycle more: package account's 'with'. No conditions but the sizes.
-/
import Derived.Test.YtblikgbcakgdnaaGreatBr09
set_option linter.unusedSimpArgs false
set_option linter.unusedVariables false
namespace Go.Proofs.YtblikgbcakgdnaaGreat
set_option maxRecDepth 20000
open Go.ChangeShapes Go.WideShapes Go.ChangeAt Go.RowKit

theorem cys_one (w : World) (c : Cv) (t : TypeId) : Cys (w.alloc (.cells c.arr t)) w.heap.size (w.heap.size + 1) (.slice (some ⟨w.heap.size, 0, none⟩) 1 1) [c] := by
  refine ⟨some ⟨w.heap.size, 0, none⟩, 1, rfl, Nat.le_refl _, by unfold maxLen; omega, fun _ => ⟨w.heap.size, 0, rfl, ⟨Nat.le_refl _, by omega⟩, fun j u hu => ?_⟩, fun e => by cases e⟩
  rw [cell_of_row _ _ _ _ _ _ alloc_block, Nat.zero_add, ← Array.getElem?_toList]
  rw [ccs_one] at hu
  exact hu
theorem grown_into {a w : World} {r : Option Nat} {n : Nat} {cs : Array Value} {t : TypeId} (h : a.grownBy w r) (hn : a.heap.size ≤ n) : a.grownBy (boxed w n cs t) r :=
  ⟨h.os, h.tape, h.output, by rw [boxed_size]; exact h.size, fun i hi hne => (boxed_block_other (by omega)).trans (h.block i hi hne)⟩
theorem grown_trans {a b c : World} {r q : Option Nat} (h : a.grownBy b r) (k : b.grownBy c q) (hq : ∀ i, q = some i → r = some i ∨ a.heap.size ≤ i) : a.grownBy c r :=
  ⟨k.os.trans h.os, k.tape.trans h.tape, k.output.trans h.output, Nat.le_trans h.size k.size, fun i hi hne => (k.block i (Nat.lt_of_lt_of_le hi h.size) fun e => (hq i e.symm).elim (fun e' => hne e'.symm) (fun e' => by omega)).trans (h.block i hi hne)⟩
set_option maxHeartbeats 2000000 in
theorem with_open {w : World} {b : Nat} {v : Value} {a : Av} {m : Nat} (n d p a' u t x : Int) (g : Bool) (ho : Own w b v a.l) (hb : b ≤ w.heap.size) (hs : a.l.length ≤ 1000000) (hf : a.Fit m) (_ : m ≤ 1000000) (hc : Cv.Fit ⟨n, d, p, a', u, t, x, g⟩) (hp : p < 7) :
    Calls Tryz.prog 108 #[.agg (a.arr v), .agg #[.int .i64 n, .int .i64 d, .int .u8 p, .int .i64 a', .int .i64 u, .int .i64 t, .int .i64 x, .bool g]] w (Puts w b v (a.with_ ⟨n, d, p, a', u, t, x, g⟩)) := by
  obtain ⟨A, cap, rfl, hc1, hc2⟩ := ho.form
  have HO := Lib.hid ho
  obtain ⟨h0, h1, h2, h3, h4, h5, h6, h7, h8, h9, h10, h11⟩ := hf
  obtain ⟨g0, g1, g2, g3, _, _⟩ := hc
  dsimp only at g0 g1 g2 g3
  have hR : (a.with_ ⟨n, d, p, a', u, t, x, g⟩) = ({ a with l := a.l ++ [⟨n, d, p, a', u, t, x, g⟩] } : Av) := by
    unfold Av.with_
    rw [if_pos (by exact hp)]
  rw [hR]
  clear hR ho
  have hd7 : decide (7 ≤ p) = false := by simp; omega
  go_enter Tryz.func108, Tryz.ntmps108
  go_wp2_with (fail)
  refine (cyended_any _ _ _ _ _ _ _ _ _).mono ?_
  rintro e w1 ⟨rfl, hb1⟩
  obtain ⟨hw, y0, y1, z0, e1⟩ := box3 hb1
  have HW := Lib.hid hw
  have HO1 : Hid (Own w1 b (.slice A a.l.length cap) a.l) := HO.out.below HW.out
  rw [e1]
  clear e1 hb1 hw
  have hlt : ∀ i, Value.ownBlock (.slice A a.l.length cap) = some i → i < w.heap.size := fun i hi => (HO.out.at_ i hi).2
  have HL := Lib.hid hlt
  have hzz := HW.out.size
  have HO2 : Hid (Own (boxed (boxed (boxed w1 w.heap.size (a.arr (.slice A a.l.length cap)) 32) (w.heap.size + 1) #[.int .i64 n, .int .i64 d, .int .u8 p, .int .i64 a', .int .i64 u, .int .i64 t, .int .i64 x, .bool g] 112) (w.heap.size + 1 + 1) #[.int .u8 0, .int .i64 0, .int .i64 0, .int .i64 0, .int .i64 0, .int .i64 0, .bool false, .slice none 0 0, .int .i64 0, .int .i64 0, .int .i64 0, .int .i64 0, .int .i64 0] 32) b (.slice A a.l.length cap) a.l) := Own.boxed_new (Own.boxed_new (Own.boxed_new HO1.out fun i hi => by have := hlt i hi; omega) fun i hi => by have := hlt i hi; omega) fun i hi => by have := hlt i hi; omega
  have hG0 : w.grownBy ((boxed (boxed (boxed w1 w.heap.size (a.arr (.slice A a.l.length cap)) 32) (w.heap.size + 1) #[.int .i64 n, .int .i64 d, .int .u8 p, .int .i64 a', .int .i64 u, .int .i64 t, .int .i64 x, .bool g] 112) (w.heap.size + 1 + 1) #[.int .u8 0, .int .i64 0, .int .i64 0, .int .i64 0, .int .i64 0, .int .i64 0, .bool false, .slice none 0 0, .int .i64 0, .int .i64 0, .int .i64 0, .int .i64 0, .int .i64 0] 32).alloc (.cells #[.int .i64 n, .int .i64 d, .int .u8 p, .int .i64 a', .int .i64 u, .int .i64 t, .int .i64 x, .bool g] 112)) (Value.ownBlock (.slice A a.l.length cap)) := by
    have hw := HW.out
    exact below_grown (by (repeat (first | assumption | (with_reducible exact Below.refl _ _) | (with_reducible refine boxed_below ?_ ?_; rotate_left; (focus (first | omega | (simp; done) | (simp; omega)))) | (with_reducible refine Below.alloc ?_ ?_ _; rotate_left; (focus (first | omega | (simp; done) | (simp; omega)))) | (with_reducible refine Below.drew ?_)))) _
  have HG0 := Lib.hid hG0
  have HCY : Hid (Cys ((boxed (boxed (boxed w1 w.heap.size (a.arr (.slice A a.l.length cap)) 32) (w.heap.size + 1) #[.int .i64 n, .int .i64 d, .int .u8 p, .int .i64 a', .int .i64 u, .int .i64 t, .int .i64 x, .bool g] 112) (w.heap.size + 1 + 1) #[.int .u8 0, .int .i64 0, .int .i64 0, .int .i64 0, .int .i64 0, .int .i64 0, .bool false, .slice none 0 0, .int .i64 0, .int .i64 0, .int .i64 0, .int .i64 0, .int .i64 0] 32).alloc (.cells #[.int .i64 n, .int .i64 d, .int .u8 p, .int .i64 a', .int .i64 u, .int .i64 t, .int .i64 x, .bool g] 112)) w1.heap.size (w1.heap.size + 1) (.slice (some ⟨w1.heap.size, 0, none⟩) 1 1) [⟨n, d, p, a', u, t, x, g⟩]) := by
    have := cys_one (boxed (boxed (boxed w1 w.heap.size (a.arr (.slice A a.l.length cap)) 32) (w.heap.size + 1) #[.int .i64 n, .int .i64 d, .int .u8 p, .int .i64 a', .int .i64 u, .int .i64 t, .int .i64 x, .bool g] 112) (w.heap.size + 1 + 1) #[.int .u8 0, .int .i64 0, .int .i64 0, .int .i64 0, .int .i64 0, .int .i64 0, .bool false, .slice none 0 0, .int .i64 0, .int .i64 0, .int .i64 0, .int .i64 0, .int .i64 0] 32) ⟨n, d, p, a', u, t, x, g⟩ 112
    rw [boxed_size, boxed_size, boxed_size] at this
    exact this
  have hB0 : ((boxed (boxed (boxed w1 w.heap.size (a.arr (.slice A a.l.length cap)) 32) (w.heap.size + 1) #[.int .i64 n, .int .i64 d, .int .u8 p, .int .i64 a', .int .i64 u, .int .i64 t, .int .i64 x, .bool g] 112) (w.heap.size + 1 + 1) #[.int .u8 0, .int .i64 0, .int .i64 0, .int .i64 0, .int .i64 0, .int .i64 0, .bool false, .slice none 0 0, .int .i64 0, .int .i64 0, .int .i64 0, .int .i64 0, .int .i64 0] 32).alloc (.cells #[.int .i64 n, .int .i64 d, .int .u8 p, .int .i64 a', .int .i64 u, .int .i64 t, .int .i64 x, .bool g] 112)).heap[w.heap.size]? = some (.cells (a.arr (.slice A a.l.length cap)) 32 (0, 0)) := look0_1 z0
  have hB2 : ((boxed (boxed (boxed w1 w.heap.size (a.arr (.slice A a.l.length cap)) 32) (w.heap.size + 1) #[.int .i64 n, .int .i64 d, .int .u8 p, .int .i64 a', .int .i64 u, .int .i64 t, .int .i64 x, .bool g] 112) (w.heap.size + 1 + 1) #[.int .u8 0, .int .i64 0, .int .i64 0, .int .i64 0, .int .i64 0, .int .i64 0, .bool false, .slice none 0 0, .int .i64 0, .int .i64 0, .int .i64 0, .int .i64 0, .int .i64 0] 32).alloc (.cells #[.int .i64 n, .int .i64 d, .int .u8 p, .int .i64 a', .int .i64 u, .int .i64 t, .int .i64 x, .bool g] 112)).heap[w.heap.size + 1 + 1]? = some (.cells #[.int .u8 0, .int .i64 0, .int .i64 0, .int .i64 0, .int .i64 0, .int .i64 0, .bool false, .slice none 0 0, .int .i64 0, .int .i64 0, .int .i64 0, .int .i64 0, .int .i64 0] 32 (0, 0)) := alloc_old (by simp; omega) (boxed_at (by rw [boxed_size, boxed_size]; omega))
  have HB0 := Lib.hid hB0
  have HB2 := Lib.hid hB2
  clear hlt hG0 hB0 hB2
  go_wp2_with (first | ((with_reducible_and_instances (show wpList _ _ _ (Oper.mk _ (Op.load 32 _) _ _ _ _ :: _) _ _)); refine wl_load Tryz.underlying32 rfl info13 rfl rfl rfl (by (repeat (first | assumption | (with_reducible refine alloc_at ?_; (focus (first | omega | (simp; done) | (simp; omega)))) | (with_reducible refine boxed_at ?_; (focus (first | omega | (simp; done) | (simp; omega)))) | (with_reducible refine alloc_old ?_ ?_; (focus (first | omega | (simp; done) | (simp; omega)))) | (with_reducible refine boxed_old ?_ ?_; (focus (first | omega | (simp; done) | (simp; omega)))) | (with_reducible refine drew_old ?_)))) (by rfl) ?_) | ((with_reducible_and_instances (show wpList _ _ _ (Oper.mk _ (Op.store 32 _ _) _ _ _ _ :: _) _ _)); refine wl_store info13 rfl rfl rfl rfl (by (repeat (first | assumption | (with_reducible refine alloc_at ?_; (focus (first | omega | (simp; done) | (simp; omega)))) | (with_reducible refine boxed_at ?_; (focus (first | omega | (simp; done) | (simp; omega)))) | (with_reducible refine alloc_old ?_ ?_; (focus (first | omega | (simp; done) | (simp; omega)))) | (with_reducible refine boxed_old ?_ ?_; (focus (first | omega | (simp; done) | (simp; omega)))) | (with_reducible refine drew_old ?_)))) (by rfl) (by rfl) (by first | exact Cv.arr_one _ | exact Nv.arr_one _ | exact Av.arr_one rfl | simp [Value.oneCell']) ?_) | (at_builtin; refine wpList_append_cys cyty rfl _ _ rfl (l0 := a.l) (l := [⟨n, d, p, a', u, t, x, g⟩]) (base := b) rfl rfl (Own.alloc HO2.out) HCY.out (by rw [List.length_singleton]; omega) (by rw [World.size_alloc, boxed_size, boxed_size, boxed_size]; omega) ?_; intro v5 w5 ho5 hg5 hat5; obtain ⟨A5, c5, hv5, _, _⟩ := own_form ho5; rw [List.length_append, List.length_singleton] at hv5; subst hv5; have hs5 := hg5.size; have hx0 := (hg5.block _ (by simp; omega) (fun e => by have := HL.out _ e.symm; omega)).trans HB0.out; have hx2 := (hg5.block _ (by simp; omega) (fun e => by have := HL.out _ e.symm; omega)).trans HB2.out; have HO5 : Hid (Own w5 b (.slice A5 (a.l.length + 1) c5) (a.l ++ [⟨n, d, p, a', u, t, x, g⟩])) := ho5; have HG5 : Hid (w.grownBy w5 (Value.ownBlock (.slice A a.l.length cap))) := grown_trans HG0.out hg5 (fun i hi => .inl hi); have HA5 := Lib.hid hat5; rw [World.size_alloc, boxed_size, boxed_size, boxed_size] at hs5; have hz50 : w.heap.size < w5.heap.size := (by omega); have hz52 : w.heap.size + 1 + 1 < w5.heap.size := (by omega); rw [boxed_self hx0, boxed_self (boxed_old (w := w5) (n := w.heap.size) (cs := a.arr (.slice A a.l.length cap)) (t := 32) (by omega) hx2)]; clear hx0 hx2 ho5 hg5 hat5))
  refine bodyPost_ret (results_cell_row rfl _ _ (w.heap.size+1+1) 32 _ (0, 0) _ rfl (boxed_at (by simp only [boxed_size]; omega)) Tryz.underlying32 rfl (by exact info13)) rfl ?_
  have hlt : ∀ i, Value.ownBlock (.slice A5 (a.l.length + 1) c5) = some i → i < w.heap.size ∨ i = w1.heap.size + 1 := fun i hi => by
    rcases HA5.out with h | h
    · exact .inl (HL.out i (h ▸ hi))
    · rw [h, World.size_alloc, boxed_size, boxed_size, boxed_size] at hi; injection hi with hi; exact .inr hi.symm
  exact ⟨_, rfl, ((HO5.out.boxed_new fun i hi => by have := hlt i hi; omega).boxed_new fun i hi => by have := hlt i hi; omega).boxed_new fun i hi => by have := hlt i hi; omega, grown_into (grown_into (grown_into HG5.out (Nat.le_refl _)) (by omega)) (by omega), HA5.out.imp id fun h i hi => by rw [h, World.size_alloc, boxed_size, boxed_size, boxed_size] at hi; injection hi with hi; omega⟩
set_option maxHeartbeats 2000000 in
theorem with_done {w : World} {b : Nat} {v : Value} {a : Av} {m : Nat} (n d  a' u t x : Int) (g : Bool) (ho : Own w b v a.l) (_ : b ≤ w.heap.size) (_ : a.l.length ≤ 1000000) (hf : a.Fit m) (hm : m ≤ 1000000) (hc : Cv.Fit ⟨n, d, 7, a', u, t, x, g⟩) :
    Calls Tryz.prog 108 #[.agg (a.arr v), .agg #[.int .i64 n, .int .i64 d, .int .u8 7, .int .i64 a', .int .i64 u, .int .i64 t, .int .i64 x, .bool g]] w (Puts w b v (a.with_ ⟨n, d, 7, a', u, t, x, g⟩)) := by
  obtain ⟨A, cap, rfl, hc1, hc2⟩ := ho.form
  have HO := Lib.hid ho
  obtain ⟨h0, h1, h2, h3, h4, h5, h6, h7, h8, h9, h10, h11⟩ := hf
  obtain ⟨g0, g1, g2, g3, _, _⟩ := hc
  dsimp only at g0 g1 g2 g3
  have hR : (a.with_ ⟨n, d, 7, a', u, t, x, g⟩) = ({ a with dn := a.dn + 1, pd := a.pd + a' } : Av) := by
    unfold Av.with_
    rw [if_neg (by show ¬ _; simp), if_pos rfl]
  rw [hR]
  clear hR ho
  have e1 : wrap64 (a.dn + 1) = a.dn + 1 := by unfold wrap64; omega
  have e2 : wrap64 (a.pd + a') = a.pd + a' := by unfold wrap64; omega
  go_enter Tryz.func108, Tryz.ntmps108
  go_wp2_with (fail)
  refine (cyended_any _ _ _ _ _ _ _ _ _).mono ?_
  rintro e w1 ⟨rfl, hb1⟩
  obtain ⟨hw, y0, y1, z0, e1⟩ := box3 hb1
  have HW := Lib.hid hw
  have HO1 : Hid (Own w1 b (.slice A a.l.length cap) a.l) := HO.out.below HW.out
  rw [e1]
  clear e1 hb1 hw
  go_wp2_with (first | ((with_reducible_and_instances (show wpList _ _ _ (Oper.mk _ (Op.load 32 _) _ _ _ _ :: _) _ _)); refine wl_load Tryz.underlying32 rfl info13 rfl rfl rfl (by (repeat (first | assumption | (with_reducible refine alloc_at ?_; (focus (first | omega | (simp; done) | (simp; omega)))) | (with_reducible refine boxed_at ?_; (focus (first | omega | (simp; done) | (simp; omega)))) | (with_reducible refine alloc_old ?_ ?_; (focus (first | omega | (simp; done) | (simp; omega)))) | (with_reducible refine boxed_old ?_ ?_; (focus (first | omega | (simp; done) | (simp; omega)))) | (with_reducible refine drew_old ?_)))) (by rfl) ?_) | ((with_reducible_and_instances (show wpList _ _ _ (Oper.mk _ (Op.store 32 _ _) _ _ _ _ :: _) _ _)); refine wl_store info13 rfl rfl rfl rfl (by (repeat (first | assumption | (with_reducible refine alloc_at ?_; (focus (first | omega | (simp; done) | (simp; omega)))) | (with_reducible refine boxed_at ?_; (focus (first | omega | (simp; done) | (simp; omega)))) | (with_reducible refine alloc_old ?_ ?_; (focus (first | omega | (simp; done) | (simp; omega)))) | (with_reducible refine boxed_old ?_ ?_; (focus (first | omega | (simp; done) | (simp; omega)))) | (with_reducible refine drew_old ?_)))) (by rfl) (by rfl) (by first | exact Cv.arr_one _ | exact Nv.arr_one _ | exact Av.arr_one rfl | simp [Value.oneCell']) ?_))
  refine bodyPost_ret (results_cell_row rfl _ _ (w.heap.size+1+1) 32 _ (0, 0) _ rfl (boxed_at (by simp only [boxed_size]; omega)) Tryz.underlying32 rfl (by exact info13)) rfl ?_
  have hlt : ∀ i, Value.ownBlock (.slice A a.l.length cap) = some i → i < w.heap.size := fun i hi => (HO.out.at_ i hi).2
  exact ⟨_, rfl, (((HO1.out.boxed_new fun i hi => by have := hlt i hi; omega).boxed_new fun i hi => by have := hlt i hi; omega).boxed_new fun i hi => by have := hlt i hi; omega).boxed_new fun i hi => by have := hlt i hi; omega, below_grown (boxed_below (boxed_below (boxed_below (boxed_below HW.out (Nat.le_refl _)) (by omega)) (by omega)) (by omega)) _, .inl rfl⟩
set_option maxHeartbeats 2000000 in
theorem with_unpaid {w : World} {b : Nat} {v : Value} {a : Av} {m : Nat} (n d  a' u t x : Int) (g : Bool) (ho : Own w b v a.l) (_ : b ≤ w.heap.size) (_ : a.l.length ≤ 1000000) (hf : a.Fit m) (hm : m ≤ 1000000) (hc : Cv.Fit ⟨n, d, 8, a', u, t, x, g⟩) :
    Calls Tryz.prog 108 #[.agg (a.arr v), .agg #[.int .i64 n, .int .i64 d, .int .u8 8, .int .i64 a', .int .i64 u, .int .i64 t, .int .i64 x, .bool g]] w (Puts w b v (a.with_ ⟨n, d, 8, a', u, t, x, g⟩)) := by
  obtain ⟨A, cap, rfl, hc1, hc2⟩ := ho.form
  have HO := Lib.hid ho
  obtain ⟨h0, h1, h2, h3, h4, h5, h6, h7, h8, h9, h10, h11⟩ := hf
  obtain ⟨g0, g1, g2, g3, _, _⟩ := hc
  dsimp only at g0 g1 g2 g3
  have hR : (a.with_ ⟨n, d, 8, a', u, t, x, g⟩) = ({ a with un := a.un + 1, cr := a.cr + u } : Av) := by
    unfold Av.with_
    rw [if_neg (by show ¬ _; simp), if_neg (by show ¬ _; simp), if_pos rfl]
  rw [hR]
  clear hR ho
  have e1 : wrap64 (a.un + 1) = a.un + 1 := by unfold wrap64; omega
  have e2 : wrap64 (a.cr + u) = a.cr + u := by unfold wrap64; omega
  go_enter Tryz.func108, Tryz.ntmps108
  go_wp2_with (fail)
  refine (cyended_any _ _ _ _ _ _ _ _ _).mono ?_
  rintro e w1 ⟨rfl, hb1⟩
  obtain ⟨hw, y0, y1, z0, e1⟩ := box3 hb1
  have HW := Lib.hid hw
  have HO1 : Hid (Own w1 b (.slice A a.l.length cap) a.l) := HO.out.below HW.out
  rw [e1]
  clear e1 hb1 hw
  go_wp2_with (first | ((with_reducible_and_instances (show wpList _ _ _ (Oper.mk _ (Op.load 32 _) _ _ _ _ :: _) _ _)); refine wl_load Tryz.underlying32 rfl info13 rfl rfl rfl (by (repeat (first | assumption | (with_reducible refine alloc_at ?_; (focus (first | omega | (simp; done) | (simp; omega)))) | (with_reducible refine boxed_at ?_; (focus (first | omega | (simp; done) | (simp; omega)))) | (with_reducible refine alloc_old ?_ ?_; (focus (first | omega | (simp; done) | (simp; omega)))) | (with_reducible refine boxed_old ?_ ?_; (focus (first | omega | (simp; done) | (simp; omega)))) | (with_reducible refine drew_old ?_)))) (by rfl) ?_) | ((with_reducible_and_instances (show wpList _ _ _ (Oper.mk _ (Op.store 32 _ _) _ _ _ _ :: _) _ _)); refine wl_store info13 rfl rfl rfl rfl (by (repeat (first | assumption | (with_reducible refine alloc_at ?_; (focus (first | omega | (simp; done) | (simp; omega)))) | (with_reducible refine boxed_at ?_; (focus (first | omega | (simp; done) | (simp; omega)))) | (with_reducible refine alloc_old ?_ ?_; (focus (first | omega | (simp; done) | (simp; omega)))) | (with_reducible refine boxed_old ?_ ?_; (focus (first | omega | (simp; done) | (simp; omega)))) | (with_reducible refine drew_old ?_)))) (by rfl) (by rfl) (by first | exact Cv.arr_one _ | exact Nv.arr_one _ | exact Av.arr_one rfl | simp [Value.oneCell']) ?_))
  refine bodyPost_ret (results_cell_row rfl _ _ (w.heap.size+1+1) 32 _ (0, 0) _ rfl (boxed_at (by simp only [boxed_size]; omega)) Tryz.underlying32 rfl (by exact info13)) rfl ?_
  have hlt : ∀ i, Value.ownBlock (.slice A a.l.length cap) = some i → i < w.heap.size := fun i hi => (HO.out.at_ i hi).2
  exact ⟨_, rfl, (((HO1.out.boxed_new fun i hi => by have := hlt i hi; omega).boxed_new fun i hi => by have := hlt i hi; omega).boxed_new fun i hi => by have := hlt i hi; omega).boxed_new fun i hi => by have := hlt i hi; omega, below_grown (boxed_below (boxed_below (boxed_below (boxed_below HW.out (Nat.le_refl _)) (by omega)) (by omega)) (by omega)) _, .inl rfl⟩
set_option maxHeartbeats 2000000 in
theorem with_refunded {w : World} {b : Nat} {v : Value} {a : Av} {m : Nat} (n d  a' u t x : Int) (g : Bool) (ho : Own w b v a.l) (_ : b ≤ w.heap.size) (_ : a.l.length ≤ 1000000) (hf : a.Fit m) (hm : m ≤ 1000000) (hc : Cv.Fit ⟨n, d, 9, a', u, t, x, g⟩) :
    Calls Tryz.prog 108 #[.agg (a.arr v), .agg #[.int .i64 n, .int .i64 d, .int .u8 9, .int .i64 a', .int .i64 u, .int .i64 t, .int .i64 x, .bool g]] w (Puts w b v (a.with_ ⟨n, d, 9, a', u, t, x, g⟩)) := by
  obtain ⟨A, cap, rfl, hc1, hc2⟩ := ho.form
  have HO := Lib.hid ho
  obtain ⟨h0, h1, h2, h3, h4, h5, h6, h7, h8, h9, h10, h11⟩ := hf
  obtain ⟨g0, g1, g2, g3, _, _⟩ := hc
  dsimp only at g0 g1 g2 g3
  have hR : (a.with_ ⟨n, d, 9, a', u, t, x, g⟩) = ({ a with rf := a.rf + 1, cr := a.cr + u } : Av) := by
    unfold Av.with_
    rw [if_neg (by show ¬ _; simp), if_neg (by show ¬ _; simp), if_neg (by show ¬ _; simp), if_pos rfl]
  rw [hR]
  clear hR ho
  have e1 : wrap64 (a.rf + 1) = a.rf + 1 := by unfold wrap64; omega
  have e2 : wrap64 (a.cr + u) = a.cr + u := by unfold wrap64; omega
  go_enter Tryz.func108, Tryz.ntmps108
  go_wp2_with (fail)
  refine (cyended_any _ _ _ _ _ _ _ _ _).mono ?_
  rintro e w1 ⟨rfl, hb1⟩
  obtain ⟨hw, y0, y1, z0, e1⟩ := box3 hb1
  have HW := Lib.hid hw
  have HO1 : Hid (Own w1 b (.slice A a.l.length cap) a.l) := HO.out.below HW.out
  rw [e1]
  clear e1 hb1 hw
  go_wp2_with (first | ((with_reducible_and_instances (show wpList _ _ _ (Oper.mk _ (Op.load 32 _) _ _ _ _ :: _) _ _)); refine wl_load Tryz.underlying32 rfl info13 rfl rfl rfl (by (repeat (first | assumption | (with_reducible refine alloc_at ?_; (focus (first | omega | (simp; done) | (simp; omega)))) | (with_reducible refine boxed_at ?_; (focus (first | omega | (simp; done) | (simp; omega)))) | (with_reducible refine alloc_old ?_ ?_; (focus (first | omega | (simp; done) | (simp; omega)))) | (with_reducible refine boxed_old ?_ ?_; (focus (first | omega | (simp; done) | (simp; omega)))) | (with_reducible refine drew_old ?_)))) (by rfl) ?_) | ((with_reducible_and_instances (show wpList _ _ _ (Oper.mk _ (Op.store 32 _ _) _ _ _ _ :: _) _ _)); refine wl_store info13 rfl rfl rfl rfl (by (repeat (first | assumption | (with_reducible refine alloc_at ?_; (focus (first | omega | (simp; done) | (simp; omega)))) | (with_reducible refine boxed_at ?_; (focus (first | omega | (simp; done) | (simp; omega)))) | (with_reducible refine alloc_old ?_ ?_; (focus (first | omega | (simp; done) | (simp; omega)))) | (with_reducible refine boxed_old ?_ ?_; (focus (first | omega | (simp; done) | (simp; omega)))) | (with_reducible refine drew_old ?_)))) (by rfl) (by rfl) (by first | exact Cv.arr_one _ | exact Nv.arr_one _ | exact Av.arr_one rfl | simp [Value.oneCell']) ?_))
  refine bodyPost_ret (results_cell_row rfl _ _ (w.heap.size+1+1) 32 _ (0, 0) _ rfl (boxed_at (by simp only [boxed_size]; omega)) Tryz.underlying32 rfl (by exact info13)) rfl ?_
  have hlt : ∀ i, Value.ownBlock (.slice A a.l.length cap) = some i → i < w.heap.size := fun i hi => (HO.out.at_ i hi).2
  exact ⟨_, rfl, (((HO1.out.boxed_new fun i hi => by have := hlt i hi; omega).boxed_new fun i hi => by have := hlt i hi; omega).boxed_new fun i hi => by have := hlt i hi; omega).boxed_new fun i hi => by have := hlt i hi; omega, below_grown (boxed_below (boxed_below (boxed_below (boxed_below HW.out (Nat.le_refl _)) (by omega)) (by omega)) (by omega)) _, .inl rfl⟩
set_option maxHeartbeats 2000000 in
theorem with_skipped {w : World} {b : Nat} {v : Value} {a : Av} {m : Nat} (n d  a' u t x : Int) (g : Bool) (ho : Own w b v a.l) (_ : b ≤ w.heap.size) (_ : a.l.length ≤ 1000000) (hf : a.Fit m) (hm : m ≤ 1000000) (hc : Cv.Fit ⟨n, d, 10, a', u, t, x, g⟩) :
    Calls Tryz.prog 108 #[.agg (a.arr v), .agg #[.int .i64 n, .int .i64 d, .int .u8 10, .int .i64 a', .int .i64 u, .int .i64 t, .int .i64 x, .bool g]] w (Puts w b v (a.with_ ⟨n, d, 10, a', u, t, x, g⟩)) := by
  obtain ⟨A, cap, rfl, hc1, hc2⟩ := ho.form
  have HO := Lib.hid ho
  obtain ⟨h0, h1, h2, h3, h4, h5, h6, h7, h8, h9, h10, h11⟩ := hf
  obtain ⟨g0, g1, g2, g3, _, _⟩ := hc
  dsimp only at g0 g1 g2 g3
  have hR : (a.with_ ⟨n, d, 10, a', u, t, x, g⟩) = ({ a with sp := a.sp + 1 } : Av) := by
    unfold Av.with_
    rw [if_neg (by show ¬ _; simp), if_neg (by show ¬ _; simp), if_neg (by show ¬ _; simp), if_neg (by show ¬ _; simp), if_pos rfl]
  rw [hR]
  clear hR ho
  have e1 : wrap64 (a.sp + 1) = a.sp + 1 := by unfold wrap64; omega
  go_enter Tryz.func108, Tryz.ntmps108
  go_wp2_with (fail)
  refine (cyended_any _ _ _ _ _ _ _ _ _).mono ?_
  rintro e w1 ⟨rfl, hb1⟩
  obtain ⟨hw, y0, y1, z0, e1⟩ := box3 hb1
  have HW := Lib.hid hw
  have HO1 : Hid (Own w1 b (.slice A a.l.length cap) a.l) := HO.out.below HW.out
  rw [e1]
  clear e1 hb1 hw
  go_wp2_with (first | ((with_reducible_and_instances (show wpList _ _ _ (Oper.mk _ (Op.load 32 _) _ _ _ _ :: _) _ _)); refine wl_load Tryz.underlying32 rfl info13 rfl rfl rfl (by (repeat (first | assumption | (with_reducible refine alloc_at ?_; (focus (first | omega | (simp; done) | (simp; omega)))) | (with_reducible refine boxed_at ?_; (focus (first | omega | (simp; done) | (simp; omega)))) | (with_reducible refine alloc_old ?_ ?_; (focus (first | omega | (simp; done) | (simp; omega)))) | (with_reducible refine boxed_old ?_ ?_; (focus (first | omega | (simp; done) | (simp; omega)))) | (with_reducible refine drew_old ?_)))) (by rfl) ?_) | ((with_reducible_and_instances (show wpList _ _ _ (Oper.mk _ (Op.store 32 _ _) _ _ _ _ :: _) _ _)); refine wl_store info13 rfl rfl rfl rfl (by (repeat (first | assumption | (with_reducible refine alloc_at ?_; (focus (first | omega | (simp; done) | (simp; omega)))) | (with_reducible refine boxed_at ?_; (focus (first | omega | (simp; done) | (simp; omega)))) | (with_reducible refine alloc_old ?_ ?_; (focus (first | omega | (simp; done) | (simp; omega)))) | (with_reducible refine boxed_old ?_ ?_; (focus (first | omega | (simp; done) | (simp; omega)))) | (with_reducible refine drew_old ?_)))) (by rfl) (by rfl) (by first | exact Cv.arr_one _ | exact Nv.arr_one _ | exact Av.arr_one rfl | simp [Value.oneCell']) ?_))
  refine bodyPost_ret (results_cell_row rfl _ _ (w.heap.size+1+1) 32 _ (0, 0) _ rfl (boxed_at (by simp only [boxed_size]; omega)) Tryz.underlying32 rfl (by exact info13)) rfl ?_
  have hlt : ∀ i, Value.ownBlock (.slice A a.l.length cap) = some i → i < w.heap.size := fun i hi => (HO.out.at_ i hi).2
  exact ⟨_, rfl, (((HO1.out.boxed_new fun i hi => by have := hlt i hi; omega).boxed_new fun i hi => by have := hlt i hi; omega).boxed_new fun i hi => by have := hlt i hi; omega).boxed_new fun i hi => by have := hlt i hi; omega, below_grown (boxed_below (boxed_below (boxed_below (boxed_below HW.out (Nat.le_refl _)) (by omega)) (by omega)) (by omega)) _, .inl rfl⟩
set_option maxHeartbeats 2000000 in
theorem with_none {w : World} {b : Nat} {v : Value} {a : Av} {m : Nat} (n d p a' u t x : Int) (g : Bool) (ho : Own w b v a.l) (_ : b ≤ w.heap.size) (_ : a.l.length ≤ 1000000) (hf : a.Fit m) (_ : m ≤ 1000000) (hc : Cv.Fit ⟨n, d, p, a', u, t, x, g⟩) (hp : 10 < p) :
    Calls Tryz.prog 108 #[.agg (a.arr v), .agg #[.int .i64 n, .int .i64 d, .int .u8 p, .int .i64 a', .int .i64 u, .int .i64 t, .int .i64 x, .bool g]] w (Puts w b v (a.with_ ⟨n, d, p, a', u, t, x, g⟩)) := by
  obtain ⟨A, cap, rfl, hc1, hc2⟩ := ho.form
  have HO := Lib.hid ho
  obtain ⟨h0, h1, h2, h3, h4, h5, h6, h7, h8, h9, h10, h11⟩ := hf
  obtain ⟨g0, g1, g2, g3, _, _⟩ := hc
  dsimp only at g0 g1 g2 g3
  have hR : (a.with_ ⟨n, d, p, a', u, t, x, g⟩) = a := by
    unfold Av.with_
    dsimp only; rw [if_neg (by omega), if_neg (by omega), if_neg (by omega), if_neg (by omega), if_neg (by omega)]
  rw [hR]
  clear hR ho
  have hd7 : decide (7 ≤ p) = true := by simp; omega
  have hq7 : (p == 7) = false := by rw [beq_eq_false_iff_ne]; omega
  have hq8 : (p == 8) = false := by rw [beq_eq_false_iff_ne]; omega
  have hq9 : (p == 9) = false := by rw [beq_eq_false_iff_ne]; omega
  have hq10 : (p == 10) = false := by rw [beq_eq_false_iff_ne]; omega
  go_enter Tryz.func108, Tryz.ntmps108
  go_wp2_with (fail)
  refine (cyended_any _ _ _ _ _ _ _ _ _).mono ?_
  rintro e w1 ⟨rfl, hb1⟩
  obtain ⟨hw, y0, y1, z0, e1⟩ := box3 hb1
  have HW := Lib.hid hw
  have HO1 : Hid (Own w1 b (.slice A a.l.length cap) a.l) := HO.out.below HW.out
  rw [e1]
  clear e1 hb1 hw
  go_wp2_with (first | ((with_reducible_and_instances (show wpList _ _ _ (Oper.mk _ (Op.load 32 _) _ _ _ _ :: _) _ _)); refine wl_load Tryz.underlying32 rfl info13 rfl rfl rfl (by (repeat (first | assumption | (with_reducible refine alloc_at ?_; (focus (first | omega | (simp; done) | (simp; omega)))) | (with_reducible refine boxed_at ?_; (focus (first | omega | (simp; done) | (simp; omega)))) | (with_reducible refine alloc_old ?_ ?_; (focus (first | omega | (simp; done) | (simp; omega)))) | (with_reducible refine boxed_old ?_ ?_; (focus (first | omega | (simp; done) | (simp; omega)))) | (with_reducible refine drew_old ?_)))) (by rfl) ?_) | ((with_reducible_and_instances (show wpList _ _ _ (Oper.mk _ (Op.store 32 _ _) _ _ _ _ :: _) _ _)); refine wl_store info13 rfl rfl rfl rfl (by (repeat (first | assumption | (with_reducible refine alloc_at ?_; (focus (first | omega | (simp; done) | (simp; omega)))) | (with_reducible refine boxed_at ?_; (focus (first | omega | (simp; done) | (simp; omega)))) | (with_reducible refine alloc_old ?_ ?_; (focus (first | omega | (simp; done) | (simp; omega)))) | (with_reducible refine boxed_old ?_ ?_; (focus (first | omega | (simp; done) | (simp; omega)))) | (with_reducible refine drew_old ?_)))) (by rfl) (by rfl) (by first | exact Cv.arr_one _ | exact Nv.arr_one _ | exact Av.arr_one rfl | simp [Value.oneCell']) ?_))
  refine bodyPost_ret (results_cell_row rfl _ _ (w.heap.size+1+1) 32 _ (0, 0) _ rfl (boxed_at (by simp only [boxed_size]; omega)) Tryz.underlying32 rfl (by exact info13)) rfl ?_
  have hlt : ∀ i, Value.ownBlock (.slice A a.l.length cap) = some i → i < w.heap.size := fun i hi => (HO.out.at_ i hi).2
  exact ⟨_, rfl, (((HO1.out.boxed_new fun i hi => by have := hlt i hi; omega).boxed_new fun i hi => by have := hlt i hi; omega).boxed_new fun i hi => by have := hlt i hi; omega).boxed_new fun i hi => by have := hlt i hi; omega, below_grown (boxed_below (boxed_below (boxed_below (boxed_below HW.out (Nat.le_refl _)) (by omega)) (by omega)) (by omega)) _, .inl rfl⟩
/-- Whatever the cycle. -/
theorem with_any {w : World} {b : Nat} {v : Value} {a : Av} {m : Nat} (c : Cv) (ho : Own w b v a.l) (hb : b ≤ w.heap.size) (hs : a.l.length ≤ 1000000) (hf : a.Fit m) (hm : m ≤ 1000000) (hc : c.Fit) :
    Calls Tryz.prog 108 #[.agg (a.arr v), .agg c.arr] w (Puts w b v (a.with_ c)) := by
  obtain ⟨n, d, p, a', u, t, x, g⟩ := c
  by_cases h7 : p < 7
  · exact with_open n d p a' u t x g ho hb hs hf hm hc h7
  by_cases e7 : p = 7
  · subst e7; exact with_done n d a' u t x g ho hb hs hf hm hc
  by_cases e8 : p = 8
  · subst e8; exact with_unpaid n d a' u t x g ho hb hs hf hm hc
  by_cases e9 : p = 9
  · subst e9; exact with_refunded n d a' u t x g ho hb hs hf hm hc
  by_cases e10 : p = 10
  · subst e10; exact with_skipped n d a' u t x g ho hb hs hf hm hc
  · exact with_none n d p a' u t x g ho hb hs hf hm hc (by omega)
end Go.Proofs.YtblikgbcakgdnaaGreat
