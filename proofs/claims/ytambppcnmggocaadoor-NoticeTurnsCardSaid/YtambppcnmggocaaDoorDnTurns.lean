/-
  The walk of the law NoticeTurns: it returns true, whatever the input, and makes new blocks alone. Condition: the table holds what the program's text lays.
-/
import Derived.Test.YtambppcnmggocaaDoorDnBytes
import Derived.Laws.BitsAllLaws
namespace Go.Proofs.YtambppcnmggocaaDoor
set_option maxRecDepth 20000
open Go.ChangeShapes Go.WideShapes Go.ChangeAt Go.RowKit

/-- One byte is another one: no notice. -/
theorem seal_turn {x : Nv} (hx : x.Ok) {k : Nat} (hk : k < x.seal.length) {v : Int} (v0 : 0 ≤ v) (v1 : v < 256) (hne : v ≠ x.seal[k]) : ∀ n : Nv, n.Ok → x.seal.set k v ≠ n.seal := fun n hn he => by
  have ho := n.seal_open hn []
  rw [List.append_nil, ← he] at ho
  have hl : (x.seal.set k v).length = 16 + x.bytes.length := by rw [List.length_set, Nv.seal_len]
  rw [hl] at ho
  have hs : x.bytes.length ≤ 1048576 := by have := (x.len hx).2; omega
  rcases Sl.open1_turn (age := 0) (place := 0) (p := x.bytes) (k := k) (v := v) x.bytes_ok hs hk v0 v1 hne with ⟨er, h0, h⟩ | ⟨h4, q, m, hm, h⟩
  · rw [show x.seal = Sl.closed 0 0 x.bytes from rfl, h] at ho
    simp only [Prod.mk.injEq] at ho; omega
  · rw [show x.seal = Sl.closed 0 0 x.bytes from rfl, h] at ho
    simp only [Prod.mk.injEq] at ho; omega
/-- Cut: no notice. -/
theorem seal_cut {x : Nv} (hx : x.Ok) {j : Nat} (hj : j < x.seal.length) : ∀ n : Nv, n.Ok → x.seal.take j ≠ n.seal := fun n hn he => by
  have ho := n.seal_open hn []
  rw [List.append_nil, ← he] at ho
  have hs : x.bytes.length ≤ 1048576 := by have := (x.len hx).2; omega
  have hj' : j < 16 + x.bytes.length := by rw [Nv.seal_len] at hj; exact hj
  rw [show x.seal = Sl.closed 0 0 x.bytes from rfl, Sl.open1_cut hs hj'] at ho
  simp only [Prod.mk.injEq] at ho; omega
/-- More behind it: no notice. -/
theorem seal_more {x : Nv} (hx : x.Ok) (t : Int) : ∀ n : Nv, n.Ok → x.seal ++ [t] ≠ n.seal := fun n hn he => by
  have ho := n.seal_open hn []
  rw [List.append_nil, ← he, x.seal_open hx [t], List.length_append] at ho
  simp only [Prod.mk.injEq, List.length_cons, List.length_nil] at ho; omega
theorem xor_other {x t : Nat} (ht : t ≠ 0) : x ^^^ t ≠ x := fun h => ht (by
  have h2 : x ^^^ (x ^^^ t) = x ^^^ x := by rw [h]
  rw [← Nat.xor_assoc, Nat.xor_self, Nat.zero_xor] at h2; exact h2)

set_option maxHeartbeats 1000000 in
theorem noticeTurns_long (nn : Nv) (at_ turn cut : Int) (A : Option Addr) (n c : Nat) (hn : 60 < n) (w : World) :
    Calls Tryd.prog 4 #[.agg nn.arr, .int .u8 at_, .int .u8 turn, .int .u8 cut, .slice A n c] w fun e w' => e = .returned (.bool true) ∧ Below w.heap.size w w' := by
  have t : decide ((60 : Int) < (n : Int)) = true := by simp; omega
  clear hn
  go_enter Tryd.func4, Tryd.ntmps4
  go_wp2_with (fail)
  refine (ntawake_any _).mono ?_
  rintro e w1 ⟨rfl, hb1⟩
  go_wp2_with (fail)
  refine (ntawake_any _).mono ?_
  rintro e w2 ⟨rfl, hb2⟩
  go_wp2
  go_ret
  exact ⟨rfl, ((Below.refl _ w).alloc (Nat.le_refl _) _).trans ((hb1.trans (hb2.mono hb1.size)).mono (by simp))⟩

set_option maxHeartbeats 4000000 in
theorem noticeTurns_same (w : World) (nn : Nv) (hw : nn.Wf) (at_ cut : Nat) (turn : Int) (A : Option Addr) (n c : Nat) (p : List Int) (hr : Rd w .u8 w.heap.size A p) (hb : BytesOk p) (hm : p.length = n) (hc : n ≤ c) (hn : n ≤ 60) (ht : Lines w) (hat : at_ < 256) (hcut : cut < 256) (t0 : 0 ≤ turn) (t1 : turn < 256) (htz : turn = 0) :
    Calls Tryd.prog 4 #[.agg nn.arr, .int .u8 at_, .int .u8 turn, .int .u8 cut, .slice A n c] w fun e w' => e = .returned (.bool true) ∧ Below w.heap.size w w' := by
  have t : decide ((60 : Int) < (n : Int)) = false := by simp; omega
  have HT := Lib.hid ht
  have HRP := Lib.hid hr
  have HBP := Lib.hid hb
  have HMP := Lib.hid hm
  have HCP := Lib.hid hc
  have hn5 : n ≤ 5000 := by omega
  have HNA := Lib.hid (near_n nn hw)
  have hx := nn.nearA_ok
  generalize nn.nearA = x at *
  have HXO := Lib.hid hx
  have hle := x.len hx
  obtain ⟨m, hm⟩ : ∃ m, x.seal.length = m := ⟨_, rfl⟩
  have hm16 : 16 < m := by rw [← hm, Nv.seal_len]; omega
  have hm36 : m ≤ 36 := by rw [← hm, Nv.seal_len]; omega
  have hk : at_ % m < x.seal.length := by rw [hm]; exact Nat.mod_lt _ (by omega)
  have hj : cut % m < m := Nat.mod_lt _ (by omega)
  have hkx : (at_ : Int).tmod (m : Int) = ((at_ % m : Nat) : Int) := by rw [Int.tmod_eq_emod_of_nonneg (by omega)]; simp
  have hjx : (cut : Int).tmod (m : Int) = ((cut % m : Nat) : Int) := by rw [Int.tmod_eq_emod_of_nonneg (by omega)]; simp
  have hxb := x.seal_ok _ (List.getElem_mem hk)
  have HXB := u8_xor x.seal[at_ % m] turn hxb.1 hxb.2 t0 t1
  have hxv : x.seal[at_ % m].toNat ^^^ turn.toNat < 256 := Nat.xor_lt_two_pow (n := 8) (by omega) (by omega)
  have tt : (turn == 0) = true := by rw [htz]; rfl
  have HSET : Hid (x.seal.set (at_ % m) ((x.seal[at_ % m].toNat ^^^ turn.toNat : Nat) : Int) = x.seal) := Lib.hid (by
    rw [show turn.toNat = 0 by rw [htz]; rfl, Nat.xor_zero, show ((x.seal[at_ % m].toNat : Nat) : Int) = x.seal[at_ % m] by omega]
    exact List.set_getElem_self hk)
  have HV : Hid (∀ (mm : Nv) (e : Int), Nv.Dec (x.seal.set (at_ % m) ((x.seal[at_ % m].toNat ^^^ turn.toNat : Nat) : Int)) mm e → e = 0) := Lib.hid (fun mm e h => by
    rw [HSET.out] at h
    exact (h.is hx).2)
  have HJ : Hid (∀ (mm : Nv) (e : Int), Nv.Dec (x.seal.take (cut % m)) mm e → e = 4) := Lib.hid (fun mm e h => (h.none (seal_cut hx (by rw [hm]; exact hj))).1)
  have HG3 : Hid (∀ (mm : Nv) (e : Int), Nv.Dec (x.seal ++ [turn]) mm e → e = 4) := Lib.hid (fun mm e h => (h.none (seal_more hx turn)).1)
  have HG : Hid (x.seal[at_ % m]? = some x.seal[at_ % m]) := List.getElem?_eq_getElem hk
  have HM := Lib.hid hm
  have HBQ := Lib.hid x.seal_ok
  have HX := Lib.hid (fun w ht => nenc_n x hx w ht)
  rw [hm] at hk
  clear hm hx hle hw hr hb hc ht htz HSET
  generalize x.seal[at_ % m] = y at *
  generalize x.seal = L at *
  generalize at_ % m = k at *
  generalize cut % m = j at *
  generalize y.toNat ^^^ turn.toNat = v at *
  go_enter Tryd.func4, Tryd.ntmps4
  go_wp2_with (fail)
  refine (ntawake_any _).mono ?_
  rintro e w1 ⟨rfl, hb1⟩
  have h1 : w1.heap[w.heap.size]? = some (.cells nn.arr 23 (0, 0)) := (hb1.block _ (by simp)).trans alloc_block
  have H1 : Hid (Below w.heap.size w w1) := Lib.hid (((Below.refl _ w).alloc (Nat.le_refl _) _).trans (hb1.mono (by simp)))
  clear hb1
  go_wp2_with (first | ((with_reducible_and_instances (show wpList _ _ _ (Oper.mk _ (Op.load 23 _) _ _ _ _ :: _) _ _)); refine wl_load Tryd.underlying23 rfl info6 rfl rfl rfl (by (repeat (first | assumption | (with_reducible refine alloc_at ?_; (focus (first | omega | (simp; done) | (simp; omega)))) | (with_reducible refine boxed_at ?_; (focus (first | omega | (simp; done) | (simp; omega)))) | (with_reducible refine alloc_old ?_ ?_; (focus (first | omega | (simp; done) | (simp; omega)))) | (with_reducible refine boxed_old ?_ ?_; (focus (first | omega | (simp; done) | (simp; omega)))) | (with_reducible refine drew_old ?_)))) (by rfl) ?_) | ((with_reducible_and_instances (show wpList _ _ _ (Oper.mk _ (Op.store 23 _ _) _ _ _ _ :: _) _ _)); refine wl_store info6 rfl rfl rfl rfl (by (repeat (first | assumption | (with_reducible refine alloc_at ?_; (focus (first | omega | (simp; done) | (simp; omega)))) | (with_reducible refine boxed_at ?_; (focus (first | omega | (simp; done) | (simp; omega)))) | (with_reducible refine alloc_old ?_ ?_; (focus (first | omega | (simp; done) | (simp; omega)))) | (with_reducible refine boxed_old ?_ ?_; (focus (first | omega | (simp; done) | (simp; omega)))) | (with_reducible refine drew_old ?_)))) (by rfl) (by rfl) (by first | exact Nv.arr_one _ | simp [Value.oneCell']) ?_))
  refine (HNA.out _).mono ?_
  rintro e w2 ⟨rfl, hb2⟩
  have H2 : Hid (Below w.heap.size w w2) := Lib.hid (H1.out.trans (hb2.mono H1.out.size))
  clear hb2 h1 H1
  go_wp2_with (fail)
  refine (HX.out w2 (HT.out.below H2.out)).mono ?_
  intro e w3 hO
  obtain ⟨A3, c3, rfl, _, HB3, HR3, hc3, hc3m⟩ := hO.open_n m HM.out
  have H3 : Hid (Below w.heap.size w w3) := Lib.hid (H2.out.trans (HB3.out.mono H2.out.size))
  clear hO HB3 H2
  go_wp2_with (first | (at_builtin; refine wpList_append_rd rfl _ _ rfl rfl w3.heap.size (.slice none 0 0) [] L w3.heap.size A3 c3 rfl (by rw [HM.out]; rfl) (World.ownsRow_nil _ _ _ _) HR3.out (by rw [HM.out]; simp; omega) (Nat.le_refl _) ?_; intro v4 w4 hg4; have G4 : Hid (Grew w3 w3.heap.size (.slice none 0 0) L v4 w4) := Lib.hid hg4; clear hg4; obtain ⟨g, cap, cur, rfl, hgb, hw4, hncap, hcap, hcur, htk⟩ := own_some G4.out.own m HM.out (by omega); have hck := cur_at htk HG.out; have hgs : g < w4.heap.size := (Array.getElem?_eq_some_iff.1 hw4).1; obtain ⟨w0, rfl, hgw⟩ : ∃ w0, w4 = boxed w0 g cur 5 ∧ g < w0.heap.size := ⟨w4, boxed_self hw4, hgs⟩; clear hw4 hgs) | (rw [hkx]))
  have H35 : Hid (Below w3.heap.size w3 (boxed w0 g (cur.setIfInBounds k (.int .u8 v)) 5)) := Lib.hid (boxed_below (below_boxed G4.out.below0 hgb) hgb)
  have R5 : Hid (Rd (boxed w0 g (cur.setIfInBounds k (.int .u8 v)) 5) .u8 (boxed w0 g (cur.setIfInBounds k (.int .u8 v)) 5).heap.size (some ⟨g, 0, none⟩) (L.set k v)) := Lib.hid (rd_set hgw htk)
  have L5 : Hid ((L.set k v).length = m) := Lib.hid (by rw [List.length_set, HM.out])
  have HB5 : Hid (BytesOk (L.set k v)) := Lib.hid (fun z hz => by
    rcases List.mem_or_eq_of_mem_set hz with h | h
    · exact HBQ.out z h
    · rw [h]; omega)
  clear htk hck HG HXB hgb G4
  generalize boxed w0 g (cur.setIfInBounds k (.int .u8 v)) 5 = w5 at *
  have H5 : Hid (Below w.heap.size w w5) := Lib.hid (H3.out.trans (H35.out.mono H3.out.size))
  refine (ndec_n w5 (some ⟨g, 0, none⟩) m cap (L.set k v) (HT.out.below H5.out) R5.out (by omega) HB5.out L5.out hncap).mono ?_
  rintro e w6 ⟨m1, e1, rfl, hd, hb6⟩
  obtain rfl : e1 = 0 := HV.out m1 e1 hd
  have H36 : Hid (Below w3.heap.size w3 w6) := Lib.hid (H35.out.trans (hb6.mono H35.out.size))
  have HR6 : Hid (Rd (boxed (w6.alloc (.cells #[.int .u8 0, .int .i64 0, .int .i64 0, .int .i64 0, .int .i64 0, .int .u8 0] 23)) w6.heap.size m1.arr 23) .u8 (boxed (w6.alloc (.cells #[.int .u8 0, .int .i64 0, .int .i64 0, .int .i64 0, .int .i64 0, .int .u8 0] 23)) w6.heap.size m1.arr 23).heap.size A3 (L.take j)) := Lib.hid (((HR3.out.take j).below (H36.out.trans ((boxed_below ((Below.refl _ _).alloc (Nat.le_refl _) _) (Nat.le_refl _)).mono H36.out.size))).more (Nat.le_trans H36.out.size (by simp)))
  have H36' : Hid (Below w3.heap.size w3 (boxed (w6.alloc (.cells #[.int .u8 0, .int .i64 0, .int .i64 0, .int .i64 0, .int .i64 0, .int .u8 0] 23)) w6.heap.size m1.arr 23)) := Lib.hid (H36.out.trans ((boxed_below ((Below.refl _ _).alloc (Nat.le_refl _) _) (Nat.le_refl _)).mono H36.out.size))
  have hjc : j ≤ c3 := by omega
  have HJL : Hid ((L.take j).length = j) := Lib.hid (by rw [List.length_take, HM.out]; omega)
  clear hd hb6 R5 L5 HB5 H35 H5 HV
  go_wp2_with (first | ((with_reducible_and_instances (show wpList _ _ _ (Oper.mk _ (Op.store 23 _ _) _ _ _ _ :: _) _ _)); refine wl_store info6 rfl rfl rfl rfl (by (repeat (first | assumption | (with_reducible refine alloc_at ?_; (focus (first | omega | (simp; done) | (simp; omega)))) | (with_reducible refine boxed_at ?_; (focus (first | omega | (simp; done) | (simp; omega)))) | (with_reducible refine alloc_old ?_ ?_; (focus (first | omega | (simp; done) | (simp; omega)))) | (with_reducible refine boxed_old ?_ ?_; (focus (first | omega | (simp; done) | (simp; omega)))) | (with_reducible refine drew_old ?_)))) (by rfl) (by rfl) (by first | exact Nv.arr_one _ | simp [Value.oneCell']) ?_) | (rw [hjx]))
  refine (ndec_n _ A3 j c3 (L.take j) (HT.out.below (H3.out.trans (H36'.out.mono H3.out.size))) HR6.out (by omega) (fun z hz => HBQ.out z (List.mem_of_mem_take hz)) HJL.out hjc).mono ?_
  rintro e w7 ⟨m2, e2, rfl, hd, hb7⟩
  obtain rfl : e2 = 4 := HJ.out m2 e2 hd
  have H37 : Hid (Below w3.heap.size w3 w7) := Lib.hid (H36'.out.trans (hb7.mono H36'.out.size))
  clear hd hb7 H36' HR6 H36 HJ HJL hjx
  go_wp2_with (first | ((with_reducible_and_instances (show wpList _ _ _ (Oper.mk _ (Op.store 23 _ _) _ _ _ _ :: _) _ _)); refine wl_store info6 rfl rfl rfl rfl (by (repeat (first | assumption | (with_reducible refine alloc_at ?_; (focus (first | omega | (simp; done) | (simp; omega)))) | (with_reducible refine boxed_at ?_; (focus (first | omega | (simp; done) | (simp; omega)))) | (with_reducible refine alloc_old ?_ ?_; (focus (first | omega | (simp; done) | (simp; omega)))) | (with_reducible refine boxed_old ?_ ?_; (focus (first | omega | (simp; done) | (simp; omega)))) | (with_reducible refine drew_old ?_)))) (by rfl) (by rfl) (by first | exact Nv.arr_one _ | simp [Value.oneCell']) ?_) | (at_builtin; refine wpList_append_rd rfl _ _ rfl rfl w7.heap.size (.slice none 0 0) [] L w3.heap.size A3 c3 rfl (by rw [HM.out]; rfl) (World.ownsRow_nil _ _ _ _) (HR3.out.below (H37.out.trans ((boxed_below ((Below.refl _ _).alloc (Nat.le_refl _) _) (Nat.le_refl _)).mono H37.out.size))) (by rw [HM.out]; simp; omega) (by simp) ?_; intro v8 w8 hg8; have hb8 : Below w7.heap.size w7 w8 := (boxed_below ((Below.refl _ w7).alloc (Nat.le_refl _) _) (Nat.le_refl _)).trans (hg8.below (l0 := []) (World.ownsRow_nil _ _ _ _) (by simp)); have ho8 := Lib.hid hg8.own; have H78 := Lib.hid hb8; clear hg8 hb8) | (at_builtin; refine wpList_append_rd rfl _ _ rfl rfl w7.heap.size v8 ([] ++ L) [turn] (w8.heap.size + 1) (some ⟨w8.heap.size, 0, none⟩) 1 rfl rfl (own_kept ho8.out fun i hi => alloc_block_old (ho8.out.lt i hi).2) (rd_one w8 turn _) (by rw [List.nil_append, HM.out]; simp; omega) (by have := H78.out.size; simp; omega) ?_; intro v9 w9 hg9; have hb9 : Below w7.heap.size w7 w9 := (H78.out.trans (((Below.refl _ w8).alloc (Nat.le_refl _) _).mono H78.out.size)).trans (hg9.below (own_kept ho8.out fun i hi => alloc_block_old (ho8.out.lt i hi).2) (by have := H78.out.size; simp; omega)); obtain ⟨A9, c9, rfl, h91, h92⟩ := own_form hg9.own; have hq9 : ([] ++ L ++ [turn]).length = m + 1 := (by rw [List.nil_append, List.length_append, HM.out]; rfl); have HR9 : Hid (Rd w9 .u8 w9.heap.size A9 (L ++ [turn])) := Lib.hid (by have := Rd.own hg9.own; rwa [List.nil_append] at this); have H79 := Lib.hid hb9; rw [hq9] at h91 ⊢; clear hg9 hb9 hq9))
  have H39 : Hid (Below w3.heap.size w3 w9) := Lib.hid (H37.out.trans (H79.out.mono H37.out.size))
  refine (ndec_n w9 A9 (m + 1) c9 (L ++ [turn]) (HT.out.below (H3.out.trans (H39.out.mono H3.out.size))) HR9.out (by omega) (HBQ.out.append (fun z hz => by simp only [List.mem_cons, List.not_mem_nil, or_false] at hz; subst hz; omega)) (by rw [List.length_append, HM.out]; rfl) h91).mono ?_
  rintro e w10 ⟨m3, e3, rfl, hd, hb10⟩
  obtain rfl : e3 = 4 := HG3.out m3 e3 hd
  have H310 : Hid (Below w3.heap.size w3 (boxed (w10.alloc (.cells #[.int .u8 0, .int .i64 0, .int .i64 0, .int .i64 0, .int .i64 0, .int .u8 0] 23)) w10.heap.size m3.arr 23)) := Lib.hid ((H39.out.trans (hb10.mono H39.out.size)).trans ((boxed_below ((Below.refl _ _).alloc (Nat.le_refl _) _) (Nat.le_refl _)).mono (H39.out.trans (hb10.mono H39.out.size)).size))
  have H10 : Hid (Below w.heap.size w (boxed (w10.alloc (.cells #[.int .u8 0, .int .i64 0, .int .i64 0, .int .i64 0, .int .i64 0, .int .u8 0] 23)) w10.heap.size m3.arr 23)) := Lib.hid (H3.out.trans (H310.out.mono H3.out.size))
  clear hd hb10 H39 H79 HR9 ho8 H78 H37 HG3 HR3
  go_wp2_with (first | ((with_reducible_and_instances (show wpList _ _ _ (Oper.mk _ (Op.store 23 _ _) _ _ _ _ :: _) _ _)); refine wl_store info6 rfl rfl rfl rfl (by (repeat (first | assumption | (with_reducible refine alloc_at ?_; (focus (first | omega | (simp; done) | (simp; omega)))) | (with_reducible refine boxed_at ?_; (focus (first | omega | (simp; done) | (simp; omega)))) | (with_reducible refine alloc_old ?_ ?_; (focus (first | omega | (simp; done) | (simp; omega)))) | (with_reducible refine boxed_old ?_ ?_; (focus (first | omega | (simp; done) | (simp; omega)))) | (with_reducible refine drew_old ?_)))) (by rfl) (by rfl) (by first | exact Nv.arr_one _ | simp [Value.oneCell']) ?_))
  generalize boxed (w10.alloc (.cells #[.int .u8 0, .int .i64 0, .int .i64 0, .int .i64 0, .int .i64 0, .int .u8 0] 23)) w10.heap.size m3.arr 23 = wA at *
  refine (ndec_n wA A n c p (HT.out.below H10.out) ((HRP.out.below H10.out).more H10.out.size) hn5 HBP.out HMP.out HCP.out).mono ?_
  rintro e wB ⟨m4, e4, rfl, hd, hbB⟩
  have HB : Hid (Below w.heap.size w wB) := Lib.hid (H10.out.trans (hbB.mono H10.out.size))
  clear hbB
  refine hd.ways (fun he hmo hl => ?_) (fun he hmz => ?_)
  · subst he hl
    have HMO := Lib.hid hmo
    have HEX := Lib.hid (fun w ht => nenc_n m4 hmo w ht)
    clear hmo hd
    go_wp2_with (first | ((with_reducible_and_instances (show wpList _ _ _ (Oper.mk _ (Op.store 23 _ _) _ _ _ _ :: _) _ _)); refine wl_store info6 rfl rfl rfl rfl (by (repeat (first | assumption | (with_reducible refine alloc_at ?_; (focus (first | omega | (simp; done) | (simp; omega)))) | (with_reducible refine boxed_at ?_; (focus (first | omega | (simp; done) | (simp; omega)))) | (with_reducible refine alloc_old ?_ ?_; (focus (first | omega | (simp; done) | (simp; omega)))) | (with_reducible refine boxed_old ?_ ?_; (focus (first | omega | (simp; done) | (simp; omega)))) | (with_reducible refine drew_old ?_)))) (by rfl) (by rfl) (by first | exact Nv.arr_one _ | simp [Value.oneCell']) ?_))
    have hbx : (boxed (wB.alloc (.cells #[.int .u8 0, .int .i64 0, .int .i64 0, .int .i64 0, .int .i64 0, .int .u8 0] 23)) wB.heap.size m4.arr 23).heap[wB.heap.size]? = some (.cells m4.arr 23 (0, 0)) := by (repeat (first | assumption | (with_reducible refine alloc_at ?_; (focus (first | omega | (simp; done) | (simp; omega)))) | (with_reducible refine boxed_at ?_; (focus (first | omega | (simp; done) | (simp; omega)))) | (with_reducible refine alloc_old ?_ ?_; (focus (first | omega | (simp; done) | (simp; omega)))) | (with_reducible refine boxed_old ?_ ?_; (focus (first | omega | (simp; done) | (simp; omega)))) | (with_reducible refine drew_old ?_)))
    have HX2 : Hid (Below w.heap.size w (boxed (wB.alloc (.cells #[.int .u8 0, .int .i64 0, .int .i64 0, .int .i64 0, .int .i64 0, .int .u8 0] 23)) wB.heap.size m4.arr 23)) := Lib.hid (HB.out.trans ((boxed_below ((Below.refl _ _).alloc (Nat.le_refl _) _) (Nat.le_refl _)).mono HB.out.size))
    have zx : wB.heap.size < (boxed (wB.alloc (.cells #[.int .u8 0, .int .i64 0, .int .i64 0, .int .i64 0, .int .i64 0, .int .u8 0] 23)) wB.heap.size m4.arr 23).heap.size := by simp
    generalize (boxed (wB.alloc (.cells #[.int .u8 0, .int .i64 0, .int .i64 0, .int .i64 0, .int .i64 0, .int .u8 0] 23)) wB.heap.size m4.arr 23) = wx at *
    have HCV : Hid (∀ w', Below w.heap.size w w' → (convert 25 9 (.slice A n c)).run Tryd.prog w' = .ok (.string (bst m4.seal)) w') := Lib.hid (fun w' hw => conv_len w' A _ c n _ (HRP.out.below hw) HMP.out)
    refine lane_start (ord := [0, 1, 2, 3, 4, 5, 6, 7, 8, 9, 10, 11, 12, 13, 14, 15, 16, 17, 18, 19, 20, 21, 22, 23, 24, 25, 28, 29, 26, 27, 30, 31, 32, 33, 34]) (S := fun w' => w'.heap[wB.heap.size]? = some (.cells m4.arr 23 (0, 0)) ∧ (convert 25 9 (.slice A n c)).run Tryd.prog w' = .ok (.string (bst m4.seal)) w') rfl (by kernel_rfl) ⟨hbx, HCV.out _ HX2.out.drew⟩ (fun hHeld => ?_)
    refine lane_take (v := ?_) rfl (by kernel_rfl) (by kernel_rfl) (by rfl) ?_ (by assumption) ?_
    rotate_left
    · intro w' hSw
      obtain ⟨_, hc⟩ := hSw
      go_simp
      try (with_reducible rfl)
    simp only [Act.put, List.setIfInBounds_toArray, List.set_cons_zero, List.set_cons_succ]
    refine lane_take (v := ?_) rfl (by kernel_rfl) (by kernel_rfl) (by rfl) ?_ (by assumption) ?_
    rotate_left
    · intro w' hSw
      obtain ⟨_, hc⟩ := hSw
      go_simp
      try (with_reducible rfl)
    simp only [Act.put, List.setIfInBounds_toArray, List.set_cons_zero, List.set_cons_succ]
    refine lane_take (v := ?_) rfl (by kernel_rfl) (by kernel_rfl) (by rfl) ?_ (by assumption) ?_
    rotate_left
    · intro w' hSw
      obtain ⟨_, hc⟩ := hSw
      go_simp
      try (with_reducible rfl)
    simp only [Act.put, List.setIfInBounds_toArray, List.set_cons_zero, List.set_cons_succ]
    refine lane_take (v := ?_) rfl (by kernel_rfl) (by kernel_rfl) (by rfl) ?_ (by assumption) ?_
    rotate_left
    · intro w' hSw
      obtain ⟨_, hc⟩ := hSw
      go_simp
      try (with_reducible rfl)
    simp only [Act.put, List.setIfInBounds_toArray, List.set_cons_zero, List.set_cons_succ]
    refine lane_take (v := ?_) rfl (by kernel_rfl) (by kernel_rfl) (by rfl) ?_ (by assumption) ?_
    rotate_left
    · intro w' hSw
      obtain ⟨_, hc⟩ := hSw
      go_simp
      try (with_reducible rfl)
    simp only [Act.put, List.setIfInBounds_toArray, List.set_cons_zero, List.set_cons_succ]
    refine lane_take (v := ?_) rfl (by kernel_rfl) (by kernel_rfl) (by rfl) ?_ (by assumption) ?_
    rotate_left
    · intro w' hSw
      obtain ⟨_, hc⟩ := hSw
      go_simp
      try (with_reducible rfl)
    simp only [Act.put, List.setIfInBounds_toArray, List.set_cons_zero, List.set_cons_succ]
    refine lane_take (v := ?_) rfl (by kernel_rfl) (by kernel_rfl) (by rfl) ?_ (by assumption) ?_
    rotate_left
    · intro w' hSw
      obtain ⟨_, hc⟩ := hSw
      go_simp
      try (with_reducible rfl)
    simp only [Act.put, List.setIfInBounds_toArray, List.set_cons_zero, List.set_cons_succ]
    refine lane_take (v := ?_) rfl (by kernel_rfl) (by kernel_rfl) (by rfl) ?_ (by assumption) ?_
    rotate_left
    · intro w' hSw
      obtain ⟨_, hc⟩ := hSw
      go_simp
      try (with_reducible rfl)
    simp only [Act.put, List.setIfInBounds_toArray, List.set_cons_zero, List.set_cons_succ]
    refine lane_take (v := ?_) rfl (by kernel_rfl) (by kernel_rfl) (by rfl) ?_ (by assumption) ?_
    rotate_left
    · intro w' hSw
      obtain ⟨_, hc⟩ := hSw
      go_simp
      try (with_reducible rfl)
    simp only [Act.put, List.setIfInBounds_toArray, List.set_cons_zero, List.set_cons_succ]
    refine lane_take (v := ?_) rfl (by kernel_rfl) (by kernel_rfl) (by rfl) ?_ (by assumption) ?_
    rotate_left
    · intro w' hSw
      obtain ⟨_, hc⟩ := hSw
      go_simp
      try (with_reducible rfl)
    simp only [Act.put, List.setIfInBounds_toArray, List.set_cons_zero, List.set_cons_succ]
    refine lane_take (v := ?_) rfl (by kernel_rfl) (by kernel_rfl) (by rfl) ?_ (by assumption) ?_
    rotate_left
    · intro w' hSw
      obtain ⟨_, hc⟩ := hSw
      go_simp
      try (with_reducible rfl)
    simp only [Act.put, List.setIfInBounds_toArray, List.set_cons_zero, List.set_cons_succ]
    refine lane_take (v := ?_) rfl (by kernel_rfl) (by kernel_rfl) (by rfl) ?_ (by assumption) ?_
    rotate_left
    · intro w' hSw
      obtain ⟨_, hc⟩ := hSw
      go_simp
      try (with_reducible rfl)
    simp only [Act.put, List.setIfInBounds_toArray, List.set_cons_zero, List.set_cons_succ]
    refine lane_take (v := ?_) rfl (by kernel_rfl) (by kernel_rfl) (by rfl) ?_ (by assumption) ?_
    rotate_left
    · intro w' hSw
      obtain ⟨_, hc⟩ := hSw
      go_simp
      try (with_reducible rfl)
    simp only [Act.put, List.setIfInBounds_toArray, List.set_cons_zero, List.set_cons_succ]
    refine lane_take (v := ?_) rfl (by kernel_rfl) (by kernel_rfl) (by rfl) ?_ (by assumption) ?_
    rotate_left
    · intro w' hSw
      obtain ⟨_, hc⟩ := hSw
      go_simp
      try (with_reducible rfl)
    simp only [Act.put, List.setIfInBounds_toArray, List.set_cons_zero, List.set_cons_succ]
    refine lane_take (v := ?_) rfl (by kernel_rfl) (by kernel_rfl) (by rfl) ?_ (by assumption) ?_
    rotate_left
    · intro w' hSw
      obtain ⟨_, hc⟩ := hSw
      go_simp
      try (with_reducible rfl)
    simp only [Act.put, List.setIfInBounds_toArray, List.set_cons_zero, List.set_cons_succ]
    refine lane_take (v := ?_) rfl (by kernel_rfl) (by kernel_rfl) (by rfl) ?_ (by assumption) ?_
    rotate_left
    · intro w' hSw
      obtain ⟨_, hc⟩ := hSw
      go_simp
      try (with_reducible rfl)
    simp only [Act.put, List.setIfInBounds_toArray, List.set_cons_zero, List.set_cons_succ]
    refine lane_take (v := ?_) rfl (by kernel_rfl) (by kernel_rfl) (by rfl) ?_ (by assumption) ?_
    rotate_left
    · intro w' hSw
      obtain ⟨_, hc⟩ := hSw
      go_simp
      try (with_reducible rfl)
    simp only [Act.put, List.setIfInBounds_toArray, List.set_cons_zero, List.set_cons_succ]
    refine lane_skip rfl (by kernel_rfl) (by kernel_rfl) (by rfl) (by assumption) ?_
    simp only [Act.put, List.setIfInBounds_toArray, List.set_cons_zero, List.set_cons_succ]
    refine lane_skip rfl (by kernel_rfl) (by kernel_rfl) (by rfl) (by assumption) ?_
    simp only [Act.put, List.setIfInBounds_toArray, List.set_cons_zero, List.set_cons_succ]
    refine lane_skip rfl (by kernel_rfl) (by kernel_rfl) (by rfl) (by assumption) ?_
    simp only [Act.put, List.setIfInBounds_toArray, List.set_cons_zero, List.set_cons_succ]
    refine lane_take (v := ?_) rfl (by kernel_rfl) (by kernel_rfl) (by rfl) ?_ (by assumption) ?_
    rotate_left
    · intro w' hSw
      obtain ⟨_, hc⟩ := hSw
      go_simp
      try (with_reducible rfl)
    simp only [Act.put, List.setIfInBounds_toArray, List.set_cons_zero, List.set_cons_succ]
    refine lane_take (v := ?_) rfl (by kernel_rfl) (by kernel_rfl) (by rfl) ?_ (by assumption) ?_
    rotate_left
    · intro w' hSw
      obtain ⟨_, hc⟩ := hSw
      go_simp
      try (with_reducible rfl)
    simp only [Act.put, List.setIfInBounds_toArray, List.set_cons_zero, List.set_cons_succ]
    refine lane_take (v := ?_) rfl (by kernel_rfl) (by kernel_rfl) (by rfl) ?_ (by assumption) ?_
    rotate_left
    · intro w' hSw
      obtain ⟨_, hc⟩ := hSw
      go_simp
      try (with_reducible rfl)
    simp only [Act.put, List.setIfInBounds_toArray, List.set_cons_zero, List.set_cons_succ]
    refine lane_take (v := ?_) rfl (by kernel_rfl) (by kernel_rfl) (by rfl) ?_ (by assumption) ?_
    rotate_left
    · intro w' hSw
      obtain ⟨_, hc⟩ := hSw
      go_simp
      try (with_reducible rfl)
    simp only [Act.put, List.setIfInBounds_toArray, List.set_cons_zero, List.set_cons_succ]
    refine lane_take (v := ?_) rfl (by kernel_rfl) (by kernel_rfl) (by rfl) ?_ (by assumption) ?_
    rotate_left
    · intro w' hSw
      obtain ⟨_, hc⟩ := hSw
      go_simp
      try (with_reducible rfl)
    simp only [Act.put, List.setIfInBounds_toArray, List.set_cons_zero, List.set_cons_succ]
    refine lane_take rfl (by kernel_rfl) (by kernel_rfl) (by rfl) (fun w' hS => exec_load rfl rfl (ldn hS.1 rfl)) (by assumption) ?_
    simp only [Act.put, List.setIfInBounds_toArray, List.set_cons_zero, List.set_cons_succ]
    refine lane_take (v := ?_) rfl (by kernel_rfl) (by kernel_rfl) (by rfl) ?_ (by assumption) ?_
    rotate_left
    · intro w' hSw
      obtain ⟨_, hc⟩ := hSw
      go_simp
      try (with_reducible rfl)
    simp only [Act.put, List.setIfInBounds_toArray, List.set_cons_zero, List.set_cons_succ]
    refine lane_take (v := ?_) rfl (by kernel_rfl) (by kernel_rfl) (by rfl) ?_ (by assumption) ?_
    rotate_left
    · intro w' hSw
      obtain ⟨_, hc⟩ := hSw
      go_simp
      try (with_reducible rfl)
    simp only [Act.put, List.setIfInBounds_toArray, List.set_cons_zero, List.set_cons_succ]
    refine lane_alone rfl (by kernel_rfl) (by rfl) (fun K hK => ?_)
    go_simp
    refine (HEX.out _ (HT.out.below HX2.out.drew)).mono ?_
    intro e wa hO
    obtain ⟨Aa, na, ca, rfl, HNa, _, HBa, HRa, _, _⟩ := hO.open_
    have hba : Below wx.heap.size wx wa := ((Below.refl _ wx).drew).trans HBa.out
    have ha := (hba.block _ zx).trans hbx
    have hWa := HX2.out.trans (hba.mono HX2.out.size)
    have hcva := conv_len wa Aa _ ca na _ HRa.out HNa.out
    refine hK _ _ ⟨ha, HCV.out _ hWa⟩ (fun hHeld => ?_)
    clear hK K
    refine lane_alone rfl (by kernel_rfl) (by rfl) (fun K hK => ?_)
    go_simp
    refine hK _ _ hHeld (fun hHeld => ?_)
    clear hK K hcva
    repeat (first
      | (refine lane_skip rfl (by kernel_rfl) (by kernel_rfl) (by rfl) (by assumption) ?_; simp only [Act.put, List.setIfInBounds_toArray, List.set_cons_zero, List.set_cons_succ])
      | (refine lane_take (v := ?_) rfl (by kernel_rfl) (by kernel_rfl) (by rfl) ?_ (by assumption) ?_; rotate_left; (focus (intro w' hSw; go_simp; try (with_reducible rfl))); simp only [Act.put, List.setIfInBounds_toArray, List.set_cons_zero, List.set_cons_succ]))
    refine lane_end (by kernel_rfl) ?_
    have HF := Lib.hid (hWa)
    clear hHeld
    clear hbx ha hba hWa
    go_wp2
    go_ret
    exact ⟨rfl, HF.out⟩
  · subst he hmz
    clear hd
    go_wp2_with (first | ((with_reducible_and_instances (show wpList _ _ _ (Oper.mk _ (Op.store 23 _ _) _ _ _ _ :: _) _ _)); refine wl_store info6 rfl rfl rfl rfl (by (repeat (first | assumption | (with_reducible refine alloc_at ?_; (focus (first | omega | (simp; done) | (simp; omega)))) | (with_reducible refine boxed_at ?_; (focus (first | omega | (simp; done) | (simp; omega)))) | (with_reducible refine alloc_old ?_ ?_; (focus (first | omega | (simp; done) | (simp; omega)))) | (with_reducible refine boxed_old ?_ ?_; (focus (first | omega | (simp; done) | (simp; omega)))) | (with_reducible refine drew_old ?_)))) (by rfl) (by rfl) (by first | exact Nv.arr_one _ | simp [Value.oneCell']) ?_))
    have hbx : (boxed (wB.alloc (.cells #[.int .u8 0, .int .i64 0, .int .i64 0, .int .i64 0, .int .i64 0, .int .u8 0] 23)) wB.heap.size Nv.zero.arr 23).heap[wB.heap.size]? = some (.cells Nv.zero.arr 23 (0, 0)) := by (repeat (first | assumption | (with_reducible refine alloc_at ?_; (focus (first | omega | (simp; done) | (simp; omega)))) | (with_reducible refine boxed_at ?_; (focus (first | omega | (simp; done) | (simp; omega)))) | (with_reducible refine alloc_old ?_ ?_; (focus (first | omega | (simp; done) | (simp; omega)))) | (with_reducible refine boxed_old ?_ ?_; (focus (first | omega | (simp; done) | (simp; omega)))) | (with_reducible refine drew_old ?_)))
    have HX2 : Hid (Below w.heap.size w (boxed (wB.alloc (.cells #[.int .u8 0, .int .i64 0, .int .i64 0, .int .i64 0, .int .i64 0, .int .u8 0] 23)) wB.heap.size Nv.zero.arr 23)) := Lib.hid (HB.out.trans ((boxed_below ((Below.refl _ _).alloc (Nat.le_refl _) _) (Nat.le_refl _)).mono HB.out.size))
    have zx : wB.heap.size < (boxed (wB.alloc (.cells #[.int .u8 0, .int .i64 0, .int .i64 0, .int .i64 0, .int .i64 0, .int .u8 0] 23)) wB.heap.size Nv.zero.arr 23).heap.size := by simp
    generalize (boxed (wB.alloc (.cells #[.int .u8 0, .int .i64 0, .int .i64 0, .int .i64 0, .int .i64 0, .int .u8 0] 23)) wB.heap.size Nv.zero.arr 23) = wx at *
    refine lane_start (ord := [0, 1, 2, 3, 4, 5, 6, 7, 8, 9, 10, 11, 12, 13, 14, 15, 16, 17, 18, 19, 20, 21, 22, 23, 24, 25, 26, 27, 28, 29, 30, 31, 32, 33, 34]) (S := fun w' => w'.heap[wB.heap.size]? = some (.cells Nv.zero.arr 23 (0, 0))) rfl (by kernel_rfl) hbx (fun hHeld => ?_)
    refine lane_take (v := ?_) rfl (by kernel_rfl) (by kernel_rfl) (by rfl) ?_ (by assumption) ?_
    rotate_left
    · intro w' hSw
      go_simp
      try (with_reducible rfl)
    simp only [Act.put, List.setIfInBounds_toArray, List.set_cons_zero, List.set_cons_succ]
    refine lane_take (v := ?_) rfl (by kernel_rfl) (by kernel_rfl) (by rfl) ?_ (by assumption) ?_
    rotate_left
    · intro w' hSw
      go_simp
      try (with_reducible rfl)
    simp only [Act.put, List.setIfInBounds_toArray, List.set_cons_zero, List.set_cons_succ]
    refine lane_take (v := ?_) rfl (by kernel_rfl) (by kernel_rfl) (by rfl) ?_ (by assumption) ?_
    rotate_left
    · intro w' hSw
      go_simp
      try (with_reducible rfl)
    simp only [Act.put, List.setIfInBounds_toArray, List.set_cons_zero, List.set_cons_succ]
    refine lane_take (v := ?_) rfl (by kernel_rfl) (by kernel_rfl) (by rfl) ?_ (by assumption) ?_
    rotate_left
    · intro w' hSw
      go_simp
      try (with_reducible rfl)
    simp only [Act.put, List.setIfInBounds_toArray, List.set_cons_zero, List.set_cons_succ]
    refine lane_take (v := ?_) rfl (by kernel_rfl) (by kernel_rfl) (by rfl) ?_ (by assumption) ?_
    rotate_left
    · intro w' hSw
      go_simp
      try (with_reducible rfl)
    simp only [Act.put, List.setIfInBounds_toArray, List.set_cons_zero, List.set_cons_succ]
    refine lane_take (v := ?_) rfl (by kernel_rfl) (by kernel_rfl) (by rfl) ?_ (by assumption) ?_
    rotate_left
    · intro w' hSw
      go_simp
      try (with_reducible rfl)
    simp only [Act.put, List.setIfInBounds_toArray, List.set_cons_zero, List.set_cons_succ]
    refine lane_take (v := ?_) rfl (by kernel_rfl) (by kernel_rfl) (by rfl) ?_ (by assumption) ?_
    rotate_left
    · intro w' hSw
      go_simp
      try (with_reducible rfl)
    simp only [Act.put, List.setIfInBounds_toArray, List.set_cons_zero, List.set_cons_succ]
    refine lane_take (v := ?_) rfl (by kernel_rfl) (by kernel_rfl) (by rfl) ?_ (by assumption) ?_
    rotate_left
    · intro w' hSw
      go_simp
      try (with_reducible rfl)
    simp only [Act.put, List.setIfInBounds_toArray, List.set_cons_zero, List.set_cons_succ]
    refine lane_take (v := ?_) rfl (by kernel_rfl) (by kernel_rfl) (by rfl) ?_ (by assumption) ?_
    rotate_left
    · intro w' hSw
      go_simp
      try (with_reducible rfl)
    simp only [Act.put, List.setIfInBounds_toArray, List.set_cons_zero, List.set_cons_succ]
    refine lane_take (v := ?_) rfl (by kernel_rfl) (by kernel_rfl) (by rfl) ?_ (by assumption) ?_
    rotate_left
    · intro w' hSw
      go_simp
      try (with_reducible rfl)
    simp only [Act.put, List.setIfInBounds_toArray, List.set_cons_zero, List.set_cons_succ]
    refine lane_take (v := ?_) rfl (by kernel_rfl) (by kernel_rfl) (by rfl) ?_ (by assumption) ?_
    rotate_left
    · intro w' hSw
      go_simp
      try (with_reducible rfl)
    simp only [Act.put, List.setIfInBounds_toArray, List.set_cons_zero, List.set_cons_succ]
    refine lane_take (v := ?_) rfl (by kernel_rfl) (by kernel_rfl) (by rfl) ?_ (by assumption) ?_
    rotate_left
    · intro w' hSw
      go_simp
      try (with_reducible rfl)
    simp only [Act.put, List.setIfInBounds_toArray, List.set_cons_zero, List.set_cons_succ]
    refine lane_take (v := ?_) rfl (by kernel_rfl) (by kernel_rfl) (by rfl) ?_ (by assumption) ?_
    rotate_left
    · intro w' hSw
      go_simp
      try (with_reducible rfl)
    simp only [Act.put, List.setIfInBounds_toArray, List.set_cons_zero, List.set_cons_succ]
    refine lane_take (v := ?_) rfl (by kernel_rfl) (by kernel_rfl) (by rfl) ?_ (by assumption) ?_
    rotate_left
    · intro w' hSw
      go_simp
      try (with_reducible rfl)
    simp only [Act.put, List.setIfInBounds_toArray, List.set_cons_zero, List.set_cons_succ]
    refine lane_take (v := ?_) rfl (by kernel_rfl) (by kernel_rfl) (by rfl) ?_ (by assumption) ?_
    rotate_left
    · intro w' hSw
      go_simp
      try (with_reducible rfl)
    simp only [Act.put, List.setIfInBounds_toArray, List.set_cons_zero, List.set_cons_succ]
    refine lane_take (v := ?_) rfl (by kernel_rfl) (by kernel_rfl) (by rfl) ?_ (by assumption) ?_
    rotate_left
    · intro w' hSw
      go_simp
      try (with_reducible rfl)
    simp only [Act.put, List.setIfInBounds_toArray, List.set_cons_zero, List.set_cons_succ]
    refine lane_take (v := ?_) rfl (by kernel_rfl) (by kernel_rfl) (by rfl) ?_ (by assumption) ?_
    rotate_left
    · intro w' hSw
      go_simp
      try (with_reducible rfl)
    simp only [Act.put, List.setIfInBounds_toArray, List.set_cons_zero, List.set_cons_succ]
    refine lane_take rfl (by kernel_rfl) (by kernel_rfl) (by rfl) (fun w' hS => exec_load rfl rfl (ldn hS rfl)) (by assumption) ?_
    simp only [Act.put, List.setIfInBounds_toArray, List.set_cons_zero, List.set_cons_succ]
    refine lane_take (v := ?_) rfl (by kernel_rfl) (by kernel_rfl) (by rfl) ?_ (by assumption) ?_
    rotate_left
    · intro w' hSw
      go_simp
      try (with_reducible rfl)
    simp only [Act.put, List.setIfInBounds_toArray, List.set_cons_zero, List.set_cons_succ]
    refine lane_take rfl (by kernel_rfl) (by kernel_rfl) (by rfl) (fun w' hS => exec_eql6' (v := Nv.zero) (v' := Nv.zero) (decide_eq_true rfl) rfl rfl rfl w') (by assumption) ?_
    simp only [Act.put, List.setIfInBounds_toArray, List.set_cons_zero, List.set_cons_succ]
    repeat (first
      | (refine lane_skip rfl (by kernel_rfl) (by kernel_rfl) (by rfl) (by assumption) ?_; simp only [Act.put, List.setIfInBounds_toArray, List.set_cons_zero, List.set_cons_succ])
      | (refine lane_take (v := ?_) rfl (by kernel_rfl) (by kernel_rfl) (by rfl) ?_ (by assumption) ?_; rotate_left; (focus (intro w' hSw; go_simp; try (with_reducible rfl))); simp only [Act.put, List.setIfInBounds_toArray, List.set_cons_zero, List.set_cons_succ]))
    refine lane_end (by kernel_rfl) ?_
    have HF := Lib.hid (HX2.out.drew)
    clear hHeld
    clear hbx 
    go_wp2
    go_ret
    exact ⟨rfl, HF.out⟩

set_option maxHeartbeats 4000000 in
theorem noticeTurns_other (w : World) (nn : Nv) (hw : nn.Wf) (at_ cut : Nat) (turn : Int) (A : Option Addr) (n c : Nat) (p : List Int) (hr : Rd w .u8 w.heap.size A p) (hb : BytesOk p) (hm : p.length = n) (hc : n ≤ c) (hn : n ≤ 60) (ht : Lines w) (hat : at_ < 256) (hcut : cut < 256) (t0 : 0 ≤ turn) (t1 : turn < 256) (htz : turn ≠ 0) :
    Calls Tryd.prog 4 #[.agg nn.arr, .int .u8 at_, .int .u8 turn, .int .u8 cut, .slice A n c] w fun e w' => e = .returned (.bool true) ∧ Below w.heap.size w w' := by
  have t : decide ((60 : Int) < (n : Int)) = false := by simp; omega
  have HT := Lib.hid ht
  have HRP := Lib.hid hr
  have HBP := Lib.hid hb
  have HMP := Lib.hid hm
  have HCP := Lib.hid hc
  have hn5 : n ≤ 5000 := by omega
  have HNA := Lib.hid (near_n nn hw)
  have hx := nn.nearA_ok
  generalize nn.nearA = x at *
  have HXO := Lib.hid hx
  have hle := x.len hx
  obtain ⟨m, hm⟩ : ∃ m, x.seal.length = m := ⟨_, rfl⟩
  have hm16 : 16 < m := by rw [← hm, Nv.seal_len]; omega
  have hm36 : m ≤ 36 := by rw [← hm, Nv.seal_len]; omega
  have hk : at_ % m < x.seal.length := by rw [hm]; exact Nat.mod_lt _ (by omega)
  have hj : cut % m < m := Nat.mod_lt _ (by omega)
  have hkx : (at_ : Int).tmod (m : Int) = ((at_ % m : Nat) : Int) := by rw [Int.tmod_eq_emod_of_nonneg (by omega)]; simp
  have hjx : (cut : Int).tmod (m : Int) = ((cut % m : Nat) : Int) := by rw [Int.tmod_eq_emod_of_nonneg (by omega)]; simp
  have hxb := x.seal_ok _ (List.getElem_mem hk)
  have HXB := u8_xor x.seal[at_ % m] turn hxb.1 hxb.2 t0 t1
  have hxv : x.seal[at_ % m].toNat ^^^ turn.toNat < 256 := Nat.xor_lt_two_pow (n := 8) (by omega) (by omega)
  have tt : (turn == 0) = false := beq_eq_false_iff_ne.2 htz
  have HV : Hid (∀ (mm : Nv) (e : Int), Nv.Dec (x.seal.set (at_ % m) ((x.seal[at_ % m].toNat ^^^ turn.toNat : Nat) : Int)) mm e → e = 4) := Lib.hid (fun mm e h =>
    (h.none (seal_turn hx hk (by omega) (by omega) (by have := xor_other (x := x.seal[at_ % m].toNat) (t := turn.toNat) (by omega); omega))).1)
  have HJ : Hid (∀ (mm : Nv) (e : Int), Nv.Dec (x.seal.take (cut % m)) mm e → e = 4) := Lib.hid (fun mm e h => (h.none (seal_cut hx (by rw [hm]; exact hj))).1)
  have HG3 : Hid (∀ (mm : Nv) (e : Int), Nv.Dec (x.seal ++ [turn]) mm e → e = 4) := Lib.hid (fun mm e h => (h.none (seal_more hx turn)).1)
  have HG : Hid (x.seal[at_ % m]? = some x.seal[at_ % m]) := List.getElem?_eq_getElem hk
  have HM := Lib.hid hm
  have HBQ := Lib.hid x.seal_ok
  have HX := Lib.hid (fun w ht => nenc_n x hx w ht)
  rw [hm] at hk
  clear hm hx hle hw hr hb hc ht htz
  generalize x.seal[at_ % m] = y at *
  generalize x.seal = L at *
  generalize at_ % m = k at *
  generalize cut % m = j at *
  generalize y.toNat ^^^ turn.toNat = v at *
  go_enter Tryd.func4, Tryd.ntmps4
  go_wp2_with (fail)
  refine (ntawake_any _).mono ?_
  rintro e w1 ⟨rfl, hb1⟩
  have h1 : w1.heap[w.heap.size]? = some (.cells nn.arr 23 (0, 0)) := (hb1.block _ (by simp)).trans alloc_block
  have H1 : Hid (Below w.heap.size w w1) := Lib.hid (((Below.refl _ w).alloc (Nat.le_refl _) _).trans (hb1.mono (by simp)))
  clear hb1
  go_wp2_with (first | ((with_reducible_and_instances (show wpList _ _ _ (Oper.mk _ (Op.load 23 _) _ _ _ _ :: _) _ _)); refine wl_load Tryd.underlying23 rfl info6 rfl rfl rfl (by (repeat (first | assumption | (with_reducible refine alloc_at ?_; (focus (first | omega | (simp; done) | (simp; omega)))) | (with_reducible refine boxed_at ?_; (focus (first | omega | (simp; done) | (simp; omega)))) | (with_reducible refine alloc_old ?_ ?_; (focus (first | omega | (simp; done) | (simp; omega)))) | (with_reducible refine boxed_old ?_ ?_; (focus (first | omega | (simp; done) | (simp; omega)))) | (with_reducible refine drew_old ?_)))) (by rfl) ?_) | ((with_reducible_and_instances (show wpList _ _ _ (Oper.mk _ (Op.store 23 _ _) _ _ _ _ :: _) _ _)); refine wl_store info6 rfl rfl rfl rfl (by (repeat (first | assumption | (with_reducible refine alloc_at ?_; (focus (first | omega | (simp; done) | (simp; omega)))) | (with_reducible refine boxed_at ?_; (focus (first | omega | (simp; done) | (simp; omega)))) | (with_reducible refine alloc_old ?_ ?_; (focus (first | omega | (simp; done) | (simp; omega)))) | (with_reducible refine boxed_old ?_ ?_; (focus (first | omega | (simp; done) | (simp; omega)))) | (with_reducible refine drew_old ?_)))) (by rfl) (by rfl) (by first | exact Nv.arr_one _ | simp [Value.oneCell']) ?_))
  refine (HNA.out _).mono ?_
  rintro e w2 ⟨rfl, hb2⟩
  have H2 : Hid (Below w.heap.size w w2) := Lib.hid (H1.out.trans (hb2.mono H1.out.size))
  clear hb2 h1 H1
  go_wp2_with (fail)
  refine (HX.out w2 (HT.out.below H2.out)).mono ?_
  intro e w3 hO
  obtain ⟨A3, c3, rfl, _, HB3, HR3, hc3, hc3m⟩ := hO.open_n m HM.out
  have H3 : Hid (Below w.heap.size w w3) := Lib.hid (H2.out.trans (HB3.out.mono H2.out.size))
  clear hO HB3 H2
  go_wp2_with (first | (at_builtin; refine wpList_append_rd rfl _ _ rfl rfl w3.heap.size (.slice none 0 0) [] L w3.heap.size A3 c3 rfl (by rw [HM.out]; rfl) (World.ownsRow_nil _ _ _ _) HR3.out (by rw [HM.out]; simp; omega) (Nat.le_refl _) ?_; intro v4 w4 hg4; have G4 : Hid (Grew w3 w3.heap.size (.slice none 0 0) L v4 w4) := Lib.hid hg4; clear hg4; obtain ⟨g, cap, cur, rfl, hgb, hw4, hncap, hcap, hcur, htk⟩ := own_some G4.out.own m HM.out (by omega); have hck := cur_at htk HG.out; have hgs : g < w4.heap.size := (Array.getElem?_eq_some_iff.1 hw4).1; obtain ⟨w0, rfl, hgw⟩ : ∃ w0, w4 = boxed w0 g cur 5 ∧ g < w0.heap.size := ⟨w4, boxed_self hw4, hgs⟩; clear hw4 hgs) | (rw [hkx]))
  have H35 : Hid (Below w3.heap.size w3 (boxed w0 g (cur.setIfInBounds k (.int .u8 v)) 5)) := Lib.hid (boxed_below (below_boxed G4.out.below0 hgb) hgb)
  have R5 : Hid (Rd (boxed w0 g (cur.setIfInBounds k (.int .u8 v)) 5) .u8 (boxed w0 g (cur.setIfInBounds k (.int .u8 v)) 5).heap.size (some ⟨g, 0, none⟩) (L.set k v)) := Lib.hid (rd_set hgw htk)
  have L5 : Hid ((L.set k v).length = m) := Lib.hid (by rw [List.length_set, HM.out])
  have HB5 : Hid (BytesOk (L.set k v)) := Lib.hid (fun z hz => by
    rcases List.mem_or_eq_of_mem_set hz with h | h
    · exact HBQ.out z h
    · rw [h]; omega)
  clear htk hck HG HXB hgb G4
  generalize boxed w0 g (cur.setIfInBounds k (.int .u8 v)) 5 = w5 at *
  have H5 : Hid (Below w.heap.size w w5) := Lib.hid (H3.out.trans (H35.out.mono H3.out.size))
  refine (ndec_n w5 (some ⟨g, 0, none⟩) m cap (L.set k v) (HT.out.below H5.out) R5.out (by omega) HB5.out L5.out hncap).mono ?_
  rintro e w6 ⟨m1, e1, rfl, hd, hb6⟩
  obtain rfl : e1 = 4 := HV.out m1 e1 hd
  have H36 : Hid (Below w3.heap.size w3 w6) := Lib.hid (H35.out.trans (hb6.mono H35.out.size))
  have HR6 : Hid (Rd (boxed (w6.alloc (.cells #[.int .u8 0, .int .i64 0, .int .i64 0, .int .i64 0, .int .i64 0, .int .u8 0] 23)) w6.heap.size m1.arr 23) .u8 (boxed (w6.alloc (.cells #[.int .u8 0, .int .i64 0, .int .i64 0, .int .i64 0, .int .i64 0, .int .u8 0] 23)) w6.heap.size m1.arr 23).heap.size A3 (L.take j)) := Lib.hid (((HR3.out.take j).below (H36.out.trans ((boxed_below ((Below.refl _ _).alloc (Nat.le_refl _) _) (Nat.le_refl _)).mono H36.out.size))).more (Nat.le_trans H36.out.size (by simp)))
  have H36' : Hid (Below w3.heap.size w3 (boxed (w6.alloc (.cells #[.int .u8 0, .int .i64 0, .int .i64 0, .int .i64 0, .int .i64 0, .int .u8 0] 23)) w6.heap.size m1.arr 23)) := Lib.hid (H36.out.trans ((boxed_below ((Below.refl _ _).alloc (Nat.le_refl _) _) (Nat.le_refl _)).mono H36.out.size))
  have hjc : j ≤ c3 := by omega
  have HJL : Hid ((L.take j).length = j) := Lib.hid (by rw [List.length_take, HM.out]; omega)
  clear hd hb6 R5 L5 HB5 H35 H5 HV
  go_wp2_with (first | ((with_reducible_and_instances (show wpList _ _ _ (Oper.mk _ (Op.store 23 _ _) _ _ _ _ :: _) _ _)); refine wl_store info6 rfl rfl rfl rfl (by (repeat (first | assumption | (with_reducible refine alloc_at ?_; (focus (first | omega | (simp; done) | (simp; omega)))) | (with_reducible refine boxed_at ?_; (focus (first | omega | (simp; done) | (simp; omega)))) | (with_reducible refine alloc_old ?_ ?_; (focus (first | omega | (simp; done) | (simp; omega)))) | (with_reducible refine boxed_old ?_ ?_; (focus (first | omega | (simp; done) | (simp; omega)))) | (with_reducible refine drew_old ?_)))) (by rfl) (by rfl) (by first | exact Nv.arr_one _ | simp [Value.oneCell']) ?_) | (rw [hjx]))
  refine (ndec_n _ A3 j c3 (L.take j) (HT.out.below (H3.out.trans (H36'.out.mono H3.out.size))) HR6.out (by omega) (fun z hz => HBQ.out z (List.mem_of_mem_take hz)) HJL.out hjc).mono ?_
  rintro e w7 ⟨m2, e2, rfl, hd, hb7⟩
  obtain rfl : e2 = 4 := HJ.out m2 e2 hd
  have H37 : Hid (Below w3.heap.size w3 w7) := Lib.hid (H36'.out.trans (hb7.mono H36'.out.size))
  clear hd hb7 H36' HR6 H36 HJ HJL hjx
  go_wp2_with (first | ((with_reducible_and_instances (show wpList _ _ _ (Oper.mk _ (Op.store 23 _ _) _ _ _ _ :: _) _ _)); refine wl_store info6 rfl rfl rfl rfl (by (repeat (first | assumption | (with_reducible refine alloc_at ?_; (focus (first | omega | (simp; done) | (simp; omega)))) | (with_reducible refine boxed_at ?_; (focus (first | omega | (simp; done) | (simp; omega)))) | (with_reducible refine alloc_old ?_ ?_; (focus (first | omega | (simp; done) | (simp; omega)))) | (with_reducible refine boxed_old ?_ ?_; (focus (first | omega | (simp; done) | (simp; omega)))) | (with_reducible refine drew_old ?_)))) (by rfl) (by rfl) (by first | exact Nv.arr_one _ | simp [Value.oneCell']) ?_) | (at_builtin; refine wpList_append_rd rfl _ _ rfl rfl w7.heap.size (.slice none 0 0) [] L w3.heap.size A3 c3 rfl (by rw [HM.out]; rfl) (World.ownsRow_nil _ _ _ _) (HR3.out.below (H37.out.trans ((boxed_below ((Below.refl _ _).alloc (Nat.le_refl _) _) (Nat.le_refl _)).mono H37.out.size))) (by rw [HM.out]; simp; omega) (by simp) ?_; intro v8 w8 hg8; have hb8 : Below w7.heap.size w7 w8 := (boxed_below ((Below.refl _ w7).alloc (Nat.le_refl _) _) (Nat.le_refl _)).trans (hg8.below (l0 := []) (World.ownsRow_nil _ _ _ _) (by simp)); have ho8 := Lib.hid hg8.own; have H78 := Lib.hid hb8; clear hg8 hb8) | (at_builtin; refine wpList_append_rd rfl _ _ rfl rfl w7.heap.size v8 ([] ++ L) [turn] (w8.heap.size + 1) (some ⟨w8.heap.size, 0, none⟩) 1 rfl rfl (own_kept ho8.out fun i hi => alloc_block_old (ho8.out.lt i hi).2) (rd_one w8 turn _) (by rw [List.nil_append, HM.out]; simp; omega) (by have := H78.out.size; simp; omega) ?_; intro v9 w9 hg9; have hb9 : Below w7.heap.size w7 w9 := (H78.out.trans (((Below.refl _ w8).alloc (Nat.le_refl _) _).mono H78.out.size)).trans (hg9.below (own_kept ho8.out fun i hi => alloc_block_old (ho8.out.lt i hi).2) (by have := H78.out.size; simp; omega)); obtain ⟨A9, c9, rfl, h91, h92⟩ := own_form hg9.own; have hq9 : ([] ++ L ++ [turn]).length = m + 1 := (by rw [List.nil_append, List.length_append, HM.out]; rfl); have HR9 : Hid (Rd w9 .u8 w9.heap.size A9 (L ++ [turn])) := Lib.hid (by have := Rd.own hg9.own; rwa [List.nil_append] at this); have H79 := Lib.hid hb9; rw [hq9] at h91 ⊢; clear hg9 hb9 hq9))
  have H39 : Hid (Below w3.heap.size w3 w9) := Lib.hid (H37.out.trans (H79.out.mono H37.out.size))
  refine (ndec_n w9 A9 (m + 1) c9 (L ++ [turn]) (HT.out.below (H3.out.trans (H39.out.mono H3.out.size))) HR9.out (by omega) (HBQ.out.append (fun z hz => by simp only [List.mem_cons, List.not_mem_nil, or_false] at hz; subst hz; omega)) (by rw [List.length_append, HM.out]; rfl) h91).mono ?_
  rintro e w10 ⟨m3, e3, rfl, hd, hb10⟩
  obtain rfl : e3 = 4 := HG3.out m3 e3 hd
  have H310 : Hid (Below w3.heap.size w3 (boxed (w10.alloc (.cells #[.int .u8 0, .int .i64 0, .int .i64 0, .int .i64 0, .int .i64 0, .int .u8 0] 23)) w10.heap.size m3.arr 23)) := Lib.hid ((H39.out.trans (hb10.mono H39.out.size)).trans ((boxed_below ((Below.refl _ _).alloc (Nat.le_refl _) _) (Nat.le_refl _)).mono (H39.out.trans (hb10.mono H39.out.size)).size))
  have H10 : Hid (Below w.heap.size w (boxed (w10.alloc (.cells #[.int .u8 0, .int .i64 0, .int .i64 0, .int .i64 0, .int .i64 0, .int .u8 0] 23)) w10.heap.size m3.arr 23)) := Lib.hid (H3.out.trans (H310.out.mono H3.out.size))
  clear hd hb10 H39 H79 HR9 ho8 H78 H37 HG3 HR3
  go_wp2_with (first | ((with_reducible_and_instances (show wpList _ _ _ (Oper.mk _ (Op.store 23 _ _) _ _ _ _ :: _) _ _)); refine wl_store info6 rfl rfl rfl rfl (by (repeat (first | assumption | (with_reducible refine alloc_at ?_; (focus (first | omega | (simp; done) | (simp; omega)))) | (with_reducible refine boxed_at ?_; (focus (first | omega | (simp; done) | (simp; omega)))) | (with_reducible refine alloc_old ?_ ?_; (focus (first | omega | (simp; done) | (simp; omega)))) | (with_reducible refine boxed_old ?_ ?_; (focus (first | omega | (simp; done) | (simp; omega)))) | (with_reducible refine drew_old ?_)))) (by rfl) (by rfl) (by first | exact Nv.arr_one _ | simp [Value.oneCell']) ?_))
  generalize boxed (w10.alloc (.cells #[.int .u8 0, .int .i64 0, .int .i64 0, .int .i64 0, .int .i64 0, .int .u8 0] 23)) w10.heap.size m3.arr 23 = wA at *
  refine (ndec_n wA A n c p (HT.out.below H10.out) ((HRP.out.below H10.out).more H10.out.size) hn5 HBP.out HMP.out HCP.out).mono ?_
  rintro e wB ⟨m4, e4, rfl, hd, hbB⟩
  have HB : Hid (Below w.heap.size w wB) := Lib.hid (H10.out.trans (hbB.mono H10.out.size))
  clear hbB
  refine hd.ways (fun he hmo hl => ?_) (fun he hmz => ?_)
  · subst he hl
    have HMO := Lib.hid hmo
    have HEX := Lib.hid (fun w ht => nenc_n m4 hmo w ht)
    clear hmo hd
    go_wp2_with (first | ((with_reducible_and_instances (show wpList _ _ _ (Oper.mk _ (Op.store 23 _ _) _ _ _ _ :: _) _ _)); refine wl_store info6 rfl rfl rfl rfl (by (repeat (first | assumption | (with_reducible refine alloc_at ?_; (focus (first | omega | (simp; done) | (simp; omega)))) | (with_reducible refine boxed_at ?_; (focus (first | omega | (simp; done) | (simp; omega)))) | (with_reducible refine alloc_old ?_ ?_; (focus (first | omega | (simp; done) | (simp; omega)))) | (with_reducible refine boxed_old ?_ ?_; (focus (first | omega | (simp; done) | (simp; omega)))) | (with_reducible refine drew_old ?_)))) (by rfl) (by rfl) (by first | exact Nv.arr_one _ | simp [Value.oneCell']) ?_))
    have hbx : (boxed (wB.alloc (.cells #[.int .u8 0, .int .i64 0, .int .i64 0, .int .i64 0, .int .i64 0, .int .u8 0] 23)) wB.heap.size m4.arr 23).heap[wB.heap.size]? = some (.cells m4.arr 23 (0, 0)) := by (repeat (first | assumption | (with_reducible refine alloc_at ?_; (focus (first | omega | (simp; done) | (simp; omega)))) | (with_reducible refine boxed_at ?_; (focus (first | omega | (simp; done) | (simp; omega)))) | (with_reducible refine alloc_old ?_ ?_; (focus (first | omega | (simp; done) | (simp; omega)))) | (with_reducible refine boxed_old ?_ ?_; (focus (first | omega | (simp; done) | (simp; omega)))) | (with_reducible refine drew_old ?_)))
    have HX2 : Hid (Below w.heap.size w (boxed (wB.alloc (.cells #[.int .u8 0, .int .i64 0, .int .i64 0, .int .i64 0, .int .i64 0, .int .u8 0] 23)) wB.heap.size m4.arr 23)) := Lib.hid (HB.out.trans ((boxed_below ((Below.refl _ _).alloc (Nat.le_refl _) _) (Nat.le_refl _)).mono HB.out.size))
    have zx : wB.heap.size < (boxed (wB.alloc (.cells #[.int .u8 0, .int .i64 0, .int .i64 0, .int .i64 0, .int .i64 0, .int .u8 0] 23)) wB.heap.size m4.arr 23).heap.size := by simp
    generalize (boxed (wB.alloc (.cells #[.int .u8 0, .int .i64 0, .int .i64 0, .int .i64 0, .int .i64 0, .int .u8 0] 23)) wB.heap.size m4.arr 23) = wx at *
    have HCV : Hid (∀ w', Below w.heap.size w w' → (convert 25 9 (.slice A n c)).run Tryd.prog w' = .ok (.string (bst m4.seal)) w') := Lib.hid (fun w' hw => conv_len w' A _ c n _ (HRP.out.below hw) HMP.out)
    refine lane_start (ord := [0, 1, 2, 3, 4, 5, 6, 7, 8, 9, 10, 11, 12, 13, 14, 15, 16, 17, 18, 19, 20, 21, 22, 23, 24, 25, 28, 29, 26, 27, 30, 31, 32, 33, 34]) (S := fun w' => w'.heap[wB.heap.size]? = some (.cells m4.arr 23 (0, 0)) ∧ (convert 25 9 (.slice A n c)).run Tryd.prog w' = .ok (.string (bst m4.seal)) w') rfl (by kernel_rfl) ⟨hbx, HCV.out _ HX2.out.drew⟩ (fun hHeld => ?_)
    refine lane_take (v := ?_) rfl (by kernel_rfl) (by kernel_rfl) (by rfl) ?_ (by assumption) ?_
    rotate_left
    · intro w' hSw
      obtain ⟨_, hc⟩ := hSw
      go_simp
      try (with_reducible rfl)
    simp only [Act.put, List.setIfInBounds_toArray, List.set_cons_zero, List.set_cons_succ]
    refine lane_take (v := ?_) rfl (by kernel_rfl) (by kernel_rfl) (by rfl) ?_ (by assumption) ?_
    rotate_left
    · intro w' hSw
      obtain ⟨_, hc⟩ := hSw
      go_simp
      try (with_reducible rfl)
    simp only [Act.put, List.setIfInBounds_toArray, List.set_cons_zero, List.set_cons_succ]
    refine lane_take (v := ?_) rfl (by kernel_rfl) (by kernel_rfl) (by rfl) ?_ (by assumption) ?_
    rotate_left
    · intro w' hSw
      obtain ⟨_, hc⟩ := hSw
      go_simp
      try (with_reducible rfl)
    simp only [Act.put, List.setIfInBounds_toArray, List.set_cons_zero, List.set_cons_succ]
    refine lane_take (v := ?_) rfl (by kernel_rfl) (by kernel_rfl) (by rfl) ?_ (by assumption) ?_
    rotate_left
    · intro w' hSw
      obtain ⟨_, hc⟩ := hSw
      go_simp
      try (with_reducible rfl)
    simp only [Act.put, List.setIfInBounds_toArray, List.set_cons_zero, List.set_cons_succ]
    refine lane_take (v := ?_) rfl (by kernel_rfl) (by kernel_rfl) (by rfl) ?_ (by assumption) ?_
    rotate_left
    · intro w' hSw
      obtain ⟨_, hc⟩ := hSw
      go_simp
      try (with_reducible rfl)
    simp only [Act.put, List.setIfInBounds_toArray, List.set_cons_zero, List.set_cons_succ]
    refine lane_take (v := ?_) rfl (by kernel_rfl) (by kernel_rfl) (by rfl) ?_ (by assumption) ?_
    rotate_left
    · intro w' hSw
      obtain ⟨_, hc⟩ := hSw
      go_simp
      try (with_reducible rfl)
    simp only [Act.put, List.setIfInBounds_toArray, List.set_cons_zero, List.set_cons_succ]
    refine lane_take (v := ?_) rfl (by kernel_rfl) (by kernel_rfl) (by rfl) ?_ (by assumption) ?_
    rotate_left
    · intro w' hSw
      obtain ⟨_, hc⟩ := hSw
      go_simp
      try (with_reducible rfl)
    simp only [Act.put, List.setIfInBounds_toArray, List.set_cons_zero, List.set_cons_succ]
    refine lane_take (v := ?_) rfl (by kernel_rfl) (by kernel_rfl) (by rfl) ?_ (by assumption) ?_
    rotate_left
    · intro w' hSw
      obtain ⟨_, hc⟩ := hSw
      go_simp
      try (with_reducible rfl)
    simp only [Act.put, List.setIfInBounds_toArray, List.set_cons_zero, List.set_cons_succ]
    refine lane_take (v := ?_) rfl (by kernel_rfl) (by kernel_rfl) (by rfl) ?_ (by assumption) ?_
    rotate_left
    · intro w' hSw
      obtain ⟨_, hc⟩ := hSw
      go_simp
      try (with_reducible rfl)
    simp only [Act.put, List.setIfInBounds_toArray, List.set_cons_zero, List.set_cons_succ]
    refine lane_take (v := ?_) rfl (by kernel_rfl) (by kernel_rfl) (by rfl) ?_ (by assumption) ?_
    rotate_left
    · intro w' hSw
      obtain ⟨_, hc⟩ := hSw
      go_simp
      try (with_reducible rfl)
    simp only [Act.put, List.setIfInBounds_toArray, List.set_cons_zero, List.set_cons_succ]
    refine lane_take (v := ?_) rfl (by kernel_rfl) (by kernel_rfl) (by rfl) ?_ (by assumption) ?_
    rotate_left
    · intro w' hSw
      obtain ⟨_, hc⟩ := hSw
      go_simp
      try (with_reducible rfl)
    simp only [Act.put, List.setIfInBounds_toArray, List.set_cons_zero, List.set_cons_succ]
    refine lane_take (v := ?_) rfl (by kernel_rfl) (by kernel_rfl) (by rfl) ?_ (by assumption) ?_
    rotate_left
    · intro w' hSw
      obtain ⟨_, hc⟩ := hSw
      go_simp
      try (with_reducible rfl)
    simp only [Act.put, List.setIfInBounds_toArray, List.set_cons_zero, List.set_cons_succ]
    refine lane_take (v := ?_) rfl (by kernel_rfl) (by kernel_rfl) (by rfl) ?_ (by assumption) ?_
    rotate_left
    · intro w' hSw
      obtain ⟨_, hc⟩ := hSw
      go_simp
      try (with_reducible rfl)
    simp only [Act.put, List.setIfInBounds_toArray, List.set_cons_zero, List.set_cons_succ]
    refine lane_take (v := ?_) rfl (by kernel_rfl) (by kernel_rfl) (by rfl) ?_ (by assumption) ?_
    rotate_left
    · intro w' hSw
      obtain ⟨_, hc⟩ := hSw
      go_simp
      try (with_reducible rfl)
    simp only [Act.put, List.setIfInBounds_toArray, List.set_cons_zero, List.set_cons_succ]
    refine lane_take (v := ?_) rfl (by kernel_rfl) (by kernel_rfl) (by rfl) ?_ (by assumption) ?_
    rotate_left
    · intro w' hSw
      obtain ⟨_, hc⟩ := hSw
      go_simp
      try (with_reducible rfl)
    simp only [Act.put, List.setIfInBounds_toArray, List.set_cons_zero, List.set_cons_succ]
    refine lane_take (v := ?_) rfl (by kernel_rfl) (by kernel_rfl) (by rfl) ?_ (by assumption) ?_
    rotate_left
    · intro w' hSw
      obtain ⟨_, hc⟩ := hSw
      go_simp
      try (with_reducible rfl)
    simp only [Act.put, List.setIfInBounds_toArray, List.set_cons_zero, List.set_cons_succ]
    refine lane_take (v := ?_) rfl (by kernel_rfl) (by kernel_rfl) (by rfl) ?_ (by assumption) ?_
    rotate_left
    · intro w' hSw
      obtain ⟨_, hc⟩ := hSw
      go_simp
      try (with_reducible rfl)
    simp only [Act.put, List.setIfInBounds_toArray, List.set_cons_zero, List.set_cons_succ]
    refine lane_skip rfl (by kernel_rfl) (by kernel_rfl) (by rfl) (by assumption) ?_
    simp only [Act.put, List.setIfInBounds_toArray, List.set_cons_zero, List.set_cons_succ]
    refine lane_skip rfl (by kernel_rfl) (by kernel_rfl) (by rfl) (by assumption) ?_
    simp only [Act.put, List.setIfInBounds_toArray, List.set_cons_zero, List.set_cons_succ]
    refine lane_skip rfl (by kernel_rfl) (by kernel_rfl) (by rfl) (by assumption) ?_
    simp only [Act.put, List.setIfInBounds_toArray, List.set_cons_zero, List.set_cons_succ]
    refine lane_take (v := ?_) rfl (by kernel_rfl) (by kernel_rfl) (by rfl) ?_ (by assumption) ?_
    rotate_left
    · intro w' hSw
      obtain ⟨_, hc⟩ := hSw
      go_simp
      try (with_reducible rfl)
    simp only [Act.put, List.setIfInBounds_toArray, List.set_cons_zero, List.set_cons_succ]
    refine lane_take (v := ?_) rfl (by kernel_rfl) (by kernel_rfl) (by rfl) ?_ (by assumption) ?_
    rotate_left
    · intro w' hSw
      obtain ⟨_, hc⟩ := hSw
      go_simp
      try (with_reducible rfl)
    simp only [Act.put, List.setIfInBounds_toArray, List.set_cons_zero, List.set_cons_succ]
    refine lane_take (v := ?_) rfl (by kernel_rfl) (by kernel_rfl) (by rfl) ?_ (by assumption) ?_
    rotate_left
    · intro w' hSw
      obtain ⟨_, hc⟩ := hSw
      go_simp
      try (with_reducible rfl)
    simp only [Act.put, List.setIfInBounds_toArray, List.set_cons_zero, List.set_cons_succ]
    refine lane_take (v := ?_) rfl (by kernel_rfl) (by kernel_rfl) (by rfl) ?_ (by assumption) ?_
    rotate_left
    · intro w' hSw
      obtain ⟨_, hc⟩ := hSw
      go_simp
      try (with_reducible rfl)
    simp only [Act.put, List.setIfInBounds_toArray, List.set_cons_zero, List.set_cons_succ]
    refine lane_take (v := ?_) rfl (by kernel_rfl) (by kernel_rfl) (by rfl) ?_ (by assumption) ?_
    rotate_left
    · intro w' hSw
      obtain ⟨_, hc⟩ := hSw
      go_simp
      try (with_reducible rfl)
    simp only [Act.put, List.setIfInBounds_toArray, List.set_cons_zero, List.set_cons_succ]
    refine lane_take rfl (by kernel_rfl) (by kernel_rfl) (by rfl) (fun w' hS => exec_load rfl rfl (ldn hS.1 rfl)) (by assumption) ?_
    simp only [Act.put, List.setIfInBounds_toArray, List.set_cons_zero, List.set_cons_succ]
    refine lane_take (v := ?_) rfl (by kernel_rfl) (by kernel_rfl) (by rfl) ?_ (by assumption) ?_
    rotate_left
    · intro w' hSw
      obtain ⟨_, hc⟩ := hSw
      go_simp
      try (with_reducible rfl)
    simp only [Act.put, List.setIfInBounds_toArray, List.set_cons_zero, List.set_cons_succ]
    refine lane_take (v := ?_) rfl (by kernel_rfl) (by kernel_rfl) (by rfl) ?_ (by assumption) ?_
    rotate_left
    · intro w' hSw
      obtain ⟨_, hc⟩ := hSw
      go_simp
      try (with_reducible rfl)
    simp only [Act.put, List.setIfInBounds_toArray, List.set_cons_zero, List.set_cons_succ]
    refine lane_alone rfl (by kernel_rfl) (by rfl) (fun K hK => ?_)
    go_simp
    refine (HEX.out _ (HT.out.below HX2.out.drew)).mono ?_
    intro e wa hO
    obtain ⟨Aa, na, ca, rfl, HNa, _, HBa, HRa, _, _⟩ := hO.open_
    have hba : Below wx.heap.size wx wa := ((Below.refl _ wx).drew).trans HBa.out
    have ha := (hba.block _ zx).trans hbx
    have hWa := HX2.out.trans (hba.mono HX2.out.size)
    have hcva := conv_len wa Aa _ ca na _ HRa.out HNa.out
    refine hK _ _ ⟨ha, HCV.out _ hWa⟩ (fun hHeld => ?_)
    clear hK K
    refine lane_alone rfl (by kernel_rfl) (by rfl) (fun K hK => ?_)
    go_simp
    refine hK _ _ hHeld (fun hHeld => ?_)
    clear hK K hcva
    repeat (first
      | (refine lane_skip rfl (by kernel_rfl) (by kernel_rfl) (by rfl) (by assumption) ?_; simp only [Act.put, List.setIfInBounds_toArray, List.set_cons_zero, List.set_cons_succ])
      | (refine lane_take (v := ?_) rfl (by kernel_rfl) (by kernel_rfl) (by rfl) ?_ (by assumption) ?_; rotate_left; (focus (intro w' hSw; go_simp; try (with_reducible rfl))); simp only [Act.put, List.setIfInBounds_toArray, List.set_cons_zero, List.set_cons_succ]))
    refine lane_end (by kernel_rfl) ?_
    have HF := Lib.hid (hWa)
    clear hHeld
    clear hbx ha hba hWa
    go_wp2
    go_ret
    exact ⟨rfl, HF.out⟩
  · subst he hmz
    clear hd
    go_wp2_with (first | ((with_reducible_and_instances (show wpList _ _ _ (Oper.mk _ (Op.store 23 _ _) _ _ _ _ :: _) _ _)); refine wl_store info6 rfl rfl rfl rfl (by (repeat (first | assumption | (with_reducible refine alloc_at ?_; (focus (first | omega | (simp; done) | (simp; omega)))) | (with_reducible refine boxed_at ?_; (focus (first | omega | (simp; done) | (simp; omega)))) | (with_reducible refine alloc_old ?_ ?_; (focus (first | omega | (simp; done) | (simp; omega)))) | (with_reducible refine boxed_old ?_ ?_; (focus (first | omega | (simp; done) | (simp; omega)))) | (with_reducible refine drew_old ?_)))) (by rfl) (by rfl) (by first | exact Nv.arr_one _ | simp [Value.oneCell']) ?_))
    have hbx : (boxed (wB.alloc (.cells #[.int .u8 0, .int .i64 0, .int .i64 0, .int .i64 0, .int .i64 0, .int .u8 0] 23)) wB.heap.size Nv.zero.arr 23).heap[wB.heap.size]? = some (.cells Nv.zero.arr 23 (0, 0)) := by (repeat (first | assumption | (with_reducible refine alloc_at ?_; (focus (first | omega | (simp; done) | (simp; omega)))) | (with_reducible refine boxed_at ?_; (focus (first | omega | (simp; done) | (simp; omega)))) | (with_reducible refine alloc_old ?_ ?_; (focus (first | omega | (simp; done) | (simp; omega)))) | (with_reducible refine boxed_old ?_ ?_; (focus (first | omega | (simp; done) | (simp; omega)))) | (with_reducible refine drew_old ?_)))
    have HX2 : Hid (Below w.heap.size w (boxed (wB.alloc (.cells #[.int .u8 0, .int .i64 0, .int .i64 0, .int .i64 0, .int .i64 0, .int .u8 0] 23)) wB.heap.size Nv.zero.arr 23)) := Lib.hid (HB.out.trans ((boxed_below ((Below.refl _ _).alloc (Nat.le_refl _) _) (Nat.le_refl _)).mono HB.out.size))
    have zx : wB.heap.size < (boxed (wB.alloc (.cells #[.int .u8 0, .int .i64 0, .int .i64 0, .int .i64 0, .int .i64 0, .int .u8 0] 23)) wB.heap.size Nv.zero.arr 23).heap.size := by simp
    generalize (boxed (wB.alloc (.cells #[.int .u8 0, .int .i64 0, .int .i64 0, .int .i64 0, .int .i64 0, .int .u8 0] 23)) wB.heap.size Nv.zero.arr 23) = wx at *
    refine lane_start (ord := [0, 1, 2, 3, 4, 5, 6, 7, 8, 9, 10, 11, 12, 13, 14, 15, 16, 17, 18, 19, 20, 21, 22, 23, 24, 25, 26, 27, 28, 29, 30, 31, 32, 33, 34]) (S := fun w' => w'.heap[wB.heap.size]? = some (.cells Nv.zero.arr 23 (0, 0))) rfl (by kernel_rfl) hbx (fun hHeld => ?_)
    refine lane_take (v := ?_) rfl (by kernel_rfl) (by kernel_rfl) (by rfl) ?_ (by assumption) ?_
    rotate_left
    · intro w' hSw
      go_simp
      try (with_reducible rfl)
    simp only [Act.put, List.setIfInBounds_toArray, List.set_cons_zero, List.set_cons_succ]
    refine lane_take (v := ?_) rfl (by kernel_rfl) (by kernel_rfl) (by rfl) ?_ (by assumption) ?_
    rotate_left
    · intro w' hSw
      go_simp
      try (with_reducible rfl)
    simp only [Act.put, List.setIfInBounds_toArray, List.set_cons_zero, List.set_cons_succ]
    refine lane_take (v := ?_) rfl (by kernel_rfl) (by kernel_rfl) (by rfl) ?_ (by assumption) ?_
    rotate_left
    · intro w' hSw
      go_simp
      try (with_reducible rfl)
    simp only [Act.put, List.setIfInBounds_toArray, List.set_cons_zero, List.set_cons_succ]
    refine lane_take (v := ?_) rfl (by kernel_rfl) (by kernel_rfl) (by rfl) ?_ (by assumption) ?_
    rotate_left
    · intro w' hSw
      go_simp
      try (with_reducible rfl)
    simp only [Act.put, List.setIfInBounds_toArray, List.set_cons_zero, List.set_cons_succ]
    refine lane_take (v := ?_) rfl (by kernel_rfl) (by kernel_rfl) (by rfl) ?_ (by assumption) ?_
    rotate_left
    · intro w' hSw
      go_simp
      try (with_reducible rfl)
    simp only [Act.put, List.setIfInBounds_toArray, List.set_cons_zero, List.set_cons_succ]
    refine lane_take (v := ?_) rfl (by kernel_rfl) (by kernel_rfl) (by rfl) ?_ (by assumption) ?_
    rotate_left
    · intro w' hSw
      go_simp
      try (with_reducible rfl)
    simp only [Act.put, List.setIfInBounds_toArray, List.set_cons_zero, List.set_cons_succ]
    refine lane_take (v := ?_) rfl (by kernel_rfl) (by kernel_rfl) (by rfl) ?_ (by assumption) ?_
    rotate_left
    · intro w' hSw
      go_simp
      try (with_reducible rfl)
    simp only [Act.put, List.setIfInBounds_toArray, List.set_cons_zero, List.set_cons_succ]
    refine lane_take (v := ?_) rfl (by kernel_rfl) (by kernel_rfl) (by rfl) ?_ (by assumption) ?_
    rotate_left
    · intro w' hSw
      go_simp
      try (with_reducible rfl)
    simp only [Act.put, List.setIfInBounds_toArray, List.set_cons_zero, List.set_cons_succ]
    refine lane_take (v := ?_) rfl (by kernel_rfl) (by kernel_rfl) (by rfl) ?_ (by assumption) ?_
    rotate_left
    · intro w' hSw
      go_simp
      try (with_reducible rfl)
    simp only [Act.put, List.setIfInBounds_toArray, List.set_cons_zero, List.set_cons_succ]
    refine lane_take (v := ?_) rfl (by kernel_rfl) (by kernel_rfl) (by rfl) ?_ (by assumption) ?_
    rotate_left
    · intro w' hSw
      go_simp
      try (with_reducible rfl)
    simp only [Act.put, List.setIfInBounds_toArray, List.set_cons_zero, List.set_cons_succ]
    refine lane_take (v := ?_) rfl (by kernel_rfl) (by kernel_rfl) (by rfl) ?_ (by assumption) ?_
    rotate_left
    · intro w' hSw
      go_simp
      try (with_reducible rfl)
    simp only [Act.put, List.setIfInBounds_toArray, List.set_cons_zero, List.set_cons_succ]
    refine lane_take (v := ?_) rfl (by kernel_rfl) (by kernel_rfl) (by rfl) ?_ (by assumption) ?_
    rotate_left
    · intro w' hSw
      go_simp
      try (with_reducible rfl)
    simp only [Act.put, List.setIfInBounds_toArray, List.set_cons_zero, List.set_cons_succ]
    refine lane_take (v := ?_) rfl (by kernel_rfl) (by kernel_rfl) (by rfl) ?_ (by assumption) ?_
    rotate_left
    · intro w' hSw
      go_simp
      try (with_reducible rfl)
    simp only [Act.put, List.setIfInBounds_toArray, List.set_cons_zero, List.set_cons_succ]
    refine lane_take (v := ?_) rfl (by kernel_rfl) (by kernel_rfl) (by rfl) ?_ (by assumption) ?_
    rotate_left
    · intro w' hSw
      go_simp
      try (with_reducible rfl)
    simp only [Act.put, List.setIfInBounds_toArray, List.set_cons_zero, List.set_cons_succ]
    refine lane_take (v := ?_) rfl (by kernel_rfl) (by kernel_rfl) (by rfl) ?_ (by assumption) ?_
    rotate_left
    · intro w' hSw
      go_simp
      try (with_reducible rfl)
    simp only [Act.put, List.setIfInBounds_toArray, List.set_cons_zero, List.set_cons_succ]
    refine lane_take (v := ?_) rfl (by kernel_rfl) (by kernel_rfl) (by rfl) ?_ (by assumption) ?_
    rotate_left
    · intro w' hSw
      go_simp
      try (with_reducible rfl)
    simp only [Act.put, List.setIfInBounds_toArray, List.set_cons_zero, List.set_cons_succ]
    refine lane_take (v := ?_) rfl (by kernel_rfl) (by kernel_rfl) (by rfl) ?_ (by assumption) ?_
    rotate_left
    · intro w' hSw
      go_simp
      try (with_reducible rfl)
    simp only [Act.put, List.setIfInBounds_toArray, List.set_cons_zero, List.set_cons_succ]
    refine lane_take rfl (by kernel_rfl) (by kernel_rfl) (by rfl) (fun w' hS => exec_load rfl rfl (ldn hS rfl)) (by assumption) ?_
    simp only [Act.put, List.setIfInBounds_toArray, List.set_cons_zero, List.set_cons_succ]
    refine lane_take (v := ?_) rfl (by kernel_rfl) (by kernel_rfl) (by rfl) ?_ (by assumption) ?_
    rotate_left
    · intro w' hSw
      go_simp
      try (with_reducible rfl)
    simp only [Act.put, List.setIfInBounds_toArray, List.set_cons_zero, List.set_cons_succ]
    refine lane_take rfl (by kernel_rfl) (by kernel_rfl) (by rfl) (fun w' hS => exec_eql6' (v := Nv.zero) (v' := Nv.zero) (decide_eq_true rfl) rfl rfl rfl w') (by assumption) ?_
    simp only [Act.put, List.setIfInBounds_toArray, List.set_cons_zero, List.set_cons_succ]
    repeat (first
      | (refine lane_skip rfl (by kernel_rfl) (by kernel_rfl) (by rfl) (by assumption) ?_; simp only [Act.put, List.setIfInBounds_toArray, List.set_cons_zero, List.set_cons_succ])
      | (refine lane_take (v := ?_) rfl (by kernel_rfl) (by kernel_rfl) (by rfl) ?_ (by assumption) ?_; rotate_left; (focus (intro w' hSw; go_simp; try (with_reducible rfl))); simp only [Act.put, List.setIfInBounds_toArray, List.set_cons_zero, List.set_cons_succ]))
    refine lane_end (by kernel_rfl) ?_
    have HF := Lib.hid (HX2.out.drew)
    clear hHeld
    clear hbx 
    go_wp2
    go_ret
    exact ⟨rfl, HF.out⟩

theorem noticeTurns_walk (w : World) (K S C T M V : Int) (h : (⟨K, S, C, T, M, V⟩ : Nv).Wf) (at_ : Int) (wa : (Lit.int .u8 at_).wf = true) (turn : Int) (wt : (Lit.int .u8 turn).wf = true) (cut : Int) (wc : (Lit.int .u8 cut).wf = true) (A : Option Addr) (c : Nat) (p : List Int) (hc : p.length ≤ c) (hr : Rd w .u8 w.heap.size A p) (hb : ∀ x ∈ p, (Lit.int .u8 x).wf = true) (ht : Lines w) :
    Calls Tryd.prog 4 #[.agg #[.int .u8 K, .int .i64 S, .int .i64 C, .int .i64 T, .int .i64 M, .int .u8 V], .int .u8 at_, .int .u8 turn, .int .u8 cut, .slice A p.length c] w fun e w' => e = .returned (.bool true) ∧ Below w.heap.size w w' := by
  by_cases hn : 60 < p.length
  · exact noticeTurns_long ⟨K, S, C, T, M, V⟩ at_ turn cut A p.length c hn w
  · obtain ⟨a0, a1⟩ := wf_u8 wa
    obtain ⟨t0, t1⟩ := wf_u8 wt
    obtain ⟨c0, c1⟩ := wf_u8 wc
    obtain ⟨a, rfl⟩ := Int.eq_ofNat_of_zero_le a0
    obtain ⟨j, rfl⟩ := Int.eq_ofNat_of_zero_le c0
    by_cases hz : turn = 0
    · exact noticeTurns_same w ⟨K, S, C, T, M, V⟩ h a j turn A p.length c p hr (fun x hx => wf_u8 (hb x hx)) rfl hc (by omega) ht (by omega) (by omega) t0 t1 hz
    · exact noticeTurns_other w ⟨K, S, C, T, M, V⟩ h a j turn A p.length c p hr (fun x hx => wf_u8 (hb x hx)) rfl hc (by omega) ht (by omega) (by omega) t0 t1 hz
end Go.Proofs.YtambppcnmggocaaDoor
