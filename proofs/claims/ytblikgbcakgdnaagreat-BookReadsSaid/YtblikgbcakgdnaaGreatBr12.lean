/-
  Each open cycle becomes another one: package account's 'each'. No conditions but the sizes.
-/
import Derived.Test.YtblikgbcakgdnaaGreatBr11
set_option linter.unusedSimpArgs false
set_option linter.unusedVariables false
namespace Go.Proofs.YtblikgbcakgdnaaGreat
set_option maxRecDepth 20000
open Go.ChangeShapes Go.WideShapes Go.ChangeAt Go.RowKit

/-- So many have become another one. -/
def mapd (f : Cv → Cv) (l : List Cv) (j : Nat) : List Cv := (l.take j).map f ++ l.drop j
section
variable {f : Cv → Cv} {l : List Cv} {j : Nat} {c : Cv}
theorem mapd_len : (mapd f l j).length = l.length := by unfold mapd; simp; omega
theorem mapd_all : mapd f l l.length = l.map f := by unfold mapd; simp
theorem mapd_at (h : l[j]? = some c) : (mapd f l j)[j]? = some c := by
  have hj := (List.getElem?_eq_some_iff.1 h).1
  unfold mapd
  rw [List.getElem?_append_right (by simp; omega), List.getElem?_drop]
  simp
  rw [show min j l.length = j by omega, show j + (j - j) = j by omega]
  exact h
theorem mapd_next (h : l[j]? = some c) : (mapd f l j).set j (f c) = mapd f l (j + 1) := by
  have hj := (List.getElem?_eq_some_iff.1 h).1
  have hc : l[j] = c := (List.getElem?_eq_some_iff.1 h).2
  unfold mapd
  rw [List.take_succ_eq_append_getElem hj, List.map_append, hc, List.drop_eq_getElem_cons hj]
  rw [List.set_append_right _ _ (by simp; omega), List.length_map, List.length_take, show j - min j l.length = 0 by omega, List.set_cons_zero, List.append_assoc]
  rfl
end
theorem setCells_block {g : Nat} {t : TypeId} : ∀ (vs : List Value) (o : Nat) {w : World} {cur : Array Value}, w.heap[g]? = some (.cells cur t (0, 0)) → ∃ cur', (w.setCells g o vs).heap[g]? = some (.cells cur' t (0, 0)) ∧ cur'.size = cur.size := by
  intro vs
  induction vs with
  | nil => intro o w cur h; exact ⟨cur, h, rfl⟩
  | cons v r ih =>
    intro o w cur h
    have hlt := (Array.getElem?_eq_some_iff.1 h).1
    have h1 : (w.setCell ⟨g, o, none⟩ v).heap[g]? = some (.cells (cur.setIfInBounds o v) t (0, 0)) := by
      rw [boxed_self h, boxed_set]
      exact boxed_at hlt
    obtain ⟨cur', h2, h3⟩ := ih (o + 1) h1
    exact ⟨cur', h2, by rw [h3, Array.size_setIfInBounds]⟩
theorem Own.some_ {w : World} {b : Nat} {v : Value} {l : List Cv} (h : Own w b v l) (hn : 0 < l.length) : ∃ g c, v = .slice (some ⟨g, 0, none⟩) l.length c ∧ l.length ≤ c ∧ c ≤ maxLen ∧ b ≤ g ∧ g < w.heap.size := by
  rcases h.2 with ⟨_, h0⟩ | ⟨g, cap, cur, hv, hb, hg, h1, h2, _⟩
  · omega
  · exact ⟨g, cap, hv, h1, h2, hb, (Array.getElem?_eq_some_iff.1 hg).1⟩
theorem Own.set {w : World} {b g cap k : Nat} {l : List Cv} {c : Cv} {cs : List Value} (hcs : c.cs = cs) (h : Own w b (.slice (some ⟨g, 0, none⟩) l.length cap) l) (hk : k < l.length) :
    w.there g (k * 8) 8 ∧ Own (w.setCells g (k * 8) cs) b (.slice (some ⟨g, 0, none⟩) l.length cap) (l.set k c) := by
  obtain ⟨ht, hcy⟩ := Cys.set hcs h hk
  refine ⟨ht, by rw [List.length_set, ccs_len, List.length_set], ?_⟩
  rcases h.2 with ⟨hv, _⟩ | ⟨g', cap', cur, hv, hb, hg, h1, h2, h3, h4⟩
  · injection hv with e; cases e
  injection hv with e1 e2 e3
  injection e1 with e1
  injection e1 with e1
  subst e1 e3
  obtain ⟨cur', h5, h6⟩ := setCells_block cs (k * 8) hg
  refine .inr ⟨g, cap, cur', by rw [List.length_set], hb, h5, by rw [List.length_set]; exact h1, h2, by rw [h6]; exact h3, ?_⟩
  have hr : (w.setCells g (k * 8) cs).rangeAt g 0 (ccs (l.set k c)) := by
    have hw : w.rangeAt g 0 (ccs l) := fun j u hu => by
      rw [cell_of_row _ _ _ _ _ _ hg, Nat.zero_add, ← Array.getElem?_toList]
      rw [← h4, List.getElem?_take] at hu
      split at hu
      · exact hu
      · cases hu
    exact set_reads hcs hw ht hk
  apply List.ext_getElem?
  intro i
  have hlen := ccs_len (l.set k c)
  have hsz : l.length * 8 ≤ cap * 8 := Nat.mul_le_mul_right 8 h1
  rw [List.length_set] at hlen ⊢
  rw [List.getElem?_take]
  by_cases hi : i < l.length * 8
  · rw [if_pos hi]
    have hget : (ccs (l.set k c))[i]? = some ((ccs (l.set k c))[i]'(by omega)) := List.getElem?_eq_getElem _
    have h7 := hr i _ hget
    rw [cell_of_row _ _ _ _ _ _ h5, Nat.zero_add, ← Array.getElem?_toList] at h7
    rw [h7, hget]
  · rw [if_neg hi, List.getElem?_eq_none (by omega)]
set_option maxHeartbeats 400000 in
theorem wakes_any {w : World} {T : Nat} {y : Int} (n d p a u t x : Int) (g : Bool) (hT : w.heap[T]? = some (.cells #[.int .i64 y] 3 (0, 0))) (hT2 : T < w.heap.size) (h0 : -9223372036854775808 ≤ t) (h1 : t < 9223372036854775807) :
    Calls Tryz.prog 86 #[.agg #[.int .i64 n, .int .i64 d, .int .u8 p, .int .i64 a, .int .i64 u, .int .i64 t, .int .i64 x, .bool g], .pointer (some ⟨T, 0, none⟩)] w fun e w' => e = .returned (Cv.wake ⟨n, d, p, a, u, t, x, g⟩ y).val ∧ Below w.heap.size w w' := by
  obtain ⟨c', hc⟩ : ∃ c', Cv.wake ⟨n, d, p, a, u, t, x, g⟩ y = c' := ⟨_, rfl⟩
  rw [hc]
  have HC := Lib.hid hc
  have hTc : w.cell? ⟨T, 0, none⟩ = some (.int .i64 y) := cell_of_row _ _ _ _ _ _ hT
  have hT3 : T < w.heap.size + 1 := by omega
  have H0 := Lib.hid h0
  have H1 := Lib.hid h1
  clear hc hT h0 h1
  obtain ⟨n', d', p', a', u', t', x', g'⟩ := c'
  go_enter Tryz.func86, Tryz.ntmps86
  go_wp2_with (fail)
  refine (cywake_any _ _ _ _ _ _ _ _ _ _ H0.out H1.out).mono ?_
  rw [HC.out]
  dsimp only [Cv.val, Cv.arr]
  rintro e w1 ⟨rfl, hb⟩
  obtain ⟨hw, z0, z1, e1⟩ := two_of hb
  rw [e1]
  have HW := Lib.hid hw
  clear e1 hb hw
  go_wp2
  refine bodyPost_ret (v := .agg #[.int .i64 n', .int .i64 d', .int .u8 p', .int .i64 a', .int .i64 u', .int .i64 t', .int .i64 x', .bool g']) ?_ rfl ⟨rfl, boxed_below (boxed_below HW.out (Nat.le_refl _)) (by omega)⟩
  simp [results, Tryz.results86, go_sem, z1]
set_option maxHeartbeats 4000000 in
theorem each_day {w : World} {v : Value} {a : Av} {m : Nat} {T : Nat} {y : Int} (hT : w.heap[T]? = some (.cells #[.int .i64 y] 3 (0, 0))) (h : Cys w 0 w.heap.size v a.l) (hs : a.l.length ≤ 100000) (hf : a.Fit m) (hm : m ≤ 100000) (hc : ∀ c ∈ a.l, c.Fit) (hc2 : ∀ c ∈ a.l, ((fun c => Cv.wake c y) c).Fit) :
    Calls Tryz.prog 85 #[.agg (a.arr v), .func (.func 86) #[] #[.pointer (some ⟨T, 0, none⟩)]] w (New w (a.each (fun c => (fun c => Cv.wake c y) c))) := by
  have H := Lib.hid h
  have HF := Lib.hid hf
  have HC := Lib.hid hc
  have HC2 := Lib.hid hc2
  have HT := Lib.hid hT
  clear hT
  obtain ⟨l, hl⟩ : ∃ l, a.l = l := ⟨_, rfl⟩
  have HL := Lib.hid hl
  rw [hl] at hs HC HC2
  clear h hf hc hc2 hl
  go_enter Tryz.func85, Tryz.ntmps85
  go_wp2_with (fail)
  refine (copy_any (a := a) ((H.out.below ((((Below.refl _ w).alloc (Nat.le_refl _) _).alloc (by simp) _))).more (Nat.le_refl _) (by simp; omega)) (by rw [HL.out]; omega)).mono ?_
  rintro e w1 ⟨v1, rfl, ho, hb⟩
  rw [World.size_alloc, World.size_alloc] at ho
  rw [HL.out] at ho
  obtain ⟨A1, c1, rfl, hk1, hk2⟩ := ho.form
  have HO := Lib.hid ho
  obtain ⟨hw, z0, z1, e1⟩ := two_of hb
  rw [e1]
  have HW := Lib.hid hw
  clear e1 hb hw ho H
  go_wp2_with (first | ((with_reducible_and_instances (show wpList _ _ _ (Oper.mk _ (Op.load 32 _) _ _ _ _ :: _) _ _)); refine wl_load Tryz.underlying32 rfl info13 rfl rfl rfl (by (repeat (first | assumption | (with_reducible refine alloc_at ?_; (focus (first | omega | (simp; done) | (simp; omega)))) | (with_reducible refine boxed_at ?_; (focus (first | omega | (simp; done) | (simp; omega)))) | (with_reducible refine alloc_old ?_ ?_; (focus (first | omega | (simp; done) | (simp; omega)))) | (with_reducible refine boxed_old ?_ ?_; (focus (first | omega | (simp; done) | (simp; omega)))) | (with_reducible refine drew_old ?_)))) (by rfl) ?_) | ((with_reducible_and_instances (show wpList _ _ _ (Oper.mk _ (Op.store 32 _ _) _ _ _ _ :: _) _ _)); refine wl_store info13 rfl rfl rfl rfl (by (repeat (first | assumption | (with_reducible refine alloc_at ?_; (focus (first | omega | (simp; done) | (simp; omega)))) | (with_reducible refine boxed_at ?_; (focus (first | omega | (simp; done) | (simp; omega)))) | (with_reducible refine alloc_old ?_ ?_; (focus (first | omega | (simp; done) | (simp; omega)))) | (with_reducible refine boxed_old ?_ ?_; (focus (first | omega | (simp; done) | (simp; omega)))) | (with_reducible refine drew_old ?_)))) (by rfl) (by rfl) (by first | exact Cv.arr_one _ | exact Nv.arr_one _ | exact Av.arr_one rfl | simp [Value.oneCell']) ?_))
  go_loopw [12] (fun i wq => ∃ (j : Nat), j ≤ l.length ∧ i = .int .i64 j ∧ Hid (Below w.heap.size w wq) ∧ Hid (wq.heap[w.heap.size]? = some (.cells (a.arr (.slice A1 l.length c1)) 32 (0, 0))) ∧ Hid (wq.heap[w.heap.size + 1]? = some (.cells (Av.zero.arr (.slice none 0 0)) 32 (0, 0))) ∧ Hid (Own wq (w.heap.size + 1 + 1) (.slice A1 l.length c1) (mapd (fun c => (fun c => Cv.wake c y) c) l j))) (fun i _ => l.length - (intOf i).toNat)
  case atStart =>
    exact ⟨0, by omega, rfl, boxed_below (boxed_below (boxed_below HW.out (Nat.le_refl _)) (by omega)) (Nat.le_refl _), boxed_at (by simp only [boxed_size]; omega), boxed_old (by omega) (boxed_at (by simp only [boxed_size]; omega)), ((HO.out.boxed (by omega)).boxed (by omega)).boxed (by omega)⟩
  case round =>
    clear HO HW
    obtain ⟨j, hj, rfl, HW, HP, HQ, HO⟩ := hrel
    have hz0 : w.heap.size + 1 < wr.heap.size := (Array.getElem?_eq_some_iff.1 HQ.out).1
    have hz1 : w.heap.size < wr.heap.size := by omega
    by_cases hlt : j < l.length
    case neg =>
      obtain rfl : j = l.length := by omega
      have dlt : decide ((l.length : Int) < (l.length : Int)) = false := by simp
      rw [mapd_all] at HO
      have e := boxed_self HP.out
      rw [e]
      clear e HP
      have HQ2 : Hid ((boxed wr w.heap.size (a.arr (.slice A1 l.length c1)) 32).heap[w.heap.size + 1]? = some (.cells (Av.zero.arr (.slice none 0 0)) 32 (0, 0))) := boxed_old (by omega) HQ.out
      have e := boxed_self HQ2.out
      rw [e]
      clear e
      go_wp2_with (first | ((with_reducible_and_instances (show wpList _ _ _ (Oper.mk _ (Op.load 32 _) _ _ _ _ :: _) _ _)); refine wl_load Tryz.underlying32 rfl info13 rfl rfl rfl (by (repeat (first | assumption | (with_reducible refine alloc_at ?_; (focus (first | omega | (simp; done) | (simp; omega)))) | (with_reducible refine boxed_at ?_; (focus (first | omega | (simp; done) | (simp; omega)))) | (with_reducible refine alloc_old ?_ ?_; (focus (first | omega | (simp; done) | (simp; omega)))) | (with_reducible refine boxed_old ?_ ?_; (focus (first | omega | (simp; done) | (simp; omega)))) | (with_reducible refine drew_old ?_)))) (by rfl) ?_) | ((with_reducible_and_instances (show wpList _ _ _ (Oper.mk _ (Op.store 32 _ _) _ _ _ _ :: _) _ _)); refine wl_store info13 rfl rfl rfl rfl (by (repeat (first | assumption | (with_reducible refine alloc_at ?_; (focus (first | omega | (simp; done) | (simp; omega)))) | (with_reducible refine boxed_at ?_; (focus (first | omega | (simp; done) | (simp; omega)))) | (with_reducible refine alloc_old ?_ ?_; (focus (first | omega | (simp; done) | (simp; omega)))) | (with_reducible refine boxed_old ?_ ?_; (focus (first | omega | (simp; done) | (simp; omega)))) | (with_reducible refine drew_old ?_)))) (by rfl) (by rfl) (by first | exact Cv.arr_one _ | exact Nv.arr_one _ | exact Av.arr_one rfl | simp [Value.oneCell']) ?_))
      have hsz := HW.out.size
      refine (settled_any (a := { a with l := l.map (fun c => (fun c => Cv.wake c y) c) }) (m := m) (((HO.out.cys.boxed (.inl (by omega))).boxed (.inl (by omega))).more (Nat.zero_le _) (by simp)) (by simpa using hs) ⟨HF.out.d0, HF.out.d1, HF.out.n0, HF.out.n1, HF.out.r0, HF.out.r1, HF.out.s0, HF.out.s1, HF.out.c0, HF.out.c1, HF.out.p0, HF.out.p1⟩ hm (fun z hz => by obtain ⟨q, hq, rfl⟩ := List.mem_map.1 hz; exact HC2.out q hq)).mono ?_
      rintro e w3 ⟨v3, rfl, ho3, hb3⟩
      have hb4 : Below w.heap.size w w3 := (boxed_below (boxed_below HW.out (Nat.le_refl _)) (by omega)).trans (hb3.mono (by simp; omega))
      have hQ3 : w3.heap[w.heap.size + 1]? = some (.cells (Av.zero.arr (.slice none 0 0)) 32 (0, 0)) := below_block hb3 (boxed_at (by simp; omega))
      obtain ⟨A3, c3, rfl, _, _⟩ := ho3.form
      have HO3 := Lib.hid ho3
      have HW3 := Lib.hid hb4
      have hz3 : w.heap.size + 1 < w3.heap.size := (Array.getElem?_eq_some_iff.1 hQ3).1
      have e := boxed_self hQ3
      rw [e]
      clear e hQ3 hb3 ho3 hb4 HQ2 HQ
      go_wp2_with (first | ((with_reducible_and_instances (show wpList _ _ _ (Oper.mk _ (Op.load 32 _) _ _ _ _ :: _) _ _)); refine wl_load Tryz.underlying32 rfl info13 rfl rfl rfl (by (repeat (first | assumption | (with_reducible refine alloc_at ?_; (focus (first | omega | (simp; done) | (simp; omega)))) | (with_reducible refine boxed_at ?_; (focus (first | omega | (simp; done) | (simp; omega)))) | (with_reducible refine alloc_old ?_ ?_; (focus (first | omega | (simp; done) | (simp; omega)))) | (with_reducible refine boxed_old ?_ ?_; (focus (first | omega | (simp; done) | (simp; omega)))) | (with_reducible refine drew_old ?_)))) (by rfl) ?_) | ((with_reducible_and_instances (show wpList _ _ _ (Oper.mk _ (Op.store 32 _ _) _ _ _ _ :: _) _ _)); refine wl_store info13 rfl rfl rfl rfl (by (repeat (first | assumption | (with_reducible refine alloc_at ?_; (focus (first | omega | (simp; done) | (simp; omega)))) | (with_reducible refine boxed_at ?_; (focus (first | omega | (simp; done) | (simp; omega)))) | (with_reducible refine alloc_old ?_ ?_; (focus (first | omega | (simp; done) | (simp; omega)))) | (with_reducible refine boxed_old ?_ ?_; (focus (first | omega | (simp; done) | (simp; omega)))) | (with_reducible refine drew_old ?_)))) (by rfl) (by rfl) (by first | exact Cv.arr_one _ | exact Nv.arr_one _ | exact Av.arr_one rfl | simp [Value.oneCell']) ?_))
      refine bodyPost_ret (results_cell_row rfl _ _ (w.heap.size+1) 32 _ (0, 0) _ rfl (boxed_at (by simp only [boxed_size]; omega)) Tryz.underlying32 rfl (by exact info13)) rfl ?_
      have ho3 := HO3.out
      rw [boxed_size, boxed_size] at ho3
      have hee : a.each (fun c => (fun c => Cv.wake c y) c) = Av.settled { a with l := l.map (fun c => (fun c => Cv.wake c y) c) } := by unfold Av.each; rw [HL.out]
      rw [hee]
      exact ⟨_, rfl, (((ho3.more (b' := w.heap.size + 1 + 1) (by omega)).boxed (by omega)).boxed (by omega)).more (by omega), boxed_below (boxed_below HW3.out (by omega)) (by omega)⟩
    case pos =>
      have dlt : decide ((j : Int) < (l.length : Int)) = true := by simpa using hlt
      obtain ⟨c, hcj⟩ : ∃ c, l[j]? = some c := ⟨l[j], List.getElem?_eq_getElem hlt⟩
      have hcf := HC.out c (List.mem_of_getElem? hcj)
      have hnx := mapd_next (f := fun c => (fun c => Cv.wake c y) c) hcj
      have hat := mapd_at (f := fun c => (fun c => Cv.wake c y) c) hcj
      have hml : (mapd (fun c => (fun c => Cv.wake c y) c) l j).length = l.length := mapd_len
      obtain ⟨x, hx⟩ : ∃ x, mapd (fun c => (fun c => Cv.wake c y) c) l j = x := ⟨_, rfl⟩
      rw [hx] at HO hnx hat hml
      have ho2 := HO.out
      rw [← hml] at ho2
      obtain ⟨gg, cap', hv, _, _, hgb, hgg⟩ := ho2.some_ (by omega)
      injection hv with hA _ hcap'
      subst hA hcap'
      have hr := (ho2.cys.at_ hat)
      obtain ⟨g1, o1, cap1, hv1, _, _, _, _, _, hr⟩ := hr
      injection hv1 with hA1 _ hc1e
      subst hc1e
      injection hA1 with hA1
      injection hA1 with hg1 ho1 _
      subst hg1 ho1
      rw [Nat.zero_add] at hr
      have HR := Lib.hid hr
      obtain ⟨c', hc'⟩ : ∃ c', (fun c => Cv.wake c y) c = c' := ⟨_, rfl⟩
      have hnx' : x.set j c' = mapd (fun c => (fun c => Cv.wake c y) c) l (j + 1) := by rw [← hc']; exact hnx
      have HNX := Lib.hid hnx'
      have HFC := Lib.hid hc'
      have HCF := Lib.hid hcf
      obtain ⟨n, d, p, a', u, t, xx, g⟩ := c
      obtain ⟨n2, d2, p2, a2, u2, t2, x2, g2⟩ := c'
      have k0 : (0 : Int) ≤ (j : Int) := by omega
      have ht0 : 0 ≤ t := HCF.out.t0
      have ht1 : t ≤ 1000 := HCF.out.t1
      have HML := Lib.hid hml
      clear hx hnx hr hcj hcf hnx' hc' hat ho2 hml
      go_wp2_with (refine wpList_load_mid rfl _ _ rfl gg (j * 8) rfl [.int .i64 n, .int .i64 d, .int .u8 p, .int .i64 a', .int .i64 u, .int .i64 t, .int .i64 xx, .bool g] _ HR.out Tryz.underlying112 rfl info8 ?_)
      have hS1 : (wr.alloc (.cells #[.int .i64 n, .int .i64 d, .int .u8 p, .int .i64 a', .int .i64 u, .int .i64 t, .int .i64 xx, .bool g] 112)).heap[w.heap.size]? = some (.cells (a.arr (.slice (some ⟨gg, 0, none⟩) l.length c1)) 32 (0, 0)) := alloc_old hz1 HP.out
      have hS2 : (wr.alloc (.cells #[.int .i64 n, .int .i64 d, .int .u8 p, .int .i64 a', .int .i64 u, .int .i64 t, .int .i64 xx, .bool g] 112)).rangeAt wr.heap.size 0 [.int .i64 n, .int .i64 d, .int .u8 p, .int .i64 a', .int .i64 u, .int .i64 t, .int .i64 xx, .bool g] := fun i q hq => (cell_of_row _ _ _ _ _ _ alloc_block).trans (by rw [Nat.zero_add, ← Array.getElem?_toList]; exact hq)
      have hW5 : Below w.heap.size w (wr.alloc (.cells #[.int .i64 n, .int .i64 d, .int .u8 p, .int .i64 a', .int .i64 u, .int .i64 t, .int .i64 xx, .bool g] 112)) := HW.out.alloc (by omega) _
      have hQ5 : (wr.alloc (.cells #[.int .i64 n, .int .i64 d, .int .u8 p, .int .i64 a', .int .i64 u, .int .i64 t, .int .i64 xx, .bool g] 112)).heap[w.heap.size + 1]? = some (.cells (Av.zero.arr (.slice none 0 0)) 32 (0, 0)) := alloc_old hz0 HQ.out
      have hO5 : Own (wr.alloc (.cells #[.int .i64 n, .int .i64 d, .int .u8 p, .int .i64 a', .int .i64 u, .int .i64 t, .int .i64 xx, .bool g] 112)) (w.heap.size + 1 + 1) (.slice (some ⟨gg, 0, none⟩) l.length c1) x := HO.out.alloc
      have hz5 : wr.heap.size < (wr.alloc (.cells #[.int .i64 n, .int .i64 d, .int .u8 p, .int .i64 a', .int .i64 u, .int .i64 t, .int .i64 xx, .bool g] 112)).heap.size := by simp
      obtain ⟨W5, hW5e⟩ : ∃ W5, wr.alloc (.cells #[.int .i64 n, .int .i64 d, .int .u8 p, .int .i64 a', .int .i64 u, .int .i64 t, .int .i64 xx, .bool g] 112) = W5 := ⟨_, rfl⟩
      obtain ⟨C5, hC5⟩ : ∃ C5, wr.heap.size = C5 := ⟨_, rfl⟩
      rw [hW5e] at hS1 hS2 hW5 hQ5 hO5 hz5 ⊢
      rw [hC5] at hS2 hz5 ⊢
      have hg5 : gg < W5.heap.size := by omega
      have h15 : w.heap.size + 1 < W5.heap.size := by omega
      have HS0 : Hid (W5.drew.cell? ⟨w.heap.size, 7, none⟩ = some (.slice (some ⟨gg, 0, none⟩) l.length c1) ∧ W5.drew.rangeAt C5 0 [.int .i64 n, .int .i64 d, .int .u8 p, .int .i64 a', .int .i64 u, .int .i64 t, .int .i64 xx, .bool g]) := ⟨cell_of_row W5.drew _ _ _ _ _ hS1, (World.rangeAt_drew _ _ _ _).2 hS2⟩
      have HS1 := Lib.hid hS1
      have HW5 := Lib.hid hW5
      have HQ5 := Lib.hid hQ5
      have HO5 := Lib.hid hO5
      clear hW5e hC5 hS1 hS2 hW5 hQ5 hO5 HQ HP HR HO HW
      refine laneT_start (ord := [0, 1, 2, 3, 4, 5, 6, 7]) (t := 7) (S := fun w' => w'.cell? ⟨w.heap.size, 7, none⟩ = some (.slice (some ⟨gg, 0, none⟩) l.length c1) ∧ w'.rangeAt C5 0 [.int .i64 n, .int .i64 d, .int .u8 p, .int .i64 a', .int .i64 u, .int .i64 t, .int .i64 xx, .bool g]) rfl (by kernel_rfl) ?_
      iterate 4 (refine laneT_take (v := ?_) rfl (by kernel_rfl) (by kernel_rfl) (by rfl) ?_ (by exact HS0.out) ?_; rotate_left; (focus (intro W hSw; have s7 := hSw.1; go_simp; try (with_reducible rfl))); simp only [Act.put, List.setIfInBounds_toArray, List.set_cons_zero, List.set_cons_succ])
      refine laneT_take (v := .agg #[.int .i64 n, .int .i64 d, .int .u8 p, .int .i64 a', .int .i64 u, .int .i64 t, .int .i64 xx, .bool g]) rfl (by kernel_rfl) (by kernel_rfl) (by rfl) (fun W hSw => exec_load rfl rfl (run_loadAt_mid W C5 0 112 _ _ hSw.2 Tryz.underlying112 rfl info8)) (by exact HS0.out) ?_
      simp only [Act.put, List.setIfInBounds_toArray, List.set_cons_zero, List.set_cons_succ]
      refine laneT_alone rfl (by kernel_rfl) (by rfl) (fun K hK => ?_)
      go_simp
      refine (wakes_any n d p a' u t xx g (y := y) (T := T) ?_ ?_ (by omega) (by omega)).mono ?_
      · exact (HW5.out.block T (by have := (Array.getElem?_eq_some_iff.1 HT.out).1; omega)).trans HT.out
      · have := (Array.getElem?_eq_some_iff.1 HT.out).1; have := HW5.out.size; show T < W5.heap.size; omega
      rw [HFC.out]
      dsimp only [Cv.val, Cv.arr]
      rintro e w6 ⟨rfl, hb6⟩
      have hb7 : Below W5.heap.size W5 w6 := (Below.refl _ W5).drew.trans hb6
      have hS6 : w6.cell? ⟨w.heap.size, 7, none⟩ = some (.slice (some ⟨gg, 0, none⟩) l.length c1) ∧ w6.rangeAt C5 0 [.int .i64 n, .int .i64 d, .int .u8 p, .int .i64 a', .int .i64 u, .int .i64 t, .int .i64 xx, .bool g] := ⟨(World.cell?_of_block (a := ⟨w.heap.size, 7, none⟩) (hb7.block w.heap.size (by omega))).trans HS0.out.1, fun i q hq => (World.cell?_of_block (a := ⟨C5, 0 + i, none⟩) (hb7.block _ hz5)).trans (HS0.out.2 i q hq)⟩
      have HS6 := Lib.hid hS6
      have HS7 : Hid (w6.heap[w.heap.size]? = some (.cells (a.arr (.slice (some ⟨gg, 0, none⟩) l.length c1)) 32 (0, 0))) := (hb7.block _ (by omega)).trans HS1.out
      have HQ7 : Hid (w6.heap[w.heap.size + 1]? = some (.cells (Av.zero.arr (.slice none 0 0)) 32 (0, 0))) := (hb7.block _ (by omega)).trans HQ5.out
      have HO7 : Hid (Own w6 (w.heap.size + 1 + 1) (.slice (some ⟨gg, 0, none⟩) l.length c1) x) := HO5.out.below hb7
      have HW7 : Hid (Below w.heap.size w w6) := HW5.out.trans (hb7.mono (by omega))
      have HST := Lib.hid (Own.set (cs := [.int .i64 n2, .int .i64 d2, .int .u8 p2, .int .i64 a2, .int .i64 u2, .int .i64 t2, .int .i64 x2, .bool g2]) (c := ⟨n2, d2, p2, a2, u2, t2, x2, g2⟩) (k := j) rfl (by have := HO7.out; rw [← HML.out] at this; exact this) (by have := HML.out; omega))
      clear hb6 hb7 hS6
      refine hK _ _ (fun _ => HS6.out) ?_
      clear hK K
      refine laneT_alone rfl (by kernel_rfl) (by rfl) (fun K hK => ?_)
      go_simp
      refine hK _ _ (fun _ => HS6.out) ?_
      clear hK K
      refine laneT_alone rfl (by kernel_rfl) (by rfl) (fun K hK => ?_)
      refine wp_store_mid _ _ _ rfl gg (j * 8) #[.int .i64 n2, .int .i64 d2, .int .u8 p2, .int .i64 a2, .int .i64 u2, .int .i64 t2, .int .i64 x2, .bool g2] rfl rfl HST.out.1 info8 (by simp [Value.oneCell']) ?_
      refine hK _ _ (fun h => absurd rfl h) ?_
      clear hK K
      have hst := HST.out.2
      rw [HML.out] at hst
      rw [HNX.out] at hst
      have hsb : Below (w.heap.size + 1 + 1) w6 (w6.setCells gg (j * 8) [.int .i64 n2, .int .i64 d2, .int .u8 p2, .int .i64 a2, .int .i64 u2, .int .i64 t2, .int .i64 x2, .bool g2]) := setCells_below (Below.refl _ _) hgb
      have HS8 : Hid ((w6.setCells gg (j * 8) [.int .i64 n2, .int .i64 d2, .int .u8 p2, .int .i64 a2, .int .i64 u2, .int .i64 t2, .int .i64 x2, .bool g2]).heap[w.heap.size]? = some (.cells (a.arr (.slice (some ⟨gg, 0, none⟩) l.length c1)) 32 (0, 0))) := (hsb.block _ (by omega)).trans HS7.out
      have HQ8 : Hid ((w6.setCells gg (j * 8) [.int .i64 n2, .int .i64 d2, .int .u8 p2, .int .i64 a2, .int .i64 u2, .int .i64 t2, .int .i64 x2, .bool g2]).heap[w.heap.size + 1]? = some (.cells (Av.zero.arr (.slice none 0 0)) 32 (0, 0))) := (hsb.block _ (by omega)).trans HQ7.out
      have HW8 := Lib.hid (HW7.out.trans (hsb.mono (by omega)))
      have HO8 := Lib.hid hst
      clear hst hsb HST HS7 HQ7 HW7 HO7 HS6 HS0 HS1 HW5 HQ5 HO5
      obtain ⟨W8, hW8⟩ : ∃ W8, w6.setCells gg (j * 8) [.int .i64 n2, .int .i64 d2, .int .u8 p2, .int .i64 a2, .int .i64 u2, .int .i64 t2, .int .i64 x2, .bool g2] = W8 := ⟨_, rfl⟩
      rw [hW8] at HS8 HQ8 HW8 HO8
      simp only [hW8]
      clear hW8
      refine laneT_end (by kernel_rfl) ?_
      go_wp2
      go_roundw
      case rel => exact ⟨j + 1, by omega, by go_num, HW8, HS8, HQ8, HO8⟩
      case measure => simp [intOf]; omega
set_option maxHeartbeats 4000000 in
theorem each_over {w : World} {v : Value} {a : Av} {m : Nat} (h : Cys w 0 w.heap.size v a.l) (hs : a.l.length ≤ 100000) (hf : a.Fit m) (hm : m ≤ 100000) (hc : ∀ c ∈ a.l, c.Fit) (hc2 : ∀ c ∈ a.l, (Cv.over c).Fit) :
    Calls Tryz.prog 85 #[.agg (a.arr v), .func (.func 96) #[] #[]] w (New w (a.each (fun c => Cv.over c))) := by
  have H := Lib.hid h
  have HF := Lib.hid hf
  have HC := Lib.hid hc
  have HC2 := Lib.hid hc2
  obtain ⟨l, hl⟩ : ∃ l, a.l = l := ⟨_, rfl⟩
  have HL := Lib.hid hl
  rw [hl] at hs HC HC2
  clear h hf hc hc2 hl
  go_enter Tryz.func85, Tryz.ntmps85
  go_wp2_with (fail)
  refine (copy_any (a := a) ((H.out.below ((((Below.refl _ w).alloc (Nat.le_refl _) _).alloc (by simp) _))).more (Nat.le_refl _) (by simp; omega)) (by rw [HL.out]; omega)).mono ?_
  rintro e w1 ⟨v1, rfl, ho, hb⟩
  rw [World.size_alloc, World.size_alloc] at ho
  rw [HL.out] at ho
  obtain ⟨A1, c1, rfl, hk1, hk2⟩ := ho.form
  have HO := Lib.hid ho
  obtain ⟨hw, z0, z1, e1⟩ := two_of hb
  rw [e1]
  have HW := Lib.hid hw
  clear e1 hb hw ho H
  go_wp2_with (first | ((with_reducible_and_instances (show wpList _ _ _ (Oper.mk _ (Op.load 32 _) _ _ _ _ :: _) _ _)); refine wl_load Tryz.underlying32 rfl info13 rfl rfl rfl (by (repeat (first | assumption | (with_reducible refine alloc_at ?_; (focus (first | omega | (simp; done) | (simp; omega)))) | (with_reducible refine boxed_at ?_; (focus (first | omega | (simp; done) | (simp; omega)))) | (with_reducible refine alloc_old ?_ ?_; (focus (first | omega | (simp; done) | (simp; omega)))) | (with_reducible refine boxed_old ?_ ?_; (focus (first | omega | (simp; done) | (simp; omega)))) | (with_reducible refine drew_old ?_)))) (by rfl) ?_) | ((with_reducible_and_instances (show wpList _ _ _ (Oper.mk _ (Op.store 32 _ _) _ _ _ _ :: _) _ _)); refine wl_store info13 rfl rfl rfl rfl (by (repeat (first | assumption | (with_reducible refine alloc_at ?_; (focus (first | omega | (simp; done) | (simp; omega)))) | (with_reducible refine boxed_at ?_; (focus (first | omega | (simp; done) | (simp; omega)))) | (with_reducible refine alloc_old ?_ ?_; (focus (first | omega | (simp; done) | (simp; omega)))) | (with_reducible refine boxed_old ?_ ?_; (focus (first | omega | (simp; done) | (simp; omega)))) | (with_reducible refine drew_old ?_)))) (by rfl) (by rfl) (by first | exact Cv.arr_one _ | exact Nv.arr_one _ | exact Av.arr_one rfl | simp [Value.oneCell']) ?_))
  go_loopw [12] (fun i wq => ∃ (j : Nat), j ≤ l.length ∧ i = .int .i64 j ∧ Hid (Below w.heap.size w wq) ∧ Hid (wq.heap[w.heap.size]? = some (.cells (a.arr (.slice A1 l.length c1)) 32 (0, 0))) ∧ Hid (wq.heap[w.heap.size + 1]? = some (.cells (Av.zero.arr (.slice none 0 0)) 32 (0, 0))) ∧ Hid (Own wq (w.heap.size + 1 + 1) (.slice A1 l.length c1) (mapd (fun c => Cv.over c) l j))) (fun i _ => l.length - (intOf i).toNat)
  case atStart =>
    exact ⟨0, by omega, rfl, boxed_below (boxed_below (boxed_below HW.out (Nat.le_refl _)) (by omega)) (Nat.le_refl _), boxed_at (by simp only [boxed_size]; omega), boxed_old (by omega) (boxed_at (by simp only [boxed_size]; omega)), ((HO.out.boxed (by omega)).boxed (by omega)).boxed (by omega)⟩
  case round =>
    clear HO HW
    obtain ⟨j, hj, rfl, HW, HP, HQ, HO⟩ := hrel
    have hz0 : w.heap.size + 1 < wr.heap.size := (Array.getElem?_eq_some_iff.1 HQ.out).1
    have hz1 : w.heap.size < wr.heap.size := by omega
    by_cases hlt : j < l.length
    case neg =>
      obtain rfl : j = l.length := by omega
      have dlt : decide ((l.length : Int) < (l.length : Int)) = false := by simp
      rw [mapd_all] at HO
      have e := boxed_self HP.out
      rw [e]
      clear e HP
      have HQ2 : Hid ((boxed wr w.heap.size (a.arr (.slice A1 l.length c1)) 32).heap[w.heap.size + 1]? = some (.cells (Av.zero.arr (.slice none 0 0)) 32 (0, 0))) := boxed_old (by omega) HQ.out
      have e := boxed_self HQ2.out
      rw [e]
      clear e
      go_wp2_with (first | ((with_reducible_and_instances (show wpList _ _ _ (Oper.mk _ (Op.load 32 _) _ _ _ _ :: _) _ _)); refine wl_load Tryz.underlying32 rfl info13 rfl rfl rfl (by (repeat (first | assumption | (with_reducible refine alloc_at ?_; (focus (first | omega | (simp; done) | (simp; omega)))) | (with_reducible refine boxed_at ?_; (focus (first | omega | (simp; done) | (simp; omega)))) | (with_reducible refine alloc_old ?_ ?_; (focus (first | omega | (simp; done) | (simp; omega)))) | (with_reducible refine boxed_old ?_ ?_; (focus (first | omega | (simp; done) | (simp; omega)))) | (with_reducible refine drew_old ?_)))) (by rfl) ?_) | ((with_reducible_and_instances (show wpList _ _ _ (Oper.mk _ (Op.store 32 _ _) _ _ _ _ :: _) _ _)); refine wl_store info13 rfl rfl rfl rfl (by (repeat (first | assumption | (with_reducible refine alloc_at ?_; (focus (first | omega | (simp; done) | (simp; omega)))) | (with_reducible refine boxed_at ?_; (focus (first | omega | (simp; done) | (simp; omega)))) | (with_reducible refine alloc_old ?_ ?_; (focus (first | omega | (simp; done) | (simp; omega)))) | (with_reducible refine boxed_old ?_ ?_; (focus (first | omega | (simp; done) | (simp; omega)))) | (with_reducible refine drew_old ?_)))) (by rfl) (by rfl) (by first | exact Cv.arr_one _ | exact Nv.arr_one _ | exact Av.arr_one rfl | simp [Value.oneCell']) ?_))
      have hsz := HW.out.size
      refine (settled_any (a := { a with l := l.map (fun c => Cv.over c) }) (m := m) (((HO.out.cys.boxed (.inl (by omega))).boxed (.inl (by omega))).more (Nat.zero_le _) (by simp)) (by simpa using hs) ⟨HF.out.d0, HF.out.d1, HF.out.n0, HF.out.n1, HF.out.r0, HF.out.r1, HF.out.s0, HF.out.s1, HF.out.c0, HF.out.c1, HF.out.p0, HF.out.p1⟩ hm (fun z hz => by obtain ⟨q, hq, rfl⟩ := List.mem_map.1 hz; exact HC2.out q hq)).mono ?_
      rintro e w3 ⟨v3, rfl, ho3, hb3⟩
      have hb4 : Below w.heap.size w w3 := (boxed_below (boxed_below HW.out (Nat.le_refl _)) (by omega)).trans (hb3.mono (by simp; omega))
      have hQ3 : w3.heap[w.heap.size + 1]? = some (.cells (Av.zero.arr (.slice none 0 0)) 32 (0, 0)) := below_block hb3 (boxed_at (by simp; omega))
      obtain ⟨A3, c3, rfl, _, _⟩ := ho3.form
      have HO3 := Lib.hid ho3
      have HW3 := Lib.hid hb4
      have hz3 : w.heap.size + 1 < w3.heap.size := (Array.getElem?_eq_some_iff.1 hQ3).1
      have e := boxed_self hQ3
      rw [e]
      clear e hQ3 hb3 ho3 hb4 HQ2 HQ
      go_wp2_with (first | ((with_reducible_and_instances (show wpList _ _ _ (Oper.mk _ (Op.load 32 _) _ _ _ _ :: _) _ _)); refine wl_load Tryz.underlying32 rfl info13 rfl rfl rfl (by (repeat (first | assumption | (with_reducible refine alloc_at ?_; (focus (first | omega | (simp; done) | (simp; omega)))) | (with_reducible refine boxed_at ?_; (focus (first | omega | (simp; done) | (simp; omega)))) | (with_reducible refine alloc_old ?_ ?_; (focus (first | omega | (simp; done) | (simp; omega)))) | (with_reducible refine boxed_old ?_ ?_; (focus (first | omega | (simp; done) | (simp; omega)))) | (with_reducible refine drew_old ?_)))) (by rfl) ?_) | ((with_reducible_and_instances (show wpList _ _ _ (Oper.mk _ (Op.store 32 _ _) _ _ _ _ :: _) _ _)); refine wl_store info13 rfl rfl rfl rfl (by (repeat (first | assumption | (with_reducible refine alloc_at ?_; (focus (first | omega | (simp; done) | (simp; omega)))) | (with_reducible refine boxed_at ?_; (focus (first | omega | (simp; done) | (simp; omega)))) | (with_reducible refine alloc_old ?_ ?_; (focus (first | omega | (simp; done) | (simp; omega)))) | (with_reducible refine boxed_old ?_ ?_; (focus (first | omega | (simp; done) | (simp; omega)))) | (with_reducible refine drew_old ?_)))) (by rfl) (by rfl) (by first | exact Cv.arr_one _ | exact Nv.arr_one _ | exact Av.arr_one rfl | simp [Value.oneCell']) ?_))
      refine bodyPost_ret (results_cell_row rfl _ _ (w.heap.size+1) 32 _ (0, 0) _ rfl (boxed_at (by simp only [boxed_size]; omega)) Tryz.underlying32 rfl (by exact info13)) rfl ?_
      have ho3 := HO3.out
      rw [boxed_size, boxed_size] at ho3
      have hee : a.each (fun c => Cv.over c) = Av.settled { a with l := l.map (fun c => Cv.over c) } := by unfold Av.each; rw [HL.out]
      rw [hee]
      exact ⟨_, rfl, (((ho3.more (b' := w.heap.size + 1 + 1) (by omega)).boxed (by omega)).boxed (by omega)).more (by omega), boxed_below (boxed_below HW3.out (by omega)) (by omega)⟩
    case pos =>
      have dlt : decide ((j : Int) < (l.length : Int)) = true := by simpa using hlt
      obtain ⟨c, hcj⟩ : ∃ c, l[j]? = some c := ⟨l[j], List.getElem?_eq_getElem hlt⟩
      have hcf := HC.out c (List.mem_of_getElem? hcj)
      have hnx := mapd_next (f := fun c => Cv.over c) hcj
      have hat := mapd_at (f := fun c => Cv.over c) hcj
      have hml : (mapd (fun c => Cv.over c) l j).length = l.length := mapd_len
      obtain ⟨x, hx⟩ : ∃ x, mapd (fun c => Cv.over c) l j = x := ⟨_, rfl⟩
      rw [hx] at HO hnx hat hml
      have ho2 := HO.out
      rw [← hml] at ho2
      obtain ⟨gg, cap', hv, _, _, hgb, hgg⟩ := ho2.some_ (by omega)
      injection hv with hA _ hcap'
      subst hA hcap'
      have hr := (ho2.cys.at_ hat)
      obtain ⟨g1, o1, cap1, hv1, _, _, _, _, _, hr⟩ := hr
      injection hv1 with hA1 _ hc1e
      subst hc1e
      injection hA1 with hA1
      injection hA1 with hg1 ho1 _
      subst hg1 ho1
      rw [Nat.zero_add] at hr
      have HR := Lib.hid hr
      obtain ⟨c', hc'⟩ : ∃ c', Cv.over c = c' := ⟨_, rfl⟩
      have hnx' : x.set j c' = mapd (fun c => Cv.over c) l (j + 1) := by rw [← hc']; exact hnx
      have HNX := Lib.hid hnx'
      have HFC := Lib.hid hc'
      have HCF := Lib.hid hcf
      obtain ⟨n, d, p, a', u, t, xx, g⟩ := c
      obtain ⟨n2, d2, p2, a2, u2, t2, x2, g2⟩ := c'
      have k0 : (0 : Int) ≤ (j : Int) := by omega
      have ht0 : 0 ≤ t := HCF.out.t0
      have ht1 : t ≤ 1000 := HCF.out.t1
      have HML := Lib.hid hml
      clear hx hnx hr hcj hcf hnx' hc' hat ho2 hml
      go_wp2_with (refine wpList_load_mid rfl _ _ rfl gg (j * 8) rfl [.int .i64 n, .int .i64 d, .int .u8 p, .int .i64 a', .int .i64 u, .int .i64 t, .int .i64 xx, .bool g] _ HR.out Tryz.underlying112 rfl info8 ?_)
      have hS1 : (wr.alloc (.cells #[.int .i64 n, .int .i64 d, .int .u8 p, .int .i64 a', .int .i64 u, .int .i64 t, .int .i64 xx, .bool g] 112)).heap[w.heap.size]? = some (.cells (a.arr (.slice (some ⟨gg, 0, none⟩) l.length c1)) 32 (0, 0)) := alloc_old hz1 HP.out
      have hS2 : (wr.alloc (.cells #[.int .i64 n, .int .i64 d, .int .u8 p, .int .i64 a', .int .i64 u, .int .i64 t, .int .i64 xx, .bool g] 112)).rangeAt wr.heap.size 0 [.int .i64 n, .int .i64 d, .int .u8 p, .int .i64 a', .int .i64 u, .int .i64 t, .int .i64 xx, .bool g] := fun i q hq => (cell_of_row _ _ _ _ _ _ alloc_block).trans (by rw [Nat.zero_add, ← Array.getElem?_toList]; exact hq)
      have hW5 : Below w.heap.size w (wr.alloc (.cells #[.int .i64 n, .int .i64 d, .int .u8 p, .int .i64 a', .int .i64 u, .int .i64 t, .int .i64 xx, .bool g] 112)) := HW.out.alloc (by omega) _
      have hQ5 : (wr.alloc (.cells #[.int .i64 n, .int .i64 d, .int .u8 p, .int .i64 a', .int .i64 u, .int .i64 t, .int .i64 xx, .bool g] 112)).heap[w.heap.size + 1]? = some (.cells (Av.zero.arr (.slice none 0 0)) 32 (0, 0)) := alloc_old hz0 HQ.out
      have hO5 : Own (wr.alloc (.cells #[.int .i64 n, .int .i64 d, .int .u8 p, .int .i64 a', .int .i64 u, .int .i64 t, .int .i64 xx, .bool g] 112)) (w.heap.size + 1 + 1) (.slice (some ⟨gg, 0, none⟩) l.length c1) x := HO.out.alloc
      have hz5 : wr.heap.size < (wr.alloc (.cells #[.int .i64 n, .int .i64 d, .int .u8 p, .int .i64 a', .int .i64 u, .int .i64 t, .int .i64 xx, .bool g] 112)).heap.size := by simp
      obtain ⟨W5, hW5e⟩ : ∃ W5, wr.alloc (.cells #[.int .i64 n, .int .i64 d, .int .u8 p, .int .i64 a', .int .i64 u, .int .i64 t, .int .i64 xx, .bool g] 112) = W5 := ⟨_, rfl⟩
      obtain ⟨C5, hC5⟩ : ∃ C5, wr.heap.size = C5 := ⟨_, rfl⟩
      rw [hW5e] at hS1 hS2 hW5 hQ5 hO5 hz5 ⊢
      rw [hC5] at hS2 hz5 ⊢
      have hg5 : gg < W5.heap.size := by omega
      have h15 : w.heap.size + 1 < W5.heap.size := by omega
      have HS0 : Hid (W5.drew.cell? ⟨w.heap.size, 7, none⟩ = some (.slice (some ⟨gg, 0, none⟩) l.length c1) ∧ W5.drew.rangeAt C5 0 [.int .i64 n, .int .i64 d, .int .u8 p, .int .i64 a', .int .i64 u, .int .i64 t, .int .i64 xx, .bool g]) := ⟨cell_of_row W5.drew _ _ _ _ _ hS1, (World.rangeAt_drew _ _ _ _).2 hS2⟩
      have HS1 := Lib.hid hS1
      have HW5 := Lib.hid hW5
      have HQ5 := Lib.hid hQ5
      have HO5 := Lib.hid hO5
      clear hW5e hC5 hS1 hS2 hW5 hQ5 hO5 HQ HP HR HO HW
      refine laneT_start (ord := [0, 1, 2, 3, 4, 5, 6, 7]) (t := 7) (S := fun w' => w'.cell? ⟨w.heap.size, 7, none⟩ = some (.slice (some ⟨gg, 0, none⟩) l.length c1) ∧ w'.rangeAt C5 0 [.int .i64 n, .int .i64 d, .int .u8 p, .int .i64 a', .int .i64 u, .int .i64 t, .int .i64 xx, .bool g]) rfl (by kernel_rfl) ?_
      iterate 4 (refine laneT_take (v := ?_) rfl (by kernel_rfl) (by kernel_rfl) (by rfl) ?_ (by exact HS0.out) ?_; rotate_left; (focus (intro W hSw; have s7 := hSw.1; go_simp; try (with_reducible rfl))); simp only [Act.put, List.setIfInBounds_toArray, List.set_cons_zero, List.set_cons_succ])
      refine laneT_take (v := .agg #[.int .i64 n, .int .i64 d, .int .u8 p, .int .i64 a', .int .i64 u, .int .i64 t, .int .i64 xx, .bool g]) rfl (by kernel_rfl) (by kernel_rfl) (by rfl) (fun W hSw => exec_load rfl rfl (run_loadAt_mid W C5 0 112 _ _ hSw.2 Tryz.underlying112 rfl info8)) (by exact HS0.out) ?_
      simp only [Act.put, List.setIfInBounds_toArray, List.set_cons_zero, List.set_cons_succ]
      refine laneT_alone rfl (by kernel_rfl) (by rfl) (fun K hK => ?_)
      go_simp
      refine (cyover_any n d p a' u t xx g _).mono ?_
      rw [HFC.out]
      dsimp only [Cv.val, Cv.arr]
      rintro e w6 ⟨rfl, hb6⟩
      have hb7 : Below W5.heap.size W5 w6 := (Below.refl _ W5).drew.trans hb6
      have hS6 : w6.cell? ⟨w.heap.size, 7, none⟩ = some (.slice (some ⟨gg, 0, none⟩) l.length c1) ∧ w6.rangeAt C5 0 [.int .i64 n, .int .i64 d, .int .u8 p, .int .i64 a', .int .i64 u, .int .i64 t, .int .i64 xx, .bool g] := ⟨(World.cell?_of_block (a := ⟨w.heap.size, 7, none⟩) (hb7.block w.heap.size (by omega))).trans HS0.out.1, fun i q hq => (World.cell?_of_block (a := ⟨C5, 0 + i, none⟩) (hb7.block _ hz5)).trans (HS0.out.2 i q hq)⟩
      have HS6 := Lib.hid hS6
      have HS7 : Hid (w6.heap[w.heap.size]? = some (.cells (a.arr (.slice (some ⟨gg, 0, none⟩) l.length c1)) 32 (0, 0))) := (hb7.block _ (by omega)).trans HS1.out
      have HQ7 : Hid (w6.heap[w.heap.size + 1]? = some (.cells (Av.zero.arr (.slice none 0 0)) 32 (0, 0))) := (hb7.block _ (by omega)).trans HQ5.out
      have HO7 : Hid (Own w6 (w.heap.size + 1 + 1) (.slice (some ⟨gg, 0, none⟩) l.length c1) x) := HO5.out.below hb7
      have HW7 : Hid (Below w.heap.size w w6) := HW5.out.trans (hb7.mono (by omega))
      have HST := Lib.hid (Own.set (cs := [.int .i64 n2, .int .i64 d2, .int .u8 p2, .int .i64 a2, .int .i64 u2, .int .i64 t2, .int .i64 x2, .bool g2]) (c := ⟨n2, d2, p2, a2, u2, t2, x2, g2⟩) (k := j) rfl (by have := HO7.out; rw [← HML.out] at this; exact this) (by have := HML.out; omega))
      clear hb6 hb7 hS6
      refine hK _ _ (fun _ => HS6.out) ?_
      clear hK K
      refine laneT_alone rfl (by kernel_rfl) (by rfl) (fun K hK => ?_)
      go_simp
      refine hK _ _ (fun _ => HS6.out) ?_
      clear hK K
      refine laneT_alone rfl (by kernel_rfl) (by rfl) (fun K hK => ?_)
      refine wp_store_mid _ _ _ rfl gg (j * 8) #[.int .i64 n2, .int .i64 d2, .int .u8 p2, .int .i64 a2, .int .i64 u2, .int .i64 t2, .int .i64 x2, .bool g2] rfl rfl HST.out.1 info8 (by simp [Value.oneCell']) ?_
      refine hK _ _ (fun h => absurd rfl h) ?_
      clear hK K
      have hst := HST.out.2
      rw [HML.out] at hst
      rw [HNX.out] at hst
      have hsb : Below (w.heap.size + 1 + 1) w6 (w6.setCells gg (j * 8) [.int .i64 n2, .int .i64 d2, .int .u8 p2, .int .i64 a2, .int .i64 u2, .int .i64 t2, .int .i64 x2, .bool g2]) := setCells_below (Below.refl _ _) hgb
      have HS8 : Hid ((w6.setCells gg (j * 8) [.int .i64 n2, .int .i64 d2, .int .u8 p2, .int .i64 a2, .int .i64 u2, .int .i64 t2, .int .i64 x2, .bool g2]).heap[w.heap.size]? = some (.cells (a.arr (.slice (some ⟨gg, 0, none⟩) l.length c1)) 32 (0, 0))) := (hsb.block _ (by omega)).trans HS7.out
      have HQ8 : Hid ((w6.setCells gg (j * 8) [.int .i64 n2, .int .i64 d2, .int .u8 p2, .int .i64 a2, .int .i64 u2, .int .i64 t2, .int .i64 x2, .bool g2]).heap[w.heap.size + 1]? = some (.cells (Av.zero.arr (.slice none 0 0)) 32 (0, 0))) := (hsb.block _ (by omega)).trans HQ7.out
      have HW8 := Lib.hid (HW7.out.trans (hsb.mono (by omega)))
      have HO8 := Lib.hid hst
      clear hst hsb HST HS7 HQ7 HW7 HO7 HS6 HS0 HS1 HW5 HQ5 HO5
      obtain ⟨W8, hW8⟩ : ∃ W8, w6.setCells gg (j * 8) [.int .i64 n2, .int .i64 d2, .int .u8 p2, .int .i64 a2, .int .i64 u2, .int .i64 t2, .int .i64 x2, .bool g2] = W8 := ⟨_, rfl⟩
      rw [hW8] at HS8 HQ8 HW8 HO8
      simp only [hW8]
      clear hW8
      refine laneT_end (by kernel_rfl) ?_
      go_wp2
      go_roundw
      case rel => exact ⟨j + 1, by omega, by go_num, HW8, HS8, HQ8, HO8⟩
      case measure => simp [intOf]; omega
set_option maxHeartbeats 4000000 in
theorem each_card {w : World} {v : Value} {a : Av} {m : Nat} (h : Cys w 0 w.heap.size v a.l) (hs : a.l.length ≤ 100000) (hf : a.Fit m) (hm : m ≤ 100000) (hc : ∀ c ∈ a.l, c.Fit) (hc2 : ∀ c ∈ a.l, (Cv.card c).Fit) :
    Calls Tryz.prog 85 #[.agg (a.arr v), .func (.func 97) #[] #[]] w (New w (a.each (fun c => Cv.card c))) := by
  have H := Lib.hid h
  have HF := Lib.hid hf
  have HC := Lib.hid hc
  have HC2 := Lib.hid hc2
  obtain ⟨l, hl⟩ : ∃ l, a.l = l := ⟨_, rfl⟩
  have HL := Lib.hid hl
  rw [hl] at hs HC HC2
  clear h hf hc hc2 hl
  go_enter Tryz.func85, Tryz.ntmps85
  go_wp2_with (fail)
  refine (copy_any (a := a) ((H.out.below ((((Below.refl _ w).alloc (Nat.le_refl _) _).alloc (by simp) _))).more (Nat.le_refl _) (by simp; omega)) (by rw [HL.out]; omega)).mono ?_
  rintro e w1 ⟨v1, rfl, ho, hb⟩
  rw [World.size_alloc, World.size_alloc] at ho
  rw [HL.out] at ho
  obtain ⟨A1, c1, rfl, hk1, hk2⟩ := ho.form
  have HO := Lib.hid ho
  obtain ⟨hw, z0, z1, e1⟩ := two_of hb
  rw [e1]
  have HW := Lib.hid hw
  clear e1 hb hw ho H
  go_wp2_with (first | ((with_reducible_and_instances (show wpList _ _ _ (Oper.mk _ (Op.load 32 _) _ _ _ _ :: _) _ _)); refine wl_load Tryz.underlying32 rfl info13 rfl rfl rfl (by (repeat (first | assumption | (with_reducible refine alloc_at ?_; (focus (first | omega | (simp; done) | (simp; omega)))) | (with_reducible refine boxed_at ?_; (focus (first | omega | (simp; done) | (simp; omega)))) | (with_reducible refine alloc_old ?_ ?_; (focus (first | omega | (simp; done) | (simp; omega)))) | (with_reducible refine boxed_old ?_ ?_; (focus (first | omega | (simp; done) | (simp; omega)))) | (with_reducible refine drew_old ?_)))) (by rfl) ?_) | ((with_reducible_and_instances (show wpList _ _ _ (Oper.mk _ (Op.store 32 _ _) _ _ _ _ :: _) _ _)); refine wl_store info13 rfl rfl rfl rfl (by (repeat (first | assumption | (with_reducible refine alloc_at ?_; (focus (first | omega | (simp; done) | (simp; omega)))) | (with_reducible refine boxed_at ?_; (focus (first | omega | (simp; done) | (simp; omega)))) | (with_reducible refine alloc_old ?_ ?_; (focus (first | omega | (simp; done) | (simp; omega)))) | (with_reducible refine boxed_old ?_ ?_; (focus (first | omega | (simp; done) | (simp; omega)))) | (with_reducible refine drew_old ?_)))) (by rfl) (by rfl) (by first | exact Cv.arr_one _ | exact Nv.arr_one _ | exact Av.arr_one rfl | simp [Value.oneCell']) ?_))
  go_loopw [12] (fun i wq => ∃ (j : Nat), j ≤ l.length ∧ i = .int .i64 j ∧ Hid (Below w.heap.size w wq) ∧ Hid (wq.heap[w.heap.size]? = some (.cells (a.arr (.slice A1 l.length c1)) 32 (0, 0))) ∧ Hid (wq.heap[w.heap.size + 1]? = some (.cells (Av.zero.arr (.slice none 0 0)) 32 (0, 0))) ∧ Hid (Own wq (w.heap.size + 1 + 1) (.slice A1 l.length c1) (mapd (fun c => Cv.card c) l j))) (fun i _ => l.length - (intOf i).toNat)
  case atStart =>
    exact ⟨0, by omega, rfl, boxed_below (boxed_below (boxed_below HW.out (Nat.le_refl _)) (by omega)) (Nat.le_refl _), boxed_at (by simp only [boxed_size]; omega), boxed_old (by omega) (boxed_at (by simp only [boxed_size]; omega)), ((HO.out.boxed (by omega)).boxed (by omega)).boxed (by omega)⟩
  case round =>
    clear HO HW
    obtain ⟨j, hj, rfl, HW, HP, HQ, HO⟩ := hrel
    have hz0 : w.heap.size + 1 < wr.heap.size := (Array.getElem?_eq_some_iff.1 HQ.out).1
    have hz1 : w.heap.size < wr.heap.size := by omega
    by_cases hlt : j < l.length
    case neg =>
      obtain rfl : j = l.length := by omega
      have dlt : decide ((l.length : Int) < (l.length : Int)) = false := by simp
      rw [mapd_all] at HO
      have e := boxed_self HP.out
      rw [e]
      clear e HP
      have HQ2 : Hid ((boxed wr w.heap.size (a.arr (.slice A1 l.length c1)) 32).heap[w.heap.size + 1]? = some (.cells (Av.zero.arr (.slice none 0 0)) 32 (0, 0))) := boxed_old (by omega) HQ.out
      have e := boxed_self HQ2.out
      rw [e]
      clear e
      go_wp2_with (first | ((with_reducible_and_instances (show wpList _ _ _ (Oper.mk _ (Op.load 32 _) _ _ _ _ :: _) _ _)); refine wl_load Tryz.underlying32 rfl info13 rfl rfl rfl (by (repeat (first | assumption | (with_reducible refine alloc_at ?_; (focus (first | omega | (simp; done) | (simp; omega)))) | (with_reducible refine boxed_at ?_; (focus (first | omega | (simp; done) | (simp; omega)))) | (with_reducible refine alloc_old ?_ ?_; (focus (first | omega | (simp; done) | (simp; omega)))) | (with_reducible refine boxed_old ?_ ?_; (focus (first | omega | (simp; done) | (simp; omega)))) | (with_reducible refine drew_old ?_)))) (by rfl) ?_) | ((with_reducible_and_instances (show wpList _ _ _ (Oper.mk _ (Op.store 32 _ _) _ _ _ _ :: _) _ _)); refine wl_store info13 rfl rfl rfl rfl (by (repeat (first | assumption | (with_reducible refine alloc_at ?_; (focus (first | omega | (simp; done) | (simp; omega)))) | (with_reducible refine boxed_at ?_; (focus (first | omega | (simp; done) | (simp; omega)))) | (with_reducible refine alloc_old ?_ ?_; (focus (first | omega | (simp; done) | (simp; omega)))) | (with_reducible refine boxed_old ?_ ?_; (focus (first | omega | (simp; done) | (simp; omega)))) | (with_reducible refine drew_old ?_)))) (by rfl) (by rfl) (by first | exact Cv.arr_one _ | exact Nv.arr_one _ | exact Av.arr_one rfl | simp [Value.oneCell']) ?_))
      have hsz := HW.out.size
      refine (settled_any (a := { a with l := l.map (fun c => Cv.card c) }) (m := m) (((HO.out.cys.boxed (.inl (by omega))).boxed (.inl (by omega))).more (Nat.zero_le _) (by simp)) (by simpa using hs) ⟨HF.out.d0, HF.out.d1, HF.out.n0, HF.out.n1, HF.out.r0, HF.out.r1, HF.out.s0, HF.out.s1, HF.out.c0, HF.out.c1, HF.out.p0, HF.out.p1⟩ hm (fun z hz => by obtain ⟨q, hq, rfl⟩ := List.mem_map.1 hz; exact HC2.out q hq)).mono ?_
      rintro e w3 ⟨v3, rfl, ho3, hb3⟩
      have hb4 : Below w.heap.size w w3 := (boxed_below (boxed_below HW.out (Nat.le_refl _)) (by omega)).trans (hb3.mono (by simp; omega))
      have hQ3 : w3.heap[w.heap.size + 1]? = some (.cells (Av.zero.arr (.slice none 0 0)) 32 (0, 0)) := below_block hb3 (boxed_at (by simp; omega))
      obtain ⟨A3, c3, rfl, _, _⟩ := ho3.form
      have HO3 := Lib.hid ho3
      have HW3 := Lib.hid hb4
      have hz3 : w.heap.size + 1 < w3.heap.size := (Array.getElem?_eq_some_iff.1 hQ3).1
      have e := boxed_self hQ3
      rw [e]
      clear e hQ3 hb3 ho3 hb4 HQ2 HQ
      go_wp2_with (first | ((with_reducible_and_instances (show wpList _ _ _ (Oper.mk _ (Op.load 32 _) _ _ _ _ :: _) _ _)); refine wl_load Tryz.underlying32 rfl info13 rfl rfl rfl (by (repeat (first | assumption | (with_reducible refine alloc_at ?_; (focus (first | omega | (simp; done) | (simp; omega)))) | (with_reducible refine boxed_at ?_; (focus (first | omega | (simp; done) | (simp; omega)))) | (with_reducible refine alloc_old ?_ ?_; (focus (first | omega | (simp; done) | (simp; omega)))) | (with_reducible refine boxed_old ?_ ?_; (focus (first | omega | (simp; done) | (simp; omega)))) | (with_reducible refine drew_old ?_)))) (by rfl) ?_) | ((with_reducible_and_instances (show wpList _ _ _ (Oper.mk _ (Op.store 32 _ _) _ _ _ _ :: _) _ _)); refine wl_store info13 rfl rfl rfl rfl (by (repeat (first | assumption | (with_reducible refine alloc_at ?_; (focus (first | omega | (simp; done) | (simp; omega)))) | (with_reducible refine boxed_at ?_; (focus (first | omega | (simp; done) | (simp; omega)))) | (with_reducible refine alloc_old ?_ ?_; (focus (first | omega | (simp; done) | (simp; omega)))) | (with_reducible refine boxed_old ?_ ?_; (focus (first | omega | (simp; done) | (simp; omega)))) | (with_reducible refine drew_old ?_)))) (by rfl) (by rfl) (by first | exact Cv.arr_one _ | exact Nv.arr_one _ | exact Av.arr_one rfl | simp [Value.oneCell']) ?_))
      refine bodyPost_ret (results_cell_row rfl _ _ (w.heap.size+1) 32 _ (0, 0) _ rfl (boxed_at (by simp only [boxed_size]; omega)) Tryz.underlying32 rfl (by exact info13)) rfl ?_
      have ho3 := HO3.out
      rw [boxed_size, boxed_size] at ho3
      have hee : a.each (fun c => Cv.card c) = Av.settled { a with l := l.map (fun c => Cv.card c) } := by unfold Av.each; rw [HL.out]
      rw [hee]
      exact ⟨_, rfl, (((ho3.more (b' := w.heap.size + 1 + 1) (by omega)).boxed (by omega)).boxed (by omega)).more (by omega), boxed_below (boxed_below HW3.out (by omega)) (by omega)⟩
    case pos =>
      have dlt : decide ((j : Int) < (l.length : Int)) = true := by simpa using hlt
      obtain ⟨c, hcj⟩ : ∃ c, l[j]? = some c := ⟨l[j], List.getElem?_eq_getElem hlt⟩
      have hcf := HC.out c (List.mem_of_getElem? hcj)
      have hnx := mapd_next (f := fun c => Cv.card c) hcj
      have hat := mapd_at (f := fun c => Cv.card c) hcj
      have hml : (mapd (fun c => Cv.card c) l j).length = l.length := mapd_len
      obtain ⟨x, hx⟩ : ∃ x, mapd (fun c => Cv.card c) l j = x := ⟨_, rfl⟩
      rw [hx] at HO hnx hat hml
      have ho2 := HO.out
      rw [← hml] at ho2
      obtain ⟨gg, cap', hv, _, _, hgb, hgg⟩ := ho2.some_ (by omega)
      injection hv with hA _ hcap'
      subst hA hcap'
      have hr := (ho2.cys.at_ hat)
      obtain ⟨g1, o1, cap1, hv1, _, _, _, _, _, hr⟩ := hr
      injection hv1 with hA1 _ hc1e
      subst hc1e
      injection hA1 with hA1
      injection hA1 with hg1 ho1 _
      subst hg1 ho1
      rw [Nat.zero_add] at hr
      have HR := Lib.hid hr
      obtain ⟨c', hc'⟩ : ∃ c', Cv.card c = c' := ⟨_, rfl⟩
      have hnx' : x.set j c' = mapd (fun c => Cv.card c) l (j + 1) := by rw [← hc']; exact hnx
      have HNX := Lib.hid hnx'
      have HFC := Lib.hid hc'
      have HCF := Lib.hid hcf
      obtain ⟨n, d, p, a', u, t, xx, g⟩ := c
      obtain ⟨n2, d2, p2, a2, u2, t2, x2, g2⟩ := c'
      have k0 : (0 : Int) ≤ (j : Int) := by omega
      have ht0 : 0 ≤ t := HCF.out.t0
      have ht1 : t ≤ 1000 := HCF.out.t1
      have HML := Lib.hid hml
      clear hx hnx hr hcj hcf hnx' hc' hat ho2 hml
      go_wp2_with (refine wpList_load_mid rfl _ _ rfl gg (j * 8) rfl [.int .i64 n, .int .i64 d, .int .u8 p, .int .i64 a', .int .i64 u, .int .i64 t, .int .i64 xx, .bool g] _ HR.out Tryz.underlying112 rfl info8 ?_)
      have hS1 : (wr.alloc (.cells #[.int .i64 n, .int .i64 d, .int .u8 p, .int .i64 a', .int .i64 u, .int .i64 t, .int .i64 xx, .bool g] 112)).heap[w.heap.size]? = some (.cells (a.arr (.slice (some ⟨gg, 0, none⟩) l.length c1)) 32 (0, 0)) := alloc_old hz1 HP.out
      have hS2 : (wr.alloc (.cells #[.int .i64 n, .int .i64 d, .int .u8 p, .int .i64 a', .int .i64 u, .int .i64 t, .int .i64 xx, .bool g] 112)).rangeAt wr.heap.size 0 [.int .i64 n, .int .i64 d, .int .u8 p, .int .i64 a', .int .i64 u, .int .i64 t, .int .i64 xx, .bool g] := fun i q hq => (cell_of_row _ _ _ _ _ _ alloc_block).trans (by rw [Nat.zero_add, ← Array.getElem?_toList]; exact hq)
      have hW5 : Below w.heap.size w (wr.alloc (.cells #[.int .i64 n, .int .i64 d, .int .u8 p, .int .i64 a', .int .i64 u, .int .i64 t, .int .i64 xx, .bool g] 112)) := HW.out.alloc (by omega) _
      have hQ5 : (wr.alloc (.cells #[.int .i64 n, .int .i64 d, .int .u8 p, .int .i64 a', .int .i64 u, .int .i64 t, .int .i64 xx, .bool g] 112)).heap[w.heap.size + 1]? = some (.cells (Av.zero.arr (.slice none 0 0)) 32 (0, 0)) := alloc_old hz0 HQ.out
      have hO5 : Own (wr.alloc (.cells #[.int .i64 n, .int .i64 d, .int .u8 p, .int .i64 a', .int .i64 u, .int .i64 t, .int .i64 xx, .bool g] 112)) (w.heap.size + 1 + 1) (.slice (some ⟨gg, 0, none⟩) l.length c1) x := HO.out.alloc
      have hz5 : wr.heap.size < (wr.alloc (.cells #[.int .i64 n, .int .i64 d, .int .u8 p, .int .i64 a', .int .i64 u, .int .i64 t, .int .i64 xx, .bool g] 112)).heap.size := by simp
      obtain ⟨W5, hW5e⟩ : ∃ W5, wr.alloc (.cells #[.int .i64 n, .int .i64 d, .int .u8 p, .int .i64 a', .int .i64 u, .int .i64 t, .int .i64 xx, .bool g] 112) = W5 := ⟨_, rfl⟩
      obtain ⟨C5, hC5⟩ : ∃ C5, wr.heap.size = C5 := ⟨_, rfl⟩
      rw [hW5e] at hS1 hS2 hW5 hQ5 hO5 hz5 ⊢
      rw [hC5] at hS2 hz5 ⊢
      have hg5 : gg < W5.heap.size := by omega
      have h15 : w.heap.size + 1 < W5.heap.size := by omega
      have HS0 : Hid (W5.drew.cell? ⟨w.heap.size, 7, none⟩ = some (.slice (some ⟨gg, 0, none⟩) l.length c1) ∧ W5.drew.rangeAt C5 0 [.int .i64 n, .int .i64 d, .int .u8 p, .int .i64 a', .int .i64 u, .int .i64 t, .int .i64 xx, .bool g]) := ⟨cell_of_row W5.drew _ _ _ _ _ hS1, (World.rangeAt_drew _ _ _ _).2 hS2⟩
      have HS1 := Lib.hid hS1
      have HW5 := Lib.hid hW5
      have HQ5 := Lib.hid hQ5
      have HO5 := Lib.hid hO5
      clear hW5e hC5 hS1 hS2 hW5 hQ5 hO5 HQ HP HR HO HW
      refine laneT_start (ord := [0, 1, 2, 3, 4, 5, 6, 7]) (t := 7) (S := fun w' => w'.cell? ⟨w.heap.size, 7, none⟩ = some (.slice (some ⟨gg, 0, none⟩) l.length c1) ∧ w'.rangeAt C5 0 [.int .i64 n, .int .i64 d, .int .u8 p, .int .i64 a', .int .i64 u, .int .i64 t, .int .i64 xx, .bool g]) rfl (by kernel_rfl) ?_
      iterate 4 (refine laneT_take (v := ?_) rfl (by kernel_rfl) (by kernel_rfl) (by rfl) ?_ (by exact HS0.out) ?_; rotate_left; (focus (intro W hSw; have s7 := hSw.1; go_simp; try (with_reducible rfl))); simp only [Act.put, List.setIfInBounds_toArray, List.set_cons_zero, List.set_cons_succ])
      refine laneT_take (v := .agg #[.int .i64 n, .int .i64 d, .int .u8 p, .int .i64 a', .int .i64 u, .int .i64 t, .int .i64 xx, .bool g]) rfl (by kernel_rfl) (by kernel_rfl) (by rfl) (fun W hSw => exec_load rfl rfl (run_loadAt_mid W C5 0 112 _ _ hSw.2 Tryz.underlying112 rfl info8)) (by exact HS0.out) ?_
      simp only [Act.put, List.setIfInBounds_toArray, List.set_cons_zero, List.set_cons_succ]
      refine laneT_alone rfl (by kernel_rfl) (by rfl) (fun K hK => ?_)
      go_simp
      refine (cycard_any n d p a' u t xx g _ (by omega) (by omega)).mono ?_
      rw [HFC.out]
      dsimp only [Cv.val, Cv.arr]
      rintro e w6 ⟨rfl, hb6⟩
      have hb7 : Below W5.heap.size W5 w6 := (Below.refl _ W5).drew.trans hb6
      have hS6 : w6.cell? ⟨w.heap.size, 7, none⟩ = some (.slice (some ⟨gg, 0, none⟩) l.length c1) ∧ w6.rangeAt C5 0 [.int .i64 n, .int .i64 d, .int .u8 p, .int .i64 a', .int .i64 u, .int .i64 t, .int .i64 xx, .bool g] := ⟨(World.cell?_of_block (a := ⟨w.heap.size, 7, none⟩) (hb7.block w.heap.size (by omega))).trans HS0.out.1, fun i q hq => (World.cell?_of_block (a := ⟨C5, 0 + i, none⟩) (hb7.block _ hz5)).trans (HS0.out.2 i q hq)⟩
      have HS6 := Lib.hid hS6
      have HS7 : Hid (w6.heap[w.heap.size]? = some (.cells (a.arr (.slice (some ⟨gg, 0, none⟩) l.length c1)) 32 (0, 0))) := (hb7.block _ (by omega)).trans HS1.out
      have HQ7 : Hid (w6.heap[w.heap.size + 1]? = some (.cells (Av.zero.arr (.slice none 0 0)) 32 (0, 0))) := (hb7.block _ (by omega)).trans HQ5.out
      have HO7 : Hid (Own w6 (w.heap.size + 1 + 1) (.slice (some ⟨gg, 0, none⟩) l.length c1) x) := HO5.out.below hb7
      have HW7 : Hid (Below w.heap.size w w6) := HW5.out.trans (hb7.mono (by omega))
      have HST := Lib.hid (Own.set (cs := [.int .i64 n2, .int .i64 d2, .int .u8 p2, .int .i64 a2, .int .i64 u2, .int .i64 t2, .int .i64 x2, .bool g2]) (c := ⟨n2, d2, p2, a2, u2, t2, x2, g2⟩) (k := j) rfl (by have := HO7.out; rw [← HML.out] at this; exact this) (by have := HML.out; omega))
      clear hb6 hb7 hS6
      refine hK _ _ (fun _ => HS6.out) ?_
      clear hK K
      refine laneT_alone rfl (by kernel_rfl) (by rfl) (fun K hK => ?_)
      go_simp
      refine hK _ _ (fun _ => HS6.out) ?_
      clear hK K
      refine laneT_alone rfl (by kernel_rfl) (by rfl) (fun K hK => ?_)
      refine wp_store_mid _ _ _ rfl gg (j * 8) #[.int .i64 n2, .int .i64 d2, .int .u8 p2, .int .i64 a2, .int .i64 u2, .int .i64 t2, .int .i64 x2, .bool g2] rfl rfl HST.out.1 info8 (by simp [Value.oneCell']) ?_
      refine hK _ _ (fun h => absurd rfl h) ?_
      clear hK K
      have hst := HST.out.2
      rw [HML.out] at hst
      rw [HNX.out] at hst
      have hsb : Below (w.heap.size + 1 + 1) w6 (w6.setCells gg (j * 8) [.int .i64 n2, .int .i64 d2, .int .u8 p2, .int .i64 a2, .int .i64 u2, .int .i64 t2, .int .i64 x2, .bool g2]) := setCells_below (Below.refl _ _) hgb
      have HS8 : Hid ((w6.setCells gg (j * 8) [.int .i64 n2, .int .i64 d2, .int .u8 p2, .int .i64 a2, .int .i64 u2, .int .i64 t2, .int .i64 x2, .bool g2]).heap[w.heap.size]? = some (.cells (a.arr (.slice (some ⟨gg, 0, none⟩) l.length c1)) 32 (0, 0))) := (hsb.block _ (by omega)).trans HS7.out
      have HQ8 : Hid ((w6.setCells gg (j * 8) [.int .i64 n2, .int .i64 d2, .int .u8 p2, .int .i64 a2, .int .i64 u2, .int .i64 t2, .int .i64 x2, .bool g2]).heap[w.heap.size + 1]? = some (.cells (Av.zero.arr (.slice none 0 0)) 32 (0, 0))) := (hsb.block _ (by omega)).trans HQ7.out
      have HW8 := Lib.hid (HW7.out.trans (hsb.mono (by omega)))
      have HO8 := Lib.hid hst
      clear hst hsb HST HS7 HQ7 HW7 HO7 HS6 HS0 HS1 HW5 HQ5 HO5
      obtain ⟨W8, hW8⟩ : ∃ W8, w6.setCells gg (j * 8) [.int .i64 n2, .int .i64 d2, .int .u8 p2, .int .i64 a2, .int .i64 u2, .int .i64 t2, .int .i64 x2, .bool g2] = W8 := ⟨_, rfl⟩
      rw [hW8] at HS8 HQ8 HW8 HO8
      simp only [hW8]
      clear hW8
      refine laneT_end (by kernel_rfl) ?_
      go_wp2
      go_roundw
      case rel => exact ⟨j + 1, by omega, by go_num, HW8, HS8, HQ8, HO8⟩
      case measure => simp [intOf]; omega
end Go.Proofs.YtblikgbcakgdnaaGreat
