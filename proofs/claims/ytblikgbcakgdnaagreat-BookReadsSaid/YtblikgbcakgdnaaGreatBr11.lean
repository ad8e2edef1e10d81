/-
  Those cycles that are at their end are past: package account's 'settled'. No conditions but the sizes.
-/
import Derived.Test.YtblikgbcakgdnaaGreatBr09
import Derived.Test.YtblikgbcakgdnaaGreatBr10
set_option linter.unusedSimpArgs false
set_option linter.unusedVariables false
namespace Go.Proofs.YtblikgbcakgdnaaGreat
set_option maxRecDepth 20000
open Go.ChangeShapes Go.WideShapes Go.ChangeAt Go.RowKit

/-- So many cycles have been looked at. -/
def Av.part (a : Av) (j : Nat) : Av := (a.l.take j).foldl Av.with_ { a with l := [] }
theorem Av.part_all (a : Av) : a.part a.l.length = a.settled := by unfold Av.part Av.settled; rw [List.take_length]
theorem Av.part_next {a : Av} {j : Nat} {c : Cv} (h : a.l[j]? = some c) : a.part (j + 1) = (a.part j).with_ c := by
  have hj := (List.getElem?_eq_some_iff.1 h).1
  have hc : a.l[j] = c := (List.getElem?_eq_some_iff.1 h).2
  unfold Av.part
  rw [List.take_succ_eq_append_getElem hj, List.foldl_append, hc]; rfl
theorem Av.part_len (a : Av) (j : Nat) : (a.part j).l.length ≤ j := by
  unfold Av.part
  generalize hl : a.l.take j = l
  have hn : l.length ≤ j := by rw [← hl, List.length_take]; omega
  have : ∀ (l : List Cv) (x : Av), (l.foldl Av.with_ x).l.length ≤ x.l.length + l.length := by
    intro l
    induction l with
    | nil => intro x; exact Nat.le_refl _
    | cons c r ih => intro x; rw [List.foldl_cons, List.length_cons]; have := ih (x.with_ c); have := Av.with_len x c; omega
  have := this l { a with l := [] }
  simp only [List.length_nil] at this
  omega
theorem Av.part_fit {a : Av} {m : Nat} (h : a.Fit m) (hc : ∀ c ∈ a.l, c.Fit) (j : Nat) : (a.part j).Fit (m + j) := by
  induction j with
  | zero => exact ⟨h.d0, h.d1, h.n0, h.n1, h.r0, h.r1, h.s0, h.s1, h.c0, h.c1, h.p0, h.p1⟩
  | succ j ih =>
    by_cases hj : j < a.l.length
    · rw [Av.part_next (List.getElem?_eq_getElem hj)]
      exact ih.with_ (hc _ (List.getElem_mem _))
    · have : a.part (j + 1) = a.part j := by unfold Av.part; rw [List.take_of_length_le (by omega), List.take_of_length_le (by omega)]
      rw [this]
      exact ih.more (by omega)
set_option maxHeartbeats 2000000 in
theorem settled_any {w : World} {v : Value} {a : Av} {m : Nat} (h : Cys w 0 w.heap.size v a.l) (hs : a.l.length ≤ 100000) (hf : a.Fit m) (hm : m ≤ 100000) (hc : ∀ c ∈ a.l, c.Fit) :
    Calls Tryz.prog 93 #[.agg (a.arr v)] w (New w a.settled) := by
  obtain ⟨A, cap, rfl, hcap, hcm, _⟩ := id h
  have H := Lib.hid h
  have HF := Lib.hid hf
  have HC := Lib.hid hc
  clear h hf hc
  go_enter Tryz.func93, Tryz.ntmps93
  go_wp2
  go_loopw [11] (fun i wq => ∃ (j : Nat) (v' : Value), j ≤ a.l.length ∧ i = .int .i64 j ∧ Hid (Below w.heap.size w wq) ∧ Hid (wq.heap[w.heap.size]? = some (.cells ((a.part j).arr v') 32 (0, 0))) ∧ Hid (wq.heap[w.heap.size + 1]? = some (.cells (Av.zero.arr (.slice none 0 0)) 32 (0, 0))) ∧ Hid (Own wq (w.heap.size + 1 + 1) v' (a.part j).l)) (fun i _ => a.l.length - (intOf i).toNat)
  case atStart =>
    exact ⟨0, .slice none 0 0, by omega, rfl, ((Below.refl _ w).alloc (Nat.le_refl _) _).alloc (by simp) _, alloc_old (by simp) (alloc_at rfl), alloc_at (by simp), Own.nil _ _⟩
  case round =>
    obtain ⟨j, v', hj, rfl, HW, HP, HQ, HO⟩ := hrel
    have hz0 : w.heap.size + 1 < wr.heap.size := (Array.getElem?_eq_some_iff.1 HQ.out).1
    have hz1 : w.heap.size < wr.heap.size := by omega
    have e := boxed_self HP.out
    by_cases hlt : j < a.l.length
    case neg =>
      obtain rfl : j = a.l.length := by omega
      have dlt : decide ((a.l.length : Int) < (a.l.length : Int)) = false := by simp
      rw [Av.part_all] at HO HP e
      obtain ⟨A', c', rfl, _, _⟩ := HO.out.form
      rw [e]
      clear e HP
      have HQ2 : Hid ((boxed wr w.heap.size (a.settled.arr (.slice A' a.settled.l.length c')) 32).heap[w.heap.size + 1]? = some (.cells (Av.zero.arr (.slice none 0 0)) 32 (0, 0))) := boxed_old (by omega) HQ.out
      have e := boxed_self HQ2.out
      rw [e]
      clear e
      go_wp2_with (first | ((with_reducible_and_instances (show wpList _ _ _ (Oper.mk _ (Op.load 32 _) _ _ _ _ :: _) _ _)); refine wl_load Tryz.underlying32 rfl info13 rfl rfl rfl (by (repeat (first | assumption | (with_reducible refine alloc_at ?_; (focus (first | omega | (simp; done) | (simp; omega)))) | (with_reducible refine boxed_at ?_; (focus (first | omega | (simp; done) | (simp; omega)))) | (with_reducible refine alloc_old ?_ ?_; (focus (first | omega | (simp; done) | (simp; omega)))) | (with_reducible refine boxed_old ?_ ?_; (focus (first | omega | (simp; done) | (simp; omega)))) | (with_reducible refine drew_old ?_)))) (by rfl) ?_) | ((with_reducible_and_instances (show wpList _ _ _ (Oper.mk _ (Op.store 32 _ _) _ _ _ _ :: _) _ _)); refine wl_store info13 rfl rfl rfl rfl (by (repeat (first | assumption | (with_reducible refine alloc_at ?_; (focus (first | omega | (simp; done) | (simp; omega)))) | (with_reducible refine boxed_at ?_; (focus (first | omega | (simp; done) | (simp; omega)))) | (with_reducible refine alloc_old ?_ ?_; (focus (first | omega | (simp; done) | (simp; omega)))) | (with_reducible refine boxed_old ?_ ?_; (focus (first | omega | (simp; done) | (simp; omega)))) | (with_reducible refine drew_old ?_)))) (by rfl) (by rfl) (by first | exact Cv.arr_one _ | exact Nv.arr_one _ | exact Av.arr_one rfl | simp [Value.oneCell']) ?_))
      refine bodyPost_ret (results_cell_row rfl _ _ (w.heap.size+1) 32 _ (0, 0) _ rfl (boxed_at (by simp only [boxed_size]; omega)) Tryz.underlying32 rfl (by exact info13)) rfl ?_
      exact ⟨_, rfl, (((HO.out.boxed (by omega)).boxed (by omega)).boxed (by omega)).more (by omega), boxed_below (boxed_below (boxed_below HW.out (Nat.le_refl _)) (by omega)) (by omega)⟩
    case pos =>
      have dlt : decide ((j : Int) < (a.l.length : Int)) = true := by simpa using hlt
      obtain ⟨c, hcj⟩ : ∃ c, a.l[j]? = some c := ⟨a.l[j], List.getElem?_eq_getElem hlt⟩
      have hcf := HC.out c (List.mem_of_getElem? hcj)
      obtain ⟨gg, oo, cap', hv, _, _, _, _, hgg, hr⟩ := H.out.at_ hcj
      injection hv with hA _ hcap'
      subst hA hcap'
      have hrw : wr.rangeAt gg (oo + j * 8) c.cs := fun i u hu => (World.cell?_of_block (a := ⟨gg, oo + j * 8 + i, none⟩) (HW.out.block gg hgg)).trans (hr i u hu)
      have hrb : (boxed wr w.heap.size ((a.part j).arr v') 32).rangeAt gg (oo + j * 8) c.cs := fun i u hu => (boxed_cell_other (by omega)).trans (hrw i u hu)
      have HR := Lib.hid hrb
      have k0 : (0 : Int) ≤ (j : Int) := by omega
      have hpf := Av.part_fit HF.out HC.out j
      have hpl := Av.part_len a j
      have hnx := Av.part_next hcj
      obtain ⟨x, hx⟩ : ∃ x, a.part j = x := ⟨_, rfl⟩
      rw [hx] at hpf hpl hnx HP HO HR e
      have HNX := Lib.hid hnx
      have HPF := Lib.hid hpf
      have HCF := Lib.hid hcf
      obtain ⟨A', c', rfl, _, _⟩ := HO.out.form
      obtain ⟨n, d, p, a', u, t, xx, g⟩ := c
      clear hx hnx hrb hrw hr hcj hpf hcf
      rw [e]
      clear e HP
      go_wp2_with (first | (refine wpList_load_mid rfl _ _ rfl gg (oo + j * 8) rfl [.int .i64 n, .int .i64 d, .int .u8 p, .int .i64 a', .int .i64 u, .int .i64 t, .int .i64 xx, .bool g] _ HR.out Tryz.underlying112 rfl info8 ?_) | ((with_reducible_and_instances (show wpList _ _ _ (Oper.mk _ (Op.load 32 _) _ _ _ _ :: _) _ _)); refine wl_load Tryz.underlying32 rfl info13 rfl rfl rfl (by (repeat (first | assumption | (with_reducible refine alloc_at ?_; (focus (first | omega | (simp; done) | (simp; omega)))) | (with_reducible refine boxed_at ?_; (focus (first | omega | (simp; done) | (simp; omega)))) | (with_reducible refine alloc_old ?_ ?_; (focus (first | omega | (simp; done) | (simp; omega)))) | (with_reducible refine boxed_old ?_ ?_; (focus (first | omega | (simp; done) | (simp; omega)))) | (with_reducible refine drew_old ?_)))) (by rfl) ?_) | ((with_reducible_and_instances (show wpList _ _ _ (Oper.mk _ (Op.store 32 _ _) _ _ _ _ :: _) _ _)); refine wl_store info13 rfl rfl rfl rfl (by (repeat (first | assumption | (with_reducible refine alloc_at ?_; (focus (first | omega | (simp; done) | (simp; omega)))) | (with_reducible refine boxed_at ?_; (focus (first | omega | (simp; done) | (simp; omega)))) | (with_reducible refine alloc_old ?_ ?_; (focus (first | omega | (simp; done) | (simp; omega)))) | (with_reducible refine boxed_old ?_ ?_; (focus (first | omega | (simp; done) | (simp; omega)))) | (with_reducible refine drew_old ?_)))) (by rfl) (by rfl) (by first | exact Cv.arr_one _ | exact Nv.arr_one _ | exact Av.arr_one rfl | simp [Value.oneCell']) ?_) )
      refine (with_any ⟨n, d, p, a', u, t, xx, g⟩ (((HO.out.boxed (by omega)).alloc)) (by simp; omega) (by omega) HPF.out (by omega) HCF.out).mono ?_
      rintro e w2 ⟨v2, rfl, ho2, hg2, hat2⟩
      have hb2 := grown_from (b := w.heap.size + 1 + 1) hg2 (fun i hi => (HO.out.at_ i hi).1) (by simp; omega)
      have hP2 : w2.heap[w.heap.size]? = some (.cells (x.arr (.slice A' x.l.length c')) 32 (0, 0)) := (hb2.block _ (by omega)).trans (alloc_old (by simp; omega) (boxed_at hz1))
      have HQ2 : Hid (w2.heap[w.heap.size + 1]? = some (.cells (Av.zero.arr (.slice none 0 0)) 32 (0, 0))) := (hb2.block _ (by omega)).trans (alloc_old (by simp; omega) (boxed_old (by omega) HQ.out))
      have HW2 : Hid (Below w.heap.size w w2) := ((boxed_below HW.out (Nat.le_refl _)).alloc (by simp; omega) _).trans (hb2.mono (by omega))
      have hz2 : w.heap.size + 1 < w2.heap.size := (Array.getElem?_eq_some_iff.1 HQ2.out).1
      have hz3 : w.heap.size < w2.heap.size := by omega
      have e := boxed_self hP2
      rw [e]
      rw [← HNX.out] at ho2 ⊢
      obtain ⟨A2, c2, rfl, _, _⟩ := ho2.form
      have HO2 := Lib.hid ho2
      clear e hP2 hb2 hg2 hat2 ho2
      go_wp2_with (first | ((with_reducible_and_instances (show wpList _ _ _ (Oper.mk _ (Op.load 32 _) _ _ _ _ :: _) _ _)); refine wl_load Tryz.underlying32 rfl info13 rfl rfl rfl (by (repeat (first | assumption | (with_reducible refine alloc_at ?_; (focus (first | omega | (simp; done) | (simp; omega)))) | (with_reducible refine boxed_at ?_; (focus (first | omega | (simp; done) | (simp; omega)))) | (with_reducible refine alloc_old ?_ ?_; (focus (first | omega | (simp; done) | (simp; omega)))) | (with_reducible refine boxed_old ?_ ?_; (focus (first | omega | (simp; done) | (simp; omega)))) | (with_reducible refine drew_old ?_)))) (by rfl) ?_) | ((with_reducible_and_instances (show wpList _ _ _ (Oper.mk _ (Op.store 32 _ _) _ _ _ _ :: _) _ _)); refine wl_store info13 rfl rfl rfl rfl (by (repeat (first | assumption | (with_reducible refine alloc_at ?_; (focus (first | omega | (simp; done) | (simp; omega)))) | (with_reducible refine boxed_at ?_; (focus (first | omega | (simp; done) | (simp; omega)))) | (with_reducible refine alloc_old ?_ ?_; (focus (first | omega | (simp; done) | (simp; omega)))) | (with_reducible refine boxed_old ?_ ?_; (focus (first | omega | (simp; done) | (simp; omega)))) | (with_reducible refine drew_old ?_)))) (by rfl) (by rfl) (by first | exact Cv.arr_one _ | exact Nv.arr_one _ | exact Av.arr_one rfl | simp [Value.oneCell']) ?_))
      go_roundw
      case rel => exact ⟨j + 1, _, by omega, by go_num, boxed_below HW2.out (Nat.le_refl _), boxed_at hz3, boxed_old (by omega) HQ2.out, HO2.out.boxed (by omega)⟩
      case measure => simp [intOf]; omega
end Go.Proofs.YtblikgbcakgdnaaGreat
