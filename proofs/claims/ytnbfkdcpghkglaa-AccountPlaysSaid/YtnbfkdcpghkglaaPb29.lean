/-
  The document's own Step: an answer that is heard. No conditions but the sizes.
-/
import Derived.Test.YtnbfkdcpghkglaaPb24
import Derived.Test.YtnbfkdcpghkglaaPb26
import Derived.Test.YtnbfkdcpghkglaaPb28
set_option linter.unusedSimpArgs false
set_option linter.unusedVariables false
namespace Go.Proofs.Ytnbfkdcpghkglaa
set_option maxRecDepth 100000
open Go.ChangeShapes Go.WideShapes Go.ChangeAt Go.RowKit

/-- Only new memory has been written. -/
def Grown (a b : World) : Prop := Below a.heap.size a b
set_option maxHeartbeats 16000000 in
theorem step_hear {w : World} {b : Bk} {i m : Nat} {zn zd zp za zu zt zx : Int} {zg : Bool} (NK T M V : Int) (hi : i < 32) (hone : b.One) (hl : Cys w 0 w.heap.size (b.v i) (b.s i).l) (hlen : (b.s i).l.length ≤ 100000) (hnum : ∀ (k : Nat) (c : Cv), (b.s i).l[k]? = some c → c.n = (k : Int)) (hm : (b.s i).l[m]? = some ⟨zn, zd, zp, za, zu, zt, zx, zg⟩) (hp : zp < 7) (hh : Cv.Heard i ⟨zn, zd, zp, za, zu, zt, zx, zg⟩ ⟨NK, i, m, T, M, V⟩) (ht : zp = 1 → 1 ≤ zt) (htd : 0 ≤ b.td ∧ b.td ≤ 3652058) (hcr : -100000000000 ≤ (b.s i).cr ∧ (b.s i).cr ≤ 100000000000) (hu : -1000000000000 ≤ zu ∧ zu ≤ 1000000000000) :
    Calls Try.prog 32 #[.agg b.arr, .agg #[.int .u8 10, .int .i64 0, .int .i64 0, .int .i64 0, .int .i64 0, .int .u8 0, .int .i64 0, .int .i64 0, .bool false, .bool false, .int .u8 NK, .int .i64 (i : Int), .int .i64 (m : Int), .int .i64 T, .int .i64 M, .int .u8 V]] w fun e w' => ∃ v', e = .returned (.tuple #[.agg (b.put i ({ b.s i with cr := Cy.gain (b.s i).cr ⟨zn, zd, zp, za, zu, zt, zx, zg⟩ (Cv.next ⟨zn, zd, zp, za, zu, zt, zx, zg⟩ V b.td ((b.s i).st == 3)), l := (b.s i).l.set m (Cv.next ⟨zn, zd, zp, za, zu, zt, zx, zg⟩ V b.td ((b.s i).st == 3)) } : Sv) v').arr, .int .i64 0]) ∧ Cys w' w.heap.size w'.heap.size v' ((b.s i).l.set m (Cv.next ⟨zn, zd, zp, za, zu, zt, zx, zg⟩ V b.td ((b.s i).st == 3))) ∧ Below w.heap.size w w' := by
  obtain ⟨s, hs⟩ : ∃ s, b.s i = s := ⟨_, rfl⟩
  obtain ⟨v, hv⟩ : ∃ v, b.v i = v := ⟨_, rfl⟩
  rw [hs] at hl hlen hnum hm hcr
  rw [hv] at hl
  have hmn := hnum m _ hm
  dsimp only at hmn
  subst hmn
  obtain ⟨gg, oo, vc, hvv, hml, hvc, hvm, _, hgl, hr⟩ := hl.at_ hm
  subst hvv
  have HON := Lib.hid hone
  have HS := Lib.hid hs
  have HV := Lib.hid hv
  have HL := Lib.hid hl
  have HNUM := Lib.hid hnum
  have HM := Lib.hid hm
  have HH := Lib.hid hh
  have HT := Lib.hid ht
  have hi0 : (0 : Int) ≤ (i : Int) := by omega
  have hi1 : (i : Int) < 32 := by omega
  have HRG : Hid (∀ X : World, X.heap[w.heap.size]? = some (.cells b.arr 73 (0, 0)) → X.rangeAt w.heap.size (2 + i * 7) (s.arr (.slice (some ⟨gg, oo, none⟩) s.l.length vc)).toList) := fun X hX => by
    have := Bk.range hX hi
    rw [hs, hv] at this
    exact this
  rw [hs]
  obtain ⟨q, hq⟩ : ∃ q, Cv.next ⟨(m : Int), zd, zp, za, zu, zt, zx, zg⟩ V b.td (s.st == 3) = q := ⟨_, rfl⟩
  rw [hq]
  have hheq : Cv.hear i ⟨(m : Int), zd, zp, za, zu, zt, zx, zg⟩ ⟨NK, i, m, T, M, V⟩ b.td (s.st == 3) = q := (if_pos hh).trans hq
  have HQ := Lib.hid hheq
  have hqu : q.u = zu := by
    rw [← hq]
    unfold Cv.next Cv.charged Cv.allocated Cv.shipped Cv.back Cv.to
    repeat' split
    all_goals rfl
  clear hs hv hone hl hnum hm hh ht hr hq hheq
  obtain ⟨qn, qd, qp, qa, qu, qt, qx, qg⟩ := q
  dsimp only at hqu
  have HQU := Lib.hid hqu
  clear hqu
  go_enter Try.func32, Try.ntmps32
  go_upto_region 19 with fail
  obtain ⟨W0, hW0⟩ : ∃ W0, ((w.alloc (.cells b.arr 73)).alloc (.cells #[.int .u8 10, .int .i64 0, .int .i64 0, .int .i64 0, .int .i64 0, .int .u8 0, .int .i64 0, .int .i64 0, .bool false, .bool false, .int .u8 NK, .int .i64 (i : Int), .int .i64 (m : Int), .int .i64 T, .int .i64 M, .int .u8 V] 61)).alloc (.cells Try.zeroCells73 73) = W0 := ⟨_, rfl⟩
  have hB : W0.heap[w.heap.size]? = some (.cells b.arr 73 (0, 0)) := by rw [← hW0]; exact alloc_old (by simp; omega) (alloc_old (by simp) (alloc_at rfl))
  have hO : W0.heap[w.heap.size + 1]? = some (.cells #[.int .u8 10, .int .i64 0, .int .i64 0, .int .i64 0, .int .i64 0, .int .u8 0, .int .i64 0, .int .i64 0, .bool false, .bool false, .int .u8 NK, .int .i64 (i : Int), .int .i64 (m : Int), .int .i64 T, .int .i64 M, .int .u8 V] 61 (0, 0)) := by rw [← hW0]; exact alloc_old (by simp) (alloc_at (by simp))
  have hZ : W0.heap[w.heap.size + 1 + 1]? = some (.cells Try.zeroCells73 73 (0, 0)) := by rw [← hW0]; exact alloc_at (by simp)
  have hW : Below w.heap.size w W0 := by rw [← hW0]; exact (((Below.refl _ w).alloc (Nat.le_refl _) _).alloc (by simp) _).alloc (by simp; omega) _
  have hz2 : w.heap.size + 1 + 1 < W0.heap.size := (Array.getElem?_eq_some_iff.1 hZ).1
  have hz1 : w.heap.size + 1 < W0.heap.size := by omega
  have hz0 : w.heap.size < W0.heap.size := by omega
  rw [hW0]
  clear hW0
  obtain ⟨o0, o1, o2, o3, o10, o11, o12, o13, o14, o15⟩ := ocells hO
  have HW := Lib.hid hW
  have HB := Lib.hid hB
  have e9 := boxed_self hB
  rw [e9]
  clear e9 hW hB
  go_upto_region 20 with (first | ((with_reducible_and_instances (show wpList _ _ _ (Oper.mk _ (Op.load 36 _ ) _ _ _ _ :: _) _ _)); refine wpList_load_mid rfl _ _ rfl w.heap.size (2 + i * 7) rfl (s.arr (.slice (some ⟨gg, oo, none⟩) s.l.length vc)).toList _ (HRG.out _ (boxed_at hz0)) Try.underlying36 rfl info7s ?_; rw [Array.toArray_toList]) | ((with_reducible_and_instances (show wpList _ _ _ (Oper.mk _ (Op.store 36 _ _ ) _ _ _ _ :: _) _ _)); refine wl_store info7s rfl rfl rfl rfl (by (repeat (first | assumption | (with_reducible refine alloc_at ?_; (focus (first | omega | (simp; done) | (simp; omega)))) | (with_reducible refine boxed_at ?_; (focus (first | omega | (simp; done) | (simp; omega)))) | (with_reducible refine alloc_old ?_ ?_; (focus (first | omega | (simp; done) | (simp; omega)))) | (with_reducible refine boxed_old ?_ ?_; (focus (first | omega | (simp; done) | (simp; omega)))) | (with_reducible refine drew_old ?_)))) (by rfl) (by rfl) (Sv.arr_one rfl) ?_))
  obtain ⟨W1, hW1⟩ : ∃ W1, boxed ((boxed W0 w.heap.size b.arr 73).alloc (.cells #[.int .u8 0, .int .i64 0, .int .i64 0, .int .i64 0, .int .i64 0, .bool false, .slice none 0 0] 36)) W0.heap.size (s.arr (.slice (some ⟨gg, oo, none⟩) s.l.length vc)) 36 = W1 := ⟨_, rfl⟩
  have HB1 : Hid (W1.heap[w.heap.size]? = some (.cells b.arr 73 (0, 0))) := by show _ = _; rw [← hW1]; exact boxed_old (by omega) (alloc_old (by simp; omega) (boxed_at hz0))
  have HS1 : Hid (W1.heap[W0.heap.size]? = some (.cells (s.arr (.slice (some ⟨gg, oo, none⟩) s.l.length vc)) 36 (0, 0))) := by show _ = _; rw [← hW1]; exact boxed_at (by simp)
  have HZ1 : Hid (W1.heap[w.heap.size + 1 + 1]? = some (.cells Try.zeroCells73 73 (0, 0))) := by show _ = _; rw [← hW1]; exact boxed_old (by omega) (alloc_old (by simp; omega) (boxed_old (by omega) hZ))
  have hk1 : ∀ i, i < W0.heap.size → i ≠ w.heap.size → W1.heap[i]? = W0.heap[i]? := fun i h1 h2 => by
    rw [← hW1, boxed_block_other (by omega), alloc_block_old (by rw [boxed_size]; omega), boxed_block_other (by omega)]
  have HO1 : Hid (W1.heap[w.heap.size + 1]? = some (.cells #[.int .u8 10, .int .i64 0, .int .i64 0, .int .i64 0, .int .i64 0, .int .u8 0, .int .i64 0, .int .i64 0, .bool false, .bool false, .int .u8 NK, .int .i64 (i : Int), .int .i64 (m : Int), .int .i64 T, .int .i64 M, .int .u8 V] 61 (0, 0))) := (hk1 (w.heap.size + 1) (by omega) (by omega)).trans hO
  have HW1 : Hid (Below w.heap.size w W1) := by
    show Below _ _ _
    rw [← hW1]; exact boxed_below ((boxed_below HW.out (Nat.le_refl _)).alloc (by simp; omega) _) (by omega)
  have hz1s : W0.heap.size < W1.heap.size := (Array.getElem?_eq_some_iff.1 HS1.out).1
  rw [hW1]
  clear hW1 hk1 o0 o1 o2 o3 o10 o11 o12 o13 o14 o15 hZ hO
  go_wp2
  go_loopw [9] (fun ii wq => ∃ j : Nat, j ≤ m ∧ ii = .int .i64 j ∧ Hid (Below W1.heap.size W1 wq)) (fun ii _ => m + 1 - (intOf ii).toNat)
  case atStart => exact ⟨0, by omega, rfl, Below.refl _ _⟩
  case round =>
    obtain ⟨j, hj, rfl, HR⟩ := hrel
    have hzr := HR.out.size
    have hjl : j < s.l.length := by omega
    have k0 : (0 : Int) ≤ (j : Int) := by omega
    have k1 : (j : Int) < (s.l.length : Int) := by omega
    have dlt : decide ((j : Int) < (s.l.length : Int)) = true := by simpa using hjl
    have m6 : wr.cell? ⟨W0.heap.size, 6, none⟩ = some (.slice (some ⟨gg, oo, none⟩) s.l.length vc) := (World.cell?_of_block (a := ⟨W0.heap.size, 6, none⟩) (HR.out.block W0.heap.size hz1s)).trans (scells HS1.out).2.2.2.2.2.2
    have hblk : ∀ i, i < W1.heap.size → wr.heap[i]? = W1.heap[i]? := fun i h9 => HR.out.block i h9
    have HBr : Hid (wr.heap[w.heap.size]? = some (.cells b.arr 73 (0, 0))) := (hblk _ (by omega)).trans HB1.out
    have HSr : Hid (wr.heap[W0.heap.size]? = some (.cells (s.arr (.slice (some ⟨gg, oo, none⟩) s.l.length vc)) 36 (0, 0))) := (hblk _ hz1s).trans HS1.out
    have HOr : Hid (wr.heap[w.heap.size + 1]? = some (.cells #[.int .u8 10, .int .i64 0, .int .i64 0, .int .i64 0, .int .i64 0, .int .u8 0, .int .i64 0, .int .i64 0, .bool false, .bool false, .int .u8 NK, .int .i64 (i : Int), .int .i64 (m : Int), .int .i64 T, .int .i64 M, .int .u8 V] 61 (0, 0))) := (hblk _ (by omega)).trans HO1.out
    have HZr : Hid (wr.heap[w.heap.size + 1 + 1]? = some (.cells Try.zeroCells73 73 (0, 0))) := (hblk _ (by omega)).trans HZ1.out
    have HWr : Hid (Below w.heap.size w wr) := HW1.out.trans (HR.out.mono HW1.out.size)
    have hwz := HW1.out.size
    have HLr : Hid (Cys wr 0 w.heap.size (.slice (some ⟨gg, oo, none⟩) s.l.length vc) s.l) := HL.out.kept fun i _ h2 => HWr.out.block i h2
    clear hblk
    go_upto_region 23 with fail
    by_cases hlt : j < m
    case pos =>
      obtain ⟨c, hc⟩ : ∃ c, s.l[j]? = some c := ⟨s.l[j], List.getElem?_eq_getElem hjl⟩
      have hcn := HNUM.out j c hc
      obtain ⟨gg', oo', vc', hv', _, _, _, _, _, hr⟩ := HLr.out.at_ hc
      injection hv' with hv1 _ hv3
      injection hv1 with hv1
      injection hv1 with hg1 ho1
      subst hg1 ho1 hv3
      obtain ⟨yn, yd, yp, ya, yu, yt, yx, yg⟩ := c
      dsimp only at hcn
      have dne : ((j : Int) == (m : Int)) = false := by rw [beq_eq_false_iff_ne]; omega
      rw [hcn] at hr
      have HS0 : Hid ((fun w' : World => w'.heap[W0.heap.size]? = some (.cells (s.arr (.slice (some ⟨gg, oo, none⟩) s.l.length vc)) 36 (0, 0)) ∧ w'.heap[w.heap.size + 1]? = some (.cells #[.int .u8 10, .int .i64 0, .int .i64 0, .int .i64 0, .int .i64 0, .int .u8 0, .int .i64 0, .int .i64 0, .bool false, .bool false, .int .u8 NK, .int .i64 (i : Int), .int .i64 (m : Int), .int .i64 T, .int .i64 M, .int .u8 V] 61 (0, 0)) ∧ w'.rangeAt gg (oo + j * 8) [.int .i64 (j : Int), .int .i64 yd, .int .u8 yp, .int .i64 ya, .int .i64 yu, .int .i64 yt, .int .i64 yx, .bool yg] ∧ w'.heap[w.heap.size]? = some (.cells b.arr 73 (0, 0))) wr.drew) := ⟨HSr.out, HOr.out, (World.rangeAt_drew _ _ _ _).2 hr, HBr.out⟩
      clear hr hc hcn
      refine lane_start (ord := [0, 1, 2, 3, 4, 5, 6, 7, 8, 9, 10, 11, 12, 13, 14, 15, 16, 17, 18, 19]) (S := (fun w' : World => w'.heap[W0.heap.size]? = some (.cells (s.arr (.slice (some ⟨gg, oo, none⟩) s.l.length vc)) 36 (0, 0)) ∧ w'.heap[w.heap.size + 1]? = some (.cells #[.int .u8 10, .int .i64 0, .int .i64 0, .int .i64 0, .int .i64 0, .int .u8 0, .int .i64 0, .int .i64 0, .bool false, .bool false, .int .u8 NK, .int .i64 (i : Int), .int .i64 (m : Int), .int .i64 T, .int .i64 M, .int .u8 V] 61 (0, 0)) ∧ w'.rangeAt gg (oo + j * 8) [.int .i64 (j : Int), .int .i64 yd, .int .u8 yp, .int .i64 ya, .int .i64 yu, .int .i64 yt, .int .i64 yx, .bool yg] ∧ w'.heap[w.heap.size]? = some (.cells b.arr 73 (0, 0)))) rfl (by kernel_rfl) (by exact HS0.out) (fun _ => ?_)
      iterate 9 (refine lane_take (v := ?_) rfl (by kernel_rfl) (by kernel_rfl) (by rfl) ?_ (by exact HS0.out) ?_; rotate_left; (focus (intro W hSw; obtain ⟨h1, h2, h3, h4⟩ := hSw; obtain ⟨y0, y1, y2, y3, y4, y5, y6⟩ := scells h1; obtain ⟨o0, o1, o2, o3, o10, o11, o12, o13, o14, o15⟩ := ocells h2; have r0 := h3 0 _ rfl; have r2 := h3 2 _ rfl; have t0 := (cell_of_row _ _ _ _ _ _ h4).trans b.at0; rw [Nat.add_zero] at r0; go_simp; try (with_reducible rfl))); simp only [Act.put, List.setIfInBounds_toArray, List.set_cons_zero, List.set_cons_succ])
      (refine lane_take (v := .bool false) rfl (by kernel_rfl) (by kernel_rfl) (by rfl) ?_ (by exact HS0.out) ?_; (focus (intro W hSw; obtain ⟨h1, h2, h3, h4⟩ := hSw; obtain ⟨y0, y1, y2, y3, y4, y5, y6⟩ := scells h1; obtain ⟨o0, o1, o2, o3, o10, o11, o12, o13, o14, o15⟩ := ocells h2; have r0 := h3 0 _ rfl; have r2 := h3 2 _ rfl; have t0 := (cell_of_row _ _ _ _ _ _ h4).trans b.at0; rw [Nat.add_zero] at r0; go_simp; (first | done | (with_reducible rfl) | (simp [dne]; done)))); simp only [Act.put, List.setIfInBounds_toArray, List.set_cons_zero, List.set_cons_succ])
      (refine lane_take (v := ?_) rfl (by kernel_rfl) (by kernel_rfl) (by rfl) ?_ (by exact HS0.out) ?_; rotate_left; (focus (intro W hSw; obtain ⟨h1, h2, h3, h4⟩ := hSw; obtain ⟨y0, y1, y2, y3, y4, y5, y6⟩ := scells h1; obtain ⟨o0, o1, o2, o3, o10, o11, o12, o13, o14, o15⟩ := ocells h2; have r0 := h3 0 _ rfl; have r2 := h3 2 _ rfl; have t0 := (cell_of_row _ _ _ _ _ _ h4).trans b.at0; rw [Nat.add_zero] at r0; go_simp; try (with_reducible rfl))); simp only [Act.put, List.setIfInBounds_toArray, List.set_cons_zero, List.set_cons_succ])
      iterate 8 (refine lane_skip rfl (by kernel_rfl) (by kernel_rfl) (by rfl) (by exact HS0.out) ?_; simp only [Act.put, List.setIfInBounds_toArray, List.set_cons_zero, List.set_cons_succ])
      (refine lane_take (v := ?_) rfl (by kernel_rfl) (by kernel_rfl) (by rfl) ?_ (by exact HS0.out) ?_; rotate_left; (focus (intro W hSw; obtain ⟨h1, h2, h3, h4⟩ := hSw; obtain ⟨y0, y1, y2, y3, y4, y5, y6⟩ := scells h1; obtain ⟨o0, o1, o2, o3, o10, o11, o12, o13, o14, o15⟩ := ocells h2; have r0 := h3 0 _ rfl; have r2 := h3 2 _ rfl; have t0 := (cell_of_row _ _ _ _ _ _ h4).trans b.at0; rw [Nat.add_zero] at r0; go_simp; try (with_reducible rfl))); simp only [Act.put, List.setIfInBounds_toArray, List.set_cons_zero, List.set_cons_succ])
      refine lane_end (by kernel_rfl) ?_
      go_wp2
      go_roundw
      case rel => exact ⟨j + 1, by omega, by go_num, HR.out.drew⟩
      case measure => simp [intOf]; omega
    obtain rfl : m = j := by omega
    have deq : ((m : Int) == (m : Int)) = true := by simp
    have d7 : decide (7 ≤ zp) = false := by simp; omega
    obtain ⟨gg', oo', vc', hv', _, _, _, _, _, hr⟩ := HLr.out.at_ HM.out
    injection hv' with hv1 _ hv3
    injection hv1 with hv1
    injection hv1 with hg1 ho1
    subst hg1 ho1 hv3
    have HRC := Lib.hid hr
    have HS0 : Hid ((fun w' : World => w'.heap[W0.heap.size]? = some (.cells (s.arr (.slice (some ⟨gg, oo, none⟩) s.l.length vc)) 36 (0, 0)) ∧ w'.heap[w.heap.size + 1]? = some (.cells #[.int .u8 10, .int .i64 0, .int .i64 0, .int .i64 0, .int .i64 0, .int .u8 0, .int .i64 0, .int .i64 0, .bool false, .bool false, .int .u8 NK, .int .i64 (i : Int), .int .i64 (m : Int), .int .i64 T, .int .i64 M, .int .u8 V] 61 (0, 0)) ∧ w'.rangeAt gg (oo + m * 8) [.int .i64 (m : Int), .int .i64 zd, .int .u8 zp, .int .i64 za, .int .i64 zu, .int .i64 zt, .int .i64 zx, .bool zg] ∧ w'.heap[w.heap.size]? = some (.cells b.arr 73 (0, 0))) wr.drew) := ⟨HSr.out, HOr.out, (World.rangeAt_drew _ _ _ _).2 HRC.out, HBr.out⟩
    clear hr hlt
    refine lane_start (ord := [0, 1, 2, 3, 4, 5, 6, 7, 8, 9, 10, 11, 12, 13, 14, 15, 16, 17, 18, 19]) (S := (fun w' : World => w'.heap[W0.heap.size]? = some (.cells (s.arr (.slice (some ⟨gg, oo, none⟩) s.l.length vc)) 36 (0, 0)) ∧ w'.heap[w.heap.size + 1]? = some (.cells #[.int .u8 10, .int .i64 0, .int .i64 0, .int .i64 0, .int .i64 0, .int .u8 0, .int .i64 0, .int .i64 0, .bool false, .bool false, .int .u8 NK, .int .i64 (i : Int), .int .i64 (m : Int), .int .i64 T, .int .i64 M, .int .u8 V] 61 (0, 0)) ∧ w'.rangeAt gg (oo + m * 8) [.int .i64 (m : Int), .int .i64 zd, .int .u8 zp, .int .i64 za, .int .i64 zu, .int .i64 zt, .int .i64 zx, .bool zg] ∧ w'.heap[w.heap.size]? = some (.cells b.arr 73 (0, 0)))) rfl (by kernel_rfl) (by exact HS0.out) (fun _ => ?_)
    iterate 9 (refine lane_take (v := ?_) rfl (by kernel_rfl) (by kernel_rfl) (by rfl) ?_ (by exact HS0.out) ?_; rotate_left; (focus (intro W hSw; obtain ⟨h1, h2, h3, h4⟩ := hSw; obtain ⟨y0, y1, y2, y3, y4, y5, y6⟩ := scells h1; obtain ⟨o0, o1, o2, o3, o10, o11, o12, o13, o14, o15⟩ := ocells h2; have r0 := h3 0 _ rfl; have r2 := h3 2 _ rfl; have t0 := (cell_of_row _ _ _ _ _ _ h4).trans b.at0; rw [Nat.add_zero] at r0; go_simp; try (with_reducible rfl))); simp only [Act.put, List.setIfInBounds_toArray, List.set_cons_zero, List.set_cons_succ])
    (refine lane_take (v := .bool true) rfl (by kernel_rfl) (by kernel_rfl) (by rfl) ?_ (by exact HS0.out) ?_; (focus (intro W hSw; obtain ⟨h1, h2, h3, h4⟩ := hSw; obtain ⟨y0, y1, y2, y3, y4, y5, y6⟩ := scells h1; obtain ⟨o0, o1, o2, o3, o10, o11, o12, o13, o14, o15⟩ := ocells h2; have r0 := h3 0 _ rfl; have r2 := h3 2 _ rfl; have t0 := (cell_of_row _ _ _ _ _ _ h4).trans b.at0; rw [Nat.add_zero] at r0; go_simp; (first | done | (with_reducible rfl) | (simp [deq]; done)))); simp only [Act.put, List.setIfInBounds_toArray, List.set_cons_zero, List.set_cons_succ])
    iterate 7 (refine lane_take (v := ?_) rfl (by kernel_rfl) (by kernel_rfl) (by rfl) ?_ (by exact HS0.out) ?_; rotate_left; (focus (intro W hSw; obtain ⟨h1, h2, h3, h4⟩ := hSw; obtain ⟨y0, y1, y2, y3, y4, y5, y6⟩ := scells h1; obtain ⟨o0, o1, o2, o3, o10, o11, o12, o13, o14, o15⟩ := ocells h2; have r0 := h3 0 _ rfl; have r2 := h3 2 _ rfl; have t0 := (cell_of_row _ _ _ _ _ _ h4).trans b.at0; rw [Nat.add_zero] at r0; go_simp; try (with_reducible rfl))); simp only [Act.put, List.setIfInBounds_toArray, List.set_cons_zero, List.set_cons_succ])
    refine lane_alone rfl (by kernel_rfl) (by rfl) (fun KK hKK => ?_)
    go_simp
    refine (refended_any _ _).mono ?_
    rintro e w9 ⟨rfl, rfl⟩
    refine hKK _ _ HS0.out (fun _ => ?_)
    clear hKK KK
    (refine lane_take (v := .bool true) rfl (by kernel_rfl) (by kernel_rfl) (by rfl) ?_ (by exact HS0.out) ?_; (focus (intro W hSw; obtain ⟨h1, h2, h3, h4⟩ := hSw; obtain ⟨y0, y1, y2, y3, y4, y5, y6⟩ := scells h1; obtain ⟨o0, o1, o2, o3, o10, o11, o12, o13, o14, o15⟩ := ocells h2; have r0 := h3 0 _ rfl; have r2 := h3 2 _ rfl; have t0 := (cell_of_row _ _ _ _ _ _ h4).trans b.at0; rw [Nat.add_zero] at r0; go_simp; (first | done | (with_reducible rfl) | (simp [d7]; done)))); simp only [Act.put, List.setIfInBounds_toArray, List.set_cons_zero, List.set_cons_succ])
    (refine lane_take (v := ?_) rfl (by kernel_rfl) (by kernel_rfl) (by rfl) ?_ (by exact HS0.out) ?_; rotate_left; (focus (intro W hSw; obtain ⟨h1, h2, h3, h4⟩ := hSw; obtain ⟨y0, y1, y2, y3, y4, y5, y6⟩ := scells h1; obtain ⟨o0, o1, o2, o3, o10, o11, o12, o13, o14, o15⟩ := ocells h2; have r0 := h3 0 _ rfl; have r2 := h3 2 _ rfl; have t0 := (cell_of_row _ _ _ _ _ _ h4).trans b.at0; rw [Nat.add_zero] at r0; go_simp; try (with_reducible rfl))); simp only [Act.put, List.setIfInBounds_toArray, List.set_cons_zero, List.set_cons_succ])
    refine lane_end (by kernel_rfl) ?_
    have hwd : wr.drew.heap.size = wr.heap.size := rfl
    obtain ⟨wd, hwdd⟩ : ∃ wd, wr.drew = wd := ⟨_, rfl⟩
    rw [hwdd] at HS0 hwd ⊢
    have hwd1 := Nat.le_of_eq hwd
    have hwd2 := Nat.le_of_eq hwd.symm
    clear hwd
    have HWd : Hid (Below w.heap.size w wd) := by show Below _ _ _; rw [← hwdd]; exact HWr.out.drew
    have HZd : Hid (wd.heap[w.heap.size + 1 + 1]? = some (.cells Try.zeroCells73 73 (0, 0))) := by show _ = _; rw [← hwdd]; exact HZr.out
    have HLd : Hid (Cys wd 0 w.heap.size (.slice (some ⟨gg, oo, none⟩) s.l.length vc) s.l) := by show Cys _ _ _ _ _; rw [← hwdd]; exact HLr.out.kept fun _ _ _ => rfl
    clear hwdd m6 HBr HSr HOr HZr HWr HLr HRC HR
    go_upto_region 24 with fail
    have HSx : Hid ((fun w' : World => w'.heap[W0.heap.size]? = some (.cells (s.arr (.slice (some ⟨gg, oo, none⟩) s.l.length vc)) 36 (0, 0)) ∧ w'.heap[w.heap.size + 1]? = some (.cells #[.int .u8 10, .int .i64 0, .int .i64 0, .int .i64 0, .int .i64 0, .int .u8 0, .int .i64 0, .int .i64 0, .bool false, .bool false, .int .u8 NK, .int .i64 (i : Int), .int .i64 (m : Int), .int .i64 T, .int .i64 M, .int .u8 V] 61 (0, 0)) ∧ w'.rangeAt gg (oo + m * 8) [.int .i64 (m : Int), .int .i64 zd, .int .u8 zp, .int .i64 za, .int .i64 zu, .int .i64 zt, .int .i64 zx, .bool zg] ∧ w'.heap[w.heap.size]? = some (.cells b.arr 73 (0, 0))) wd.drew) := ⟨HS0.out.1, HS0.out.2.1, (World.rangeAt_drew _ _ _ _).2 HS0.out.2.2.1, HS0.out.2.2.2⟩
    apply region_frame1 (fun Z w' => Hid (Grown wd w') ∧ Hid ((fun w' : World => w'.heap[W0.heap.size]? = some (.cells (s.arr (.slice (some ⟨gg, oo, none⟩) s.l.length vc)) 36 (0, 0)) ∧ w'.heap[w.heap.size + 1]? = some (.cells #[.int .u8 10, .int .i64 0, .int .i64 0, .int .i64 0, .int .i64 0, .int .u8 0, .int .i64 0, .int .i64 0, .bool false, .bool false, .int .u8 NK, .int .i64 (i : Int), .int .i64 (m : Int), .int .i64 T, .int .i64 M, .int .u8 V] 61 (0, 0)) ∧ w'.rangeAt gg (oo + m * 8) [.int .i64 (m : Int), .int .i64 zd, .int .u8 zp, .int .i64 za, .int .i64 zu, .int .i64 zt, .int .i64 zx, .bool zg] ∧ w'.heap[w.heap.size]? = some (.cells b.arr 73 (0, 0))) w') ∧ Hid (w'.heap[Z]? = some (.cells #[.int .i64 qn, .int .i64 qd, .int .u8 qp, .int .i64 qa, .int .i64 qu, .int .i64 qt, .int .i64 qx, .bool qg] 69 (0, 0))) ∧ wd.heap.size ≤ Z ∧ Z < w'.heap.size)
    · have HS0 := HSx
      refine lane_start (ord := [0, 1, 2, 3, 4, 5, 6, 7, 8, 9, 10, 11, 12, 13, 14, 15, 16, 17, 18, 19, 20, 21]) (S := (fun w' : World => w'.heap[W0.heap.size]? = some (.cells (s.arr (.slice (some ⟨gg, oo, none⟩) s.l.length vc)) 36 (0, 0)) ∧ w'.heap[w.heap.size + 1]? = some (.cells #[.int .u8 10, .int .i64 0, .int .i64 0, .int .i64 0, .int .i64 0, .int .u8 0, .int .i64 0, .int .i64 0, .bool false, .bool false, .int .u8 NK, .int .i64 (i : Int), .int .i64 (m : Int), .int .i64 T, .int .i64 M, .int .u8 V] 61 (0, 0)) ∧ w'.rangeAt gg (oo + m * 8) [.int .i64 (m : Int), .int .i64 zd, .int .u8 zp, .int .i64 za, .int .i64 zu, .int .i64 zt, .int .i64 zx, .bool zg] ∧ w'.heap[w.heap.size]? = some (.cells b.arr 73 (0, 0)))) rfl (by kernel_rfl) (by exact HS0.out) (fun _ => ?_)
      iterate 7 (refine lane_take (v := ?_) rfl (by kernel_rfl) (by kernel_rfl) (by rfl) ?_ (by exact HS0.out) ?_; rotate_left; (focus (intro W hSw; obtain ⟨h1, h2, h3, h4⟩ := hSw; obtain ⟨y0, y1, y2, y3, y4, y5, y6⟩ := scells h1; obtain ⟨o0, o1, o2, o3, o10, o11, o12, o13, o14, o15⟩ := ocells h2; have r0 := h3 0 _ rfl; have r2 := h3 2 _ rfl; have t0 := (cell_of_row _ _ _ _ _ _ h4).trans b.at0; rw [Nat.add_zero] at r0; go_simp; try (with_reducible rfl))); simp only [Act.put, List.setIfInBounds_toArray, List.set_cons_zero, List.set_cons_succ])
      refine lane_take (v := .agg #[.int .i64 (m : Int), .int .i64 zd, .int .u8 zp, .int .i64 za, .int .i64 zu, .int .i64 zt, .int .i64 zx, .bool zg]) rfl (by kernel_rfl) (by kernel_rfl) (by rfl) (fun W hSw => exec_load rfl rfl (run_loadAt_mid W gg (oo + m * 8) 69 _ _ hSw.2.2.1 Try.underlying69 rfl info8r)) (by exact HS0.out) ?_
      simp only [Act.put, List.setIfInBounds_toArray, List.set_cons_zero, List.set_cons_succ]
      (refine lane_take (v := ?_) rfl (by kernel_rfl) (by kernel_rfl) (by rfl) ?_ (by exact HS0.out) ?_; rotate_left; (focus (intro W hSw; obtain ⟨h1, h2, h3, h4⟩ := hSw; obtain ⟨y0, y1, y2, y3, y4, y5, y6⟩ := scells h1; obtain ⟨o0, o1, o2, o3, o10, o11, o12, o13, o14, o15⟩ := ocells h2; have r0 := h3 0 _ rfl; have r2 := h3 2 _ rfl; have t0 := (cell_of_row _ _ _ _ _ _ h4).trans b.at0; rw [Nat.add_zero] at r0; go_simp; try (with_reducible rfl))); simp only [Act.put, List.setIfInBounds_toArray, List.set_cons_zero, List.set_cons_succ])
      refine lane_take (v := .agg #[.int .u8 NK, .int .i64 (i : Int), .int .i64 (m : Int), .int .i64 T, .int .i64 M, .int .u8 V]) rfl (by kernel_rfl) (by kernel_rfl) (by rfl) (fun W hSw => exec_load rfl rfl (run_loadAt_mid W (w.heap.size + 1) 10 59 [.int .u8 NK, .int .i64 (i : Int), .int .i64 (m : Int), .int .i64 T, .int .i64 M, .int .u8 V] _ (World.rangeAt_of_block hSw.2.1 10 6) Try.underlying59 rfl info6)) (by exact HS0.out) ?_
      simp only [Act.put, List.setIfInBounds_toArray, List.set_cons_zero, List.set_cons_succ]
      iterate 5 (refine lane_take (v := ?_) rfl (by kernel_rfl) (by kernel_rfl) (by rfl) ?_ (by exact HS0.out) ?_; rotate_left; (focus (intro W hSw; obtain ⟨h1, h2, h3, h4⟩ := hSw; obtain ⟨y0, y1, y2, y3, y4, y5, y6⟩ := scells h1; obtain ⟨o0, o1, o2, o3, o10, o11, o12, o13, o14, o15⟩ := ocells h2; have r0 := h3 0 _ rfl; have r2 := h3 2 _ rfl; have t0 := (cell_of_row _ _ _ _ _ _ h4).trans b.at0; rw [Nat.add_zero] at r0; go_simp; try (with_reducible rfl))); simp only [Act.put, List.setIfInBounds_toArray, List.set_cons_zero, List.set_cons_succ])
      refine lane_two (i := 15) (j := 19) (ordI := [16, 17, 18, 19, 20, 21]) (ordJ := [15, 16, 17, 18, 20, 21]) rfl rfl (by kernel_rfl) rfl (by rfl) (by rfl) (fun K hK => ?_) (fun K hK => ?_)
      · go_simp
        refine (refhear_any (i : Int) (m : Int) zd zp za zu zt zx zg NK (i : Int) (m : Int) T M V b.td (s.st == 3) _ HT.out (by omega) (by omega)).mono ?_
        rw [HQ.out, decide_eq_true HH.out]
        dsimp only [Cv.val, Cv.arr]
        rintro e w2 ⟨rfl, hb⟩
        have hbx : Below wd.heap.size wd w2 := (Below.refl _ wd).drew.trans hb
        have hk2 : ∀ i, i < wd.heap.size → w2.heap[i]? = wd.heap[i]? := fun i h9 => hbx.block i h9
        have HS2 : Hid ((fun w' : World => w'.heap[W0.heap.size]? = some (.cells (s.arr (.slice (some ⟨gg, oo, none⟩) s.l.length vc)) 36 (0, 0)) ∧ w'.heap[w.heap.size + 1]? = some (.cells #[.int .u8 10, .int .i64 0, .int .i64 0, .int .i64 0, .int .i64 0, .int .u8 0, .int .i64 0, .int .i64 0, .bool false, .bool false, .int .u8 NK, .int .i64 (i : Int), .int .i64 (m : Int), .int .i64 T, .int .i64 M, .int .u8 V] 61 (0, 0)) ∧ w'.rangeAt gg (oo + m * 8) [.int .i64 (m : Int), .int .i64 zd, .int .u8 zp, .int .i64 za, .int .i64 zu, .int .i64 zt, .int .i64 zx, .bool zg] ∧ w'.heap[w.heap.size]? = some (.cells b.arr 73 (0, 0))) w2) := ⟨(hk2 _ (by omega)).trans HS0.out.1, (hk2 _ (by omega)).trans HS0.out.2.1, fun q u hq => (World.cell?_of_block (a := ⟨gg, oo + m * 8 + q, none⟩) (hk2 gg (by omega))).trans (HS0.out.2.2.1 q u hq), (hk2 _ (by omega)).trans HS0.out.2.2.2⟩
        have hz9 : wd.heap.size ≤ w2.heap.size := hbx.size
        have HBX := Lib.hid hbx
        refine hK _ _ HS2.out (fun _ => ?_)
        clear hK K hb hbx hk2
        (refine lane_take (v := ?_) rfl (by kernel_rfl) (by kernel_rfl) (by rfl) ?_ (by exact HS2.out) ?_; rotate_left; (focus (intro W hSw; obtain ⟨h1, h2, h3, h4⟩ := hSw; obtain ⟨y0, y1, y2, y3, y4, y5, y6⟩ := scells h1; obtain ⟨o0, o1, o2, o3, o10, o11, o12, o13, o14, o15⟩ := ocells h2; have r0 := h3 0 _ rfl; have r2 := h3 2 _ rfl; have t0 := (cell_of_row _ _ _ _ _ _ h4).trans b.at0; rw [Nat.add_zero] at r0; go_simp; try (with_reducible rfl))); simp only [Act.put, List.setIfInBounds_toArray, List.set_cons_zero, List.set_cons_succ])
        (refine lane_take (v := ?_) rfl (by kernel_rfl) (by kernel_rfl) (by rfl) ?_ (by exact HS2.out) ?_; rotate_left; (focus (intro W hSw; obtain ⟨h1, h2, h3, h4⟩ := hSw; obtain ⟨y0, y1, y2, y3, y4, y5, y6⟩ := scells h1; obtain ⟨o0, o1, o2, o3, o10, o11, o12, o13, o14, o15⟩ := ocells h2; have r0 := h3 0 _ rfl; have r2 := h3 2 _ rfl; have t0 := (cell_of_row _ _ _ _ _ _ h4).trans b.at0; rw [Nat.add_zero] at r0; go_simp; try (with_reducible rfl))); simp only [Act.put, List.setIfInBounds_toArray, List.set_cons_zero, List.set_cons_succ])
        (refine lane_take (v := ?_) rfl (by kernel_rfl) (by kernel_rfl) (by rfl) ?_ (by exact HS2.out) ?_; rotate_left; (focus (intro W hSw; obtain ⟨h1, h2, h3, h4⟩ := hSw; obtain ⟨y0, y1, y2, y3, y4, y5, y6⟩ := scells h1; obtain ⟨o0, o1, o2, o3, o10, o11, o12, o13, o14, o15⟩ := ocells h2; have r0 := h3 0 _ rfl; have r2 := h3 2 _ rfl; have t0 := (cell_of_row _ _ _ _ _ _ h4).trans b.at0; rw [Nat.add_zero] at r0; go_simp; try (with_reducible rfl))); simp only [Act.put, List.setIfInBounds_toArray, List.set_cons_zero, List.set_cons_succ])
        refine lane_alone rfl (by kernel_rfl) (by rfl) (fun K hK => ?_)
        go_simp
        have hk3 : ∀ i, i < wd.heap.size → (w2.alloc (.cells #[.int .i64 0, .int .i64 0, .int .u8 0, .int .i64 0, .int .i64 0, .int .i64 0, .int .i64 0, .bool false] 69)).heap[i]? = wd.heap[i]? := fun i h9 => (alloc_block_old (by omega)).trans (HBX.out.block i h9)
        have HS3 : Hid ((fun w' : World => w'.heap[W0.heap.size]? = some (.cells (s.arr (.slice (some ⟨gg, oo, none⟩) s.l.length vc)) 36 (0, 0)) ∧ w'.heap[w.heap.size + 1]? = some (.cells #[.int .u8 10, .int .i64 0, .int .i64 0, .int .i64 0, .int .i64 0, .int .u8 0, .int .i64 0, .int .i64 0, .bool false, .bool false, .int .u8 NK, .int .i64 (i : Int), .int .i64 (m : Int), .int .i64 T, .int .i64 M, .int .u8 V] 61 (0, 0)) ∧ w'.rangeAt gg (oo + m * 8) [.int .i64 (m : Int), .int .i64 zd, .int .u8 zp, .int .i64 za, .int .i64 zu, .int .i64 zt, .int .i64 zx, .bool zg] ∧ w'.heap[w.heap.size]? = some (.cells b.arr 73 (0, 0))) (w2.alloc (.cells #[.int .i64 0, .int .i64 0, .int .u8 0, .int .i64 0, .int .i64 0, .int .i64 0, .int .i64 0, .bool false] 69))) := ⟨(hk3 _ (by omega)).trans HS0.out.1, (hk3 _ (by omega)).trans HS0.out.2.1, fun q u hq => (World.cell?_of_block (a := ⟨gg, oo + m * 8 + q, none⟩) (hk3 gg (by omega))).trans (HS0.out.2.2.1 q u hq), (hk3 _ (by omega)).trans HS0.out.2.2.2⟩
        refine hK _ _ HS3.out (fun _ => ?_)
        clear hK K hk3
        refine lane_alone rfl (by kernel_rfl) (by rfl) (fun K hK => ?_)
        refine wp_store_row _ _ _ rfl w2.heap.size _ rfl rfl _ _ (alloc_at rfl) (by exact info8r) rfl (by simp [Value.oneCell']) ?_
        rw [row_boxed (alloc_at rfl)]
        have hk4 : ∀ i, i < wd.heap.size → (boxed (w2.alloc (.cells #[.int .i64 0, .int .i64 0, .int .u8 0, .int .i64 0, .int .i64 0, .int .i64 0, .int .i64 0, .bool false] 69)) w2.heap.size #[.int .i64 qn, .int .i64 qd, .int .u8 qp, .int .i64 qa, .int .i64 qu, .int .i64 qt, .int .i64 qx, .bool qg] 69).heap[i]? = wd.heap[i]? := fun i h9 => (boxed_block_other (by omega)).trans ((alloc_block_old (by omega)).trans (HBX.out.block i h9))
        have HS4 : Hid ((fun w' : World => w'.heap[W0.heap.size]? = some (.cells (s.arr (.slice (some ⟨gg, oo, none⟩) s.l.length vc)) 36 (0, 0)) ∧ w'.heap[w.heap.size + 1]? = some (.cells #[.int .u8 10, .int .i64 0, .int .i64 0, .int .i64 0, .int .i64 0, .int .u8 0, .int .i64 0, .int .i64 0, .bool false, .bool false, .int .u8 NK, .int .i64 (i : Int), .int .i64 (m : Int), .int .i64 T, .int .i64 M, .int .u8 V] 61 (0, 0)) ∧ w'.rangeAt gg (oo + m * 8) [.int .i64 (m : Int), .int .i64 zd, .int .u8 zp, .int .i64 za, .int .i64 zu, .int .i64 zt, .int .i64 zx, .bool zg] ∧ w'.heap[w.heap.size]? = some (.cells b.arr 73 (0, 0))) (boxed (w2.alloc (.cells #[.int .i64 0, .int .i64 0, .int .u8 0, .int .i64 0, .int .i64 0, .int .i64 0, .int .i64 0, .bool false] 69)) w2.heap.size #[.int .i64 qn, .int .i64 qd, .int .u8 qp, .int .i64 qa, .int .i64 qu, .int .i64 qt, .int .i64 qx, .bool qg] 69)) := ⟨(hk4 _ (by omega)).trans HS0.out.1, (hk4 _ (by omega)).trans HS0.out.2.1, fun q u hq => (World.cell?_of_block (a := ⟨gg, oo + m * 8 + q, none⟩) (hk4 gg (by omega))).trans (HS0.out.2.2.1 q u hq), (hk4 _ (by omega)).trans HS0.out.2.2.2⟩
        refine hK _ _ HS4.out (fun _ => ?_)
        clear hK K hk4
        (refine lane_take (v := ?_) rfl (by kernel_rfl) (by kernel_rfl) (by rfl) ?_ (by exact HS4.out) ?_; rotate_left; (focus (intro W hSw; obtain ⟨h1, h2, h3, h4⟩ := hSw; obtain ⟨y0, y1, y2, y3, y4, y5, y6⟩ := scells h1; obtain ⟨o0, o1, o2, o3, o10, o11, o12, o13, o14, o15⟩ := ocells h2; have r0 := h3 0 _ rfl; have r2 := h3 2 _ rfl; have t0 := (cell_of_row _ _ _ _ _ _ h4).trans b.at0; rw [Nat.add_zero] at r0; go_simp; try (with_reducible rfl))); simp only [Act.put, List.setIfInBounds_toArray, List.set_cons_zero, List.set_cons_succ])
        refine lane_end (by kernel_rfl) ?_
        have hG : Grown wd (boxed (w2.alloc (.cells #[.int .i64 0, .int .i64 0, .int .u8 0, .int .i64 0, .int .i64 0, .int .i64 0, .int .i64 0, .bool false] 69)) w2.heap.size #[.int .i64 qn, .int .i64 qd, .int .u8 qp, .int .i64 qa, .int .i64 qu, .int .i64 qt, .int .i64 qx, .bool qg] 69) := boxed_below (HBX.out.alloc hz9 _) hz9
        have HG := Lib.hid hG
        have hQ : (boxed (w2.alloc (.cells #[.int .i64 0, .int .i64 0, .int .u8 0, .int .i64 0, .int .i64 0, .int .i64 0, .int .i64 0, .bool false] 69)) w2.heap.size #[.int .i64 qn, .int .i64 qd, .int .u8 qp, .int .i64 qa, .int .i64 qu, .int .i64 qt, .int .i64 qx, .bool qg] 69).heap[w2.heap.size]? = some (.cells #[.int .i64 qn, .int .i64 qd, .int .u8 qp, .int .i64 qa, .int .i64 qu, .int .i64 qt, .int .i64 qx, .bool qg] 69 (0, 0)) := boxed_at (by simp)
        have hzz : w2.heap.size < (boxed (w2.alloc (.cells #[.int .i64 0, .int .i64 0, .int .u8 0, .int .i64 0, .int .i64 0, .int .i64 0, .int .i64 0, .bool false] 69)) w2.heap.size #[.int .i64 qn, .int .i64 qd, .int .u8 qp, .int .i64 qa, .int .i64 qu, .int .i64 qt, .int .i64 qx, .bool qg] 69).heap.size := by simp
        obtain ⟨W5, hW5⟩ : ∃ W5, boxed (w2.alloc (.cells #[.int .i64 0, .int .i64 0, .int .u8 0, .int .i64 0, .int .i64 0, .int .i64 0, .int .i64 0, .bool false] 69)) w2.heap.size #[.int .i64 qn, .int .i64 qd, .int .u8 qp, .int .i64 qa, .int .i64 qu, .int .i64 qt, .int .i64 qx, .bool qg] 69 = W5 := ⟨_, rfl⟩
        obtain ⟨Z, hZe⟩ : ∃ Z, w2.heap.size = Z := ⟨_, rfl⟩
        rw [hW5] at HG hQ hzz HS4 ⊢
        rw [hZe] at hQ hzz hz9 ⊢
        exact ⟨rfl, _, rfl, HG, HS4, hQ, hz9, hzz⟩
      · go_simp
        have hk3 : ∀ i, i < wd.heap.size → (wd.drew.alloc (.cells #[.int .i64 0, .int .i64 0, .int .u8 0, .int .i64 0, .int .i64 0, .int .i64 0, .int .i64 0, .bool false] 69)).heap[i]? = wd.heap[i]? := fun i h9 => (alloc_block_old h9).trans rfl
        have HS3 : Hid ((fun w' : World => w'.heap[W0.heap.size]? = some (.cells (s.arr (.slice (some ⟨gg, oo, none⟩) s.l.length vc)) 36 (0, 0)) ∧ w'.heap[w.heap.size + 1]? = some (.cells #[.int .u8 10, .int .i64 0, .int .i64 0, .int .i64 0, .int .i64 0, .int .u8 0, .int .i64 0, .int .i64 0, .bool false, .bool false, .int .u8 NK, .int .i64 (i : Int), .int .i64 (m : Int), .int .i64 T, .int .i64 M, .int .u8 V] 61 (0, 0)) ∧ w'.rangeAt gg (oo + m * 8) [.int .i64 (m : Int), .int .i64 zd, .int .u8 zp, .int .i64 za, .int .i64 zu, .int .i64 zt, .int .i64 zx, .bool zg] ∧ w'.heap[w.heap.size]? = some (.cells b.arr 73 (0, 0))) (wd.drew.alloc (.cells #[.int .i64 0, .int .i64 0, .int .u8 0, .int .i64 0, .int .i64 0, .int .i64 0, .int .i64 0, .bool false] 69))) := ⟨(hk3 _ (by omega)).trans HS0.out.1, (hk3 _ (by omega)).trans HS0.out.2.1, fun q u hq => (World.cell?_of_block (a := ⟨gg, oo + m * 8 + q, none⟩) (hk3 gg (by omega))).trans (HS0.out.2.2.1 q u hq), (hk3 _ (by omega)).trans HS0.out.2.2.2⟩
        refine hK _ _ HS3.out (fun _ => ?_)
        clear hK K hk3
        refine lane_alone rfl (by kernel_rfl) (by rfl) (fun K hK => ?_)
        go_simp
        refine (refhear_any (i : Int) (m : Int) zd zp za zu zt zx zg NK (i : Int) (m : Int) T M V b.td (s.st == 3) _ HT.out (by omega) (by omega)).mono ?_
        rw [HQ.out, decide_eq_true HH.out]
        dsimp only [Cv.val, Cv.arr]
        rintro e w2 ⟨rfl, hb⟩
        have hbx : Below wd.heap.size wd w2 := ((Below.refl _ wd).drew.alloc (Nat.le_refl _) _).trans (hb.mono (by simp))
        have hQ0 : w2.heap[wd.heap.size]? = some (.cells #[.int .i64 0, .int .i64 0, .int .u8 0, .int .i64 0, .int .i64 0, .int .i64 0, .int .i64 0, .bool false] 69 (0, 0)) := below_block hb (alloc_at rfl)
        have hk2 : ∀ i, i < wd.heap.size → w2.heap[i]? = wd.heap[i]? := fun i h9 => hbx.block i h9
        have HS2 : Hid ((fun w' : World => w'.heap[W0.heap.size]? = some (.cells (s.arr (.slice (some ⟨gg, oo, none⟩) s.l.length vc)) 36 (0, 0)) ∧ w'.heap[w.heap.size + 1]? = some (.cells #[.int .u8 10, .int .i64 0, .int .i64 0, .int .i64 0, .int .i64 0, .int .u8 0, .int .i64 0, .int .i64 0, .bool false, .bool false, .int .u8 NK, .int .i64 (i : Int), .int .i64 (m : Int), .int .i64 T, .int .i64 M, .int .u8 V] 61 (0, 0)) ∧ w'.rangeAt gg (oo + m * 8) [.int .i64 (m : Int), .int .i64 zd, .int .u8 zp, .int .i64 za, .int .i64 zu, .int .i64 zt, .int .i64 zx, .bool zg] ∧ w'.heap[w.heap.size]? = some (.cells b.arr 73 (0, 0))) w2) := ⟨(hk2 _ (by omega)).trans HS0.out.1, (hk2 _ (by omega)).trans HS0.out.2.1, fun q u hq => (World.cell?_of_block (a := ⟨gg, oo + m * 8 + q, none⟩) (hk2 gg (by omega))).trans (HS0.out.2.2.1 q u hq), (hk2 _ (by omega)).trans HS0.out.2.2.2⟩
        have hz9 : wd.heap.size + 1 ≤ w2.heap.size := by have := hb.size; simp at this; exact this
        have HBX := Lib.hid hbx
        refine hK _ _ HS2.out (fun _ => ?_)
        clear hK K hb hbx hk2
        (refine lane_take (v := ?_) rfl (by kernel_rfl) (by kernel_rfl) (by rfl) ?_ (by exact HS2.out) ?_; rotate_left; (focus (intro W hSw; obtain ⟨h1, h2, h3, h4⟩ := hSw; obtain ⟨y0, y1, y2, y3, y4, y5, y6⟩ := scells h1; obtain ⟨o0, o1, o2, o3, o10, o11, o12, o13, o14, o15⟩ := ocells h2; have r0 := h3 0 _ rfl; have r2 := h3 2 _ rfl; have t0 := (cell_of_row _ _ _ _ _ _ h4).trans b.at0; rw [Nat.add_zero] at r0; go_simp; try (with_reducible rfl))); simp only [Act.put, List.setIfInBounds_toArray, List.set_cons_zero, List.set_cons_succ])
        (refine lane_take (v := ?_) rfl (by kernel_rfl) (by kernel_rfl) (by rfl) ?_ (by exact HS2.out) ?_; rotate_left; (focus (intro W hSw; obtain ⟨h1, h2, h3, h4⟩ := hSw; obtain ⟨y0, y1, y2, y3, y4, y5, y6⟩ := scells h1; obtain ⟨o0, o1, o2, o3, o10, o11, o12, o13, o14, o15⟩ := ocells h2; have r0 := h3 0 _ rfl; have r2 := h3 2 _ rfl; have t0 := (cell_of_row _ _ _ _ _ _ h4).trans b.at0; rw [Nat.add_zero] at r0; go_simp; try (with_reducible rfl))); simp only [Act.put, List.setIfInBounds_toArray, List.set_cons_zero, List.set_cons_succ])
        (refine lane_take (v := ?_) rfl (by kernel_rfl) (by kernel_rfl) (by rfl) ?_ (by exact HS2.out) ?_; rotate_left; (focus (intro W hSw; obtain ⟨h1, h2, h3, h4⟩ := hSw; obtain ⟨y0, y1, y2, y3, y4, y5, y6⟩ := scells h1; obtain ⟨o0, o1, o2, o3, o10, o11, o12, o13, o14, o15⟩ := ocells h2; have r0 := h3 0 _ rfl; have r2 := h3 2 _ rfl; have t0 := (cell_of_row _ _ _ _ _ _ h4).trans b.at0; rw [Nat.add_zero] at r0; go_simp; try (with_reducible rfl))); simp only [Act.put, List.setIfInBounds_toArray, List.set_cons_zero, List.set_cons_succ])
        refine lane_alone rfl (by kernel_rfl) (by rfl) (fun K hK => ?_)
        refine wp_store_row _ _ _ rfl wd.heap.size _ rfl rfl _ _ hQ0 (by exact info8r) rfl (by simp [Value.oneCell']) ?_
        rw [row_boxed hQ0]
        have hk4 : ∀ i, i < wd.heap.size → (boxed w2 wd.heap.size #[.int .i64 qn, .int .i64 qd, .int .u8 qp, .int .i64 qa, .int .i64 qu, .int .i64 qt, .int .i64 qx, .bool qg] 69).heap[i]? = wd.heap[i]? := fun i h9 => (boxed_block_other (by omega)).trans (HBX.out.block i h9)
        have HS4 : Hid ((fun w' : World => w'.heap[W0.heap.size]? = some (.cells (s.arr (.slice (some ⟨gg, oo, none⟩) s.l.length vc)) 36 (0, 0)) ∧ w'.heap[w.heap.size + 1]? = some (.cells #[.int .u8 10, .int .i64 0, .int .i64 0, .int .i64 0, .int .i64 0, .int .u8 0, .int .i64 0, .int .i64 0, .bool false, .bool false, .int .u8 NK, .int .i64 (i : Int), .int .i64 (m : Int), .int .i64 T, .int .i64 M, .int .u8 V] 61 (0, 0)) ∧ w'.rangeAt gg (oo + m * 8) [.int .i64 (m : Int), .int .i64 zd, .int .u8 zp, .int .i64 za, .int .i64 zu, .int .i64 zt, .int .i64 zx, .bool zg] ∧ w'.heap[w.heap.size]? = some (.cells b.arr 73 (0, 0))) (boxed w2 wd.heap.size #[.int .i64 qn, .int .i64 qd, .int .u8 qp, .int .i64 qa, .int .i64 qu, .int .i64 qt, .int .i64 qx, .bool qg] 69)) := ⟨(hk4 _ (by omega)).trans HS0.out.1, (hk4 _ (by omega)).trans HS0.out.2.1, fun q u hq => (World.cell?_of_block (a := ⟨gg, oo + m * 8 + q, none⟩) (hk4 gg (by omega))).trans (HS0.out.2.2.1 q u hq), (hk4 _ (by omega)).trans HS0.out.2.2.2⟩
        refine hK _ _ HS4.out (fun _ => ?_)
        clear hK K hk4
        (refine lane_take (v := ?_) rfl (by kernel_rfl) (by kernel_rfl) (by rfl) ?_ (by exact HS4.out) ?_; rotate_left; (focus (intro W hSw; obtain ⟨h1, h2, h3, h4⟩ := hSw; obtain ⟨y0, y1, y2, y3, y4, y5, y6⟩ := scells h1; obtain ⟨o0, o1, o2, o3, o10, o11, o12, o13, o14, o15⟩ := ocells h2; have r0 := h3 0 _ rfl; have r2 := h3 2 _ rfl; have t0 := (cell_of_row _ _ _ _ _ _ h4).trans b.at0; rw [Nat.add_zero] at r0; go_simp; try (with_reducible rfl))); simp only [Act.put, List.setIfInBounds_toArray, List.set_cons_zero, List.set_cons_succ])
        refine lane_end (by kernel_rfl) ?_
        have hG : Grown wd (boxed w2 wd.heap.size #[.int .i64 qn, .int .i64 qd, .int .u8 qp, .int .i64 qa, .int .i64 qu, .int .i64 qt, .int .i64 qx, .bool qg] 69) := boxed_below HBX.out (Nat.le_refl _)
        have HG := Lib.hid hG
        have hQ : (boxed w2 wd.heap.size #[.int .i64 qn, .int .i64 qd, .int .u8 qp, .int .i64 qa, .int .i64 qu, .int .i64 qt, .int .i64 qx, .bool qg] 69).heap[wd.heap.size]? = some (.cells #[.int .i64 qn, .int .i64 qd, .int .u8 qp, .int .i64 qa, .int .i64 qu, .int .i64 qt, .int .i64 qx, .bool qg] 69 (0, 0)) := boxed_at (by omega)
        have hzz : wd.heap.size < (boxed w2 wd.heap.size #[.int .i64 qn, .int .i64 qd, .int .u8 qp, .int .i64 qa, .int .i64 qu, .int .i64 qt, .int .i64 qx, .bool qg] 69).heap.size := by simp; omega
        obtain ⟨W5, hW5⟩ : ∃ W5, boxed w2 wd.heap.size #[.int .i64 qn, .int .i64 qd, .int .u8 qp, .int .i64 qa, .int .i64 qu, .int .i64 qt, .int .i64 qx, .bool qg] 69 = W5 := ⟨_, rfl⟩
        obtain ⟨Z, hZe⟩ : ∃ Z, wd.heap.size = Z := ⟨_, rfl⟩
        have hz10 : wd.heap.size ≤ Z := by omega
        rw [hW5] at HG hQ hzz HS4 ⊢
        rw [hZe] at hQ hzz ⊢
        rw [← hZe] at hz10
        exact ⟨rfl, _, rfl, HG, HS4, hQ, by first | exact hz10 | omega, hzz⟩
    · intro Z w5 ⟨HG5, HS5, HQ5, hz5, hz55⟩
      have HW5 : Hid (Below w.heap.size w w5) := HWd.out.trans (Below.mono (show Below wd.heap.size wd w5 from HG5.out) HWd.out.size)
      have HZ5 : Hid (w5.heap[w.heap.size + 1 + 1]? = some (.cells Try.zeroCells73 73 (0, 0))) := ((show Below wd.heap.size wd w5 from HG5.out).block _ (by omega)).trans HZd.out
      have HL5 : Hid (Cys w5 0 w.heap.size (.slice (some ⟨gg, oo, none⟩) s.l.length vc) s.l) := HLd.out.kept fun i _ h2 => (show Below wd.heap.size wd w5 from HG5.out).block i (by omega)
      obtain ⟨s9, hs9⟩ : ∃ s9, ({ s with cr := Cy.gain s.cr ⟨(m : Int), zd, zp, za, zu, zt, zx, zg⟩ ⟨qn, qd, qp, qa, qu, qt, qx, qg⟩, l := s.l.set m ⟨qn, qd, qp, qa, qu, qt, qx, qg⟩ } : Sv) = s9 := ⟨_, rfl⟩
      have HCH : Hid (∀ X : World, X = w5.drew → Calls Try.prog 47 #[.agg (s.arr (.slice (some ⟨gg, oo, none⟩) s.l.length vc)), .int .i64 m, .agg #[.int .i64 qn, .int .i64 qd, .int .u8 qp, .int .i64 qa, .int .i64 qu, .int .i64 qt, .int .i64 qx, .bool qg]] X fun e w' => ∃ v', e = .returned (.agg (s9.arr v')) ∧ Cys w' X.heap.size w'.heap.size v' (s.l.set m ⟨qn, qd, qp, qa, qu, qt, qx, qg⟩) ∧ Below X.heap.size X w') := fun X hX => by
        subst hX
        have h9 := refchange_s (s := s) (k := m) (c := ⟨qn, qd, qp, qa, qu, qt, qx, qg⟩) (c0 := ⟨(m : Int), zd, zp, za, zu, zt, zx, zg⟩) (w := w5.drew) (v := (.slice (some ⟨gg, oo, none⟩) s.l.length vc)) ((HL5.out.kept fun _ _ _ => rfl).more (Nat.le_refl _) (show w.heap.size ≤ w5.heap.size by omega)) HM.out (by omega) ⟨by omega, by omega⟩ ⟨by dsimp only; rw [HQU.out]; omega, by dsimp only; rw [HQU.out]; omega⟩
        rw [hs9] at h9
        exact h9
      have HPUT : Hid (∀ v', b.put i ({ s with cr := Cy.gain s.cr ⟨(m : Int), zd, zp, za, zu, zt, zx, zg⟩ ⟨qn, qd, qp, qa, qu, qt, qx, qg⟩, l := s.l.set m ⟨qn, qd, qp, qa, qu, qt, qx, qg⟩ } : Sv) v' = b.put i s9 v') := fun v' => by rw [hs9]
      clear hs9
      go_upto_region 27 with fail
      have HS7 : Hid ((fun w' : World => w'.heap[W0.heap.size]? = some (.cells (s.arr (.slice (some ⟨gg, oo, none⟩) s.l.length vc)) 36 (0, 0)) ∧ w'.heap[w.heap.size + 1]? = some (.cells #[.int .u8 10, .int .i64 0, .int .i64 0, .int .i64 0, .int .i64 0, .int .u8 0, .int .i64 0, .int .i64 0, .bool false, .bool false, .int .u8 NK, .int .i64 (i : Int), .int .i64 (m : Int), .int .i64 T, .int .i64 M, .int .u8 V] 61 (0, 0)) ∧ w'.heap[Z]? = some (.cells #[.int .i64 qn, .int .i64 qd, .int .u8 qp, .int .i64 qa, .int .i64 qu, .int .i64 qt, .int .i64 qx, .bool qg] 69 (0, 0)) ∧ w'.heap[w.heap.size]? = some (.cells b.arr 73 (0, 0))) w5.drew) := ⟨HS5.out.1, HS5.out.2.1, HQ5.out, HS5.out.2.2.2⟩
      refine laneT_start (ord := [0, 1, 2, 3, 4, 5, 6, 7, 8, 9]) (t := 9) (S := (fun w' : World => w'.heap[W0.heap.size]? = some (.cells (s.arr (.slice (some ⟨gg, oo, none⟩) s.l.length vc)) 36 (0, 0)) ∧ w'.heap[w.heap.size + 1]? = some (.cells #[.int .u8 10, .int .i64 0, .int .i64 0, .int .i64 0, .int .i64 0, .int .u8 0, .int .i64 0, .int .i64 0, .bool false, .bool false, .int .u8 NK, .int .i64 (i : Int), .int .i64 (m : Int), .int .i64 T, .int .i64 M, .int .u8 V] 61 (0, 0)) ∧ w'.heap[Z]? = some (.cells #[.int .i64 qn, .int .i64 qd, .int .u8 qp, .int .i64 qa, .int .i64 qu, .int .i64 qt, .int .i64 qx, .bool qg] 69 (0, 0)) ∧ w'.heap[w.heap.size]? = some (.cells b.arr 73 (0, 0)))) rfl (by kernel_rfl) ?_
      iterate 3 (refine laneT_take1 (v := ?_) rfl (by kernel_rfl) (by kernel_rfl) (by rfl) ?_ (by exact HS7.out) ?_; rotate_left; (focus (intro W hSw; obtain ⟨h1, h2, h3, h4⟩ := hSw; obtain ⟨o0, o1, o2, o3, o10, o11, o12, o13, o14, o15⟩ := ocells h2; go_simp; try (with_reducible rfl))); simp only [Act.put, List.setIfInBounds_toArray, List.set_cons_zero, List.set_cons_succ])
      refine laneT_take1 (v := .agg (s.arr (.slice (some ⟨gg, oo, none⟩) s.l.length vc))) rfl (by kernel_rfl) (by kernel_rfl) (by rfl) (fun W hSw => exec_load rfl rfl (run_loadAt_row W W0.heap.size 36 36 _ (0, 0) _ hSw.1 Try.underlying36 rfl info7s)) (by exact HS7.out) ?_
      simp only [Act.put, List.setIfInBounds_toArray, List.set_cons_zero, List.set_cons_succ]
      (refine laneT_take1 (v := ?_) rfl (by kernel_rfl) (by kernel_rfl) (by rfl) ?_ (by exact HS7.out) ?_; rotate_left; (focus (intro W hSw; obtain ⟨h1, h2, h3, h4⟩ := hSw; obtain ⟨o0, o1, o2, o3, o10, o11, o12, o13, o14, o15⟩ := ocells h2; go_simp; try (with_reducible rfl))); simp only [Act.put, List.setIfInBounds_toArray, List.set_cons_zero, List.set_cons_succ])
      refine laneT_take1 (v := .agg #[.int .i64 qn, .int .i64 qd, .int .u8 qp, .int .i64 qa, .int .i64 qu, .int .i64 qt, .int .i64 qx, .bool qg]) rfl (by kernel_rfl) (by kernel_rfl) (by rfl) (fun W hSw => exec_load rfl rfl (run_loadAt_row W Z 69 69 _ (0, 0) _ hSw.2.2.1 Try.underlying69 rfl info8r)) (by exact HS7.out) ?_
      simp only [Act.put, List.setIfInBounds_toArray, List.set_cons_zero, List.set_cons_succ]
      refine laneT_two (i := 6) (j := 7) (ordI := [7, 8, 9]) (ordJ := [6, 8, 9]) rfl rfl (by kernel_rfl) rfl (by rfl) (by rfl) (fun K hK => ?_) (fun K hK => ?_)
      · go_simp
        refine (HCH.out _ rfl).mono ?_
        rintro e w7 ⟨v7, rfl, hc7, hb7⟩
        have hb7 : Below w5.heap.size w5 w7 := (Below.refl _ w5).drew.trans hb7
        have HS8 : Hid ((fun w' : World => w'.heap[W0.heap.size]? = some (.cells (s.arr (.slice (some ⟨gg, oo, none⟩) s.l.length vc)) 36 (0, 0)) ∧ w'.heap[w.heap.size + 1]? = some (.cells #[.int .u8 10, .int .i64 0, .int .i64 0, .int .i64 0, .int .i64 0, .int .u8 0, .int .i64 0, .int .i64 0, .bool false, .bool false, .int .u8 NK, .int .i64 (i : Int), .int .i64 (m : Int), .int .i64 T, .int .i64 M, .int .u8 V] 61 (0, 0)) ∧ w'.heap[Z]? = some (.cells #[.int .i64 qn, .int .i64 qd, .int .u8 qp, .int .i64 qa, .int .i64 qu, .int .i64 qt, .int .i64 qx, .bool qg] 69 (0, 0)) ∧ w'.heap[w.heap.size]? = some (.cells b.arr 73 (0, 0))) w7) := ⟨below_block hb7 HS7.out.1, below_block hb7 HS7.out.2.1, below_block hb7 HS7.out.2.2.1, below_block hb7 HS7.out.2.2.2⟩
        refine hK _ _ (fun _ => HS8.out) ?_
        clear hK K
        have HB7 := Lib.hid hb7
        have HC7 : Hid (Cys w7 w5.heap.size w7.heap.size v7 (s.l.set m ⟨qn, qd, qp, qa, qu, qt, qx, qg⟩)) := hc7
        clear hb7 hc7
        refine laneT_alone rfl (by kernel_rfl) (by rfl) (fun K hK => ?_)
        go_simp
        refine hK _ _ (fun _ => HS8.out) ?_
        clear hK K
        refine laneT_alone rfl (by kernel_rfl) (by rfl) (fun K hK => ?_)
        go_simp
        refine hK _ _ (fun _ => HS8.out) ?_
        clear hK K
        refine laneT_alone rfl (by kernel_rfl) (by rfl) (fun K hK => ?_)
        obtain ⟨A7, c7, hv7, hc71, hc72, _⟩ := id HC7.out
        subst hv7
        have hz77 := HB7.out.size
        have e9 := boxed_self HS8.out.2.2.2
        rw [e9]
        refine wp_store_mid _ _ _ rfl (w.heap.size) (2 + i * 7) (s9.arr _) rfl rfl (Bk.there (by omega) hi) info7s (Sv.arr_one rfl) ?_
        rw [Bk.store]
        refine hK _ _ (fun h => absurd rfl h) ?_
        clear hK K e9
        refine laneT_end (by kernel_rfl) ?_
        obtain ⟨v9, hv9⟩ : ∃ v9 : Value, .slice A7 (s.l.set m ⟨qn, qd, qp, qa, qu, qt, qx, qg⟩).length c7 = v9 := ⟨_, rfl⟩
        have hv91 : v9.oneCell' = true := by rw [← hv9]; rfl
        have HC9 : Hid (Cys w7 w5.heap.size w7.heap.size v9 (s.l.set m ⟨qn, qd, qp, qa, qu, qt, qx, qg⟩)) := by rw [← hv9]; exact HC7
        rw [hv9]
        have hb2 : (b.put i s9 v9).arr.all (·.oneCell') = true := (HON.out.put i s9 hv91).arr
        have hZ9 : w7.heap[w.heap.size + 1 + 1]? = some (.cells Try.zeroCells73 73 (0, 0)) := below_block HB7.out HZ5.out
        have hz7b : w.heap.size + 1 + 1 < w7.heap.size := (Array.getElem?_eq_some_iff.1 hZ9).1
        go_wp2_with (((with_reducible_and_instances (show wpList _ _ _ (Oper.mk _ (Op.load 73 _ ) _ _ _ _ :: _) _ _)); refine stop_here ?_))
        refine ⟨?_⟩
        refine wl_load (cs := (b.put i s9 v9).arr) (fr := (0, 0)) (g := w.heap.size) Try.underlying73 rfl Bk.info rfl rfl rfl (boxed_at (by omega)) (Bk.arr_size _) ?_
        go_wp2_with (((with_reducible_and_instances (show wpList _ _ _ (Oper.mk _ (Op.store 73 _ _ ) _ _ _ _ :: _) _ _)); refine stop_here ?_))
        refine ⟨?_⟩
        refine wl_store (g := w.heap.size + 1 + 1) Bk.info rfl rfl rfl rfl (boxed_old (by omega) hZ9) Bk.zero_size (Bk.arr_size _) hb2 ?_
        go_wp2_with (fail)
        refine bodyPost_ret (results_row_tmp rfl _ _ (w.heap.size + 1 + 1) 73 _ (0, 0) _ rfl (boxed_at (by rw [boxed_size]; omega)) Try.underlying73 rfl (by rw [Bk.arr_size]; exact Bk.info)) rfl ?_
        refine ⟨v9, by rw [HPUT.out]; rfl, ?_, boxed_below (boxed_below (HW5.out.trans (HB7.out.mono HW5.out.size)) (Nat.le_refl _)) (by omega)⟩
        refine (HC9.out.kept fun i h8 _ => ?_).more (by have := HW5.out.size; omega) (by simp)
        rw [boxed_block_other (by omega), boxed_block_other (by omega)]
      · go_simp
        refine hK _ _ (fun _ => HS7.out) ?_
        clear hK K
        refine laneT_alone rfl (by kernel_rfl) (by rfl) (fun K hK => ?_)
        go_simp
        refine (HCH.out _ rfl).mono ?_
        rintro e w7 ⟨v7, rfl, hc7, hb7⟩
        have hb7 : Below w5.heap.size w5 w7 := (Below.refl _ w5).drew.trans hb7
        have HS8 : Hid ((fun w' : World => w'.heap[W0.heap.size]? = some (.cells (s.arr (.slice (some ⟨gg, oo, none⟩) s.l.length vc)) 36 (0, 0)) ∧ w'.heap[w.heap.size + 1]? = some (.cells #[.int .u8 10, .int .i64 0, .int .i64 0, .int .i64 0, .int .i64 0, .int .u8 0, .int .i64 0, .int .i64 0, .bool false, .bool false, .int .u8 NK, .int .i64 (i : Int), .int .i64 (m : Int), .int .i64 T, .int .i64 M, .int .u8 V] 61 (0, 0)) ∧ w'.heap[Z]? = some (.cells #[.int .i64 qn, .int .i64 qd, .int .u8 qp, .int .i64 qa, .int .i64 qu, .int .i64 qt, .int .i64 qx, .bool qg] 69 (0, 0)) ∧ w'.heap[w.heap.size]? = some (.cells b.arr 73 (0, 0))) w7) := ⟨below_block hb7 HS7.out.1, below_block hb7 HS7.out.2.1, below_block hb7 HS7.out.2.2.1, below_block hb7 HS7.out.2.2.2⟩
        refine hK _ _ (fun _ => HS8.out) ?_
        clear hK K
        have HB7 := Lib.hid hb7
        have HC7 : Hid (Cys w7 w5.heap.size w7.heap.size v7 (s.l.set m ⟨qn, qd, qp, qa, qu, qt, qx, qg⟩)) := hc7
        clear hb7 hc7
        refine laneT_alone rfl (by kernel_rfl) (by rfl) (fun K hK => ?_)
        go_simp
        refine hK _ _ (fun _ => HS8.out) ?_
        clear hK K
        refine laneT_alone rfl (by kernel_rfl) (by rfl) (fun K hK => ?_)
        obtain ⟨A7, c7, hv7, hc71, hc72, _⟩ := id HC7.out
        subst hv7
        have hz77 := HB7.out.size
        have e9 := boxed_self HS8.out.2.2.2
        rw [e9]
        refine wp_store_mid _ _ _ rfl (w.heap.size) (2 + i * 7) (s9.arr _) rfl rfl (Bk.there (by omega) hi) info7s (Sv.arr_one rfl) ?_
        rw [Bk.store]
        refine hK _ _ (fun h => absurd rfl h) ?_
        clear hK K e9
        refine laneT_end (by kernel_rfl) ?_
        obtain ⟨v9, hv9⟩ : ∃ v9 : Value, .slice A7 (s.l.set m ⟨qn, qd, qp, qa, qu, qt, qx, qg⟩).length c7 = v9 := ⟨_, rfl⟩
        have hv91 : v9.oneCell' = true := by rw [← hv9]; rfl
        have HC9 : Hid (Cys w7 w5.heap.size w7.heap.size v9 (s.l.set m ⟨qn, qd, qp, qa, qu, qt, qx, qg⟩)) := by rw [← hv9]; exact HC7
        rw [hv9]
        have hb2 : (b.put i s9 v9).arr.all (·.oneCell') = true := (HON.out.put i s9 hv91).arr
        have hZ9 : w7.heap[w.heap.size + 1 + 1]? = some (.cells Try.zeroCells73 73 (0, 0)) := below_block HB7.out HZ5.out
        have hz7b : w.heap.size + 1 + 1 < w7.heap.size := (Array.getElem?_eq_some_iff.1 hZ9).1
        go_wp2_with (((with_reducible_and_instances (show wpList _ _ _ (Oper.mk _ (Op.load 73 _ ) _ _ _ _ :: _) _ _)); refine stop_here ?_))
        refine ⟨?_⟩
        refine wl_load (cs := (b.put i s9 v9).arr) (fr := (0, 0)) (g := w.heap.size) Try.underlying73 rfl Bk.info rfl rfl rfl (boxed_at (by omega)) (Bk.arr_size _) ?_
        go_wp2_with (((with_reducible_and_instances (show wpList _ _ _ (Oper.mk _ (Op.store 73 _ _ ) _ _ _ _ :: _) _ _)); refine stop_here ?_))
        refine ⟨?_⟩
        refine wl_store (g := w.heap.size + 1 + 1) Bk.info rfl rfl rfl rfl (boxed_old (by omega) hZ9) Bk.zero_size (Bk.arr_size _) hb2 ?_
        go_wp2_with (fail)
        refine bodyPost_ret (results_row_tmp rfl _ _ (w.heap.size + 1 + 1) 73 _ (0, 0) _ rfl (boxed_at (by rw [boxed_size]; omega)) Try.underlying73 rfl (by rw [Bk.arr_size]; exact Bk.info)) rfl ?_
        refine ⟨v9, by rw [HPUT.out]; rfl, ?_, boxed_below (boxed_below (HW5.out.trans (HB7.out.mono HW5.out.size)) (Nat.le_refl _)) (by omega)⟩
        refine (HC9.out.kept fun i h8 _ => ?_).more (by have := HW5.out.size; omega) (by simp)
        rw [boxed_block_other (by omega), boxed_block_other (by omega)]
end Go.Proofs.Ytnbfkdcpghkglaa
