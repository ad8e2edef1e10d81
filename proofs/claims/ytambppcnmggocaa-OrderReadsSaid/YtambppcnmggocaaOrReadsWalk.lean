/-
  The walk of the law OrderReads: it returns true, whatever the input, and makes new blocks alone. No conditions.
-/
import Derived.Test.YtambppcnmggocaaOrDec
import Derived.Test.YtambppcnmggocaaOrApartWalk
import Derived.Laws.BitsAllLaws
namespace Go.Proofs.Ytambppcnmggocaa
set_option maxRecDepth 20000
open Go.ChangeShapes Go.WideShapes Go.ChangeAt Go.RowKit

set_option maxHeartbeats 1000000 in
theorem orderReads_long (A : Option Addr) (n c : Nat) (hn : 60 < n) (o : Ov) (at_ turn more : Int) (w : World) :
    Calls Try.prog 5 #[.slice A n c, .agg o.arr, .int .u8 at_, .int .u8 turn, .int .u8 more] w fun e w' => e = .returned (.bool true) ∧ Below w.heap.size w w' := by
  have t : decide ((60 : Int) < (n : Int)) = true := by simp; omega
  clear hn
  go_enter Try.func5, Try.ntmps5
  go_wp2_with (fail)
  refine (awake_any _).mono ?_
  rintro e w1 ⟨rfl, hb1⟩
  go_wp2_with (fail)
  refine (awake_any _).mono ?_
  rintro e w2 ⟨rfl, hb2⟩
  go_wp2
  go_ret
  exact ⟨rfl, ((Below.refl _ w).alloc (Nat.le_refl _) _).trans ((hb1.trans (hb2.mono hb1.size)).mono (by simp))⟩

/-- One of the slices that are gone through. -/
def Item (w : World) (A : Option Addr) (n : Nat) (l : List Int) : Prop := l.length = n ∧ n ≤ 900000 ∧ (∀ x ∈ l, 0 ≤ x ∧ x < 256) ∧ Rd w .u8 w.heap.size A l
theorem zero_arr : Value.agg Ov.zero.arr = Ov.zero.val := rfl
theorem Ov.Dec.ways {l : List Int} {o : Ov} {e : Int} {P : Prop} (h : Ov.Dec l o e) (h1 : e = 0 → o.right = 0 → o.Wf → l = o.bytes → P) (h2 : e = 4 → o = Ov.zero → P) : P := by
  rcases h with ⟨h, h', h'', h3⟩ | ⟨h, h', _⟩
  · exact h1 h h' h'' h3
  · exact h2 h h'

set_option maxHeartbeats 4000000 in
theorem orderReads_in (w : World) (A : Option Addr) (n c : Nat) (p : List Int) (hr : Rd w .u8 w.heap.size A p) (hb : BytesOk p) (hm : p.length = n) (hn : n ≤ 60) (o : Ov) (ho : o.Wf) (at_ turn more : Int) (a0 : 0 ≤ at_) (a1 : at_ < 256) (t0 : 0 ≤ turn) (t1 : turn < 256) (m0 : 0 ≤ more) (m1 : more < 256) :
    Calls Try.prog 5 #[.slice A n c, .agg o.arr, .int .u8 at_, .int .u8 turn, .int .u8 more] w fun e w' => e = .returned (.bool true) ∧ Below w.heap.size w w' := by
  have t : decide ((60 : Int) < (n : Int)) = false := by simp; omega
  have HRP := Lib.hid hr
  have HBP := Lib.hid hb
  have HMP := Lib.hid hm
  have HNA := Lib.hid (near_o o ho)
  have wx := o.near_wf ho
  have hle := o.near.len wx o.near_right
  have hby := o.near.bytes_ok
  have HX := Lib.hid (fun w => enc_o o.near wx.2.2.2.2.1.2.1.1 w)
  rw [o.out_near] at HX
  clear hr hb hm ho wx
  generalize o.near = x at *
  obtain ⟨L, hL⟩ : ∃ L, L = x.bytes := ⟨_, rfl⟩
  rw [← hL] at HX hle hby
  clear hL
  obtain ⟨m, hm⟩ : ∃ m, L.length = m := ⟨_, rfl⟩
  rw [hm] at hle
  obtain ⟨hm2, hm21⟩ := hle
  obtain ⟨at_, rfl⟩ := Int.eq_ofNat_of_zero_le a0
  have hat : at_ < 256 := by omega
  clear a1
  have hk : at_ % m < L.length := by rw [hm]; exact Nat.mod_lt _ (by omega)
  have hkx : (at_ : Int).tmod (m : Int) = ((at_ % m : Nat) : Int) := by rw [Int.tmod_eq_emod_of_nonneg (by omega)]; simp
  have hxb := hby _ (List.getElem_mem hk)
  have HXB := u8_xor L[at_ % m] turn hxb.1 (by omega) t0 t1
  have hxv : L[at_ % m].toNat ^^^ turn.toNat < 256 := Nat.xor_lt_two_pow (n := 8) (by omega) (by omega)
  have HG : Hid (L[at_ % m]? = some L[at_ % m]) := List.getElem?_eq_getElem hk
  have HM := Lib.hid hm
  have HBY := Lib.hid hby
  rw [hm] at hk
  clear hm hby a0
  generalize L[at_ % m] = y at *
  generalize at_ % m = k at *
  generalize y.toNat ^^^ turn.toNat = v at *
  go_enter Try.func5, Try.ntmps5
  go_wp2_with (fail)
  refine (awake_any _).mono ?_
  rintro e w1 ⟨rfl, hb1⟩
  have h1 : w1.heap[w.heap.size]? = some (.cells o.arr 27 (0, 0)) := (hb1.block _ (by simp)).trans alloc_block
  have H1 : Hid (Below w.heap.size w w1) := Lib.hid (((Below.refl _ w).alloc (Nat.le_refl _) _).trans (hb1.mono (by simp)))
  have s1 : w.heap.size < w1.heap.size := by have := hb1.size; simp at this; omega
  clear hb1
  go_wp2_with (first | ((with_reducible_and_instances (show wpList _ _ _ (Oper.mk _ (Op.load 27 _) _ _ _ _ :: _) _ _)); refine wl_load Try.underlying27 rfl info16 rfl rfl rfl (by (repeat (first | assumption | (with_reducible refine alloc_at ?_; (focus (first | omega | (simp; done) | (simp; omega)))) | (with_reducible refine boxed_at ?_; (focus (first | omega | (simp; done) | (simp; omega)))) | (with_reducible refine alloc_old ?_ ?_; (focus (first | omega | (simp; done) | (simp; omega)))) | (with_reducible refine boxed_old ?_ ?_; (focus (first | omega | (simp; done) | (simp; omega)))) | (with_reducible refine drew_old ?_)))) (by rfl) ?_))
  refine (HNA.out _).mono ?_
  rintro e w2 ⟨rfl, hb2⟩
  have H2 : Hid (Below w.heap.size w w2) := Lib.hid (H1.out.trans (hb2.mono H1.out.size))
  clear hb2 h1 s1 H1
  go_wp2_with (fail)
  refine (HX.out _).mono ?_
  intro e w3 hO
  obtain ⟨A3, c3, rfl, HO3, HB3, HR3, hc3, hc3m⟩ := hO.open_n m HM.out
  obtain ⟨g, cap, cur, hA, hgb, hw3, _, _, _, htk⟩ := own_some (w := w3) (base := w2.heap.size) (l := L) (v := .slice A3 m c3) (by rw [HM.out]; exact HO3.out) m HM.out (by omega)
  injection hA with hA _ hcc
  subst hA hcc
  have hck := cur_at htk HG.out
  have hgs : g < w3.heap.size := (Array.getElem?_eq_some_iff.1 hw3).1
  have H3 : Hid (Below w.heap.size w w3) := Lib.hid (H2.out.trans (HB3.out.mono H2.out.size))
  clear hO HB3
  obtain ⟨w0, rfl, hgw⟩ : ∃ w0, w3 = boxed w0 g cur 5 ∧ g < w0.heap.size := ⟨w3, boxed_self hw3, hgs⟩
  clear hw3 hgs
  go_wp2_with (rw [hkx])
  have H4 : Hid (Below w.heap.size w (boxed w0 g (cur.setIfInBounds k (.int .u8 v)) 5)) := Lib.hid (boxed_below (below_boxed H3.out (Nat.le_trans H2.out.size hgb)) (Nat.le_trans H2.out.size hgb))
  have R4 : Hid (Rd (boxed w0 g (cur.setIfInBounds k (.int .u8 v)) 5) .u8 (boxed w0 g (cur.setIfInBounds k (.int .u8 v)) 5).heap.size (some ⟨g, 0, none⟩) (L.set k v)) := Lib.hid (rd_set hgw htk)
  have L4 : Hid ((L.set k v).length = m) := Lib.hid (by rw [List.length_set, HM.out])
  have HB4 : Hid (BytesOk (L.set k v)) := Lib.hid (fun x hx => by
    rcases List.mem_or_eq_of_mem_set hx with h | h
    · have := HBY.out x h; omega
    · rw [h]; omega)
  clear htk hck HG HXB HO3 HR3 H3 hgb HM HBY
  generalize boxed w0 g (cur.setIfInBounds k (.int .u8 v)) 5 = w4 at *
  generalize (L.set k v) = Q at *
  have HW5 : Hid (Below w.heap.size w w4.drew) := Lib.hid H4.out.drew
  have R5 : Hid (Rd w4.drew .u8 w4.drew.heap.size (some ⟨g, 0, none⟩) Q) := Lib.hid (R4.out.kept fun _ _ => rfl)
  have P5 : Hid (Rd w4.drew .u8 w.heap.size A p) := Lib.hid (HRP.out.below HW5.out)
  have hwm : IntKind.i64.wrap ((m : Int) - 1) = ((m - 1 : Nat) : Int) := by simp only [IntKind.wrap_i64]; omega
  refine lane_start (ord := [0, 1, 2, 4, 7, 8, 9, 10, 14, 11, 3, 5, 6, 12, 13]) (S := fun _ => True) rfl (by kernel_rfl) trivial (fun hHeld => ?_)
  clear H4 R4
  generalize w4.drew = w5 at *
  refine lane_take (v := ?_) rfl (by kernel_rfl) (by kernel_rfl) (by rfl) ?_ (by assumption) ?_
  rotate_left
  · intro w' hSw
    go_simp
    try (with_reducible rfl)
  simp only [Act.put, List.setIfInBounds_toArray, List.set_cons_zero, List.set_cons_succ]
  refine lane_take (v := ?_) rfl (by kernel_rfl) (by kernel_rfl) (by rfl) ?_ (by assumption) ?_
  rotate_left
  · intro w' hSw
    go_simp
    try (with_reducible rfl)
  simp only [Act.put, List.setIfInBounds_toArray, List.set_cons_zero, List.set_cons_succ]
  refine lane_take (v := ?_) rfl (by kernel_rfl) (by kernel_rfl) (by rfl) ?_ (by assumption) ?_
  rotate_left
  · intro w' hSw
    go_simp
    try (with_reducible rfl)
  simp only [Act.put, List.setIfInBounds_toArray, List.set_cons_zero, List.set_cons_succ]
  refine lane_take (v := ?_) rfl (by kernel_rfl) (by kernel_rfl) (by rfl) ?_ (by assumption) ?_
  rotate_left
  · intro w' hSw
    go_simp
    try (with_reducible rfl)
  simp only [Act.put, List.setIfInBounds_toArray, List.set_cons_zero, List.set_cons_succ]
  refine lane_take (v := ?_) rfl (by kernel_rfl) (by kernel_rfl) (by rfl) ?_ (by assumption) ?_
  rotate_left
  · intro w' hSw
    go_simp
    try (with_reducible rfl)
  simp only [Act.put, List.setIfInBounds_toArray, List.set_cons_zero, List.set_cons_succ]
  refine lane_take (v := ?_) rfl (by kernel_rfl) (by kernel_rfl) (by rfl) ?_ (by assumption) ?_
  rotate_left
  · intro w' hSw
    go_simp
    try (with_reducible rfl)
  simp only [Act.put, List.setIfInBounds_toArray, List.set_cons_zero, List.set_cons_succ]
  refine lane_take (v := ?_) rfl (by kernel_rfl) (by kernel_rfl) (by rfl) ?_ (by assumption) ?_
  rotate_left
  · intro w' hSw
    go_simp
    try (with_reducible rfl)
  simp only [Act.put, List.setIfInBounds_toArray, List.set_cons_zero, List.set_cons_succ]
  refine lane_take (v := ?_) rfl (by kernel_rfl) (by kernel_rfl) (by rfl) ?_ (by assumption) ?_
  rotate_left
  · intro w' hSw
    go_simp
    try (with_reducible rfl)
  simp only [Act.put, List.setIfInBounds_toArray, List.set_cons_zero, List.set_cons_succ]
  refine lane_take (v := ?_) rfl (by kernel_rfl) (by kernel_rfl) (by rfl) ?_ (by assumption) ?_
  rotate_left
  · intro w' hSw
    go_simp
    try (with_reducible rfl)
  simp only [Act.put, List.setIfInBounds_toArray, List.set_cons_zero, List.set_cons_succ]
  refine lane_take (v := .slice (some ⟨g, 0, none⟩) (m - 1) c3) rfl (by kernel_rfl) (by kernel_rfl) (by rfl) ?_ (by assumption) ?_
  · intro w' hSw
    go_simp
    exact fun hh => absurd hh (by omega)
  simp only [Act.put, List.setIfInBounds_toArray, List.set_cons_zero, List.set_cons_succ]
  clear hwm
  refine lane_two (i := 3) (j := 5) (ordJ := [3, 6, 12, 13]) rfl rfl (by kernel_rfl) rfl (by rfl) (by rfl) (fun K' hK => ?_) (fun K' hK => ?_)
  case' refine_1 =>
    obtain ⟨v6, w6, hrun, hg6⟩ := run_append_rd (c := c3) (Grew.start w5).own R5.out (by rw [L4.out]; simp; omega) (Nat.le_refl _)
    have G6 := (Grew.start w5).trans hg6
    rw [L4.out] at hrun
    refine wp_of_value (exec_append rfl rfl rfl hrun) (hK _ _ trivial (fun hHeld => ?_))
    clear hK K' hrun
    refine lane_alone rfl (by kernel_rfl) (by rfl) (fun K' hK => ?_)
    go_simp
    refine hK _ _ trivial (fun hHeld => ?_)
    clear hK K'
    have ho6 : (w6.alloc (.cells #[.int .u8 more] 5)).ownsRow w5.heap.size 5 1 v6 ([] ++ Q).length (cl .u8 ([] ++ Q)) := own_kept G6.own fun i hi => alloc_block_old (G6.own.lt i hi).2
    obtain ⟨v7, w7, hrun, hg7⟩ := run_append_rd (c := 1) ho6 (rd_one w6 more 5) (by rw [List.nil_append, L4.out]; simp; omega) (by have := G6.grown.size; rw [World.size_alloc]; omega)
    have hB7 : Below w5.heap.size w5 w7 := (G6.below0.trans (((Below.refl _ w6).alloc (Nat.le_refl _) _).mono G6.grown.size)).trans (hg7.below ho6 (by have := G6.grown.size; rw [World.size_alloc]; omega))
    have ho7 := hg7.own
  case' refine_2 =>
    go_simp
    refine hK _ _ trivial (fun hHeld => ?_)
    clear hK K'
    obtain ⟨v6, w6, hrun, hg6⟩ := run_append_rd (c := c3) (Grew.start (w5.alloc (.cells #[.int .u8 more] 5))).own (R5.out.below ((Below.refl _ w5).alloc (Nat.le_refl _) _)) (by rw [L4.out]; simp; omega) (Nat.le_refl _)
    have G6 := (Grew.start (w5.alloc (.cells #[.int .u8 more] 5))).trans hg6
    rw [L4.out] at hrun
    refine lane_alone rfl (by kernel_rfl) (by rfl) (fun K' hK => ?_)
    refine wp_of_value (exec_append rfl rfl rfl hrun) (hK _ _ trivial (fun hHeld => ?_))
    clear hK K' hrun
    have hr6 : Rd w6 .u8 (w5.heap.size + 1) (some ⟨w5.heap.size, 0, none⟩) [more] := (rd_one w5 more 5).below (by have := G6.below0; rwa [World.size_alloc] at this)
    obtain ⟨v7, w7, hrun, hg7⟩ := run_append_rd (c := 1) G6.own hr6 (by rw [List.nil_append, L4.out]; simp; omega) G6.grown.size
    have hB7 : Below w5.heap.size w5 w7 := ((Below.refl _ w5).alloc (Nat.le_refl _) _).trans ((G6.below0.trans (hg7.below G6.own G6.grown.size)).mono (by simp))
    have ho7 := hg7.own
  all_goals
    refine lane_alone rfl (by kernel_rfl) (by rfl) (fun K' hK => ?_)
    refine wp_of_value (exec_append rfl rfl rfl hrun) (hK _ _ trivial (fun hHeld => ?_))
    clear hK K' hrun hg7 G6 hg6
    obtain ⟨A7, c7, rfl, h71, h72⟩ := own_form ho7
    have R7 : Hid (Rd w7 .u8 w7.heap.size A7 (Q ++ [more])) := Lib.hid (by have := Rd.own ho7; rwa [List.nil_append] at this)
    have H7 := Lib.hid hB7
    have hq7 : ([] ++ Q ++ [more]).length = m + 1 := by rw [List.nil_append, List.length_append, L4.out]; rfl
    rw [hq7] at h71 ⊢
    clear ho7 hB7 hq7
    refine lane_alone rfl (by kernel_rfl) (by rfl) (fun K' hK => ?_)
    go_simp
    refine hK _ _ trivial (fun hHeld => ?_)
    clear hK K'
    repeat (first
      | (refine lane_skip rfl (by kernel_rfl) (by kernel_rfl) (by rfl) (by assumption) ?_; simp only [Act.put, List.setIfInBounds_toArray, List.set_cons_zero, List.set_cons_succ])
      | (refine lane_take (v := ?_) rfl (by kernel_rfl) (by kernel_rfl) (by rfl) ?_ (by assumption) ?_; rotate_left; (focus (intro w' hSw; go_simp; try (with_reducible rfl))); simp only [Act.put, List.setIfInBounds_toArray, List.set_cons_zero, List.set_cons_succ]))
    refine lane_end (by kernel_rfl) ?_
    clear hHeld

    have s78 : w7.heap.size < (w7.alloc (.cells #[.slice A n c, .slice (some ⟨g, 0, none⟩) m c3, .slice A7 (m + 1) c7, .slice (some ⟨g, 0, none⟩) (m - 1) c3] 34)).heap.size := by simp
    have hb8 : (w7.alloc (.cells #[.slice A n c, .slice (some ⟨g, 0, none⟩) m c3, .slice A7 (m + 1) c7, .slice (some ⟨g, 0, none⟩) (m - 1) c3] 34)).heap[w7.heap.size]? = some (.cells #[.slice A n c, .slice (some ⟨g, 0, none⟩) m c3, .slice A7 (m + 1) c7, .slice (some ⟨g, 0, none⟩) (m - 1) c3] 34 (0, 0)) := alloc_block
    have h78 : Below w7.heap.size w7 (w7.alloc (.cells #[.slice A n c, .slice (some ⟨g, 0, none⟩) m c3, .slice A7 (m + 1) c7, .slice (some ⟨g, 0, none⟩) (m - 1) c3] 34)) := (Below.refl _ _).alloc (Nat.le_refl _) _
    generalize w7.alloc (.cells #[.slice A n c, .slice (some ⟨g, 0, none⟩) m c3, .slice A7 (m + 1) c7, .slice (some ⟨g, 0, none⟩) (m - 1) c3] 34) = w8 at *
    have h58 : Below w5.heap.size w5 w8 := H7.out.trans (h78.mono H7.out.size)
    have hq8 : Rd w8 .u8 w8.heap.size (some ⟨g, 0, none⟩) Q := (R5.out.below h58).more h58.size
    have HF : Hid (∀ q : Nat, q < 4 → ∃ A n c l, w8.cell? ⟨w7.heap.size, q, none⟩ = some (.slice A n c) ∧ Item w8 A n l) := Lib.hid fun q hq => by
      rcases q with _ | _ | _ | _ | q
      · exact ⟨A, n, c, p, cell_of_row _ _ 0 _ _ _ hb8, HMP.out, by omega, HBP.out, (P5.out.below (h58.mono HW5.out.size)).more (Nat.le_trans HW5.out.size h58.size)⟩
      · exact ⟨_, m, c3, Q, cell_of_row _ _ 1 _ _ _ hb8, L4.out, by omega, HB4.out, hq8⟩
      · exact ⟨A7, m + 1, c7, Q ++ [more], cell_of_row _ _ 2 _ _ _ hb8, by rw [List.length_append, L4.out]; rfl, by omega, HB4.out.append (fun x hx => by simp only [List.mem_cons, List.not_mem_nil, or_false] at hx; subst hx; omega), (R7.out.below h78).more h78.size⟩
      · exact ⟨_, m - 1, c3, Q.take (m - 1), cell_of_row _ _ 3 _ _ _ hb8, by rw [List.length_take, L4.out]; omega, by omega, fun x hx => HB4.out x (List.mem_of_mem_take hx), hq8.take (m - 1)⟩
      · omega
    have HW8 : Hid (Below w.heap.size w w8) := Lib.hid (HW5.out.trans (h58.mono HW5.out.size))
    clear h78 h58 hq8 hb8 H7 R7 L4 HB4 R5 P5 HW5 HRP HBP HMP HNA HX
    go_wp2
    go_loopw [55] (fun t wr => ∃ q : Nat, q ≤ 4 ∧ t = .int .i64 q ∧ Hid (Below w8.heap.size w8 wr)) (fun t _ => 4 - (intOf t).toNat)
    case atStart => exact ⟨0, by omega, rfl, Below.refl _ _⟩
    case round =>
      obtain ⟨q, hq, rfl, HW⟩ := hrel
      by_cases hlt : q < 4
      · have d1 : decide ((q : Int) < 4) = true := by simp; omega
        obtain ⟨Ai, ni, ci, l, hci, hli, hni, hbi, hri⟩ := HF.out q hlt
        have hcw : wr.cell? ⟨w7.heap.size, q, none⟩ = some (.slice Ai ni ci) := (World.cell?_of_block (a := ⟨w7.heap.size, q, none⟩) (HW.out.block _ s78)).trans hci
        have HRI := Lib.hid hri
        have HLI := Lib.hid hli
        have HBI := Lib.hid hbi
        clear hci hri hli hbi
        go_wp2_with (fail)
        refine (decode_any wr Ai ni ci l ((HRI.out.below HW.out).more HW.out.size) (by rw [HLI.out]; exact hni) HBI.out HLI.out).mono ?_
        rintro e wd ⟨x', e', rfl, hd, hbd⟩
        have HWD : Hid (Below w8.heap.size w8 wd) := Lib.hid (HW.out.trans (hbd.mono HW.out.size))
        have sd : w8.heap.size ≤ wd.heap.size := HWD.out.size
        clear hbd
        refine hd.ways (fun he hr hw hl => ?_) (fun he ho => ?_)
        · subst he hl
          rw [Ov.val_arr]
          have HRX := Lib.hid hr
          have HEX := Lib.hid (fun w => enc_o x' hw.2.2.2.2.1.2.1.1 w)
          rw [show x'.out = x'.bytes by unfold Ov.out; rw [if_pos hr]] at HEX
          clear hr hw hd
          go_wp2_with (first | ((with_reducible_and_instances (show wpList _ _ _ (Oper.mk _ (Op.load 27 _) _ _ _ _ :: _) _ _)); refine wl_load Try.underlying27 rfl info16 rfl rfl rfl (by (repeat (first | assumption | (with_reducible refine alloc_at ?_; (focus (first | omega | (simp; done) | (simp; omega)))) | (with_reducible refine boxed_at ?_; (focus (first | omega | (simp; done) | (simp; omega)))) | (with_reducible refine alloc_old ?_ ?_; (focus (first | omega | (simp; done) | (simp; omega)))) | (with_reducible refine boxed_old ?_ ?_; (focus (first | omega | (simp; done) | (simp; omega)))) | (with_reducible refine drew_old ?_)))) (by rfl) ?_) | ((with_reducible_and_instances (show wpList _ _ _ (Oper.mk _ (Op.store 27 _ _) _ _ _ _ :: _) _ _)); refine wl_store info16 rfl rfl rfl rfl (by (repeat (first | assumption | (with_reducible refine alloc_at ?_; (focus (first | omega | (simp; done) | (simp; omega)))) | (with_reducible refine boxed_at ?_; (focus (first | omega | (simp; done) | (simp; omega)))) | (with_reducible refine alloc_old ?_ ?_; (focus (first | omega | (simp; done) | (simp; omega)))) | (with_reducible refine boxed_old ?_ ?_; (focus (first | omega | (simp; done) | (simp; omega)))) | (with_reducible refine drew_old ?_)))) (by rfl) (by rfl) (by first | exact Ov.arr_one _ | (rw [← hz]; exact Ov.arr_one _) | simp [Value.oneCell']) ?_))
          have w14 : wd.heap.size < (boxed (wd.alloc (.cells #[.int .u8 0, .int .i64 0, .int .i64 0, .int .i64 0, .int .i64 0, .int .u8 0, .int .i64 0, .int .i64 0, .bool false, .bool false, .int .u8 0, .int .i64 0, .int .i64 0, .int .i64 0, .int .i64 0, .int .u8 0] 27)) wd.heap.size x'.arr 27).heap.size := by simp
          have hb14 : (boxed (wd.alloc (.cells #[.int .u8 0, .int .i64 0, .int .i64 0, .int .i64 0, .int .i64 0, .int .u8 0, .int .i64 0, .int .i64 0, .bool false, .bool false, .int .u8 0, .int .i64 0, .int .i64 0, .int .i64 0, .int .i64 0, .int .u8 0] 27)) wd.heap.size x'.arr 27).heap[wd.heap.size]? = some (.cells x'.arr 27 (0, 0)) := by (repeat (first | assumption | (with_reducible refine alloc_at ?_; (focus (first | omega | (simp; done) | (simp; omega)))) | (with_reducible refine boxed_at ?_; (focus (first | omega | (simp; done) | (simp; omega)))) | (with_reducible refine alloc_old ?_ ?_; (focus (first | omega | (simp; done) | (simp; omega)))) | (with_reducible refine boxed_old ?_ ?_; (focus (first | omega | (simp; done) | (simp; omega)))) | (with_reducible refine drew_old ?_)))
          have HW14 : Hid (Below w8.heap.size w8 (boxed (wd.alloc (.cells #[.int .u8 0, .int .i64 0, .int .i64 0, .int .i64 0, .int .i64 0, .int .u8 0, .int .i64 0, .int .i64 0, .bool false, .bool false, .int .u8 0, .int .i64 0, .int .i64 0, .int .i64 0, .int .i64 0, .int .u8 0] 27)) wd.heap.size x'.arr 27)) := Lib.hid (HWD.out.trans ((boxed_below ((Below.refl _ wd).alloc (Nat.le_refl _) _) (Nat.le_refl _)).mono HWD.out.size))
          generalize boxed (wd.alloc (.cells #[.int .u8 0, .int .i64 0, .int .i64 0, .int .i64 0, .int .i64 0, .int .u8 0, .int .i64 0, .int .i64 0, .bool false, .bool false, .int .u8 0, .int .i64 0, .int .i64 0, .int .i64 0, .int .i64 0, .int .u8 0] 27)) wd.heap.size x'.arr 27 = we at *
          have HCV : Hid (∀ w', Below w8.heap.size w8 w' → (convert 34 9 (.slice Ai ni ci)).run Try.prog w' = .ok (.string (bst x'.bytes)) w') := Lib.hid (fun w' hw => conv_len w' Ai _ ci ni _ (HRI.out.below hw) HLI.out)
          refine lane_start (ord := [0, 1, 2, 3, 4, 5, 6, 7, 10, 11, 8, 9, 12, 13, 14, 15, 16, 17, 18, 19, 20, 21, 22, 23, 24, 25, 26, 27]) (S := fun w' => w'.heap[wd.heap.size]? = some (.cells x'.arr 27 (0, 0)) ∧ (convert 34 9 (.slice Ai ni ci)).run Try.prog w' = .ok (.string (bst x'.bytes)) w') rfl (by kernel_rfl) ⟨hb14, HCV.out _ HW14.out.drew⟩ (fun hHeld => ?_)
          refine lane_take (v := ?_) rfl (by kernel_rfl) (by kernel_rfl) (by rfl) ?_ (by assumption) ?_
          rotate_left
          · intro w' hSw
            obtain ⟨_, hc⟩ := hSw
            go_simp
            try (with_reducible rfl)
          simp only [Act.put, List.setIfInBounds_toArray, List.set_cons_zero, List.set_cons_succ]
          refine lane_take (v := ?_) rfl (by kernel_rfl) (by kernel_rfl) (by rfl) ?_ (by assumption) ?_
          rotate_left
          · intro w' hSw
            obtain ⟨_, hc⟩ := hSw
            go_simp
            try (with_reducible rfl)
          simp only [Act.put, List.setIfInBounds_toArray, List.set_cons_zero, List.set_cons_succ]
          refine lane_take (v := ?_) rfl (by kernel_rfl) (by kernel_rfl) (by rfl) ?_ (by assumption) ?_
          rotate_left
          · intro w' hSw
            obtain ⟨_, hc⟩ := hSw
            go_simp
            try (with_reducible rfl)
          simp only [Act.put, List.setIfInBounds_toArray, List.set_cons_zero, List.set_cons_succ]
          refine lane_take rfl (by kernel_rfl) (by kernel_rfl) (by rfl) (fun w' hS => exec_load rfl rfl (ld16 hS.1 rfl)) (by assumption) ?_
          simp only [Act.put, List.setIfInBounds_toArray, List.set_cons_zero, List.set_cons_succ]
          refine lane_alone rfl (by kernel_rfl) (by rfl) (fun K hK => ?_)
          go_simp
          refine (lright_o x' _).mono ?_
          rintro e w9 ⟨rfl, hb9⟩
          rw [HRX.out]
          have hb9 : Below we.heap.size we w9 := ((Below.refl _ _).drew).trans hb9
          have h9 := (hb9.block _ w14).trans hb14
          have hW9 := HW14.out.trans (hb9.mono HW14.out.size)
          refine hK _ _ ⟨h9, HCV.out _ hW9⟩ (fun hHeld => ?_)
          clear hK K
          refine lane_take (v := ?_) rfl (by kernel_rfl) (by kernel_rfl) (by rfl) ?_ (by assumption) ?_
          rotate_left
          · intro w' hSw
            obtain ⟨_, hc⟩ := hSw
            go_simp
            try (with_reducible rfl)
          simp only [Act.put, List.setIfInBounds_toArray, List.set_cons_zero, List.set_cons_succ]
          refine lane_take (v := ?_) rfl (by kernel_rfl) (by kernel_rfl) (by rfl) ?_ (by assumption) ?_
          rotate_left
          · intro w' hSw
            obtain ⟨_, hc⟩ := hSw
            go_simp
            try (with_reducible rfl)
          simp only [Act.put, List.setIfInBounds_toArray, List.set_cons_zero, List.set_cons_succ]
          refine lane_take rfl (by kernel_rfl) (by kernel_rfl) (by rfl) (fun w' hS => exec_load rfl rfl (ld16 hS.1 rfl)) (by assumption) ?_
          simp only [Act.put, List.setIfInBounds_toArray, List.set_cons_zero, List.set_cons_succ]
          refine lane_take (v := ?_) rfl (by kernel_rfl) (by kernel_rfl) (by rfl) ?_ (by assumption) ?_
          rotate_left
          · intro w' hSw
            obtain ⟨_, hc⟩ := hSw
            go_simp
            try (with_reducible rfl)
          simp only [Act.put, List.setIfInBounds_toArray, List.set_cons_zero, List.set_cons_succ]
          refine lane_take (v := ?_) rfl (by kernel_rfl) (by kernel_rfl) (by rfl) ?_ (by assumption) ?_
          rotate_left
          · intro w' hSw
            obtain ⟨_, hc⟩ := hSw
            go_simp
            try (with_reducible rfl)
          simp only [Act.put, List.setIfInBounds_toArray, List.set_cons_zero, List.set_cons_succ]
          refine lane_alone rfl (by kernel_rfl) (by rfl) (fun K hK => ?_)
          go_simp
          refine (HEX.out _).mono ?_
          intro e wa hO
          obtain ⟨Aa, na, ca, rfl, HNa, _, HBa, HRa, _, _⟩ := hO.open_
          have ha := (HBa.out.block _ (Nat.lt_of_lt_of_le w14 hb9.size)).trans h9
          have hWa := hW9.trans (HBa.out.mono hW9.size)
          have hcva := conv_len wa Aa _ ca na _ HRa.out HNa.out
          refine hK _ _ ⟨ha, HCV.out _ hWa⟩ (fun hHeld => ?_)
          clear hK K
          refine lane_alone rfl (by kernel_rfl) (by rfl) (fun K hK => ?_)
          go_simp
          refine hK _ _ hHeld (fun hHeld => ?_)
          clear hK K hcva
          repeat (first
            | (refine lane_skip rfl (by kernel_rfl) (by kernel_rfl) (by rfl) (by assumption) ?_; simp only [Act.put, List.setIfInBounds_toArray, List.set_cons_zero, List.set_cons_succ])
            | (refine lane_take (v := ?_) rfl (by kernel_rfl) (by kernel_rfl) (by rfl) ?_ (by assumption) ?_; rotate_left; (focus (intro w' hSw; go_simp; try (with_reducible rfl))); simp only [Act.put, List.setIfInBounds_toArray, List.set_cons_zero, List.set_cons_succ]))
          refine lane_end (by kernel_rfl) ?_
          have HWF := Lib.hid hWa
          clear hHeld h9 ha hb9 hW9 hWa hb14 w14
          go_wp2
          go_roundw
          case rel => exact ⟨q + 1, by omega, by go_num, HWF⟩
          case measure => simp [intOf]; omega
        · subst he ho
          rw [Ov.val_arr]
          clear hd
          go_wp2_with (first | ((with_reducible_and_instances (show wpList _ _ _ (Oper.mk _ (Op.load 27 _) _ _ _ _ :: _) _ _)); refine wl_load Try.underlying27 rfl info16 rfl rfl rfl (by (repeat (first | assumption | (with_reducible refine alloc_at ?_; (focus (first | omega | (simp; done) | (simp; omega)))) | (with_reducible refine boxed_at ?_; (focus (first | omega | (simp; done) | (simp; omega)))) | (with_reducible refine alloc_old ?_ ?_; (focus (first | omega | (simp; done) | (simp; omega)))) | (with_reducible refine boxed_old ?_ ?_; (focus (first | omega | (simp; done) | (simp; omega)))) | (with_reducible refine drew_old ?_)))) (by rfl) ?_) | ((with_reducible_and_instances (show wpList _ _ _ (Oper.mk _ (Op.store 27 _ _) _ _ _ _ :: _) _ _)); refine wl_store info16 rfl rfl rfl rfl (by (repeat (first | assumption | (with_reducible refine alloc_at ?_; (focus (first | omega | (simp; done) | (simp; omega)))) | (with_reducible refine boxed_at ?_; (focus (first | omega | (simp; done) | (simp; omega)))) | (with_reducible refine alloc_old ?_ ?_; (focus (first | omega | (simp; done) | (simp; omega)))) | (with_reducible refine boxed_old ?_ ?_; (focus (first | omega | (simp; done) | (simp; omega)))) | (with_reducible refine drew_old ?_)))) (by rfl) (by rfl) (by first | exact Ov.arr_one _ | (rw [← hz]; exact Ov.arr_one _) | simp [Value.oneCell']) ?_))
          have hb14 : (boxed (wd.alloc (.cells #[.int .u8 0, .int .i64 0, .int .i64 0, .int .i64 0, .int .i64 0, .int .u8 0, .int .i64 0, .int .i64 0, .bool false, .bool false, .int .u8 0, .int .i64 0, .int .i64 0, .int .i64 0, .int .i64 0, .int .u8 0] 27)) wd.heap.size Ov.zero.arr 27).heap[wd.heap.size]? = some (.cells Ov.zero.arr 27 (0, 0)) := by (repeat (first | assumption | (with_reducible refine alloc_at ?_; (focus (first | omega | (simp; done) | (simp; omega)))) | (with_reducible refine boxed_at ?_; (focus (first | omega | (simp; done) | (simp; omega)))) | (with_reducible refine alloc_old ?_ ?_; (focus (first | omega | (simp; done) | (simp; omega)))) | (with_reducible refine boxed_old ?_ ?_; (focus (first | omega | (simp; done) | (simp; omega)))) | (with_reducible refine drew_old ?_)))
          have HWF : Hid (Below w8.heap.size w8 (boxed (wd.alloc (.cells #[.int .u8 0, .int .i64 0, .int .i64 0, .int .i64 0, .int .i64 0, .int .u8 0, .int .i64 0, .int .i64 0, .bool false, .bool false, .int .u8 0, .int .i64 0, .int .i64 0, .int .i64 0, .int .i64 0, .int .u8 0] 27)) wd.heap.size Ov.zero.arr 27).drew) := Lib.hid (HWD.out.trans ((boxed_below ((Below.refl _ wd).alloc (Nat.le_refl _) _) (Nat.le_refl _)).mono HWD.out.size)).drew
          generalize boxed (wd.alloc (.cells #[.int .u8 0, .int .i64 0, .int .i64 0, .int .i64 0, .int .i64 0, .int .u8 0, .int .i64 0, .int .i64 0, .bool false, .bool false, .int .u8 0, .int .i64 0, .int .i64 0, .int .i64 0, .int .i64 0, .int .u8 0] 27)) wd.heap.size Ov.zero.arr 27 = we at *
          refine lane_start (ord := [0, 1, 2, 3, 4, 5, 6, 7, 8, 9, 10, 11, 12, 13, 14, 15, 16, 17, 18, 19, 20, 21, 22, 23, 24, 25, 26, 27]) (S := fun w' => w'.heap[wd.heap.size]? = some (.cells Ov.zero.arr 27 (0, 0))) rfl (by kernel_rfl) hb14 (fun hHeld => ?_)
          refine lane_take (v := ?_) rfl (by kernel_rfl) (by kernel_rfl) (by rfl) ?_ (by assumption) ?_
          rotate_left
          · intro w' hSw
            go_simp
            try (with_reducible rfl)
          simp only [Act.put, List.setIfInBounds_toArray, List.set_cons_zero, List.set_cons_succ]
          refine lane_take (v := ?_) rfl (by kernel_rfl) (by kernel_rfl) (by rfl) ?_ (by assumption) ?_
          rotate_left
          · intro w' hSw
            go_simp
            try (with_reducible rfl)
          simp only [Act.put, List.setIfInBounds_toArray, List.set_cons_zero, List.set_cons_succ]
          refine lane_take (v := ?_) rfl (by kernel_rfl) (by kernel_rfl) (by rfl) ?_ (by assumption) ?_
          rotate_left
          · intro w' hSw
            go_simp
            try (with_reducible rfl)
          simp only [Act.put, List.setIfInBounds_toArray, List.set_cons_zero, List.set_cons_succ]
          refine lane_skip rfl (by kernel_rfl) (by kernel_rfl) (by rfl) (by assumption) ?_
          simp only [Act.put, List.setIfInBounds_toArray, List.set_cons_zero, List.set_cons_succ]
          refine lane_skip rfl (by kernel_rfl) (by kernel_rfl) (by rfl) (by assumption) ?_
          simp only [Act.put, List.setIfInBounds_toArray, List.set_cons_zero, List.set_cons_succ]
          refine lane_skip rfl (by kernel_rfl) (by kernel_rfl) (by rfl) (by assumption) ?_
          simp only [Act.put, List.setIfInBounds_toArray, List.set_cons_zero, List.set_cons_succ]
          refine lane_skip rfl (by kernel_rfl) (by kernel_rfl) (by rfl) (by assumption) ?_
          simp only [Act.put, List.setIfInBounds_toArray, List.set_cons_zero, List.set_cons_succ]
          refine lane_skip rfl (by kernel_rfl) (by kernel_rfl) (by rfl) (by assumption) ?_
          simp only [Act.put, List.setIfInBounds_toArray, List.set_cons_zero, List.set_cons_succ]
          refine lane_skip rfl (by kernel_rfl) (by kernel_rfl) (by rfl) (by assumption) ?_
          simp only [Act.put, List.setIfInBounds_toArray, List.set_cons_zero, List.set_cons_succ]
          refine lane_skip rfl (by kernel_rfl) (by kernel_rfl) (by rfl) (by assumption) ?_
          simp only [Act.put, List.setIfInBounds_toArray, List.set_cons_zero, List.set_cons_succ]
          refine lane_skip rfl (by kernel_rfl) (by kernel_rfl) (by rfl) (by assumption) ?_
          simp only [Act.put, List.setIfInBounds_toArray, List.set_cons_zero, List.set_cons_succ]
          refine lane_skip rfl (by kernel_rfl) (by kernel_rfl) (by rfl) (by assumption) ?_
          simp only [Act.put, List.setIfInBounds_toArray, List.set_cons_zero, List.set_cons_succ]
          refine lane_skip rfl (by kernel_rfl) (by kernel_rfl) (by rfl) (by assumption) ?_
          simp only [Act.put, List.setIfInBounds_toArray, List.set_cons_zero, List.set_cons_succ]
          refine lane_skip rfl (by kernel_rfl) (by kernel_rfl) (by rfl) (by assumption) ?_
          simp only [Act.put, List.setIfInBounds_toArray, List.set_cons_zero, List.set_cons_succ]
          refine lane_take (v := ?_) rfl (by kernel_rfl) (by kernel_rfl) (by rfl) ?_ (by assumption) ?_
          rotate_left
          · intro w' hSw
            go_simp
            try (with_reducible rfl)
          simp only [Act.put, List.setIfInBounds_toArray, List.set_cons_zero, List.set_cons_succ]
          refine lane_take (v := ?_) rfl (by kernel_rfl) (by kernel_rfl) (by rfl) ?_ (by assumption) ?_
          rotate_left
          · intro w' hSw
            go_simp
            try (with_reducible rfl)
          simp only [Act.put, List.setIfInBounds_toArray, List.set_cons_zero, List.set_cons_succ]
          refine lane_take (v := ?_) rfl (by kernel_rfl) (by kernel_rfl) (by rfl) ?_ (by assumption) ?_
          rotate_left
          · intro w' hSw
            go_simp
            try (with_reducible rfl)
          simp only [Act.put, List.setIfInBounds_toArray, List.set_cons_zero, List.set_cons_succ]
          refine lane_take (v := ?_) rfl (by kernel_rfl) (by kernel_rfl) (by rfl) ?_ (by assumption) ?_
          rotate_left
          · intro w' hSw
            go_simp
            try (with_reducible rfl)
          simp only [Act.put, List.setIfInBounds_toArray, List.set_cons_zero, List.set_cons_succ]
          refine lane_take (v := ?_) rfl (by kernel_rfl) (by kernel_rfl) (by rfl) ?_ (by assumption) ?_
          rotate_left
          · intro w' hSw
            go_simp
            try (with_reducible rfl)
          simp only [Act.put, List.setIfInBounds_toArray, List.set_cons_zero, List.set_cons_succ]
          refine lane_take (v := ?_) rfl (by kernel_rfl) (by kernel_rfl) (by rfl) ?_ (by assumption) ?_
          rotate_left
          · intro w' hSw
            go_simp
            try (with_reducible rfl)
          simp only [Act.put, List.setIfInBounds_toArray, List.set_cons_zero, List.set_cons_succ]
          refine lane_take (v := ?_) rfl (by kernel_rfl) (by kernel_rfl) (by rfl) ?_ (by assumption) ?_
          rotate_left
          · intro w' hSw
            go_simp
            try (with_reducible rfl)
          simp only [Act.put, List.setIfInBounds_toArray, List.set_cons_zero, List.set_cons_succ]
          refine lane_take (v := ?_) rfl (by kernel_rfl) (by kernel_rfl) (by rfl) ?_ (by assumption) ?_
          rotate_left
          · intro w' hSw
            go_simp
            try (with_reducible rfl)
          simp only [Act.put, List.setIfInBounds_toArray, List.set_cons_zero, List.set_cons_succ]
          refine lane_take rfl (by kernel_rfl) (by kernel_rfl) (by rfl) (fun w' hS => exec_load rfl rfl (ld16 hS rfl)) (by assumption) ?_
          simp only [Act.put, List.setIfInBounds_toArray, List.set_cons_zero, List.set_cons_succ]
          refine lane_take (v := ?_) rfl (by kernel_rfl) (by kernel_rfl) (by rfl) ?_ (by assumption) ?_
          rotate_left
          · intro w' hSw
            go_simp
            try (with_reducible rfl)
          simp only [Act.put, List.setIfInBounds_toArray, List.set_cons_zero, List.set_cons_succ]
          refine lane_take rfl (by kernel_rfl) (by kernel_rfl) (by rfl) (fun w' hS => exec_neq16' (v := Ov.zero) (v' := Ov.zero) (decide_eq_true rfl) rfl rfl rfl w') (by assumption) ?_
          simp only [Act.put, List.setIfInBounds_toArray, List.set_cons_zero, List.set_cons_succ]
          repeat (first
            | (refine lane_skip rfl (by kernel_rfl) (by kernel_rfl) (by rfl) (by assumption) ?_; simp only [Act.put, List.setIfInBounds_toArray, List.set_cons_zero, List.set_cons_succ])
            | (refine lane_take (v := ?_) rfl (by kernel_rfl) (by kernel_rfl) (by rfl) ?_ (by assumption) ?_; rotate_left; (focus (intro w' hSw; go_simp; try (with_reducible rfl))); simp only [Act.put, List.setIfInBounds_toArray, List.set_cons_zero, List.set_cons_succ]))
          refine lane_end (by kernel_rfl) ?_
          clear hHeld hb14
          go_wp2
          go_roundw
          case rel => exact ⟨q + 1, by omega, by go_num, HWF⟩
          case measure => simp [intOf]; omega
      · obtain rfl : q = 4 := by omega
        have HWW : Hid (Below w.heap.size w wr) := Lib.hid (HW8.out.trans (HW.out.mono HW8.out.size))
        go_wp2
        go_ret
        exact ⟨rfl, HWW.out⟩

theorem orderReads_walk {w : World} (A : Option Addr) (c : Nat) (b : List Int) (hr : Rd w .u8 w.heap.size A b) (hb : ∀ x ∈ b, (Lit.int .u8 x).wf = true) (k s p n a u e t : Int) (g l : Bool) (K S C T M V : Int) (h : (⟨k, s, p, n, ⟨a, u, e, t, g, l⟩, ⟨K, S, C, T, M, V⟩⟩ : Ov).Wf) (at_ : Int) (wa : (Lit.int .u8 at_).wf = true) (turn : Int) (wt : (Lit.int .u8 turn).wf = true) (more : Int) (wm : (Lit.int .u8 more).wf = true) :
    Calls Try.prog 5 #[.slice A b.length c, .agg #[.int .u8 k, .int .i64 s, .int .i64 p, .int .i64 n, .int .i64 a, .int .u8 u, .int .i64 e, .int .i64 t, .bool g, .bool l, .int .u8 K, .int .i64 S, .int .i64 C, .int .i64 T, .int .i64 M, .int .u8 V], .int .u8 at_, .int .u8 turn, .int .u8 more] w fun e w' => e = .returned (.bool true) ∧ Below w.heap.size w w' := by
  by_cases hn : 60 < b.length
  · exact orderReads_long A b.length c hn ⟨k, s, p, n, ⟨a, u, e, t, g, l⟩, ⟨K, S, C, T, M, V⟩⟩ at_ turn more w
  · exact orderReads_in w A b.length c b hr (fun x hx => wf_u8 (hb x hx)) rfl (by omega) ⟨k, s, p, n, ⟨a, u, e, t, g, l⟩, ⟨K, S, C, T, M, V⟩⟩ h at_ turn more (wf_u8 wa).1 (wf_u8 wa).2 (wf_u8 wt).1 (wf_u8 wt).2 (wf_u8 wm).1 (wf_u8 wm).2
end Go.Proofs.Ytambppcnmggocaa
