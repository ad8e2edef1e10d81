/-
  The walk of the law PlanBytes: it returns true, whatever the input, and makes new blocks alone. No conditions.
-/
import Derived.Test.YticefepcoemkoaaPlanBox
import Derived.Test.YticefepcoemkoaaPlan
namespace Go.Proofs.Yticefepcoemkoaa
set_option maxRecDepth 20000
open Go.ChangeShapes Go.WideShapes Go.ChangeAt Go.RowKit

theorem flag_one (on : Bool) (w : World) : Calls Try.prog 16 #[.bool on] w fun e w' => e = .returned (.int .i64 (Pn.one on)) ∧ w = w' := by
  cases on
  all_goals
    go_enter Try.func16, Try.ntmps16
    go_wp2
    go_ret
    exact ⟨rfl, rfl⟩

set_option maxHeartbeats 4000000 in
theorem planBytes_all (a u e t : Int) (g l : Bool) (more : Int) (wu : 0 ≤ u ∧ u < 256) (m0 : -9223372036854775808 ≤ more) (m1 : more ≤ 9223372036854775807) (w : World) :
    Calls Try.prog 4 #[.agg #[.int .i64 a, .int .u8 u, .int .i64 e, .int .i64 t, .bool g, .bool l], .int .i64 more] w fun e w' => e = .returned (.bool true) ∧ Below w.heap.size w w' := by
  have WU := Lib.hid wu
  clear wu
  have ha := Pn.nP_ok a
  have hu := Pn.nU_ok u
  have he := Pn.nE_ok e
  have ht := Pn.nT_ok t
  go_enter Try.func4, Try.ntmps4
  go_wp2_with (fail)
  refine (near_any a u e t g l _ WU.out).mono ?_
  rintro x w1 ⟨rfl, hb1⟩
  obtain ⟨hw1, s1, e1⟩ := keep0 hb1
  rw [e1]
  have HW1 := Lib.hid hw1
  clear e1 hb1 hw1
  generalize Pn.nP a = a' at *
  generalize Pn.nU u = u' at *
  generalize Pn.nE e = e' at *
  generalize Pn.nT t = t' at *
  go_wp2_with (fail)
  have hp2 : (boxed w1 w.heap.size #[.int .i64 a', .int .u8 u', .int .i64 e', .int .i64 t', .bool g, .bool l] 23).heap[w.heap.size]? = some (.cells #[.int .i64 a', .int .u8 u', .int .i64 e', .int .i64 t', .bool g, .bool l] 23) := boxed_block s1
  have HP2 := Lib.hid hp2
  have HW2 : Hid (Below w.heap.size w (boxed w1 w.heap.size #[.int .i64 a', .int .u8 u', .int .i64 e', .int .i64 t', .bool g, .bool l] 23)) := boxed_below HW1.out (Nat.le_refl _)
  have s2 : w.heap.size < (boxed w1 w.heap.size #[.int .i64 a', .int .u8 u', .int .i64 e', .int .i64 t', .bool g, .bool l] 23).heap.size := by rw [boxed_size]; exact s1
  have H2 := Pn.At.of hp2
  clear hp2 HW1 s1
  generalize boxed w1 w.heap.size #[.int .i64 a', .int .u8 u', .int .i64 e', .int .i64 t', .bool g, .bool l] 23 = w2 at *
  refine (new_any _).mono ?_
  rintro x w3 ⟨rfl, rfl⟩
  obtain ⟨c0, c1, c2, c3, c4, c5⟩ := H2
  have hpb := pb_new w2 w2.heap.size (Nat.le_refl _)
  have HPB := Lib.hid hpb
  clear hpb
  go_wp2_with (fail)
  refine (plput_any _ w2.heap.size w2.heap.size [] a' u' e' t' g l HPB.out (by simp) ⟨by omega, by omega⟩ ⟨by omega, by omega⟩ ⟨by omega, by omega⟩ ⟨by omega, by omega⟩).mono ?_
  rintro x w4 ⟨rfl, hp4⟩
  rw [List.nil_append] at hp4
  have hp5 : Below w2.heap.size w2 w4 := ((Below.refl _ w2).alloc (Nat.le_refl _) _).trans hp4.below
  have HPB4 := Lib.hid hp4.box
  have HW4 := Lib.hid (HW2.out.trans (hp5.mono HW2.out.size))
  have HP4 : Hid (w4.heap[w.heap.size]? = _) := Lib.hid ((hp5.block _ s2).trans HP2.out)
  have s4 : w.heap.size < w4.heap.size := Nat.lt_of_lt_of_le s2 hp5.size
  have hlen : (Pn.bytes a' u' e' t' g l).length ≤ 66 := by
    rw [Pn.bytes_eq]
    refine Pk.encs_len [a', u', e', t', Pn.one g, Pn.one l] fun n hn => ?_
    have h1 := Pn.one_ok g
    have h2 := Pn.one_ok l
    simp only [List.mem_cons, List.not_mem_nil, or_false] at hn
    rcases hn with rfl | rfl | rfl | rfl | rfl | rfl <;> omega
  clear hp4 hp5 HPB HW2 HP2 c0 c1 c2 c3 c4 c5 s2
  go_wp2_with (fail)
  refine (done_put _ _ _ _ HPB4.out (by omega)).mono ?_
  intro x w5 hO
  obtain ⟨A5, n5, c5, rfl, HN5, HO5, H5, HR5, h51, h52⟩ := hO.open_
  have HP5 : Hid (w5.heap[w.heap.size]? = some (.cells #[.int .i64 a', .int .u8 u', .int .i64 e', .int .i64 t', .bool g, .bool l] 23)) := Lib.hid ((H5.out.block _ s4).trans HP4.out)
  have HW5 := Lib.hid (HW4.out.trans (H5.out.mono HW4.out.size))
  have s5 : w.heap.size < w5.heap.size := Nat.lt_of_lt_of_le s4 H5.out.size
  have hwu : IntKind.i64.wrap u' = u' := by simp only [IntKind.wrap_i64]; omega
  clear hO HO5 H5 HPB4 HW4 HP4 s4
  have hat := Pn.At.of HP5.out
  go_wp2
  refine lane_start (ord := [0, 1, 2, 3, 4, 5, 6, 7, 8, 9, 10, 12, 13, 11, 14, 15, 16, 17]) (S := fun w' => Pn.At w.heap.size a' u' e' t' g l w') rfl (by kernel_rfl) (Pn.At.of (w := w5.drew) HP5.out) (fun hHeld => ?_)
  clear hat
  repeat (first
    | (refine lane_take (v := ?_) rfl (by kernel_rfl) (by kernel_rfl) (by rfl) ?_ (by assumption) ?_; rotate_left; (focus (intro w hSw; obtain ⟨s0, s1, s2, s3, s4, s5⟩ := hSw; (try dsimp only at s0 s1 s2 s3 s4 s5); go_simp; try (with_reducible rfl))); simp only [Act.put, List.setIfInBounds_toArray, List.set_cons_zero, List.set_cons_succ]))
  refine lane_alone rfl (by kernel_rfl) (by rfl) (fun K hK => ?_)
  go_simp
  refine (flag_one g _).mono ?_
  rintro x w6 ⟨rfl, rfl⟩
  refine hK _ _ hHeld (fun hHeld => ?_)
  clear hK K
  refine lane_alone rfl (by kernel_rfl) (by rfl) (fun K hK => ?_)
  go_simp
  refine (flag_one l _).mono ?_
  rintro x w6 ⟨rfl, rfl⟩
  refine hK _ _ hHeld (fun hHeld => ?_)
  clear hK K
  refine lane_alone rfl (by kernel_rfl) (by rfl) (fun K hK => ?_)
  go_simp
  have hb6 : Below w5.heap.size w5 ((w5.alloc (.cells #[.int .i64 a', .int .i64 u', .int .i64 e', .int .i64 t', .int .i64 (Pn.one g), .int .i64 (Pn.one l)] 2)).drew) := ((Below.refl _ w5).alloc (Nat.le_refl _) _).drew
  have hr6 : Rd ((w5.alloc (.cells #[.int .i64 a', .int .i64 u', .int .i64 e', .int .i64 t', .int .i64 (Pn.one g), .int .i64 (Pn.one l)] 2)).drew) .i64 (w5.heap.size + 1) (some ⟨w5.heap.size, 0, none⟩) [a', u', e', t', Pn.one g, Pn.one l] := (rd_lit w5 _ .i64 [a', u', e', t', Pn.one g, Pn.one l] 2 (0, 0) rfl).kept fun _ _ => rfl
  have hz6 : ((w5.alloc (.cells #[.int .i64 a', .int .i64 u', .int .i64 e', .int .i64 t', .int .i64 (Pn.one g), .int .i64 (Pn.one l)] 2)).drew).heap.size = w5.heap.size + 1 := by simp
  generalize (w5.alloc (.cells #[.int .i64 a', .int .i64 u', .int .i64 e', .int .i64 t', .int .i64 (Pn.one g), .int .i64 (Pn.one l)] 2)).drew = w6 at *
  have hP6 : w6.heap[w.heap.size]? = some (.cells #[.int .i64 a', .int .u8 u', .int .i64 e', .int .i64 t', .bool g, .bool l] 23) := (hb6.block _ s5).trans HP5.out
  refine hK _ _ (Pn.At.of hP6) (fun hHeld => ?_)
  clear hK K
  refine lane_alone rfl (by kernel_rfl) (by rfl) (fun K hK => ?_)
  go_simp
  refine (packs_any _ (w5.heap.size + 1) _ _ _ hr6 (by omega) (by simp) (fun n hn => ?_)).mono ?_
  · have h1 := Pn.one_ok g
    have h2 := Pn.one_ok l
    simp only [List.mem_cons, List.not_mem_nil, or_false] at hn
    rcases hn with rfl | rfl | rfl | rfl | rfl | rfl <;> omega
  intro x w7 hO
  rw [← Pn.bytes_eq] at hO
  obtain ⟨A7, n7, c7, rfl, HN7, HO7, H7, HR7, h71, h72⟩ := hO.open_
  obtain rfl : n7 = n5 := HN7.out.symm.trans HN5.out
  have hP7 : w7.heap[w.heap.size]? = some (.cells #[.int .i64 a', .int .u8 u', .int .i64 e', .int .i64 t', .bool g, .bool l] 23) := (H7.out.block _ (by omega)).trans hP6
  have h57 : Below w5.heap.size w5 w7 := hb6.trans (H7.out.mono hb6.size)
  have HP7 := Lib.hid hP7
  have HW7 := Lib.hid (HW5.out.trans (h57.mono HW5.out.size))
  have HR57 : Hid (Rd w7 .u8 w5.heap.size A5 (Pn.bytes a' u' e' t' g l)) := HR5.out.below h57
  have s7 : w5.heap.size ≤ w7.heap.size := h57.size
  refine hK _ _ (Pn.At.of hP7) (fun hHeld => ?_)
  clear hK K hO HO7 hb6 hr6 hz6 hP6 H7 HR5 HW5 HP5 h57 HN7 hP7
  repeat (first
    | (refine lane_take (v := ?_) rfl (by kernel_rfl) (by kernel_rfl) (by rfl) ?_ (by assumption) ?_; rotate_left; (focus (intro w hSw; obtain ⟨s0, s1, s2, s3, s4, s5⟩ := hSw; (try dsimp only at s0 s1 s2 s3 s4 s5); go_simp; try (with_reducible rfl))); simp only [Act.put, List.setIfInBounds_toArray, List.set_cons_zero, List.set_cons_succ]))
  refine lane_end (by kernel_rfl) ?_
  clear hHeld
  have HS : Hid (Grew w7 w7.heap.size (.slice none 0 0) [] (.slice none 0 0) w7) := Grew.start w7
  go_wp2_with (at_builtin; refine wpList_append_rd rfl _ _ rfl rfl w7.heap.size (.slice none 0 0) [] (Pn.bytes a' u' e' t' g l) _ A5 c5 rfl (by rw [HN5.out]; rfl) HS.out.own HR57.out (by simp; omega) (Nat.le_refl _) ?_; intro v8 w8 hg8; have G8 := Lib.hid (HS.out.trans hg8); clear hg8)
  refine (pack_any more _ m0 m1).mono ?_
  intro x w9 hO
  obtain ⟨A9, n9, c9, rfl, HN9, HO9, H9, HR9, h91, h92⟩ := hO.open_
  have G9 := Lib.hid (G8.out.after H9.out)
  have HE := Lib.hid (Pk.enc_eleven (Pk.zig_lt more m0 m1))
  clear hO HO9 HS
  go_wp2_with (at_builtin; refine wpList_append_rd rfl _ _ rfl rfl w7.heap.size v8 ([] ++ Pn.bytes a' u' e' t' g l) (Pk.enc (Pk.zig more)) _ A9 c9 rfl (by rw [HN9.out]; rfl) G9.out.own HR9.out (by simp; have := HE.out; omega) G9.out.grown.size ?_; intro v10 w10 hg10; have G10 := Lib.hid (G9.out.trans hg10); clear hg10)
  obtain ⟨A10, c10, rfl, h101, h102⟩ := own_form G10.out.own
  have H10 : Hid (Below w7.heap.size w7 w10) := Lib.hid (G10.out.below0)
  have hbo : BytesOk (Pn.bytes a' u' e' t' g l ++ Pk.enc (Pk.zig more)) := by
    rw [Pn.bytes_eq]
    refine BytesOk.append (fun y hy => ?_) (fun y hy => ?_)
    · have := Pk.encs_range _ y hy; omega
    · have := Pk.enc_range _ y hy; omega
  have hl10 : (Pn.bytes a' u' e' t' g l ++ Pk.enc (Pk.zig more)).length ≤ 900000 := by rw [List.length_append]; have := HE.out; omega
  refine (of_len A10 w10.heap.size c10 _ (Pn.bytes a' u' e' t' g l ++ Pk.enc (Pk.zig more)) w10 (Rd.own G10.out.own) (Nat.le_refl _) hl10 hbo (by simp)).mono ?_
  rintro x w11 ⟨gb, rfl, hg11, hb11, hlt11⟩
  have HG11 := Lib.hid hg11
  have H11 : Hid (Below w7.heap.size w7 w11) := Lib.hid (H10.out.trans (hb11.mono H10.out.size))
  have hgb : w7.heap.size ≤ gb := Nat.le_trans H10.out.size hlt11
  clear hbo hl10 hg11 hb11 hlt11 G10 G9 G8 H9 HR9 HN9 H10
  go_wp2_with (fail)
  refine (plget_any w11 gb a' u' e' t' g l (Pk.enc (Pk.zig more)) HG11.out (by omega) (by omega) (by omega) (by omega) (by omega) (by omega) (by omega) (by omega)).mono ?_
  rintro x w12 ⟨rfl, hgr12, hg12⟩
  have HG12 := Lib.hid hg12
  have H12 : Hid (Below w7.heap.size w7 w12) := Lib.hid (H11.out.trans (grown_below hgr12 hgb H11.out.size))
  clear hgr12 hg12 HG11 H11
  go_wp2_with (fail)
  have hb13 : Below w12.heap.size w12 (w12.alloc (.cells #[.int .i64 a', .int .u8 u', .int .i64 e', .int .i64 t', .bool g, .bool l] 23)) := (Below.refl _ w12).alloc (Nat.le_refl _) _
  have hp13 : (w12.alloc (.cells #[.int .i64 a', .int .u8 u', .int .i64 e', .int .i64 t', .bool g, .bool l] 23)).heap[w12.heap.size]? = some (.cells #[.int .i64 a', .int .u8 u', .int .i64 e', .int .i64 t', .bool g, .bool l] 23) := alloc_block
  have hz13 : (w12.alloc (.cells #[.int .i64 a', .int .u8 u', .int .i64 e', .int .i64 t', .bool g, .bool l] 23)).heap.size = w12.heap.size + 1 := by simp
  generalize w12.alloc (.cells #[.int .i64 a', .int .u8 u', .int .i64 e', .int .i64 t', .bool g, .bool l] 23) = w13 at *
  refine (pnawake_any w13).mono ?_
  rintro x w14 ⟨rfl, hb14⟩
  have s12 : w7.heap.size ≤ w12.heap.size := H12.out.size
  have h13 : Below w7.heap.size w7 w13 := H12.out.trans (hb13.mono s12)
  have h14 : Below w7.heap.size w7 w14 := h13.trans (hb14.mono h13.size)
  have hp14 : w14.heap[w12.heap.size]? = some (.cells #[.int .i64 a', .int .u8 u', .int .i64 e', .int .i64 t', .bool g, .bool l] 23) := (hb14.block _ (by omega)).trans hp13
  have hq14 : w14.heap[w.heap.size]? = some (.cells #[.int .i64 a', .int .u8 u', .int .i64 e', .int .i64 t', .bool g, .bool l] 23) := (h14.block _ (by omega)).trans HP7.out
  obtain ⟨c0, c1, c2, c3, c4, c5'⟩ := Pn.At.of hq14
  obtain ⟨d0, d1, d2, d3, d4, d5⟩ := Pn.At.of hp14
  have hcv5 := conv_len w14 A5 _ c5 n7 _ (HR57.out.below (h14.mono s7)) HN5.out
  have hcv7 := conv_len w14 A7 _ c7 n7 _ (HR7.out.below h14) HN5.out
  have HG14 := Lib.hid ((HG12.out.more hb13).more hb14)
  have HW14 := Lib.hid (HW7.out.trans (h14.mono HW7.out.size))
  obtain ⟨Ag, cg, hxg, _⟩ := HG14.out
  have HXG := Lib.hid hxg
  have hgw : w.heap.size ≤ gb := by omega
  clear hb13 hp13 hz13 hb14 h13 h14 hp14 hq14 HR57 HR7 HG12 H12 HW7 HP7 hxg
  clear hHeld
  go_wp2_with (go_at_call 20; refine (fault_box _ _ _ _ HXG.out).mono ?_; rintro e w' ⟨rfl, rfl⟩)
  have hgm : GB w14 gb (Pk.enc (Pk.zig more) ++ []) 0 := by rw [List.append_nil]; exact HG14.out
  refine (num_get w14 gb more more more [] hgm m0 m1 (Int.le_refl _) (Int.le_refl _)).mono ?_
  clear hgm
  rintro x w15 ⟨rfl, hgr15, hg15⟩
  obtain ⟨A15, c15, hx15, _⟩ := hg15
  have HX15 := Lib.hid hx15
  have HW15 := Lib.hid (HW14.out.trans (grown_below hgr15 hgw HW14.out.size))
  clear hgr15 hx15
  go_wp2_with (fail)
  refine (end_ok _ _ _ _ _ HX15.out).mono ?_
  rintro x w16 ⟨rfl, rfl⟩
  go_wp2
  go_ret
  exact ⟨rfl, HW15.out⟩

theorem planBytes_walk (a u e t : Int) (g l : Bool) (h : (⟨a, u, e, t, g, l⟩ : Pv).Wf) (more : Int) (wm : (Lit.int .i64 more).wf = true) (w : World) :
    Calls Try.prog 4 #[.agg #[.int .i64 a, .int .u8 u, .int .i64 e, .int .i64 t, .bool g, .bool l], .int .i64 more] w fun e w' => e = .returned (.bool true) ∧ Below w.heap.size w w' :=
  planBytes_all a u e t g l more h.2.1 (wf_i64 wm).1 (wf_i64 wm).2 w
end Go.Proofs.Yticefepcoemkoaa
