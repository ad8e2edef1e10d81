/-
  The walk of the law PlateTorn: it returns true, whatever the input, and makes new blocks alone. No conditions.
-/
import Derived.Test.YtnplnggkeekedaaPlLive
import Derived.Test.YtnplnggkeekedaaRow
namespace Go.Proofs.Ytnplnggkeekedaa
open Go.ChangeShapes Go.WideShapes Go.ChangeAt Go.RowKit

theorem boxed_at' {w : World} {c c' : Array Value} {t t' : TypeId} {b : Nat} (h : b = w.heap.size) : boxed (w.alloc (.cells c t)) b c' t' = w.alloc (.cells c' t') := by subst h; exact boxed_new _ _ _ _ _
theorem zero5 : (Try.prog.info? 5).map (fun i => (i.zero, i.size, i.bytes)) = some (some (.int .u8 0), 1, 1) := by kernel_rfl
theorem made64 : madeCells (Value.int .u8 0).cells (64 * 1) = arr Pl.zs := by kernel_rfl
/-- 'make([]byte, 64)'. -/
theorem wpList_make64 {w : World} {ops : Array Oper} {rest : List Oper} {o : Oper} {a : Act} {Q : Exit → Act → World → Prop} (hg : o.guard = none) (l c : Operand) (ho : o.op = .makeSlice 31 l c) (hl : a.eval l = .int .i64 64) (hc : a.eval c = .int .i64 64)
    (h : wpList Try.prog ops Q rest (a.put o.dst (.slice (some ⟨w.heap.size, 0, none⟩) 64 64)) (w.alloc (.cells (arr Pl.zs) 5))) : wpList Try.prog ops Q (o :: rest) a w := by
  refine wpList_plain hg fun K hK => ?_
  obtain ⟨i, hi, hz0, hz1, hz2⟩ := info_parts zero5
  have hr := run_makeSlice (P := Try.prog) w 31 5 i _ Try.underlying31 hi hz0 .i64 .i64 64 64 (by omega) (by omega) (by rw [hz1]; decide) (by rw [hz2]; decide) (by omega)
  rw [hz1, show (64 : Int).toNat = 64 from rfl, made64] at hr
  unfold Oper.wp execOp
  simp only [ho, hl, hc, Sem.run_bind, hr, Result.andThen_ok]
  exact hK _ _ h

/-- Over the head one byte more. -/
theorem headed_succ {k : Nat} {l s : List Int} (h : k < l.length) (h2 : k < s.length) : (arr (headed k l s)).setIfInBounds k (.int .u8 l[k]) = arr (headed (k + 1) l s) := by
  apply Array.ext'
  rw [Array.toList_setIfInBounds, arr_list, arr_list]
  unfold headed
  rw [List.take_succ_eq_append_getElem h, cl_append, cl_append, cl_append]
  have h3 : (cl .u8 (l.take k)).length = k := by rw [cl_length, List.length_take]; omega
  have h4 : cl .u8 (s.drop k) = .int .u8 s[k] :: cl .u8 (s.drop (k + 1)) := by rw [List.drop_eq_getElem_cons h2]; rfl
  rw [List.set_append, if_neg (by omega), h3, Nat.sub_self, h4, List.set_cons_zero, List.append_assoc]
  rfl
theorem headed_zero (l s : List Int) : headed 0 l s = s := by simp [headed]

/-! What becomes of it. -/
def tornSt (old : List Int) (s : Int) : Pl.St := ⟨[Pl.pad old], [], 2, false, true, 0, min (max s 0) 64⟩
theorem torn1 {old : List Int} (h : old.length ≤ 64) : ((Pl.St.new 1).put 0 old).flush = ⟨[Pl.pad old], [], 2, false, false, 0, 0⟩ := by
  have hno : ¬ ((Pl.St.new 1).there 0 = false ∨ 64 < old.length) := by rintro (h' | h'); exact absurd h' (by decide); omega
  rw [(put_goes hno rfl rfl).1]; rfl
theorem torn2 (old : List Int) (s : Int) : (⟨[Pl.pad old], [], 2, false, false, 0, 0⟩ : Pl.St).arm 0 s = tornSt old s := rfl
theorem torn3 {old b : List Int} {s : Int} (h : b.length ≤ 64) : (tornSt old s).put 0 b = (tornSt old s).act.tear 0 (Pl.pad b) ∧ (tornSt old s).putE 0 b = 7 := by
  have hno : ¬ ((tornSt old s).there 0 = false ∨ 64 < b.length) := by rintro (h' | h'); exact absurd h' (by simp [tornSt, Pl.St.there]); omega
  exact put_stops hno rfl rfl
theorem torn_off {st : Pl.St} {i : Int} {s : List Int} : (st.tear i s).off = st.off := by unfold Pl.St.tear; split <;> rfl
theorem torn_safe {st : Pl.St} {i : Int} {s : List Int} : (st.tear i s).safe = st.safe := by unfold Pl.St.tear; split <;> rfl
theorem flush_off {st : Pl.St} (h : st.off = true) : st.flush = st ∧ st.flushE = 7 := by unfold Pl.St.flush Pl.St.flushE; rw [h]; exact ⟨rfl, rfl⟩
/-- What is read at last. -/
theorem torn4 {old b : List Int} {s : Nat} (keep : Bool) :
    (((tornSt old s).act.tear 0 (Pl.pad b)).fall (if keep then 1 else 0)).read 0 = headed (if keep then min s 64 else 0) (Pl.pad b) (Pl.pad old) := by
  have hsp : (tornSt old s).act.spare = (min s 64 : Nat) := by show min (max (s : Int) 0) 64 = _; omega
  unfold Pl.St.tear
  by_cases hz : (tornSt old s).act.spare = 0
  · rw [if_pos hz]
    have hs0 : s = 0 := by rw [hsp] at hz; omega
    subst hs0
    have : headed (if keep then min 0 64 else 0) (Pl.pad b) (Pl.pad old) = Pl.pad old := by cases keep <;> simp [headed]
    rw [this]
    cases keep <;> rfl
  · rw [if_neg hz, hsp]
    cases keep
    · rw [if_neg (by decide), if_neg (by decide), headed_zero]; rfl
    · rw [if_pos rfl, if_pos rfl]
      show Pl.torn _ _ _ = _
      rfl
theorem torn5 {old b : List Int} {s : Int} {x : Int} : ((((tornSt old s).act.tear 0 (Pl.pad b)).fall x).safe.length : Int) = 1 ∧ (((tornSt old s).act.tear 0 (Pl.pad b)).fall x).off = false := by
  refine ⟨?_, rfl⟩
  show ((Pl.keep _ _).length : Int) = 1
  rw [Pl.keep_length, torn_safe, Pl.act_safe]; rfl

set_option maxHeartbeats 1600000 in
theorem plateTorn_far (A A' : Option Addr) (n c n' c' : Nat) (s : Int) (k : Bool) (w : World) (h : 64 < n ∨ 64 < n') :
    Calls Try.prog 5 #[.slice A n c, .slice A' n' c', .int .u8 s, .bool k] w fun e w' => e = .returned (.bool true) ∧ Below w.heap.size w w' := by
  cases d1 : decide ((64 : Int) < (n : Int))
  · have d2 : decide ((64 : Int) < (n' : Int)) = true := by simp at d1 ⊢; omega
    go_enter Try.func5, Try.ntmps5
    go_wp2_with (fail)
    refine (awake_any _).mono ?_
    rintro e w1 ⟨rfl, hb1⟩
    go_wp2_with (fail)
    refine (awake_any _).mono ?_
    rintro e w2 ⟨rfl, hb2⟩
    go_wp2
    go_ret
    exact ⟨rfl, hb1.trans (hb2.mono hb1.size)⟩
  · skip
    go_enter Try.func5, Try.ntmps5
    go_wp2_with (fail)
    refine (awake_any _).mono ?_
    rintro e w1 ⟨rfl, hb1⟩
    go_wp2_with (fail)
    refine (awake_any _).mono ?_
    rintro e w2 ⟨rfl, hb2⟩
    go_wp2
    go_ret
    exact ⟨rfl, hb1.trans (hb2.mono hb1.size)⟩

set_option maxHeartbeats 1600000 in
theorem plateTorn_in (A A' : Option Addr) (n c n' c' : Nat) (old b : List Int) (s : Nat) (k : Bool) (w : World) (hr : Rd w .u8 w.heap.size A old) (ho : BytesOk old) (hn : old.length = n) (h : n ≤ 64) (hr' : Rd w .u8 w.heap.size A' b) (hb : BytesOk b) (hn' : b.length = n') (h' : n' ≤ 64) (hs : s < 256) :
    Calls Try.prog 5 #[.slice A n c, .slice A' n' c', .int .u8 s, .bool k] w fun e w' => e = .returned (.bool true) ∧ Below w.heap.size w w' := by
  have d1 : decide ((64 : Int) < (n : Int)) = false := by simp; omega
  have d2 : decide ((64 : Int) < (n' : Int)) = false := by simp; omega
  have HR := Lib.hid hr
  have HR' := Lib.hid hr'
  have HO := Lib.hid ho
  have HB := Lib.hid hb
  have HN := Lib.hid hn
  have HN' := Lib.hid hn'
  have hF : ∀ i : Nat, False → i < w.heap.size := fun _ h => h.elim
  clear hr hr' ho hb hn hn'
  go_enter Try.func5, Try.ntmps5
  go_wp2_with (fail)
  refine (awake_any _).mono ?_
  rintro e w1 ⟨rfl, hb1⟩
  have HB1 := Lib.hid hb1
  clear hb1
  go_wp2_with (fail)
  refine (new_live (w0 := w) (N := fun _ => False) w1 1 (by omega) HB1.out (fun _ h => h.elim)).mono ?_
  rintro e w2 ⟨rfl, h2, _⟩
  generalize w1.heap.size + 2 = g at *
  go_wp2_with (fail)
  refine (write_live (b := old) (B := w.heap.size) h2 (fun _ h => h.elim) (by omega) (HR.out.below h2.old) h2.old.size HN.out HO.out).mono ?_
  rintro e w3 ⟨rfl, h3, _⟩
  go_wp2_with (fail)
  refine (flush_live h3 (fun _ h => h.elim) (by omega)).mono ?_
  rintro e w4 ⟨rfl, h4, _⟩
  rw [torn1 (by rw [HN.out]; exact h)] at h4
  clear h2 h3
  go_wp2_with (fail)

  refine (arm_live h4 (fun _ h => h.elim) (by omega) (by omega)).mono ?_
  rintro e w5 ⟨rfl, h5, _⟩
  rw [torn2] at h5
  clear h4
  go_wp2_with (fail)
  refine (write_live (b := b) (B := w.heap.size) h5 (fun _ h => h.elim) (by omega) (HR'.out.below h5.old) h5.old.size HN'.out HB.out).mono ?_
  rintro e w6 ⟨rfl, h6, _⟩
  have e3 := torn3 (old := old) (s := s) (show b.length ≤ 64 by rw [HN'.out]; exact h')
  rw [e3.1] at h6
  rw [e3.2]
  clear e3 h5
  have hoff : ((tornSt old s).act.tear 0 (Pl.pad b)).off = true := by rw [torn_off]; rfl
  go_wp2_with (first | (go_at_call 18; refine (on_live h6).mono ?_; rw [hoff]; rintro e w7 ⟨rfl, rfl⟩))
  refine (flush_live h6 (fun _ h => h.elim) (by omega)).mono ?_
  rw [(flush_off hoff).1, (flush_off hoff).2]
  rintro e w7 ⟨rfl, h7, _⟩
  clear h6 hoff
  cases k
  · go_wp2_with (fail)
    refine (fall_live h7 (fun _ h => h.elim) (by omega)).mono ?_
    rintro e w8 ⟨rfl, h8, _⟩
    clear h7
    go_wp2_with (fail)
    refine (read_live h8 torn5.2 (by omega) (by rw [torn5.1]; omega)).mono ?_
    intro e w9 ht
    have e4 := torn4 (old := old) (b := b) (s := s) false
    simp only [Bool.false_eq_true, if_false] at e4
    rw [e4] at ht
    obtain ⟨A2, c2, rfl, HR9, HB9, hc1, hc2, HO9⟩ := ht.open_
    have HOLD := Lib.hid (h8.old.trans (HB9.out.mono h8.old.size))
    have hpo : Pl.Sec (Pl.pad old) := Pl.sec_pad (by rw [HN.out]; exact h) HO.out
    have hpb : Pl.Sec (Pl.pad b) := Pl.sec_pad (by rw [HN'.out]; exact h') HB.out
    clear ht h8 e4
    have HW := Lib.hid (HR.out.below HOLD.out)
    have HW' := Lib.hid (HR'.out.below HOLD.out)
    have hz9 := HOLD.out.size
    go_wp2_with (first | (refine wpList_make64 rfl _ _ rfl rfl rfl ?_) | (refine wpList_arr_copy rfl _ _ 31 31 rfl 5 Try.underlying31 size5 w9.heap.size 64 64 rfl A n c rfl Pl.zs 5 alloc_block w.heap.size old (HW.out.kept fun i hi => alloc_block_old (by omega)) HN.out (by rw [Pl.sec_zs.1]; exact Nat.le_refl _) n (Nat.min_eq_left h) ?_; rw [boxed_new, pad_headed HN.out]) |
      (refine wpList_arr_copy rfl _ _ 31 31 rfl 5 Try.underlying31 size5 (w9.heap.size + 1) 64 64 rfl A' n' c' rfl Pl.zs 5 (alloc_at (by rw [World.size_alloc])) w.heap.size b (HW'.out.kept fun i hi => by rw [alloc_block_old (by rw [World.size_alloc]; omega), alloc_block_old (by omega)]) HN'.out (by rw [Pl.sec_zs.1]; exact Nat.le_refl _) n' (Nat.min_eq_left h') ?_; rw [boxed_at' (by rw [World.size_alloc]), pad_headed HN'.out]))
    have hfz : (((w9.alloc (.cells (arr (Pl.pad old)) 5)).alloc (.cells (arr (Pl.pad b)) 5))).heap[w9.heap.size + 1]? = some (.cells (arr (Pl.pad b)) 5 (0, 0)) := alloc_at (by rw [World.size_alloc])
    have hwz : (((w9.alloc (.cells (arr (Pl.pad old)) 5)).alloc (.cells (arr (Pl.pad b)) 5))).heap[w9.heap.size]? = some (.cells (arr (Pl.pad old)) 5 (0, 0)) := by rw [alloc_block_old (by rw [World.size_alloc]; omega), alloc_block]
    have HB2 : Hid (Below w9.heap.size w9 ((w9.alloc (.cells (arr (Pl.pad old)) 5)).alloc (.cells (arr (Pl.pad b)) 5))) := ((Below.refl _ _).alloc (Nat.le_refl _) _).alloc (by rw [World.size_alloc]; omega) _
    have HFZ := Lib.hid hfz
    have HWZ := Lib.hid hwz
    have HM : Hid (0 ≤ 64) := by show 0 ≤ 64; omega
    clear hfz hwz
    generalize (w9.alloc (.cells (arr (Pl.pad old)) 5)).alloc (.cells (arr (Pl.pad b)) 5) = W2 at *
    have hlt2 : w9.heap.size + 1 < W2.heap.size := (Array.getElem?_eq_some_iff.1 HFZ.out).1
    go_loopw [15] (fun t wr => ∃ j : Nat, j ≤ 0 ∧ t = .int .i64 j ∧ wr = boxed W2 w9.heap.size (arr (headed j (Pl.pad b) (Pl.pad old))) 5) (fun t _ => 64 - (intOf t).toNat)
    case atStart => exact ⟨0, by omega, rfl, by rw [headed_zero]; exact boxed_self HWZ.out⟩
    case round =>
      obtain ⟨j, hj, rfl, rfl⟩ := hrel
      have HML := HM.out
      by_cases hlt : j < 0
      · omega
      · obtain rfl : j = 0 := by omega
        have hend : boxed W2 w9.heap.size (arr (headed 0 (Pl.pad b) (Pl.pad old))) 5 = boxed W2 w9.heap.size (arr (headed 0 (Pl.pad b) (Pl.pad old))) 5 := rfl
        generalize hH : headed 0 (Pl.pad b) (Pl.pad old) = H at *
        have hHl : H.length = 64 := by rw [← hH, headed_length (by rw [hpb.1]; omega) (by rw [hpo.1]; omega), hpo.1]
        have hc1' : (convert 31 9 (.slice A2 64 c2)).run Try.prog (boxed W2 w9.heap.size (arr H) 5) = .ok (.string (bst H)) (boxed W2 w9.heap.size (arr H) 5) :=
          conv_len _ A2 w9.heap.size c2 64 H (HR9.out.kept fun i hi => by rw [boxed_block_other (by omega), HB2.out.block i hi]) hHl
        have hc2' : (convert 31 9 (.slice (some ⟨w9.heap.size, 0, none⟩) 64 64)).run Try.prog (boxed W2 w9.heap.size (arr H) 5) = .ok (.string (bst H)) (boxed W2 w9.heap.size (arr H) 5) :=
          conv_len _ _ (w9.heap.size + 1) 64 64 H (rd_block (boxed_block (by omega))) hHl
        have HE : Hid (Below w.heap.size w (boxed W2 w9.heap.size (arr H) 5)) := boxed_below (HOLD.out.trans (HB2.out.mono hz9)) hz9
        clear hend hH
        go_wp2
        all_goals
          go_ret
          exact ⟨ret_bool (by simp), HE.out⟩
  · go_wp2_with (fail)
    refine (fall_live h7 (fun _ h => h.elim) (by omega)).mono ?_
    rintro e w8 ⟨rfl, h8, _⟩
    clear h7
    go_wp2_with (fail)
    refine (read_live h8 torn5.2 (by omega) (by rw [torn5.1]; omega)).mono ?_
    intro e w9 ht
    have e4 := torn4 (old := old) (b := b) (s := s) true
    simp only [if_true] at e4
    rw [e4] at ht
    obtain ⟨A2, c2, rfl, HR9, HB9, hc1, hc2, HO9⟩ := ht.open_
    have HOLD := Lib.hid (h8.old.trans (HB9.out.mono h8.old.size))
    have hpo : Pl.Sec (Pl.pad old) := Pl.sec_pad (by rw [HN.out]; exact h) HO.out
    have hpb : Pl.Sec (Pl.pad b) := Pl.sec_pad (by rw [HN'.out]; exact h') HB.out
    clear ht h8 e4
    have HW := Lib.hid (HR.out.below HOLD.out)
    have HW' := Lib.hid (HR'.out.below HOLD.out)
    have hz9 := HOLD.out.size
    go_wp2_with (first | (refine wpList_make64 rfl _ _ rfl rfl rfl ?_) | (refine wpList_arr_copy rfl _ _ 31 31 rfl 5 Try.underlying31 size5 w9.heap.size 64 64 rfl A n c rfl Pl.zs 5 alloc_block w.heap.size old (HW.out.kept fun i hi => alloc_block_old (by omega)) HN.out (by rw [Pl.sec_zs.1]; exact Nat.le_refl _) n (Nat.min_eq_left h) ?_; rw [boxed_new, pad_headed HN.out]) |
      (refine wpList_arr_copy rfl _ _ 31 31 rfl 5 Try.underlying31 size5 (w9.heap.size + 1) 64 64 rfl A' n' c' rfl Pl.zs 5 (alloc_at (by rw [World.size_alloc])) w.heap.size b (HW'.out.kept fun i hi => by rw [alloc_block_old (by rw [World.size_alloc]; omega), alloc_block_old (by omega)]) HN'.out (by rw [Pl.sec_zs.1]; exact Nat.le_refl _) n' (Nat.min_eq_left h') ?_; rw [boxed_at' (by rw [World.size_alloc]), pad_headed HN'.out]))
    have hfz : (((w9.alloc (.cells (arr (Pl.pad old)) 5)).alloc (.cells (arr (Pl.pad b)) 5))).heap[w9.heap.size + 1]? = some (.cells (arr (Pl.pad b)) 5 (0, 0)) := alloc_at (by rw [World.size_alloc])
    have hwz : (((w9.alloc (.cells (arr (Pl.pad old)) 5)).alloc (.cells (arr (Pl.pad b)) 5))).heap[w9.heap.size]? = some (.cells (arr (Pl.pad old)) 5 (0, 0)) := by rw [alloc_block_old (by rw [World.size_alloc]; omega), alloc_block]
    have HB2 : Hid (Below w9.heap.size w9 ((w9.alloc (.cells (arr (Pl.pad old)) 5)).alloc (.cells (arr (Pl.pad b)) 5))) := ((Below.refl _ _).alloc (Nat.le_refl _) _).alloc (by rw [World.size_alloc]; omega) _
    have HFZ := Lib.hid hfz
    have HWZ := Lib.hid hwz
    have HM : Hid ((min s 64) ≤ 64) := by show (min s 64) ≤ 64; omega
    clear hfz hwz
    generalize (w9.alloc (.cells (arr (Pl.pad old)) 5)).alloc (.cells (arr (Pl.pad b)) 5) = W2 at *
    have hlt2 : w9.heap.size + 1 < W2.heap.size := (Array.getElem?_eq_some_iff.1 HFZ.out).1
    go_loopw [15] (fun t wr => ∃ j : Nat, j ≤ (min s 64) ∧ t = .int .i64 j ∧ wr = boxed W2 w9.heap.size (arr (headed j (Pl.pad b) (Pl.pad old))) 5) (fun t _ => 64 - (intOf t).toNat)
    case atStart => exact ⟨0, by omega, rfl, by rw [headed_zero]; exact boxed_self HWZ.out⟩
    case round =>
      obtain ⟨j, hj, rfl, rfl⟩ := hrel
      have HML := HM.out
      by_cases hlt : j < (min s 64)
      · have hj64 : j < 64 := by omega
        have hjs : j < s := by omega
        have hjb : j < (Pl.pad b).length := by rw [hpb.1]; exact hj64
        have hjo : j < (Pl.pad old).length := by rw [hpo.1]; exact hj64
        have hcf : (boxed W2 w9.heap.size (arr (headed j (Pl.pad b) (Pl.pad old))) 5).cell? ⟨w9.heap.size + 1, j, none⟩ = some (.int .u8 (Pl.pad b)[j]) := by
          rw [boxed_cell_other (by omega), cell_of_row _ _ _ _ _ _ HFZ.out]; exact arr_at (List.getElem?_eq_getElem hjb)
        have hlen : (headed j (Pl.pad b) (Pl.pad old)).length = 64 := by rw [headed_length (by omega) (by omega), hpo.1]
        have hcw : (arr (headed j (Pl.pad b) (Pl.pad old)))[j]? = some (.int .u8 (headed j (Pl.pad b) (Pl.pad old))[j]) := arr_at (List.getElem?_eq_getElem (by rw [hlen]; exact hj64))
        have HS := Lib.hid (headed_succ hjb hjo)
        have HSZ : Hid (w9.heap.size < W2.heap.size) := by show w9.heap.size < W2.heap.size; omega
        have hsz := HSZ.out
        go_wp2
        go_roundw
        case rel => exact ⟨j + 1, by omega, by go_num, by rw [← HS.out]⟩
        case measure => simp [intOf]; omega

      · obtain rfl : j = (min s 64) := by omega
        have hend : boxed W2 w9.heap.size (arr (headed (min s 64) (Pl.pad b) (Pl.pad old))) 5 = boxed W2 w9.heap.size (arr (headed (min s 64) (Pl.pad b) (Pl.pad old))) 5 := rfl
        generalize hH : headed (min s 64) (Pl.pad b) (Pl.pad old) = H at *
        have hHl : H.length = 64 := by rw [← hH, headed_length (by rw [hpb.1]; omega) (by rw [hpo.1]; omega), hpo.1]
        have hc1' : (convert 31 9 (.slice A2 64 c2)).run Try.prog (boxed W2 w9.heap.size (arr H) 5) = .ok (.string (bst H)) (boxed W2 w9.heap.size (arr H) 5) :=
          conv_len _ A2 w9.heap.size c2 64 H (HR9.out.kept fun i hi => by rw [boxed_block_other (by omega), HB2.out.block i hi]) hHl
        have hc2' : (convert 31 9 (.slice (some ⟨w9.heap.size, 0, none⟩) 64 64)).run Try.prog (boxed W2 w9.heap.size (arr H) 5) = .ok (.string (bst H)) (boxed W2 w9.heap.size (arr H) 5) :=
          conv_len _ _ (w9.heap.size + 1) 64 64 H (rd_block (boxed_block (by omega))) hHl
        have HE : Hid (Below w.heap.size w (boxed W2 w9.heap.size (arr H) 5)) := boxed_below (HOLD.out.trans (HB2.out.mono hz9)) hz9
        clear hend hH
        go_wp2
        all_goals
          go_ret
          exact ⟨ret_bool (by simp), HE.out⟩
theorem bytesOk_of_wf {l : List Int} (h : ∀ x ∈ l, (Lit.int .u8 x).wf = true) : BytesOk l := fun x hx => wf_u8 (h x hx)
theorem plateTorn_walk {w : World} (A : Option Addr) (c : Nat) (old : List Int) (hr : Rd w .u8 w.heap.size A old) (ho : ∀ x ∈ old, (Lit.int .u8 x).wf = true) (A' : Option Addr) (c' : Nat) (b : List Int) (hr' : Rd w .u8 w.heap.size A' b) (hb : ∀ x ∈ b, (Lit.int .u8 x).wf = true) (s : Int) (hs : (Lit.int .u8 s).wf = true) (k : Bool) :
    Calls Try.prog 5 #[.slice A old.length c, .slice A' b.length c', .int .u8 s, .bool k] w fun e w' => e = .returned (.bool true) ∧ Below w.heap.size w w' := by
  obtain ⟨s0, s1⟩ := wf_u8 hs
  by_cases h : 64 < old.length ∨ 64 < b.length
  · exact plateTorn_far _ _ _ _ _ _ _ _ _ h
  · obtain ⟨n, rfl⟩ : ∃ n : Nat, s = n := ⟨s.toNat, by omega⟩
    exact plateTorn_in _ _ _ _ _ _ old b n k w hr (bytesOk_of_wf ho) rfl (by omega) hr' (bytesOk_of_wf hb) rfl (by omega) (by omega)
end Go.Proofs.Ytnplnggkeekedaa
