/-
  The walk of the law PackApart: it returns true, whatever the input, and makes new blocks alone. No conditions.
-/
import Derived.Test.YtbnbamakcbpaeaaPkNumbersWalk
import Derived.BigQuiet
namespace Go.Proofs.Ytbnbamakcbpaeaa
open Go.ChangeShapes Go.WideShapes Go.ChangeAt Go.RowKit

def sameTo (a b : List Int) (k : Nat) : Bool := decide (a.take k = b.take k)
theorem sameTo_zero (a b : List Int) : sameTo a b 0 = true := by unfold sameTo; simp
theorem sameTo_succ {a b : List Int} {k : Nat} (ha : k < a.length) (hb : k < b.length) : sameTo a b (k + 1) = (sameTo a b k && (a[k] == b[k])) := by
  unfold sameTo
  rw [List.take_succ_eq_append_getElem ha, List.take_succ_eq_append_getElem hb, Bool.eq_iff_iff]
  simp only [decide_eq_true_eq, Bool.and_eq_true, beq_iff_eq]
  constructor
  · intro h
    have := List.append_inj h (by simp; omega)
    exact ⟨this.1, by simpa using this.2⟩
  · rintro ⟨h1, h2⟩
    rw [h1, h2]
theorem sameTo_all {a b : List Int} (h : a.length = b.length) : sameTo a b a.length = decide (a = b) := by
  unfold sameTo
  rw [List.take_length]
  rw [h, List.take_length]
theorem bytes_same {a b : List Int} (h : a.length = b.length) (ha : I64 a) (hb : I64 b) : (((bst (Pk.encs a)).toList == (bst (Pk.encs b)).toList) == decide (a = b)) = true := by
  rw [beq_iff_eq, Bool.eq_iff_iff, beq_iff_eq, decide_eq_true_eq]
  constructor
  · intro e
    exact Pk.encs_inj a b h ha hb (bst_inj (fun x hx => by have := Pk.encs_range a x hx; omega) (fun x hx => by have := Pk.encs_range b x hx; omega) (ByteArray.ext (by simpa [ByteArray.toList_eq] using e)))
  · rintro rfl; rfl

set_option maxHeartbeats 1000000 in
theorem packApart_out (A A' : Option Addr) (c c' : Nat) (a b : List Int) (w : World) (h : 20 < a.length ∨ 20 < b.length ∨ a.length ≠ b.length) :
    Calls Try.prog 7 #[.slice A a.length c, .slice A' b.length c'] w fun e w' => e = .returned (.bool true) ∧ Below w.heap.size w w' := by
  by_cases h1 : 20 < a.length
  · have t : decide ((20 : Int) < (a.length : Int)) = true := by simp; omega
    clear h h1
    go_enter Try.func7, Try.ntmps7
    go_wp2_with (fail)
    refine (awake_any _).mono ?_
    rintro e w1 ⟨rfl, hb1⟩
    go_wp2_with (fail)
    refine (awake_any _).mono ?_
    rintro e w2 ⟨rfl, hb2⟩
    go_wp2
    go_ret
    exact ⟨rfl, hb1.trans (hb2.mono hb1.size)⟩
  · have t : decide ((20 : Int) < (a.length : Int)) = false := by simp; omega
    by_cases h2 : 20 < b.length
    · have t2 : decide ((20 : Int) < (b.length : Int)) = true := by simp; omega
      clear h h1 h2
      go_enter Try.func7, Try.ntmps7
      go_wp2_with (fail)
      refine (awake_any _).mono ?_
      rintro e w1 ⟨rfl, hb1⟩
      go_wp2_with (fail)
      refine (awake_any _).mono ?_
      rintro e w2 ⟨rfl, hb2⟩
      go_wp2
      go_ret
      exact ⟨rfl, hb1.trans (hb2.mono hb1.size)⟩
    · have t2 : decide ((20 : Int) < (b.length : Int)) = false := by simp; omega
      have t3 : ((a.length : Int) != (b.length : Int)) = true := by rw [bne_iff_ne]; omega
      have t4 : (a.length != b.length) = true := by rw [bne_iff_ne]; omega
      clear h h1 h2
      go_enter Try.func7, Try.ntmps7
      go_wp2_with (fail)
      refine (awake_any _).mono ?_
      rintro e w1 ⟨rfl, hb1⟩
      go_wp2_with (fail)
      refine (awake_any _).mono ?_
      rintro e w2 ⟨rfl, hb2⟩
      go_wp2
      go_ret
      exact ⟨rfl, hb1.trans (hb2.mono hb1.size)⟩

set_option maxHeartbeats 4000000 in
theorem packApart_in (A A' : Option Addr) (c c' : Nat) (a b : List Int) (w : World) (hr : Rd w .i64 w.heap.size A a) (hr' : Rd w .i64 w.heap.size A' b) (ha : I64 a) (hb : I64 b) (n : Nat) (hl : n ≤ 20) (hna : a.length = n) (hnb : b.length = n) :
    Calls Try.prog 7 #[.slice A n c, .slice A' n c'] w fun e w' => e = .returned (.bool true) ∧ Below w.heap.size w w' := by
  have t : decide ((20 : Int) < (n : Int)) = false := by simp; omega
  have HR := Lib.hid hr
  have HR' := Lib.hid hr'
  have HA := Lib.hid ha
  have HB := Lib.hid hb
  have HNA := Lib.hid hna
  have HNB := Lib.hid hnb
  clear hr hr' ha hb hna hnb
  go_enter Try.func7, Try.ntmps7
  go_wp2_with (fail)
  refine (awake_any _).mono ?_
  rintro e w1 ⟨rfl, hb1⟩
  have H1 := Lib.hid hb1
  clear hb1
  go_wp2
  go_loopw [5, 6] (fun s t wr => ∃ k : Nat, k ≤ n ∧ t = .int .i64 k ∧ s = .bool (sameTo a b k) ∧ ∃ m, wr = w1.drewN m) (fun _ t _ => n - (intOf t).toNat)
  case atStart => exact ⟨0, by omega, rfl, by rw [sameTo_zero], 0, rfl⟩
  case round =>
    obtain ⟨k, hk, rfl, rfl, m, rfl⟩ := hrel
    by_cases hlt : k < n
    · have ka : k < a.length := by have := HNA.out; omega
      have kb : k < b.length := by have := HNB.out; omega
      obtain ⟨p, rfl, _, hc⟩ := (HR.out.below H1.out).at_ ka
      obtain ⟨q, rfl, _, hc'⟩ := (HR'.out.below H1.out).at_ kb
      have HX := Lib.hid (sameTo_succ ka kb)
      generalize a[k] = x at *
      generalize b[k] = y at *
      have k0 : (0 : Int) ≤ (k : Int) := by omega
      have k1 : (k : Int) < (n : Int) := by omega
      clear ka kb
      cases hs : sameTo a b k
      · have HS := Lib.hid hs
        clear hs
        go_wp2
        go_quiet (fail)
        go_wp2
        go_roundw
        case rel => exact ⟨k + 1, by omega, by go_num, by rw [HX.out, HS.out]; rfl, m + nq, rfl⟩
        case measure => simp [intOf]; omega
      · have HS := Lib.hid hs
        clear hs
        go_wp2
        go_quiet (fail)
        go_wp2
        go_roundw
        case rel => exact ⟨k + 1, by omega, by go_num, by rw [HX.out, HS.out]; rfl, m + nq, rfl⟩
        case measure => simp [intOf]; omega
    · obtain rfl : k = n := by omega
      have HW : Hid (Below w.heap.size w (w1.drewN m)) := Below.drewN' H1.out m
      have HQ := Lib.hid (sameTo_all (HNA.out.trans HNB.out.symm))
      have HS := Lib.hid (bytes_same (HNA.out.trans HNB.out.symm) HA.out HB.out)
      rw [HNA.out] at HQ
      go_wp2
      rw [HQ.out]
      generalize w1.drewN m = W at *
      refine lane_start (ord := [1, 6, 11, 0, 2, 3, 4, 5, 7, 8, 9, 10, 12, 13]) (S := fun _ => True) rfl (by kernel_rfl) trivial (fun hHeld => ?_)
      repeat (first
        | (refine lane_take (v := ?_) rfl (by kernel_rfl) (by kernel_rfl) (by rfl) ?_ (by assumption) ?_; rotate_left; (focus (intro w hSw; (try dsimp only at hSw); go_simp; try (with_reducible rfl))); simp only [Act.put, List.setIfInBounds_toArray, List.set_cons_zero, List.set_cons_succ]))
      refine lane_alone rfl (by kernel_rfl) (by rfl) (fun K hK => ?_)
      go_simp
      refine (new_any _).mono ?_
      rintro e2 w2 ⟨rfl, rfl⟩
      refine hK _ _ trivial (fun hHeld => ?_)
      clear hK K
      refine lane_alone rfl (by kernel_rfl) (by rfl) (fun K hK => ?_)
      go_simp
      refine (put_new W.drew A w.heap.size c k a (HR.out.below HW.out).drew HW.out.size HNA.out (by have := HNA.out; omega) HA.out).mono ?_
      rintro e3 w3 ⟨rfl, hp3, hb3⟩
      have HP3 := Lib.hid hp3
      have H3 : Hid (Below W.heap.size W w3) := ((Below.refl _ _).drew).trans hb3
      clear hp3 hb3
      refine hK _ _ trivial (fun hHeld => ?_)
      clear hK K
      refine lane_alone rfl (by kernel_rfl) (by rfl) (fun K hK => ?_)
      go_simp
      refine (done_put _ _ _ _ HP3.out (by have := encs_short HA.out a.length (by have := HNA.out; omega); rw [List.take_length] at this; omega)).mono ?_
      intro e4 w4 hO
      obtain ⟨A4, n4, c4, rfl, HN4, HO4, H4, HR4, h41, h42⟩ := hO.open_
      clear hO
      refine hK _ _ trivial (fun hHeld => ?_)
      clear hK K
      have hcv4 := conv_len w4 A4 _ c4 n4 _ HR4.out HN4.out
      refine lane_into (S' := fun w' => (convert 27 9 (.slice A4 n4 c4)).run Try.prog w' = .ok (.string (bst (Pk.encs a))) w') (fun _ _ => trivial) hcv4 (fun hHeld => ?_)
      clear hcv4
      repeat (first
        | (refine lane_take (v := ?_) rfl (by kernel_rfl) (by kernel_rfl) (by rfl) ?_ (by assumption) ?_; rotate_left; (focus (intro w hSw; (try dsimp only at hSw); go_simp; try (with_reducible rfl))); simp only [Act.put, List.setIfInBounds_toArray, List.set_cons_zero, List.set_cons_succ]))
      refine lane_alone rfl (by kernel_rfl) (by rfl) (fun K hK => ?_)
      go_simp
      refine (new_any _).mono ?_
      rintro e5 w5 ⟨rfl, rfl⟩
      refine hK _ _ (conv_len _ A4 _ c4 n4 _ (HR4.out.below ((Below.refl _ _).alloc (Nat.le_refl _) _)) HN4.out) (fun hHeld => ?_)
      clear hK K
      have hw4 : Below w.heap.size w w4 := (HW.out.trans (H3.out.mono HW.out.size)).trans (H4.out.mono (Nat.le_trans HW.out.size H3.out.size))
      have HW4 := Lib.hid hw4
      clear hw4
      refine lane_alone rfl (by kernel_rfl) (by rfl) (fun K hK => ?_)
      go_simp
      refine (put_new w4 A' w.heap.size c' k b (HR'.out.below HW4.out) HW4.out.size HNB.out (by have := HNB.out; omega) HB.out).mono ?_
      rintro e6 w6 ⟨rfl, hp6, hb6⟩
      have HP6 := Lib.hid hp6
      have H6 := Lib.hid hb6
      clear hp6 hb6
      refine hK _ _ (conv_len _ A4 _ c4 n4 _ (HR4.out.below H6.out) HN4.out) (fun hHeld => ?_)
      clear hK K
      refine lane_alone rfl (by kernel_rfl) (by rfl) (fun K hK => ?_)
      go_simp
      refine (done_put _ _ _ _ HP6.out (by have := encs_short HB.out b.length (by have := HNB.out; omega); rw [List.take_length] at this; omega)).mono ?_
      intro e7 w7 hO
      obtain ⟨A7, n7, c7, rfl, HN7, HO7, H7, HR7, h71, h72⟩ := hO.open_
      clear hO
      have hcv4 := conv_len w7 A4 _ c4 n4 _ ((HR4.out.below H6.out).below (H7.out.mono H6.out.size)) HN4.out
      have hcv7 := conv_len w7 A7 _ c7 n7 _ HR7.out HN7.out
      refine hK _ _ hcv4 (fun hHeld => ?_)
      clear hK K
      refine lane_alone rfl (by kernel_rfl) (by rfl) (fun K hK => ?_)
      go_simp
      refine hK _ _ hcv4 (fun hHeld => ?_)
      clear hK K
      repeat (first
        | (refine lane_take (v := ?_) rfl (by kernel_rfl) (by kernel_rfl) (by rfl) ?_ (by assumption) ?_; rotate_left; (focus (intro w hSw; (try dsimp only at hSw); go_simp; try (with_reducible rfl))); simp only [Act.put, List.setIfInBounds_toArray, List.set_cons_zero, List.set_cons_succ]))
      refine lane_end (by kernel_rfl) ?_
      go_wp2
      go_ret
      exact ⟨ret_bool HS.out, HW4.out.trans ((H6.out.trans (H7.out.mono H6.out.size)).mono HW4.out.size)⟩

theorem packApart_walk (A : Option Addr) (c : Nat) (a : List Int) (w : World) (hr : Rd w .i64 w.heap.size A a) (ha : ∀ x ∈ a, (Lit.int .i64 x).wf = true) (A' : Option Addr) (c' : Nat) (b : List Int) (hr' : Rd w .i64 w.heap.size A' b) (hb : ∀ x ∈ b, (Lit.int .i64 x).wf = true) :
    Calls Try.prog 7 #[.slice A a.length c, .slice A' b.length c'] w fun e w' => e = .returned (.bool true) ∧ Below w.heap.size w w' := by
  by_cases h : 20 < a.length ∨ 20 < b.length ∨ a.length ≠ b.length
  · exact packApart_out A A' c c' a b w h
  · have e : b.length = a.length := by omega
    have := packApart_in A A' c c' a b w hr hr' (fun x hx => wf_i64 (ha x hx)) (fun x hx => wf_i64 (hb x hx)) a.length (by omega) rfl e
    rwa [← e] at this ⊢
end Go.Proofs.Ytbnbamakcbpaeaa
