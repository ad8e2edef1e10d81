/-
  The walk of the law PackSizes: it returns true, whatever the input, and makes new blocks alone. No conditions.
-/
import Derived.Test.YtbnbamakcbpaeaaPkAwake
import Derived.Test.YtbnbamakcbpaeaaPkRow
import Derived.Test.YtbnbamakcbpaeaaLane
namespace Go.Proofs.Ytbnbamakcbpaeaa
open Go.ChangeShapes Go.WideShapes Go.ChangeAt Go.RowKit

/-- One number in a new box. -/
theorem put_lit1 (w : World) (c m : Nat) (x : Int) (hm : m = 1) (h0 : -9223372036854775808 ≤ x) (h1 : x ≤ 9223372036854775807) :
    Calls Try.prog 12 #[.pointer (some ⟨w.heap.size, 0, none⟩), .slice (some ⟨w.heap.size + 1, 0, none⟩) m c] ((w.alloc (.cells #[.slice none 0 0, .int .i64 0] 51)).alloc (.cells #[.int .i64 x] 2))
      (fun e w' => e = .returned (.pointer (some ⟨w.heap.size, 0, none⟩)) ∧ PB w' w.heap.size w.heap.size (Pk.enc (Pk.zig x)) ∧ Below w.heap.size w w') := by
  have := put_lit w c m [x] #[.int .i64 x] rfl hm.symm (by simp) (fun n hn => by simp at hn; subst hn; exact ⟨h0, h1⟩)
  rwa [Pk.encs_one] at this

theorem Pk.zig_any {n : Int} (h0 : -9223372036854775808 ≤ n) (h1 : n ≤ 9223372036854775807) : bits .xor .u64 (IntKind.u64.wrap (IntKind.u64.wrap n * 2)) (IntKind.u64.wrap (n / 9223372036854775808)) = Pk.zig n := by
  by_cases h : 0 ≤ n
  · rw [← Pk.zig_bits h h1]
    simp only [IntKind.wrap_u64]
    congr 1 <;> omega
  · exact Pk.zig_bits' (by omega) h0

set_option maxHeartbeats 4000000 in
theorem packSizes_walk (a : Int) (wa : (Lit.int .i64 a).wf = true) (b : Int) (wb : (Lit.int .i64 b).wf = true) (w : World) :
    Calls Try.prog 9 #[.int .i64 a, .int .i64 b] w fun e w' => e = .returned (.bool true) ∧ Below w.heap.size w w' := by
  obtain ⟨a0, a1⟩ := wf_i64 wa
  obtain ⟨b0, b1⟩ := wf_i64 wb
  clear wa wb
  go_enter Try.func9, Try.ntmps9
  go_wp2_with (fail)
  refine (new_any _).mono ?_
  rintro e w1 ⟨rfl, rfl⟩
  go_wp2_with (fail)
  refine (put_lit1 w 1 1 a rfl a0 a1).mono ?_
  rintro e w2 ⟨rfl, hp, hb⟩
  have HB := Lib.hid hb
  have HP := Lib.hid hp
  clear hb hp
  have hla := Pk.enc_eleven (Pk.zig_lt a a0 a1)
  go_wp2_with (fail)
  refine (done_put _ _ _ _ HP.out (by omega)).mono ?_
  intro e w3 hO
  obtain ⟨A, n, c, rfl, HN, HO, HB2, HR, h1, h2⟩ := hO.open_
  clear hO
  go_wp2_with (fail)
  refine (new_any _).mono ?_
  rintro e w4 ⟨rfl, rfl⟩
  go_wp2_with (fail)
  refine (put_lit1 w3 1 1 b rfl b0 b1).mono ?_
  rintro e w5 ⟨rfl, hp, hb⟩
  have HB3 := Lib.hid hb
  have HP3 := Lib.hid hp
  clear hb hp
  have hlb := Pk.enc_eleven (Pk.zig_lt b b0 b1)
  go_wp2_with (fail)
  refine (done_put _ _ _ _ HP3.out (by omega)).mono ?_
  intro e w6 hO
  obtain ⟨A', n', c', rfl, HN', HO', HB4, HR', h1', h2'⟩ := hO.open_
  clear hO
  have hn1 : 1 ≤ n := by have := Pk.enc_pos (Pk.zig a); have := HN.out; omega
  have hn11 : n ≤ 11 := by have := HN.out; omega
  have HM : Hid (Pk.zig a ≤ Pk.zig b → n ≤ n') := fun h => by have := Pk.enc_mono _ _ h; have := HN.out; have := HN'.out; omega
  have HO1 : Hid (64 ≤ Pk.zig a ↔ 1 < n) := by have := Pk.enc_one (Pk.zig a); rw [HN.out] at this; exact this.symm
  have HX : Hid (Below w.heap.size w w6) := ((HB.out.trans (HB2.out.mono HB.out.size)).trans (HB3.out.mono (Nat.le_trans HB.out.size HB2.out.size))).trans (HB4.out.mono (Nat.le_trans (Nat.le_trans HB.out.size HB2.out.size) HB3.out.size))
  have HR6 : Hid (Rd w6 .u8 w3.heap.size A (Pk.enc (Pk.zig a))) := (HR.out.below HB3.out).below (HB4.out.mono HB3.out.size)
  have h36 : w3.heap.size ≤ w6.heap.size := Nat.le_trans HB3.out.size HB4.out.size
  have e1 : (Sem.run Try.prog (pure 0) w = .ok 0 w) := rfl
  clear e1 hla hlb HO HO' HP HP3 HB HB2 HB3 HB4 HR HR' h1 h2 h1' h2'
  go_wp2
  rw [Pk.zig_any a0 a1, Pk.zig_any b0 b1]
  generalize Pk.zig b = y at *
  have HZ : Hid (∀ W : World, Calls Try.prog 25 #[.int .i64 a] W (Owned W (Pk.enc (Pk.zig a)))) := fun W => pack_any a W a0 a1
  generalize Pk.zig a = x at *
  obtain ⟨b, d4, d5⟩ : ∃ b : Bool, decide ((64 : Int) ≤ (x : Int)) = b ∧ decide ((1 : Int) < (n : Int)) = b := ⟨decide (1 < n), by have := HO1.out; by_cases h : 1 < n <;> simp <;> omega, by by_cases h : 1 < n <;> simp <;> omega⟩
  have d1 : decide ((1 : Int) ≤ (n : Int)) = true := by simp; omega
  have d2 : decide ((n : Int) ≤ 11) = true := by simp; omega
  by_cases hxy : y < x
  · have d3 : decide (y < x) = true := by simpa using hxy
    clear hxy hn1 hn11
    refine lane_start (ord := [0, 1, 2, 3, 4, 5, 6, 7, 8, 9, 10, 11, 12, 13, 14, 15, 16, 17, 18, 19, 20, 21, 22, 23, 24, 25, 26, 27, 28, 29, 30, 31, 32, 33, 34, 35, 36, 37, 38, 39]) (S := (fun w' => (convert 27 9 (.slice A n c)).run Try.prog w' = .ok (.string (bst (Pk.enc x))) w')) rfl (by kernel_rfl) (conv_len _ A _ c n _ HR6.out HN.out) (fun hHeld => ?_)
    refine lane_alone rfl (by kernel_rfl) (by rfl) (fun K hK => ?_)
    go_simp
    go_wp2_with (go_at_call 10; refine (awake_any _).mono ?_; rintro e w7 ⟨rfl, hb7⟩; have H7 : Hid (Below w6.heap.size w6 w7) := ((Below.refl _ _).drew).trans hb7; clear hb7)
    refine hK _ _ (conv_len w7 A _ c n _ (HR6.out.below (H7.out.mono h36)) HN.out) (fun hHeld => ?_)
    clear hK K
    repeat (first
      | (refine lane_skip rfl (by kernel_rfl) (by kernel_rfl) (by rfl) (by assumption) ?_; simp only [Act.put, List.setIfInBounds_toArray, List.set_cons_zero, List.set_cons_succ])
      | (refine lane_take (v := ?_) rfl (by kernel_rfl) (by kernel_rfl) (by rfl) ?_ (by assumption) ?_; rotate_left; (focus (intro w hSw; (try dsimp only at hSw); go_simp; try (with_reducible rfl))); simp only [Act.put, List.setIfInBounds_toArray, List.set_cons_zero, List.set_cons_succ]))
    refine lane_alone rfl (by kernel_rfl) (by rfl) (fun K hK => ?_)
    go_simp
    go_wp2_with (go_at_call 25; refine (HZ.out _).mono ?_; intro e w8 hO; obtain ⟨A8, n8, c8, rfl, HN8, HO8, HB8, HR8, h18, h28⟩ := hO.open_; clear hO)
    have hcv9 := conv_len w8 A _ c n _ ((HR6.out.below (H7.out.mono h36)).below (HB8.out.mono (Nat.le_trans h36 H7.out.size))) HN.out
    refine hK _ _ hcv9 (fun hHeld => ?_)
    clear hK K
    have hcv8 := conv_len w8 A8 _ c8 n8 _ HR8.out HN8.out
    refine lane_alone rfl (by kernel_rfl) (by rfl) (fun K hK => ?_)
    go_simp
    refine hK _ _ hcv9 (fun hHeld => ?_)
    clear hK K
    repeat (first
      | (refine lane_skip rfl (by kernel_rfl) (by kernel_rfl) (by rfl) (by assumption) ?_; simp only [Act.put, List.setIfInBounds_toArray, List.set_cons_zero, List.set_cons_succ])
      | (refine lane_take (v := ?_) rfl (by kernel_rfl) (by kernel_rfl) (by rfl) ?_ (by assumption) ?_; rotate_left; (focus (intro w hSw; (try dsimp only at hSw); go_simp; try (with_reducible rfl))); simp only [Act.put, List.setIfInBounds_toArray, List.set_cons_zero, List.set_cons_succ]))
    refine lane_end (by kernel_rfl) ?_
    go_wp2
    go_ret
    exact ⟨rfl, HX.out.trans ((H7.out.trans (HB8.out.mono H7.out.size)).mono HX.out.size)⟩
  · have d3 : decide (y < x) = false := by simp; omega
    have d6 : decide (n ≤ n') = true := by have := HM.out (by omega); simp; omega
    clear hxy hn1 hn11
    refine lane_start (ord := [0, 1, 2, 3, 4, 5, 6, 7, 8, 9, 10, 11, 12, 13, 14, 15, 16, 17, 18, 19, 20, 21, 22, 23, 24, 25, 26, 27, 28, 29, 30, 31, 32, 33, 34, 35, 36, 37, 38, 39]) (S := (fun w' => (convert 27 9 (.slice A n c)).run Try.prog w' = .ok (.string (bst (Pk.enc x))) w')) rfl (by kernel_rfl) (conv_len _ A _ c n _ HR6.out HN.out) (fun hHeld => ?_)
    refine lane_alone rfl (by kernel_rfl) (by rfl) (fun K hK => ?_)
    go_simp
    go_wp2_with (go_at_call 10; refine (awake_any _).mono ?_; rintro e w7 ⟨rfl, hb7⟩; have H7 : Hid (Below w6.heap.size w6 w7) := ((Below.refl _ _).drew).trans hb7; clear hb7)
    refine hK _ _ (conv_len w7 A _ c n _ (HR6.out.below (H7.out.mono h36)) HN.out) (fun hHeld => ?_)
    clear hK K
    repeat (first
      | (refine lane_skip rfl (by kernel_rfl) (by kernel_rfl) (by rfl) (by assumption) ?_; simp only [Act.put, List.setIfInBounds_toArray, List.set_cons_zero, List.set_cons_succ])
      | (refine lane_take (v := ?_) rfl (by kernel_rfl) (by kernel_rfl) (by rfl) ?_ (by assumption) ?_; rotate_left; (focus (intro w hSw; (try dsimp only at hSw); go_simp; try (with_reducible rfl))); simp only [Act.put, List.setIfInBounds_toArray, List.set_cons_zero, List.set_cons_succ]))
    refine lane_alone rfl (by kernel_rfl) (by rfl) (fun K hK => ?_)
    go_simp
    go_wp2_with (go_at_call 25; refine (HZ.out _).mono ?_; intro e w8 hO; obtain ⟨A8, n8, c8, rfl, HN8, HO8, HB8, HR8, h18, h28⟩ := hO.open_; clear hO)
    have hcv9 := conv_len w8 A _ c n _ ((HR6.out.below (H7.out.mono h36)).below (HB8.out.mono (Nat.le_trans h36 H7.out.size))) HN.out
    refine hK _ _ hcv9 (fun hHeld => ?_)
    clear hK K
    have hcv8 := conv_len w8 A8 _ c8 n8 _ HR8.out HN8.out
    refine lane_alone rfl (by kernel_rfl) (by rfl) (fun K hK => ?_)
    go_simp
    refine hK _ _ hcv9 (fun hHeld => ?_)
    clear hK K
    repeat (first
      | (refine lane_skip rfl (by kernel_rfl) (by kernel_rfl) (by rfl) (by assumption) ?_; simp only [Act.put, List.setIfInBounds_toArray, List.set_cons_zero, List.set_cons_succ])
      | (refine lane_take (v := ?_) rfl (by kernel_rfl) (by kernel_rfl) (by rfl) ?_ (by assumption) ?_; rotate_left; (focus (intro w hSw; (try dsimp only at hSw); go_simp; try (with_reducible rfl))); simp only [Act.put, List.setIfInBounds_toArray, List.set_cons_zero, List.set_cons_succ]))
    refine lane_end (by kernel_rfl) ?_
    go_wp2
    go_ret
    exact ⟨rfl, HX.out.trans ((H7.out.trans (HB8.out.mono H7.out.size)).mono HX.out.size)⟩
end Go.Proofs.Ytbnbamakcbpaeaa
