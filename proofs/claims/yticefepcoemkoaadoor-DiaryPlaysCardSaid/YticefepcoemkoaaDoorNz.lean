/-
  Is any of some bytes not nought: the library's IndexFunc, ContainsFunc; sectors of which the end is made noughts, pure. No conditions but the sizes.
-/
import Derived.Test.YticefepcoemkoaaDoorLayW
namespace Go.Proofs.YticefepcoemkoaaDoor
set_option maxRecDepth 20000
open Go.ChangeShapes Go.WideShapes Go.ChangeAt Go.RowKit

theorem nz_any (x : Int) (w : World) : Calls Tryd.prog 48 #[.int .u8 x] w fun e w' => e = .returned (.bool (x != 0)) ∧ w = w' := by
  go_enter Tryd.func48, Tryd.ntmps48
  go_wp2
  go_ret
  exact ⟨ret_bool (by simp [bne]), rfl⟩

set_option maxHeartbeats 1000000 in
theorem index_any (A : Option Addr) (B c n : Nat) (l : List Int) (w : World) (hr : Rd w .u8 B A l) (hn : l.length = n) (hl : n ≤ 2000000) :
    Calls Tryd.prog 56 #[.slice A n c, .func (.func 48) #[] #[]] w fun e w' => (∃ j : Int, e = .returned (.int .i64 j) ∧ decide (0 ≤ j) = l.any (· != 0)) ∧ w = w' := by
  have HR := Lib.hid hr
  have HN := Lib.hid hn
  clear hr hn
  go_enter Tryd.func56, Tryd.ntmps56
  go_wp2
  go_loopw [8] (fun t wr => ∃ j : Nat, j ≤ n ∧ t = .int .i64 j ∧ w = wr ∧ (l.take j).any (· != 0) = false) (fun t _ => n - (intOf t).toNat)
  case atStart => exact ⟨0, by omega, rfl, rfl, rfl⟩
  case round =>
    obtain ⟨j, hj, rfl, rfl, hz⟩ := hrel
    by_cases hlt : j < n
    · obtain ⟨a, rfl, _, hc⟩ := HR.out.at_ (j := j) (by rw [HN.out]; exact hlt)
      have htk : (l.take (j + 1)).any (· != 0) = (l[j]'(by rw [HN.out]; exact hlt) != 0) := by
        rw [List.take_succ_eq_append_getElem (by rw [HN.out]; exact hlt), List.any_append, hz]; simp
      have hin : l[j]'(by rw [HN.out]; exact hlt) ∈ l := List.getElem_mem _
      generalize l[j]'(by rw [HN.out]; exact hlt) = x at *
      by_cases hx : x = 0
      · subst hx
        go_wp2_with (go_at_call 48; refine (nz_any _ _).mono ?_; rintro e w' ⟨rfl, rfl⟩)
        exact ⟨⟨j + 1, by omega, by go_num, trivial, by rw [htk]; rfl⟩, by simp [intOf]; omega⟩
      · have hx2 : (x != 0) = true := by simp [hx]
        go_wp2_with (go_at_call 48; refine (nz_any _ _).mono ?_; rintro e w' ⟨rfl, rfl⟩)
        go_ret
        refine ⟨⟨_, rfl, ?_⟩, rfl⟩
        rw [List.any_eq_true.2 ⟨x, hin, hx2⟩]
        simp
    · obtain rfl : j = n := by omega
      rw [← HN.out, List.take_length] at hz
      go_wp2
      go_ret
      exact ⟨⟨_, rfl, by rw [hz]; rfl⟩, rfl⟩
theorem contains_any (A : Option Addr) (B c n : Nat) (l : List Int) (w : World) (hr : Rd w .u8 B A l) (hn : l.length = n) (hl : n ≤ 2000000) :
    Calls Tryd.prog 47 #[.slice A n c, .func (.func 48) #[] #[]] w fun e w' => e = .returned (.bool (l.any (· != 0))) ∧ w = w' := by
  have HI := Lib.hid (index_any A B c n l w hr hn hl)
  clear hr hn hl
  go_enter Tryd.func47, Tryd.ntmps47
  go_wp2_with (fail)
  refine HI.out.mono ?_
  rintro e w' ⟨⟨j, rfl, hj⟩, rfl⟩
  go_wp2
  go_ret
  exact ⟨ret_bool (by rw [← hj]), rfl⟩

namespace Pl
theorem wiped_start (f : Nat → List Int) (p x : Nat) : wiped f p (x / 64) x = f := by
  funext j; unfold wiped; rw [if_neg (by omega)]
theorem wiped_next {f : Nat → List Int} {p k x : Nat} (hk : x / 64 ≤ k) : wiped f p (k + 1) x = up (wiped f p k x) (p + k) (pad ((f (p + k)).take (x - k * 64))) := by
  funext j
  unfold wiped up
  by_cases e : j = p + k
  · subst e
    rw [if_pos (by omega), if_pos rfl, show p + k - p = k by omega]
  · rw [if_neg e]
    by_cases h : p + x / 64 ≤ j ∧ j < p + k
    · dsimp only; rw [if_pos h, if_pos (by omega)]
    · dsimp only; rw [if_neg h, if_neg (by omega)]
theorem wiped_self {f : Nat → List Int} {p k x : Nat} : wiped f p k x (p + k) = f (p + k) := by unfold wiped; rw [if_neg (by omega)]
theorem pad_noughts {l : List Int} {q : Nat} (hl : l.length = 64) (h : (l.drop q).any (· != 0) = false) : pad (l.take q) = l := by
  have e : ∀ x ∈ l.drop q, x = 0 := fun x hx => by
    have := List.any_eq_false.1 h x hx
    simpa using this
  have e2 : l.drop q = List.replicate (64 - (l.take q).length) 0 := by
    rw [List.eq_replicate_iff]
    refine ⟨by rw [List.length_drop, List.length_take]; omega, e⟩
  unfold pad
  rw [← e2, List.take_append_drop]
theorem up_self {f : Nat → List Int} {i : Nat} : up f i (f i) = f := by
  funext j; unfold up; split
  · rename_i h; rw [h]
  · rfl
end Pl

end Go.Proofs.YticefepcoemkoaaDoor
