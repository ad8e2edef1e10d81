/-
  Contracts of the document's own text of a day. No conditions but that there is such a day.
-/
import Derived.Test.YtlfmclcbdjobnaaCalS
import Derived.Test.YtlfmclcbdjobnaaNumber
import Derived.Test.YtlfmclcbdjobnaaBoxed
import Derived.Laws.BytesString
namespace Go.Proofs.Ytlfmclcbdjobnaa
open Go.ChangeShapes Go.WideShapes Go.ChangeAt Go.RowKit

theorem conv_two (w : World) (x y : Int) :
    (convert 43 9 (.slice (some ⟨w.heap.size, 0, none⟩) 2 2)).run Try.prog (w.alloc (.cells #[.int .u8 x, .int .u8 y] 5)) = .ok (.string ⟨#[UInt8.ofNat x.toNat, UInt8.ofNat y.toNat]⟩) (w.alloc (.cells #[.int .u8 x, .int .u8 y] 5)) := by
  rw [run_convert_bytes_string _ _ _ 5 _ _ _ Try.underlying43 Try.underlying5 Try.underlying9]
  rw [run_bytesToString (ns := [x, y])]
  · rfl
  · simp [go_sem]

set_option maxHeartbeats 800000 in
theorem two_any (n : Int) (w : World) (h0 : 0 ≤ n) (h1 : n ≤ 100000) :
    Calls Try.prog 26 #[.int .i64 n] w fun e w' => e = .returned (.string (Cal.two n)) ∧ Below w.heap.size w w' := by
  have hcv := conv_two w (48 + n / 10 % 10) (48 + n % 10)
  go_enter Try.func26, Try.ntmps26
  go_wp2
  go_ret
  exact ⟨rfl, by go_grown⟩

theorem two_size (n : Int) : (Cal.two n).size = 2 := rfl
attribute [local simp, local go_sem] two_size ByteArray.size_append

set_option maxHeartbeats 800000 in
theorem rtext_any (y m d : Int) (w : World) (y0 : 0 ≤ y) (y1 : y ≤ 99999) (m0 : 0 ≤ m) (m1 : m ≤ 99) (d0 : 0 ≤ d) (d1 : d ≤ 99) :
    Calls Try.prog 23 #[.agg #[.int .i64 y, .int .i64 m, .int .i64 d]] w fun e w' => e = .returned (.string (Cal.txt y m d)) ∧ Below w.heap.size w w' := by
  go_enter Try.func23, Try.ntmps23
  go_wp2
  refine region_over (by kernel_rfl) (by kernel_rfl) ?_
  repeat (go_big_quiet_step (((go_at_call 26; exact over_call (two_any _ _ (by omega) (by omega))))))
  refine wpQuiet_nil ?_
  rintro w1 ⟨⟨_, hb⟩, rfl⟩
  go_wp2
  go_ret
  exact ⟨rfl, ((Below.refl _ _).alloc (Nat.le_refl _) _).trans (hb.mono (by simp))⟩
end Go.Proofs.Ytlfmclcbdjobnaa
