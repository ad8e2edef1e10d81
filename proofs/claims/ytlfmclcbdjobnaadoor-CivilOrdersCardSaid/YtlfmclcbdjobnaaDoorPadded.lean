/-
  Contracts of a number in decimal digits with noughts ahead of it, and of a day's text. Conditions: the library's table of powers of ten holds what its text lays; there is such a day.
-/
import Derived.Test.YtlfmclcbdjobnaaDoorCalS
import Derived.Test.YtlfmclcbdjobnaaDoorNumber
import Derived.Test.YtlfmclcbdjobnaaDoorText
import Derived.Test.YtlfmclcbdjobnaaDoorShelf
import Derived.Lib.LaidTab
namespace Go.Proofs.YtlfmclcbdjobnaaDoor
open Go.ChangeShapes Go.WideShapes Go.ChangeAt Go.RowKit

/-- The library's table of powers of ten holds what it should. -/
def Tab (w : World) : Prop := Lib.TabIs Tryd.prog w "internal/strconv.uint64pow10" .u64 Lib.pow10Tab
theorem tab_below {w w' : World} (h : Tab w) (hb : Below w.heap.size w w') : Tab w' := by
  unfold Tab Lib.TabIs World.var? at *
  cases hg : Tryd.prog.globalNamed "internal/strconv.uint64pow10" with
  | none => rw [hg] at h; cases h
  | some g =>
    rw [hg] at h
    simp only [Option.bind_some] at h ⊢
    have hlt : g < w.heap.size := by
      rcases Nat.lt_or_ge g w.heap.size with h' | h'
      · exact h'
      · rw [Array.getElem?_eq_none h'] at h; cases h
    rw [hb.block g hlt]; exact h

theorem below_grow (w : World) (k : Nat) (os : Array Obj) : Below w.heap.size w (Sort.grow (w.drewN k) os) := by
  refine ⟨rfl, rfl, rfl, ?_, fun i hi => ?_⟩
  · show w.heap.size ≤ (w.heap ++ os).size
    simp
  · show (w.heap ++ os)[i]? = _
    rw [Array.getElem?_append_left hi]

theorem itoa_any (n : Int) (w : World) (h0 : 0 ≤ n) (h1 : n ≤ 99999) (ht : Tab w) :
    Calls Tryd.prog 19 #[.int .i64 n] w fun e w' => e = .returned (.string ⟨(Lib.itoa n).toArray⟩) ∧ Below w.heap.size w w' :=
  (Tryd.strconv_Itoa n (by omega) (by omega) w ht).mono fun _ _ ⟨he, k, os, hw⟩ => ⟨he, by rw [hw]; exact below_grow w k os⟩

theorem repeat_any (k : Int) (w : World) (h0 : 0 ≤ k) (h1 : k ≤ 10) :
    Calls Tryd.prog 20 #[.string ⟨#[48]⟩, .int .i64 k] w fun e w' => e = .returned (.string ⟨(Lib.repeatL [48] k.toNat).toArray⟩) ∧ Below w.heap.size w w' := by
  obtain ⟨c, rfl⟩ := Int.eq_ofNat_of_zero_le h0
  exact Tryd.strings_Repeat ⟨#[48]⟩ c w (by omega) (by show 1 * c ≤ _; omega)

theorem nought_size (c : Nat) : (⟨(Lib.repeatL [48] c).toArray⟩ : ByteArray).size = c := by
  show (Lib.repeatL [48] c).toArray.size = c
  simp [Lib.repeatL_length]

set_option maxHeartbeats 800000 in
theorem padded_any (n : Int) (s : ByteArray) (c : Nat) (w : World) (h0 : 0 ≤ n) (h1 : n ≤ 99999) (ht : Tab w) (hs : (⟨(Lib.itoa n).toArray⟩ : ByteArray) = s) (hl : s.size ≤ 10) (hc : c ≤ 10) :
    Calls Tryd.prog 13 #[.int .i64 n, .int .i64 ((s.size : Int) + c)] w fun e w' => e = .returned (.string ((⟨(Lib.repeatL [48] c).toArray⟩ : ByteArray) ++ s)) ∧ Below w.heap.size w w' := by
  have HT := Lib.hid ht
  have HS := Lib.hid hs
  clear ht hs
  go_enter Tryd.func13, Tryd.ntmps13
  go_wp2_with fail
  refine (itoa_any _ _ h0 h1 HT.out).mono ?_
  rintro e w1 ⟨rfl, hb⟩
  rw [HS.out]
  go_wp2_with fail
  rw [show max 0 ((s.size : Int) + c - s.size) = (c : Int) by omega]
  refine (repeat_any _ _ (by omega) (by omega)).mono ?_
  rintro e w2 ⟨rfl, hb2⟩
  rw [Int.toNat_natCast]
  have hz := nought_size c
  obtain ⟨r, hr⟩ : ∃ r : ByteArray, (⟨(Lib.repeatL [48] c).toArray⟩ : ByteArray) = r := ⟨_, rfl⟩
  rw [hr] at hz ⊢
  have HR := Lib.hid hr
  have hz' : r.size ≤ 10 := by omega
  clear hz hr
  have hlt : ¬ 9223372036854775807 < r.size + s.size := by omega
  go_wp2
  go_ret
  exact ⟨by rw [HR.out]; rfl, hb.trans (hb2.mono hb.size)⟩

theorem digits_one (n : Nat) (h : n < 10) : Lib.decDigits n = [UInt8.ofNat (48 + n)] := by
  rw [Lib.decDigits, dif_pos h]
theorem digits_more (n : Nat) (h : ¬ n < 10) : Lib.decDigits n = Lib.decDigits (n / 10) ++ [UInt8.ofNat (48 + n % 10)] := by
  rw [Lib.decDigits, dif_neg h]

/-- Two digits. -/
theorem pad_two (n : Int) (h0 : 0 ≤ n) (h1 : n ≤ 99) : ∃ (s : ByteArray) (c : Nat), (⟨(Lib.itoa n).toArray⟩ : ByteArray) = s ∧ s.size ≤ 10 ∧ c ≤ 10 ∧ (s.size : Int) + c = 2 ∧ (⟨(Lib.repeatL [48] c).toArray⟩ : ByteArray) ++ s = Cal.two n := by
  obtain ⟨k, rfl⟩ := Int.eq_ofNat_of_zero_le h0
  have hi : Lib.itoa (k : Int) = Lib.decDigits k := by unfold Lib.itoa; rw [if_neg (by omega), Int.toNat_natCast]
  rw [hi]
  by_cases a : k < 10
  · refine ⟨_, 1, rfl, ?_, by omega, ?_, ?_⟩
    · rw [digits_one k a]; exact (by decide : 1 ≤ 10)
    · rw [digits_one k a]; rfl
    · rw [digits_one k a]
      have e1 : (48 + (k : Int) / 10 % 10).toNat = 48 := by omega
      have e2 : (48 + (k : Int) % 10).toNat = 48 + k := by omega
      unfold Cal.two
      rw [e1, e2]
      rfl
  · refine ⟨_, 0, rfl, ?_, by omega, ?_, ?_⟩
    · rw [digits_more k a, digits_one (k / 10) (by omega)]; exact (by decide : 2 ≤ 10)
    · rw [digits_more k a, digits_one (k / 10) (by omega)]; rfl
    · rw [digits_more k a, digits_one (k / 10) (by omega)]
      have e1 : (48 + (k : Int) / 10 % 10).toNat = 48 + k / 10 := by omega
      have e2 : (48 + (k : Int) % 10).toNat = 48 + k % 10 := by omega
      unfold Cal.two
      rw [e1, e2]
      rfl

/-- Four digits. -/
theorem pad_four (n : Int) (h0 : 0 ≤ n) (h1 : n ≤ 9999) : ∃ (s : ByteArray) (c : Nat), (⟨(Lib.itoa n).toArray⟩ : ByteArray) = s ∧ s.size ≤ 10 ∧ c ≤ 10 ∧ (s.size : Int) + c = 4 ∧ (⟨(Lib.repeatL [48] c).toArray⟩ : ByteArray) ++ s = Cal.two (n / 100) ++ Cal.two n := by
  obtain ⟨k, rfl⟩ := Int.eq_ofNat_of_zero_le h0
  have hi : Lib.itoa (k : Int) = Lib.decDigits k := by unfold Lib.itoa; rw [if_neg (by omega), Int.toNat_natCast]
  rw [hi]
  by_cases a : k < 10
  · refine ⟨_, 3, rfl, ?_, by omega, ?_, ?_⟩
    · rw [digits_one k a]; exact (by decide : 1 ≤ 10)
    · rw [digits_one k a]; rfl
    · rw [digits_one k a]
      have e1 : (48 + (k : Int) / 10 % 10).toNat = 48 := by omega
      have e2 : (48 + (k : Int) % 10).toNat = 48 + k := by omega
      have e3 : (48 + (k : Int) / 100 / 10 % 10).toNat = 48 := by omega
      have e4 : (48 + (k : Int) / 100 % 10).toNat = 48 := by omega
      unfold Cal.two
      rw [e1, e2, e3, e4]
      rfl
  by_cases b : k < 100
  · refine ⟨_, 2, rfl, ?_, by omega, ?_, ?_⟩
    · rw [digits_more k a, digits_one (k / 10) (by omega)]; exact (by decide : 2 ≤ 10)
    · rw [digits_more k a, digits_one (k / 10) (by omega)]; rfl
    · rw [digits_more k a, digits_one (k / 10) (by omega)]
      have e1 : (48 + (k : Int) / 10 % 10).toNat = 48 + k / 10 := by omega
      have e2 : (48 + (k : Int) % 10).toNat = 48 + k % 10 := by omega
      have e3 : (48 + (k : Int) / 100 / 10 % 10).toNat = 48 := by omega
      have e4 : (48 + (k : Int) / 100 % 10).toNat = 48 := by omega
      unfold Cal.two
      rw [e1, e2, e3, e4]
      rfl
  by_cases d : k < 1000
  · refine ⟨_, 1, rfl, ?_, by omega, ?_, ?_⟩
    · rw [digits_more k a, digits_more (k / 10) (by omega), digits_one (k / 10 / 10) (by omega)]; exact (by decide : 3 ≤ 10)
    · rw [digits_more k a, digits_more (k / 10) (by omega), digits_one (k / 10 / 10) (by omega)]; rfl
    · rw [digits_more k a, digits_more (k / 10) (by omega), digits_one (k / 10 / 10) (by omega)]
      have e1 : (48 + (k : Int) / 10 % 10).toNat = 48 + k / 10 % 10 := by omega
      have e2 : (48 + (k : Int) % 10).toNat = 48 + k % 10 := by omega
      have e3 : (48 + (k : Int) / 100 / 10 % 10).toNat = 48 := by omega
      have e4 : (48 + (k : Int) / 100 % 10).toNat = 48 + k / 10 / 10 := by omega
      unfold Cal.two
      rw [e1, e2, e3, e4]
      rfl
  · refine ⟨_, 0, rfl, ?_, by omega, ?_, ?_⟩
    · rw [digits_more k a, digits_more (k / 10) (by omega), digits_more (k / 10 / 10) (by omega), digits_one (k / 10 / 10 / 10) (by omega)]; exact (by decide : 4 ≤ 10)
    · rw [digits_more k a, digits_more (k / 10) (by omega), digits_more (k / 10 / 10) (by omega), digits_one (k / 10 / 10 / 10) (by omega)]; rfl
    · rw [digits_more k a, digits_more (k / 10) (by omega), digits_more (k / 10 / 10) (by omega), digits_one (k / 10 / 10 / 10) (by omega)]
      have e1 : (48 + (k : Int) / 10 % 10).toNat = 48 + k / 10 % 10 := by omega
      have e2 : (48 + (k : Int) % 10).toNat = 48 + k % 10 := by omega
      have e3 : (48 + (k : Int) / 100 / 10 % 10).toNat = 48 + k / 10 / 10 / 10 := by omega
      have e4 : (48 + (k : Int) / 100 % 10).toNat = 48 + k / 10 / 10 % 10 := by omega
      unfold Cal.two
      rw [e1, e2, e3, e4]
      rfl

theorem padded_two (n : Int) (w : World) (h0 : 0 ≤ n) (h1 : n ≤ 99) (ht : Tab w) :
    Calls Tryd.prog 13 #[.int .i64 n, .int .i64 2] w fun e w' => e = .returned (.string (Cal.two n)) ∧ Below w.heap.size w w' := by
  obtain ⟨s, c, hs, hl, hc, hw, hr⟩ := pad_two n h0 h1
  rw [← hw, ← hr]
  exact padded_any n s c w h0 (by omega) ht hs hl hc
theorem padded_four (n : Int) (w : World) (h0 : 0 ≤ n) (h1 : n ≤ 9999) (ht : Tab w) :
    Calls Tryd.prog 13 #[.int .i64 n, .int .i64 4] w fun e w' => e = .returned (.string (Cal.two (n / 100) ++ Cal.two n)) ∧ Below w.heap.size w w' := by
  obtain ⟨s, c, hs, hl, hc, hw, hr⟩ := pad_four n h0 h1
  rw [← hw, ← hr]
  exact padded_any n s c w h0 (by omega) ht hs hl hc

attribute [local simp, local go_sem] two_size ByteArray.size_append
set_option maxHeartbeats 800000 in
theorem text_any (y m d : Int) (w : World) (y0 : 0 ≤ y) (y1 : y ≤ 9999) (m0 : 0 ≤ m) (m1 : m ≤ 99) (d0 : 0 ≤ d) (d1 : d ≤ 99) (ht : Tab w) :
    Calls Tryd.prog 6 #[.agg #[.int .i64 y, .int .i64 m, .int .i64 d]] w fun e w' => e = .returned (.string (Cal.txt y m d)) ∧ Below w.heap.size w w' := by
  have HT := Lib.hid ht
  clear ht
  go_enter Tryd.func6, Tryd.ntmps6
  go_wp2
  have HB := Lib.hid (fun x => tab_below (tab_below HT.out ((Below.refl w.heap.size w).alloc (Nat.le_refl _) (.cells #[.int .i64 y, .int .i64 m, .int .i64 d] 24))) (over_below _ x))
  refine region_over (by kernel_rfl) (by kernel_rfl) ?_
  repeat (go_big_quiet_step ((first | (go_at_call_of 13 (Value.int IntKind.i64 y); exact over_call (padded_four _ _ (by omega) (by omega) (HB.out _))) | (go_at_call 13; exact over_call (padded_two _ _ (by omega) (by omega) (HB.out _))))))
  refine wpQuiet_nil ?_
  rintro w1 ⟨⟨_, hb⟩, rfl⟩
  go_wp2
  go_ret
  exact ⟨rfl, ((Below.refl _ _).alloc (Nat.le_refl _) _).trans (hb.mono (by simp))⟩
end Go.Proofs.YtlfmclcbdjobnaaDoor
