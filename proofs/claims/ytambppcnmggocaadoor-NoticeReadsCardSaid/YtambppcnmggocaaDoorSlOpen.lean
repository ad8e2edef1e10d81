/-
  Contracts of the program's look at a seal, of Open and of Age. Conditions: the table holds what the program's text lays; the sizes.
-/
import Derived.Test.YtambppcnmggocaaDoorSlLook
namespace Go.Proofs.YtambppcnmggocaaDoor
set_option maxRecDepth 20000
open Go.ChangeShapes Go.WideShapes Go.ChangeAt Go.RowKit

namespace Sl
/-- The age of the seal with which bytes begin, how many it and those under it are, the fault. -/
def looked (place : Nat) (l : List Int) : Nat × Nat × Nat :=
  if (opened l).2.2.2 ≠ 0 then (0, 0, (opened l).2.2.2) else if (opened l).2.2.1 ≠ place then (0, 0, 10) else ((opened l).2.1, 16 + (opened l).1, 0)
theorem looked_no {place : Nat} {l : List Int} {e : Nat} (h : opened l = (0, 0, 0, e)) (he : e ≠ 0) : looked place l = (0, 0, e) := by unfold looked; rw [h, if_pos he]
theorem looked_old {place : Nat} {l : List Int} {n a b : Nat} (h : opened l = (n, a, b, 0)) (hb : b ≠ place) : looked place l = (0, 0, 10) := by unfold looked; rw [h, if_neg (fun g => g rfl), if_pos hb]
theorem looked_yes {place : Nat} {l : List Int} {n a b : Nat} (h : opened l = (n, a, b, 0)) (hb : b = place) : looked place l = (a, 16 + n, 0) := by unfold looked; rw [h, if_neg (fun g => g rfl), if_neg (fun g => g hb)]
end Sl
def lookedV (r : Nat × Nat × Nat) : Value := .tuple #[.int .u32 (r.1 : Nat), .int .i64 (r.2.1 : Nat), .int .i64 (r.2.2 : Nat)]

set_option maxHeartbeats 2000000 in
theorem look_any (place : Nat) (A : Option Addr) (B c n : Nat) (l : List Int) (w : World) (ht : Lines w) (hr : Rd w .u8 B A l) (hB : B ≤ w.heap.size) (hb : BytesOk l) (hn : l.length = n) (hc : n ≤ c) (hl : n ≤ 5000) :
    Calls Tryd.prog 32 #[.int .u32 place, .slice A n c] w fun e w' => e = .returned (lookedV (Sl.looked place l)) ∧ Below w.heap.size w w' := by
  have HR := Lib.hid hr
  have HB := Lib.hid hb
  have HN := Lib.hid hn
  have HT := Lib.hid ht
  clear ht
  by_cases h16 : n < 16
  · have HX := Lib.hid (Sl.looked_no (place := place) (Sl.opened_few (l := l) (by omega)) (by omega))
    rw [HX.out]
    have t : decide ((n : Int) < 16) = true := by simp; omega
    clear hr hb hn
    go_enter Tryd.func32, Tryd.ntmps32
    go_wp2
    go_returns
    exact ⟨rfl, Below.refl _ _⟩
  obtain ⟨a, rfl⟩ : ∃ a, A = some a := by obtain ⟨a, h, _⟩ := hr.at_ (j := 0) (by omega); exact ⟨a, h⟩
  have hlt0 := Sl.wordAt_lt hb 0
  by_cases h2 : 1048576 < Sl.wordAt l 0
  · have HX := Lib.hid (Sl.looked_no (place := place) (Sl.opened_long (l := l) (by omega) h2) (by omega))
    rw [HX.out]
    clear hr hb hn HX
    go_enter Tryd.func32, Tryd.ntmps32
    go_wp2_with (fail)
    refine (word_any _ _ _ _ 0 l _ HR.out HB.out HN.out (by omega) (by omega) hc).mono ?_
    rintro e w1 ⟨rfl, rfl⟩
    generalize Sl.wordAt l 0 = m at *
    go_wp2
    go_returns
    exact ⟨rfl, Below.refl _ _⟩
  by_cases h3 : n < 16 + Sl.wordAt l 0
  · have HX := Lib.hid (Sl.looked_no (place := place) (Sl.opened_short (l := l) (by omega) h2 (by omega)) (by omega))
    rw [HX.out]
    clear hr hb hn HX
    go_enter Tryd.func32, Tryd.ntmps32
    go_wp2_with (fail)
    refine (word_any _ _ _ _ 0 l _ HR.out HB.out HN.out (by omega) (by omega) hc).mono ?_
    rintro e w1 ⟨rfl, rfl⟩
    generalize Sl.wordAt l 0 = m at *
    go_wp2_with (fail)
    refine (size_any m _ (by omega)).mono ?_
    rintro e w1 ⟨rfl, rfl⟩
    go_wp2
    go_returns
    exact ⟨rfl, Below.refl _ _⟩
  have hmn : 16 + Sl.wordAt l 0 ≤ n := by omega
  have hlt3 := Sl.wordAt_lt hb 3
  have HS12 : Hid (Rd w .u8 B (some a) (l.take 12)) := hr.take 12
  have HL12 : Hid ((l.take 12).length = 12) := by show (l.take 12).length = 12; rw [List.length_take]; omega
  have HS16 := Lib.hid (hr.cut (c := c) (by omega) 16 (Sl.wordAt l 0))
  have HL16 : Hid (((l.drop 16).take (Sl.wordAt l 0)).length = Sl.wordAt l 0) := by show _ = _; rw [List.length_take, List.length_drop]; omega
  have HB12 : Hid (BytesOk (l.take 12)) := hb.take 12
  have HB16 : Hid (BytesOk ((l.drop 16).take (Sl.wordAt l 0))) := (hb.drop 16).take _
  have hA : ∃ r, Sl.looked place l = r ∧ ((Sl.sum (l.take 12 ++ (l.drop 16).take (Sl.wordAt l 0)) ≠ Sl.wordAt l 3 ∧ r = (0, 0, 4)) ∨ (Sl.sum (l.take 12 ++ (l.drop 16).take (Sl.wordAt l 0)) = Sl.wordAt l 3 ∧ (Sl.wordAt l 2 ≠ place ∧ r = (0, 0, 10) ∨ Sl.wordAt l 2 = place ∧ r = (Sl.wordAt l 1, 16 + Sl.wordAt l 0, 0)))) := by
    refine ⟨_, rfl, ?_⟩
    by_cases h4 : Sl.sum (l.take 12 ++ (l.drop 16).take (Sl.wordAt l 0)) = Sl.wordAt l 3
    · have ho := Sl.opened_yes (l := l) (by omega) h2 (by omega) h4
      by_cases h5 : Sl.wordAt l 2 = place
      · exact .inr ⟨h4, .inr ⟨h5, Sl.looked_yes ho h5⟩⟩
      · exact .inr ⟨h4, .inl ⟨h5, Sl.looked_old ho h5⟩⟩
    · exact .inl ⟨h4, Sl.looked_no (Sl.opened_form (by omega) h2 (by omega) h4) (by omega)⟩
  obtain ⟨r, hr0, hcase⟩ := hA
  rw [hr0]
  have hlt1 := Sl.wordAt_lt hb 1
  have hlt2 := Sl.wordAt_lt hb 2
  have HW : ∀ (k : Nat) (w' : World), k ≤ 3 → Below w.heap.size w w' → Calls Tryd.prog 40 #[.slice (some a) n c, .int .i64 k] w' fun e w'' => e = .returned (.int .u32 (Sl.wordAt l k : Nat)) ∧ w' = w'' :=
    fun k w' hk hbw => word_any _ _ _ _ k l _ (HR.out.below (hbw.mono hB)) HB.out HN.out hk (by omega) hc
  have W0 : Hid (∀ w', Below w.heap.size w w' → Calls Tryd.prog 40 #[.slice (some a) n c, .int .i64 0] w' fun e w'' => e = .returned (.int .u32 (Sl.wordAt l 0 : Nat)) ∧ w' = w'') := fun w' h => HW 0 w' (by omega) h
  have W1 : Hid (∀ w', Below w.heap.size w w' → Calls Tryd.prog 40 #[.slice (some a) n c, .int .i64 1] w' fun e w'' => e = .returned (.int .u32 (Sl.wordAt l 1 : Nat)) ∧ w' = w'') := fun w' h => HW 1 w' (by omega) h
  have W2 : Hid (∀ w', Below w.heap.size w w' → Calls Tryd.prog 40 #[.slice (some a) n c, .int .i64 2] w' fun e w'' => e = .returned (.int .u32 (Sl.wordAt l 2 : Nat)) ∧ w' = w'') := fun w' h => HW 2 w' (by omega) h
  have W3 : Hid (∀ w', Below w.heap.size w w' → Calls Tryd.prog 40 #[.slice (some a) n c, .int .i64 3] w' fun e w'' => e = .returned (.int .u32 (Sl.wordAt l 3 : Nat)) ∧ w' = w'') := fun w' h => HW 3 w' (by omega) h
  clear HW
  generalize Sl.wordAt l 0 = m at *
  generalize Sl.wordAt l 1 = m1 at *
  generalize Sl.wordAt l 2 = m2 at *
  generalize Sl.wordAt l 3 = m3 at *
  have hS := Sl.sum_lt (l.take 12 ++ (l.drop 16).take m)
  have hm16 : 16 + m - 16 = m := by omega
  have hc12 : 12 ≤ c := by omega
  clear hr hb hn hr0
  rcases Decidable.em (c = 16) with e16 | e16
  rw [if_pos e16] at HS16
  subst e16
  rotate_left
  rw [if_neg e16] at HS16
  all_goals
    go_enter Tryd.func32, Tryd.ntmps32
    go_wp2_with (fail)
    refine (W0.out _ (Below.refl _ _)).mono ?_
    rintro e w1 ⟨rfl, rfl⟩
    go_wp2_with (fail)
    refine (size_any m _ (by omega)).mono ?_
    rintro e w1 ⟨rfl, rfl⟩
    go_wp2
    refine region_over (by kernel_rfl) (by kernel_rfl) ?_
    repeat (go_big_quiet_step ((first | (go_at_call 40; exact over_same (W3.out _ (over_below _ _))) | (go_at_call 31; exact over_same (sealSum_any _ _ B B _ _ _ _ (l.take 12) ((l.drop 16).take m) _ (HT.out.below (over_below _ _)) (HS12.out.below ((over_below _ _).mono hB)) HB12.out HL12.out (by omega) (HS16.out.below ((over_below _ _).mono hB)) HB16.out (by have := HL16.out; omega) (by omega))))))
    refine wpQuiet_nil ?_
    rintro w' ⟨x, rfl⟩
    have H4 : Hid (Below w.heap.size w (over w x)) := over_below _ _
    generalize over w x = w4 at *
    generalize Sl.sum (l.take 12 ++ (l.drop 16).take m) = S at *
    rcases hcase with ⟨hne, rfl⟩ | ⟨he, hcase⟩
    · have t : ((m3 : Int) != (S : Int)) = true := by simp; omega
      go_wp2
      go_returns
      exact ⟨rfl, H4.out⟩
    · subst he
      rcases hcase with ⟨hne, rfl⟩ | ⟨he, rfl⟩
      · have t : ((m2 : Int) != (place : Int)) = true := by simp; omega
        go_wp2_with (fail)
        refine (W2.out _ H4.out).mono ?_
        rintro e w1 ⟨rfl, rfl⟩
        go_wp2
        go_returns
        exact ⟨rfl, H4.out⟩
      · subst he
        go_wp2_with (fail)
        refine (W2.out _ H4.out).mono ?_
        rintro e w1 ⟨rfl, rfl⟩
        go_wp2_with (fail)
        refine (W1.out _ H4.out).mono ?_
        rintro e w1 ⟨rfl, rfl⟩
        go_wp2
        go_returns
        exact ⟨rfl, H4.out⟩

theorem looked_le {place : Nat} {l : List Int} (h : (Sl.looked place l).2.2 = 0) : ∃ m, (Sl.looked place l).2.1 = 16 + m ∧ 16 + m ≤ l.length ∧ Sl.opened l = (m, (Sl.looked place l).1, place, 0) := by
  by_cases h1 : l.length < 16
  · rw [Sl.looked_no (Sl.opened_few h1) (by omega)] at h; simp at h
  by_cases h2 : 1048576 < Sl.wordAt l 0
  · rw [Sl.looked_no (Sl.opened_long h1 h2) (by omega)] at h; simp at h
  by_cases h3 : l.length < 16 + Sl.wordAt l 0
  · rw [Sl.looked_no (Sl.opened_short h1 h2 h3) (by omega)] at h; simp at h
  by_cases h4 : Sl.sum (l.take 12 ++ (l.drop 16).take (Sl.wordAt l 0)) = Sl.wordAt l 3
  · have ho := Sl.opened_yes h1 h2 h3 h4
    by_cases h5 : Sl.wordAt l 2 = place
    · rw [Sl.looked_yes ho h5]
      exact ⟨Sl.wordAt l 0, rfl, by omega, by rw [ho, h5]⟩
    · rw [Sl.looked_old ho h5] at h; simp at h
  · rw [Sl.looked_no (Sl.opened_form h1 h2 h3 h4) (by omega)] at h; simp at h
theorem looked_lt {place : Nat} {l : List Int} (hb : BytesOk l) : (Sl.looked place l).1 < 4294967296 ∧ (Sl.looked place l).2.2 ≤ 10 := by
  have h1 := Sl.wordAt_lt hb 1
  unfold Sl.looked Sl.opened
  repeat' split
  all_goals first | (simp; done) | (simp_all; omega) | (simp_all; done)


namespace Sl
/-- The bytes under the seal, how many they and it are, the fault. -/
def open1 (age place : Nat) (l : List Int) : List Int × Nat × Nat :=
  if (looked place l).2.2 ≠ 0 then ([], 0, (looked place l).2.2) else if (looked place l).1 ≠ age then ([], 0, 10) else ((l.drop 16).take ((looked place l).2.1 - 16), (looked place l).2.1, 0)
theorem open1_no {age place : Nat} {l : List Int} (h : (looked place l).2.2 ≠ 0) : open1 age place l = ([], 0, (looked place l).2.2) := by unfold open1; rw [if_pos h]
theorem open1_old {age place : Nat} {l : List Int} (h : (looked place l).2.2 = 0) (h2 : (looked place l).1 ≠ age) : open1 age place l = ([], 0, 10) := by unfold open1; rw [if_neg (fun g => g h), if_pos h2]
theorem open1_yes {age place m : Nat} {l : List Int} (h : (looked place l).2.2 = 0) (h2 : (looked place l).1 = age) (hm : (looked place l).2.1 = 16 + m) : open1 age place l = ((l.drop 16).take m, 16 + m, 0) := by
  unfold open1; rw [if_neg (fun g => g h), if_neg (fun g => g h2), hm, show 16 + m - 16 = m by omega]
end Sl
/-- What Open hands back. -/
def Opened (w : World) (r : List Int × Nat × Nat) (e : Ending) (w' : World) : Prop :=
  ∃ A n c, e = .returned (.tuple #[.slice A n c, .int .i64 (r.2.1 : Nat), .int .i64 (r.2.2 : Nat)]) ∧ Hid (r.1.length = n) ∧ Hid (Rd w' .u8 w'.heap.size A r.1) ∧ Hid (Below w.heap.size w w')
/-- The same; and the bytes are new. -/
def OpenedO (w : World) (r : List Int × Nat × Nat) (e : Ending) (w' : World) : Prop :=
  ∃ A n c, e = .returned (.tuple #[.slice A n c, .int .i64 (r.2.1 : Nat), .int .i64 (r.2.2 : Nat)]) ∧ Hid (r.1.length = n) ∧ Hid (Rd w' .u8 w'.heap.size A r.1) ∧ Hid (Below w.heap.size w w') ∧ Hid (w'.ownsRow w.heap.size 5 1 (.slice A n c) n (cl .u8 r.1))
theorem own_base {w : World} {base base' : Nat} {e : TypeId} {size : Nat} {v : Value} {k : Nat} {xs : List Value} (h : w.ownsRow base e size v k xs) (hb : base' ≤ base) : w.ownsRow base' e size v k xs := by
  refine ⟨h.1, ?_⟩
  rcases h.2 with hn | ⟨g, cap, cur, rfl, hbb, rest⟩
  · exact .inl hn
  · exact .inr ⟨g, cap, cur, rfl, Nat.le_trans hb hbb, rest⟩
set_option maxHeartbeats 2000000 in
theorem open_own (age place : Nat) (A : Option Addr) (B c n : Nat) (l : List Int) (w : World) (ht : Lines w) (hr : Rd w .u8 B A l) (hB : B ≤ w.heap.size) (hb : BytesOk l) (hn : l.length = n) (hc : n ≤ c) (hl : n ≤ 5000) :
    Calls Tryd.prog 17 #[.int .u32 age, .int .u32 place, .slice A n c] w (OpenedO w (Sl.open1 age place l)) := by
  have HL := Lib.hid (look_any place A B c n l w ht hr hB hb hn hc hl)
  have hlt := looked_lt (place := place) hb
  by_cases h0 : (Sl.looked place l).2.2 = 0
  · obtain ⟨m, hm, hml, _⟩ := looked_le h0
    have hz : (Sl.looked place l).2.1 = 16 + m := hm
    by_cases h1 : (Sl.looked place l).1 = age
    · rw [Sl.open1_yes h0 h1 hm]
      have HS := Lib.hid (hr.cut' (c := c) (by omega) 16 m)
      have HM : Hid (((l.drop 16).take m).length = m) := by show _ = _; rw [List.length_take, List.length_drop]; omega
      unfold lookedV at HL
      rw [h0, h1, hm] at HL
      have hmn : 16 + m ≤ n := by omega
      clear ht hr hb h0 h1 hm hz hml hlt
      have hm16 : 16 + m - 16 = m := by omega
      go_enter Tryd.func17, Tryd.ntmps17
      go_wp2_with (fail)
      refine HL.out.mono ?_
      rintro e w1 ⟨rfl, hb1⟩
      have H1 := Lib.hid hb1
      clear hb1
      go_wp2_with (fail)
      all_goals first | rw [if_pos h] at HS | rw [if_neg h] at HS
      all_goals
        refine (clone_len _ B _ m ((l.drop 16).take m) _ (HS.out.below (H1.out.mono hB)) (Nat.le_trans hB H1.out.size) HM.out (by omega)).mono ?_
        intro e w2 hO
        obtain ⟨A2, n2, c2, rfl, HN2, HO2, HB2, HR2, _, _⟩ := hO.open_
        go_wp2
        go_returns
        exact ⟨A2, n2, c2, rfl, HN2, HR2, H1.out.trans (HB2.out.mono H1.out.size), own_base HO2.out H1.out.size⟩
    · rw [Sl.open1_old h0 h1]
      unfold lookedV at HL
      rw [h0, hm] at HL
      generalize (Sl.looked place l).1 = x at *
      have t : ((x : Int) != (age : Int)) = true := by simp; omega
      clear ht hr hb h0 h1 hm hz hml
      go_enter Tryd.func17, Tryd.ntmps17
      go_wp2_with (fail)
      refine HL.out.mono ?_
      rintro e w1 ⟨rfl, hb1⟩
      have H1 := Lib.hid hb1
      go_wp2
      go_returns
      exact ⟨none, 0, 0, rfl, rfl, Rd.none, H1.out, World.ownsRow_nil _ _ _ _⟩
  · rw [Sl.open1_no h0]
    unfold lookedV at HL
    generalize Sl.looked place l = r at *
    obtain ⟨r1, r2, r3⟩ := r
    have t : ((r3 : Int) != 0) = true := by simp; exact h0
    clear ht hr hb
    go_enter Tryd.func17, Tryd.ntmps17
    go_wp2_with (fail)
    refine HL.out.mono ?_
    rintro e w1 ⟨rfl, hb1⟩
    have H1 := Lib.hid hb1
    go_wp2
    go_returns
    exact ⟨none, 0, 0, rfl, rfl, Rd.none, H1.out, World.ownsRow_nil _ _ _ _⟩
theorem open_any (age place : Nat) (A : Option Addr) (B c n : Nat) (l : List Int) (w : World) (ht : Lines w) (hr : Rd w .u8 B A l) (hB : B ≤ w.heap.size) (hb : BytesOk l) (hn : l.length = n) (hc : n ≤ c) (hl : n ≤ 5000) :
    Calls Tryd.prog 17 #[.int .u32 age, .int .u32 place, .slice A n c] w (Opened w (Sl.open1 age place l)) :=
  (open_own age place A B c n l w ht hr hB hb hn hc hl).mono fun _ _ ⟨A', n', c', h1, h2, h3, h4, _⟩ => ⟨A', n', c', h1, h2, h3, h4⟩
end Go.Proofs.YtambppcnmggocaaDoor
