/-
  Plain mathematics of the calendar, continued: each number is a day's, the day behind a day, the sums by four hundreds of years. No conditions.
-/
import Derived.Test.YtblikgbcakgdnaaGreatRows
import Derived.WalkKit
import Derived.ProofKit
import Derived.OpenShut
import Derived.Handy
import Derived.Outline
import Derived.Lib.Hide
import Derived.Deep.QuietTactic
import Derived.BigQuiet
import Derived.Deep.RegionHeld3
import Derived.Deep.RegionWith
import Derived.Test.YtblikgbcakgdnaaGreatBr02
import Derived.Test.YtblikgbcakgdnaaGreatBr06
set_option linter.unusedSimpArgs false
set_option linter.unusedVariables false
namespace Go.Proofs.YtblikgbcakgdnaaGreat.Cal

theorem cum_last (y : Int) : cum y 13 = 365 + lp y := rfl
theorem cum_end (y m : Int) (h1 : 1 ≤ m) (h2 : m ≤ 12) : cum y m + mon y m ≤ 365 + lp y := by
  have h : m = 1 ∨ m = 2 ∨ m = 3 ∨ m = 4 ∨ m = 5 ∨ m = 6 ∨ m = 7 ∨ m = 8 ∨ m = 9 ∨ m = 10 ∨ m = 11 ∨ m = 12 := by omega
  have := lp_01 y
  rw [← cum_succ y m h1 h2]
  rcases h with rfl | rfl | rfl | rfl | rfl | rfl | rfl | rfl | rfl | rfl | rfl | rfl
  all_goals (simp [cum]; try omega)
theorem cum_mono (y i m : Int) (h0 : 1 ≤ i) (h1 : i < m) (h2 : m ≤ 12) : cum y i + mon y i ≤ cum y m := by
  obtain ⟨k, hk⟩ : ∃ k : Nat, m = i + 1 + k := ⟨(m - i - 1).toNat, by omega⟩
  clear h1
  induction k generalizing m with
  | zero => rw [show m = i + 1 by omega, cum_succ y i h0 (by omega)]; omega
  | succ k ih =>
    have := ih (m - 1) (by omega) (by omega)
    have h := cum_succ y (m - 1) (by omega) (by omega)
    rw [show m - 1 + 1 = m by omega] at h
    have := mon_lo y (m - 1)
    omega

theorem num_lo {y m d : Int} (h : right y m d = true) : dby y ≤ num y m d ∧ num y m d < dby (y + 1) ∧ 0 ≤ num y m d ∧ num y m d ≤ 3652058 := by
  obtain ⟨m1, m2⟩ := right_month h
  obtain ⟨y1, y2, d1, d2⟩ := right_true.1 h
  have a := cum_end y m m1 m2
  have b := cum_bd y m
  have c := dby_succ y
  have e := dby_mono (y + 1) 10000 (by omega)
  have f := dby_bd y y1 (by omega)
  have g := dby_max
  unfold num
  omega

/-- The day behind a day. -/
def nextY (y m d : Int) : Int := if mon y m < d + 1 ∧ 12 < m + 1 then y + 1 else y
def nextM (y m d : Int) : Int := if mon y m < d + 1 then (if 12 < m + 1 then 1 else m + 1) else m
def nextD (y m d : Int) : Int := if mon y m < d + 1 then 1 else d + 1

theorem next_right {y m d : Int} (h : right y m d = true) (hn : num y m d < 3652058) :
    right (nextY y m d) (nextM y m d) (nextD y m d) = true ∧ num (nextY y m d) (nextM y m d) (nextD y m d) = num y m d + 1 := by
  obtain ⟨m1, m2⟩ := right_month h
  obtain ⟨y1, y2, d1, d2⟩ := right_true.1 h
  have cs := cum_succ y m m1 m2
  by_cases a : mon y m < d + 1
  · have hd : d = mon y m := by omega
    by_cases b : 12 < m + 1
    · have hm : m = 12 := by omega
      subst hm
      have e1 : nextY y 12 d = y + 1 := by unfold nextY; rw [if_pos ⟨a, b⟩]
      have e2 : nextM y 12 d = 1 := by unfold nextM; rw [if_pos a, if_pos b]
      have e3 : nextD y 12 d = 1 := by unfold nextD; rw [if_pos a]
      rw [e1, e2, e3]
      have hs := dby_succ y
      rw [show (12 : Int) + 1 = 13 from rfl, cum_last] at cs
      have hq : num y 12 d + 1 = dby (y + 1) := by unfold num; omega
      have hy : y < 9999 := by
        by_cases c : y = 9999
        · subst c; have := dby_max; rw [show (9999 : Int) + 1 = 10000 from rfl] at hq; omega
        · omega
      refine ⟨right_true.2 ⟨by omega, by omega, by omega, ?_⟩, ?_⟩
      · have := mon_28 (y + 1) 1 (by omega) (by omega); omega
      · unfold num; unfold num at hq; rw [cum_one]; omega
    · have e1 : nextY y m d = y := by unfold nextY; rw [if_neg (fun c => b c.2)]
      have e2 : nextM y m d = m + 1 := by unfold nextM; rw [if_pos a, if_neg b]
      have e3 : nextD y m d = 1 := by unfold nextD; rw [if_pos a]
      rw [e1, e2, e3]
      refine ⟨right_true.2 ⟨y1, y2, by omega, ?_⟩, ?_⟩
      · have := mon_28 y (m + 1) (by omega) (by omega); omega
      · unfold num; omega
  · have e1 : nextY y m d = y := by unfold nextY; rw [if_neg (fun c => a c.1)]
    have e2 : nextM y m d = m := by unfold nextM; rw [if_neg a]
    have e3 : nextD y m d = d + 1 := by unfold nextD; rw [if_neg a]
    rw [e1, e2, e3]
    exact ⟨right_true.2 ⟨y1, y2, by omega, by omega⟩, by unfold num; omega⟩

theorem num_first : num 1 1 1 = 0 := by decide
theorem day_nat (n : Nat) (h : n ≤ 3652058) : ∃ y m d, right y m d = true ∧ num y m d = n := by
  induction n with
  | zero => exact ⟨1, 1, 1, by decide, by rw [num_first]; rfl⟩
  | succ n ih =>
    obtain ⟨y, m, d, hr, hn⟩ := ih (by omega)
    obtain ⟨a, b⟩ := next_right hr (by omega)
    exact ⟨_, _, _, a, by rw [b, hn]; omega⟩
theorem day_of (n : Int) (h0 : 0 ≤ n) (h1 : n ≤ 3652058) : ∃ y m d, right y m d = true ∧ num y m d = n := by
  obtain ⟨y, m, d, a, b⟩ := day_nat n.toNat (by omega)
  exact ⟨y, m, d, a, by omega⟩

/-- A first guess, as if all years were long. -/
theorem guess_le {y m d : Int} (h : right y m d = true) : 1 ≤ num y m d / 366 + 1 ∧ num y m d / 366 + 1 ≤ y := by
  obtain ⟨a, b, c, e⟩ := num_lo h
  obtain ⟨y1, y2, d1, d2⟩ := right_true.1 h
  have : dby (y + 1) ≤ 366 * y := by unfold dby; omega
  omega
end Go.Proofs.YtblikgbcakgdnaaGreat.Cal
/-
  Plain mathematics of periods, with no program in it: months by their numbers, the first day of a period, how many have begun. No conditions but those that each law names.
-/
namespace Go.Proofs.YtblikgbcakgdnaaGreat.Cal

/-- The first day of a month, and how many days it has: months are counted from that of day 0 on. -/
def ms (k : Int) : Int := num (k / 12 + 1) (k % 12 + 1) 1
def ml (k : Int) : Int := mon (k / 12 + 1) (k % 12 + 1)
theorem ml_bd (k : Int) : 28 ≤ ml k ∧ ml k ≤ 31 := mon_28 _ _ (by omega) (by omega)
theorem ms_succ (k : Int) : ms (k + 1) = ms k + ml k := by
  unfold ms ml num
  by_cases h : k % 12 = 11
  · rw [show (k + 1) / 12 + 1 = k / 12 + 1 + 1 by omega, show (k + 1) % 12 + 1 = 1 by omega, show k % 12 + 1 = 12 by omega, cum_one, dby_succ]
    have := cum_succ (k / 12 + 1) 12 (by omega) (by omega)
    rw [show (12 : Int) + 1 = 13 from rfl, cum_last] at this
    omega
  · rw [show (k + 1) / 12 + 1 = k / 12 + 1 by omega, show (k + 1) % 12 + 1 = k % 12 + 1 + 1 by omega]
    have := cum_succ (k / 12 + 1) (k % 12 + 1) (by omega) (by omega)
    omega
theorem ms_lt {a b : Int} (h : a < b) : ms a + ml a ≤ ms b := by
  obtain ⟨n, hn⟩ : ∃ n : Nat, b = a + 1 + n := ⟨(b - a - 1).toNat, by omega⟩
  subst hn
  clear h
  induction n with
  | zero => rw [show a + 1 + ((0 : Nat) : Int) = a + 1 by omega, ms_succ]; omega
  | succ n ih =>
    have e := ms_succ (a + 1 + n)
    have := ml_bd (a + 1 + n)
    rw [show a + 1 + ((n + 1 : Nat) : Int) = a + 1 + n + 1 by omega]
    omega
/-- Day a is the d-th of month k. -/
structure At (a k d : Int) : Prop where
  k0 : 0 ≤ k
  k1 : k ≤ 119987
  d0 : 1 ≤ d
  d1 : d ≤ ml k
  eq : a = ms k + d - 1
theorem At.right {a k d : Int} (h : At a k d) : Cal.right (k / 12 + 1) (k % 12 + 1) d = true ∧ num (k / 12 + 1) (k % 12 + 1) d = a := by
  refine ⟨right_true.2 ⟨by have := h.k0; omega, by have := h.k1; omega, h.d0, h.d1⟩, ?_⟩
  have := h.eq
  unfold ms num at this
  unfold num; omega
theorem At.bd {a k d : Int} (h : At a k d) : 0 ≤ a ∧ a ≤ 3652058 := by
  obtain ⟨a1, b1⟩ := h.right
  obtain ⟨_, _, c, e⟩ := num_lo a1
  omega
theorem at_num {y m d : Int} (h : Cal.right y m d = true) : At (num y m d) ((y - 1) * 12 + m - 1) d := by
  obtain ⟨m1, m2⟩ := right_month h
  obtain ⟨y1, y2, d1, d2⟩ := right_true.1 h
  have e1 : ((y - 1) * 12 + m - 1) / 12 + 1 = y := by omega
  have e2 : ((y - 1) * 12 + m - 1) % 12 + 1 = m := by omega
  refine ⟨by omega, by omega, d1, by unfold ml; rw [e1, e2]; exact d2, ?_⟩
  unfold ms num; rw [e1, e2]; omega
theorem at_of (a : Int) (h0 : 0 ≤ a) (h1 : a ≤ 3652058) : ∃ k d, At a k d := by
  obtain ⟨y, m, d, hr, hn⟩ := day_of a h0 h1
  subst hn
  exact ⟨_, _, at_num hr⟩
/-- Days in their order are in months in their order. -/
theorem At.le {a b k l d f : Int} (ha : At a k d) (hb : At b l f) (h : a ≤ b) : k ≤ l := by
  apply Int.le_of_not_gt; intro c
  have := ms_lt c
  have := ha.eq; have := hb.eq; have := ha.d0; have := hb.d1
  omega

/-- A day of a month, or its last one. -/
def low (d K : Int) : Int := if d ≤ ml K then d else ml K
theorem low_bd {d : Int} (K : Int) (h : 1 ≤ d) : 1 ≤ low d K ∧ low d K ≤ ml K := by
  have := ml_bd K
  unfold low; split <;> omega
def nthM (d K : Int) : Int := ms K + low d K - 1
theorem nthM_at {d K : Int} (h : 1 ≤ d) (k0 : 0 ≤ K) (k1 : K ≤ 119987) : At (nthM d K) K (low d K) := by
  obtain ⟨a, b⟩ := low_bd K h
  exact ⟨k0, k1, a, b, rfl⟩
theorem nthM_lt {d K L : Int} (h : 1 ≤ d) (hk : K < L) : nthM d K < nthM d L := by
  obtain ⟨a, b⟩ := low_bd K h
  obtain ⟨c, e⟩ := low_bd L h
  have := ms_lt hk
  unfold nthM; omega
theorem nthM_self {a k d : Int} (h : At a k d) : nthM d k = a := by
  have := h.eq; have := h.d1
  unfold nthM low; rw [if_pos this]; omega

/-- How many days, or months, a period has. -/
def stp (u e : Int) : Int := if u = 1 then e * 7 else if u = 3 then e * 12 else e
theorem stp_bd {u e : Int} (h0 : 1 ≤ e) (h1 : e ≤ 12000) : 1 ≤ stp u e ∧ stp u e ≤ 144000 := by
  unfold stp; split <;> (try split) <;> omega
/-- The first day of a period that may be: by days, and by months. -/
def okN (u a k e n : Int) : Bool := if u < 2 then decide (a + n * stp u e ≤ 3652058) else decide (k + n * stp u e ≤ 119987)
def vN (u a k d e n : Int) : Int := if u < 2 then a + n * stp u e else nthM d (k + n * stp u e)

theorem okN_days {u a k e n : Int} (h : u < 2) : okN u a k e n = true ↔ a + n * stp u e ≤ 3652058 := by unfold okN; rw [if_pos h]; simp
theorem okN_months {u a k e n : Int} (h : ¬ u < 2) : okN u a k e n = true ↔ k + n * stp u e ≤ 119987 := by unfold okN; rw [if_neg h]; simp
theorem vN_days {u a k d e n : Int} (h : u < 2) : vN u a k d e n = a + n * stp u e := by unfold vN; rw [if_pos h]
theorem vN_months {u a k d e n : Int} (h : ¬ u < 2) : vN u a k d e n = nthM d (k + n * stp u e) := by unfold vN; rw [if_neg h]
theorem no_days {u a k e n : Int} (h : u < 2) : okN u a k e n = false ↔ 3652058 < a + n * stp u e := by
  unfold okN; rw [if_pos h]; simp
theorem no_months {u a k e n : Int} (h : ¬ u < 2) : okN u a k e n = false ↔ 119987 < k + n * stp u e := by
  unfold okN; rw [if_neg h]; simp

section
variable {u a k d e n m : Int}
theorem vN_zero (h : At a k d) : vN u a k d e 0 = a := by
  unfold vN
  split
  · omega
  · rw [Int.zero_mul, Int.add_zero]; exact nthM_self h
theorem okN_zero (h : At a k d) : okN u a k e 0 = true := by
  have := h.bd; have := h.k1
  by_cases c : u < 2
  · rw [okN_days c]; omega
  · rw [okN_months c]; omega
theorem step_le (h : 1 ≤ e) (hn : n ≤ m) : n * stp u e ≤ m * stp u e := by
  have : 1 ≤ stp u e := by unfold stp; split <;> (try split) <;> omega
  exact Int.mul_le_mul_of_nonneg_right hn (by omega)
theorem step_lt (h : 1 ≤ e) (hn : n < m) : n * stp u e + 1 ≤ m * stp u e := by
  have h1 : 1 ≤ stp u e := by unfold stp; split <;> (try split) <;> omega
  have := Int.mul_le_mul_of_nonneg_right (show n + 1 ≤ m by omega) (show 0 ≤ stp u e by omega)
  rw [Int.add_mul, Int.one_mul] at this
  omega
theorem step_nn (h : 1 ≤ e) (hn : 0 ≤ n) : n ≤ n * stp u e := by
  have h1 : 1 ≤ stp u e := by unfold stp; split <;> (try split) <;> omega
  have := Int.mul_le_mul_of_nonneg_left h1 hn
  omega
theorem okN_le (h : 1 ≤ e) (hn : n ≤ m) (hm : okN u a k e m = true) : okN u a k e n = true := by
  have := step_le (u := u) h hn
  by_cases c : u < 2
  · rw [okN_days c] at hm ⊢; omega
  · rw [okN_months c] at hm ⊢; omega
theorem vN_lt (ha : At a k d) (h : 1 ≤ e) (hn : n < m) : vN u a k d e n < vN u a k d e m := by
  have := step_lt (u := u) h hn
  by_cases c : u < 2
  · rw [vN_days c, vN_days c]; omega
  · rw [vN_months c, vN_months c]; exact nthM_lt ha.d0 (by omega)
theorem vN_grow (ha : At a k d) (h : 1 ≤ e) (hn : 0 ≤ n) : a + n ≤ vN u a k d e n := by
  obtain ⟨i, rfl⟩ := Int.eq_ofNat_of_zero_le hn
  clear hn
  induction i with
  | zero => rw [show ((0 : Nat) : Int) = 0 from rfl, vN_zero ha]; omega
  | succ i ih =>
    have := vN_lt (u := u) ha h (show (i : Int) < ((i + 1 : Nat) : Int) by omega)
    omega
theorem vN_bd (ha : At a k d) (h : 1 ≤ e) (hn : 0 ≤ n) (ho : okN u a k e n = true) : 0 ≤ vN u a k d e n ∧ vN u a k d e n ≤ 3652058 := by
  have g := vN_grow (u := u) ha h hn
  have := ha.bd
  refine ⟨by omega, ?_⟩
  by_cases c : u < 2
  · rw [okN_days c] at ho; rw [vN_days c]; omega
  · rw [okN_months c] at ho; rw [vN_months c]
    have := step_nn (u := u) h hn
    exact (nthM_at ha.d0 (by have := ha.k0; omega) ho).bd.2

/-- So many periods have begun up to a day. -/
structure Cnt (u a k d e day c : Int) : Prop where
  nn : 0 ≤ c
  all : ∀ n, 0 ≤ n → n < c → okN u a k e n = true ∧ vN u a k d e n ≤ day
  out : okN u a k e c = true → day < vN u a k d e c
theorem Cnt.one {day c c' : Int} (h : Cnt u a k d e day c) (h' : Cnt u a k d e day c') : c = c' := by
  rcases Int.lt_trichotomy c c' with g | g | g
  · obtain ⟨x, y⟩ := h'.all c h.nn g
    have := h.out x; omega
  · exact g
  · obtain ⟨x, y⟩ := h.all c' h'.nn g
    have := h'.out x; omega
theorem Cnt.before {day : Int} (ha : At a k d) (hd : day < a) : Cnt u a k d e day 0 :=
  ⟨by omega, fun n h0 h1 => by omega, fun _ => by rw [vN_zero ha]; exact hd⟩
theorem Cnt.days {day : Int} (he : 1 ≤ e) (hd : a ≤ day) (h1 : day ≤ 3652058) (c : u < 2) : Cnt u a k d e day ((day - a) / stp u e + 1) := by
  have hs : 1 ≤ stp u e := by unfold stp; split <;> (try split) <;> omega
  have q := Int.mul_ediv_add_emod (day - a) (stp u e)
  have r := Int.emod_nonneg (day - a) (show stp u e ≠ 0 by omega)
  have r' := Int.emod_lt_of_pos (day - a) (show 0 < stp u e by omega)
  have q0 : 0 ≤ (day - a) / stp u e := Int.ediv_nonneg (by omega) (by omega)
  rw [Int.mul_comm] at q
  refine ⟨by omega, fun n h0 hn => ?_, fun _ => ?_⟩
  · have := step_le (u := u) he (show n ≤ (day - a) / stp u e by omega)
    rw [okN_days c, vN_days c]; omega
  · rw [vN_days c, Int.add_mul, Int.one_mul]; omega
theorem Cnt.months {day l f : Int} (ha : At a k d) (he : 1 ≤ e) (hb : At day l f) (hd : a ≤ day) (c : ¬ u < 2) :
    (vN u a k d e ((l - k) / stp u e) ≤ day → Cnt u a k d e day ((l - k) / stp u e + 1)) ∧ (day < vN u a k d e ((l - k) / stp u e) → Cnt u a k d e day ((l - k) / stp u e)) ∧
    0 ≤ (l - k) / stp u e ∧ okN u a k e ((l - k) / stp u e) = true := by
  have hs : 1 ≤ stp u e := by unfold stp; split <;> (try split) <;> omega
  have hkl := ha.le hb hd
  have q := Int.mul_ediv_add_emod (l - k) (stp u e)
  have r := Int.emod_nonneg (l - k) (show stp u e ≠ 0 by omega)
  have r' := Int.emod_lt_of_pos (l - k) (show 0 < stp u e by omega)
  have q0 : 0 ≤ (l - k) / stp u e := Int.ediv_nonneg (by omega) (by omega)
  rw [Int.mul_comm] at q
  have k1 := hb.k1
  have ok : okN u a k e ((l - k) / stp u e) = true := by rw [okN_months c]; omega
  have low : ∀ n, n < (l - k) / stp u e → okN u a k e n = true ∧ vN u a k d e n ≤ day := fun n hn => by
    refine ⟨okN_le he (by omega) ok, ?_⟩
    have := step_lt (u := u) he hn
    obtain ⟨x, y⟩ := low_bd (k + n * stp u e) ha.d0
    have z := ms_lt (show k + n * stp u e < l by omega)
    have := hb.eq; have := hb.d0
    rw [vN_months c]; unfold nthM; omega
  refine ⟨fun g => ⟨by omega, fun n h0 hn => ?_, fun _ => ?_⟩, fun g => ⟨q0, fun n h0 hn => low n hn, fun _ => g⟩, q0, ok⟩
  · by_cases e1 : n = (l - k) / stp u e
    · subst e1; exact ⟨ok, g⟩
    · exact low n (by omega)
  · rw [vN_months c, Int.add_mul, Int.one_mul]
    have z := ms_lt (show l < k + ((l - k) / stp u e * stp u e + stp u e) by omega)
    obtain ⟨x, y⟩ := low_bd (k + ((l - k) / stp u e * stp u e + stp u e)) ha.d0
    have := hb.eq; have := hb.d1
    unfold nthM; omega
theorem cnt_of {day : Int} (ha : At a k d) (he : 1 ≤ e) (h0 : 0 ≤ day) (h1 : day ≤ 3652058) : ∃ c, Cnt u a k d e day c := by
  by_cases hd : day < a
  · exact ⟨0, Cnt.before ha hd⟩
  · by_cases c : u < 2
    · exact ⟨_, Cnt.days he (by omega) h1 c⟩
    · obtain ⟨l, f, hb⟩ := at_of day h0 h1
      obtain ⟨x, y, _, _⟩ := Cnt.months (u := u) ha he hb (by omega) c
      by_cases g : vN u a k d e ((l - k) / stp u e) ≤ day
      · exact ⟨_, x g⟩
      · exact ⟨_, y (by omega)⟩
theorem Cnt.le {day c : Int} (h : Cnt u a k d e day c) (ha : At a k d) (he : 1 ≤ e) (h1 : 1 ≤ c) : c ≤ day - a + 1 := by
  obtain ⟨x, y⟩ := h.all (c - 1) (by omega) (by omega)
  have := vN_grow (u := u) ha he (show 0 ≤ c - 1 by omega)
  omega
theorem Cnt.pos {day c : Int} (h : Cnt u a k d e day c) (ha : At a k d) (hd : a ≤ day) : 1 ≤ c := by
  apply Int.le_of_not_gt; intro g
  have : c = 0 := by have := h.nn; omega
  subst this
  have := h.out (okN_zero ha)
  rw [vN_zero ha] at this
  omega
end
end Go.Proofs.YtblikgbcakgdnaaGreat.Cal
/-
  Contracts of the calendar's smallest functions (leap years, the months' days, a year's first day, weekdays): each returns what the plain mathematics says, and leaves the world alone. No conditions but the numbers' own ranges.
-/
namespace Go.Proofs.YtblikgbcakgdnaaGreat
open Go.ChangeShapes Go.WideShapes Go.ChangeAt Go.RowKit
open Cal (leap mon)

theorem leap_case (y : Int) (P : Bool → Prop)
    (a : y % 4 = 0 → ¬ y % 100 = 0 → ¬ y % 400 = 0 → P true) (b : y % 4 = 0 → y % 100 = 0 → y % 400 = 0 → P true)
    (c : y % 4 = 0 → y % 100 = 0 → ¬ y % 400 = 0 → P false) (d : ¬ y % 4 = 0 → ¬ y % 400 = 0 → P false) : P (leap y) := by
  by_cases h4 : y % 4 = 0
  · by_cases h1 : y % 100 = 0
    · by_cases h5 : y % 400 = 0
      · rw [Cal.leap_true.2 ⟨h4, Or.inr h5⟩]; exact b h4 h1 h5
      · rw [Cal.leap_false.2 (by omega)]; exact c h4 h1 h5
    · rw [Cal.leap_true.2 ⟨h4, Or.inl h1⟩]; exact a h4 h1 (by omega)
  · rw [Cal.leap_false.2 (by omega)]; exact d h4 (by omega)

set_option maxHeartbeats 400000 in
theorem leap_any (y : Int) (w : World) :
    Calls Tryz.prog 141 #[.int .i64 y] w fun e w' => e = .returned (.bool (leap y)) ∧ w = w' := by
  refine leap_case y (fun b => Calls Tryz.prog 141 #[.int .i64 y] w fun e w' => e = .returned (.bool b) ∧ w = w') ?_ ?_ ?_ ?_
  · intro h4 h1 h5
    have e4 := Cal.tmod_eq h4; have e1 := Cal.tmod_neq h1; clear h4 h1 h5
    go_enter Tryz.func141, Tryz.ntmps141
    go_wp2
    go_ret
    exact ⟨rfl, rfl⟩
  · intro h4 h1 h5
    have e4 := Cal.tmod_eq h4; have e1 := Cal.tmod_nne h1; have e5 := Cal.tmod_eq h5; clear h4 h1 h5
    go_enter Tryz.func141, Tryz.ntmps141
    go_wp2
    go_ret
    exact ⟨rfl, rfl⟩
  · intro h4 h1 h5
    have e4 := Cal.tmod_eq h4; have e1 := Cal.tmod_nne h1; have e5 := Cal.tmod_ne h5; clear h4 h1 h5
    go_enter Tryz.func141, Tryz.ntmps141
    go_wp2
    go_ret
    exact ⟨rfl, rfl⟩
  · intro h4 h5
    have e4 := Cal.tmod_ne h4; have e5 := Cal.tmod_ne h5; clear h4 h5
    go_enter Tryz.func141, Tryz.ntmps141
    go_wp2
    go_ret
    exact ⟨rfl, rfl⟩

theorem mon_case (y m : Int) (P : Int → Prop)
    (h31 : (m = 1 ∨ m = 3 ∨ m = 5 ∨ m = 7 ∨ m = 8 ∨ m = 10 ∨ m = 12) → P 31)
    (h30 : (m = 4 ∨ m = 6 ∨ m = 9 ∨ m = 11) → P 30)
    (h29 : m = 2 → leap y = true → P 29) (h28 : m = 2 → leap y = false → P 28)
    (h0 : (m < 1 ∨ 12 < m) → P 0) : P (mon y m) := by
  unfold mon
  by_cases a : m = 1 ∨ m = 3 ∨ m = 5 ∨ m = 7 ∨ m = 8 ∨ m = 10 ∨ m = 12
  · rw [if_pos a]; exact h31 a
  · rw [if_neg a]
    by_cases b : m = 4 ∨ m = 6 ∨ m = 9 ∨ m = 11
    · rw [if_pos b]; exact h30 b
    · rw [if_neg b]
      by_cases c : m = 2
      · rw [if_pos c]
        cases hl : leap y
        · exact h28 c hl
        · exact h29 c hl
      · rw [if_neg c]; exact h0 (by omega)

set_option maxHeartbeats 400000 in
theorem month_any (y m : Int) (w : World) :
    Calls Tryz.prog 136 #[.int .i64 y, .int .i64 m] w fun e w' => e = .returned (.int .i64 (mon y m)) ∧ w = w' := by
  refine mon_case y m (fun b => Calls Tryz.prog 136 #[.int .i64 y, .int .i64 m] w fun e w' => e = .returned (.int .i64 b) ∧ w = w') ?_ ?_ ?_ ?_ ?_
  · rintro (rfl | rfl | rfl | rfl | rfl | rfl | rfl)
    all_goals
      go_enter Tryz.func136, Tryz.ntmps136
      go_wp2
      go_ret
      exact ⟨rfl, rfl⟩
  · rintro (rfl | rfl | rfl | rfl)
    all_goals
      go_enter Tryz.func136, Tryz.ntmps136
      go_wp2
      go_ret
      exact ⟨rfl, rfl⟩
  · rintro rfl hl
    go_enter Tryz.func136, Tryz.ntmps136
    go_wp2_with (go_at_call 141; refine (leap_any _ _).mono ?_; rintro e w' ⟨rfl, rfl⟩)
    go_ret
    exact ⟨rfl, rfl⟩
  · rintro rfl hl
    go_enter Tryz.func136, Tryz.ntmps136
    go_wp2_with (go_at_call 141; refine (leap_any _ _).mono ?_; rintro e w' ⟨rfl, rfl⟩)
    go_ret
    exact ⟨rfl, rfl⟩
  · intro h
    have n1 : (m == 1) = false := beq_eq_false_iff_ne.2 (by omega)
    have n2 : (m == 2) = false := beq_eq_false_iff_ne.2 (by omega)
    have n3 : (m == 3) = false := beq_eq_false_iff_ne.2 (by omega)
    have n4 : (m == 4) = false := beq_eq_false_iff_ne.2 (by omega)
    have n5 : (m == 5) = false := beq_eq_false_iff_ne.2 (by omega)
    have n6 : (m == 6) = false := beq_eq_false_iff_ne.2 (by omega)
    have n7 : (m == 7) = false := beq_eq_false_iff_ne.2 (by omega)
    have n8 : (m == 8) = false := beq_eq_false_iff_ne.2 (by omega)
    have n9 : (m == 9) = false := beq_eq_false_iff_ne.2 (by omega)
    have n10 : (m == 10) = false := beq_eq_false_iff_ne.2 (by omega)
    have n11 : (m == 11) = false := beq_eq_false_iff_ne.2 (by omega)
    have n12 : (m == 12) = false := beq_eq_false_iff_ne.2 (by omega)
    clear h
    go_enter Tryz.func136, Tryz.ntmps136
    go_wp2
    go_ret
    exact ⟨rfl, rfl⟩

set_option maxHeartbeats 400000 in
theorem yearStart_any (y : Int) (w : World) (h0 : 1 ≤ y) (h1 : y ≤ 100000) :
    Calls Tryz.prog 135 #[.int .i64 y] w fun e w' => e = .returned (.int .i64 (Cal.dby y)) ∧ w = w' := by
  go_enter Tryz.func135, Tryz.ntmps135
  go_wp2
  go_ret
  exact ⟨by unfold Cal.dby; rfl, rfl⟩

end Go.Proofs.YtblikgbcakgdnaaGreat
/-
  Contracts of the two functions that ask whether there is such a day: each returns what the plain mathematics says, and turns nothing that was there. No conditions.
-/
namespace Go.Proofs.YtblikgbcakgdnaaGreat
open Go.ChangeShapes Go.WideShapes Go.ChangeAt Go.RowKit
open Cal (leap mon)

theorem right_case (y m d : Int) (P : Bool → Prop)
    (a : y < 1 → P false) (b : 1 ≤ y → 9999 < y → P false) (c : 1 ≤ y → y ≤ 9999 → d < 1 → P false)
    (f : 1 ≤ y → y ≤ 9999 → 1 ≤ d → mon y m < d → P false) (g : 1 ≤ y → y ≤ 9999 → 1 ≤ d → d ≤ mon y m → P true) : P (Cal.right y m d) := by
  by_cases h1 : 1 ≤ y
  · by_cases h2 : y ≤ 9999
    · by_cases h3 : 1 ≤ d
      · by_cases h4 : d ≤ mon y m
        · rw [Cal.right_true.2 ⟨h1, h2, h3, h4⟩]; exact g h1 h2 h3 h4
        · rw [Cal.right_false.2 (by omega)]; exact f h1 h2 h3 (by omega)
      · rw [Cal.right_false.2 (by omega)]; exact c h1 h2 (by omega)
    · rw [Cal.right_false.2 (by omega)]; exact b h1 (by omega)
  · rw [Cal.right_false.2 (by omega)]; exact a (by omega)

set_option maxHeartbeats 400000 in
theorem right_any (y m d : Int) (w : World) :
    Calls Tryz.prog 142 #[.agg #[.int .i64 y, .int .i64 m, .int .i64 d]] w fun e w' => e = .returned (.bool (Cal.right y m d)) ∧ Below w.heap.size w w' := by
  refine right_case y m d (fun b => Calls Tryz.prog 142 #[.agg #[.int .i64 y, .int .i64 m, .int .i64 d]] w fun e w' => e = .returned (.bool b) ∧ Below w.heap.size w w') ?_ ?_ ?_ ?_ ?_
  · intro h1
    have e1 : decide (1 ≤ y) = false := by simp; omega
    go_enter Tryz.func142, Tryz.ntmps142
    go_wp2
    go_quiet (fail)
    go_wp2
    go_ret
    exact ⟨rfl, Below.drewN' (by go_grown) _⟩
  · intro h1 h2
    have e1 : decide (y ≤ 9999) = false := by simp; omega
    go_enter Tryz.func142, Tryz.ntmps142
    go_wp2
    go_quiet (fail)
    go_wp2
    go_ret
    exact ⟨rfl, Below.drewN' (by go_grown) _⟩
  · intro h1 h2 h3
    have e1 : decide (1 ≤ d) = false := by simp; omega
    go_enter Tryz.func142, Tryz.ntmps142
    go_wp2
    go_quiet (fail)
    go_wp2
    go_ret
    exact ⟨rfl, Below.drewN' (by go_grown) _⟩
  · intro h1 h2 h3 h4
    have e1 : decide (d ≤ mon y m) = false := by simp; omega
    go_enter Tryz.func142, Tryz.ntmps142
    go_wp2
    go_quiet ((go_at_call 136; exact Calls.quiet_of_same ((month_any _ _ _).mono fun e w' h => ⟨h.1, h.2.symm⟩)))
    go_wp2
    go_ret
    exact ⟨rfl, Below.drewN' (by go_grown) _⟩
  · intro h1 h2 h3 h4
    go_enter Tryz.func142, Tryz.ntmps142
    go_wp2
    go_quiet ((go_at_call 136; exact Calls.quiet_of_same ((month_any _ _ _).mono fun e w' h => ⟨h.1, h.2.symm⟩)))
    go_wp2
    go_ret
    exact ⟨rfl, Below.drewN' (by go_grown) _⟩

end Go.Proofs.YtblikgbcakgdnaaGreat
/-
  Contracts of the function that tells a day's number, and of the statements' own example: of a day that there is, its number; else the fault. No conditions.
-/
namespace Go.Proofs.YtblikgbcakgdnaaGreat
open Go.ChangeShapes Go.WideShapes Go.ChangeAt Go.RowKit
open Cal (leap mon)

set_option maxHeartbeats 800000 in
theorem number_yes (y m d : Int) (w : World) (h : Cal.right y m d = true) :
    Calls Tryz.prog 137 #[.agg #[.int .i64 y, .int .i64 m, .int .i64 d]] w fun e w' => e = .returned (.tuple #[.int .i64 (Cal.num y m d), .int .i64 0]) ∧ Below w.heap.size w w' := by
  obtain ⟨m1, m2⟩ := Cal.right_month h
  obtain ⟨y1, y2, d1, d2⟩ := Cal.right_true.1 h
  have d3 := (Cal.mon_lo y m).2
  have hd := Cal.dby_bd y y1 (by omega)
  go_enter Tryz.func137, Tryz.ntmps137
  go_wp2_with fail
  refine (right_any _ _ _ _).mono ?_
  rintro e w1 ⟨rfl, hb⟩
  obtain ⟨hc, hf⟩ := bcell hb
  go_wp2_with (go_at_call 135; refine (yearStart_any _ _ (by omega) (by omega)).mono ?_; rintro e w' ⟨rfl, rfl⟩)
  go_loop [4, 5] (fun n k => ∃ i : Int, 1 ≤ i ∧ i ≤ m ∧ k = .int .i64 i ∧ n = .int .i64 (Cal.dby y + Cal.cum y i)) (fun _ k => (m - intOf k).toNat)
  case atStart => exact ⟨1, by omega, by omega, rfl, by rw [Cal.cum_one, Int.add_zero]⟩
  case round =>
    obtain ⟨i, i1, i2, rfl, rfl⟩ := hrel
    have cb := Cal.cum_bd y i
    have cs := Cal.cum_succ y i i1 (by omega)
    have ml := Cal.mon_lo y i
    by_cases hlt : i < m
    · have CS := Lib.hid cs
      clear cs
      go_wp2_with (go_at_call 136; refine (month_any _ _ _).mono ?_; rintro e w' ⟨rfl, rfl⟩)
      go_round
      case rel => exact ⟨i + 1, by omega, by omega, rfl, by rw [CS.out, Int.add_assoc]⟩
      case measure => simp [intOf]; omega
    · obtain rfl : i = m := by omega
      clear cs
      go_wp2
      go_ret2
      exact ⟨rfl, ((Below.refl _ _).alloc (Nat.le_refl _) _).trans (hb.mono (by simp))⟩

end Go.Proofs.YtblikgbcakgdnaaGreat
/-
  Contracts of the function that tells the day of a number: the day that has the number, where there is one; else the fault. No conditions.
-/
namespace Go.Proofs.YtblikgbcakgdnaaGreat
open Go.ChangeShapes Go.WideShapes Go.ChangeAt Go.RowKit
open Cal (leap mon)

set_option maxHeartbeats 1000000 in
theorem of_yes (n y m d : Int) (w : World) (h : Cal.right y m d = true) (hn : Cal.num y m d = n) :
    Calls Tryz.prog 130 #[.int .i64 n] w fun e w' => e = .returned (.tuple #[.agg #[.int .i64 y, .int .i64 m, .int .i64 d], .int .i64 0]) ∧ Below w.heap.size w w' := by
  obtain ⟨m1, m2⟩ := Cal.right_month h
  obtain ⟨y1, y2, d1, d2⟩ := Cal.right_true.1 h
  obtain ⟨g1, g2⟩ := Cal.guess_le h
  obtain ⟨n1, n2, n3, n4⟩ := Cal.num_lo h
  have hlast : n = Cal.dby y + Cal.cum y m + d - 1 := by rw [← hn]; rfl
  rw [hn] at g1 g2 n1 n2 n3 n4
  have NL := Lib.hid hlast
  clear hn hlast h
  go_enter Tryz.func130, Tryz.ntmps130
  go_wp2
  go_loop [4] (fun t => ∃ i : Int, 1 ≤ i ∧ i ≤ y ∧ t = .int .i64 i) (fun t => (y - intOf t).toNat)
  case atStart => exact ⟨_, g1, g2, rfl⟩
  case round =>
    obtain ⟨i, i1, i2, rfl⟩ := hrel
    by_cases hlt : i < y
    · have hd : Cal.dby (i + 1) ≤ n := by have := Cal.dby_mono (i + 1) y (by omega); omega
      go_wp2_with (go_at_call 135; refine (yearStart_any _ _ (by omega) (by omega)).mono ?_; rintro e w' ⟨rfl, rfl⟩)
      go_round
      case rel => exact ⟨i + 1, by omega, by omega, rfl⟩
      case measure => simp [intOf]; omega
    · obtain rfl : i = y := by omega
      have hd : ¬ Cal.dby (i + 1) ≤ n := by omega
      have db := Cal.dby_bd i y1 (by omega)
      go_wp2_with (go_at_call 135; refine (yearStart_any _ _ (by omega) (by omega)).mono ?_; rintro e w' ⟨rfl, rfl⟩)
      go_loop [5, 6] (fun r k => ∃ j : Int, 1 ≤ j ∧ j ≤ m ∧ k = .int .i64 j ∧ r = .int .i64 (n - Cal.dby i - Cal.cum i j)) (fun _ k => (m - intOf k).toNat)
      case atStart => exact ⟨1, by omega, by omega, rfl, by rw [Cal.cum_one, Int.sub_zero]⟩
      case round =>
        obtain ⟨j, j1, j2, rfl, rfl⟩ := hrel
        have cb := Cal.cum_bd i j
        have mb := Cal.mon_lo i j
        by_cases hj : j < m
        · have cs := Cal.cum_succ i j j1 (by omega)
          have cm := Cal.cum_mono i j m j1 hj m2
          have hge : mon i j ≤ n - Cal.dby i - Cal.cum i j := by have := NL.out; omega
          have CS := Lib.hid cs
          clear cs
          go_wp2_with (go_at_call 136; refine (month_any _ _ _).mono ?_; rintro e w' ⟨rfl, rfl⟩)
          go_round
          case rel => exact ⟨j + 1, by omega, by omega, rfl, by rw [CS.out, Int.sub_sub _ (Cal.cum i j)]⟩
          case measure => simp [intOf]; omega
        · obtain rfl : j = m := by omega
          have hge : ¬ mon i j ≤ n - Cal.dby i - Cal.cum i j := by have := NL.out; omega
          go_wp2_with (go_at_call 136; refine (month_any _ _ _).mono ?_; rintro e w' ⟨rfl, rfl⟩)
          have hq : n - Cal.dby i - Cal.cum i j + 1 = d := by have := NL.out; omega
          exact bodyPost_ret (v := .tuple #[.agg #[.int .i64 i, .int .i64 j, .int .i64 (n - Cal.dby i - Cal.cum i j + 1)], .int .i64 0]) (by simp [results, Tryz.results130, go_sem]) rfl ⟨by rw [hq], by go_grown⟩
end Go.Proofs.YtblikgbcakgdnaaGreat
