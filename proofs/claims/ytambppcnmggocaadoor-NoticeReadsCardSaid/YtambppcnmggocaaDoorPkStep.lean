/-
  Numbers out of any box, whatever its bytes, with a fault or none: what is told, what is left; bytes that are read are just those of the numbers. No conditions.
-/
import Derived.Test.YtambppcnmggocaaDoorPkGet
namespace Go.Proofs.YtambppcnmggocaaDoor
set_option maxRecDepth 20000
open Go.ChangeShapes Go.WideShapes Go.ChangeAt Go.RowKit
namespace Pk
theorem zig_zag (u : Nat) : zig (zag u) = u := by unfold zig zag; split <;> split <;> omega
theorem dec_back (l : List Int) : ∀ (i a : Nat) (n : Int) (k : Nat), i ≤ 10 → a < 64 ^ i → (∀ x ∈ l, 0 ≤ x) → dec i a l = (n, k, 0) →
    ∃ u, (0 < i → 0 < u) ∧ a + u * 64 ^ i < 18446744073709551616 ∧ n = zag (a + u * 64 ^ i) ∧ k = i + (enc u).length ∧ l = enc u ++ l.drop (k - i) := by
  induction l with
  | nil => intro i a n k _ _ _ h; rw [dec_nil] at h; injection h with _ h; injection h with _ h; omega
  | cons c r ih =>
    intro i a n k hi ha h0 h
    have c0 := h0 c (by simp)
    cases hb : bad i c
    · have hg := of_good hb
      by_cases g : c < 64
      · rw [dec_last r hb g] at h
        injection h with h1 h2
        injection h2 with h2 _
        have e : take1 i a c = a + c.toNat * 64 ^ i := by unfold take1; congr 2; omega
        have hf := take1_fits hi c0 hb ha
        rw [e] at h1 hf
        refine ⟨c.toNat, by omega, hf, h1.symm, ?_, ?_⟩
        · rw [enc_less (by omega)]; simp; omega
        · rw [enc_less (by omega), show k - i = 1 by omega]
          simp; omega
      · rw [dec_next r hb g] at h
        have hi' : i ≠ 10 := by omega
        obtain ⟨u, hu, hf, hn, hk, hl⟩ := ih (i + 1) _ n k (by omega) (take1_lt (c := c) ha) (fun x hx => h0 x (by simp [hx])) h
        have hu := hu (by omega)
        have hc : c.toNat - 64 < 64 := by omega
        have he : ((u * 64 + (c.toNat - 64) : Nat) : Int) % 64 + 64 = c := by omega
        have hd : (u * 64 + (c.toNat - 64)) / 64 = u := by omega
        have hs : take1 i a c + u * 64 ^ (i + 1) = a + (u * 64 + (c.toNat - 64)) * 64 ^ i := by
          have := @enc_step i a (u * 64 + (c.toNat - 64))
          rw [he, hd] at this
          exact this
        refine ⟨u * 64 + (c.toNat - 64), by omega, by rw [← hs]; exact hf, by rw [← hs]; exact hn, ?_, ?_⟩
        · rw [enc_more (by omega), hd]; simp only [List.length_cons]; omega
        · rw [enc_more (by omega), hd, he, show k - i = (k - (i + 1)) + 1 by have := enc_pos u; omega, List.drop_succ_cons, List.cons_append, ← hl]
    · rw [dec_bad r hb] at h; injection h with _ h; injection h with _ h; omega
/-- Bytes that are read as a number begin with just its bytes. -/
theorem dec_canon {l : List Int} {n : Int} {k : Nat} (h0 : ∀ x ∈ l, 0 ≤ x) (h : dec 0 0 l = (n, k, 0)) : l = enc (zig n) ++ l.drop k ∧ k = (enc (zig n)).length := by
  obtain ⟨u, _, _, hn, hk, hl⟩ := dec_back l 0 0 n k (by omega) (by simp) h0 h
  simp only [Nat.zero_add, Nat.pow_zero, Nat.mul_one, Nat.sub_zero] at hn hk hl
  subst hn
  rw [zig_zag]
  exact ⟨hl, hk⟩
/-- A number out of a box: what is told, what is left, the fault behind it. -/
def step (lo hi : Int) (l : List Int) (f : Int) : Int × List Int × Int :=
  if f ≠ 0 then (0, l, f) else if (dec 0 0 l).2.2 ≠ 0 then (0, l, (dec 0 0 l).2.2) else if (dec 0 0 l).1 < lo ∨ hi < (dec 0 0 l).1 then (0, l, 1) else ((dec 0 0 l).1, l.drop (dec 0 0 l).2.1, 0)
def Step (lo hi : Int) (l : List Int) (f n : Int) (l' : List Int) (f' : Int) : Prop := step lo hi l f = (n, l', f')
theorem Step.fault {lo hi f n f' : Int} {l l' : List Int} (h : Step lo hi l f n l' f') (hf : f ≠ 0) : n = 0 ∧ l' = l ∧ f' = f := by
  unfold Step step at h
  rw [if_pos hf] at h
  injection h with h1 h2; injection h2 with h2 h3
  exact ⟨h1.symm, h2.symm, h3.symm⟩
theorem Step.ok {lo hi f n : Int} {l l' : List Int} (h : Step lo hi l f n l' 0) (h0 : ∀ x ∈ l, 0 ≤ x) : f = 0 ∧ lo ≤ n ∧ n ≤ hi ∧ l = enc (zig n) ++ l' := by
  unfold Step step at h
  split at h
  · next g => injection h with _ h; injection h with _ h; exact absurd h g
  next g =>
  split at h
  · next g' => injection h with _ h; injection h with _ h; exact absurd h g'
  next g' =>
  split at h
  · injection h with _ h; injection h with _ h; omega
  next g2 =>
    injection h with h1 h2; injection h2 with h2 _
    have hd : dec 0 0 l = (n, (dec 0 0 l).2.1, 0) := by rw [← h1]; have : (dec 0 0 l).2.2 = 0 := by omega
                                                        rw [← this]
    have hc := (dec_canon h0 hd).1
    refine ⟨by omega, by omega, by omega, ?_⟩
    rw [← h2]; exact hc
theorem Step.range {lo hi f n f' : Int} {l l' : List Int} (h : Step lo hi l f n l' f') (h0 : 0 ≤ lo) (h1 : 0 ≤ hi) : 0 ≤ n ∧ n ≤ hi := by
  unfold Step step at h
  split at h
  · injection h with h _; omega
  split at h
  · injection h with h _; omega
  split at h
  · injection h with h _; omega
  · injection h with h _; omega
theorem Step.go {lo hi n m f' : Int} {r l' : List Int} (h : Step lo hi (enc (zig n) ++ r) 0 m l' f') (n0 : -9223372036854775808 ≤ n) (n1 : n ≤ 9223372036854775807) (h0 : lo ≤ n) (h1 : n ≤ hi) : m = n ∧ l' = r ∧ f' = 0 := by
  unfold Step step at h
  rw [dec_zig n r n0 n1] at h
  simp only [ne_eq, not_true_eq_false, if_false, if_neg (show ¬ (n < lo ∨ hi < n) by omega), List.drop_left] at h
  injection h with h1 h2; injection h2 with h2 h3
  exact ⟨h1.symm, h2.symm, h3.symm⟩
theorem Step.mem {lo hi f n f' : Int} {l l' : List Int} (h : Step lo hi l f n l' f') : ∀ x ∈ l', x ∈ l := by
  unfold Step step at h
  split at h
  · injection h with _ h; injection h with h _; subst h; exact fun _ h => h
  split at h
  · injection h with _ h; injection h with h _; subst h; exact fun _ h => h
  split at h
  · injection h with _ h; injection h with h _; subst h; exact fun _ h => h
  · injection h with _ h; injection h with h _; subst h; exact fun _ h => List.mem_of_mem_drop h
end Pk
theorem GB.nn {w : World} {g : Nat} {l : List Int} {f : Int} (h : GB w g l f) : ∀ x ∈ l, 0 ≤ x := by
  obtain ⟨_, _, _, _, _, _, h3⟩ := h
  exact fun x hx => (h3 x hx).1
theorem GB.bytesOk {w : World} {g : Nat} {l : List Int} {f : Int} (h : GB w g l f) : ∀ x ∈ l, 0 ≤ x ∧ x < 256 := by
  obtain ⟨_, _, _, _, _, _, h3⟩ := h
  exact h3
theorem get_any (w : World) (g : Nat) (l : List Int) (f lo hi : Int) (h : GB w g l f) :
    Calls Tryd.prog 33 #[.pointer (some ⟨g, 0, none⟩), .int .i64 lo, .int .i64 hi] w (fun e w' => ∃ n l' f', e = .returned (.int .i64 n) ∧ Pk.Step lo hi l f n l' f' ∧ w.grownBy w' (some g) ∧ GB w' g l' f') := by
  by_cases hf : f ≠ 0
  · have hx := h
    obtain ⟨A, c, hx, _⟩ := hx
    refine (get_fault w g _ f lo hi hx hf).mono ?_
    rintro e w' ⟨rfl, rfl⟩
    exact ⟨0, l, f, rfl, by unfold Pk.Step Pk.step; rw [if_pos hf], World.grownBy.refl _ _, h⟩
  · obtain rfl : f = 0 := by omega
    by_cases hd : (Pk.dec 0 0 l).2.2 ≠ 0
    · refine (get_bad w g l lo hi (Pk.dec 0 0 l).1 (Pk.dec 0 0 l).2.2 (Pk.dec 0 0 l).2.1 h rfl hd).mono ?_
      rintro e w' ⟨rfl, hg, hb⟩
      exact ⟨0, l, _, rfl, by unfold Pk.Step Pk.step; rw [if_neg (by simp), if_pos hd], hg, hb⟩
    · have hq : Pk.dec 0 0 l = ((Pk.dec 0 0 l).1, (Pk.dec 0 0 l).2.1, 0) := by
        have : (Pk.dec 0 0 l).2.2 = 0 := by omega
        rw [← this]
      by_cases hr : (Pk.dec 0 0 l).1 < lo ∨ hi < (Pk.dec 0 0 l).1
      · refine (get_out w g l lo hi _ _ h hq hr).mono ?_
        rintro e w' ⟨rfl, hg, hb⟩
        exact ⟨0, l, 1, rfl, by unfold Pk.Step Pk.step; rw [if_neg (by simp), if_neg hd, if_pos hr], hg, hb⟩
      · refine (get_ok w g l lo hi _ _ h hq (by omega) (by omega)).mono ?_
        rintro e w' ⟨rfl, hg, hb⟩
        exact ⟨_, _, 0, rfl, by unfold Pk.Step Pk.step; rw [if_neg (by simp), if_neg hd, if_neg hr], hg, hb⟩
theorem end_any (w : World) (g : Nat) (l : List Int) (f : Int) (h : GB w g l f) :
    Calls Tryd.prog 20 #[.pointer (some ⟨g, 0, none⟩)] w (fun e w' => (∃ x, e = .returned (.int .i64 x) ∧ ((x = 0 ∧ f = 0 ∧ l = []) ∨ (x ≠ 0 ∧ (f ≠ 0 ∨ l ≠ [])))) ∧ w = w') := by
  obtain ⟨A, c, hx, _⟩ := h
  by_cases hf : f ≠ 0
  · refine (end_fault w g _ f hx hf).mono ?_
    rintro e w' ⟨rfl, rfl⟩
    exact ⟨⟨f, rfl, .inr ⟨hf, .inl hf⟩⟩, rfl⟩
  · obtain rfl : f = 0 := by omega
    refine (end_ok w g A _ c hx).mono ?_
    rintro e w' ⟨rfl, rfl⟩
    refine ⟨⟨_, rfl, ?_⟩, rfl⟩
    cases l with
    | nil => exact .inl ⟨rfl, rfl, rfl⟩
    | cons x r => exact .inr ⟨by simp, .inr (by simp)⟩
end Go.Proofs.YtambppcnmggocaaDoor
