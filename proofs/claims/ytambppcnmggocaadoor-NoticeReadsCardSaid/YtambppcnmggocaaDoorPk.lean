/-
  The mathematics of numbers as bytes: a number's doubled word, its groups of six bits, and the way back. No conditions but those that each law names. Imports nothing of the program.
-/
namespace Go.Proofs.YtambppcnmggocaaDoor.Pk

/-- The doubled word of a number, and the number of a word. -/
def zig (n : Int) : Nat := if 0 ≤ n then (2 * n).toNat else (-2 * n - 1).toNat
def zag (u : Nat) : Int := if u % 2 = 1 then -((u / 2 : Nat) : Int) - 1 else ((u / 2 : Nat) : Int)
theorem zag_zig (n : Int) : zag (zig n) = n := by unfold zag zig; split <;> split <;> omega
theorem zig_lt (n : Int) (h0 : -9223372036854775808 ≤ n) (h1 : n ≤ 9223372036854775807) : zig n < 18446744073709551616 := by unfold zig; split <;> omega
theorem zag_lt (u : Nat) (h : u < 18446744073709551616) : -9223372036854775808 ≤ zag u ∧ zag u ≤ 9223372036854775807 := by unfold zag; split <;> omega
theorem zig_even {n : Int} (h : 0 ≤ n) : (zig n : Int) = 2 * n := by unfold zig; rw [if_pos h]; omega
theorem zig_odd {n : Int} (h : n < 0) : (zig n : Int) = -2 * n - 1 := by unfold zig; rw [if_neg (by omega)]; omega

/-- The bytes of a word. -/
def enc (u : Nat) : List Int := if u < 64 then [(u : Int)] else ((u : Int) % 64 + 64) :: enc (u / 64)
termination_by u
decreasing_by omega
theorem enc_less {u : Nat} (h : u < 64) : enc u = [(u : Int)] := by rw [enc, if_pos h]
theorem enc_more {u : Nat} (h : ¬ u < 64) : enc u = ((u : Int) % 64 + 64) :: enc (u / 64) := by rw [enc, if_neg h]
def encs (ns : List Int) : List Int := ns.flatMap fun n => enc (zig n)
theorem encs_nil : encs [] = [] := rfl
theorem encs_cons (n : Int) (r : List Int) : encs (n :: r) = enc (zig n) ++ encs r := by unfold encs; rw [List.flatMap_cons]
theorem encs_append (a b : List Int) : encs (a ++ b) = encs a ++ encs b := by unfold encs; rw [List.flatMap_append]
theorem encs_one (n : Int) : encs [n] = enc (zig n) := by rw [encs_cons, encs_nil, List.append_nil]

theorem enc_pos (u : Nat) : 1 ≤ (enc u).length := by
  by_cases h : u < 64
  · rw [enc_less h]; simp
  · rw [enc_more h]; simp
theorem enc_range (u : Nat) : ∀ x ∈ enc u, 0 ≤ x ∧ x < 128 := by
  induction u using Nat.strongRecOn with
  | _ u ih =>
    intro x hx
    by_cases h : u < 64
    · rw [enc_less h] at hx; simp at hx; omega
    · rw [enc_more h] at hx
      rcases List.mem_cons.1 hx with rfl | hx
      · omega
      · exact ih (u / 64) (by omega) x hx
theorem encs_range (ns : List Int) : ∀ x ∈ encs ns, 0 ≤ x ∧ x < 128 := by
  intro x hx
  unfold encs at hx
  obtain ⟨n, _, hn⟩ := List.mem_flatMap.1 hx
  exact enc_range _ x hn
theorem enc_len (m : Nat) : ∀ u, u < 64 ^ (m + 1) → (enc u).length ≤ m + 1 := by
  induction m with
  | zero => intro u h; rw [enc_less (by simpa using h)]; simp
  | succ m ih =>
    intro u h
    by_cases g : u < 64
    · rw [enc_less g]; simp
    · rw [enc_more g]
      have := ih (u / 64) (by rw [Nat.pow_succ] at h; omega)
      simp; omega
theorem enc_eleven {u : Nat} (h : u < 18446744073709551616) : (enc u).length ≤ 11 := enc_len 10 u (by
  have e : 64 ^ (10 + 1) = 73786976294838206464 := by decide
  rw [e]; omega)
theorem enc_mono (u : Nat) : ∀ v, u ≤ v → (enc u).length ≤ (enc v).length := by
  induction u using Nat.strongRecOn with
  | _ u ih =>
    intro v hv
    by_cases h : u < 64
    · rw [enc_less h]; exact enc_pos v
    · rw [enc_more h, enc_more (u := v) (by omega)]
      have := ih (u / 64) (by omega) (v / 64) (by omega)
      simp; omega
theorem enc_one (u : Nat) : 1 < (enc u).length ↔ 64 ≤ u := by
  by_cases h : u < 64
  · rw [enc_less h]; simp; omega
  · rw [enc_more h]; have := enc_pos (u / 64); simp; omega
theorem encs_len (ns : List Int) (h : ∀ n ∈ ns, -9223372036854775808 ≤ n ∧ n ≤ 9223372036854775807) : (encs ns).length ≤ 11 * ns.length := by
  induction ns with
  | nil => simp [encs_nil]
  | cons n r ih =>
    rw [encs_cons, List.length_append, List.length_cons]
    have := ih fun m hm => h m (by simp [hm])
    have := h n (by simp)
    have := enc_eleven (zig_lt n (by omega) (by omega))
    omega

/-- A byte that may not stand at a place. -/
def bad (i : Nat) (c : Int) : Bool := decide (0 < i ∧ c = 0 ∨ 128 ≤ c ∨ i = 10 ∧ 16 ≤ c)
theorem bad_yes {i : Nat} {c : Int} (h : 0 < i ∧ c = 0 ∨ 128 ≤ c ∨ i = 10 ∧ 16 ≤ c) : bad i c = true := by unfold bad; exact decide_eq_true h
theorem bad_no {i : Nat} {c : Int} (h : ¬ (0 < i ∧ c = 0 ∨ 128 ≤ c ∨ i = 10 ∧ 16 ≤ c)) : bad i c = false := by unfold bad; exact decide_eq_false h
theorem of_bad {i : Nat} {c : Int} (h : bad i c = true) : 0 < i ∧ c = 0 ∨ 128 ≤ c ∨ i = 10 ∧ 16 ≤ c := by unfold bad at h; exact of_decide_eq_true h
theorem of_good {i : Nat} {c : Int} (h : bad i c = false) : ¬ (0 < i ∧ c = 0 ∨ 128 ≤ c ∨ i = 10 ∧ 16 ≤ c) := by unfold bad at h; exact of_decide_eq_false h

/-- What is taken in by a byte. -/
def take1 (i u : Nat) (c : Int) : Nat := u + (c % 64).toNat * 64 ^ i
/-- The number with which bytes begin, how many it has, and the fault: from place i on, with u ahead. -/
def dec (i u : Nat) : List Int → Int × Nat × Int
  | [] => (0, 0, 5)
  | c :: r => if bad i c = true then (0, 0, 4) else if c < 64 then (zag (take1 i u c), i + 1, 0) else dec (i + 1) (take1 i u c) r
theorem dec_nil (i u : Nat) : dec i u [] = (0, 0, 5) := rfl
theorem dec_bad {i u : Nat} {c : Int} (r : List Int) (h : bad i c = true) : dec i u (c :: r) = (0, 0, 4) := by rw [dec, if_pos h]
theorem dec_last {i u : Nat} {c : Int} (r : List Int) (h : bad i c = false) (g : c < 64) : dec i u (c :: r) = (zag (take1 i u c), i + 1, 0) := by rw [dec, if_neg (by simp [h]), if_pos g]
theorem dec_next {i u : Nat} {c : Int} (r : List Int) (h : bad i c = false) (g : ¬ c < 64) : dec i u (c :: r) = dec (i + 1) (take1 i u c) r := by rw [dec, if_neg (by simp [h]), if_neg g]

theorem take1_lt {i u : Nat} {c : Int} (h : u < 64 ^ i) : take1 i u c < 64 ^ (i + 1) := by
  unfold take1
  rw [Nat.pow_succ]
  have : (c % 64).toNat ≤ 63 := by omega
  have := Nat.mul_le_mul_right (64 ^ i) this
  omega
theorem p10 : 64 ^ 10 = 1152921504606846976 := by decide
theorem pow_le10 {i : Nat} (h : i ≤ 10) : 64 ^ i ≤ 1152921504606846976 := by rw [← p10]; exact Nat.pow_le_pow_right (by omega) h
/-- What is taken in fits the word. -/
theorem take1_fits {i u : Nat} {c : Int} (hi : i ≤ 10) (h0 : 0 ≤ c) (hb : bad i c = false) (h : u < 64 ^ i) : take1 i u c < 18446744073709551616 := by
  have hg := of_good hb
  by_cases e : i = 10
  · subst e
    have hc : c < 16 := by omega
    unfold take1
    rw [p10] at h ⊢
    have : (c % 64).toNat ≤ 15 := by omega
    omega
  · have := take1_lt (c := c) h
    have : 64 ^ (i + 1) ≤ 1152921504606846976 := pow_le10 (by omega)
    omega

theorem enc_step {i a u : Nat} : take1 i a ((u : Int) % 64 + 64) + u / 64 * 64 ^ (i + 1) = a + u * 64 ^ i := by
  unfold take1
  have e : (((u : Int) % 64 + 64) % 64).toNat = u % 64 := by omega
  have e2 : u * 64 ^ i = (u % 64) * 64 ^ i + u / 64 * 64 * 64 ^ i := by rw [← Nat.add_mul]; congr 1; omega
  rw [e, e2, Nat.pow_succ, Nat.add_assoc, Nat.mul_comm (64 ^ i) 64, ← Nat.mul_assoc]

theorem top_small {i a u : Nat} (hi : i ≤ 10) (h : a + u * 64 ^ i < 18446744073709551616) : (i = 10 → u < 16) := by
  rintro rfl
  rw [p10] at h
  omega

theorem dec_enc (u : Nat) : ∀ (i a : Nat) (r : List Int), (0 < i → 0 < u) → i ≤ 10 → a < 64 ^ i → a + u * 64 ^ i < 18446744073709551616 →
    dec i a (enc u ++ r) = (zag (a + u * 64 ^ i), i + (enc u).length, 0) := by
  induction u using Nat.strongRecOn with
  | _ u ih =>
    intro i a r hu hi ha hf
    have ht := top_small hi hf
    by_cases h : u < 64
    · rw [enc_less h, List.singleton_append, dec_last r (bad_no (by omega)) (by omega)]
      have e : take1 i a (u : Int) = a + u * 64 ^ i := by unfold take1; congr 2; omega
      rw [e]; rfl
    · have h10 : i ≠ 10 := fun e => by have := ht e; omega
      rw [enc_more h, List.cons_append, dec_next _ (bad_no (by omega)) (by omega), ih (u / 64) (by omega) (i + 1) _ r (by omega) (by omega) (take1_lt ha) (by rw [enc_step]; exact hf), enc_step]
      simp only [List.length_cons]
      congr 2; omega
theorem dec_cut (u : Nat) : ∀ (i a k : Nat), (0 < i → 0 < u) → i ≤ 10 → a < 64 ^ i → a + u * 64 ^ i < 18446744073709551616 → k < (enc u).length →
    dec i a ((enc u).take k) = (0, 0, 5) := by
  induction u using Nat.strongRecOn with
  | _ u ih =>
    intro i a k hu hi ha hf hk
    have ht := top_small hi hf
    rcases k with _ | k
    · rfl
    by_cases h : u < 64
    · rw [enc_less h] at hk; simp at hk
    · have h10 : i ≠ 10 := fun e => by have := ht e; omega
      rw [enc_more h] at hk ⊢
      rw [List.take_succ_cons, dec_next _ (bad_no (by omega)) (by omega)]
      exact ih (u / 64) (by omega) (i + 1) _ k (by omega) (by omega) (take1_lt ha) (by rw [enc_step]; exact hf) (by simpa using hk)

/-- A number's bytes, with others behind: the number. -/
theorem dec_zig (n : Int) (r : List Int) (h0 : -9223372036854775808 ≤ n) (h1 : n ≤ 9223372036854775807) : dec 0 0 (enc (zig n) ++ r) = (n, (enc (zig n)).length, 0) := by
  have := zig_lt n h0 h1
  rw [dec_enc (zig n) 0 0 r (by omega) (by omega) (by simp) (by simpa using this)]
  simp [zag_zig]
theorem dec_zig_cut (n : Int) (k : Nat) (h0 : -9223372036854775808 ≤ n) (h1 : n ≤ 9223372036854775807) (hk : k < (enc (zig n)).length) : dec 0 0 ((enc (zig n)).take k) = (0, 0, 5) := by
  have := zig_lt n h0 h1
  exact dec_cut (zig n) 0 0 k (by omega) (by omega) (by simp) (by simpa using this) hk

/-- What dec tells lies within bounds. -/
theorem dec_le (l : List Int) : ∀ i u, i ≤ 10 → (∀ x ∈ l, 0 ≤ x) → u < 64 ^ i → (dec i u l).2.1 ≤ i + l.length ∧ ((dec i u l).2.2 = 0 → 1 ≤ (dec i u l).2.1) ∧
    -9223372036854775808 ≤ (dec i u l).1 ∧ (dec i u l).1 ≤ 9223372036854775807 ∧ ((dec i u l).2.2 = 0 ∨ (dec i u l).2.2 = 4 ∨ (dec i u l).2.2 = 5) := by
  induction l with
  | nil => intro i u _ _ _; simp [dec_nil]
  | cons c r ih =>
    intro i u hi h0 hu
    have c0 := h0 c (by simp)
    cases hb : bad i c
    · by_cases g : c < 64
      · rw [dec_last r hb g]
        have := zag_lt _ (take1_fits hi c0 hb hu)
        simp; omega
      · rw [dec_next r hb g]
        have hg := of_good hb
        have := ih (i + 1) _ (by omega) (fun x hx => h0 x (by simp [hx])) (take1_lt (c := c) hu)
        simp only [List.length_cons]; omega
    · rw [dec_bad r hb]; simp

/-- Unlike lists have unlike bytes. -/
theorem encs_inj : ∀ (a b : List Int), a.length = b.length → (∀ n ∈ a, -9223372036854775808 ≤ n ∧ n ≤ 9223372036854775807) → (∀ n ∈ b, -9223372036854775808 ≤ n ∧ n ≤ 9223372036854775807) → encs a = encs b → a = b := by
  intro a
  induction a with
  | nil => intro b h _ _ _; simp at h; exact (List.eq_nil_of_length_eq_zero h.symm).symm
  | cons x r ih =>
    intro b h ha hb he
    cases b with
    | nil => simp at h
    | cons y s =>
      have bx := ha x (by simp)
      have by' := hb y (by simp)
      rw [encs_cons, encs_cons] at he
      have d1 := dec_zig x (encs r) bx.1 bx.2
      have d2 := dec_zig y (encs s) by'.1 by'.2
      rw [he, d2] at d1
      injection d1 with e1 e2
      subst e1
      rw [ih s (by simpa using h) (fun n hn => ha n (by simp [hn])) (fun n hn => hb n (by simp [hn])) (List.append_cancel_left he)]
end Go.Proofs.YtambppcnmggocaaDoor.Pk
