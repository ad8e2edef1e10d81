/-
  A half's bytes as seals, pure: what a look at their beginning tells, however many are there. No program, no memory.
-/
import Derived.Test.YticefepcoemkoaaDoorDy
namespace Go.Proofs.YticefepcoemkoaaDoor
set_option maxRecDepth 20000
namespace Sl
def noughts (n : Nat) : List Int := List.replicate n 0
theorem sum_noughts : sum (noughts 12) ≠ 0 := by decide +kernel
theorem opened_noughts (n : Nat) : opened (noughts n) = (0, 0, 0, 5) ∨ opened (noughts n) = (0, 0, 0, 4) := by
  by_cases h : n < 16
  · exact .inl (opened_few (by simp [noughts]; exact h))
  · right
    obtain ⟨m, rfl⟩ : ∃ m, n = 16 + m := ⟨n - 16, by omega⟩
    have e : noughts (16 + m) = noughts 16 ++ noughts m := by unfold noughts; rw [List.replicate_append_replicate]
    have w0 : wordAt (noughts (16 + m)) 0 = 0 := by rw [e]; rfl
    have w3 : wordAt (noughts (16 + m)) 3 = 0 := by rw [e]; rfl
    have t : (noughts (16 + m)).take 12 = noughts 12 := by rw [e]; rfl
    refine opened_form (by simp [noughts]) (by rw [w0]; omega) (by rw [w0]; simp [noughts]) ?_
    rw [w0, w3, t]
    simpa using sum_noughts
theorem looked_noughts (place n : Nat) : (looked place (noughts n)).2.2 ≠ 0 := by
  rcases opened_noughts n with h | h
  · rw [looked_no h (by omega)]; simp
  · rw [looked_no h (by omega)]; simp
theorem open1_noughts (age place n : Nat) : (open1 age place (noughts n)).1 = [] ∧ (open1 age place (noughts n)).2.1 = 0 ∧ (open1 age place (noughts n)).2.2 ≠ 0 := by
  have h := looked_noughts place n
  rw [open1_no h]
  exact ⟨rfl, rfl, h⟩
theorem looked_cut {a b j : Nat} {p : List Int} (hs : p.length ≤ 1048576) (hj : j < 16 + p.length) : looked b ((closed a b p).take j) = (0, 0, 5) := by
  obtain ⟨h0, _⟩ := made_facts (a := a) (b := b) hs
  exact looked_no (opened_cut (closed_len a b p) hs h0 hj) (by omega)
/-- Of bytes that begin with a seal the first j, as many as are wanted. -/
theorem looked_far {a b j : Nat} {p z : List Int} (ha : a < 4294967296) (hb : b < 4294967296) (hs : p.length ≤ 1048576) (h : (looked b ((closed a b p ++ z).take j)).2.2 ≠ 5 ∨ (closed a b p ++ z).length ≤ j) : looked b ((closed a b p ++ z).take j) = (a, 16 + p.length, 0) := by
  have hl := closed_len a b p
  by_cases hj : j < 16 + p.length
  · rw [List.take_append_of_le_length (by omega), looked_cut hs hj] at h
    rcases h with h | h
    · exact absurd rfl h
    · rw [List.length_append] at h; omega
  · rw [List.take_append, List.take_of_length_le (by omega)]
    exact looked_closed _ ha hb hs
theorem open1_far {a b j : Nat} {p z : List Int} (ha : a < 4294967296) (hb : b < 4294967296) (hs : p.length ≤ 1048576) (h : (open1 a b ((closed a b p ++ z).take j)).2.2 ≠ 5 ∨ (closed a b p ++ z).length ≤ j) : open1 a b ((closed a b p ++ z).take j) = (p, 16 + p.length, 0) := by
  have hl := closed_len a b p
  by_cases hj : j < 16 + p.length
  · rw [List.take_append_of_le_length (by omega), open1_cut hs hj] at h
    rcases h with h | h
    · exact absurd rfl h
    · rw [List.length_append] at h; omega
  · rw [List.take_append, List.take_of_length_le (by omega)]
    exact open1_closed _ ha hb hs
theorem open1_le (age place : Nat) (l : List Int) : (open1 age place l).2.1 ≤ l.length := by
  unfold open1
  split
  · simp
  · split
    · simp
    · rename_i h _
      obtain ⟨m, h1, h2, _⟩ := looked_le (Classical.byContradiction h)
      show (looked place l).2.1 ≤ _
      omega
/-- A diary's half: what was at first, and entries, of an age. -/
def log (a : Nat) : Nat → List (List Int) → List Int
  | _, [] => []
  | i, p :: r => closed a i p ++ log a (i + 1) r
theorem log_snoc (a : Nat) (i : Nat) (ps : List (List Int)) (p : List Int) : log a i (ps ++ [p]) = log a i ps ++ closed a (i + ps.length) p := by
  induction ps generalizing i with
  | nil => simp [log]
  | cons q r ih =>
    show closed a i q ++ log a (i + 1) (r ++ [p]) = (closed a i q ++ log a (i + 1) r) ++ _
    rw [ih, List.append_assoc, List.length_cons, show i + 1 + r.length = i + (r.length + 1) by omega]
end Sl
theorem log_ok {a : Nat} {ps : List (List Int)} (h : ∀ p ∈ ps, BytesOk p) : ∀ i, BytesOk (Sl.log a i ps) := by
  induction ps with
  | nil => intro i x hx; cases hx
  | cons q r ih => intro i; exact (closed_ok (h q (by simp))).append (ih (fun p hp => h p (by simp [hp])) (i + 1))
end Go.Proofs.YticefepcoemkoaaDoor
