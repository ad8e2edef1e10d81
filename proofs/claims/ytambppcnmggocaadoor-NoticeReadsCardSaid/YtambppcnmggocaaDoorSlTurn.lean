/-
  A seal of which one byte is another one, or that is cut: what it is opened as. No conditions but those that each law names.
-/
import Derived.Test.YtambppcnmggocaaDoorSlClosed
namespace Go.Proofs.YtambppcnmggocaaDoor
set_option maxRecDepth 20000
namespace Sl
theorem four_items {d : List Int} (h : d.length = 4) : ∃ a b c e, d = [a, b, c, e] := by
  match d, h with
  | [a, b, c, e], _ => exact ⟨a, b, c, e, rfl⟩
theorem numb_set {d : List Int} (h : d.length = 4) (hb : BytesOk d) {k : Nat} (hk : k < d.length) {v : Int} (v0 : 0 ≤ v) (v1 : v < 256) (hne : v ≠ d[k]) : numb (d.set k v) ≠ numb d := by
  obtain ⟨a, b, c, e, rfl⟩ := four_items h
  have ha := hb a (by simp)
  have hb' := hb b (by simp)
  have hc := hb c (by simp)
  have he := hb e (by simp)
  match k, hk with
  | 0, _ => simp [numb] at hne ⊢; omega
  | 1, _ => simp [numb] at hne ⊢; omega
  | 2, _ => simp [numb] at hne ⊢; omega
  | 3, _ => simp [numb] at hne ⊢; omega
theorem word_other {l : List Int} {k j : Nat} {v : Int} (h : k < j * 4 ∨ j * 4 + 4 ≤ k) : wordAt (l.set k v) j = wordAt l j := by
  unfold wordAt
  rw [List.drop_set]
  split
  · rfl
  · rw [List.take_set, List.set_eq_of_length_le (by rw [List.length_take]; omega)]
theorem word_in {l : List Int} {k j : Nat} {v : Int} (hb : BytesOk l) (hk : k < l.length) (h0 : j * 4 ≤ k) (h1 : k < j * 4 + 4) (hl : j * 4 + 4 ≤ l.length) (v0 : 0 ≤ v) (v1 : v < 256) (hne : v ≠ l[k]) : wordAt (l.set k v) j ≠ wordAt l j := by
  have hd : ((l.drop (j * 4)).take 4).length = 4 := by rw [List.length_take, List.length_drop]; omega
  have hi : k - j * 4 < ((l.drop (j * 4)).take 4).length := by omega
  have hg : ((l.drop (j * 4)).take 4)[k - j * 4] = l[k] := by
    rw [List.getElem_take, List.getElem_drop]
    congr 1; omega
  have := numb_set hd ((hb.drop _).take _) hi v0 v1 (by rw [hg]; exact hne)
  unfold wordAt
  rw [List.drop_set, if_neg (by omega), List.take_set]
  exact this
theorem sum_set {l : List Int} {k : Nat} {v : Int} (hb : BytesOk l) (hk : k < l.length) (v0 : 0 ≤ v) (v1 : v < 256) (hne : v ≠ l[k]) : sum (l.set k v) ≠ sum l := by
  have hx := hb _ (List.getElem_mem hk)
  have e : l = l.take k ++ l[k] :: l.drop (k + 1) := by rw [← List.drop_eq_getElem_cons hk, List.take_append_drop]
  have := sum_turn (a := l.take k) (b := l.drop (k + 1)) (hb.take k).lt (hb.drop (k + 1)).lt v0 v1 hx.1 hx.2 hne
  rw [← e] at this
  rwa [List.set_eq_take_append_cons_drop, if_pos hk]

/-- One byte is another one. -/
theorem turned {l : List Int} {n k : Nat} {v : Int} (hb : BytesOk l) (hn : l.length = 16 + n) (hs : n ≤ 1048576) (h0 : wordAt l 0 = n) (h3 : sum (l.take 12 ++ (l.drop 16).take n) = wordAt l 3) (hk : k < l.length) (v0 : 0 ≤ v) (v1 : v < 256) (hne : v ≠ l[k]) :
    (∃ e, e ≠ 0 ∧ e ≤ 6 ∧ opened (l.set k v) = (0, 0, 0, e)) ∨ (k < 4 ∧ ∃ m a b, m < n ∧ opened (l.set k v) = (m, a, b, 0)) := by
  have hl : (l.set k v).length = 16 + n := by rw [List.length_set, hn]
  have hbT : BytesOk (l.set k v) := fun x hx => by
    rcases List.mem_or_eq_of_mem_set hx with h | h
    · exact hb x h
    · rw [h]; exact ⟨v0, v1⟩
  by_cases h4 : k < 4
  · have hw := word_in (j := 0) hb hk (by omega) (by omega) (by omega) v0 v1 hne
    rw [h0] at hw
    by_cases g2 : 1048576 < wordAt (l.set k v) 0
    · exact .inl ⟨6, by omega, by omega, opened_long (by omega) g2⟩
    by_cases g3 : (l.set k v).length < 16 + wordAt (l.set k v) 0
    · exact .inl ⟨5, by omega, by omega, opened_short (by omega) g2 g3⟩
    by_cases g4 : sum ((l.set k v).take 12 ++ ((l.set k v).drop 16).take (wordAt (l.set k v) 0)) = wordAt (l.set k v) 3
    · exact .inr ⟨h4, _, _, _, by omega, opened_yes (by omega) g2 g3 g4⟩
    · exact .inl ⟨4, by omega, by omega, opened_form (by omega) g2 g3 g4⟩
  · have hw0 : wordAt (l.set k v) 0 = n := by rw [word_other (by omega), h0]
    refine .inl ⟨4, by omega, by omega, opened_form (by omega) (by omega) (by omega) ?_⟩
    rw [hw0, List.take_set, List.drop_set]
    by_cases h12 : k < 12
    · rw [if_pos (by omega), word_other (by omega), ← h3]
      have e : (l.take 12).set k v ++ (l.drop 16).take n = (l.take 12 ++ (l.drop 16).take n).set k v := by rw [List.set_append_left _ _ (by rw [List.length_take]; omega)]
      rw [e]
      refine sum_set ((hb.take 12).append ((hb.drop 16).take n)) (by rw [List.length_append, List.length_take]; omega) v0 v1 ?_
      rw [List.getElem_append_left (by rw [List.length_take]; omega), List.getElem_take]
      exact hne
    · by_cases h16 : k < 16
      · rw [if_pos h16, List.set_eq_of_length_le (by rw [List.length_take]; omega), h3]
        exact fun g => word_in (j := 3) hb hk (by omega) (by omega) (by omega) v0 v1 hne g.symm
      · rw [if_neg h16, List.set_eq_of_length_le (by rw [List.length_take]; omega), word_other (by omega), ← h3, List.take_set]
        have e : l.take 12 ++ ((l.drop 16).take n).set (k - 16) v = (l.take 12 ++ (l.drop 16).take n).set (k - 4) v := by
          rw [List.set_append_right _ _ (by rw [List.length_take]; omega)]
          congr 2
          rw [List.length_take]; omega
        rw [e]
        have hi : k - 4 < (l.take 12 ++ (l.drop 16).take n).length := by rw [List.length_append, List.length_take, List.length_take, List.length_drop]; omega
        refine sum_set ((hb.take 12).append ((hb.drop 16).take n)) hi v0 v1 ?_
        rw [List.getElem_append_right (by rw [List.length_take]; omega), List.getElem_take, List.getElem_drop]
        intro g
        refine hne (g.trans ?_)
        congr 1
        rw [List.length_take]; omega
/-- It is cut. -/
theorem opened_cut {l : List Int} {n j : Nat} (hn : l.length = 16 + n) (hs : n ≤ 1048576) (h0 : wordAt l 0 = n) (hj : j < 16 + n) : opened (l.take j) = (0, 0, 0, 5) := by
  have hl : (l.take j).length = j := by rw [List.length_take]; omega
  by_cases h16 : j < 16
  · exact opened_few (by omega)
  · have hw : wordAt (l.take j) 0 = n := by
      rw [← h0]
      unfold wordAt
      rw [List.drop_take, List.take_take]
      congr 2; omega
    exact opened_short (by omega) (by omega) (by omega)

/-- The facts of a seal that was made. -/
theorem made_facts {a b : Nat} {p : List Int} (hn : p.length ≤ 1048576) : wordAt (closed a b p) 0 = p.length ∧ sum ((closed a b p).take 12 ++ ((closed a b p).drop 16).take p.length) = wordAt (closed a b p) 3 := by
  have e : closed a b p = four p.length ++ (four a ++ (four b ++ (four (sum (head a b p.length ++ p)) ++ p))) := by
    have := closed_eq a b (sum (head a b p.length ++ p)) p.length p []
    rw [List.append_nil, List.append_nil] at this
    unfold closed; exact this
  obtain ⟨e0, _, _, e3⟩ := wordAt_made a b (sum (head a b p.length ++ p)) p.length p
  rw [e]
  refine ⟨by rw [e0, numb_four (by omega)], ?_⟩
  rw [e3, numb_four (sum_lt _), take12_made, drop16_made, List.take_length]
theorem open1_turn {age place : Nat} {p : List Int} {k : Nat} {v : Int} (hp : BytesOk p) (hs : p.length ≤ 1048576) (hk : k < (closed age place p).length) (v0 : 0 ≤ v) (v1 : v < 256) (hne : v ≠ (closed age place p)[k]) :
    (∃ e, e ≠ 0 ∧ open1 age place ((closed age place p).set k v) = ([], 0, e)) ∨ (k < 4 ∧ ∃ q m, m < p.length ∧ open1 age place ((closed age place p).set k v) = (q, 16 + m, 0)) := by
  obtain ⟨h0, h3⟩ := made_facts (a := age) (b := place) hs
  rcases turned (closed_ok hp) (closed_len age place p) hs h0 h3 hk v0 v1 hne with ⟨e, he, _, ho⟩ | ⟨h4, m, a, b, hm, ho⟩
  · have hl := looked_no (place := place) ho he
    exact .inl ⟨e, he, by rw [open1_no (by rw [hl]; exact he), hl]⟩
  · by_cases hb : b = place
    · have hl := looked_yes ho hb
      by_cases ha : a = age
      · exact .inr ⟨h4, _, m, hm, open1_yes (by rw [hl]) (by rw [hl]; exact ha) (by rw [hl])⟩
      · exact .inl ⟨10, by omega, open1_old (by rw [hl]) (by rw [hl]; exact ha)⟩
    · have hl := looked_old ho hb
      exact .inl ⟨10, by omega, by rw [open1_no (by rw [hl]; simp), hl]⟩
theorem open1_cut {age place j : Nat} {p : List Int} (hs : p.length ≤ 1048576) (hj : j < 16 + p.length) : open1 age place ((closed age place p).take j) = ([], 0, 5) := by
  obtain ⟨h0, _⟩ := made_facts (a := age) (b := place) hs
  have hl := looked_no (place := place) (opened_cut (closed_len age place p) hs h0 hj) (by omega)
  rw [open1_no (by rw [hl]; simp), hl]
theorem xor_turn {x t : Nat} (ht : t ≠ 0) : x ^^^ t ≠ x := fun h => ht (by
  have : x ^^^ (x ^^^ t) = x ^^^ x := by rw [h]
  rwa [← Nat.xor_assoc, Nat.xor_self, Nat.zero_xor] at this)
theorem xor_byte {x t : Nat} (hx : x < 256) (ht : t < 256) : x ^^^ t < 256 := Nat.xor_lt_two_pow (n := 8) hx ht
end Sl
end Go.Proofs.YtambppcnmggocaaDoor
