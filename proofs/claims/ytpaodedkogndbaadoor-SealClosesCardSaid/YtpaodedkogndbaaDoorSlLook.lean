/-
  Contracts of what looks at seals: the program's and the document's. Conditions: the table holds what the program's text lays; the sizes.
-/
import Derived.Test.YtpaodedkogndbaaDoorSlMake
namespace Go.Proofs.YtpaodedkogndbaaDoor
open Go.ChangeShapes Go.WideShapes Go.ChangeAt Go.RowKit

namespace Sl
theorem numb_snoc (l : List Int) (c : Int) : numb (l ++ [c]) = numb l * 256 + c.toNat := by unfold numb; rw [List.foldl_append]; rfl
theorem numb_next {d : List Int} {j : Nat} (h : j < d.length) : numb (d.take (j + 1)) = numb (d.take j) * 256 + d[j].toNat := by rw [List.take_succ_eq_append_getElem h, numb_snoc]
theorem numb_lt : ∀ {l : List Int}, BytesOk l → numb l < 256 ^ l.length := by
  have all : ∀ (n : Nat) (l : List Int), l.length = n → BytesOk l → numb l < 256 ^ n := by
    intro n
    induction n with
    | zero => intro l h _; rw [List.eq_nil_of_length_eq_zero h]; simp [numb]
    | succ n ih =>
      intro l h hb
      have hn : n < l.length := by omega
      have e : l = l.take n ++ [l[n]] := by
        have := List.take_succ_eq_append_getElem hn
        rw [← this, List.take_of_length_le (by omega)]
      have h1 := ih (l.take n) (by rw [List.length_take]; omega) (hb.take n)
      have h2 := hb _ (List.getElem_mem hn)
      rw [e, numb_snoc, Nat.pow_succ]
      omega
  intro l h
  exact all l.length l rfl h
theorem or_byte {x : Nat} {b : Int} (hx : x < 16777216) (b0 : 0 ≤ b) (b1 : b < 256) : bits .or .u32 ((x : Int) * 256) b = ((x * 256 + b.toNat : Nat) : Int) := by
  rw [u32_or _ _ (by omega) (by omega) b0 (by omega), show ((x : Int) * 256).toNat = x * 256 by omega, nat_join 8 (x * 256) b.toNat (by omega) (by omega)]
/-- The k-th word. -/
def wordAt (l : List Int) (k : Nat) : Nat := numb ((l.drop (k * 4)).take 4)
theorem wordAt_lt {l : List Int} (h : BytesOk l) (k : Nat) : wordAt l k < 4294967296 := by
  have := numb_lt ((h.drop (k * 4)).take 4)
  have hl : ((l.drop (k * 4)).take 4).length ≤ 4 := by rw [List.length_take]; omega
  have : 256 ^ ((l.drop (k * 4)).take 4).length ≤ 256 ^ 4 := Nat.pow_le_pow_right (by omega) hl
  unfold wordAt
  omega
end Sl

theorem slice_len {A : Option Addr} {n m c : Nat} (h : n = m) : Value.slice A n c = .slice A m c := by rw [h]
/-- What lies behind a cut: at the very end of a row the address stays. -/
theorem Rd.cut {w : World} {k : IntKind} {B : Nat} {a : Addr} {l : List Int} (h : Rd w k B (some a) l) {c : Nat} (hc : l.length ≤ c) (q m : Nat) : Rd w k B (if c = q then some a else some (a.add q)) ((l.drop q).take m) := by
  by_cases e : c = q
  · have : (l.drop q).take m = [] := by rw [List.drop_of_length_le (by omega)]; simp
    rw [this]; exact Rd.none
  · rw [if_neg e]; exact (h.drop q).take m

set_option maxHeartbeats 1000000 in
theorem word_any (A : Option Addr) (B c n k : Nat) (l : List Int) (w : World) (hr : Rd w .u8 B A l) (hb : BytesOk l) (hn : l.length = n) (hk : k ≤ 3) (hkn : 4 * (k + 1) ≤ n) (hc : n ≤ c) :
    Calls Tryd.prog 24 #[.slice A n c, .int .i64 k] w fun e w' => e = .returned (.int .u32 (Sl.wordAt l k : Nat)) ∧ w = w' := by
  have hd : ((l.drop (k * 4)).take 4).length = 4 := by rw [List.length_take, List.length_drop]; omega
  have HR := Lib.hid ((hr.drop (k * 4)).take 4)
  have HB := Lib.hid ((hb.drop (k * 4)).take 4)
  have HW : Hid (Sl.wordAt l k = Sl.numb ((l.drop (k * 4)).take 4)) := rfl
  obtain ⟨a, rfl⟩ : ∃ a, A = some a := by obtain ⟨a, h, _⟩ := hr.at_ (j := 0) (by omega); exact ⟨a, h⟩
  generalize (l.drop (k * 4)).take 4 = d at *
  generalize Sl.wordAt l k = W at *
  have HD := Lib.hid hd
  clear hr hb hn hd
  have hc4 : 4 * (k + 1) ≤ c := by omega
  go_enter Tryd.func24, Tryd.ntmps24
  go_wp2
  rw [show (k + 1) * 4 - k * 4 = 4 by omega]
  go_loop [5, 16] (fun t i => ∃ (j x : Nat), j ≤ 4 ∧ x < 256 ^ j ∧ t = .int .u32 x ∧ i = .int .i64 j ∧ Hid (x = Sl.numb (d.take j))) (fun _ i => 4 - (intOf i).toNat)
  case atStart => exact ⟨0, 0, by omega, by omega, rfl, rfl, rfl⟩
  case round =>
    obtain ⟨j, x, hj, hx, rfl, rfl, HX⟩ := hrel
    by_cases hlt : j < 4
    · have hjd : j < d.length := by have := HD.out; omega
      obtain ⟨a', ha', _, hc'⟩ := HR.out.at_ hjd
      obtain rfl : a.add (k * 4) = a' := by simpa using ha'
      obtain ⟨c0, c1⟩ := HB.out _ (List.getElem_mem hjd)
      have HN := Lib.hid (Sl.numb_next hjd)
      rw [← HX.out] at HN
      generalize d[j] = b at *
      have hx3 : 256 ^ j ≤ 256 ^ 3 := Nat.pow_le_pow_right (by omega) (by omega)
      have hx' : x < 16777216 := by omega
      have hbx := Sl.or_byte hx' c0 c1
      have hnx : x * 256 + b.toNat < 256 ^ (j + 1) := by rw [Nat.pow_succ]; omega
      clear hx3 ha' hjd
      go_wp2
      exact ⟨⟨j + 1, x * 256 + b.toNat, by omega, hnx, val_u32 (by omega), rfl, HN.out.symm⟩, by simp [intOf]; omega⟩
    · obtain rfl : j = 4 := by omega
      have HX2 : Hid (x = W) := by rw [HX.out, HW.out, List.take_of_length_le (by rw [HD.out]; omega)]; rfl
      go_wp2
      go_ret
      exact ⟨ret_int (by rw [HX2.out]), rfl⟩

set_option maxHeartbeats 1000000 in
theorem number_any (A : Option Addr) (B c n : Nat) (l : List Int) (w : World) (hr : Rd w .u8 B A l) (hb : BytesOk l) (hn : l.length = n) (hkn : 4 ≤ n) :
    Calls Tryd.prog 23 #[.slice A n c] w fun e w' => e = .returned (.int .u32 (Sl.numb (l.take 4) : Nat)) ∧ Below w.heap.size w w' := by
  obtain ⟨a, rfl, _, h0⟩ := hr.at_ (j := 0) (by omega)
  obtain ⟨a', e1, _, h1⟩ := hr.at_ (j := 1) (by omega)
  obtain rfl : a = a' := by simpa using e1
  obtain ⟨a', e2, _, h2⟩ := hr.at_ (j := 2) (by omega)
  obtain rfl : a = a' := by simpa using e2
  obtain ⟨a', e3, _, h3⟩ := hr.at_ (j := 3) (by omega)
  obtain rfl : a = a' := by simpa using e3
  rw [ad_zero] at h0
  have b0 := hb _ (List.getElem_mem (l := l) (n := 0) (by omega))
  have b1 := hb _ (List.getElem_mem (l := l) (n := 1) (by omega))
  have b2 := hb _ (List.getElem_mem (l := l) (n := 2) (by omega))
  have b3 := hb _ (List.getElem_mem (l := l) (n := 3) (by omega))
  have HX : Hid (Sl.numb (l.take 4) = ((l[0].toNat * 256 + l[1].toNat) * 256 + l[2].toNat) * 256 + l[3].toNat) := by
    show Sl.numb (l.take 4) = _
    rw [Sl.numb_next (d := l) (j := 3) (by omega), Sl.numb_next (d := l) (j := 2) (by omega), Sl.numb_next (d := l) (j := 1) (by omega), Sl.numb_next (d := l) (j := 0) (by omega)]
    simp [Sl.numb]
  generalize Sl.numb (l.take 4) = X at *
  generalize l[0] = x0 at *
  generalize l[1] = x1 at *
  generalize l[2] = x2 at *
  generalize l[3] = x3 at *
  simp [Addr.add] at h1 h2 h3
  have n0 : 0 < n := by omega
  have n1 : 1 < n := by omega
  have n2 : 2 < n := by omega
  have n3 : 3 < n := by omega
  clear e1 e2 e3 hr hb hn
  go_enter Tryd.func23, Tryd.ntmps23
  go_wp2
  go_quiet (fail)
  go_wp2
  go_ret
  refine ⟨ret_int ?_, Below.drewN' (Below.refl _ _) _⟩
  rw [HX.out]
  omega

namespace Sl
/-- What the document's program tells of bytes: how many are under the seal with which they begin, its age, its place, the fault. -/
def opened (l : List Int) : Nat × Nat × Nat × Nat :=
  if l.length < 16 then (0, 0, 0, 5) else if 1048576 < wordAt l 0 then (0, 0, 0, 6) else if l.length < 16 + wordAt l 0 then (0, 0, 0, 5)
  else if sum (l.take 12 ++ (l.drop 16).take (wordAt l 0)) ≠ wordAt l 3 then (0, 0, 0, 4) else (wordAt l 0, wordAt l 1, wordAt l 2, 0)
theorem opened_few {l : List Int} (h : l.length < 16) : opened l = (0, 0, 0, 5) := by unfold opened; rw [if_pos h]
theorem opened_long {l : List Int} (h : ¬ l.length < 16) (h2 : 1048576 < wordAt l 0) : opened l = (0, 0, 0, 6) := by unfold opened; rw [if_neg h, if_pos h2]
theorem opened_short {l : List Int} (h : ¬ l.length < 16) (h2 : ¬ 1048576 < wordAt l 0) (h3 : l.length < 16 + wordAt l 0) : opened l = (0, 0, 0, 5) := by unfold opened; rw [if_neg h, if_neg h2, if_pos h3]
theorem opened_form {l : List Int} (h : ¬ l.length < 16) (h2 : ¬ 1048576 < wordAt l 0) (h3 : ¬ l.length < 16 + wordAt l 0) (h4 : sum (l.take 12 ++ (l.drop 16).take (wordAt l 0)) ≠ wordAt l 3) : opened l = (0, 0, 0, 4) := by
  unfold opened; rw [if_neg h, if_neg h2, if_neg h3, if_pos h4]
theorem opened_yes {l : List Int} (h : ¬ l.length < 16) (h2 : ¬ 1048576 < wordAt l 0) (h3 : ¬ l.length < 16 + wordAt l 0) (h4 : sum (l.take 12 ++ (l.drop 16).take (wordAt l 0)) = wordAt l 3) : opened l = (wordAt l 0, wordAt l 1, wordAt l 2, 0) := by
  unfold opened; rw [if_neg h, if_neg h2, if_neg h3, if_neg (fun g => g h4)]
end Sl
def openedV (r : Nat × Nat × Nat × Nat) : Value := .tuple #[.int .i64 (r.1 : Nat), .int .u32 (r.2.1 : Nat), .int .u32 (r.2.2.1 : Nat), .int .i64 (r.2.2.2 : Nat)]

set_option maxHeartbeats 2000000 in
theorem refOpen_any (A : Option Addr) (B c n : Nat) (l : List Int) (w : World) (hr : Rd w .u8 B A l) (hB : B ≤ w.heap.size) (hb : BytesOk l) (hn : l.length = n) (hc : n ≤ c) (hl : n ≤ 5000) :
    Calls Tryd.prog 16 #[.slice A n c] w fun e w' => e = .returned (openedV (Sl.opened l)) ∧ Below w.heap.size w w' := by
  have HR := Lib.hid hr
  have HB := Lib.hid hb
  have HN := Lib.hid hn
  by_cases h16 : n < 16
  · have HX := Lib.hid (Sl.opened_few (l := l) (by omega))
    rw [HX.out]
    have t : decide ((n : Int) < 16) = true := by simp; omega
    clear hr hb hn
    go_enter Tryd.func16, Tryd.ntmps16
    go_wp2
    go_returns
    exact ⟨rfl, Below.refl _ _⟩
  obtain ⟨a, rfl⟩ : ∃ a, A = some a := by obtain ⟨a, h, _⟩ := hr.at_ (j := 0) (by omega); exact ⟨a, h⟩
  have HW0 : Hid (Sl.wordAt l 0 = Sl.numb (l.take 4)) := rfl
  have hlt0 := Sl.wordAt_lt hb 0
  by_cases h2 : 1048576 < Sl.wordAt l 0
  · have HX := Lib.hid (Sl.opened_long (l := l) (by omega) h2)
    rw [HX.out]
    clear hr hb hn HX
    go_enter Tryd.func16, Tryd.ntmps16
    go_wp2_with (fail)
    refine (number_any _ _ _ _ l _ HR.out HB.out HN.out (by omega)).mono ?_
    rintro e w1 ⟨rfl, hb1⟩
    rw [← HW0.out]
    generalize Sl.wordAt l 0 = m at *
    go_wp2
    go_returns
    exact ⟨rfl, hb1⟩
  by_cases h3 : n < 16 + Sl.wordAt l 0
  · have HX := Lib.hid (Sl.opened_short (l := l) (by omega) h2 (by omega))
    rw [HX.out]
    clear hr hb hn HX
    go_enter Tryd.func16, Tryd.ntmps16
    go_wp2_with (fail)
    refine (number_any _ _ _ _ l _ HR.out HB.out HN.out (by omega)).mono ?_
    rintro e w1 ⟨rfl, hb1⟩
    rw [← HW0.out]
    generalize Sl.wordAt l 0 = m at *
    go_wp2
    go_returns
    exact ⟨rfl, hb1⟩
  have hmn : 16 + Sl.wordAt l 0 ≤ n := by omega
  have hlt3 := Sl.wordAt_lt hb 3
  have HW3 : Hid (Sl.wordAt l 3 = Sl.numb ((l.drop 12).take 4)) := rfl
  have HS12 := Lib.hid (hr.take 12)
  have HL12 : Hid ((l.take 12).length = 12) := by show (l.take 12).length = 12; rw [List.length_take]; omega
  have HS16 := Lib.hid (hr.cut (c := c) (by omega) 16 (Sl.wordAt l 0))
  have hc4 : ¬ c = 4 := by omega
  have hc8 : ¬ c = 8 := by omega
  have hc12 : ¬ c = 12 := by omega
  have HL16 : Hid (((l.drop 16).take (Sl.wordAt l 0)).length = Sl.wordAt l 0) := by show _ = _; rw [List.length_take, List.length_drop]; omega
  have HBA : Hid (BytesOk (l.take 12 ++ (l.drop 16).take (Sl.wordAt l 0))) := (hb.take 12).append ((hb.drop 16).take _)
  have hA : ∃ r, Sl.opened l = r ∧ ((Sl.sum (l.take 12 ++ (l.drop 16).take (Sl.wordAt l 0)) ≠ Sl.wordAt l 3 ∧ r = (0, 0, 0, 4)) ∨ (Sl.sum (l.take 12 ++ (l.drop 16).take (Sl.wordAt l 0)) = Sl.wordAt l 3 ∧ r = (Sl.wordAt l 0, Sl.wordAt l 1, Sl.wordAt l 2, 0))) := by
    refine ⟨_, rfl, ?_⟩
    by_cases h4 : Sl.sum (l.take 12 ++ (l.drop 16).take (Sl.wordAt l 0)) = Sl.wordAt l 3
    · exact .inr ⟨h4, Sl.opened_yes (by omega) h2 (by omega) h4⟩
    · exact .inl ⟨h4, Sl.opened_form (by omega) h2 (by omega) h4⟩
  obtain ⟨r, hr0, hcase⟩ := hA
  rw [hr0]
  have HD4 : Hid (Rd w .u8 B (some (a.add 4)) (l.drop 4)) := hr.drop 4
  have HD8 : Hid (Rd w .u8 B (some (a.add 8)) (l.drop 8)) := hr.drop 8
  have HD12 : Hid (Rd w .u8 B (some (a.add 12)) (l.drop 12)) := hr.drop 12
  have HN4 : Hid ((l.drop 4).length = n - 4) := by show _ = _; rw [List.length_drop]; omega
  have HN8 : Hid ((l.drop 8).length = n - 8) := by show _ = _; rw [List.length_drop]; omega
  have HN12 : Hid ((l.drop 12).length = n - 12) := by show _ = _; rw [List.length_drop]; omega
  have HB4 := Lib.hid (hb.drop 4)
  have HB8 := Lib.hid (hb.drop 8)
  have HB12 := Lib.hid (hb.drop 12)
  have HW1 : Hid (Sl.wordAt l 1 = Sl.numb ((l.drop 4).take 4)) := rfl
  have HW2 : Hid (Sl.wordAt l 2 = Sl.numb ((l.drop 8).take 4)) := rfl
  have hlt1 := Sl.wordAt_lt hb 1
  have hlt2 := Sl.wordAt_lt hb 2
  generalize Sl.wordAt l 0 = m at *
  generalize Sl.wordAt l 1 = m1 at *
  generalize Sl.wordAt l 2 = m2 at *
  generalize Sl.wordAt l 3 = m3 at *
  have hS := Sl.sum_lt (l.take 12 ++ (l.drop 16).take m)
  clear hr hb hn hr0
  rcases Decidable.em (c = 16) with e16 | e16
  rw [if_pos e16] at HS16
  subst e16
  rotate_left
  rw [if_neg e16] at HS16
  all_goals
    go_enter Tryd.func16, Tryd.ntmps16
    go_wp2_with (fail)
    refine (number_any _ _ _ _ l _ HR.out HB.out HN.out (by omega)).mono ?_
    rintro e w1 ⟨rfl, hb1⟩
    have H1 := Lib.hid hb1
    rw [← HW0.out]
    have S1 := Lib.hid (Grew.start w1)
    have R12 := Lib.hid (HS12.out.below (H1.out.mono hB))
    go_wp2_with (first
      | (at_builtin; refine wpList_append_rd rfl _ _ rfl rfl w1.heap.size (.slice none 0 0) [] (l.take 12) B (some a) _ rfl (by rw [HL12.out]; rfl) S1.out.own R12.out (by rw [HL12.out]; simp) (Nat.le_refl _) ?_; intro v2 w2 hg; have S2 : Hid (Grew w1 w1.heap.size (.slice none 0 0) (l.take 12) v2 w2) := S1.out.trans hg; clear hg; have H2 : Hid (Below w.heap.size w w2) := H1.out.trans (S2.out.below0.mono H1.out.size))
      | (at_builtin; refine wpList_append_rd rfl _ _ rfl rfl w1.heap.size v2 (l.take 12) ((l.drop 16).take m) B _ _ rfl (slice_len (by rw [HL16.out]; omega)) S2.out.own (HS16.out.below (H2.out.mono hB)) (by rw [HL12.out, HL16.out]; omega) S2.out.grown.size ?_; intro v3 w3 hg; have S3 := Lib.hid (S2.out.trans hg); clear hg; obtain ⟨A3, c3, rfl, hc3, hm3⟩ := S3.out.open_ (12 + m) (by rw [List.length_append, HL12.out, HL16.out])))
    refine region_over (by kernel_rfl) (by kernel_rfl) ?_
    have H3 : Hid (Below w.heap.size w w3) := H1.out.trans (S3.out.below0.mono H1.out.size)
    have R3 : Hid (Rd w3 .u8 w3.heap.size A3 (l.take 12 ++ (l.drop 16).take m)) := Rd.own' S3.out.own (by rw [List.length_append, HL12.out, HL16.out])
    have L3 : Hid ((l.take 12 ++ (l.drop 16).take m).length = 12 + m) := by show _ = _; rw [List.length_append, HL12.out, HL16.out]
    repeat (go_big_quiet_step ((first | (go_at_call 10; exact over_same (refSum_any _ _ _ _ _ _ (R3.out.below (over_below _ _)) HBA.out L3.out (by omega))) | (go_at_call 23; exact over_call (number_any _ _ _ _ (l.drop 12) _ ((HD12.out.below (H3.out.mono hB)).below ((over_below _ _).mono (Nat.le_trans hB H3.out.size))) HB12.out HN12.out (by omega))))))
    refine wpQuiet_nil ?_
    rintro w' ⟨x, rfl⟩
    rw [← HW3.out]
    have H4 : Hid (Below w.heap.size w (over w3 x)) := H3.out.trans ((over_below _ _).mono H3.out.size)
    clear R3 S3 S2 S1 H3 hb1 R12
    generalize over w3 x = w4 at *
    generalize Sl.sum (l.take 12 ++ (l.drop 16).take m) = S at *
    rcases hcase with ⟨hne, rfl⟩ | ⟨he, rfl⟩
    · have t : ((S : Int) != (m3 : Int)) = true := by simp; omega
      go_wp2
      go_returns
      exact ⟨rfl, H4.out⟩
    · subst he
      go_wp2
      refine region_over (by kernel_rfl) (by kernel_rfl) ?_
      repeat (go_big_quiet_step ((first | (go_at_call 23; exact over_call (number_any _ _ _ _ (l.drop 4) _ ((HD4.out.below (H4.out.mono hB)).below ((over_below _ _).mono (Nat.le_trans hB H4.out.size))) HB4.out HN4.out (by omega))) | (go_at_call 23; exact over_call (number_any _ _ _ _ (l.drop 8) _ ((HD8.out.below (H4.out.mono hB)).below ((over_below _ _).mono (Nat.le_trans hB H4.out.size))) HB8.out HN8.out (by omega))))))
      refine wpQuiet_nil ?_
      rintro w' ⟨x', rfl⟩
      rw [← HW1.out, ← HW2.out]
      have H5 : Hid (Below w.heap.size w (over w4 x')) := H4.out.trans ((over_below _ _).mono H4.out.size)
      generalize over w4 x' = w5 at *
      go_wp2
      go_returns
      exact ⟨rfl, H5.out⟩
end Go.Proofs.YtpaodedkogndbaaDoor
