/-
  The walk of the law SealOpens: it returns true, whatever the input, and makes new blocks alone. Condition: the table holds what the program's text lays.
-/
import Derived.Test.YtpaodedkogndbaaDoorSlOpen
import Derived.Test.YtpaodedkogndbaaDoorRow
namespace Go.Proofs.YtpaodedkogndbaaDoor
open Go.ChangeShapes Go.WideShapes Go.ChangeAt Go.RowKit

theorem opened_ways (l : List Int) (hb : BytesOk l) : (∃ e, e ≠ 0 ∧ e ≤ 6 ∧ Sl.opened l = (0, 0, 0, e)) ∨ ∃ m a b, Sl.opened l = (m, a, b, 0) ∧ 16 + m ≤ l.length ∧ a < 4294967296 ∧ b < 4294967296 := by
  by_cases h1 : l.length < 16
  · exact .inl ⟨5, by omega, by omega, Sl.opened_few h1⟩
  by_cases h2 : 1048576 < Sl.wordAt l 0
  · exact .inl ⟨6, by omega, by omega, Sl.opened_long h1 h2⟩
  by_cases h3 : l.length < 16 + Sl.wordAt l 0
  · exact .inl ⟨5, by omega, by omega, Sl.opened_short h1 h2 h3⟩
  by_cases h4 : Sl.sum (l.take 12 ++ (l.drop 16).take (Sl.wordAt l 0)) = Sl.wordAt l 3
  · exact .inr ⟨_, _, _, Sl.opened_yes h1 h2 h3 h4, by omega, Sl.wordAt_lt hb 1, Sl.wordAt_lt hb 2⟩
  · exact .inl ⟨4, by omega, by omega, Sl.opened_form h1 h2 h3 h4⟩

set_option maxHeartbeats 1000000 in
theorem sealOpens_long (A : Option Addr) (c n : Nat) (age place : Int) (whole : Bool) (w : World) (ht : Tab w) (h : 100 < n) :
    Calls Tryd.prog 5 #[.slice A n c, .int .u32 age, .int .u32 place, .bool whole] w fun e w' => e = .returned (.bool true) ∧ Below w.heap.size w w' := by
  have t : decide ((100 : Int) < (n : Int)) = true := by simp; omega
  have HT := Lib.hid ht
  clear h
  go_enter Tryd.func5, Tryd.ntmps5
  go_wp2_with (fail)
  refine (awake_any _ HT.out).mono ?_
  rintro e w1 ⟨rfl, hb1⟩
  go_wp2_with (fail)
  refine (awake_any _ (HT.out.below hb1)).mono ?_
  rintro e w2 ⟨rfl, hb2⟩
  go_wp2
  go_ret
  exact ⟨rfl, hb1.trans (hb2.mono hb1.size)⟩

set_option maxHeartbeats 4000000 in
theorem sealOpens_in (A0 : Option Addr) (c0 n0 : Nat) (l0 : List Int) (age place : Nat) (whole : Bool) (w : World) (ht : Tab w) (hr : Rd w .u8 w.heap.size A0 l0) (hb : BytesOk l0) (hn : l0.length = n0) (hc : n0 ≤ c0) (h : n0 ≤ 100) (ha : age < 4294967296) (hp : place < 4294967296) :
    Calls Tryd.prog 5 #[.slice A0 n0 c0, .int .u32 age, .int .u32 place, .bool whole] w fun e w' => e = .returned (.bool true) ∧ Below w.heap.size w w' := by
  have t : decide ((100 : Int) < (n0 : Int)) = false := by simp; omega
  have HT := Lib.hid ht
  have HR := Lib.hid hr
  have HB := Lib.hid hb
  have HN := Lib.hid hn
  clear ht hr hb hn
  cases whole
  case' false =>
    go_enter Tryd.func5, Tryd.ntmps5
    go_wp2_with (fail)
    refine (awake_any _ HT.out).mono ?_
    rintro e wz ⟨rfl, hb1⟩
    have HX := Lib.hid hb1
    have HRz : Hid (Rd wz .u8 wz.heap.size A0 l0) := (HR.out.below HX.out).more HX.out.size
    have hl : n0 ≤ 5000 := by omega
    clear hb1
    go_wp2_with (fail)
  case' true =>
    go_enter Tryd.func5, Tryd.ntmps5
    go_wp2_with (fail)
    refine (awake_any _ HT.out).mono ?_
    rintro e w1 ⟨rfl, hb1⟩
    have H1 := Lib.hid hb1
    clear hb1
    go_wp2_with (fail)
    refine (refClose_eq (age % 3) (place % 3) _ _ A0 w.heap.size c0 n0 l0 w1 (by omega) (by omega) (by omega) (by omega) (HR.out.below H1.out) H1.out.size HB.out HN.out (by omega)).mono ?_
    intro e w2 hO
    obtain ⟨A2, n2, c2, rfl, HN2, HO2, HB2, HR2, _, _⟩ := hO.open_
    clear hO
    have hcl := Sl.closed_len (age % 3) (place % 3) l0
    rw [HN.out] at hcl
    go_wp2_with (at_builtin; refine wpList_append_rd rfl _ _ rfl rfl w1.heap.size (.slice A2 n2 c2) (Sl.closed (age % 3) (place % 3) l0) l0 _ A0 c0 rfl (by rw [HN.out]; rfl) (by rw [HN2.out]; exact HO2.out) ((HR.out.below H1.out).below (HB2.out.mono H1.out.size)) (by rw [hcl, HN.out]; omega) HB2.out.size ?_; intro v3 wz hg)
    have G0 : Hid (w2.ownsRow w1.heap.size 5 1 (.slice A2 n2 c2) (Sl.closed (age % 3) (place % 3) l0).length (cl .u8 (Sl.closed (age % 3) (place % 3) l0))) := by rw [HN2.out]; exact HO2
    have HX : Hid (Below w.heap.size w wz) := H1.out.trans ((HB2.out.trans (hg.below (l0 := Sl.closed (age % 3) (place % 3) l0) G0.out HB2.out.size)).mono H1.out.size)
    have HN : Hid ((Sl.closed (age % 3) (place % 3) l0 ++ l0).length = 16 + n0 + n0) := by show _ = _; rw [List.length_append, hcl, HN.out]
    have HB : Hid (BytesOk (Sl.closed (age % 3) (place % 3) l0 ++ l0)) := (closed_ok HB.out).append HB.out
    have hl : 16 + n0 + n0 ≤ 5000 := by omega
    obtain ⟨A0, c0, rfl, hc, _⟩ := hg.open_ (16 + n0 + n0) HN.out
    have HRz : Hid (Rd wz .u8 wz.heap.size A0 (Sl.closed (age % 3) (place % 3) l0 ++ l0)) := Rd.own' hg.own HN.out
    clear hg G0 HR2 HB2 HO2 HN2 HR H1 hcl h t
    generalize (Sl.closed (age % 3) (place % 3) l0 ++ l0) = l0 at *
    generalize 16 + n0 + n0 = n0 at *
  all_goals
    have HTz : Hid (Tab wz) := HT.out.below HX.out
    have HO := Lib.hid (refOpen_any A0 wz.heap.size c0 n0 l0 wz HRz.out (Nat.le_refl _) HB.out HN.out hc hl)
    have HOP : Hid (∀ w', Below wz.heap.size wz w' → Calls Tryd.prog 12 #[.int .u32 age, .int .u32 place, .slice A0 n0 c0] w' (Opened w' (Sl.open1 age place l0))) := fun w' hw => open_any age place A0 wz.heap.size c0 n0 l0 w' (HTz.out.below hw) (HRz.out.below hw) hw.size HB.out HN.out hc hl
    have HAG : Hid (∀ w', Below wz.heap.size wz w' → Calls Tryd.prog 13 #[.int .u32 place, .slice A0 n0 c0] w' fun e w'' => e = .returned (.tuple #[.int .u32 ((Sl.looked place l0).1 : Nat), .int .i64 ((Sl.looked place l0).2.2 : Nat)]) ∧ Below w'.heap.size w' w'') := fun w' hw => age_any place A0 wz.heap.size c0 n0 l0 w' (HTz.out.below hw) (HRz.out.below hw) hw.size HB.out HN.out hc hl
    refine HO.out.mono ?_
    rintro e w4 ⟨rfl, hb4⟩
    have H4 := Lib.hid hb4
    clear hb4 HO
    rcases opened_ways l0 HB.out with ⟨e, he0, he6, ho⟩ | ⟨m, a, b, ho, hml, ha', hb'⟩
    · have hk := Sl.looked_no (place := place) ho he0
      have hq := Sl.open1_no (age := age) (place := place) (l := l0) (by rw [hk]; exact he0)
      rw [hk] at hq HAG
      rw [hq] at HOP
      rw [ho]
      have t0 : ((e : Int) != 0) = true := by simp; exact he0
      clear hk hq ho
      unfold openedV
      go_wp2_with (fail)
      refine (HOP.out _ H4.out).mono ?_
      rintro e5 w5 ⟨A5, n5, c5, rfl, HN5, HR5, HB5⟩
      obtain rfl : n5 = 0 := HN5.out.symm
      go_wp2_with (fail)
      refine (HAG.out _ (H4.out.trans (HB5.out.mono H4.out.size))).mono ?_
      rintro e6 w6 ⟨rfl, hb6⟩
      have HW : Hid (Below w.heap.size w w6) := HX.out.trans ((H4.out.trans ((HB5.out.trans (hb6.mono HB5.out.size)).mono H4.out.size)).mono HX.out.size)
      go_wp2
      go_ret
      exact ⟨rfl, HW.out⟩
    · unfold openedV
      rw [ho]
      by_cases hbp : b = place
      · have hk := Sl.looked_yes ho hbp
        subst hbp
        have t1 : ((b : Int) != (b : Int)) = false := by simp
        by_cases haa : a = age
        · have hq := Sl.open1_yes (age := age) (place := b) (l := l0) (by rw [hk]) (by rw [hk]; exact haa) (by rw [hk])
          subst haa
          have t2 : ((a : Int) != (a : Int)) = false := by simp
          rw [hk] at HAG
          rw [hq] at HOP
          clear hk hq ho
          obtain ⟨a0, rfl⟩ : ∃ a, A0 = some a := by obtain ⟨a, h, _⟩ := HRz.out.at_ (j := 0) (by omega); exact ⟨a, h⟩
          have HRm : Hid (Rd wz .u8 wz.heap.size (if c0 = 16 then some a0 else some (a0.add 16)) ((l0.drop 16).take m)) := HRz.out.cut (by rw [HN.out]; exact hc) 16 m
          have HM : Hid (((l0.drop 16).take m).length = m) := by show _ = _; rw [List.length_take, List.length_drop]; omega
          have hmn : 16 + m ≤ n0 := by rw [← HN.out]; exact hml
          have t3 : ((b : Int) != (b : Int)) = false := by simp
          generalize (l0.drop 16).take m = d at *
          go_wp2_with (fail)
          refine (HOP.out _ H4.out).mono ?_
          rintro e5 w5 ⟨A5, n5, c5, rfl, HN5, HR5, HB5⟩
          obtain rfl : n5 = m := HN5.out.symm.trans HM.out
          go_wp2_with (fail)
          refine (HAG.out _ (H4.out.trans (HB5.out.mono H4.out.size))).mono ?_
          rintro e6 w6 ⟨rfl, hb6⟩
          have HWz : Hid (Below wz.heap.size wz w6) := (H4.out.trans ((HB5.out.trans (hb6.mono HB5.out.size)).mono H4.out.size))
          have HR6 : Hid (Rd w6 .u8 w6.heap.size A5 d) := (HR5.out.below hb6).more hb6.size
          have HW : Hid (Below w.heap.size w w6) := HX.out.trans (HWz.out.mono HX.out.size)
          clear HOP HAG hb6 HB5 HR5
          have hcv1 : ∀ x, (convert 22 9 (.slice A5 n5 c5)).run Tryd.prog (over w6 x) = .ok (.string (bst d)) (over w6 x) := fun x => conv_len _ A5 w6.heap.size c5 n5 d (HR6.out.below (over_below _ _)) HM.out
          rcases Decidable.em (c0 = 16) with e16 | e16
          case' inl =>
            rw [if_pos e16] at HRm
            have hcv2 : ∀ x, (convert 22 9 (.slice (some a0) (16 + n5 - 16) 0)).run Tryd.prog (over w6 x) = .ok (.string (bst d)) (over w6 x) := fun x => conv_len _ _ wz.heap.size 0 (16 + n5 - 16) d ((HRm.out.below HWz.out).below ((over_below _ _).mono HWz.out.size)) (by rw [HM.out]; omega)
            have hcv3 : ∀ x, (convert 22 9 (.slice (some a0) n5 0)).run Tryd.prog (over w6 x) = .ok (.string (bst d)) (over w6 x) := fun x => conv_len _ _ wz.heap.size 0 n5 d ((HRm.out.below HWz.out).below ((over_below _ _).mono HWz.out.size)) HM.out
            subst e16
          case' inr =>
            rw [if_neg e16] at HRm
            have hcv2 : ∀ x, (convert 22 9 (.slice (some ⟨a0.block, a0.off + 16, none⟩) (16 + n5 - 16) (c0 - 16))).run Tryd.prog (over w6 x) = .ok (.string (bst d)) (over w6 x) := fun x => conv_len _ _ wz.heap.size (c0 - 16) (16 + n5 - 16) d ((HRm.out.below HWz.out).below ((over_below _ _).mono HWz.out.size)) (by rw [HM.out]; omega)
            have hcv3 : ∀ x, (convert 22 9 (.slice (some ⟨a0.block, a0.off + 16, none⟩) n5 (c0 - 16))).run Tryd.prog (over w6 x) = .ok (.string (bst d)) (over w6 x) := fun x => conv_len _ _ wz.heap.size (c0 - 16) n5 d ((HRm.out.below HWz.out).below ((over_below _ _).mono HWz.out.size)) HM.out
          all_goals
            go_wp2
            refine region_over (by kernel_rfl) (by kernel_rfl) ?_
            repeat (go_big_quiet_step (fail))
            refine wpQuiet_nil ?_
            rintro w' ⟨x, rfl⟩
            have H7 : Hid (Below w.heap.size w (over w6 x)) := HW.out.trans ((over_below _ _).mono HW.out.size)
            generalize over w6 x = w7 at *
            go_wp2
            go_ret
            exact ⟨rfl, H7.out⟩
        · have hq := Sl.open1_old (age := age) (place := b) (l := l0) (by rw [hk]) (by rw [hk]; exact haa)
          have t2 : ((a : Int) != (age : Int)) = true := by simp; omega
          rw [hk] at HAG
          rw [hq] at HOP
          clear hk hq ho
          go_wp2_with (fail)
          refine (HOP.out _ H4.out).mono ?_
          rintro e5 w5 ⟨A5, n5, c5, rfl, HN5, HR5, HB5⟩
          obtain rfl : n5 = 0 := HN5.out.symm
          go_wp2_with (fail)
          refine (HAG.out _ (H4.out.trans (HB5.out.mono H4.out.size))).mono ?_
          rintro e6 w6 ⟨rfl, hb6⟩
          have HW : Hid (Below w.heap.size w w6) := HX.out.trans ((H4.out.trans ((HB5.out.trans (hb6.mono HB5.out.size)).mono H4.out.size)).mono HX.out.size)
          go_wp2
          go_ret
          exact ⟨rfl, HW.out⟩
      · have hk := Sl.looked_old ho hbp
        have hq := Sl.open1_no (age := age) (place := place) (l := l0) (by rw [hk]; simp)
        rw [hk] at hq HAG
        rw [hq] at HOP
        have t1 : ((b : Int) != (place : Int)) = true := by simp; omega
        clear hk hq ho
        by_cases haa : a = age
        · subst haa
          have t2 : ((a : Int) != (a : Int)) = false := by simp
          go_wp2_with (fail)
          refine (HOP.out _ H4.out).mono ?_
          rintro e5 w5 ⟨A5, n5, c5, rfl, HN5, HR5, HB5⟩
          obtain rfl : n5 = 0 := HN5.out.symm
          go_wp2_with (fail)
          refine (HAG.out _ (H4.out.trans (HB5.out.mono H4.out.size))).mono ?_
          rintro e6 w6 ⟨rfl, hb6⟩
          have HW : Hid (Below w.heap.size w w6) := HX.out.trans ((H4.out.trans ((HB5.out.trans (hb6.mono HB5.out.size)).mono H4.out.size)).mono HX.out.size)
          go_wp2
          go_ret
          exact ⟨rfl, HW.out⟩
        · have t2 : ((a : Int) != (age : Int)) = true := by simp; omega
          go_wp2_with (fail)
          refine (HOP.out _ H4.out).mono ?_
          rintro e5 w5 ⟨A5, n5, c5, rfl, HN5, HR5, HB5⟩
          obtain rfl : n5 = 0 := HN5.out.symm
          go_wp2_with (fail)
          refine (HAG.out _ (H4.out.trans (HB5.out.mono H4.out.size))).mono ?_
          rintro e6 w6 ⟨rfl, hb6⟩
          have HW : Hid (Below w.heap.size w w6) := HX.out.trans ((H4.out.trans ((HB5.out.trans (hb6.mono HB5.out.size)).mono H4.out.size)).mono HX.out.size)
          go_wp2
          go_ret
          exact ⟨rfl, HW.out⟩

theorem sealOpens_walk (A : Option Addr) (c : Nat) (l : List Int) (hc : l.length ≤ c) (w : World) (hr : Rd w .u8 w.heap.size A l) (hb : ∀ x ∈ l, (Lit.int .u8 x).wf = true) (age : Int) (wa : (Lit.int .u32 age).wf = true) (place : Int) (wp : (Lit.int .u32 place).wf = true) (whole : Bool) (ht : Tab w) :
    Calls Tryd.prog 5 #[.slice A l.length c, .int .u32 age, .int .u32 place, .bool whole] w fun e w' => e = .returned (.bool true) ∧ Below w.heap.size w w' := by
  by_cases h : 100 < l.length
  · exact sealOpens_long A c l.length age place whole w ht h
  · obtain ⟨a0, a1⟩ := wf_u32 wa
    obtain ⟨p0, p1⟩ := wf_u32 wp
    obtain ⟨a, rfl⟩ := Int.eq_ofNat_of_zero_le a0
    obtain ⟨p, rfl⟩ := Int.eq_ofNat_of_zero_le p0
    exact sealOpens_in A c l.length l a p whole w ht hr (fun x hx => wf_u8 (hb x hx)) rfl hc (by omega) (by omega) (by omega)
end Go.Proofs.YtpaodedkogndbaaDoor
