/-
  The walk of the law SealCloses: it returns true, whatever the input, and makes new blocks alone. Condition: the table holds what the program's text lays.
-/
import Derived.Test.YtpaodedkogndbaaDoorSlClosed
import Derived.Test.YtpaodedkogndbaaDoorRow
import Derived.Test.YtpaodedkogndbaaDoorLane
namespace Go.Proofs.YtpaodedkogndbaaDoor
open Go.ChangeShapes Go.WideShapes Go.ChangeAt Go.RowKit

set_option maxHeartbeats 1000000 in
theorem sealCloses_long (age place : Int) (A A' : Option Addr) (c c' n n' : Nat) (w : World) (ht : Tab w) (h : 300 < n ∨ 50 < n') :
    Calls Tryd.prog 4 #[.int .u32 age, .int .u32 place, .slice A n c, .slice A' n' c'] w fun e w' => e = .returned (.bool true) ∧ Below w.heap.size w w' := by
  have HT := Lib.hid ht
  by_cases h1 : 300 < n
  · have t : decide ((300 : Int) < (n : Int)) = true := by simp; omega
    clear h h1
    go_enter Tryd.func4, Tryd.ntmps4
    go_wp2_with (fail)
    refine (awake_any _ HT.out).mono ?_
    rintro e w1 ⟨rfl, hb1⟩
    go_wp2_with (fail)
    refine (awake_any _ (HT.out.below hb1)).mono ?_
    rintro e w2 ⟨rfl, hb2⟩
    go_wp2
    go_ret
    exact ⟨rfl, hb1.trans (hb2.mono hb1.size)⟩
  · have t : decide ((300 : Int) < (n : Int)) = false := by simp; omega
    have t2 : decide ((50 : Int) < (n' : Int)) = true := by simp; omega
    clear h h1
    go_enter Tryd.func4, Tryd.ntmps4
    go_wp2_with (fail)
    refine (awake_any _ HT.out).mono ?_
    rintro e w1 ⟨rfl, hb1⟩
    go_wp2_with (fail)
    refine (awake_any _ (HT.out.below hb1)).mono ?_
    rintro e w2 ⟨rfl, hb2⟩
    go_wp2
    go_ret
    exact ⟨rfl, hb1.trans (hb2.mono hb1.size)⟩

/-- A new slice, by the name of its length. -/
theorem Owned.open_n {w w' : World} {l : List Int} {e : Ending} (h : Owned w l e w') (n : Nat) (hn : l.length = n) :
    ∃ A c, e = .returned (.slice A n c) ∧ Hid (w'.ownsRow w.heap.size 5 1 (.slice A n c) n (cl .u8 l)) ∧ Hid (Below w.heap.size w w') ∧ Hid (Rd w' .u8 w'.heap.size A l) ∧ n ≤ c ∧ c ≤ maxLen := by
  subst hn
  obtain ⟨A, c, rfl, ho, hb, h1, h2⟩ := h
  exact ⟨A, c, rfl, ho, hb, Rd.own ho, h1, h2⟩

set_option maxHeartbeats 4000000 in
theorem sealCloses_in (age place : Nat) (A A' : Option Addr) (c c' n n' : Nat) (p more : List Int) (w : World) (ht : Tab w) (ha : age < 4294967296) (hp : place < 4294967296) (hr : Rd w .u8 w.heap.size A p) (hb : BytesOk p) (hn : p.length = n) (h : n ≤ 300) (hr' : Rd w .u8 w.heap.size A' more) (hb' : BytesOk more) (hn' : more.length = n') (h' : n' ≤ 50) :
    Calls Tryd.prog 4 #[.int .u32 age, .int .u32 place, .slice A n c, .slice A' n' c'] w fun e w' => e = .returned (.bool true) ∧ Below w.heap.size w w' := by
  have t : decide ((300 : Int) < (n : Int)) = false := by simp; omega
  have t2 : decide ((50 : Int) < (n' : Int)) = false := by simp; omega
  have HT := Lib.hid ht
  have HR := Lib.hid hr
  have HB := Lib.hid hb
  have HN := Lib.hid hn
  have HR' := Lib.hid hr'
  have HB' := Lib.hid hb'
  have HN' := Lib.hid hn'
  have HCL : Hid ((Sl.closed age place p).length = 16 + n) := by rw [← hn]; exact Sl.closed_len age place p
  have HQ := Lib.hid (Sl.open1_closed (a := age) (b := place) (p := p) more ha hp (by omega))
  have HK := Lib.hid (Sl.looked_closed (a := age) (b := place) (p := p) [] ha hp (by omega))
  rw [hn] at HQ HK
  rw [List.append_nil] at HK
  have HCB : Hid (BytesOk (Sl.closed age place p)) := closed_ok hb
  have HRC : Hid (∀ w', Below w.heap.size w w' → Calls Tryd.prog 14 #[.int .u32 age, .int .u32 place, .slice A n c] w' (Owned w' (Sl.closed age place p))) := fun w' hw => refClose_any age place A w.heap.size c n p w' ha hp (hr.below hw) hw.size hb hn (by omega)
  clear ht hr hb hn hr' hb' hn'
  go_enter Tryd.func4, Tryd.ntmps4
  go_wp2_with (fail)
  refine (awake_any _ HT.out).mono ?_
  rintro e w1 ⟨rfl, hb1⟩
  have H1 := Lib.hid hb1
  clear hb1
  go_wp2_with (fail)
  refine (close_any age place A w.heap.size c n p w1 (HT.out.below H1.out) ha hp (HR.out.below H1.out) H1.out.size HB.out HN.out (by omega)).mono ?_
  intro e w2 hO
  obtain ⟨A2, c2, rfl, HO2, HB2, HR2, hc2, _⟩ := hO.open_n (16 + n) HCL.out
  clear hO
  have H2 : Hid (Below w.heap.size w w2) := H1.out.trans (HB2.out.mono H1.out.size)
  have S2 := Lib.hid (Grew.start w2)
  generalize Sl.closed age place p = L at *
  go_wp2_with (first
    | (at_builtin; refine wpList_append_rd rfl _ _ rfl rfl w2.heap.size (.slice none 0 0) [] L _ A2 c2 rfl (by rw [HCL.out]; rfl) S2.out.own HR2.out (by rw [HCL.out]; simp; omega) (Nat.le_refl _) ?_; intro v3 w3 hg; have S3 : Hid (Grew w2 w2.heap.size (.slice none 0 0) L v3 w3) := S2.out.trans hg; clear hg)
    | (at_builtin; refine wpList_append_rd rfl _ _ rfl rfl w2.heap.size v3 L more _ A' c' rfl (by rw [HN'.out]; rfl) S3.out.own (HR'.out.below (H2.out.trans (S3.out.below0.mono H2.out.size))) (by rw [HCL.out, HN'.out]; omega) S3.out.grown.size ?_; intro v4 w4 hg; have S4 : Hid (Grew w2 w2.heap.size (.slice none 0 0) (L ++ more) v4 w4) := S3.out.trans hg; clear hg; obtain ⟨A4, c4, rfl, hc4, hm4⟩ := S4.out.open_ (16 + n + n') (by rw [List.length_append, HCL.out, HN'.out])))
  have H24 : Hid (Below w2.heap.size w2 w4) := S4.out.below0
  have H4 : Hid (Below w.heap.size w w4) := H2.out.trans (H24.out.mono H2.out.size)
  have L4 : Hid ((L ++ more).length = 16 + n + n') := by show _ = _; rw [List.length_append, HCL.out, HN'.out]
  have R4 : Hid (Rd w4 .u8 w4.heap.size A4 (L ++ more)) := Rd.own' S4.out.own L4.out
  refine (open_any age place A4 w4.heap.size c4 (16 + n + n') (L ++ more) w4 (HT.out.below H4.out) R4.out (Nat.le_refl _) (HCB.out.append HB'.out) L4.out hc4 (by omega)).mono ?_
  rw [HQ.out]
  rintro e w5 ⟨A5, n5, c5, rfl, HN5, HR5, HB5⟩
  obtain rfl : n = n5 := HN.out.symm.trans HN5.out
  have H25 : Hid (Below w2.heap.size w2 w5) := H24.out.trans (HB5.out.mono H24.out.size)
  have H5 : Hid (Below w.heap.size w w5) := H2.out.trans (H25.out.mono H2.out.size)
  clear S2 S3 S4 R4 L4
  go_wp2_with (fail)
  refine (age_any place A2 w2.heap.size c2 (16 + n) L w5 (HT.out.below H5.out) (HR2.out.below H25.out) H25.out.size HCB.out HCL.out hc2 (by omega)).mono ?_
  rw [HK.out]
  rintro e w6 ⟨rfl, hb6⟩
  have H56 := Lib.hid hb6
  have H26 : Hid (Below w2.heap.size w2 w6) := H25.out.trans (H56.out.mono H25.out.size)
  have H6 : Hid (Below w.heap.size w w6) := H2.out.trans (H26.out.mono H2.out.size)
  have HS6 : Hid (Rd w6 .u8 w2.heap.size A2 L) := HR2.out.below H26.out
  have HP6 : Hid (Rd w6 .u8 w.heap.size A p) := HR.out.below H6.out
  have HQ6 : Hid (Rd w6 .u8 w5.heap.size A5 p) := HR5.out.below H56.out
  clear hb6 HR5 HB5 HO2
  go_wp2
  have hS6 : ∀ w', Below w6.heap.size w6 w' → ((convert 22 9 (.slice A2 (16 + n) c2)).run Tryd.prog w' = .ok (.string (bst L)) w' ∧ (convert 22 9 (.slice A n c)).run Tryd.prog w' = .ok (.string (bst p)) w' ∧ (convert 22 9 (.slice A5 n c5)).run Tryd.prog w' = .ok (.string (bst p)) w') := fun w' hw =>
    ⟨conv_len _ A2 w2.heap.size c2 _ L (HS6.out.below (hw.mono H26.out.size)) HCL.out, conv_len _ A w.heap.size c _ p (HP6.out.below (hw.mono H6.out.size)) HN.out, conv_len _ A5 w5.heap.size c5 _ p (HQ6.out.below (hw.mono H56.out.size)) HN.out⟩
  have HS := Lib.hid hS6
  clear hS6
  refine lane_start (ord := [0, 1, 2, 3, 4, 5, 6, 7, 8, 9, 10, 12, 13, 11, 14, 15, 16, 17, 18, 19, 20, 21, 22, 23, 24, 25, 26, 27, 28, 29, 30, 31, 32, 33, 34, 35, 36, 37, 38, 39, 40, 41, 42]) (S := fun w' => (convert 22 9 (.slice A2 (16 + n) c2)).run Tryd.prog w' = .ok (.string (bst L)) w' ∧ (convert 22 9 (.slice A n c)).run Tryd.prog w' = .ok (.string (bst p)) w' ∧ (convert 22 9 (.slice A5 n c5)).run Tryd.prog w' = .ok (.string (bst p)) w') rfl (by kernel_rfl) (HS.out _ ((Below.refl _ _).drew)) (fun hHeld => ?_)
  repeat (first
    | (refine lane_skip rfl (by kernel_rfl) (by kernel_rfl) (by rfl) (by assumption) ?_; simp only [Act.put, List.setIfInBounds_toArray, List.set_cons_zero, List.set_cons_succ])
    | (refine lane_take (v := ?_) rfl (by kernel_rfl) (by kernel_rfl) (by rfl) ?_ (by assumption) ?_; rotate_left; (focus (intro w hSw; (try dsimp only at hSw); obtain ⟨hs1, hs2, hs3⟩ := hSw; go_simp; try (with_reducible rfl))); simp only [Act.put, List.setIfInBounds_toArray, List.set_cons_zero, List.set_cons_succ]))
  refine lane_alone rfl (by kernel_rfl) (by rfl) (fun K hK => ?_)
  go_simp
  go_wp2_with (go_at_call 14; refine (HRC.out _ (H6.out.trans (((Below.refl _ _).drew).mono H6.out.size))).mono ?_; intro e w7 hO; obtain ⟨A7, c7, rfl, HO7, HB7, HR7, hc7, _⟩ := hO.open_n (16 + n) HCL.out; clear hO)
  have H7 : Hid (Below w6.heap.size w6 w7) := ((Below.refl _ _).drew).trans HB7.out
  refine hK _ _ (HS.out _ H7.out) (fun hHeld => ?_)
  clear hK K
  have hcv8 := conv_len w7 A7 _ c7 (16 + n) L HR7.out HCL.out
  refine lane_alone rfl (by kernel_rfl) (by rfl) (fun K hK => ?_)
  go_simp
  refine hK _ _ (HS.out _ H7.out) (fun hHeld => ?_)
  clear hK K
  repeat (first
    | (refine lane_skip rfl (by kernel_rfl) (by kernel_rfl) (by rfl) (by assumption) ?_; simp only [Act.put, List.setIfInBounds_toArray, List.set_cons_zero, List.set_cons_succ])
    | (refine lane_take (v := ?_) rfl (by kernel_rfl) (by kernel_rfl) (by rfl) ?_ (by assumption) ?_; rotate_left; (focus (intro w hSw; (try dsimp only at hSw); obtain ⟨hs1, hs2, hs3⟩ := hSw; go_simp; try (with_reducible rfl))); simp only [Act.put, List.setIfInBounds_toArray, List.set_cons_zero, List.set_cons_succ]))
  refine lane_alone rfl (by kernel_rfl) (by rfl) (fun K hK => ?_)
  go_simp
  go_wp2_with (go_at_call 15; refine (size_any n _ (by omega)).mono ?_; rintro e w8 ⟨rfl, rfl⟩)
  refine hK _ _ (HS.out _ H7.out) (fun hHeld => ?_)
  clear hK K
  repeat (first
    | (refine lane_skip rfl (by kernel_rfl) (by kernel_rfl) (by rfl) (by assumption) ?_; simp only [Act.put, List.setIfInBounds_toArray, List.set_cons_zero, List.set_cons_succ])
    | (refine lane_take (v := ?_) rfl (by kernel_rfl) (by kernel_rfl) (by rfl) ?_ (by assumption) ?_; rotate_left; (focus (intro w hSw; (try dsimp only at hSw); obtain ⟨hs1, hs2, hs3⟩ := hSw; go_simp; try (with_reducible rfl))); simp only [Act.put, List.setIfInBounds_toArray, List.set_cons_zero, List.set_cons_succ]))
  refine lane_end (by kernel_rfl) ?_
  go_wp2
  go_ret
  exact ⟨rfl, H6.out.trans (H7.out.mono H6.out.size)⟩

theorem sealCloses_walk (age : Int) (wa : (Lit.int .u32 age).wf = true) (place : Int) (wp : (Lit.int .u32 place).wf = true) (A : Option Addr) (c : Nat) (p : List Int) (_ : p.length ≤ c) (w : World) (hr : Rd w .u8 w.heap.size A p) (hb : ∀ x ∈ p, (Lit.int .u8 x).wf = true) (A' : Option Addr) (c' : Nat) (q : List Int) (_ : q.length ≤ c') (hr' : Rd w .u8 w.heap.size A' q) (hb' : ∀ x ∈ q, (Lit.int .u8 x).wf = true) (ht : Tab w) :
    Calls Tryd.prog 4 #[.int .u32 age, .int .u32 place, .slice A p.length c, .slice A' q.length c'] w fun e w' => e = .returned (.bool true) ∧ Below w.heap.size w w' := by
  by_cases h : 300 < p.length ∨ 50 < q.length
  · exact sealCloses_long age place A A' c c' p.length q.length w ht h
  · obtain ⟨a0, a1⟩ := wf_u32 wa
    obtain ⟨p0, p1⟩ := wf_u32 wp
    obtain ⟨a, rfl⟩ := Int.eq_ofNat_of_zero_le a0
    obtain ⟨b, rfl⟩ := Int.eq_ofNat_of_zero_le p0
    exact sealCloses_in a b A A' c c' p.length q.length p q w ht (by omega) (by omega) hr (fun x hx => wf_u8 (hb x hx)) rfl (by omega) hr' (fun x hx => wf_u8 (hb' x hx)) rfl (by omega)
end Go.Proofs.YtpaodedkogndbaaDoor
