/-
  A reader asks: with one more sector as long as what it has is too short. No conditions but the sizes.
-/
import Derived.Test.YticefepcoemkoaaDoorAskAge
import Derived.BigQuiet
namespace Go.Proofs.YticefepcoemkoaaDoor
set_option maxRecDepth 20000
open Go.ChangeShapes Go.WideShapes Go.ChangeAt Go.RowKit

set_option maxHeartbeats 4000000 in
theorem askNext_any (w0 : World) (N R : Nat → Prop) (w : World) (g : Nat) (st : Pl.St) (m S : Nat) (f : Nat → List Int) (p n rb q k0 : Nat) (L : List Int) (ao : Option Addr) (len cap : Nat) (age place Xa Xp Xb Xs : Nat) (v0 v1 : Value)
    (h : Live w0 N w g st m) (hs : Pl.Sees st S f) (hf : Pl.Half f p n L) (hL : BytesOk L) (hp : p + n ≤ S) (hz : n ≤ 70) (ht : Lines w)
    (hrb : w.heap[rb]? = some (.cells #[.pointer (some ⟨g, 0, none⟩), .int .i64 p, .int .i64 n, .int .i64 k0, .slice ao len cap, .int .i64 q] 70 (0, 0))) (hrow : RowAt w R ao len cap ((L.take (k0 * 64)).drop q)) (hq : q ≤ k0 * 64) (hk : k0 ≤ n) (hnR : ¬ R rb)
    (hG : ∀ i, (fun i => i = rb ∨ R i ∨ i = Xb ∨ i = Xs) i → N i ∧ w0.heap.size ≤ i ∧ 0 < i) (hXa : w.cell? ⟨Xa, 0, none⟩ = some (.int .u32 age)) (hXp : w.cell? ⟨Xp, 0, none⟩ = some (.int .u32 place)) (hXb : Go.Boxed w Xb 31 v0) (hXs : Go.Boxed w Xs 3 v1) (hna : Xa < w.heap.size ∧ Xa ≠ rb ∧ ¬ R Xa ∧ Xa ≠ Xb ∧ Xa ≠ Xs) (hnp : Xp < w.heap.size ∧ Xp ≠ rb ∧ ¬ R Xp ∧ Xp ≠ Xb ∧ Xp ≠ Xs) (hnb : Xb ≠ rb ∧ ¬ R Xb) (hns : Xs ≠ rb ∧ ¬ R Xs) :
    Calls Tryd.prog 36 #[.pointer (some ⟨rb, 0, none⟩), .func (.func 45) #[] #[.pointer (some ⟨Xa, 0, none⟩), .pointer (some ⟨Xp, 0, none⟩), .pointer (some ⟨Xb, 0, none⟩), .pointer (some ⟨Xs, 0, none⟩)]] w fun e w' => ∃ (k : Nat) (ao' : Option Addr) (len' cap' : Nat), k0 ≤ k ∧ k ≤ n ∧ e = .returned (.int .i64 ((Sl.open1 age place ((L.take (k * 64)).drop q)).2.2 : Nat)) ∧ w'.heap[rb]? = some (.cells #[.pointer (some ⟨g, 0, none⟩), .int .i64 p, .int .i64 n, .int .i64 k, .slice ao' len' cap', .int .i64 q] 70 (0, 0)) ∧
      ∃ z, w.heap.size ≤ z ∧ z ≤ w'.heap.size ∧ RowAt w' (fun i => R i ∨ (w.heap.size ≤ i ∧ i < z)) ao' len' cap' ((L.take (k * 64)).drop q) ∧ ((Sl.open1 age place ((L.take (k * 64)).drop q)).2.2 ≠ 5 ∨ k = n) ∧ ((∃ A' n' c', Go.Boxed w' Xb 31 (.slice A' n' c') ∧ (Sl.open1 age place ((L.take (k * 64)).drop q)).1.length = n' ∧ w'.ownsRow z 5 1 (.slice A' n' c') n' (cl .u8 (Sl.open1 age place ((L.take (k * 64)).drop q)).1)) ∧ Go.Boxed w' Xs 3 (.int .i64 ((Sl.open1 age place ((L.take (k * 64)).drop q)).2.1 : Nat))) ∧ Turn (fun i => i = rb ∨ R i ∨ i = Xb ∨ i = Xs) w w' := by
  have HL0 := Lib.hid h
  have HSE := Lib.hid hs
  have HF := Lib.hid hf
  have HLB := Lib.hid hL
  have HT0 := Lib.hid ht
  have HG := Lib.hid hG
  have hLl := hf.len
  have hsz : S ≤ 1000 := by rw [← hs.size]; exact h.ok.size
  have hro := hs.calm.1
  have hrl := hrb
  have hrlt : rb < w.heap.size := (Array.getElem?_eq_some_iff.1 hrb).1
  have HROW := Lib.hid hrow
  have HRB := Lib.hid hrb
  have HW0 := h.old.size
  clear h hs hf hL ht hG hrb hrow hrl
  go_enter Tryd.func36, Tryd.ntmps36
  go_wp2
  go_loopw [5] (fun _ wr => ∃ (k : Nat) (ao' : Option Addr) (len' cap' : Nat) (va vb : Value), k0 ≤ k ∧ k ≤ n ∧ Hid (wr.heap[rb]? = some (.cells #[.pointer (some ⟨g, 0, none⟩), .int .i64 p, .int .i64 n, .int .i64 k, .slice ao' len' cap', .int .i64 q] 70 (0, 0))) ∧ Hid (RowAt wr (grow R w wr) ao' len' cap' ((L.take (k * 64)).drop q)) ∧ Hid (Turn (fun i => i = rb ∨ R i ∨ i = Xb ∨ i = Xs) w wr) ∧ Hid (Go.Boxed wr Xb 31 va ∧ Go.Boxed wr Xs 3 vb)) (fun _ wr => n - (intOf ((wr.cell? ⟨rb, 3, none⟩).getD undef)).toNat)
  case atStart => exact ⟨k0, ao, len, cap, v0, v1, Nat.le_refl _, hk, HRB.out, (HROW.out.wider fun _ h => .inl h), Turn.refl _ _, ⟨hXb, hXs⟩⟩
  case round =>
    obtain ⟨k, ao', len', cap', va, vb, hk1, hk2, HB, HR, HTU, HX⟩ := hrel
    have r0 : wr.cell? ⟨rb, 0, none⟩ = some (.pointer (some ⟨g, 0, none⟩)) := by rw [cell_of_row _ _ _ _ _ _ HB.out]; rfl
    have r1 : wr.cell? ⟨rb, 1, none⟩ = some (.int .i64 p) := by rw [cell_of_row _ _ _ _ _ _ HB.out]; rfl
    have r2 : wr.cell? ⟨rb, 2, none⟩ = some (.int .i64 n) := by rw [cell_of_row _ _ _ _ _ _ HB.out]; rfl
    have r3 : wr.cell? ⟨rb, 3, none⟩ = some (.int .i64 k) := by rw [cell_of_row _ _ _ _ _ _ HB.out]; rfl
    have r4 : wr.cell? ⟨rb, 4, none⟩ = some (.slice ao' len' cap') := by rw [cell_of_row _ _ _ _ _ _ HB.out]; rfl
    have HR3 := Lib.hid r3
    have HTL := Lib.hid (HT0.out.turn HTU.out fun i hi => (HG.out i hi).2.2)
    have hrlen := HR.out.len_
    have HRL := Lib.hid hrlen
    have HRW : Hid (len' = k * 64 - q) := by show _ = _; rw [← hrlen, List.length_drop, List.length_take]; omega
    have hcl := HR.out.le
    have hgr := HTU.out.size
    clear hrlen
    go_wp2_with (fail)
    have xa : wr.cell? ⟨Xa, 0, none⟩ = some (.int .u32 age) := (World.cell?_of_block (HTU.out.block Xa hna.1 (by rintro (h' | h' | h' | h') <;> simp_all))).trans hXa
    have xp : wr.cell? ⟨Xp, 0, none⟩ = some (.int .u32 place) := (World.cell?_of_block (HTU.out.block Xp hnp.1 (by rintro (h' | h' | h' | h') <;> simp_all))).trans hXp
    refine (nextQ_any wr age place ao' wr.heap.size cap' len' Xa Xp Xb Xs _ va vb HTL.out HR.out.rd (Nat.le_refl _) ((HLB.out.take _).drop _) HRL.out hcl (by have := HRW.out; omega) xa xp HX.out.1 HX.out.2).mono ?_
    rintro e w5 ⟨rfl, ⟨Ab, nb, cb, hxb, hnb5, hob⟩, hxs, ht5⟩
    have HX5 := Lib.hid (And.intro (⟨Ab, nb, cb, hxb, hnb5, hob⟩ : ∃ A' n' c', Go.Boxed w5 Xb 31 (.slice A' n' c') ∧ (Sl.open1 age place ((L.take (k * 64)).drop q)).1.length = n' ∧ w5.ownsRow wr.heap.size 5 1 (.slice A' n' c') n' (cl .u8 (Sl.open1 age place ((L.take (k * 64)).drop q)).1)) hxs)
    have HXB := Lib.hid hxb
    have HXS := Lib.hid hxs
    have hb5 := (ht5.block rb (by omega) (by rintro (h' | h'); exact hnb.1 h'.symm; exact hns.1 h'.symm)).trans HB.out
    have HR5 := Lib.hid (HR.out.kept (w' := w5) (fun i hi hlt => ht5.block i hlt fun e => by
      have := hXb.lt
      have := hXs.lt
      rcases hi with h' | h'
      · rcases e with e | e
        · exact hnb.2 (e ▸ h')
        · exact hns.2 (e ▸ h')
      · omega) ht5.size)
    have HT5 := Lib.hid (HTU.out.trans ht5 fun i hi => .inl (.inr (.inr hi)))
    clear xa xp hxb hnb5 hob hxs
    have HB5 := Lib.hid hb5
    have s0 : w5.cell? ⟨rb, 0, none⟩ = some (.pointer (some ⟨g, 0, none⟩)) := by rw [cell_of_row _ _ _ _ _ _ hb5]; rfl
    have s1 : w5.cell? ⟨rb, 1, none⟩ = some (.int .i64 p) := by rw [cell_of_row _ _ _ _ _ _ hb5]; rfl
    have s2 : w5.cell? ⟨rb, 2, none⟩ = some (.int .i64 n) := by rw [cell_of_row _ _ _ _ _ _ hb5]; rfl
    have s3 : w5.cell? ⟨rb, 3, none⟩ = some (.int .i64 k) := by rw [cell_of_row _ _ _ _ _ _ hb5]; rfl
    have s4 : w5.cell? ⟨rb, 4, none⟩ = some (.slice ao' len' cap') := by rw [cell_of_row _ _ _ _ _ _ hb5]; rfl
    have HG5 := Lib.hid (HR5.out.wider (R' := grow R w w5) fun i hi => by
      have := ht5.size
      rcases hi with h' | h'
      · exact .inl h'
      · exact .inr ⟨h'.1, by omega⟩)
    have HEQ : Hid (∃ E : Nat, E = (Sl.open1 age place ((L.take (k * 64)).drop q)).2.2) := ⟨_, rfl⟩
    obtain ⟨E, hE⟩ := HEQ.out
    rw [← hE]
    have HE := Lib.hid hE
    have HZ5 := Lib.hid ht5.size
    clear hb5 ht5 r0 r1 r2 r3 r4 hE HEQ
    go_wp2_with (fail)
    by_cases hE5 : E = 5
    · subst hE5
      by_cases hkn : k = n
      · subst hkn
        go_quiet (fail)
        go_wp2
        go_ret
        exact ⟨k, ao', len', cap', hk1, hk2, by rw [← HE.out]; rfl, HB5.out, wr.heap.size, hgr, HZ5.out, HR5.out.kept (fun _ _ _ => rfl) (Nat.le_refl _), .inr rfl, HX5.out, HT5.out.drewN _⟩
      · have hkn2 : k < n := by omega
        have t2 : ((k : Int) == n) = false := by simp; omega
        go_quiet (fail)
        clear t2
        go_wp2_with (fail)
        have hpk : p + k < 1000 := by omega
        have HWR : Hid (IntKind.i64.wrap ((p : Int) + k) = (p : Int) + k) := by show _ = _; rw [IntKind.wrap_i64]; omega
        refine lane_start (ord := [0, 1, 2, 3, 4, 5, 6, 7, 8, 9, 10, 11, 12, 13, 14, 15, 16, 17, 18, 19, 20]) (S := fun w' => w'.cell? ⟨rb, 0, none⟩ = some (.pointer (some ⟨g, 0, none⟩)) ∧ w'.cell? ⟨rb, 1, none⟩ = some (.int .i64 p) ∧ w'.cell? ⟨rb, 3, none⟩ = some (.int .i64 k)) rfl (by kernel_rfl) ⟨s0, s1, s3⟩ (fun hHeld => ?_)
        iterate 14 (refine lane_take (v := ?_) rfl (by kernel_rfl) (by kernel_rfl) (by rfl) ?_ (by assumption) ?_; rotate_left; (focus (intro W hSw; obtain ⟨hS0, hS1, hS3⟩ := hSw; go_simp; try (with_reducible rfl))); simp only [Act.put, List.setIfInBounds_toArray, List.set_cons_zero, List.set_cons_succ])
        refine lane_alone rfl (by kernel_rfl) (by rfl) (fun K hK => ?_)
        go_simp
        try go_wp2_with (fail)
        refine hK _ _ ⟨s0, s1, s3⟩ (fun _ => ?_)
        clear hK K
        refine lane_alone rfl (by kernel_rfl) (by rfl) (fun K hK => ?_)
        go_simp
        go_wp2_with (fail)
        try rw [HWR.out]
        have e1 : ((p : Int) + k) = ((p + k : Nat) : Int) := by omega
        rw [e1]
        clear e1
        have L5 := HL0.out.turn HT5.out (fun i _ h => (HG.out i h).1) (fun i h => (HG.out i h).2.1)
        have hrd := HSE.out.reads (p + k) (by omega)
        rw [HF.out.at_ k hkn2] at hrd
        refine (read_live (L5.below (Below.drewN' (Below.refl _ w5) _).drew) HSE.out.calm.1 (by omega) (by have := HSE.out.size; omega)).mono ?_
        intro e w7 hto
        rw [hrd] at hto
        obtain ⟨A7, c7, rfl, HR7, HB7, hc7, hc8, _⟩ := hto.open_
        have hb7 : Below w5.heap.size w5 w7 := (Below.drewN' (Below.refl _ w5) _).drew.trans HB7.out
        have hblk7 := (hb7.block rb (by have := HT5.out.size; omega)).trans HB5.out
        have u0 : w7.cell? ⟨rb, 0, none⟩ = some (.pointer (some ⟨g, 0, none⟩)) := by rw [cell_of_row _ _ _ _ _ _ hblk7]; rfl
        have u1 : w7.cell? ⟨rb, 1, none⟩ = some (.int .i64 p) := by rw [cell_of_row _ _ _ _ _ _ hblk7]; rfl
        have u3 : w7.cell? ⟨rb, 3, none⟩ = some (.int .i64 k) := by rw [cell_of_row _ _ _ _ _ _ hblk7]; rfl
        have u4 : w7.cell? ⟨rb, 4, none⟩ = some (.slice ao' len' cap') := by rw [cell_of_row _ _ _ _ _ _ hblk7]; rfl
        have hs64 : ((L.drop (k * 64)).take 64).length = 64 := by rw [List.length_take, List.length_drop]; omega
        obtain ⟨a7, rfl⟩ : ∃ a, A7 = some a := by obtain ⟨a, e, _⟩ := HR7.out.at_ (j := 0) (by omega); exact ⟨a, e⟩
        have hn7 : (L.drop (k * 64)).take 64 ≠ [] := fun e => by rw [e] at hs64; simp at hs64
        have hR7 := HG5.out.kept (w' := w7) (fun i hi hlt => hb7.block i hlt) hb7.size
        obtain ⟨ao8, cap8, w8, hrun, hR8, hT8⟩ := hR7.append (a := a7) (n := 64) (c := c7) hs64 (by obtain ⟨a, e, _, h⟩ := HR7.out hn7; injection e with e; subst e; exact h) (by omega) (by have := HRW.out; omega)
        have hngrow : ¬ grow R w w5 rb := by rintro (h' | h'); exact hnR h'; omega
        have hblk8 := (hT8.block rb (Array.getElem?_eq_some_iff.1 hblk7).1 hngrow).trans hblk7
        have hlrow : (L.take (k * 64)).drop q ++ (L.drop (k * 64)).take 64 = (L.take ((k + 1) * 64)).drop q := by
          rw [show (k + 1) * 64 = k * 64 + 64 by omega, List.take_add, List.drop_append_of_le_length (by rw [List.length_take]; omega)]
        rw [hlrow] at hR8
        have HT8 := Lib.hid ((HT5.out.trans (Turn.of_below (F := (fun i => i = rb ∨ R i ∨ i = Xb ∨ i = Xs)) hb7) fun i hi => .inl hi).trans hT8 fun i hi => by
          rcases hi with h' | h'
          · exact .inl (.inr (.inl h'))
          · exact .inr h'.1)
        have HR8 := Lib.hid (hR8.wider (R' := grow R w w8) fun i hi => by
          have := hT8.size
          have := hb7.size
          have := HT5.out.size
          rcases hi with (h' | h') | h'
          · exact .inl h'
          · exact .inr ⟨h'.1, by omega⟩
          · exact .inr ⟨by omega, h'.2⟩)
        have HRUN := Lib.hid hrun
        have HBX : Hid (Go.Boxed w8 Xb 31 (.slice Ab nb cb) ∧ Go.Boxed w8 Xs 3 (.int .i64 ((Sl.open1 age place ((L.take (k * 64)).drop q)).2.1 : Nat))) := ⟨(hT8.block Xb (by have := hb7.size; have := HT5.out.size; have := hXb.lt; omega) (by rintro (h' | h'); exact hnb.2 h'; have := hXb.lt; omega)).trans ((hb7.block Xb (by have := HT5.out.size; have := hXb.lt; omega)).trans HXB.out), (hT8.block Xs (by have := hb7.size; have := HT5.out.size; have := hXs.lt; omega) (by rintro (h' | h'); exact hns.2 h'; have := hXs.lt; omega)).trans ((hb7.block Xs (by have := HT5.out.size; have := hXs.lt; omega)).trans HXS.out)⟩
        clear hto hrd L5 HR7 HB7 hb7 hs64 hn7 hR7 hrun hR8 hT8 hngrow hlrow s0 s1 s2 s3 s4 hHeld HX5 HB5 HG5 HR5 HZ5 HX HB HR HTU HTL HRL hgr hcl
        obtain ⟨w9, rfl⟩ : ∃ w9, w8 = boxed w9 rb #[.pointer (some ⟨g, 0, none⟩), .int .i64 p, .int .i64 n, .int .i64 k, .slice ao' len' cap', .int .i64 q] 70 := ⟨w8, boxed_self hblk8⟩
        have hlt9 : rb < w9.heap.size := by have := (Array.getElem?_eq_some_iff.1 hblk8).1; rwa [boxed_size] at this
        clear hblk8 hblk7
        refine hK _ _ ⟨u0, u1, u3⟩ (fun _ => ?_)
        clear hK K
        iterate 5 (refine lane_take (v := ?_) rfl (by kernel_rfl) (by kernel_rfl) (by rfl) ?_ (by exact ⟨u0, u1, u3⟩) ?_; rotate_left; (focus (intro W hSw;  go_simp; try (with_reducible rfl))); simp only [Act.put, List.setIfInBounds_toArray, List.set_cons_zero, List.set_cons_succ])
        refine lane_end (by kernel_rfl) ?_
        clear u0 u1 u3
        go_wp2_with (at_builtin; refine wpList_value rfl (exec_append rfl rfl rfl HRUN.out) ?_)
        have hne : ∀ i, grow R w (boxed w9 rb #[.pointer (some ⟨g, 0, none⟩), .int .i64 p, .int .i64 n, .int .i64 k, .slice ao' len' cap', .int .i64 q] 70) i → i ≠ rb := fun i hi e => by
          subst e
          rcases hi with h' | h'
          · exact hnR h'
          · omega
        refine ⟨⟨k + 1, ao8, len' + 64, cap8, _, _, by omega, by omega, (by show (boxed w9 rb _ _).heap[rb]? = _; rw [boxed_block hlt9]; rfl), ?_, HT8.out.boxed (.inl rfl), ⟨((boxed_block_other hnb.1).trans ((boxed_block_other hnb.1).symm.trans HBX.out.1)), ((boxed_block_other hns.1).trans ((boxed_block_other hns.1).symm.trans HBX.out.2))⟩⟩, ?_⟩
        · refine RowAt.wider (R := grow R w (boxed w9 rb #[.pointer (some ⟨g, 0, none⟩), .int .i64 p, .int .i64 n, .int .i64 k, .slice ao' len' cap', .int .i64 q] 70)) (HR8.out.kept (fun i hi _ => by rw [boxed_block_other (hne i hi), boxed_block_other (hne i hi)]) (by rw [boxed_size, boxed_size]; exact Nat.le_refl _)) fun i hi => ?_
          rcases hi with h' | h'
          · exact .inl h'
          · exact .inr (by rw [boxed_size] at h' ⊢; exact h')
        · rw [HR3.out, boxed_cell hlt9]
          simp [intOf]; omega
    · have t1 : ((E : Int) != 5) = true := by simp; omega
      go_quiet (fail)
      go_wp2
      go_ret
      exact ⟨k, ao', len', cap', hk1, hk2, by rw [← HE.out]; rfl, HB5.out, wr.heap.size, hgr, HZ5.out, HR5.out.kept (fun _ _ _ => rfl) (Nat.le_refl _), .inl (by rw [← HE.out]; exact hE5), HX5.out, HT5.out.drewN _⟩
end Go.Proofs.YticefepcoemkoaaDoor
