/-
  Contracts of a plate's acts: Write, Flush, Fall, Read. No conditions but the sizes.
-/
import Derived.Test.YticefepcoemkoaaDoorPlSettle
namespace Go.Proofs.YticefepcoemkoaaDoor
set_option maxRecDepth 20000
open Go.ChangeShapes Go.WideShapes Go.ChangeAt Go.RowKit

theorem PlPost.from_ {w w1 w2 : World} {g : Nat} {F : Nat → Prop} {st : Pl.St} {m : Nat} {r : Value} {e : Ending} (hF : ∀ i, F i → i < w.heap.size) (ht : Turn F w w1) (h : PlPost w1 g F st m r e w2) : PlPost w g F st m r e w2 := by
  obtain ⟨h1, h2, h3⟩ := h
  have hs := ht.size
  refine ⟨h1, h2.more (fun i hi => ?_) (fun i hi => ?_), ht.trans (F' := F) h3 fun _ h => .inl h⟩
  · rcases hi with h' | h'
    · exact .inl h'
    · exact .inr ⟨by omega, h'.2⟩
  · rcases hi with h' | h'
    · have := hF i h'; have := h3.size; omega
    · exact h'.2
theorem PlPost.ret {w w' : World} {g : Nat} {F : Nat → Prop} {st : Pl.St} {m : Nat} {r r' : Value} {e : Ending} (h : PlPost w g F st m r e w') : PlPost w g F st m r' (.returned r') w' := ⟨rfl, h.2⟩
theorem pad_headed {b : List Int} {n : Nat} (h : b.length = n) : headed n b Pl.zs = Pl.pad b := by
  unfold headed Pl.pad Pl.zs
  rw [List.take_of_length_le (by omega), List.drop_replicate, h]

theorem put_no {st : Pl.St} {i : Int} {b : List Int} (h : st.there i = false ∨ 64 < b.length) : st.put i b = st ∧ st.putE i b = 1 := by unfold Pl.St.put Pl.St.putE; rw [if_pos h, if_pos h]; exact ⟨rfl, rfl⟩
theorem put_off {st : Pl.St} {i : Int} {b : List Int} (h : ¬ (st.there i = false ∨ 64 < b.length)) (ho : st.off = true) : st.put i b = st ∧ st.putE i b = 7 := by unfold Pl.St.put Pl.St.putE; rw [if_neg h, if_neg h, if_pos ho, if_pos ho]; exact ⟨rfl, rfl⟩
theorem put_goes {st : Pl.St} {i : Int} {b : List Int} (h : ¬ (st.there i = false ∨ 64 < b.length)) (ho : st.off = false) (hg : st.goes = true) : st.put i b = st.act.lay i (Pl.pad b) ∧ st.putE i b = 0 := by unfold Pl.St.put Pl.St.putE; rw [if_neg h, if_neg h, ho, hg]; exact ⟨rfl, rfl⟩
theorem put_stops {st : Pl.St} {i : Int} {b : List Int} (h : ¬ (st.there i = false ∨ 64 < b.length)) (ho : st.off = false) (hg : st.goes = false) : st.put i b = st.act.tear i (Pl.pad b) ∧ st.putE i b = 7 := by unfold Pl.St.put Pl.St.putE; rw [if_neg h, if_neg h, ho, hg]; exact ⟨rfl, rfl⟩

set_option maxRecDepth 20000 in
set_option maxHeartbeats 1600000 in
theorem write_any (w : World) (g : Nat) (F : Nat → Prop) (st : Pl.St) (m : Nat) (i : Int) (A : Option Addr) (n c B : Nat) (b : List Int) (h : PlB w g F st m) (hm : m + 2 ≤ 100000) (hr : Rd w .u8 B A b) (hB : B ≤ w.heap.size) (hn : b.length = n) (hb : ∀ x ∈ b, 0 ≤ x ∧ x < 256) :
    Calls Tryd.prog 49 #[.pointer (some ⟨g, 0, none⟩), .int .i64 i, .slice A n c] w (PlPost w g F (st.put i b) (m + 2) (.int .i64 (st.putE i b))) := by
  have hF := h.lt
  have H := Lib.hid h
  have HR := Lib.hid hr
  have HFIN : Hid (∀ r, st.put i b = st → PlPost w g F (st.put i b) (m + 2) r (.returned r) w) := fun r e => by rw [e]; exact (PlPost.same h).mono (by omega) hm
  have hoff : w.cell? ⟨g, 6, none⟩ = some (.bool st.off) := by
    obtain ⟨ms, ml, be, v, fs, fl, k, h'⟩ := h
    rw [cell_of_row _ _ _ _ _ _ h'.blk]; rfl
  clear h hr
  cases ht : st.there i
  · have HP := Lib.hid (put_no (b := b) (.inl ht)).1
    have HE := Lib.hid (put_no (b := b) (.inl ht)).2
    go_enter Tryd.func49, Tryd.ntmps49
    go_wp2_with (go_at_call 33; refine (there_any _ _ _ _ _ _ H.out).mono ?_; rintro e w' ⟨rfl, rfl⟩)
    go_ret
    rw [HE.out]
    exact HFIN.out _ HP.out
  · cases hl : decide (64 < n)
    · have hl' : n ≤ 64 := by simpa using hl
      have d64 : decide ((64 : Int) < (n : Int)) = false := by simp; omega
      have hno : ¬ (st.there i = false ∨ 64 < b.length) := by rintro (h' | h'); rw [ht] at h'; cases h'; omega
      have hth := Pl.there_iff.1 ht
      have hpd : Pl.Sec (Pl.pad b) := Pl.sec_pad (by omega) hb
      have hB1 : Below w.heap.size w (w.alloc (.cells (arr (Pl.pad b)) 67)) := (Below.refl _ _).alloc (Nat.le_refl _) _
      have H1 := Lib.hid (H.out.below hB1)
      have HT1 : Hid (Turn F w (w.alloc (.cells (arr (Pl.pad b)) 67))) := Turn.of_below hB1
      clear hB1
      cases ho : st.off
      · cases hgo : st.goes
        · have HP := Lib.hid (put_stops hno ho hgo).1
          have HE := Lib.hid (put_stops hno ho hgo).2
          clear hno
          rw [HE.out]
          go_enter Tryd.func49, Tryd.ntmps49
          go_wp2_with (first | (go_at_call 33; refine (there_any _ _ _ _ _ _ H.out).mono ?_; rintro e w' ⟨rfl, rfl⟩) | (refine wpList_arr_alloc rfl 67 rfl Pl.zs zero63 ?_) | (refine wpList_arr_copy rfl _ _ 31 31 rfl 5 Tryd.underlying31 size5 w.heap.size 64 64 rfl A n c rfl Pl.zs 67 alloc_block B b (HR.out.below ((Below.refl _ _).alloc hB _)) hn (by rw [Pl.sec_zs.1]; exact Nat.le_refl _) n (Nat.min_eq_left hl') ?_; rw [boxed_new, pad_headed hn]))
          refine (act_any _ _ _ _ _ H1.out (by omega)).mono ?_
          rintro e w2 ⟨⟨rfl, hp2, ht2⟩, hs2⟩
          have HP2 : Hid (PlB w2 g F st.act (m + 1)) := by rw [grow_same hs2] at hp2; exact hp2
          have HT2 := Lib.hid (HT1.out.trans (F' := F) ht2 fun _ h => .inl h)
          have HB2 : Hid (w2.heap[w.heap.size]? = some (.cells (arr (Pl.pad b)) 67 (0, 0))) := by
            have := ht2.block w.heap.size (by rw [World.size_alloc]; omega) (fun hf => absurd (hF _ hf) (Nat.lt_irrefl _))
            rw [this]; exact alloc_block
          clear hp2 ht2 hs2
          go_wp2_with (first | (refine wpList_arr_load rfl 67 _ rfl w.heap.size 0 rfl (Pl.pad b) 64 _ Tryd.underlying67 size63 hpd.1 (range_arr HB2.out) ?_) | (go_at_call 58; refine (tear_any _ _ _ _ _ _ _ HP2.out (by omega) hth.1 (by rw [Pl.act_safe]; exact hth.2) hpd).mono ?_; rintro e w3 ⟨rfl, hp3, ht3⟩))
          go_ret
          rw [HP.out]
          exact PlPost.from_ hF HT2.out ⟨rfl, hp3, ht3⟩
        · have HP := Lib.hid (put_goes hno ho hgo).1
          have HE := Lib.hid (put_goes hno ho hgo).2
          clear hno
          rw [HE.out]
          go_enter Tryd.func49, Tryd.ntmps49
          go_wp2_with (first | (go_at_call 33; refine (there_any _ _ _ _ _ _ H.out).mono ?_; rintro e w' ⟨rfl, rfl⟩) | (refine wpList_arr_alloc rfl 67 rfl Pl.zs zero63 ?_) | (refine wpList_arr_copy rfl _ _ 31 31 rfl 5 Tryd.underlying31 size5 w.heap.size 64 64 rfl A n c rfl Pl.zs 67 alloc_block B b (HR.out.below ((Below.refl _ _).alloc hB _)) hn (by rw [Pl.sec_zs.1]; exact Nat.le_refl _) n (Nat.min_eq_left hl') ?_; rw [boxed_new, pad_headed hn]))
          refine (act_any _ _ _ _ _ H1.out (by omega)).mono ?_
          rintro e w2 ⟨⟨rfl, hp2, ht2⟩, hs2⟩
          have HP2 : Hid (PlB w2 g F st.act (m + 1)) := by rw [grow_same hs2] at hp2; exact hp2
          have HT2 := Lib.hid (HT1.out.trans (F' := F) ht2 fun _ h => .inl h)
          have HB2 : Hid (w2.heap[w.heap.size]? = some (.cells (arr (Pl.pad b)) 67 (0, 0))) := by
            have := ht2.block w.heap.size (by rw [World.size_alloc]; omega) (fun hf => absurd (hF _ hf) (Nat.lt_irrefl _))
            rw [this]; exact alloc_block
          clear hp2 ht2 hs2
          go_wp2_with (first | (refine wpList_arr_load rfl 67 _ rfl w.heap.size 0 rfl (Pl.pad b) 64 _ Tryd.underlying67 size63 hpd.1 (range_arr HB2.out) ?_) | (go_at_call 59; refine (lay_any _ _ _ _ _ _ _ HP2.out (by omega) hth.1 (by rw [Pl.act_safe]; exact hth.2) hpd).mono ?_; rintro e w3 ⟨rfl, hp3, ht3⟩))
          go_ret
          rw [HP.out]
          exact PlPost.from_ hF HT2.out ⟨rfl, hp3, ht3⟩
      · have HP := Lib.hid (put_off hno ho).1
        have HE := Lib.hid (put_off hno ho).2
        go_enter Tryd.func49, Tryd.ntmps49
        go_wp2_with (go_at_call 33; refine (there_any _ _ _ _ _ _ H.out).mono ?_; rintro e w' ⟨rfl, rfl⟩)
        go_ret
        rw [HE.out]
        exact HFIN.out _ HP.out
    · have d64 : decide ((64 : Int) < (n : Int)) = true := by simp at hl ⊢; omega
      have HP := Lib.hid (put_no (st := st) (i := i) (b := b) (.inr (by simp at hl; omega))).1
      have HE := Lib.hid (put_no (st := st) (i := i) (b := b) (.inr (by simp at hl; omega))).2
      go_enter Tryd.func49, Tryd.ntmps49
      go_wp2_with (go_at_call 33; refine (there_any _ _ _ _ _ _ H.out).mono ?_; rintro e w' ⟨rfl, rfl⟩)
      go_ret
      rw [HE.out]
      exact HFIN.out _ HP.out
end Go.Proofs.YticefepcoemkoaaDoor
