/-
  The walk of the law PlateNil: it returns true, whatever the input, and makes new blocks alone. No conditions.
-/
import Derived.Test.YtnplnggkeekedaaPlTornWalk
import Derived.Test.YtnplnggkeekedaaPlSame
namespace Go.Proofs.Ytnplnggkeekedaa
open Go.ChangeShapes Go.WideShapes Go.ChangeAt Go.RowKit

theorem same_nil {w0 : World} {N : Nat → Prop} {w : World} {g : Nat} {st : Pl.St} {m : Nat} (h : Live w0 N w g st m) (h0 : st.safe.length = 0) :
    Calls Try.prog 19 #[.pointer none, .pointer (some ⟨g, 0, none⟩)] w fun e w' => e = .returned (.bool true) ∧ w = w' := by
  have H := Lib.hid h
  have hz : ((st.safe.length : Nat) : Int) = 0 := by omega
  have HZ := Lib.hid hz
  clear h h0 hz
  go_enter Try.func19, Try.ntmps19
  go_wp2_with (fail)
  refine (size_nil _).mono ?_
  rintro e w' ⟨rfl, rfl⟩
  go_wp2_with (fail)
  refine (size_live H.out).mono ?_
  rw [HZ.out]
  rintro e w' ⟨rfl, rfl⟩
  go_wp2_with (fail)
  refine (size_nil _).mono ?_
  rintro e w' ⟨rfl, rfl⟩
  go_wp2_with (fail)
  go_ret
  exact ⟨rfl, rfl⟩

theorem nil1 {b : List Int} (h : b.length ≤ 64) : ((((Pl.St.new 1).put 0 b).safe.length : Nat) : Int) = 1 ∧ ((Pl.St.new 1).put 0 b).off = false ∧ ((Pl.St.new 1).put 0 b).read 0 = Pl.pad b := by
  have hno : ¬ ((Pl.St.new 1).there 0 = false ∨ 64 < b.length) := by rintro (h' | h'); exact absurd h' (by decide); omega
  rw [(put_goes hno rfl rfl).1]; exact ⟨rfl, rfl, rfl⟩
theorem wpList_append_len {w : World} {ops : Array Oper} {rest : List Oper} {o : Oper} {a : Act} {Q : Exit → Act → World → Prop} (hgd : o.guard = none) (s x : Operand)
    (ho : o.op = .call { callee := .builtin .append, args := #[s, x], argTypes := #[31, 31] }) (hty : o.type = 31)
    (v : Value) (l news : List Int) (B : Nat) (A : Option Addr) (c m base : Nat) (hsv : a.eval s = v) (hx : a.eval x = .slice A m c) (hm : news.length = m) (hown : w.ownsRow base 5 1 v l.length (cl .u8 l)) (hr : Rd w .u8 B A news)
    (hs : l.length + m ≤ 1000000) (hbase : base ≤ w.heap.size)
    (h : ∀ v' w', Grew w base v (l ++ news) v' w' → wpList Try.prog ops Q rest (a.put o.dst v') w') : wpList Try.prog ops Q (o :: rest) a w := by
  subst hm
  exact wpList_append_rd hgd s x ho hty base v l news B A c hsv hx hown hr hs hbase h
/-- The first cell of a row of the call's own is turned. -/
theorem own_first {w : World} {base n : Nat} {v : Value} {l : List Int} (h : w.ownsRow base 5 1 v n (cl .u8 l)) (hn : l.length = n) (h0 : 0 < n) :
    ∃ q c cur, v = .slice (some ⟨q, 0, none⟩) n c ∧ n ≤ c ∧ base ≤ q ∧ q < w.heap.size ∧ w = boxed w q cur 5 ∧ cur[0]? = some (.int .u8 (l.headD 0)) := by
  rcases h.2 with ⟨_, hz⟩ | ⟨q, cap, cur, hv, hb, hg, hc, _, hsz, ht⟩
  · omega
  · refine ⟨q, cap, cur, hv, hc, hb, (Array.getElem?_eq_some_iff.1 hg).1, boxed_self hg, ?_⟩
    have h1 := congrArg (·[0]?) ht
    rw [Nat.mul_one] at h1
    simp only [List.getElem?_take, if_pos h0] at h1
    rcases l with _ | ⟨x, r⟩
    · simp at hn; omega
    · simpa [cl] using h1

set_option maxHeartbeats 1600000 in
theorem plateNil_far (at_ k : Int) (A : Option Addr) (n c : Nat) (w : World) (h : n = 0 ∨ 64 < n) :
    Calls Try.prog 7 #[.int .i64 at_, .int .i64 k, .slice A n c] w fun e w' => e = .returned (.bool true) ∧ Below w.heap.size w w' := by
  cases d1 : ((n : Int) == 0)
  · have d2 : decide ((64 : Int) < (n : Int)) = true := by simp at d1 ⊢; omega
    go_enter Try.func7, Try.ntmps7
    go_wp2_with (fail)
    refine (awake_any _).mono ?_
    rintro e w1 ⟨rfl, hb1⟩
    go_wp2_with (fail)
    refine (awake_any _).mono ?_
    rintro e w2 ⟨rfl, hb2⟩
    go_wp2
    go_ret
    exact ⟨rfl, hb1.trans (hb2.mono hb1.size)⟩
  · go_enter Try.func7, Try.ntmps7
    go_wp2_with (fail)
    refine (awake_any _).mono ?_
    rintro e w1 ⟨rfl, hb1⟩
    go_wp2_with (fail)
    refine (awake_any _).mono ?_
    rintro e w2 ⟨rfl, hb2⟩
    go_wp2
    go_ret
    exact ⟨rfl, hb1.trans (hb2.mono hb1.size)⟩

set_option maxHeartbeats 3200000 in
theorem plateNil_in (at_ k : Int) (A : Option Addr) (n c : Nat) (b : List Int) (w : World) (hr : Rd w .u8 w.heap.size A b) (hb : BytesOk b) (hn : b.length = n) (h0 : 0 < n) (h : n ≤ 64) :
    Calls Try.prog 7 #[.int .i64 at_, .int .i64 k, .slice A n c] w fun e w' => e = .returned (.bool true) ∧ Below w.heap.size w w' := by
  have d1 : ((n : Int) == 0) = false := by rw [beq_eq_false_iff_ne]; omega
  have d2 : decide ((64 : Int) < (n : Int)) = false := by simp; omega
  have HR := Lib.hid hr
  have HB := Lib.hid hb
  have HN := Lib.hid hn
  clear hr hb hn
  go_enter Try.func7, Try.ntmps7
  go_wp2_with (fail)
  refine (awake_any _).mono ?_
  rintro e w1 ⟨rfl, hb1⟩
  have HB1 := Lib.hid hb1
  clear hb1
  go_wp2_with (first | (go_at_call 17; refine (arm_nil _ _ _).mono ?_; rintro e w' ⟨rfl, rfl⟩) | (go_at_call 15; refine (fall_nil _ _).mono ?_; rintro e w' ⟨rfl, rfl⟩) | (go_at_call 16; refine (read_nil _ _).mono ?_; rintro e w' ⟨rfl, rfl⟩))
  refine (new_live (w0 := w) (N := fun _ => False) _ 1 (by omega) HB1.out (fun _ h => h.elim)).mono ?_
  rintro e w2 ⟨rfl, h2, hb2⟩
  generalize w1.heap.size + 2 = g at *
  go_wp2_with (at_builtin; refine wpList_append_len rfl _ _ rfl rfl (.slice none 0 0) [] b w.heap.size A c n w2.heap.size rfl rfl HN.out (World.ownsRow_nil _ _ _ _) (HR.out.below h2.old) (by simp; omega) (Nat.le_refl _) ?_; intro v3 w3 hg3)
  have hb3 := hg3.below0
  have ho3 : w3.ownsRow w2.heap.size 5 1 v3 n (cl .u8 b) := by have := hg3.own; rw [List.nil_append, HN.out] at this; exact this
  obtain ⟨q, c3, _, rfl, hqc, hq1, hq2, _⟩ := own_first ho3 HN.out h0
  have h3 := h2.more hb3
  have hN3 : ∀ i, (False ∨ (w2.heap.size ≤ i ∧ i < w3.heap.size)) → i < w3.heap.size := fun i hi => by rcases hi with h | h; exact h.elim; exact h.2
  have hz2 := h2.old.size
  clear h2 hg3
  refine (write_live (b := b) (B := w3.heap.size) h3 hN3 (by omega) (Rd.own' ho3 rfl) (Nat.le_refl _) HN.out HB.out).mono ?_
  rintro e w4 ⟨rfl, h4, k4⟩
  have ho4 := own_kept ho3 (w' := w4) fun i hi => by
    obtain rfl : q = i := by simpa [Value.ownBlock] using hi
    exact k4.block q (.inr ⟨hq1, hq2⟩)
  obtain ⟨q', c', cur, hv, _, _, hq4, hw4, hcur⟩ := own_first ho4 HN.out h0
  injection hv with e1 _ _
  injection e1 with e1
  injection e1 with e1 _ _
  subst e1
  have hz3 := k4.size
  clear k4 ho3 ho4 h3
  obtain ⟨w5, rfl, hq5⟩ : ∃ w5, w4 = boxed w5 q cur 5 ∧ q < w5.heap.size := ⟨w4, hw4, hq4⟩
  have HL4 := Lib.hid h4
  generalize b.headD 0 = x0 at hcur
  clear hw4 h4 hq4
  have h0' : (0 : Int) < n := by omega
  go_wp2_with (fail)
  have H5 : ∀ cur', Live w (fun i => False ∨ (w2.heap.size ≤ i ∧ i < w3.heap.size)) (boxed w5 q cur' 5) g ((Pl.St.new 1).put 0 b) 2 := fun cur' =>
    HL4.out.turned (by rw [boxed_size, boxed_size]; exact Nat.le_refl _) (fun i hi => by
      have : i ≠ q := fun e => hi (.inr (by omega))
      rw [boxed_block_other this, boxed_block_other this]) (boxed_below (below_boxed HL4.out.old (by omega)) (by omega))
  have HNL := Lib.hid (nil1 (b := b) (by rw [HN.out]; exact h))
  have hl5 := H5 (cur.setIfInBounds 0 (.int .u8 ((x0 + 1) % 256)))
  clear H5 HL4
  have hz5 : w3.heap.size ≤ (boxed w5 q (cur.setIfInBounds 0 (.int .u8 ((x0 + 1) % 256))) 5).heap.size := by rw [boxed_size] at hz3 ⊢; exact hz3
  generalize boxed w5 q (cur.setIfInBounds 0 (.int .u8 ((x0 + 1) % 256))) 5 = w6 at *
  refine (read_live hl5 HNL.out.2.1 (by omega) (by rw [HNL.out.1]; omega)).mono ?_
  intro e w7 ht
  rw [HNL.out.2.2] at ht
  have hpb : Pl.Sec (Pl.pad b) := Pl.sec_pad (by rw [HN.out]; exact h) HB.out
  obtain ⟨A7, c7, rfl, HR7, HB7, hc71, hc72, HO7⟩ := ht.open_
  have h7 := hl5.more HB7.out
  obtain ⟨q7, c7', cur7, hv7, _, hq71, hq72, hw7, hcur7⟩ := own_first HO7.out hpb.1 (by omega)
  injection hv7 with e1 _ _
  subst e1
  generalize (Pl.pad b).headD 0 = x7 at hcur7
  obtain ⟨w8, hw8, hq8⟩ : ∃ w8, w7 = boxed w8 q7 cur7 5 ∧ q7 < w8.heap.size := ⟨w7, hw7, hq72⟩
  have hz7 := HB7.out.size
  clear hw7 ht hl5 HR7 HO7 HB7 hq72
  subst hw8
  have HL7 := Lib.hid h7
  have hzo := h7.old.size
  clear h7
  go_wp2_with (fail)
  rw [boxed_size] at hz7
  have hl8 : Live w (fun i => (False ∨ (w2.heap.size ≤ i ∧ i < w3.heap.size)) ∨ (w6.heap.size ≤ i ∧ i < w8.heap.size)) (boxed w8 q7 (cur7.setIfInBounds 0 (.int .u8 ((x7 + 1) % 256))) 5) g ((Pl.St.new 1).put 0 b) 2 := by
    have hl := HL7.out
    rw [boxed_size] at hl
    refine hl.turned (by rw [boxed_size, boxed_size]; exact Nat.le_refl _) (fun i hi => ?_) (boxed_below (below_boxed hl.old (by omega)) (by omega))
    have : i ≠ q7 := fun e => hi (.inr (by omega))
    rw [boxed_block_other this, boxed_block_other this]
  generalize boxed w8 q7 (cur7.setIfInBounds 0 (.int .u8 ((x7 + 1) % 256))) 5 = w9 at *
  refine (read_live hl8 HNL.out.2.1 (by omega) (by rw [HNL.out.1]; omega)).mono ?_
  intro e w10 ht
  rw [HNL.out.2.2] at ht
  obtain ⟨A10, c10, rfl, HR10, HB10, hc101, hc102, HO10⟩ := ht.open_
  have HOLD := Lib.hid (hl8.old.trans (HB10.out.mono hl8.old.size))
  have hzf := HOLD.out.size
  have HK : Hid (∀ W, Below w10.heap.size w10 W → (convert 31 9 (.slice A10 n c10)).run Try.prog W = .ok (.string (bst b)) W ∧ (convert 31 9 (.slice A n c)).run Try.prog W = .ok (.string (bst b)) W) := fun W hW => by
    have htk : (Pl.pad b).take n = b := by unfold Pl.pad; rw [← HN.out, List.take_left]
    have h1 := (HR10.out.below hW).take n
    rw [htk] at h1
    exact ⟨conv_len W A10 _ c10 n b h1 HN.out, conv_len W A _ c n b ((HR.out.below HOLD.out).below (hW.mono hzf)) HN.out⟩
  clear hl8 ht HR10 HO10 HL7
  have hk10 := HK.out w10 (Below.refl _ _)
  have hnc : n ≤ c10 := by omega
  go_wp2_with (fail)
  refine lane_start (ord := [0, 1, 2, 3, 4, 5, 6, 7, 8, 9, 10, 11, 12, 13, 14, 15, 16, 17, 18, 19, 20, 22, 25, 21, 23, 24, 26, 27, 28, 29, 30, 31, 32, 33, 34, 35, 36, 37, 38, 39, 40, 41, 42, 43, 44, 45, 46, 47, 48, 49, 50]) (S := fun W => Below w10.heap.size w10 W) rfl (by kernel_rfl) (Below.refl _ _).drew (fun hHeld => ?_)
  clear hk10
  iterate 3 (refine lane_take (v := ?_) rfl (by kernel_rfl) (by kernel_rfl) (by rfl) ?_ (by assumption) ?_; rotate_left; (focus (intro W hSw; have hk := HK.out W hSw; obtain ⟨hk1, hk2⟩ := hk; go_simp; try (with_reducible rfl))); simp only [Act.put, List.setIfInBounds_toArray, List.set_cons_zero, List.set_cons_succ])
  refine lane_alone rfl (by kernel_rfl) (by rfl) (fun K hK => ?_)
  go_simp
  go_wp2_with (go_at_call 13; refine (write_nil _ _ _ _ _).mono ?_; rintro e w' ⟨rfl, rfl⟩)
  refine hK _ _ hHeld (fun hHeld => ?_)
  clear hK K
  iterate 3 (refine lane_take (v := ?_) rfl (by kernel_rfl) (by kernel_rfl) (by rfl) ?_ (by assumption) ?_; rotate_left; (focus (intro W hSw; have hk := HK.out W hSw; obtain ⟨hk1, hk2⟩ := hk; go_simp; try (with_reducible rfl))); simp only [Act.put, List.setIfInBounds_toArray, List.set_cons_zero, List.set_cons_succ])
  refine lane_alone rfl (by kernel_rfl) (by rfl) (fun K hK => ?_)
  go_simp
  go_wp2_with (go_at_call 14; refine (flush_nil _).mono ?_; rintro e w' ⟨rfl, rfl⟩)
  refine hK _ _ hHeld (fun hHeld => ?_)
  clear hK K
  iterate 8 (refine lane_take (v := ?_) rfl (by kernel_rfl) (by kernel_rfl) (by rfl) ?_ (by assumption) ?_; rotate_left; (focus (intro W hSw; have hk := HK.out W hSw; obtain ⟨hk1, hk2⟩ := hk; go_simp; try (with_reducible rfl))); simp only [Act.put, List.setIfInBounds_toArray, List.set_cons_zero, List.set_cons_succ])
  refine lane_alone rfl (by kernel_rfl) (by rfl) (fun K hK => ?_)
  go_simp
  go_wp2_with (go_at_call 18; refine (on_nil _).mono ?_; rintro e w' ⟨rfl, rfl⟩)
  refine hK _ _ hHeld (fun hHeld => ?_)
  clear hK K
  iterate 6 (refine lane_take (v := ?_) rfl (by kernel_rfl) (by kernel_rfl) (by rfl) ?_ (by assumption) ?_; rotate_left; (focus (intro W hSw; have hk := HK.out W hSw; obtain ⟨hk1, hk2⟩ := hk; go_simp; try (with_reducible rfl))); simp only [Act.put, List.setIfInBounds_toArray, List.set_cons_zero, List.set_cons_succ])
  refine lane_alone rfl (by kernel_rfl) (by rfl) (fun K hK => ?_)
  go_simp
  go_wp2_with (go_at_call 20; refine (size_nil _).mono ?_; rintro e w' ⟨rfl, rfl⟩)
  refine hK _ _ hHeld (fun hHeld => ?_)
  clear hK K
  refine lane_alone rfl (by kernel_rfl) (by rfl) (fun K hK => ?_)
  go_simp
  go_wp2_with (go_at_call 21; refine (acts_nil _).mono ?_; rintro e w' ⟨rfl, rfl⟩)
  refine hK _ _ hHeld (fun hHeld => ?_)
  clear hK K
  iterate 1 (refine lane_take (v := ?_) rfl (by kernel_rfl) (by kernel_rfl) (by rfl) ?_ (by assumption) ?_; rotate_left; (focus (intro W hSw; have hk := HK.out W hSw; obtain ⟨hk1, hk2⟩ := hk; go_simp; try (with_reducible rfl))); simp only [Act.put, List.setIfInBounds_toArray, List.set_cons_zero, List.set_cons_succ])
  refine lane_alone rfl (by kernel_rfl) (by rfl) (fun K hK => ?_)
  go_simp
  go_wp2_with (go_at_call 22; refine (wet_nil _).mono ?_; rintro e w' ⟨rfl, rfl⟩)
  refine hK _ _ hHeld (fun hHeld => ?_)
  clear hK K
  iterate 5 (refine lane_take (v := ?_) rfl (by kernel_rfl) (by kernel_rfl) (by rfl) ?_ (by assumption) ?_; rotate_left; (focus (intro W hSw; have hk := HK.out W hSw; obtain ⟨hk1, hk2⟩ := hk; go_simp; try (with_reducible rfl))); simp only [Act.put, List.setIfInBounds_toArray, List.set_cons_zero, List.set_cons_succ])
  refine lane_alone rfl (by kernel_rfl) (by rfl) (fun K hK => ?_)
  go_simp
  go_wp2_with (go_at_call 9; refine (new_live (w0 := w) (N := fun _ => False) _ 0 (by omega) (HOLD.out.trans (hHeld.mono hzf)) (fun _ h => h.elim)).mono ?_; rintro e w11 ⟨rfl, h11, hb11⟩)
  refine hK _ _ (hHeld.trans (hb11.mono hHeld.size)) (fun hHeld => ?_)
  clear hK K
  refine lane_alone rfl (by kernel_rfl) (by rfl) (fun K hK => ?_)
  go_simp
  go_wp2_with (go_at_call 19; refine (same_nil h11 rfl).mono ?_; rintro e w' ⟨rfl, rfl⟩)
  refine hK _ _ hHeld (fun hHeld => ?_)
  clear hK K
  iterate 12 (refine lane_take (v := ?_) rfl (by kernel_rfl) (by kernel_rfl) (by rfl) ?_ (by assumption) ?_; rotate_left; (focus (intro W hSw; have hk := HK.out W hSw; obtain ⟨hk1, hk2⟩ := hk; go_simp; try (with_reducible rfl))); simp only [Act.put, List.setIfInBounds_toArray, List.set_cons_zero, List.set_cons_succ])
  refine lane_alone rfl (by kernel_rfl) (by rfl) (fun K hK => ?_)
  go_simp
  go_wp2_with (go_at_call 9; refine (new_live (w0 := w) (N := fun _ => False) _ (-1) (by omega) (HOLD.out.trans (hHeld.mono hzf)) (fun _ h => h.elim)).mono ?_; rintro e w12 ⟨rfl, h12, hb12⟩)
  refine hK _ _ (hHeld.trans (hb12.mono hHeld.size)) (fun hHeld => ?_)
  clear hK K
  refine lane_alone rfl (by kernel_rfl) (by rfl) (fun K hK => ?_)
  go_simp
  go_wp2_with (go_at_call 20; refine (size_live h12).mono ?_; rw [show ((Pl.St.new (-1)).safe.length : Int) = 0 from rfl]; rintro e w' ⟨rfl, rfl⟩)
  refine hK _ _ hHeld (fun hHeld => ?_)
  clear hK K
  iterate 3 (refine lane_take (v := ?_) rfl (by kernel_rfl) (by kernel_rfl) (by rfl) ?_ (by assumption) ?_; rotate_left; (focus (intro W hSw; have hk := HK.out W hSw; obtain ⟨hk1, hk2⟩ := hk; go_simp; try (with_reducible rfl))); simp only [Act.put, List.setIfInBounds_toArray, List.set_cons_zero, List.set_cons_succ])
  refine lane_end (by kernel_rfl) ?_
  go_wp2
  go_ret
  exact ⟨rfl, HOLD.out.trans (hHeld.mono hzf)⟩
theorem plateNil_walk {w : World} (a : Int) (_wa : (Lit.int .i64 a).wf = true) (k : Int) (_wk : (Lit.int .i64 k).wf = true) (A : Option Addr) (c : Nat) (b : List Int) (hr : Rd w .u8 w.heap.size A b) (hb : ∀ x ∈ b, (Lit.int .u8 x).wf = true) :
    Calls Try.prog 7 #[.int .i64 a, .int .i64 k, .slice A b.length c] w fun e w' => e = .returned (.bool true) ∧ Below w.heap.size w w' := by
  by_cases h : b.length = 0 ∨ 64 < b.length
  · exact plateNil_far _ _ _ _ _ _ h
  · exact plateNil_in a k A _ c b w hr (bytesOk_of_wf hb) rfl (by omega) (by omega)
end Go.Proofs.Ytnplnggkeekedaa
