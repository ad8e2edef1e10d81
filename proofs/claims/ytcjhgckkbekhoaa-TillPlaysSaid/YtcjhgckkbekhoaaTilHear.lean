/-
  A till's Hear, Taken, Net, Entries and New, nil ones too. No conditions but the sizes.
-/
import Derived.Test.YtcjhgckkbekhoaaTilB
import Derived.Lib.SliceRun
namespace Go.Proofs.Ytcjhgckkbekhoaa
set_option maxRecDepth 20000
open Go.ChangeShapes Go.WideShapes Go.ChangeAt Go.RowKit

/-- What a refund of a cycle makes. -/
def Til.refund (st : Til) (S C : Int) : Til := match st.rf (S, C) with
  | some _ => st
  | none => if (st.tk (S, C)).getD 0 = 0 then ⟨st.ch, fun j => if j = (S, C) then some 3 else st.rf j, st.tk, st.nt, st.es⟩
    else ⟨st.ch, fun j => if j = (S, C) then some 1 else st.rf j, fun j => if j = (S, C) then none else st.tk j, fun j => if j = S then some ((st.nt S).getD 0 - (st.tk (S, C)).getD 0) else st.nt j, st.es ++ [⟨S, C, 0, (st.tk (S, C)).getD 0⟩]⟩
def Til.refundA (st : Til) (S C : Int) : Int := (st.rf (S, C)).getD (if (st.tk (S, C)).getD 0 = 0 then 3 else 1)
theorem refund_any (w : World) (F : Nat → Prop) (g : Nat) (st : Til) (m : Nat) (S C : Int) (h : TilB g st m w F) (hk : cpok (S, C)) (hm : m + 4 ≤ 100000) (hn : (Lit.int .i64 ((st.nt S).getD 0 - (st.tk (S, C)).getD 0)).wf = true) :
    Calls Try.prog 31 #[.pointer (some ⟨g, 0, none⟩), .agg #[.int .i64 S, .int .i64 C]] w fun e w' => e = .returned (.int .u8 (st.refundA S C)) ∧ PostO w F (TilB g (st.refund S C) (m + 4)) w' := by
  obtain ⟨b, vs, h⟩ := h
  cases hs : st.rf (S, C) with
  | none =>
    by_cases ha : (st.tk (S, C)).getD 0 = 0
    · have e : st.refundA S C = 3 := by unfold Til.refundA; rw [hs, if_pos ha]; rfl
      have e2 : st.refund S C = ⟨st.ch, fun j => if j = (S, C) then some 3 else st.rf j, st.tk, st.nt, st.es⟩ := by unfold Til.refund; rw [hs]; exact if_pos ha
      rw [e, e2]
      exact refund_none w F g b vs st m S C h hk hs hm ha
    · have e : st.refundA S C = 1 := by unfold Til.refundA; rw [hs, if_neg ha]; rfl
      have e2 : st.refund S C = ⟨st.ch, fun j => if j = (S, C) then some 1 else st.rf j, fun j => if j = (S, C) then none else st.tk j, fun j => if j = S then some ((st.nt S).getD 0 - (st.tk (S, C)).getD 0) else st.nt j, st.es ++ [⟨S, C, 0, (st.tk (S, C)).getD 0⟩]⟩ := by unfold Til.refund; rw [hs]; exact if_neg ha
      rw [e, e2]
      exact refund_some w F g b vs st m S C _ h hk hs hm rfl ha hn
  | some x =>
    have e : st.refundA S C = x := by unfold Til.refundA; rw [hs]; rfl
    have e2 : st.refund S C = st := by unfold Til.refund; rw [hs]
    rw [e, e2]
    exact (refund_said w F g b vs st m S C x h hk hs).mono fun e w' ⟨h1, h2⟩ => ⟨h1, ⟨b, vs, ((h.kept (fun i hi => h2.block i (h.lt i hi)) h2.size).wide (fun i hi => .inl hi) fun i hi => hi.elim (fun k => Nat.lt_of_lt_of_le (h.lt i k) h2.size) (·.2)).mono (by omega)⟩, Turn.of_below h2⟩

theorem tnotice_info : (Try.prog.info? 31).map (·.size) = some 6 := by kernel_rfl
theorem ttwo_below (w : World) (o o' : Obj) : Below w.heap.size w ((w.alloc o).alloc o') := ((Below.refl _ _).alloc (Nat.le_refl _) _).alloc (by simp) _
theorem tat_second (w : World) (o o' : Obj) : ((w.alloc o).alloc o').heap[w.heap.size + 1]? = some o' := alloc_at (by simp)
set_option maxHeartbeats 1000000 in
theorem thear_nil (w : World) (K S C T M V v : Int) :
    Calls Try.prog 16 #[.pointer none, .agg #[.int .u8 K, .int .i64 S, .int .i64 C, .int .i64 T, .int .i64 M, .int .u8 V], .int .u8 v] w fun e w' => e = .returned (.tuple #[.agg #[.int .u8 0, .int .i64 0, .int .i64 0, .int .i64 0, .int .i64 0, .int .u8 0], .bool false]) ∧ Below w.heap.size w w' := by
  go_enter Try.func16, Try.ntmps16
  go_wp2
  refine bodyPost_ret (results_row_tmp rfl _ _ (w.heap.size + 1) 31 _ (0, 0) _ rfl (tat_second _ _ _) Try.underlying31 rfl (by exact tnotice_info)) rfl ?_
  exact ⟨rfl, ttwo_below _ _ _⟩
set_option maxHeartbeats 1000000 in
theorem thear_answer (w : World) (g : Nat) (K S C T M V v : Int) (hV : ¬ V = 0) :
    Calls Try.prog 16 #[.pointer (some ⟨g, 0, none⟩), .agg #[.int .u8 K, .int .i64 S, .int .i64 C, .int .i64 T, .int .i64 M, .int .u8 V], .int .u8 v] w fun e w' => e = .returned (.tuple #[.agg #[.int .u8 0, .int .i64 0, .int .i64 0, .int .i64 0, .int .i64 0, .int .u8 0], .bool false]) ∧ Below w.heap.size w w' := by
  have d : (V != 0) = true := by simpa using hV
  go_enter Try.func16, Try.ntmps16
  go_wp2
  refine bodyPost_ret (results_row_tmp rfl _ _ (w.heap.size + 1) 31 _ (0, 0) _ rfl (tat_second _ _ _) Try.underlying31 rfl (by exact tnotice_info)) rfl ?_
  exact ⟨rfl, ttwo_below _ _ _⟩
set_option maxHeartbeats 1000000 in
theorem thear_other (w : World) (g : Nat) (K S C T M v : Int) (h1 : ¬ K = 1) (h2 : ¬ K = 2) :
    Calls Try.prog 16 #[.pointer (some ⟨g, 0, none⟩), .agg #[.int .u8 K, .int .i64 S, .int .i64 C, .int .i64 T, .int .i64 M, .int .u8 0], .int .u8 v] w fun e w' => e = .returned (.tuple #[.agg #[.int .u8 0, .int .i64 0, .int .i64 0, .int .i64 0, .int .i64 0, .int .u8 0], .bool false]) ∧ Below w.heap.size w w' := by
  have d1 : (K == 1) = false := by simpa using h1
  have d2 : (K == 2) = false := by simpa using h2
  go_enter Try.func16, Try.ntmps16
  go_wp2
  refine bodyPost_ret (results_row_tmp rfl _ _ (w.heap.size + 1) 31 _ (0, 0) _ rfl (tat_second _ _ _) Try.underlying31 rfl (by exact tnotice_info)) rfl ?_
  exact ⟨rfl, ttwo_below _ _ _⟩
set_option maxHeartbeats 2000000 in
theorem thear_charge (w : World) (F : Nat → Prop) (g : Nat) (st : Til) (m : Nat) (S C T M v : Int) (h : TilB g st m w F) (hm : m + 4 ≤ 100000) (hk : ypok (S, C, T)) (hr : Til.told T M v = 1 → st.room S C M) :
    Calls Try.prog 16 #[.pointer (some ⟨g, 0, none⟩), .agg #[.int .u8 1, .int .i64 S, .int .i64 C, .int .i64 T, .int .i64 M, .int .u8 0], .int .u8 v] w fun e w' => e = .returned (.tuple #[.agg #[.int .u8 1, .int .i64 S, .int .i64 C, .int .i64 T, .int .i64 M, .int .u8 (st.chargeA S C T (Til.told T M v))], .bool true]) ∧ PostO w F (TilB g (st.charge S C T M (Til.told T M v)) (m + 4)) w' := by
  have hl : ∀ i, F i → i < w.heap.size := fun i hi => (til_thing g st m).lt h hi
  have HH : Hid (∀ o o' : Obj, TilB g st m ((w.alloc o).alloc o') F) := fun o o' => (til_thing g st m).kept h (fun i hi => (ttwo_below w o o').block i (hl i hi)) (ttwo_below w o o').size
  clear h
  go_enter Try.func16, Try.ntmps16
  go_wp2_with (fail)
  refine (charge_any _ F g st m 1 S C T M 0 v (HH.out _ _) hk hm hr).mono ?_
  rintro e W1 ⟨rfl, hst, ht⟩
  have hz := ht.size
  simp only [World.size_alloc] at hz
  have e0 : W1.heap[w.heap.size]? = some (.cells #[.int .u8 1, .int .i64 S, .int .i64 C, .int .i64 T, .int .i64 M, .int .u8 0] 31 (0, 0)) :=
    (ht.block _ (by simp only [World.size_alloc]; omega) (fun hf => by have := hl _ hf; omega)).trans (alloc_old (by simp) (alloc_at rfl))
  have e1 : W1.heap[w.heap.size + 1]? = some (.cells #[.int .u8 0, .int .i64 0, .int .i64 0, .int .i64 0, .int .i64 0, .int .u8 0] 31 (0, 0)) :=
    (ht.block _ (by simp only [World.size_alloc]; omega) (fun hf => by have := hl _ hf; omega)).trans (alloc_at (by simp))
  have HS := Lib.hid hst
  have HT : Hid (Turn F w W1) := (Turn.of_below (ttwo_below _ _ _)).trans ht fun i hi => .inl hi
  have HG : Hid (∀ i, grow F ((w.alloc (.cells #[.int .u8 1, .int .i64 S, .int .i64 C, .int .i64 T, .int .i64 M, .int .u8 0] 31)).alloc (.cells #[.int .u8 0, .int .i64 0, .int .i64 0, .int .i64 0, .int .i64 0, .int .u8 0] 31)) W1 i → F i ∨ (w.heap.size + 2 ≤ i ∧ i < W1.heap.size)) := fun i hi => by
    rcases hi with h' | h'
    · exact .inl h'
    · exact .inr ⟨by have := h'.1; simp only [World.size_alloc] at this; omega, h'.2⟩
  clear hst ht
  have l0 : w.heap.size < W1.heap.size := by omega
  have l1 : w.heap.size + 1 < W1.heap.size := by omega
  obtain ⟨x, hx⟩ : ∃ x, x = st.chargeA S C T (Til.told T M v) := ⟨_, rfl⟩
  rw [← hx]
  have HX := Lib.hid hx
  clear hx
  obtain ⟨W2, rfl⟩ : ∃ W2, W1 = boxed (boxed W2 w.heap.size #[.int .u8 1, .int .i64 S, .int .i64 C, .int .i64 T, .int .i64 M, .int .u8 0] 31) (w.heap.size + 1) #[.int .u8 0, .int .i64 0, .int .i64 0, .int .i64 0, .int .i64 0, .int .u8 0] 31 :=
    ⟨W1, by rw [← boxed_self e0, ← boxed_self e1]⟩
  rw [boxed_size, boxed_size] at l0 l1
  clear e0 e1 hz
  go_wp2
  refine bodyPost_ret (results_row_tmp rfl _ _ (w.heap.size + 1) 31 _ (0, 0) _ rfl (boxed_at (by rw [boxed_size]; exact l1)) Try.underlying31 rfl (by exact tnotice_info)) rfl ?_
  have hkeep : ∀ (c c' d d' : Array Value) (t t' : TypeId) (i : Nat), i ≠ w.heap.size → i ≠ w.heap.size + 1 → (boxed (boxed W2 w.heap.size c t) (w.heap.size + 1) c' t').heap[i]? = (boxed (boxed W2 w.heap.size d t) (w.heap.size + 1) d' t').heap[i]? := fun c c' d d' t t' i hi hi' => by
    rw [boxed_block_other hi', boxed_block_other hi, boxed_block_other hi', boxed_block_other hi]
  refine ⟨by rw [← HX.out]; rfl, ?_, ?_⟩
  · have hk2 := (til_thing g (st.charge S C T M (Til.told T M v)) (m + 4)).kept HS.out (w' := boxed (boxed W2 w.heap.size #[.int .u8 1, .int .i64 S, .int .i64 C, .int .i64 T, .int .i64 M, .int .u8 x] 31) (w.heap.size + 1) #[.int .u8 1, .int .i64 S, .int .i64 C, .int .i64 T, .int .i64 M, .int .u8 x] 31) (fun i hi => hkeep _ _ _ _ _ _ _ (by rcases HG.out i hi with h' | h'; have := hl i h'; omega; omega) (by rcases HG.out i hi with h' | h'; have := hl i h'; omega; omega)) (by simp only [boxed_size]; exact Nat.le_refl _)
    obtain ⟨b1, vs, hk2⟩ := hk2
    refine ⟨b1, vs, hk2.wide (fun i hi => ?_) fun i hi => ?_⟩
    · rcases HG.out i hi with h' | h'
      · exact .inl h'
      · exact .inr ⟨by omega, by have := h'.2; simp only [boxed_size] at this ⊢; exact this⟩
    · rcases hi with h' | h'
      · have := hl i h'; simp only [boxed_size]; omega
      · exact h'.2
  · exact ⟨HT.out.os, HT.out.tape, HT.out.output, by have := HT.out.size; simp only [boxed_size] at this ⊢; exact this, fun i hi hn => (hkeep _ _ _ _ _ _ _ (by omega) (by omega)).trans (HT.out.block i hi hn)⟩
set_option maxHeartbeats 2000000 in
theorem thear_refund (w : World) (F : Nat → Prop) (g : Nat) (st : Til) (m : Nat) (S C T M v : Int) (h : TilB g st m w F) (hm : m + 4 ≤ 100000) (hk : cpok (S, C)) (hr : (Lit.int .i64 ((st.nt S).getD 0 - (st.tk (S, C)).getD 0)).wf = true) :
    Calls Try.prog 16 #[.pointer (some ⟨g, 0, none⟩), .agg #[.int .u8 2, .int .i64 S, .int .i64 C, .int .i64 T, .int .i64 M, .int .u8 0], .int .u8 v] w fun e w' => e = .returned (.tuple #[.agg #[.int .u8 2, .int .i64 S, .int .i64 C, .int .i64 T, .int .i64 M, .int .u8 (st.refundA S C)], .bool true]) ∧ PostO w F (TilB g (st.refund S C) (m + 4)) w' := by
  have hl : ∀ i, F i → i < w.heap.size := fun i hi => (til_thing g st m).lt h hi
  have HH : Hid (∀ o o' : Obj, TilB g st m ((w.alloc o).alloc o') F) := fun o o' => (til_thing g st m).kept h (fun i hi => (ttwo_below w o o').block i (hl i hi)) (ttwo_below w o o').size
  clear h
  go_enter Try.func16, Try.ntmps16
  go_wp2_with (fail)
  refine (refund_any _ F g st m S C (HH.out _ _) hk hm hr).mono ?_
  rintro e W1 ⟨rfl, hst, ht⟩
  have hz := ht.size
  simp only [World.size_alloc] at hz
  have e0 : W1.heap[w.heap.size]? = some (.cells #[.int .u8 2, .int .i64 S, .int .i64 C, .int .i64 T, .int .i64 M, .int .u8 0] 31 (0, 0)) :=
    (ht.block _ (by simp only [World.size_alloc]; omega) (fun hf => by have := hl _ hf; omega)).trans (alloc_old (by simp) (alloc_at rfl))
  have e1 : W1.heap[w.heap.size + 1]? = some (.cells #[.int .u8 0, .int .i64 0, .int .i64 0, .int .i64 0, .int .i64 0, .int .u8 0] 31 (0, 0)) :=
    (ht.block _ (by simp only [World.size_alloc]; omega) (fun hf => by have := hl _ hf; omega)).trans (alloc_at (by simp))
  have HS := Lib.hid hst
  have HT : Hid (Turn F w W1) := (Turn.of_below (ttwo_below _ _ _)).trans ht fun i hi => .inl hi
  have HG : Hid (∀ i, grow F ((w.alloc (.cells #[.int .u8 2, .int .i64 S, .int .i64 C, .int .i64 T, .int .i64 M, .int .u8 0] 31)).alloc (.cells #[.int .u8 0, .int .i64 0, .int .i64 0, .int .i64 0, .int .i64 0, .int .u8 0] 31)) W1 i → F i ∨ (w.heap.size + 2 ≤ i ∧ i < W1.heap.size)) := fun i hi => by
    rcases hi with h' | h'
    · exact .inl h'
    · exact .inr ⟨by have := h'.1; simp only [World.size_alloc] at this; omega, h'.2⟩
  clear hst ht
  have l0 : w.heap.size < W1.heap.size := by omega
  have l1 : w.heap.size + 1 < W1.heap.size := by omega
  obtain ⟨x, hx⟩ : ∃ x, x = st.refundA S C := ⟨_, rfl⟩
  rw [← hx]
  have HX := Lib.hid hx
  clear hx
  obtain ⟨W2, rfl⟩ : ∃ W2, W1 = boxed (boxed W2 w.heap.size #[.int .u8 2, .int .i64 S, .int .i64 C, .int .i64 T, .int .i64 M, .int .u8 0] 31) (w.heap.size + 1) #[.int .u8 0, .int .i64 0, .int .i64 0, .int .i64 0, .int .i64 0, .int .u8 0] 31 :=
    ⟨W1, by rw [← boxed_self e0, ← boxed_self e1]⟩
  rw [boxed_size, boxed_size] at l0 l1
  clear e0 e1 hz
  go_wp2
  refine bodyPost_ret (results_row_tmp rfl _ _ (w.heap.size + 1) 31 _ (0, 0) _ rfl (boxed_at (by rw [boxed_size]; exact l1)) Try.underlying31 rfl (by exact tnotice_info)) rfl ?_
  have hkeep : ∀ (c c' d d' : Array Value) (t t' : TypeId) (i : Nat), i ≠ w.heap.size → i ≠ w.heap.size + 1 → (boxed (boxed W2 w.heap.size c t) (w.heap.size + 1) c' t').heap[i]? = (boxed (boxed W2 w.heap.size d t) (w.heap.size + 1) d' t').heap[i]? := fun c c' d d' t t' i hi hi' => by
    rw [boxed_block_other hi', boxed_block_other hi, boxed_block_other hi', boxed_block_other hi]
  refine ⟨by rw [← HX.out]; rfl, ?_, ?_⟩
  · have hk2 := (til_thing g (st.refund S C) (m + 4)).kept HS.out (w' := boxed (boxed W2 w.heap.size #[.int .u8 2, .int .i64 S, .int .i64 C, .int .i64 T, .int .i64 M, .int .u8 x] 31) (w.heap.size + 1) #[.int .u8 2, .int .i64 S, .int .i64 C, .int .i64 T, .int .i64 M, .int .u8 x] 31) (fun i hi => hkeep _ _ _ _ _ _ _ (by rcases HG.out i hi with h' | h'; have := hl i h'; omega; omega) (by rcases HG.out i hi with h' | h'; have := hl i h'; omega; omega)) (by simp only [boxed_size]; exact Nat.le_refl _)
    obtain ⟨b1, vs, hk2⟩ := hk2
    refine ⟨b1, vs, hk2.wide (fun i hi => ?_) fun i hi => ?_⟩
    · rcases HG.out i hi with h' | h'
      · exact .inl h'
      · exact .inr ⟨by omega, by have := h'.2; simp only [boxed_size] at this ⊢; exact this⟩
    · rcases hi with h' | h'
      · have := hl i h'; simp only [boxed_size]; omega
      · exact h'.2
  · exact ⟨HT.out.os, HT.out.tape, HT.out.output, by have := HT.out.size; simp only [boxed_size] at this ⊢; exact this, fun i hi hn => (hkeep _ _ _ _ _ _ _ (by omega) (by omega)).trans (HT.out.block i hi hn)⟩

/-! Taken, Net, Entries, New. -/
theorem taken_nil (w : World) (a b : Int) : Calls Try.prog 18 #[.pointer none, .int .i64 a, .int .i64 b] w fun e w' => e = .returned (.int .i64 0) ∧ w = w' := by
  go_enter Try.func18, Try.ntmps18
  go_wp2
  go_ret
  exact ⟨rfl, rfl⟩
theorem net_nil (w : World) (a : Int) : Calls Try.prog 19 #[.pointer none, .int .i64 a] w fun e w' => e = .returned (.int .i64 0) ∧ w = w' := by
  go_enter Try.func19, Try.ntmps19
  go_wp2
  go_ret
  exact ⟨rfl, rfl⟩
theorem entries_nil (w : World) : Calls Try.prog 17 #[.pointer none] w fun e w' => e = .returned (.slice none 0 0) ∧ w = w' := by
  go_enter Try.func17, Try.ntmps17
  go_wp2
  go_ret
  exact ⟨rfl, rfl⟩
theorem taken_any (w : World) (F : Nat → Prop) (g : Nat) (st : Til) (m : Nat) (a b : Int) (h : TilB g st m w F) (hk : cpok (a, b)) : Calls Try.prog 18 #[.pointer (some ⟨g, 0, none⟩), .int .i64 a, .int .i64 b] w fun e w' => e = .returned (.int .i64 ((st.tk (a, b)).getD 0)) ∧ w = w' := by
  obtain ⟨bs, v, h⟩ := h
  have hc : w.cell? ⟨g, 2, none⟩ = some (.map (some bs.t)) := by rw [cell_of_row _ _ _ _ _ _ h.blk]; rfl
  have hl : (Instr.lookup 75 (.map (some bs.t)) (.agg #[.int .i64 a, .int .i64 b]) false).run Try.prog w = .ok (.int .i64 ((st.tk (a, b)).getD 0)) w := by
    obtain ⟨c, h1⟩ := h.mt
    have := h1.look mt_map (tz_i64 _) (a, b) hk
    rw [Til.ft_get] at this
    exact this
  go_enter Try.func18, Try.ntmps18
  go_wp2
  go_ret
  exact ⟨rfl, rfl⟩
theorem net_any (w : World) (F : Nat → Prop) (g : Nat) (st : Til) (m : Nat) (a : Int) (h : TilB g st m w F) (hk : (Lit.int .i64 a).wf = true) : Calls Try.prog 19 #[.pointer (some ⟨g, 0, none⟩), .int .i64 a] w fun e w' => e = .returned (.int .i64 ((st.nt a).getD 0)) ∧ w = w' := by
  obtain ⟨bs, v, h⟩ := h
  have hc : w.cell? ⟨g, 3, none⟩ = some (.map (some bs.n)) := by rw [cell_of_row _ _ _ _ _ _ h.blk]; rfl
  have hl : (Instr.lookup 76 (.map (some bs.n)) (.int .i64 a) false).run Try.prog w = .ok (.int .i64 ((st.nt a).getD 0)) w := by
    obtain ⟨c, h1⟩ := h.mn
    have := h1.look mn_map (tz_i64 _) a hk
    rw [Til.fn_get] at this
    exact this
  go_enter Try.func19, Try.ntmps19
  go_wp2
  go_ret
  exact ⟨rfl, rfl⟩
set_option maxHeartbeats 1000000 in
theorem eclone_any (w : World) (base : Nat) (v : Value) (l : List Ent) (h : w.ownsRow base 39 4 v l.length (ecl l)) (hs : l.length ≤ 1000000) :
    Calls Try.prog 32 #[v] w fun e w' => ∃ v', e = .returned v' ∧ w'.ownsRow w.heap.size 39 4 v' l.length (ecl l) ∧ Below w.heap.size w w' := by
  obtain ⟨it, hit, hz0, hz1, hz2⟩ := info_parts ent_info
  have H := Lib.hid h
  rcases h.2 with ⟨rfl, hn⟩ | ⟨q, cap, cur, rfl, hb, hq, hc, hm, _⟩
  · obtain rfl : l = [] := List.eq_nil_of_length_eq_zero hn
    clear h hn
    have q := fun w => Lib.run_eql_slice_nil (P := Try.prog) w 26 39 none 0 0 0 0 Try.underlying26
    go_enter Try.func32, Try.ntmps32
    go_wp2
    go_ret
    exact ⟨_, rfl, World.ownsRow_nil _ _ _ _, Below.refl _ _⟩
  · have hlen := h.1
    clear h hb hq hc hm
    have q1 := fun w => Lib.run_eql_slice_nil (P := Try.prog) w 26 39 (some ⟨q, 0, none⟩) l.length cap 0 0 Try.underlying26
    go_enter Try.func32, Try.ntmps32
    go_wp2_with (at_builtin; refine wpList_append_own_at _ rfl _ _ 26 rfl w.heap.size 39 it _ 4 32 Try.underlying26 hit hz0 hz1 hz2 rfl (by decide) _ _ _ rfl (World.ownsRow_made w #[] 0 (Nat.le_refl _) (by unfold maxLen; omega) rfl) ⟨q, 0, none⟩ l.length cap (ecl l) rfl (by rw [hlen]) (fun j u hu => (World.cell?_of_block (by rw [ad_block]; exact alloc_block_old (H.out.lt q rfl).2)).trans (H.out.cells (g := q) rfl j u hu)) (ecl_one l) (by unfold maxLen; omega) (by omega) (by simp) ?_; intro v1 w1 ho1 hg1 _ _; rw [List.nil_append, Nat.zero_add] at ho1)
    go_ret
    refine ⟨_, rfl, ho1, ?_⟩
    have hb1 : Below w.heap.size (w.alloc (.cells #[] 39)) w1 := ⟨hg1.os, hg1.tape, hg1.output, hg1.size, fun i hi => hg1.block i (by rw [World.size_alloc]; omega) (fun e => by have e2 : some i = some w.heap.size := e; injection e2 with e2; omega)⟩
    exact ((Below.refl _ w).alloc (Nat.le_refl _) _).trans hb1
theorem entries_any (w : World) (F : Nat → Prop) (g : Nat) (st : Til) (m : Nat) (h : TilB g st m w F) (hm : m ≤ 100000) : Calls Try.prog 17 #[.pointer (some ⟨g, 0, none⟩)] w fun e w' => ∃ v', e = .returned v' ∧ w'.ownsRow w.heap.size 39 4 v' st.es.length (ecl st.es) ∧ Below w.heap.size w w' := by
  obtain ⟨b1, v, h⟩ := h
  have hc : w.cell? ⟨g, 4, none⟩ = some v := by rw [cell_of_row _ _ _ _ _ _ h.blk]; rfl
  have HO := Lib.hid h.own
  have hl := h.len
  obtain ⟨A, c, rfl, _, _⟩ := own_form h.own
  clear h
  go_enter Try.func17, Try.ntmps17
  go_wp2_with (fail)
  refine (eclone_any w 0 _ st.es HO.out (by omega)).mono ?_
  rintro e w1 ⟨v', rfl, h1, h2⟩
  obtain ⟨A', c', rfl, _, _⟩ := own_form h1
  have H1 := Lib.hid h1
  have H2 := Lib.hid h2
  clear h1 h2
  go_wp2
  go_ret
  exact ⟨_, rfl, H1.out, H2.out⟩
theorem tnew_any (w : World) : Calls Try.prog 14 #[] w fun e w' => e = .returned (.pointer (some ⟨w.heap.size + 4, 0, none⟩)) ∧ TilB (w.heap.size + 4) .new 0 w' (fun i => w.heap.size ≤ i ∧ i < w'.heap.size) ∧ Below w.heap.size w w' ∧ w'.heap.size = w.heap.size + 5 := by
  have hmm := @run_makeMap Try.prog
  go_enter Try.func14, Try.ntmps14
  go_wp2
  go_ret
  have hA : ∀ (u : World) (o : Obj) (i : Nat), i < u.heap.size → (u.alloc o).heap[i]? = u.heap[i]? := fun u o i hi => alloc_block_old hi
  have mk : ∀ {kt : TypeId} {κ : Type} (E : Enc Try.prog kt κ) (u u' : World) (n : Nat), n = u.heap.size → u'.heap[n]? = (u.alloc (.map #[] 0)).heap[n]? → ∃ c, MapE E u' n 0 (fun _ => none) c := fun E u u' n hn hk => by subst hn; exact ⟨0, (mapE_made E u).kept hk⟩
  refine ⟨rfl, ⟨⟨w.heap.size, w.heap.size + 1, w.heap.size + 2, w.heap.size + 3⟩, .slice none 0 0, alloc_at (by first | (simp; done) | (simp; omega)), ?_, ?_, ?_, ?_, ⟨by simp, by simp, by simp, by simp, by simp, by simp⟩, World.ownsRow_nil _ _ _ _, ⟨⟨by show w.heap.size ≤ w.heap.size + 4; omega, by first | (simp; done) | (simp; omega)⟩, ⟨by show w.heap.size ≤ w.heap.size; omega, by first | (simp; done) | (simp; omega)⟩, ⟨by show w.heap.size ≤ w.heap.size + 1; omega, by first | (simp; done) | (simp; omega)⟩, ⟨by show w.heap.size ≤ w.heap.size + 2; omega, by first | (simp; done) | (simp; omega)⟩, ⟨by show w.heap.size ≤ w.heap.size + 3; omega, by first | (simp; done) | (simp; omega)⟩, fun i hi => by simp [Value.ownBlock] at hi⟩, fun i hi => hi.2, by simp [Til.new]⟩, (((ttwo_below _ _ _).alloc (by first | (simp; done) | (simp; omega)) _).alloc (by first | (simp; done) | (simp; omega)) _).alloc (by first | (simp; done) | (simp; omega)) _, by simp⟩
  · exact mk tryT w _ _ rfl (by rw [hA _ _ _ (by first | (simp; done) | (simp; omega)), hA _ _ _ (by first | (simp; done) | (simp; omega)), hA _ _ _ (by first | (simp; done) | (simp; omega)), hA _ _ _ (by first | (simp; done) | (simp; omega))])
  · exact mk courseT (w.alloc (.map #[] 0)) _ _ (by first | (simp; done) | (simp; omega)) (by rw [hA _ _ _ (by first | (simp; done) | (simp; omega)), hA _ _ _ (by first | (simp; done) | (simp; omega)), hA _ _ _ (by first | (simp; done) | (simp; omega))])
  · exact mk courseT ((w.alloc (.map #[] 0)).alloc (.map #[] 0)) _ _ (by first | (simp; done) | (simp; omega)) (by rw [hA _ _ _ (by first | (simp; done) | (simp; omega)), hA _ _ _ (by first | (simp; done) | (simp; omega))])
  · exact mk netT (((w.alloc (.map #[] 0)).alloc (.map #[] 0)).alloc (.map #[] 0)) _ _ (by first | (simp; done) | (simp; omega)) (by rw [hA _ _ _ (by first | (simp; done) | (simp; omega))])
end Go.Proofs.Ytcjhgckkbekhoaa
