/-
  Law 15's ask, by its answer; a till whose sums are small, and what Hear makes of it. No conditions but the sizes.
-/
import Derived.Test.YtcjhgckkbekhoaaTilAwake
namespace Go.Proofs.Ytcjhgckkbekhoaa
set_option maxRecDepth 20000
set_option linter.unusedSimpArgs false
set_option linter.unusedVariables false
open Go.ChangeShapes Go.WideShapes Go.ChangeAt Go.RowKit

/-- An act's notice is of this kind. -/
def askK (k : Int) (S : Nat) : Int := if k % 6 = 4 then 2 else if k % 6 = 5 then 3 + S else 1
theorem tthree_below (w : World) (o o' o'' : Obj) : Below w.heap.size w (((w.alloc o).alloc o').alloc o'') := (ttwo_below w o o').alloc (by simp; omega) _
set_option maxHeartbeats 2000000 in
theorem ask_any (w : World) (k s c t a v : Int) (S C T : Nat) (hk : 0 ≤ k ∧ k < 256) (hs0 : 0 ≤ s) (hc0 : 0 ≤ c) (ht0 : 0 ≤ t) (ha : 0 ≤ a ∧ a < 65536) (hs : s % 3 = (S : Int)) (hc : c % 3 = (C : Int)) (ht : t % 3 = (T : Int)) :
    Calls Try.prog 15 #[.agg #[.int .u8 k, .int .u8 s, .int .u8 c, .int .u8 t, .int .u16 a, .int .u8 v]] w fun e w' => e = .returned (.agg #[.int .u8 (askK k S), .int .i64 S, .int .i64 C, .int .i64 (1 + T), .int .i64 (1 + a), .int .u8 0]) ∧ Below w.heap.size w w' := by
  have hs2 : s.tmod 3 = (S : Int) := by rw [Int.tmod_eq_emod_of_nonneg hs0]; exact hs
  have hc2 : c.tmod 3 = (C : Int) := by rw [Int.tmod_eq_emod_of_nonneg hc0]; exact hc
  have ht2 : t.tmod 3 = (T : Int) := by rw [Int.tmod_eq_emod_of_nonneg ht0]; exact ht
  have hk2 : k.tmod 6 = k % 6 := Int.tmod_eq_emod_of_nonneg hk.1
  have s3 : S < 3 := by omega
  have c3 : C < 3 := by omega
  have t3 : T < 3 := by omega
  have k6 : 0 ≤ k % 6 ∧ k % 6 < 6 := by omega
  by_cases h4 : k % 6 = 4
  · rw [show askK k S = 2 from if_pos h4]
    rw [h4] at hk2
    clear hs hc ht k6 h4
    go_enter Try.func15, Try.ntmps15
    go_wp2
    refine bodyPost_ret (results_cell_row rfl _ _ (w.heap.size + 1) 31 _ (0, 0) _ rfl (alloc_old (by simp) (alloc_at (by simp))) Try.underlying31 rfl (by exact tnotice_info)) rfl ?_
    exact ⟨rfl, tthree_below _ _ _ _⟩
  · have b4 : (k % 6 == 4) = false := by simpa using h4
    by_cases h5 : k % 6 = 5
    · rw [show askK k S = 3 + S from (if_neg h4).trans (if_pos h5)]
      rw [h5] at hk2 b4
      clear hs hc ht k6 h4 h5
      go_enter Try.func15, Try.ntmps15
      go_wp2
      refine bodyPost_ret (results_cell_row rfl _ _ (w.heap.size + 1) 31 _ (0, 0) _ rfl (alloc_old (by simp) (alloc_at (by simp))) Try.underlying31 rfl (by exact tnotice_info)) rfl ?_
      exact ⟨rfl, tthree_below _ _ _ _⟩
    · have b5 : (k % 6 == 5) = false := by simpa using h5
      rw [show askK k S = 1 from (if_neg h4).trans (if_neg h5)]
      clear hs hc ht h4 h5
      go_enter Try.func15, Try.ntmps15
      go_wp2
      refine bodyPost_ret (results_cell_row rfl _ _ (w.heap.size + 1) 31 _ (0, 0) _ rfl (alloc_old (by simp) (alloc_at (by simp))) Try.underlying31 rfl (by exact tnotice_info)) rfl ?_
      exact ⟨rfl, tthree_below _ _ _ _⟩
/-- A till whose sums are small. -/
structure Til.Num (st : Til) (j : Nat) : Prop where
  tk : ∀ k, 0 ≤ (st.tk k).getD 0 ∧ (st.tk k).getD 0 ≤ 65536 * (j : Int)
  nt : ∀ s, -(4000000 * (j : Int)) ≤ (st.nt s).getD 0 ∧ (st.nt s).getD 0 ≤ 4000000 * (j : Int)
theorem num_new : Til.new.Num 0 := ⟨fun _ => by simp [Til.new], fun _ => by simp [Til.new]⟩
section
variable {st : Til} {j : Nat} {S C T M x : Int}
theorem Til.Num.mono {i : Nat} (h : st.Num j) (hi : j ≤ i) : st.Num i := ⟨fun k => by have := h.tk k; omega, fun s => by have := h.nt s; omega⟩
theorem Til.Num.charge (h : st.Num j) (hM : 0 < M ∧ M ≤ 65536) : (st.charge S C T M x).Num (j + 1) := by
  unfold Til.charge
  split
  · exact h.mono (by omega)
  · split
    · refine ⟨fun k => ?_, fun s => ?_⟩
      · have h1 := h.tk (S, C)
        have h2 := h.tk k
        show 0 ≤ Option.getD (if k = (S, C) then _ else _) 0 ∧ Option.getD (if k = (S, C) then _ else _) 0 ≤ _
        split
        · simp only [Option.getD_some]; omega
        · omega
      · have h1 := h.nt S
        have h2 := h.nt s
        show _ ≤ Option.getD (if s = S then _ else _) 0 ∧ Option.getD (if s = S then _ else _) 0 ≤ _
        split
        · simp only [Option.getD_some]; omega
        · omega
    · exact ⟨fun k => by have := h.tk k; show 0 ≤ (st.tk k).getD 0 ∧ (st.tk k).getD 0 ≤ _; omega, fun s => by have := h.nt s; show _ ≤ (st.nt s).getD 0 ∧ (st.nt s).getD 0 ≤ _; omega⟩
theorem Til.Num.refund (h : st.Num j) (hj : j ≤ 60) : (st.refund S C).Num (j + 1) := by
  unfold Til.refund
  split
  · exact h.mono (by omega)
  · split
    · exact ⟨fun k => by have := h.tk k; show 0 ≤ (st.tk k).getD 0 ∧ (st.tk k).getD 0 ≤ _; omega, fun s => by have := h.nt s; show _ ≤ (st.nt s).getD 0 ∧ (st.nt s).getD 0 ≤ _; omega⟩
    · refine ⟨fun k => ?_, fun s => ?_⟩
      · have h2 := h.tk k
        show 0 ≤ Option.getD (if k = (S, C) then _ else _) 0 ∧ Option.getD (if k = (S, C) then _ else _) 0 ≤ _
        split
        · simp only [Option.getD_none]; omega
        · omega
      · have h1 := h.nt S
        have h2 := h.nt s
        have h3 := h.tk (S, C)
        show _ ≤ Option.getD (if s = S then _ else _) 0 ∧ Option.getD (if s = S then _ else _) 0 ≤ _
        split
        · simp only [Option.getD_some]; omega
        · omega
theorem Til.Num.room (h : st.Num j) (hj : j ≤ 60) (hM : 0 < M ∧ M ≤ 65536) : st.room S C M := by
  have h1 := h.tk (S, C)
  have h2 := h.nt S
  exact ⟨wf_of (by omega), wf_of (by omega)⟩
theorem Til.Num.back (h : st.Num j) (hj : j ≤ 60) : (Lit.int .i64 ((st.nt S).getD 0 - (st.tk (S, C)).getD 0)).wf = true := by
  have h1 := h.tk (S, C)
  have h2 := h.nt S
  exact wf_of (by omega)
end
def Til.hear (st : Til) (K S C T M v : Int) : Til := if K = 1 then st.charge S C T M (Til.told T M v) else if K = 2 then st.refund S C else st
theorem Til.Num.hear {st : Til} {j : Nat} {K S C T M v : Int} (h : st.Num j) (hj : j ≤ 60) (hM : 0 < M ∧ M ≤ 65536) : (st.hear K S C T M v).Num (j + 1) := by
  unfold Til.hear
  split
  · exact h.charge hM
  · split
    · exact h.refund hj
    · exact h.mono (by omega)
theorem thear_all (w : World) (F : Nat → Prop) (g : Nat) (st : Til) (m j : Nat) (K S C T M v : Int) (h : TilB g st m w F) (hm : m + 4 ≤ 100000) (hn : st.Num j) (hj : j ≤ 60) (hM : 0 < M ∧ M ≤ 65536) (hk : ypok (S, C, T)) :
    Calls Try.prog 16 #[.pointer (some ⟨g, 0, none⟩), .agg #[.int .u8 K, .int .i64 S, .int .i64 C, .int .i64 T, .int .i64 M, .int .u8 0], .int .u8 v] w fun e w' => (∃ r, e = .returned r) ∧ PostO w F (TilB g (st.hear K S C T M v) (m + 4)) w' := by
  by_cases h1 : K = 1
  · subst h1
    rw [show st.hear 1 S C T M v = st.charge S C T M (Til.told T M v) from if_pos rfl]
    exact (thear_charge w F g st m S C T M v h hm hk (fun _ => hn.room hj hM)).mono fun e w' ⟨he, hp⟩ => ⟨⟨_, he⟩, hp⟩
  · by_cases h2 : K = 2
    · subst h2
      rw [show st.hear 2 S C T M v = st.refund S C from (if_neg h1).trans (if_pos rfl)]
      exact (thear_refund w F g st m S C T M v h hm ⟨hk.1, hk.2.1⟩ (hn.back hj)).mono fun e w' ⟨he, hp⟩ => ⟨⟨_, he⟩, hp⟩
    · rw [show st.hear K S C T M v = st from (if_neg h1).trans (if_neg h2)]
      obtain ⟨b, vs, h⟩ := h
      exact (thear_other w g K S C T M v h1 h2).mono fun e w' ⟨he, hb⟩ => ⟨⟨_, he⟩, ⟨b, vs, ((h.kept (fun i hi => hb.block i (h.lt i hi)) hb.size).wide (fun i hi => .inl hi) fun i hi => hi.elim (fun k => Nat.lt_of_lt_of_le (h.lt i k) hb.size) (·.2)).mono (by omega)⟩, Turn.of_below hb⟩
/-! What happens to one cycle, and to others. -/
structure Til.Aside (st ut : Til) (a b : Int) : Prop where
  ch : ∀ t, st.ch (a, b, t) = ut.ch (a, b, t)
  rf : st.rf (a, b) = ut.rf (a, b)
  tk : st.tk (a, b) = ut.tk (a, b)
  nt : (ut.nt a).getD 0 = (ut.tk (a, b)).getD 0
theorem aside_new (a b : Int) : Til.new.Aside .new a b := ⟨fun _ => rfl, rfl, rfl, rfl⟩
section
variable {st ut : Til} {a b : Int}
theorem Til.Aside.charge (h : st.Aside ut a b) (T M x : Int) : (st.charge a b T M x).Aside (ut.charge a b T M x) a b := by
  have h1 := h.ch T
  unfold Til.charge
  rw [h1]
  cases ut.ch (a, b, T) with
  | some y => exact h
  | none =>
    simp only
    split
    · refine ⟨fun t => ?_, h.rf, ?_, ?_⟩
      · simp only [h.ch t]
      · simp only [h.tk]
      · simp only [if_true, Option.getD_some, h.nt]
    · refine ⟨fun t => ?_, h.rf, h.tk, h.nt⟩
      simp only [h.ch t]
theorem Til.Aside.refund (h : st.Aside ut a b) : (st.refund a b).Aside (ut.refund a b) a b := by
  unfold Til.refund
  rw [h.rf, h.tk]
  cases ut.rf (a, b) with
  | some y => exact h
  | none =>
    simp only
    split
    · exact ⟨h.ch, by simp, h.tk, h.nt⟩
    · refine ⟨h.ch, by simp, by simp, ?_⟩
      have := h.nt
      simp only [if_true, Option.getD_some, Option.getD_none]
      omega
theorem Til.Aside.charge_one (h : st.Aside ut a b) {S C : Int} (T M x : Int) (hne : ¬ (a = S ∧ b = C)) : (st.charge S C T M x).Aside ut a b := by
  have hp : ¬ (a, b) = (S, C) := fun e => by injection e with e1 e2; exact hne ⟨e1, e2⟩
  have hq : ∀ t, ¬ (a, b, t) = (S, C, T) := fun t e => by injection e with e1 e2; injection e2 with e2 _; exact hne ⟨e1, e2⟩
  unfold Til.charge
  cases st.ch (S, C, T) with
  | some y => exact h
  | none =>
    simp only
    split
    · exact ⟨fun t => by simp only [if_neg (hq t)]; exact h.ch t, h.rf, by simp only [if_neg hp]; exact h.tk, h.nt⟩
    · exact ⟨fun t => by simp only [if_neg (hq t)]; exact h.ch t, h.rf, h.tk, h.nt⟩
theorem Til.Aside.refund_one (h : st.Aside ut a b) {S C : Int} (hne : ¬ (a = S ∧ b = C)) : (st.refund S C).Aside ut a b := by
  have hp : ¬ (a, b) = (S, C) := fun e => by injection e with e1 e2; exact hne ⟨e1, e2⟩
  unfold Til.refund
  cases st.rf (S, C) with
  | some y => exact h
  | none =>
    simp only
    split
    · exact ⟨h.ch, by simp only [if_neg hp]; exact h.rf, h.tk, h.nt⟩
    · exact ⟨h.ch, by simp only [if_neg hp]; exact h.rf, by simp only [if_neg hp]; exact h.tk, h.nt⟩
theorem Til.Aside.hear (h : st.Aside ut a b) (K T M v : Int) : (st.hear K a b T M v).Aside (ut.hear K a b T M v) a b := by
  unfold Til.hear
  split
  · exact h.charge _ _ _
  · split
    · exact h.refund
    · exact h
theorem Til.Aside.hear_one (h : st.Aside ut a b) {S C : Int} (K T M v : Int) (hne : ¬ (a = S ∧ b = C)) : (st.hear K S C T M v).Aside ut a b := by
  unfold Til.hear
  split
  · exact h.charge_one _ _ _ hne
  · split
    · exact h.refund_one hne
    · exact h
end
/-! Two tills at once. -/
def TwoT (g1 g2 : Nat) (st ut : Til) (m : Nat) (w : World) (F : Nat → Prop) : Prop :=
  ∃ F1 F2, TilB g1 st m w F1 ∧ TilB g2 ut m w F2 ∧ (∀ i, F1 i → ¬ F2 i) ∧ ∀ i, F i ↔ (F1 i ∨ F2 i)
theorem twoT_thing (g1 g2 : Nat) (st ut : Til) (m : Nat) : Thing (TwoT g1 g2 st ut m) :=
  ⟨fun ⟨F1, F2, h1, h2, hd, hF⟩ hk hs => ⟨F1, F2, (til_thing g1 st m).kept h1 (fun i hi => hk i ((hF i).2 (.inl hi))) hs, (til_thing g2 ut m).kept h2 (fun i hi => hk i ((hF i).2 (.inr hi))) hs, hd, hF⟩,
   fun ⟨F1, F2, h1, h2, _, hF⟩ hi => ((hF _).1 hi).elim (fun h => (til_thing g1 st m).lt h1 h) (fun h => (til_thing g2 ut m).lt h2 h)⟩
theorem twoT_mono {g1 g2 : Nat} {st ut : Til} {m m' : Nat} {w : World} {F : Nat → Prop} (h : TwoT g1 g2 st ut m w F) (hm : m ≤ m') : TwoT g1 g2 st ut m' w F := by
  obtain ⟨F1, F2, h1, h2, hd, hF⟩ := h
  exact ⟨F1, F2, h1.mono hm, h2.mono hm, hd, hF⟩
theorem turn_wide {F F' : Nat → Prop} {w w' : World} (h : Turn F w w') (hF : ∀ i, F i → F' i) : Turn F' w w' := ⟨h.os, h.tape, h.output, h.size, fun i hi hn => h.block i hi fun hf => hn (hF i hf)⟩
section
variable {w0 w : World} {N : Nat → Prop} {g1 g2 : Nat} {st ut : Til} {m j : Nat} {K S C T M v : Int}
theorem hear_first (hn : st.Num j) (hj : j ≤ 60) (hM : 0 < M ∧ M ≤ 65536) (hk : ypok (S, C, T)) (h : LiveO (TwoT g1 g2 st ut m) w0 N w) (hN : ∀ i, N i → i < w.heap.size) (hm : m + 4 ≤ 100000) :
    Calls Try.prog 16 #[.pointer (some ⟨g1, 0, none⟩), .agg #[.int .u8 K, .int .i64 S, .int .i64 C, .int .i64 T, .int .i64 M, .int .u8 0], .int .u8 v] w fun e w' => (∃ r, e = .returned r) ∧ LiveO (TwoT g1 g2 (st.hear K S C T M v) ut (m + 4)) w0 N w' ∧ KeptO w0 N w w' := by
  obtain ⟨F, ⟨F1, F2, h1, h2, hd, hF⟩, h3, h4⟩ := h
  refine (thear_all w F1 g1 st m j K S C T M v h1 hm hn hj hM hk).mono fun e w' ⟨he, hp⟩ => ⟨he, LiveO.post (F := F) hN h3 h4 ⟨⟨grow F1 w w', F2, hp.1, ?_, ?_, ?_⟩, turn_wide hp.2 fun i hi => (hF i).2 (.inl hi)⟩⟩
  · exact ((til_thing g2 ut m).kept h2 (fun i hi => hp.2.block i ((til_thing g2 ut m).lt h2 hi) fun hf => hd i hf hi) hp.2.size).mono (by omega)
  · intro i hi hi2
    rcases hi with hi | hi
    · exact hd i hi hi2
    · have := (til_thing g2 ut m).lt h2 hi2; omega
  · intro i
    unfold grow
    rw [hF i]
    constructor
    · rintro ((h | h) | h)
      · exact .inl (.inl h)
      · exact .inr h
      · exact .inl (.inr h)
    · rintro ((h | h) | h)
      · exact .inl (.inl h)
      · exact .inr h
      · exact .inl (.inr h)
theorem hear_second (hn : ut.Num j) (hj : j ≤ 60) (hM : 0 < M ∧ M ≤ 65536) (hk : ypok (S, C, T)) (h : LiveO (TwoT g1 g2 st ut m) w0 N w) (hN : ∀ i, N i → i < w.heap.size) (hm : m + 4 ≤ 100000) :
    Calls Try.prog 16 #[.pointer (some ⟨g2, 0, none⟩), .agg #[.int .u8 K, .int .i64 S, .int .i64 C, .int .i64 T, .int .i64 M, .int .u8 0], .int .u8 v] w fun e w' => (∃ r, e = .returned r) ∧ LiveO (TwoT g1 g2 st (ut.hear K S C T M v) (m + 4)) w0 N w' ∧ KeptO w0 N w w' := by
  obtain ⟨F, ⟨F1, F2, h1, h2, hd, hF⟩, h3, h4⟩ := h
  have := hear_first (g1 := g2) (g2 := g1) (K := K) (v := v) hn hj hM hk (h := ⟨F, ⟨F2, F1, h2, h1, fun i a b => hd i b a, fun i => (hF i).trans or_comm⟩, h3, h4⟩) hN hm
  refine this.mono fun e w' ⟨he, hl, hk⟩ => ⟨he, hl.imp ?_, hk⟩
  rintro G ⟨G1, G2, k1, k2, kd, kG⟩
  exact ⟨G2, G1, k2, k1, fun i a b => kd i b a, fun i => (kG i).trans or_comm⟩
theorem taken_first {a b : Int} (h : LiveO (TwoT g1 g2 st ut m) w0 N w) (hk : cpok (a, b)) : Calls Try.prog 18 #[.pointer (some ⟨g1, 0, none⟩), .int .i64 a, .int .i64 b] w fun e w' => e = .returned (.int .i64 ((st.tk (a, b)).getD 0)) ∧ w = w' := by
  obtain ⟨F, ⟨F1, F2, h1, _⟩, _⟩ := h
  exact taken_any w F1 g1 st m a b h1 hk
theorem taken_second {a b : Int} (h : LiveO (TwoT g1 g2 st ut m) w0 N w) (hk : cpok (a, b)) : Calls Try.prog 18 #[.pointer (some ⟨g2, 0, none⟩), .int .i64 a, .int .i64 b] w fun e w' => e = .returned (.int .i64 ((ut.tk (a, b)).getD 0)) ∧ w = w' := by
  obtain ⟨F, ⟨F1, F2, _, h2, _⟩, _⟩ := h
  exact taken_any w F2 g2 ut m a b h2 hk
theorem net_second {a : Int} (h : LiveO (TwoT g1 g2 st ut m) w0 N w) (hk : (Lit.int .i64 a).wf = true) : Calls Try.prog 19 #[.pointer (some ⟨g2, 0, none⟩), .int .i64 a] w fun e w' => e = .returned (.int .i64 ((ut.nt a).getD 0)) ∧ w = w' := by
  obtain ⟨F, ⟨F1, F2, _, h2, _⟩, _⟩ := h
  exact net_any w F2 g2 ut m a h2 hk
/-- A second one. -/
theorem tnew_second {g : Nat} (h : LiveO (TilB g st m) w0 (fun _ => False) w) : Calls Try.prog 14 #[] w fun e w' => e = .returned (.pointer (some ⟨w.heap.size + 4, 0, none⟩)) ∧ LiveO (TwoT g (w.heap.size + 4) st .new m) w0 (fun _ => False) w' := by
  obtain ⟨F, h1, h2, h3⟩ := h
  refine (tnew_any w).mono fun e w' ⟨he, hc, hb, hz⟩ => ⟨he, ⟨fun i => F i ∨ (w.heap.size ≤ i ∧ i < w'.heap.size), ⟨F, _, (til_thing g st m).kept h1 (fun i hi => hb.block i ((til_thing g st m).lt h1 hi)) hb.size, hc.mono (Nat.zero_le _), ?_, fun i => Iff.rfl⟩, ?_, h3.trans (hb.mono h3.size)⟩⟩
  · intro i hi hi2
    have := (til_thing g st m).lt h1 hi
    omega
  · intro i hi
    rcases hi with hi | hi
    · exact h2 i hi
    · exact ⟨by have := h3.size; omega, fun h => h⟩
end
end Go.Proofs.Ytcjhgckkbekhoaa
