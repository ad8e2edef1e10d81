/-
  What a till is to the law TillPlays: its array, its list, and its sums. No conditions.
-/
import Derived.Test.YtcjhgckkbekhoaaTilAsk
import Derived.Test.YtcjhgckkbekhoaaArrB
namespace Go.Proofs.Ytcjhgckkbekhoaa
set_option linter.unusedSimpArgs false
open Go.ChangeShapes Go.WideShapes Go.ChangeAt Go.RowKit

def Ent.val (e : Ent) : Int := if 0 < e.t then e.a else -e.a
def sumC : List Ent → Int → Int → Int
  | [], _, _ => 0
  | e :: r, s, c => (if e.s = s ∧ e.c = c then e.val else 0) + sumC r s c
def sumN : List Ent → Int → Int
  | [], _ => 0
  | e :: r, s => (if e.s = s then e.val else 0) + sumN r s
theorem sumC_append (l r : List Ent) (s c : Int) : sumC (l ++ r) s c = sumC l s c + sumC r s c := by
  induction l with
  | nil => simp [sumC]
  | cons e l ih => simp only [List.cons_append, sumC, ih]; omega
theorem sumN_append (l r : List Ent) (s : Int) : sumN (l ++ r) s = sumN l s + sumN r s := by
  induction l with
  | nil => simp [sumN]
  | cons e l ih => simp only [List.cons_append, sumN, ih]; omega
theorem sumC_one (e : Ent) (s c : Int) : sumC [e] s c = if e.s = s ∧ e.c = c then e.val else 0 := by simp [sumC]
theorem sumN_one (e : Ent) (s : Int) : sumN [e] s = if e.s = s then e.val else 0 := by simp [sumN]
def tk3 (st : Til) (s : Int) : Nat → Int
  | 0 => 0
  | b + 1 => tk3 st s b + (st.tk (s, (b : Int))).getD 0
/-- An entry as it may stand. -/
structure Ent.Ok (e : Ent) : Prop where
  s : 0 ≤ e.s ∧ e.s < 3
  c : 0 ≤ e.c ∧ e.c < 3
  t : 0 ≤ e.t ∧ e.t ≤ 3
  a : 0 < e.a ∧ e.a ≤ 4000000
theorem Ent.Ok.val {e : Ent} (h : e.Ok) : -4000000 ≤ e.val ∧ e.val ≤ 4000000 := by
  have := h.a
  unfold Ent.val
  split <;> omega
theorem sumC_le {l : List Ent} (h : ∀ e ∈ l, e.Ok) (s c : Int) : -(4000000 * (l.length : Int)) ≤ sumC l s c ∧ sumC l s c ≤ 4000000 * (l.length : Int) := by
  induction l with
  | nil => simp [sumC]
  | cons e l ih =>
    have h1 := (h e List.mem_cons_self).val
    have h2 := ih fun e' he => h e' (List.mem_cons_of_mem _ he)
    simp only [sumC, List.length_cons]
    split <;> omega
theorem sumN_le {l : List Ent} (h : ∀ e ∈ l, e.Ok) (s : Int) : -(4000000 * (l.length : Int)) ≤ sumN l s ∧ sumN l s ≤ 4000000 * (l.length : Int) := by
  induction l with
  | nil => simp [sumN]
  | cons e l ih =>
    have h1 := (h e List.mem_cons_self).val
    have h2 := ih fun e' he => h e' (List.mem_cons_of_mem _ he)
    simp only [sumN, List.length_cons]
    split <;> omega
structure Til.Ok (st : Til) (j : Nat) : Prop where
  num : st.Num j
  ch : ∀ k x, st.ch k = some x → 1 ≤ x ∧ x ≤ 3
  rf : ∀ k x, st.rf k = some x → 1 ≤ x ∧ x ≤ 3
  tk : ∀ s c, (st.tk (s, c)).getD 0 = sumC st.es s c
  nt : ∀ s, (st.nt s).getD 0 = sumN st.es s
  net : ∀ s, (st.nt s).getD 0 = tk3 st s 3
  es : ∀ e ∈ st.es, e.Ok
  len : st.es.length ≤ j
theorem til_ok_new : Til.new.Ok 0 :=
  ⟨num_new, fun _ _ h => (nomatch h), fun _ _ h => (nomatch h), fun _ _ => rfl, fun _ => rfl, fun _ => rfl, fun _ h => (nomatch h), Nat.le_refl _⟩
section
variable {st : Til} {j s c : Nat} {T M x : Int}
theorem Til.Ok.up (h : st.Ok j) : st.Ok (j + 1) := ⟨h.num.mono (by omega), h.ch, h.rf, h.tk, h.nt, h.net, h.es, by have := h.len; omega⟩
theorem tk3_three (st : Til) (s : Int) : tk3 st s 3 = (st.tk (s, 0)).getD 0 + (st.tk (s, 1)).getD 0 + (st.tk (s, 2)).getD 0 := by
  show ((0 + _) + _) + _ = _
  simp
theorem Til.Ok.charge (h : st.Ok j) (hs : s < 3) (hc : c < 3) (hT : 0 < T ∧ T ≤ 3) (hM : 0 < M ∧ M ≤ 65536) (hx : 1 ≤ x ∧ x ≤ 3) : (st.charge (s : Int) (c : Int) T M x).Ok (j + 1) := by
  have hnum := h.num.charge (S := (s : Int)) (C := (c : Int)) (T := T) (x := x) hM
  unfold Til.charge at hnum ⊢
  cases hn : st.ch ((s : Int), (c : Int), T) with
  | some y => exact h.up
  | none =>
    simp only [hn] at hnum
    by_cases h1 : x = 1
    · simp only [if_pos h1] at hnum ⊢
      refine ⟨hnum, ?_, h.rf, fun a b => ?_, fun a => ?_, fun a => ?_, ?_, ?_⟩
      · intro k y hk
        simp only at hk
        split at hk
        · injection hk with hk; omega
        · exact h.ch k y hk
      · have e := h.tk a b
        have e2 := h.tk s c
        simp only [sumC_append, sumC_one, Ent.val, if_pos hT.1]
        by_cases hp : (s : Int) = a ∧ (c : Int) = b
        · obtain ⟨e1, e3⟩ := hp
          subst e1 e3
          simp [e]
        · have hq : ¬ (a, b) = ((s : Int), (c : Int)) := fun e => by injection e with e1 e2; exact hp ⟨e1.symm, e2.symm⟩
          simp only [if_neg hp, if_neg hq, e]; omega
      · have e := h.nt a
        simp only [sumN_append, sumN_one, Ent.val, if_pos hT.1]
        by_cases hp : (s : Int) = a
        · subst hp
          simp [e]
        · have hq : ¬ a = (s : Int) := fun e => hp e.symm
          simp only [if_neg hp, if_neg hq, e]; omega
      · have e := h.net a
        rw [tk3_three] at e ⊢
        simp only
        by_cases hp : a = (s : Int)
        · subst hp
          simp only [if_true, Option.getD_some, Prod.mk.injEq, true_and]
          match c, hc with
          | 0, _ => simp; omega
          | 1, _ => simp; omega
          | 2, _ => simp; omega
        · simp only [if_neg hp, Prod.mk.injEq, hp, false_and, if_false]; exact e
      · intro e he
        rcases List.mem_append.1 he with he | he
        · exact h.es e he
        · rw [List.mem_singleton] at he
          subst he
          exact ⟨by simp only; omega, by simp only; omega, by simp only; omega, by simp only; omega⟩
      · have := h.len
        simp only [List.length_append, List.length_singleton]; omega
    · simp only [if_neg h1] at hnum ⊢
      refine ⟨hnum, ?_, h.rf, h.tk, h.nt, h.net, h.es, by have := h.len; simp only; omega⟩
      intro k y hk
      simp only at hk
      split at hk
      · injection hk with hk; omega
      · exact h.ch k y hk
theorem Til.Ok.refund (h : st.Ok j) (hj : j ≤ 60) (hs : s < 3) (hc : c < 3) : (st.refund (s : Int) (c : Int)).Ok (j + 1) := by
  have hnum := h.num.refund (S := (s : Int)) (C := (c : Int)) hj
  unfold Til.refund at hnum ⊢
  cases hn : st.rf ((s : Int), (c : Int)) with
  | some y => exact h.up
  | none =>
    simp only [hn] at hnum
    have hr : ∀ (y : Int), 1 ≤ y ∧ y ≤ 3 → ∀ k z, (if k = ((s : Int), (c : Int)) then some y else st.rf k) = some z → 1 ≤ z ∧ z ≤ 3 := fun y hy k z hk => by
      split at hk
      · injection hk with hk; omega
      · exact h.rf k z hk
    by_cases h0 : (st.tk ((s : Int), (c : Int))).getD 0 = 0
    · simp only [if_pos h0] at hnum ⊢
      exact ⟨hnum, h.ch, hr 3 (by omega), h.tk, h.nt, h.net, h.es, by have := h.len; simp only; omega⟩
    · simp only [if_neg h0] at hnum ⊢
      have hb := h.num.tk ((s : Int), (c : Int))
      refine ⟨hnum, h.ch, hr 1 (by omega), fun a b => ?_, fun a => ?_, fun a => ?_, ?_, ?_⟩
      · have e := h.tk a b
        simp only [sumC_append, sumC_one, Ent.val, if_neg (show ¬ (0 : Int) < 0 by omega)]
        by_cases hp : (s : Int) = a ∧ (c : Int) = b
        · obtain ⟨e1, e3⟩ := hp
          subst e1 e3
          simp [e]
          try omega
        · have hq : ¬ (a, b) = ((s : Int), (c : Int)) := fun e => by injection e with e1 e2; exact hp ⟨e1.symm, e2.symm⟩
          simp only [if_neg hp, if_neg hq, e]; omega
      · have e := h.nt a
        simp only [sumN_append, sumN_one, Ent.val, if_neg (show ¬ (0 : Int) < 0 by omega)]
        by_cases hp : (s : Int) = a
        · subst hp
          simp [e]
          try omega
        · have hq : ¬ a = (s : Int) := fun e => hp e.symm
          simp only [if_neg hp, if_neg hq, e]; omega
      · have e := h.net a
        rw [tk3_three] at e ⊢
        simp only
        by_cases hp : a = (s : Int)
        · subst hp
          simp only [if_true, Option.getD_some, Prod.mk.injEq, true_and]
          match c, hc with
          | 0, _ => simp; (try simp at e); omega
          | 1, _ => simp; (try simp at e); omega
          | 2, _ => simp; (try simp at e); omega
        · simp only [if_neg hp, Prod.mk.injEq, hp, false_and, if_false]; exact e
      · intro e he
        rcases List.mem_append.1 he with he | he
        · exact h.es e he
        · rw [List.mem_singleton] at he
          subst he
          exact ⟨by simp only; omega, by simp only; omega, by simp only; omega, by simp only; omega⟩
      · have := h.len
        simp only [List.length_append, List.length_singleton]; omega
/-! The law's array. -/
def gT (st : Til) : Nat → Value := fun i => .int .u8 (if i % 4 = 0 then (st.rf (((i / 12 : Nat) : Int), ((i / 4 % 3 : Nat) : Int))).getD 0 else (st.ch (((i / 12 : Nat) : Int), ((i / 4 % 3 : Nat) : Int), ((i % 4 : Nat) : Int))).getD 0)
theorem gT_rf (hc : c < 3) : gT st (s * 12 + c * 4) = .int .u8 ((st.rf ((s : Int), (c : Int))).getD 0) := by
  unfold gT
  rw [show (s * 12 + c * 4) % 4 = 0 by omega, show (s * 12 + c * 4) / 12 = s by omega, show (s * 12 + c * 4) / 4 % 3 = c by omega, if_pos rfl]
theorem gT_ch {t : Nat} (hc : c < 3) (ht : 1 ≤ t ∧ t ≤ 3) : gT st (s * 12 + c * 4 + t) = .int .u8 ((st.ch ((s : Int), (c : Int), (t : Int))).getD 0) := by
  unfold gT
  rw [show (s * 12 + c * 4 + t) % 4 = t by omega, show (s * 12 + c * 4 + t) / 12 = s by omega, show (s * 12 + c * 4 + t) / 4 % 3 = c by omega, if_neg (by omega)]
theorem said_charge {t : Nat} (hc : c < 3) (ht : 1 ≤ t ∧ t ≤ 3) (e : st.ch ((s : Int), (c : Int), (t : Int)) = none) (i : Nat) : (if i = s * 12 + c * 4 + t then Value.int .u8 x else gT st i) = gT (st.charge (s : Int) (c : Int) (t : Int) M x) i := by
  have hch : (st.charge (s : Int) (c : Int) (t : Int) M x).ch = fun j => if j = ((s : Int), (c : Int), (t : Int)) then some x else st.ch j := by
    unfold Til.charge; rw [e]; simp only; split
    · rename_i h; subst h; rfl
    · rfl
  have hrf : (st.charge (s : Int) (c : Int) (t : Int) M x).rf = st.rf := by unfold Til.charge; rw [e]; simp only; split <;> rfl
  unfold gT
  rw [hch, hrf]
  simp only [Prod.mk.injEq]
  by_cases hi : i = s * 12 + c * 4 + t
  · subst hi
    rw [show (s * 12 + c * 4 + t) % 4 = t by omega, show (s * 12 + c * 4 + t) / 12 = s by omega, show (s * 12 + c * 4 + t) / 4 % 3 = c by omega, if_pos rfl, if_neg (by omega)]
    simp
  · rw [if_neg hi]
    split
    · rfl
    · rename_i h4
      rw [if_neg (by omega)]
theorem said_refund (hc : c < 3) (e : st.rf ((s : Int), (c : Int)) = none) (i : Nat) : (if i = s * 12 + c * 4 then Value.int .u8 (if (st.tk ((s : Int), (c : Int))).getD 0 = 0 then 3 else 1) else gT st i) = gT (st.refund (s : Int) (c : Int)) i := by
  have hrf : (st.refund (s : Int) (c : Int)).rf = fun j => if j = ((s : Int), (c : Int)) then some (if (st.tk ((s : Int), (c : Int))).getD 0 = 0 then 3 else 1) else st.rf j := by
    unfold Til.refund; rw [e]; simp only; split <;> rfl
  have hch : (st.refund (s : Int) (c : Int)).ch = st.ch := by unfold Til.refund; rw [e]; simp only; split <;> rfl
  unfold gT
  rw [hch, hrf]
  simp only [Prod.mk.injEq]
  by_cases hi : i = s * 12 + c * 4
  · subst hi
    rw [show (s * 12 + c * 4) % 4 = 0 by omega, show (s * 12 + c * 4) / 12 = s by omega, show (s * 12 + c * 4) / 4 % 3 = c by omega, if_pos rfl, if_pos rfl]
    simp
  · rw [if_neg hi]
    split
    · rename_i h4
      rw [if_neg (by omega)]
    · rfl
theorem es_yes {T M : Int} {S C : Int} (e : st.ch (S, C, T) = none) : (st.charge S C T M 1).es = st.es ++ [⟨S, C, T, M⟩] := by unfold Til.charge; rw [e]; rfl
theorem es_no {T M : Int} {S C : Int} (e : st.ch (S, C, T) = none) (hx : ¬ x = 1) : (st.charge S C T M x).es = st.es := by unfold Til.charge; rw [e]; simp only [if_neg hx]
theorem es_back {S C : Int} (e : st.rf (S, C) = none) (h : ¬ (st.tk (S, C)).getD 0 = 0) : (st.refund S C).es = st.es ++ [⟨S, C, 0, (st.tk (S, C)).getD 0⟩] := by unfold Til.refund; rw [e]; simp only [if_neg h]
theorem es_none {S C : Int} (e : st.rf (S, C) = none) (h : (st.tk (S, C)).getD 0 = 0) : (st.refund S C).es = st.es := by unfold Til.refund; rw [e]; simp only [if_pos h]
end
section
variable {w0 w : World} {N : Nat → Prop} {g : Nat} {st st' : Til} {m : Nat} {K S C T M v x : Int}
theorem tcharge_as_live (ha : st.chargeA S C T (Til.told T M v) = x) (hs : st.charge S C T M (Til.told T M v) = st') (hr : st.room S C M) (h : LiveO (TilB g st m) w0 N w) (hN : ∀ i, N i → i < w.heap.size) (hk : ypok (S, C, T)) (hm : m + 4 ≤ 100000) :
    Calls Try.prog 16 #[.pointer (some ⟨g, 0, none⟩), .agg #[.int .u8 1, .int .i64 S, .int .i64 C, .int .i64 T, .int .i64 M, .int .u8 0], .int .u8 v] w fun e w' => e = .returned (.tuple #[.agg #[.int .u8 1, .int .i64 S, .int .i64 C, .int .i64 T, .int .i64 M, .int .u8 x], .bool true]) ∧ LiveO (TilB g st' (m + 4)) w0 N w' ∧ KeptO w0 N w w' := by
  have := tcharge_live (v := v) h hN hk hm (fun _ => hr)
  rw [ha, hs] at this
  exact this
theorem trefund_as_live (ha : st.refundA S C = x) (hs : st.refund S C = st') (hr : (Lit.int .i64 ((st.nt S).getD 0 - (st.tk (S, C)).getD 0)).wf = true) (h : LiveO (TilB g st m) w0 N w) (hN : ∀ i, N i → i < w.heap.size) (hk : cpok (S, C)) (hm : m + 4 ≤ 100000) :
    Calls Try.prog 16 #[.pointer (some ⟨g, 0, none⟩), .agg #[.int .u8 2, .int .i64 S, .int .i64 C, .int .i64 T, .int .i64 M, .int .u8 0], .int .u8 v] w fun e w' => e = .returned (.tuple #[.agg #[.int .u8 2, .int .i64 S, .int .i64 C, .int .i64 T, .int .i64 M, .int .u8 x], .bool true]) ∧ LiveO (TilB g st' (m + 4)) w0 N w' ∧ KeptO w0 N w w' := by
  have := trefund_live (T := T) (M := M) (v := v) h hN hk hm hr
  rw [ha, hs] at this
  exact this
theorem thear_other_live (h1 : ¬ K = 1) (h2 : ¬ K = 2) (h : LiveO (TilB g st m) w0 N w) (hN : ∀ i, N i → i < w.heap.size) :
    Calls Try.prog 16 #[.pointer (some ⟨g, 0, none⟩), .agg #[.int .u8 K, .int .i64 S, .int .i64 C, .int .i64 T, .int .i64 M, .int .u8 0], .int .u8 v] w fun e w' => e = .returned (.tuple #[.agg #[.int .u8 0, .int .i64 0, .int .i64 0, .int .i64 0, .int .i64 0, .int .u8 0], .bool false]) ∧ LiveO (TilB g st m) w0 N w' ∧ KeptO w0 N w w' :=
  (thear_other w g K S C T M v h1 h2).mono fun e w' ⟨he, hb⟩ => ⟨he, h.below (til_thing _ _ _) hb, hb.size, fun i hi => hb.block i (hN i hi), fun i hi => hb.block i (by have := h.old.size; omega)⟩
end
theorem cells6 {w : World} {n : Nat} {t : TypeId} {fr : Nat × Nat} {a0 a1 a2 a3 a4 a5 : Value} (h : w.heap[n]? = some (.cells #[a0, a1, a2, a3, a4, a5] t fr)) : w.cell? ⟨n, 0, none⟩ = some a0 ∧ w.cell? ⟨n, 1, none⟩ = some a1 ∧ w.cell? ⟨n, 2, none⟩ = some a2 ∧ w.cell? ⟨n, 3, none⟩ = some a3 ∧ w.cell? ⟨n, 4, none⟩ = some a4 ∧ w.cell? ⟨n, 5, none⟩ = some a5 := by
  refine ⟨?_, ?_, ?_, ?_, ?_, ?_⟩
  all_goals
    rw [cell_of_row _ _ _ _ _ _ h]
    rfl
/-- The law's net. -/
def gN (l : List Ent) : Nat → Value := fun i => .int .i64 (sumN l (i : Int))
/-- Nothing: only the world lies over another one. -/
def NilB (_ _ _ : Nat) (_ : World) (F : Nat → Prop) : Prop := ∀ i, ¬ F i
theorem nil_thing (a b c : Nat) : Thing (NilB a b c) := ⟨fun h _ _ => h, fun h hi => (h _ hi).elim⟩
theorem nil_live {w w' : World} {N : Nat → Prop} (hb : Below w.heap.size w w') : LiveO (NilB 0 0 0) w N w' := ⟨fun _ => False, fun _ h => h, fun _ h => h.elim, hb⟩
end Go.Proofs.Ytcjhgckkbekhoaa
