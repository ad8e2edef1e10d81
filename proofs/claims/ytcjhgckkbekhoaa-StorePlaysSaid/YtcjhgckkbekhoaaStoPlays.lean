/-
  What a store is to the law StorePlays: its two arrays. No conditions.
-/
import Derived.Test.YtcjhgckkbekhoaaStoAwake
import Derived.Test.YtcjhgckkbekhoaaArrB
namespace Go.Proofs.Ytcjhgckkbekhoaa
open Go.ChangeShapes Go.WideShapes Go.ChangeAt Go.RowKit

/-- The pair of an array's place. -/
def pr3 (i : Nat) : Int × Int := (((i / 3 : Nat) : Int), ((i % 3 : Nat) : Int))
theorem pr3_at {s c : Nat} (hc : c < 3) : pr3 (s * 3 + c) = ((s : Int), (c : Int)) := by
  unfold pr3
  rw [show (s * 3 + c) / 3 = s by omega, show (s * 3 + c) % 3 = c by omega]
theorem pr3_eq {i s c : Nat} (hc : c < 3) : pr3 i = ((s : Int), (c : Int)) ↔ i = s * 3 + c := by
  unfold pr3
  simp only [Prod.mk.injEq]
  omega
def gSaid (st : Sto) : Nat → Value := fun i => .int .u8 ((st.said (pr3 i)).getD 0)
def gAside (st : Sto) : Nat → Value := fun i => .bool (decide (pr3 i ∈ st.aside))
/-- What a run keeps: what was said is 1 or 3, of cycles below 3 each. -/
structure Sto.Fine (st : Sto) : Prop where
  said : ∀ k x, st.said k = some x → x = 1 ∨ x = 3
  near : ∀ k ∈ st.aside, ∃ i, i < 9 ∧ k = pr3 i
theorem fine_new : Sto.new.Fine := ⟨fun _ _ h => (nomatch h), fun _ h => (nomatch h)⟩
theorem Sto.Fine.alloc {st : Sto} (h : st.Fine) {s c : Nat} (hs : s < 3) (hc : c < 3) (v : Int) : (st.alloc ((s : Int), (c : Int)) v).Fine := by
  unfold Sto.alloc
  cases e : st.said ((s : Int), (c : Int)) with
  | some x => exact h
  | none =>
    refine ⟨fun k x hk => ?_, fun k hk => ?_⟩
    · simp only at hk
      split at hk
      · injection hk with hk
        subst hk
        split
        · exact .inl rfl
        · exact .inr rfl
      · exact h.said k x hk
    · simp only at hk
      split at hk
      · rcases List.mem_cons.1 hk with rfl | hk
        · exact ⟨s * 3 + c, by omega, (pr3_at hc).symm⟩
        · exact h.near k hk
      · exact h.near k hk
theorem Sto.Fine.drop {st : Sto} (h : st.Fine) {s c : Nat} (hs : s < 3) (hc : c < 3) : (st.drop ((s : Int), (c : Int))).Fine :=
  ⟨(h.alloc hs hc 3).said, fun k hk => (h.alloc hs hc 3).near k (List.mem_filter.1 hk).1⟩
theorem Sto.Fine.zero {st : Sto} (h : st.Fine) (k : Int × Int) : (st.said k).getD 0 = 0 ↔ st.said k = none := by
  cases e : st.said k with
  | none => simp
  | some x => have := h.said k x e; simp; omega
section
variable {st : Sto} {s c : Nat} {v : Int}
/-- Each act's arrays. -/
theorem said_alloc (hc : c < 3) (e : st.said ((s : Int), (c : Int)) = none) (i : Nat) : (if i = s * 3 + c then Value.int .u8 (if v = 1 then 1 else 3) else gSaid st i) = gSaid (st.alloc ((s : Int), (c : Int)) v) i := by
  unfold gSaid Sto.alloc
  rw [e]
  simp only
  by_cases hi : i = s * 3 + c
  · rw [if_pos hi, if_pos ((pr3_eq hc).2 hi)]; rfl
  · rw [if_neg hi, if_neg (fun h => hi ((pr3_eq hc).1 h))]
theorem aside_alloc (hc : c < 3) (e : st.said ((s : Int), (c : Int)) = none) (i : Nat) : (if i = s * 3 + c then Value.bool true else gAside st i) = gAside (st.alloc ((s : Int), (c : Int)) 1) i := by
  unfold gAside Sto.alloc
  rw [e]
  simp only [if_true]
  by_cases hi : i = s * 3 + c
  · rw [if_pos hi, (pr3_eq hc).2 hi]; simp
  · rw [if_neg hi]
    have : ¬ pr3 i = ((s : Int), (c : Int)) := fun h => hi ((pr3_eq hc).1 h)
    simp [this]
theorem aside_alloc_no (e : st.said ((s : Int), (c : Int)) = none) (hv : ¬ v = 1) (i : Nat) : gAside st i = gAside (st.alloc ((s : Int), (c : Int)) v) i := by
  unfold gAside Sto.alloc
  rw [e]
  simp only [if_neg hv]
theorem aside_drop (hc : c < 3) (i : Nat) : (if i = s * 3 + c then Value.bool false else gAside st i) = gAside (st.drop ((s : Int), (c : Int))) i := by
  have e2 : (st.alloc ((s : Int), (c : Int)) 3).aside = st.aside := by
    unfold Sto.alloc
    cases st.said ((s : Int), (c : Int)) <;> simp
  unfold gAside Sto.drop
  rw [e2]
  by_cases hi : i = s * 3 + c
  · rw [if_pos hi, (pr3_eq hc).2 hi]; simp
  · rw [if_neg hi]
    have : ¬ pr3 i = ((s : Int), (c : Int)) := fun h => hi ((pr3_eq hc).1 h)
    simp [this]
theorem said_drop (hc : c < 3) (e : st.said ((s : Int), (c : Int)) = none) (i : Nat) : (if i = s * 3 + c then Value.int .u8 3 else gSaid st i) = gSaid (st.drop ((s : Int), (c : Int))) i := by
  have := said_alloc (v := 3) hc e i
  rw [show (if (3 : Int) = 1 then (1 : Int) else 3) = 3 from rfl] at this
  exact this
theorem said_drop_some {x : Int} (e : st.said ((s : Int), (c : Int)) = some x) (i : Nat) : gSaid st i = gSaid (st.drop ((s : Int), (c : Int))) i := by
  unfold gSaid Sto.drop Sto.alloc
  rw [e]
theorem gSaid_at (hc : c < 3) : gSaid st (s * 3 + c) = .int .u8 ((st.said ((s : Int), (c : Int))).getD 0) := by unfold gSaid; rw [pr3_at hc]
theorem gAside_at (hc : c < 3) : gAside st (s * 3 + c) = .bool (decide (((s : Int), (c : Int)) ∈ st.aside)) := by unfold gAside; rw [pr3_at hc]
end
/-- For how many of the first k places something is aside. -/
def cntA (st : Sto) (k : Nat) : Nat := ((List.range k).filter fun i => decide (pr3 i ∈ st.aside)).length
theorem cntA_succ (st : Sto) (k : Nat) : cntA st (k + 1) = cntA st k + (if pr3 k ∈ st.aside then 1 else 0) := by
  unfold cntA
  rw [List.range_succ, List.filter_append, List.length_append]
  by_cases h : pr3 k ∈ st.aside <;> simp [h]
theorem cntA_le (st : Sto) (k : Nat) : cntA st k ≤ k := by
  unfold cntA
  exact Nat.le_trans (List.length_filter_le _ _) (by simp)
theorem cntA_all {st : Sto} (hf : st.Fine) (hn : st.aside.Nodup) : cntA st 9 = st.aside.length := by
  unfold cntA
  have h1 : (((List.range 9).filter fun i => decide (pr3 i ∈ st.aside)).map pr3).Perm st.aside := by
    refine (List.perm_ext_iff_of_nodup ?_ hn).2 fun k => ?_
    · refine List.Pairwise.map pr3 (R := fun a b => a ≠ b) ?_ ((List.nodup_range).filter _)
      intro a b hab e
      unfold pr3 at e
      simp only [Prod.mk.injEq] at e
      omega
    · simp only [List.mem_map, List.mem_filter, List.mem_range, decide_eq_true_eq]
      constructor
      · rintro ⟨i, ⟨_, h⟩, rfl⟩; exact h
      · intro h
        obtain ⟨i, hi, rfl⟩ := hf.near k h
        exact ⟨i, ⟨hi, h⟩, rfl⟩
  have := h1.length_eq
  rwa [List.length_map] at this
theorem live_nodup {w0 w : World} {N : Nat → Prop} {g : Nat} {st : Sto} {m : Nat} (h : LiveO (StoB g st m) w0 N w) : st.aside.Nodup := by obtain ⟨F, ⟨b1, b2, h1, _⟩, _⟩ := h; exact h1.nd
end Go.Proofs.Ytcjhgckkbekhoaa
