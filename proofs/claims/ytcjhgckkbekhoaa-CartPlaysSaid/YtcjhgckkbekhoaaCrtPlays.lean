/-
  What a cart is to the law CartPlays: its array, and its list. No conditions.
-/
import Derived.Test.YtcjhgckkbekhoaaCrtAwake
import Derived.Test.YtcjhgckkbekhoaaArrB
namespace Go.Proofs.Ytcjhgckkbekhoaa
open Go.ChangeShapes Go.WideShapes Go.ChangeAt Go.RowKit

def pr3c (i : Nat) : Int × Int := (((i / 3 : Nat) : Int), ((i % 3 : Nat) : Int))
theorem pr3c_at {s c : Nat} (hc : c < 3) : pr3c (s * 3 + c) = ((s : Int), (c : Int)) := by
  unfold pr3c
  rw [show (s * 3 + c) / 3 = s by omega, show (s * 3 + c) % 3 = c by omega]
theorem pr3c_eq {i s c : Nat} (hc : c < 3) : pr3c i = ((s : Int), (c : Int)) ↔ i = s * 3 + c := by
  unfold pr3c
  simp only [Prod.mk.injEq]
  omega
def gTold (st : Crt) : Nat → Value := fun i => .int .u8 ((st.said (pr3c i)).getD 0)
structure Crt.Fine (st : Crt) : Prop where
  said : ∀ k x, st.said k = some x → x = 1 ∨ x = 3
  sent : ∀ k ∈ st.trips, st.said k = some 1
  nd : st.trips.Nodup
  near : ∀ k ∈ st.trips, k.1 < 3
theorem crtFine_new : Crt.new.Fine := ⟨fun _ _ h => (nomatch h), fun _ h => (nomatch h), List.nodup_nil, fun _ h => (nomatch h)⟩
theorem Crt.Fine.ship {st : Crt} (h : st.Fine) {s c : Nat} (hs : s < 3) (v : Int) : (st.ship ((s : Int), (c : Int)) v).Fine := by
  unfold Crt.ship
  cases e : st.said ((s : Int), (c : Int)) with
  | some x => exact h
  | none =>
    have hn : ((s : Int), (c : Int)) ∉ st.trips := fun hm => by rw [h.sent _ hm] at e; cases e
    refine ⟨fun k x hk => ?_, fun k hk => ?_, ?_, fun k hk => ?_⟩
    · simp only at hk
      split at hk
      · injection hk with hk
        subst hk
        split
        · exact .inl rfl
        · exact .inr rfl
      · exact h.said k x hk
    · simp only at hk ⊢
      split at hk
      · rename_i hv
        rcases List.mem_append.1 hk with hk | hk
        · have : k ≠ ((s : Int), (c : Int)) := fun e => hn (e ▸ hk)
          rw [if_neg this]; exact h.sent k hk
        · rw [List.mem_singleton] at hk
          rw [if_pos hk, if_pos hv]
      · have : k ≠ ((s : Int), (c : Int)) := fun e => hn (e ▸ hk)
        rw [if_neg this]; exact h.sent k hk
    · simp only
      split
      · exact List.nodup_append.2 ⟨h.nd, by simp, fun a ha b hb e => by rw [List.mem_singleton] at hb; subst hb; exact hn (e ▸ ha)⟩
      · exact h.nd
    · simp only at hk
      split at hk
      · rcases List.mem_append.1 hk with hk | hk
        · exact h.near k hk
        · rw [List.mem_singleton] at hk; subst hk; simp only; omega
      · exact h.near k hk
section
variable {st : Crt} {s c : Nat} {v : Int}
theorem told_ship (hc : c < 3) (e : st.said ((s : Int), (c : Int)) = none) (i : Nat) : (if i = s * 3 + c then Value.int .u8 (if v = 1 then 1 else 3) else gTold st i) = gTold (st.ship ((s : Int), (c : Int)) v) i := by
  unfold gTold Crt.ship
  rw [e]
  simp only
  by_cases hi : i = s * 3 + c
  · rw [if_pos hi, if_pos ((pr3c_eq hc).2 hi)]; rfl
  · rw [if_neg hi, if_neg (fun h => hi ((pr3c_eq hc).1 h))]
theorem gTold_at (hc : c < 3) : gTold st (s * 3 + c) = .int .u8 ((st.said ((s : Int), (c : Int))).getD 0) := by unfold gTold; rw [pr3c_at hc]
theorem ship_yes (e : st.said ((s : Int), (c : Int)) = none) : (st.ship ((s : Int), (c : Int)) 1).trips = st.trips ++ [((s : Int), (c : Int))] := by unfold Crt.ship; rw [e]; rfl
theorem ship_no (e : st.said ((s : Int), (c : Int)) = none) (hv : ¬ v = 1) : (st.ship ((s : Int), (c : Int)) v).trips = st.trips := by unfold Crt.ship; rw [e]; exact if_neg hv
end
theorem sentOf_one {l : List (Int × Int)} (h : l.Nodup) {p : Int × Int} (hp : p ∈ l) : sentOf l p = 1 := by
  unfold sentOf
  induction l with
  | nil => cases hp
  | cons q r ih =>
    obtain ⟨h1, h2⟩ := List.nodup_cons.1 h
    rw [List.filter_cons]
    rcases List.mem_cons.1 hp with rfl | hp'
    · have : r.filter (fun x => x == p) = [] := List.filter_eq_nil_iff.2 fun x hx e => h1 (by rw [beq_iff_eq] at e; exact e ▸ hx)
      simp [this]
    · have : (q == p) = false := by rw [beq_eq_false_iff_ne]; rintro rfl; exact h1 hp'
      rw [this]; exact ih h2 hp'
theorem sentOf_none {l : List (Int × Int)} {p : Int × Int} (hp : p ∉ l) : sentOf l p = 0 := by
  unfold sentOf
  rw [List.filter_eq_nil_iff.2 fun x hx e => hp (by rw [beq_iff_eq] at e; exact e ▸ hx)]; rfl
end Go.Proofs.Ytcjhgckkbekhoaa
