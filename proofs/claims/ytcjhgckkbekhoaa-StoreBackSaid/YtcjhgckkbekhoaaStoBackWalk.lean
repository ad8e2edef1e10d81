/-
  The walk of the law StoreBack. No conditions.
-/
import Derived.Test.YtcjhgckkbekhoaaStoAwake
import Derived.Test.YtcjhgckkbekhoaaBoRow
namespace Go.Proofs.Ytcjhgckkbekhoaa
set_option maxRecDepth 20000
set_option linter.unusedSimpArgs false
set_option linter.unusedVariables false
open Go.ChangeShapes Go.WideShapes Go.ChangeAt Go.RowKit

/-- What was put back. -/
def Sto.Back (st : Sto) (k : Int × Int) : Prop := (∃ x, st.said k = some x) ∧ st.aside = []
theorem alloc_some {st : Sto} {k : Int × Int} {v x : Int} (h : st.said k = some x) : st.alloc k v = st := by unfold Sto.alloc; rw [h]
theorem back_alloc {st : Sto} {k : Int × Int} {v : Int} (h : st.Back k) : st.alloc k v = st := by obtain ⟨⟨x, hx⟩, _⟩ := h; unfold Sto.alloc; rw [hx]
theorem back_drop {st : Sto} {k : Int × Int} (h : st.Back k) : st.drop k = st := by
  unfold Sto.drop
  rw [back_alloc h]
  obtain ⟨_, h2⟩ := h
  obtain ⟨a, b⟩ := st
  simp only at h2
  subst h2
  rfl
theorem back_first (k : Int × Int) (v : Int) : ((Sto.new.alloc k v).drop k).Back k := by
  have e : (Sto.new.alloc k v).said k = some (if v = 1 then 1 else 3) := by show (if k = k then some (if v = 1 then 1 else 3) else none) = _; rw [if_pos rfl]
  have e2 : (Sto.new.alloc k v).alloc k 3 = Sto.new.alloc k v := alloc_some e
  refine ⟨⟨if v = 1 then 1 else 3, ?_⟩, ?_⟩
  · unfold Sto.drop; rw [e2]; exact e
  · unfold Sto.drop
    rw [e2]
    show (if v = 1 then [k] else []).filter (· != k) = []
    split
    · simp
    · rfl
set_option maxHeartbeats 1000000 in
theorem storeBack_far {w : World} (S C : Int) (A : Option Addr) (n c : Nat) (v : Int) (h : 30 < n) : Calls Try.prog 8 #[.int .i64 S, .int .i64 C, .slice A n c, .int .u8 v] w fun e w' => e = .returned (.bool true) ∧ Below w.heap.size w w' := by
  have d1 : decide ((30 : Int) < (n : Int)) = true := by simp; omega
  go_enter Try.func8, Try.ntmps8
  go_wp2_with (fail)
  refine (stoAwake_any _).mono ?_
  rintro e w1 ⟨rfl, hb1⟩
  go_wp2_with (fail)
  refine (stoAwake_any _).mono ?_
  rintro e w2 ⟨rfl, hb2⟩
  go_wp2
  go_ret
  exact ⟨rfl, hb1.trans (hb2.mono hb1.size)⟩
set_option maxHeartbeats 2000000 in
theorem storeBack_in {w : World} (S C : Int) (A : Option Addr) (n c : Nat) (l : List Bo) (v : Int) (hk : pok (S, C)) (hr : RdBo w w.heap.size A l) (hn : l.length = n) (h : n ≤ 30) : Calls Try.prog 8 #[.int .i64 S, .int .i64 C, .slice A n c, .int .u8 v] w fun e w' => e = .returned (.bool true) ∧ Below w.heap.size w w' := by
  have d1 : decide ((30 : Int) < (n : Int)) = false := by simp; omega
  have HR := Lib.hid hr
  have HN := Lib.hid hn
  clear hr hn
  go_enter Try.func8, Try.ntmps8
  go_wp2_with (fail)
  refine (stoAwake_any _).mono ?_
  rintro e U ⟨rfl, hU⟩
  have HU := Lib.hid hU
  have hUs : w.heap.size ≤ U.heap.size := hU.size
  clear hU
  go_wp2_with (fail)
  refine (snew_live).mono ?_
  rintro e W1 ⟨rfl, hl, hz1⟩
  have HL1 := Lib.hid hl
  have l1 : U.heap.size ≤ W1.heap.size := hl.old.size
  clear hl hz1
  go_wp2_with (fail)
  have HLE : LiveO (StoB (U.heap.size + 2) .new 0) U (fun (_ : Nat) => False) W1 := HL1.out
  have hNE : ∀ i : Nat, (fun (_ : Nat) => False) i → i < W1.heap.size := fun i hi => hi.elim
  refine (shear_alloc_live HLE hNE hk (by omega)).mono ?_
  rintro e W2 ⟨rfl, hl, hk⟩
  have hsz : W1.heap.size ≤ W2.heap.size := hk.size
  try simp only [World.size_alloc, boxed_size] at hsz
  have HL2 := Lib.hid hl
  have l2 : W1.heap.size + 0 ≤ W2.heap.size := by omega
  clear hl hk hsz HLE hNE
  go_wp2_with (fail)
  have HLE : LiveO (StoB (U.heap.size + 2) (Sto.new.alloc (S, C) v) (0 + 2)) U (fun (_ : Nat) => False) W2 := HL2.out
  have hNE : ∀ i : Nat, (fun (_ : Nat) => False) i → i < W2.heap.size := fun i hi => hi.elim
  refine (shear_drop_live HLE hNE hk (by omega)).mono ?_
  rintro e W3 ⟨rfl, hl, hk⟩
  have hsz : W2.heap.size ≤ W3.heap.size := hk.size
  try simp only [World.size_alloc, boxed_size] at hsz
  have HL3 := Lib.hid hl
  have l3 : W2.heap.size + 0 ≤ W3.heap.size := by omega
  clear hl hk hsz HLE hNE
  obtain ⟨st, hst⟩ : ∃ st, st = (Sto.new.alloc (S, C) v).drop (S, C) := ⟨_, rfl⟩
  have HBK : Hid (st.Back (S, C)) := by rw [hst]; exact back_first _ _
  rw [← hst] at HL3
  clear hst
  go_wp2
  go_loopw [10] (fun i wq => ∃ j : Nat, j ≤ n ∧ i = .int .i64 j ∧ Hid (LiveO (StoB (U.heap.size + 2) st (4 + 2 * j)) U (fun _ => False) wq)) (fun i _ => n - (intOf i).toNat)
  case atStart => exact ⟨0, by omega, rfl, HL3⟩
  case round =>
    obtain ⟨j, hj, rfl, HL⟩ := hrel
    by_cases hlt : j < n
    case neg =>
      obtain rfl : j = n := by omega
      have dlt : decide ((j : Int) < (j : Int)) = false := by simp
      go_wp2
      go_ret
      exact ⟨rfl, HU.out.trans (HL.out.old.mono hUs)⟩
    case pos =>
      have dlt : decide ((j : Int) < (n : Int)) = true := by simpa using hlt
      obtain ⟨⟨x⟩, hx⟩ : ∃ x, l[j]? = some x := ⟨l[j]'(by have := HN.out; omega), List.getElem?_eq_getElem _⟩
      obtain ⟨gg, oo, rfl, hgg, hcx⟩ := HR.out j _ hx
      have hcell : wr.cell? ⟨gg, oo + j, none⟩ = some (.bool x) := by
        have h1 := hcx 0 _ rfl
        rw [Nat.mul_one, Nat.add_zero] at h1
        exact ((World.cell?_of_block (a := ⟨gg, oo + j, none⟩) (HL.out.old.block gg (by omega))).trans (World.cell?_of_block (a := ⟨gg, oo + j, none⟩) (HU.out.block gg hgg))).trans h1
      clear hcx hx
      have k0 : (0 : Int) ≤ (j : Int) := by omega
      cases x
      · skip
        have HL1 := HL
        have l1 : U.heap.size ≤ wr.heap.size := HL1.out.old.size
        go_wp2_with (fail)
        have HLE : LiveO (StoB (U.heap.size + 2) st (4 + 2 * j)) U (fun (_ : Nat) => False) wr := HL1.out
        have hNE : ∀ i : Nat, (fun (_ : Nat) => False) i → i < wr.heap.size := fun i hi => hi.elim
        refine (shear_alloc_live HLE hNE hk (by omega)).mono ?_
        rintro e W2 ⟨rfl, hl, hk⟩
        have hsz : wr.heap.size ≤ W2.heap.size := hk.size
        try simp only [World.size_alloc, boxed_size] at hsz
        have HL2 := Lib.hid hl
        have l2 : wr.heap.size + 0 ≤ W2.heap.size := by omega
        clear hl hk hsz HLE hNE
        rw [back_alloc HBK.out] at HL2
        go_wp2_with (fail)
        have HLE : LiveO (StoB (U.heap.size + 2) st (4 + 2 * j + 2)) U (fun (_ : Nat) => False) W2 := HL2.out
        have hNE : ∀ i : Nat, (fun (_ : Nat) => False) i → i < W2.heap.size := fun i hi => hi.elim
        refine (aside_live HLE hk).mono ?_
        rintro e W3 ⟨rfl, hk⟩
        have hl := HLE.below (sto_thing (U.heap.size + 2) st (4 + 2 * j + 2)) hk
        have hsz : W2.heap.size ≤ W3.heap.size := hk.size
        try simp only [World.size_alloc, boxed_size] at hsz
        have HL3 := Lib.hid hl
        have l3 : W2.heap.size + 0 ≤ W3.heap.size := by omega
        clear hl hk hsz HLE hNE
        have a1 : decide ((S, C) ∈ st.aside) = false := by rw [HBK.out.2]; rfl
        rw [a1]
        clear a1
        go_wp2_with (fail)
        have HLE : LiveO (StoB (U.heap.size + 2) st (4 + 2 * j + 2)) U (fun (_ : Nat) => False) W3 := HL3.out
        have hNE : ∀ i : Nat, (fun (_ : Nat) => False) i → i < W3.heap.size := fun i hi => hi.elim
        refine (count_live HLE).mono ?_
        rintro e _ ⟨rfl, rfl⟩
        clear HLE hNE
        have a2 : ((st.aside.length : Nat) : Int) = 0 := by rw [HBK.out.2]; rfl
        rw [a2]
        clear a2
        go_wp2
        go_roundw
        case rel => exact ⟨j + 1, by omega, by go_num, HL3⟩
        case measure => simp [intOf]; omega
      · skip
        have HL1 := HL
        have l1 : U.heap.size ≤ wr.heap.size := HL1.out.old.size
        go_wp2_with (fail)
        have HLE : LiveO (StoB (U.heap.size + 2) st (4 + 2 * j)) U (fun (_ : Nat) => False) wr := HL1.out
        have hNE : ∀ i : Nat, (fun (_ : Nat) => False) i → i < wr.heap.size := fun i hi => hi.elim
        refine (shear_drop_live HLE hNE hk (by omega)).mono ?_
        rintro e W2 ⟨rfl, hl, hk⟩
        have hsz : wr.heap.size ≤ W2.heap.size := hk.size
        try simp only [World.size_alloc, boxed_size] at hsz
        have HL2 := Lib.hid hl
        have l2 : wr.heap.size + 0 ≤ W2.heap.size := by omega
        clear hl hk hsz HLE hNE
        rw [back_drop HBK.out] at HL2
        go_wp2_with (fail)
        have HLE : LiveO (StoB (U.heap.size + 2) st (4 + 2 * j + 2)) U (fun (_ : Nat) => False) W2 := HL2.out
        have hNE : ∀ i : Nat, (fun (_ : Nat) => False) i → i < W2.heap.size := fun i hi => hi.elim
        refine (aside_live HLE hk).mono ?_
        rintro e W3 ⟨rfl, hk⟩
        have hl := HLE.below (sto_thing (U.heap.size + 2) st (4 + 2 * j + 2)) hk
        have hsz : W2.heap.size ≤ W3.heap.size := hk.size
        try simp only [World.size_alloc, boxed_size] at hsz
        have HL3 := Lib.hid hl
        have l3 : W2.heap.size + 0 ≤ W3.heap.size := by omega
        clear hl hk hsz HLE hNE
        have a1 : decide ((S, C) ∈ st.aside) = false := by rw [HBK.out.2]; rfl
        rw [a1]
        clear a1
        go_wp2_with (fail)
        have HLE : LiveO (StoB (U.heap.size + 2) st (4 + 2 * j + 2)) U (fun (_ : Nat) => False) W3 := HL3.out
        have hNE : ∀ i : Nat, (fun (_ : Nat) => False) i → i < W3.heap.size := fun i hi => hi.elim
        refine (count_live HLE).mono ?_
        rintro e _ ⟨rfl, rfl⟩
        clear HLE hNE
        have a2 : ((st.aside.length : Nat) : Int) = 0 := by rw [HBK.out.2]; rfl
        rw [a2]
        clear a2
        go_wp2
        go_roundw
        case rel => exact ⟨j + 1, by omega, by go_num, HL3⟩
        case measure => simp [intOf]; omega
theorem storeBack_walk {w : World} (S : Int) (h1 : (Lit.int .i64 S).wf = true) (C : Int) (h2 : (Lit.int .i64 C).wf = true) (A : Option Addr) (c : Nat) (l : List Bo) (hr : RdBo w w.heap.size A l) (_ : ∀ p ∈ l, p.Wf) (v : Int) (_ : (Lit.int .u8 v).wf = true) :
    Calls Try.prog 8 #[.int .i64 S, .int .i64 C, .slice A l.length c, .int .u8 v] w fun e w' => e = .returned (.bool true) ∧ Below w.heap.size w w' := by
  by_cases h : l.length ≤ 30
  · exact storeBack_in S C A _ c l v ⟨h1, h2⟩ hr rfl h
  · exact storeBack_far S C A _ c v (by omega)
end Go.Proofs.Ytcjhgckkbekhoaa
