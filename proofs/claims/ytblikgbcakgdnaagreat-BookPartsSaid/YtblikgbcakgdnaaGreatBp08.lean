/-
  Contracts of season.Right and of package plan's Right; which plans may be; remainders of words without a sign. No conditions.
-/
import Derived.Test.YtblikgbcakgdnaaGreatProg
import Derived.Lib.Hide
import Derived.Maps.AppendAt
import Derived.Test.YtblikgbcakgdnaaGreatBp02
import Derived.Test.YtblikgbcakgdnaaGreatBp03
import Derived.Test.YtblikgbcakgdnaaGreatBp05
import Derived.Test.YtblikgbcakgdnaaGreatBp07
set_option linter.unusedSimpArgs false
set_option linter.unusedVariables false
namespace Go.Proofs.YtblikgbcakgdnaaGreat
set_option maxRecDepth 20000
open Go.ChangeShapes Go.WideShapes Go.ChangeAt Go.RowKit

namespace Pn
/-- May a plan be? -/
def right (a u e t : Int) : Int := if 3 < u ∨ e < 1 ∨ 1000 < e ∨ t < 0 ∨ 1000 < t then 1 else if a < 0 ∨ 1073741824 < a then 9 else 0
def nP (a : Int) : Int := a % 18446744073709551616 % 1073741825
def nU (u : Int) : Int := u % 4
def nE (e : Int) : Int := 1 + e % 18446744073709551616 % 1000
def nT (t : Int) : Int := t % 18446744073709551616 % 1001
/-- The ways that a plan can go. -/
theorem ways {P : Prop} (a u e t : Int) (h1 : 3 < u → P) (h2 : u ≤ 3 → e < 1 → P) (h3 : u ≤ 3 → 1 ≤ e → 1000 < e → P) (h4 : u ≤ 3 → 1 ≤ e → e ≤ 1000 → t < 0 → P) (h5 : u ≤ 3 → 1 ≤ e → e ≤ 1000 → 0 ≤ t → 1000 < t → P)
    (h6 : u ≤ 3 → 1 ≤ e → e ≤ 1000 → 0 ≤ t → t ≤ 1000 → a < 0 → P) (h7 : u ≤ 3 → 1 ≤ e → e ≤ 1000 → 0 ≤ t → t ≤ 1000 → 0 ≤ a → 1073741824 < a → P) (h8 : u ≤ 3 → 1 ≤ e → e ≤ 1000 → 0 ≤ t → t ≤ 1000 → 0 ≤ a → a ≤ 1073741824 → P) : P := by
  by_cases c1 : 3 < u
  · exact h1 c1
  by_cases c2 : e < 1
  · exact h2 (by omega) c2
  by_cases c3 : 1000 < e
  · exact h3 (by omega) (by omega) c3
  by_cases c4 : t < 0
  · exact h4 (by omega) (by omega) (by omega) c4
  by_cases c5 : 1000 < t
  · exact h5 (by omega) (by omega) (by omega) (by omega) c5
  by_cases c6 : a < 0
  · exact h6 (by omega) (by omega) (by omega) (by omega) (by omega) c6
  by_cases c7 : 1073741824 < a
  · exact h7 (by omega) (by omega) (by omega) (by omega) (by omega) (by omega) c7
  · exact h8 (by omega) (by omega) (by omega) (by omega) (by omega) (by omega) (by omega)
end Pn

set_option maxHeartbeats 400000 in
theorem sright_yes (u e : Int) (w : World) (h : u ≤ 3) (h1 : 1 ≤ e) (h2 : e ≤ 1000) :
    Calls Tryz.prog 53 #[.int .u8 u, .int .i64 e] w fun e w' => e = .returned (.bool true) ∧ w = w' := by
  go_enter Tryz.func53, Tryz.ntmps53
  go_wp2
  go_ret
  exact ⟨rfl, rfl⟩
set_option maxHeartbeats 400000 in
theorem sright_no (u e : Int) (w : World) (h : 3 < u ∨ u ≤ 3 ∧ e < 1 ∨ u ≤ 3 ∧ 1 ≤ e ∧ 1000 < e) :
    Calls Tryz.prog 53 #[.int .u8 u, .int .i64 e] w fun e w' => e = .returned (.bool false) ∧ w = w' := by
  rcases h with h | ⟨g, h⟩ | ⟨g, k, h⟩
  · have t : decide (u ≤ 3) = false := by simp; omega
    go_enter Tryz.func53, Tryz.ntmps53
    go_wp2
    go_ret
    exact ⟨rfl, rfl⟩
  · have t : decide (1 ≤ e) = false := by simp; omega
    go_enter Tryz.func53, Tryz.ntmps53
    go_wp2
    go_ret
    exact ⟨rfl, rfl⟩
  · have t : decide (e ≤ 1000) = false := by simp; omega
    go_enter Tryz.func53, Tryz.ntmps53
    go_wp2
    go_ret
    exact ⟨rfl, rfl⟩

set_option maxHeartbeats 1000000 in
theorem plright_any (a u e t : Int) (g l : Bool) (w : World) :
    Calls Tryz.prog 25 #[.agg #[.int .i64 a, .int .u8 u, .int .i64 e, .int .i64 t, .bool g, .bool l]] w fun x w' => x = .returned (.int .i64 (Pn.right a u e t)) ∧ Below w.heap.size w w' := by
  refine Pn.ways a u e t ?_ ?_ ?_ ?_ ?_ ?_ ?_ ?_
  all_goals
    intros
    first | (rw [show Pn.right a u e t = 1 by unfold Pn.right; rw [if_pos (by omega)]]) | (rw [show Pn.right a u e t = 9 by unfold Pn.right; rw [if_neg (by omega), if_pos (by omega)]]) | (rw [show Pn.right a u e t = 0 by unfold Pn.right; rw [if_neg (by omega), if_neg (by omega)]])
    try have d1 : decide (t < 0) = false := by simp; omega
    try have d2 : decide (t < 0) = true := by simp; omega
    try have d3 : decide (1000 < t) = false := by simp; omega
    try have d4 : decide (1000 < t) = true := by simp; omega
    try have d5 : decide (a < 0) = false := by simp; omega
    try have d6 : decide (a < 0) = true := by simp; omega
    try have d7 : decide (1073741824 < a) = false := by simp; omega
    try have d8 : decide (1073741824 < a) = true := by simp; omega
    go_enter Tryz.func25, Tryz.ntmps25
    go_wp2_with (go_at_call 53; (first | refine (sright_yes _ _ _ (by omega) (by omega) (by omega)).mono ?_ | refine (sright_no _ _ _ (by omega)).mono ?_); rintro e w' ⟨rfl, rfl⟩)
    go_ret
    exact ⟨rfl, by go_grown⟩

end Go.Proofs.YtblikgbcakgdnaaGreat
/-
  Contracts of package plan's Right and Change, of the law's own look at what may be, and of the law's plan that may be. No conditions.
-/
namespace Go.Proofs.YtblikgbcakgdnaaGreat
set_option maxRecDepth 20000
open Go.ChangeShapes Go.WideShapes Go.ChangeAt Go.RowKit


/-- Change: both parts. -/
theorem change_yes (a b p n u e t u' e' t' : Int) (g l g' l' : Bool) (w : World) (ha : 0 ≤ a) (ha1 : a ≤ 1125899906842624) (hb : 0 ≤ b) (hb1 : b ≤ 1125899906842624) (g0 : 0 ≤ p) (g1 : p ≤ n) (n0 : 1 ≤ n) (n1 : n ≤ 9223372036854775807) :
    Calls Tryz.prog 128 #[.agg #[.int .i64 a, .int .u8 u, .int .i64 e, .int .i64 t, .bool g, .bool l], .agg #[.int .i64 b, .int .u8 u', .int .i64 e', .int .i64 t', .bool g', .bool l'], .int .i64 p, .int .i64 n] w
      fun x w' => x = .returned (.tuple #[.int .i64 (a * p / n), .int .i64 (b * p / n), .int .i64 0]) ∧ Below w.heap.size w w' := by
  go_enter Tryz.func128, Tryz.ntmps128
  go_wp2_with (fail)
  refine (part_yes _ _ _ _ ha ha1 g0 g1 n0 n1).mono ?_
  rintro x w1 ⟨rfl, hb1'⟩
  obtain ⟨hw, z0, z1, e1⟩ := two_of hb1'
  rw [e1]
  have HW := Lib.hid hw
  clear hw e1 hb1'
  go_wp2_with (fail)
  refine (part_yes _ _ _ _ hb hb1 g0 g1 n0 n1).mono ?_
  rintro x w2 ⟨rfl, hb2⟩
  have hw2 := (two_again HW.out z1 hb2).1
  clear hb2
  go_wp2
  go_ret3
  exact ⟨rfl, hw2⟩
end Go.Proofs.YtblikgbcakgdnaaGreat
/-
  Contracts of plan.List: one more plan, and a plan by its number. No conditions but the sizes.
-/
namespace Go.Proofs.YtblikgbcakgdnaaGreat
set_option maxRecDepth 20000
open Go.ChangeShapes Go.WideShapes Go.ChangeAt Go.RowKit

theorem plown_more {w : World} {base base' : Nat} {e : TypeId} {size : Nat} {v : Value} {n : Nat} {xs : List Value} (h : w.ownsRow base e size v n xs) (hB : base' ≤ base) : w.ownsRow base' e size v n xs := ⟨h.1, h.2.elim .inl fun ⟨g, cap, cur, h1, h2, h3⟩ => .inr ⟨g, cap, cur, h1, by omega, h3⟩⟩
theorem planinfo : (Tryz.prog.info? 44).map (fun i => (i.zero, i.size, i.bytes)) = some (some (.agg #[.int .i64 0, .int .u8 0, .int .i64 0, .int .i64 0, .bool false, .bool false]), 6, 40) := by kernel_rfl
theorem Pv.cs_len (p : Pv) : p.cs.length = 6 := rfl
theorem Pv.cs_one (p : Pv) : ∀ u ∈ p.cs, u.oneCell' = true := by
  intro u hu
  simp only [Pv.cs, List.mem_cons, List.not_mem_nil, or_false] at hu
  rcases hu with rfl | rfl | rfl | rfl | rfl | rfl <;> rfl
/-- The cells of plans, one behind the other. -/
def pcs (qs : List Pv) : List Value := qs.flatMap Pv.cs
theorem pcs_snoc (qs : List Pv) (p : Pv) : pcs (qs ++ [p]) = pcs qs ++ p.cs := by unfold pcs; simp
theorem pcs_len (qs : List Pv) : (pcs qs).length = qs.length * 6 := by
  induction qs with
  | nil => rfl
  | cons q r ih => unfold pcs at *; rw [List.flatMap_cons, List.length_append, ih, Pv.cs_len, List.length_cons]; omega
theorem pcs_at {qs : List Pv} {k : Nat} {p : Pv} (h : qs[k]? = some p) {i : Nat} {v : Value} (hv : p.cs[i]? = some v) : (pcs qs)[k * 6 + i]? = some v := by
  induction qs generalizing k with
  | nil => simp at h
  | cons q r ih =>
    have hi : i < 6 := by have := (List.getElem?_eq_some_iff.1 hv).1; rwa [Pv.cs_len] at this
    unfold pcs at *
    rw [List.flatMap_cons]
    rcases k with _ | k
    · simp at h; subst h
      rw [List.getElem?_append_left (by rw [Pv.cs_len]; omega)]
      simpa using hv
    · rw [List.getElem?_append_right (by rw [Pv.cs_len]; omega), Pv.cs_len, show (k + 1) * 6 + i - 6 = k * 6 + i by omega]
      exact ih (by simpa using h)
/-- A list of the call's own. -/
def Lst (w : World) (base : Nat) (v : Value) (qs : List Pv) : Prop := w.ownsRow base 44 6 v qs.length (pcs qs)

theorem clip_any (w : World) (A : Option Addr) (n c : Nat) (h : n ≤ c) (hA : A = none → c = 0) :
    Calls Tryz.prog 56 #[.slice A n c] w fun e w' => e = .returned (.slice A n n) ∧ w = w' := by
  rcases A with _ | a
  · have := hA rfl
    subst this
    obtain rfl : n = 0 := by omega
    go_enter Tryz.func56, Tryz.ntmps56
    go_wp2
    go_ret
    exact ⟨rfl, rfl⟩
  · go_enter Tryz.func56, Tryz.ntmps56
    go_wp2
    go_ret
    exact ⟨rfl, rfl⟩

/-- Behind a list that was clipped: a list in memory of its own. -/
theorem run_clip_append {w : World} {base n c : Nat} {A : Option Addr} {qs : List Pv} {p : Pv} {ad : Addr} {c' : Nat} {ty : TypeId} (h : Lst w base (.slice A n c) qs) (hn : qs.length ≤ 1000) (hp : ∀ j u, p.cs[j]? = some u → w.cell? (ad.add j) = some u) :
    ∃ A' c2 w', (Builtin.append_ #[27, 27] ty #[.slice A n n, .slice (some ad) 1 c']).run Tryz.prog w = .ok (.slice A' (n + 1) c2) w' ∧ Lst w' w.heap.size (.slice A' (n + 1) c2) (qs ++ [p]) ∧ Below w.heap.size w w' := by
  obtain ⟨i, hi, hz, hsz, hby⟩ := info_parts planinfo
  have hln := h.1
  rw [pcs_len] at hln
  rcases h.2 with ⟨hv, hl⟩ | ⟨g, cap, cur, hv, hb, hg, hnc, hcm, hcs, htake⟩
  · injection hv with h1 h2 h3
    subst h1 h2 h3
    have hq : qs = [] := List.eq_nil_of_length_eq_zero hl
    subst hq
    obtain ⟨v', w', hrun, h2, h3, h4, h5⟩ := run_append_own_at (P := Tryz.prog) (w := w) w.heap.size 27 ty 44 i _ 6 40 Tryz.underlying27 hi hz hsz hby rfl (by decide) (.slice none 0 0) 0 [] (World.ownsRow_nil _ _ _ _) ad 1 c' p.cs rfl hp (Pv.cs_one p) (by unfold maxLen; omega) (by omega) (Nat.le_refl _)
    rw [Nat.zero_add, List.nil_append] at h2
    obtain ⟨A', c2, rfl, _, _⟩ := own_form h2
    refine ⟨A', c2, w', hrun, ?_, ⟨h3.os, h3.tape, h3.output, h3.size, fun i hi => h3.block i hi (by simp [Value.ownBlock])⟩⟩
    unfold Lst
    rw [pcs_snoc]
    exact h2
  · injection hv with h1 h2 h3
    subst h1 h2 h3
    have holds : ∀ j u, (pcs qs)[j]? = some u → w.cell? ((⟨g, 0, none⟩ : Addr).add j) = some u := World.ownsRow.cells h (g := g) rfl
    have hr := run_append_grow (P := Tryz.prog) w 27 ty 44 i _ Tryz.underlying27 hi hz ⟨g, 0, none⟩ qs.length qs.length (pcs qs) (by rw [pcs_len, hsz]) holds ad 1 c' p.cs (by rw [hsz]; rfl) hp (by omega) (by omega) (growslice_fits (by omega) (by rw [hby]; omega))
    refine ⟨_, _, _, hr, ?_, (((Below.refl w.heap.size w).drew).alloc (Nat.le_refl _) _)⟩
    unfold Lst
    rw [List.length_append, List.length_singleton, pcs_snoc]
    have hge := grownCap_ge w (qs.length + 1) qs.length 44
    refine ⟨by rw [List.length_append, pcs_len, Pv.cs_len]; omega, .inr ⟨w.heap.size, _, _, rfl, Nat.le_refl _, heap_alloc_new w.drew _, hge, grownCap_le_maxLen w _ _ _ (by unfold maxLen; omega), ?_, ?_⟩⟩
    · simp only [Array.size_append, List.size_toArray, size_zeroCells, pcs_len, Pv.cs_len]
      show qs.length * 6 + 6 + (grownCap w (qs.length + 1) qs.length 44 - (qs.length + 1)) * 6 = _
      omega
    · simp only [Array.toList_append, List.append_assoc]
      rw [← List.append_assoc, show (qs.length + 1) * 6 = (pcs qs ++ p.cs).length by rw [List.length_append, pcs_len, Pv.cs_len]; omega]
      exact List.take_left

theorem Lst.form {w : World} {base : Nat} {v : Value} {qs : List Pv} (h : Lst w base v qs) : ∃ A c, v = .slice A qs.length c ∧ qs.length ≤ c ∧ (A = none → c = 0) := by
  rcases h.2 with ⟨rfl, e⟩ | ⟨g, cap, cur, rfl, _, _, h1, _⟩
  · rw [e]; exact ⟨none, 0, rfl, Nat.le_refl _, fun _ => rfl⟩
  · exact ⟨_, _, rfl, h1, fun e => by cases e⟩

/-- What Add tells. -/
def Added (w : World) (qs : List Pv) (p : Pv) (x : Ending) (w' : World) : Prop :=
  (Pn.right p.a p.u p.e p.t ≠ 0 ∧ x = .returned (.tuple #[.slice none 0 0, .int .i64 0, .int .i64 (Pn.right p.a p.u p.e p.t)])) ∨
  (Pn.right p.a p.u p.e p.t = 0 ∧ 8 ≤ qs.length ∧ x = .returned (.tuple #[.slice none 0 0, .int .i64 0, .int .i64 3])) ∨
  (Pn.right p.a p.u p.e p.t = 0 ∧ qs.length < 8 ∧ ∃ A c, x = .returned (.tuple #[.slice A (qs.length + 1) c, .int .i64 qs.length, .int .i64 0]) ∧ Lst w' w.heap.size (.slice A (qs.length + 1) c) (qs ++ [p]))

set_option maxHeartbeats 4000000 in
theorem pladd_any (w : World) (base n c : Nat) (A : Option Addr) (qs : List Pv) (a u e t : Int) (g l : Bool) (h : Lst w base (.slice A n c) qs) (hq : qs.length = n) (hn : n ≤ 1000) :
    Calls Tryz.prog 27 #[.slice A n c, .agg #[.int .i64 a, .int .u8 u, .int .i64 e, .int .i64 t, .bool g, .bool l]] w fun x w' => Added w qs ⟨a, u, e, t, g, l⟩ x w' ∧ Below w.heap.size w w' := by
  obtain ⟨A0, c0, hv, hnc, hA⟩ := h.form
  injection hv with h1 h2 h3
  subst h1 h3
  rw [hq] at hnc
  have H := Lib.hid h
  have HQ := Lib.hid hq
  clear h hq h2
  by_cases hr : Pn.right a u e t = 0
  · have HR := Lib.hid hr
    by_cases h8 : n < 8
    · have d1 : decide ((8 : Int) ≤ (n : Int)) = false := by simp; omega
      clear hr
      go_enter Tryz.func27, Tryz.ntmps27
      go_wp2_with (fail)
      refine (plright_any a u e t g l _).mono ?_
      rw [HR.out]
      rintro x w1 ⟨rfl, hb1⟩
      obtain ⟨hw1, s1, e1⟩ := keep0 hb1
      have hp1 : w1.heap[w.heap.size]? = some (.cells #[.int .i64 a, .int .u8 u, .int .i64 e, .int .i64 t, .bool g, .bool l] 44) := below_block hb1 alloc_block
      have HW1 := Lib.hid hw1
      have HP1 := Lib.hid hp1
      clear e1 hb1 hw1 hp1
      have hb2 : Below w1.heap.size w1 ((w1.alloc (Obj.cells #[.int .i64 a, .int .u8 u, .int .i64 e, .int .i64 t, .bool g, .bool l] 44)).drew) := ((Below.refl _ w1).alloc (Nat.le_refl _) _).drew
      have hn2 : ((w1.alloc (Obj.cells #[.int .i64 a, .int .u8 u, .int .i64 e, .int .i64 t, .bool g, .bool l] 44)).drew).heap[w1.heap.size]? = some (Obj.cells #[.int .i64 a, .int .u8 u, .int .i64 e, .int .i64 t, .bool g, .bool l] 44) := alloc_block
      have hl2 : Lst ((w1.alloc (Obj.cells #[.int .i64 a, .int .u8 u, .int .i64 e, .int .i64 t, .bool g, .bool l] 44)).drew) base (.slice A n c) qs := own_kept H.out fun i hi => (hb2.block i (by have := (H.out.lt i hi).2; have := HW1.out.size; omega)).trans (HW1.out.block i (H.out.lt i hi).2)
      have hr2 := fun (ty : TypeId) => run_clip_append (w := (w1.alloc (Obj.cells #[.int .i64 a, .int .u8 u, .int .i64 e, .int .i64 t, .bool g, .bool l] 44)).drew) (p := ⟨a, u, e, t, g, l⟩) (ad := ⟨w1.heap.size, 0, none⟩) (c' := 1) (ty := ty) hl2 (by have := HQ.out; omega) (fun j v hj => by
        rw [ad_head, cell_of_row _ _ _ _ _ (0, 0) hn2, ← Array.getElem?_toList]; exact hj)
      obtain ⟨A3, c3, w3, hrun, hl3, hb3⟩ := hr2 27
      have hp3 : w3.heap[w.heap.size]? = some (Obj.cells #[.int .i64 a, .int .u8 u, .int .i64 e, .int .i64 t, .bool g, .bool l] 44) := (hb3.block _ (by have := hb2.size; omega)).trans ((hb2.block _ s1).trans HP1.out)
      have hw3 : Below w.heap.size w w3 := HW1.out.trans ((hb2.trans (hb3.mono hb2.size)).mono HW1.out.size)
      have hl4 : Lst w3 w.heap.size (.slice A3 (n + 1) c3) (qs ++ [⟨a, u, e, t, g, l⟩]) := plown_more hl3 (by have := hb2.size; have := HW1.out.size; omega)
      have HRUN := Lib.hid hrun
      have HL4 := Lib.hid hl4
      have HW3 := Lib.hid hw3
      have HP3 := Lib.hid hp3
      clear hb2 hn2 hl2 hr2 hrun hl3 hb3 hp3 hw3 hl4
      go_wp2
      refine lane_start (ord := [0, 2, 5, 6, 1, 3, 4, 7, 8, 9]) (S := fun w' => Pn.At w.heap.size a u e t g l w') rfl (by kernel_rfl) (Pn.At.of (w := w1.drew) HP1.out) (fun hHeld => ?_)
      repeat (first
        | (refine lane_take (v := ?_) rfl (by kernel_rfl) (by kernel_rfl) (by rfl) ?_ (by assumption) ?_; rotate_left; (focus (intro w hSw; obtain ⟨s0, s1, s2, s3, s4, s5⟩ := hSw; (try dsimp only at s0 s1 s2 s3 s4 s5); go_simp; try (with_reducible rfl))); simp only [Act.put, List.setIfInBounds_toArray, List.set_cons_zero, List.set_cons_succ]))
      refine lane_two (i := 1) (j := 3) (ordI := [3, 4, 7, 8, 9]) (ordJ := [1, 4, 7, 8, 9]) rfl rfl (by kernel_rfl) rfl (by rfl) (by rfl) (fun K hK => ?_) (fun K hK => ?_)
      · go_simp
        refine (clip_any _ A n c hnc hA).mono ?_
        rintro x w2 ⟨rfl, rfl⟩
        refine hK _ _ hHeld (fun hHeld => ?_)
        clear hK K
        refine lane_alone rfl (by kernel_rfl) (by rfl) (fun K hK => ?_)
        go_simp
        refine hK _ _ (Pn.At.of (w := (w1.alloc (Obj.cells #[.int .i64 a, .int .u8 u, .int .i64 e, .int .i64 t, .bool g, .bool l] 44)).drew) ((alloc_block_old s1).trans HP1.out)) (fun hHeld => ?_)
        clear hK K
        refine lane_alone rfl (by kernel_rfl) (by rfl) (fun K hK => ?_)
        refine wp_of_value (exec_append (sv := .slice A n n) (xv := .slice (some ⟨w1.heap.size, 0, none⟩) 1 1) rfl rfl rfl HRUN.out) ?_
        simp only [Act.put, List.setIfInBounds_toArray, List.set_cons_zero, List.set_cons_succ]
        refine hK _ _ (Pn.At.of HP3.out) (fun hHeld => ?_)
        clear hK K
        repeat (first
          | (refine lane_take (v := ?_) rfl (by kernel_rfl) (by kernel_rfl) (by rfl) ?_ (by assumption) ?_; rotate_left; (focus (intro w hSw; obtain ⟨s0, s1, s2, s3, s4, s5⟩ := hSw; (try dsimp only at s0 s1 s2 s3 s4 s5); go_simp; try (with_reducible rfl))); simp only [Act.put, List.setIfInBounds_toArray, List.set_cons_zero, List.set_cons_succ]))
        refine lane_end (by kernel_rfl) ?_
        go_wp2
        go_ret3
        have hq := HQ.out
        subst hq
        exact ⟨.inr (.inr ⟨HR.out, h8, A3, c3, rfl, HL4.out⟩), HW3.out⟩
      · go_simp
        refine hK _ _ (Pn.At.of (w := (w1.alloc (Obj.cells #[.int .i64 a, .int .u8 u, .int .i64 e, .int .i64 t, .bool g, .bool l] 44)).drew) ((alloc_block_old s1).trans HP1.out)) (fun hHeld => ?_)
        clear hK K
        refine lane_alone rfl (by kernel_rfl) (by rfl) (fun K hK => ?_)
        go_simp
        refine (clip_any _ A n c hnc hA).mono ?_
        rintro x w2 ⟨rfl, rfl⟩
        refine hK _ _ (Pn.At.of (w := (w1.alloc (Obj.cells #[.int .i64 a, .int .u8 u, .int .i64 e, .int .i64 t, .bool g, .bool l] 44)).drew) ((alloc_block_old s1).trans HP1.out)) (fun hHeld => ?_)
        clear hK K
        refine lane_alone rfl (by kernel_rfl) (by rfl) (fun K hK => ?_)
        refine wp_of_value (exec_append (sv := .slice A n n) (xv := .slice (some ⟨w1.heap.size, 0, none⟩) 1 1) rfl rfl rfl HRUN.out) ?_
        simp only [Act.put, List.setIfInBounds_toArray, List.set_cons_zero, List.set_cons_succ]
        refine hK _ _ (Pn.At.of HP3.out) (fun hHeld => ?_)
        clear hK K
        repeat (first
          | (refine lane_take (v := ?_) rfl (by kernel_rfl) (by kernel_rfl) (by rfl) ?_ (by assumption) ?_; rotate_left; (focus (intro w hSw; obtain ⟨s0, s1, s2, s3, s4, s5⟩ := hSw; (try dsimp only at s0 s1 s2 s3 s4 s5); go_simp; try (with_reducible rfl))); simp only [Act.put, List.setIfInBounds_toArray, List.set_cons_zero, List.set_cons_succ]))
        refine lane_end (by kernel_rfl) ?_
        go_wp2
        go_ret3
        have hq := HQ.out
        subst hq
        exact ⟨.inr (.inr ⟨HR.out, h8, A3, c3, rfl, HL4.out⟩), HW3.out⟩
    · have d1 : decide ((8 : Int) ≤ (n : Int)) = true := by simp; omega
      clear hr
      go_enter Tryz.func27, Tryz.ntmps27
      go_wp2_with (fail)
      refine (plright_any a u e t g l _).mono ?_
      rw [HR.out]
      rintro x w1 ⟨rfl, hb1⟩
      have HW1 := Lib.hid (keep0 hb1).1
      clear hb1
      go_wp2
      go_ret3
      exact ⟨.inr (.inl ⟨HR.out, by have := HQ.out; omega, rfl⟩), HW1.out⟩
  · have d1 : (Pn.right a u e t != 0) = true := by simpa using hr
    have HR := Lib.hid hr
    clear hr
    go_enter Tryz.func27, Tryz.ntmps27
    go_wp2_with (fail)
    refine (plright_any a u e t g l _).mono ?_
    rintro x w1 ⟨rfl, hb1⟩
    have HW1 := Lib.hid (keep0 hb1).1
    clear hb1
    go_wp2
    go_ret3
    exact ⟨.inl ⟨HR.out, rfl⟩, HW1.out⟩

/-- A plan of a list, by its cells. -/
theorem Lst.at_ {w : World} {base n c k : Nat} {A : Option Addr} {qs : List Pv} {p : Pv} (h : Lst w base (.slice A n c) qs) (hk : qs[k]? = some p) :
    ∃ q cur, A = some ⟨q, 0, none⟩ ∧ k < n ∧ n ≤ c ∧ base ≤ q ∧ q < w.heap.size ∧ w.heap[q]? = some (.cells cur 44 (0, 0)) ∧ ∀ (i : Nat) (v : Value), p.cs[i]? = some v → w.cell? ⟨q, k * 6 + i, none⟩ = some v := by
  have hkl := (List.getElem?_eq_some_iff.1 hk).1
  rcases h.2 with ⟨_, e⟩ | ⟨q, cap, cur, hv, hb, hg, h1, _⟩
  · omega
  · injection hv with h2 h3 h4
    subst h2 h4
    refine ⟨q, cur, rfl, by omega, by omega, hb, (Array.getElem?_eq_some_iff.1 hg).1, hg, fun i v hv => ?_⟩
    have := World.ownsRow.cells h (g := q) rfl (k * 6 + i) v (pcs_at hk hv)
    rwa [ad_head] at this

end Go.Proofs.YtblikgbcakgdnaaGreat
/-
  A world that is known in three blocks. No conditions but those that each law names.
-/
namespace Go.Proofs.YtblikgbcakgdnaaGreat
open Go.ChangeShapes Go.WideShapes Go.ChangeAt Go.RowKit

/-- Three new blocks of a call, behind another call that makes new blocks alone; and again. -/
theorem box3 {w w1 : World} {cs0 cs1 cs2 : Array Value} {t0 t1 t2 : TypeId} (hb : Below (((w.alloc (.cells cs0 t0)).alloc (.cells cs1 t1)).alloc (.cells cs2 t2)).heap.size (((w.alloc (.cells cs0 t0)).alloc (.cells cs1 t1)).alloc (.cells cs2 t2)) w1) :
    Below w.heap.size w w1 ∧ w.heap.size < w1.heap.size ∧ w.heap.size + 1 < w1.heap.size ∧ w.heap.size + 1 + 1 < w1.heap.size ∧ w1 = boxed (boxed (boxed w1 w.heap.size cs0 t0) (w.heap.size + 1) cs1 t1) (w.heap.size + 1 + 1) cs2 t2 := by
  have hz := hb.size
  have b0 : w1.heap[w.heap.size]? = some (.cells cs0 t0) := below_block hb (alloc_old (by simp; omega) (alloc_old (by simp) (alloc_at rfl)))
  have b1 : w1.heap[w.heap.size + 1]? = some (.cells cs1 t1) := below_block hb (alloc_old (by simp) (alloc_at (by simp)))
  have b2 : w1.heap[w.heap.size + 1 + 1]? = some (.cells cs2 t2) := below_block hb (alloc_at (by simp))
  simp at hz
  refine ⟨((((Below.refl _ _).alloc (Nat.le_refl _) _).alloc (by simp) _).alloc (by simp; omega) _).trans (hb.mono (by simp; omega)), by omega, by omega, by omega, ?_⟩
  rw [← boxed_self b0, ← boxed_self b1, ← boxed_self b2]
section
variable {wx : World} {B : Nat} {c0 c1 c2 : Array Value} {t0 t1 t2 : TypeId} {o o' : Obj}
/-- The first two of three known blocks, with a block or two that are made behind them. -/
theorem look0 (h : B + 1 + 1 < wx.heap.size) : (boxed (boxed (boxed wx B c0 t0) (B + 1) c1 t1) (B + 1 + 1) c2 t2).heap[B]? = some (.cells c0 t0 (0, 0)) :=
  boxed_old (by omega) (boxed_old (by omega) (boxed_at (by omega)))
theorem look0_1 (h : B + 1 + 1 < wx.heap.size) : ((boxed (boxed (boxed wx B c0 t0) (B + 1) c1 t1) (B + 1 + 1) c2 t2).alloc o).heap[B]? = some (.cells c0 t0 (0, 0)) := alloc_old (by simp; omega) (look0 h)
end
end Go.Proofs.YtblikgbcakgdnaaGreat
