/-
  Contracts of plan.List: one more plan, and a plan by its number. No conditions but the sizes.
-/
import Derived.Maps.AppendAt
import Derived.IntWalk
import Derived.Test.YtblikgbcakgdnaaGreatBr02
import Derived.Test.YtblikgbcakgdnaaGreatBr03
import Derived.Test.YtblikgbcakgdnaaGreatBr04
import Derived.Test.YtblikgbcakgdnaaGreatBr05
set_option linter.unusedSimpArgs false
set_option linter.unusedVariables false
namespace Go.Proofs.YtblikgbcakgdnaaGreat
set_option maxRecDepth 20000
open Go.ChangeShapes Go.WideShapes Go.ChangeAt Go.RowKit

theorem plown_more {w : World} {base base' : Nat} {e : TypeId} {size : Nat} {v : Value} {n : Nat} {xs : List Value} (h : w.ownsRow base e size v n xs) (hB : base' ≤ base) : w.ownsRow base' e size v n xs := ⟨h.1, h.2.elim .inl fun ⟨g, cap, cur, h1, h2, h3⟩ => .inr ⟨g, cap, cur, h1, by omega, h3⟩⟩
theorem planinfo : (Tryz.prog.info? 44).map (fun i => (i.zero, i.size, i.bytes)) = some (some (.agg #[.int .i64 0, .int .u8 0, .int .i64 0, .int .i64 0, .bool false, .bool false]), 6, 40) := by kernel_rfl
theorem Pv.cs_len (p : Pv) : p.cs.length = 6 := rfl
theorem Pv.cs_one (p : Pv) : ∀ u ∈ p.cs, u.oneCell' = true := by
  intro u hu
  simp only [Pv.cs, List.mem_cons, List.not_mem_nil, or_false] at hu
  rcases hu with rfl | rfl | rfl | rfl | rfl | rfl <;> rfl
/-- The cells of plans, one behind the other. -/
def pcs (qs : List Pv) : List Value := qs.flatMap Pv.cs
theorem pcs_snoc (qs : List Pv) (p : Pv) : pcs (qs ++ [p]) = pcs qs ++ p.cs := by unfold pcs; simp
theorem pcs_len (qs : List Pv) : (pcs qs).length = qs.length * 6 := by
  induction qs with
  | nil => rfl
  | cons q r ih => unfold pcs at *; rw [List.flatMap_cons, List.length_append, ih, Pv.cs_len, List.length_cons]; omega
theorem pcs_at {qs : List Pv} {k : Nat} {p : Pv} (h : qs[k]? = some p) {i : Nat} {v : Value} (hv : p.cs[i]? = some v) : (pcs qs)[k * 6 + i]? = some v := by
  induction qs generalizing k with
  | nil => simp at h
  | cons q r ih =>
    have hi : i < 6 := by have := (List.getElem?_eq_some_iff.1 hv).1; rwa [Pv.cs_len] at this
    unfold pcs at *
    rw [List.flatMap_cons]
    rcases k with _ | k
    · simp at h; subst h
      rw [List.getElem?_append_left (by rw [Pv.cs_len]; omega)]
      simpa using hv
    · rw [List.getElem?_append_right (by rw [Pv.cs_len]; omega), Pv.cs_len, show (k + 1) * 6 + i - 6 = k * 6 + i by omega]
      exact ih (by simpa using h)
/-- A list of the call's own. -/
def Lst (w : World) (base : Nat) (v : Value) (qs : List Pv) : Prop := w.ownsRow base 44 6 v qs.length (pcs qs)

theorem clip_any (w : World) (A : Option Addr) (n c : Nat) (h : n ≤ c) (hA : A = none → c = 0) :
    Calls Tryz.prog 56 #[.slice A n c] w fun e w' => e = .returned (.slice A n n) ∧ w = w' := by
  rcases A with _ | a
  · have := hA rfl
    subst this
    obtain rfl : n = 0 := by omega
    go_enter Tryz.func56, Tryz.ntmps56
    go_wp2
    go_ret
    exact ⟨rfl, rfl⟩
  · go_enter Tryz.func56, Tryz.ntmps56
    go_wp2
    go_ret
    exact ⟨rfl, rfl⟩

/-- Behind a list that was clipped: a list in memory of its own. -/
theorem run_clip_append {w : World} {base n c : Nat} {A : Option Addr} {qs : List Pv} {p : Pv} {ad : Addr} {c' : Nat} {ty : TypeId} (h : Lst w base (.slice A n c) qs) (hn : qs.length ≤ 1000) (hp : ∀ j u, p.cs[j]? = some u → w.cell? (ad.add j) = some u) :
    ∃ A' c2 w', (Builtin.append_ #[27, 27] ty #[.slice A n n, .slice (some ad) 1 c']).run Tryz.prog w = .ok (.slice A' (n + 1) c2) w' ∧ Lst w' w.heap.size (.slice A' (n + 1) c2) (qs ++ [p]) ∧ Below w.heap.size w w' := by
  obtain ⟨i, hi, hz, hsz, hby⟩ := info_parts planinfo
  have hln := h.1
  rw [pcs_len] at hln
  rcases h.2 with ⟨hv, hl⟩ | ⟨g, cap, cur, hv, hb, hg, hnc, hcm, hcs, htake⟩
  · injection hv with h1 h2 h3
    subst h1 h2 h3
    have hq : qs = [] := List.eq_nil_of_length_eq_zero hl
    subst hq
    obtain ⟨v', w', hrun, h2, h3, h4, h5⟩ := run_append_own_at (P := Tryz.prog) (w := w) w.heap.size 27 ty 44 i _ 6 40 Tryz.underlying27 hi hz hsz hby rfl (by decide) (.slice none 0 0) 0 [] (World.ownsRow_nil _ _ _ _) ad 1 c' p.cs rfl hp (Pv.cs_one p) (by unfold maxLen; omega) (by omega) (Nat.le_refl _)
    rw [Nat.zero_add, List.nil_append] at h2
    obtain ⟨A', c2, rfl, _, _⟩ := own_form h2
    refine ⟨A', c2, w', hrun, ?_, ⟨h3.os, h3.tape, h3.output, h3.size, fun i hi => h3.block i hi (by simp [Value.ownBlock])⟩⟩
    unfold Lst
    rw [pcs_snoc]
    exact h2
  · injection hv with h1 h2 h3
    subst h1 h2 h3
    have holds : ∀ j u, (pcs qs)[j]? = some u → w.cell? ((⟨g, 0, none⟩ : Addr).add j) = some u := World.ownsRow.cells h (g := g) rfl
    have hr := run_append_grow (P := Tryz.prog) w 27 ty 44 i _ Tryz.underlying27 hi hz ⟨g, 0, none⟩ qs.length qs.length (pcs qs) (by rw [pcs_len, hsz]) holds ad 1 c' p.cs (by rw [hsz]; rfl) hp (by omega) (by omega) (growslice_fits (by omega) (by rw [hby]; omega))
    refine ⟨_, _, _, hr, ?_, (((Below.refl w.heap.size w).drew).alloc (Nat.le_refl _) _)⟩
    unfold Lst
    rw [List.length_append, List.length_singleton, pcs_snoc]
    have hge := grownCap_ge w (qs.length + 1) qs.length 44
    refine ⟨by rw [List.length_append, pcs_len, Pv.cs_len]; omega, .inr ⟨w.heap.size, _, _, rfl, Nat.le_refl _, heap_alloc_new w.drew _, hge, grownCap_le_maxLen w _ _ _ (by unfold maxLen; omega), ?_, ?_⟩⟩
    · simp only [Array.size_append, List.size_toArray, size_zeroCells, pcs_len, Pv.cs_len]
      show qs.length * 6 + 6 + (grownCap w (qs.length + 1) qs.length 44 - (qs.length + 1)) * 6 = _
      omega
    · simp only [Array.toList_append, List.append_assoc]
      rw [← List.append_assoc, show (qs.length + 1) * 6 = (pcs qs ++ p.cs).length by rw [List.length_append, pcs_len, Pv.cs_len]; omega]
      exact List.take_left

theorem Lst.form {w : World} {base : Nat} {v : Value} {qs : List Pv} (h : Lst w base v qs) : ∃ A c, v = .slice A qs.length c ∧ qs.length ≤ c ∧ (A = none → c = 0) := by
  rcases h.2 with ⟨rfl, e⟩ | ⟨g, cap, cur, rfl, _, _, h1, _⟩
  · rw [e]; exact ⟨none, 0, rfl, Nat.le_refl _, fun _ => rfl⟩
  · exact ⟨_, _, rfl, h1, fun e => by cases e⟩

/-- What Add tells. -/
def Added (w : World) (qs : List Pv) (p : Pv) (x : Ending) (w' : World) : Prop :=
  (Pn.right p.a p.u p.e p.t ≠ 0 ∧ x = .returned (.tuple #[.slice none 0 0, .int .i64 0, .int .i64 (Pn.right p.a p.u p.e p.t)])) ∨
  (Pn.right p.a p.u p.e p.t = 0 ∧ 8 ≤ qs.length ∧ x = .returned (.tuple #[.slice none 0 0, .int .i64 0, .int .i64 3])) ∨
  (Pn.right p.a p.u p.e p.t = 0 ∧ qs.length < 8 ∧ ∃ A c, x = .returned (.tuple #[.slice A (qs.length + 1) c, .int .i64 qs.length, .int .i64 0]) ∧ Lst w' w.heap.size (.slice A (qs.length + 1) c) (qs ++ [p]))

set_option maxHeartbeats 4000000 in
theorem pladd_any (w : World) (base n c : Nat) (A : Option Addr) (qs : List Pv) (a u e t : Int) (g l : Bool) (h : Lst w base (.slice A n c) qs) (hq : qs.length = n) (hn : n ≤ 1000) :
    Calls Tryz.prog 27 #[.slice A n c, .agg #[.int .i64 a, .int .u8 u, .int .i64 e, .int .i64 t, .bool g, .bool l]] w fun x w' => Added w qs ⟨a, u, e, t, g, l⟩ x w' ∧ Below w.heap.size w w' := by
  obtain ⟨A0, c0, hv, hnc, hA⟩ := h.form
  injection hv with h1 h2 h3
  subst h1 h3
  rw [hq] at hnc
  have H := Lib.hid h
  have HQ := Lib.hid hq
  clear h hq h2
  by_cases hr : Pn.right a u e t = 0
  · have HR := Lib.hid hr
    by_cases h8 : n < 8
    · have d1 : decide ((8 : Int) ≤ (n : Int)) = false := by simp; omega
      clear hr
      go_enter Tryz.func27, Tryz.ntmps27
      go_wp2_with (fail)
      refine (plright_any a u e t g l _).mono ?_
      rw [HR.out]
      rintro x w1 ⟨rfl, hb1⟩
      obtain ⟨hw1, s1, e1⟩ := keep0 hb1
      have hp1 : w1.heap[w.heap.size]? = some (.cells #[.int .i64 a, .int .u8 u, .int .i64 e, .int .i64 t, .bool g, .bool l] 44) := below_block hb1 alloc_block
      have HW1 := Lib.hid hw1
      have HP1 := Lib.hid hp1
      clear e1 hb1 hw1 hp1
      have hb2 : Below w1.heap.size w1 ((w1.alloc (Obj.cells #[.int .i64 a, .int .u8 u, .int .i64 e, .int .i64 t, .bool g, .bool l] 44)).drew) := ((Below.refl _ w1).alloc (Nat.le_refl _) _).drew
      have hn2 : ((w1.alloc (Obj.cells #[.int .i64 a, .int .u8 u, .int .i64 e, .int .i64 t, .bool g, .bool l] 44)).drew).heap[w1.heap.size]? = some (Obj.cells #[.int .i64 a, .int .u8 u, .int .i64 e, .int .i64 t, .bool g, .bool l] 44) := alloc_block
      have hl2 : Lst ((w1.alloc (Obj.cells #[.int .i64 a, .int .u8 u, .int .i64 e, .int .i64 t, .bool g, .bool l] 44)).drew) base (.slice A n c) qs := own_kept H.out fun i hi => (hb2.block i (by have := (H.out.lt i hi).2; have := HW1.out.size; omega)).trans (HW1.out.block i (H.out.lt i hi).2)
      have hr2 := fun (ty : TypeId) => run_clip_append (w := (w1.alloc (Obj.cells #[.int .i64 a, .int .u8 u, .int .i64 e, .int .i64 t, .bool g, .bool l] 44)).drew) (p := ⟨a, u, e, t, g, l⟩) (ad := ⟨w1.heap.size, 0, none⟩) (c' := 1) (ty := ty) hl2 (by have := HQ.out; omega) (fun j v hj => by
        rw [ad_head, cell_of_row _ _ _ _ _ (0, 0) hn2, ← Array.getElem?_toList]; exact hj)
      obtain ⟨A3, c3, w3, hrun, hl3, hb3⟩ := hr2 27
      have hp3 : w3.heap[w.heap.size]? = some (Obj.cells #[.int .i64 a, .int .u8 u, .int .i64 e, .int .i64 t, .bool g, .bool l] 44) := (hb3.block _ (by have := hb2.size; omega)).trans ((hb2.block _ s1).trans HP1.out)
      have hw3 : Below w.heap.size w w3 := HW1.out.trans ((hb2.trans (hb3.mono hb2.size)).mono HW1.out.size)
      have hl4 : Lst w3 w.heap.size (.slice A3 (n + 1) c3) (qs ++ [⟨a, u, e, t, g, l⟩]) := plown_more hl3 (by have := hb2.size; have := HW1.out.size; omega)
      have HRUN := Lib.hid hrun
      have HL4 := Lib.hid hl4
      have HW3 := Lib.hid hw3
      have HP3 := Lib.hid hp3
      clear hb2 hn2 hl2 hr2 hrun hl3 hb3 hp3 hw3 hl4
      go_wp2
      refine lane_start (ord := [0, 2, 5, 6, 1, 3, 4, 7, 8, 9]) (S := fun w' => Pn.At w.heap.size a u e t g l w') rfl (by kernel_rfl) (Pn.At.of (w := w1.drew) HP1.out) (fun hHeld => ?_)
      repeat (first
        | (refine lane_take (v := ?_) rfl (by kernel_rfl) (by kernel_rfl) (by rfl) ?_ (by assumption) ?_; rotate_left; (focus (intro w hSw; obtain ⟨s0, s1, s2, s3, s4, s5⟩ := hSw; (try dsimp only at s0 s1 s2 s3 s4 s5); go_simp; try (with_reducible rfl))); simp only [Act.put, List.setIfInBounds_toArray, List.set_cons_zero, List.set_cons_succ]))
      refine lane_two (i := 1) (j := 3) (ordI := [3, 4, 7, 8, 9]) (ordJ := [1, 4, 7, 8, 9]) rfl rfl (by kernel_rfl) rfl (by rfl) (by rfl) (fun K hK => ?_) (fun K hK => ?_)
      · go_simp
        refine (clip_any _ A n c hnc hA).mono ?_
        rintro x w2 ⟨rfl, rfl⟩
        refine hK _ _ hHeld (fun hHeld => ?_)
        clear hK K
        refine lane_alone rfl (by kernel_rfl) (by rfl) (fun K hK => ?_)
        go_simp
        refine hK _ _ (Pn.At.of (w := (w1.alloc (Obj.cells #[.int .i64 a, .int .u8 u, .int .i64 e, .int .i64 t, .bool g, .bool l] 44)).drew) ((alloc_block_old s1).trans HP1.out)) (fun hHeld => ?_)
        clear hK K
        refine lane_alone rfl (by kernel_rfl) (by rfl) (fun K hK => ?_)
        refine wp_of_value (exec_append (sv := .slice A n n) (xv := .slice (some ⟨w1.heap.size, 0, none⟩) 1 1) rfl rfl rfl HRUN.out) ?_
        simp only [Act.put, List.setIfInBounds_toArray, List.set_cons_zero, List.set_cons_succ]
        refine hK _ _ (Pn.At.of HP3.out) (fun hHeld => ?_)
        clear hK K
        repeat (first
          | (refine lane_take (v := ?_) rfl (by kernel_rfl) (by kernel_rfl) (by rfl) ?_ (by assumption) ?_; rotate_left; (focus (intro w hSw; obtain ⟨s0, s1, s2, s3, s4, s5⟩ := hSw; (try dsimp only at s0 s1 s2 s3 s4 s5); go_simp; try (with_reducible rfl))); simp only [Act.put, List.setIfInBounds_toArray, List.set_cons_zero, List.set_cons_succ]))
        refine lane_end (by kernel_rfl) ?_
        go_wp2
        go_ret3
        have hq := HQ.out
        subst hq
        exact ⟨.inr (.inr ⟨HR.out, h8, A3, c3, rfl, HL4.out⟩), HW3.out⟩
      · go_simp
        refine hK _ _ (Pn.At.of (w := (w1.alloc (Obj.cells #[.int .i64 a, .int .u8 u, .int .i64 e, .int .i64 t, .bool g, .bool l] 44)).drew) ((alloc_block_old s1).trans HP1.out)) (fun hHeld => ?_)
        clear hK K
        refine lane_alone rfl (by kernel_rfl) (by rfl) (fun K hK => ?_)
        go_simp
        refine (clip_any _ A n c hnc hA).mono ?_
        rintro x w2 ⟨rfl, rfl⟩
        refine hK _ _ (Pn.At.of (w := (w1.alloc (Obj.cells #[.int .i64 a, .int .u8 u, .int .i64 e, .int .i64 t, .bool g, .bool l] 44)).drew) ((alloc_block_old s1).trans HP1.out)) (fun hHeld => ?_)
        clear hK K
        refine lane_alone rfl (by kernel_rfl) (by rfl) (fun K hK => ?_)
        refine wp_of_value (exec_append (sv := .slice A n n) (xv := .slice (some ⟨w1.heap.size, 0, none⟩) 1 1) rfl rfl rfl HRUN.out) ?_
        simp only [Act.put, List.setIfInBounds_toArray, List.set_cons_zero, List.set_cons_succ]
        refine hK _ _ (Pn.At.of HP3.out) (fun hHeld => ?_)
        clear hK K
        repeat (first
          | (refine lane_take (v := ?_) rfl (by kernel_rfl) (by kernel_rfl) (by rfl) ?_ (by assumption) ?_; rotate_left; (focus (intro w hSw; obtain ⟨s0, s1, s2, s3, s4, s5⟩ := hSw; (try dsimp only at s0 s1 s2 s3 s4 s5); go_simp; try (with_reducible rfl))); simp only [Act.put, List.setIfInBounds_toArray, List.set_cons_zero, List.set_cons_succ]))
        refine lane_end (by kernel_rfl) ?_
        go_wp2
        go_ret3
        have hq := HQ.out
        subst hq
        exact ⟨.inr (.inr ⟨HR.out, h8, A3, c3, rfl, HL4.out⟩), HW3.out⟩
    · have d1 : decide ((8 : Int) ≤ (n : Int)) = true := by simp; omega
      clear hr
      go_enter Tryz.func27, Tryz.ntmps27
      go_wp2_with (fail)
      refine (plright_any a u e t g l _).mono ?_
      rw [HR.out]
      rintro x w1 ⟨rfl, hb1⟩
      have HW1 := Lib.hid (keep0 hb1).1
      clear hb1
      go_wp2
      go_ret3
      exact ⟨.inr (.inl ⟨HR.out, by have := HQ.out; omega, rfl⟩), HW1.out⟩
  · have d1 : (Pn.right a u e t != 0) = true := by simpa using hr
    have HR := Lib.hid hr
    clear hr
    go_enter Tryz.func27, Tryz.ntmps27
    go_wp2_with (fail)
    refine (plright_any a u e t g l _).mono ?_
    rintro x w1 ⟨rfl, hb1⟩
    have HW1 := Lib.hid (keep0 hb1).1
    clear hb1
    go_wp2
    go_ret3
    exact ⟨.inl ⟨HR.out, rfl⟩, HW1.out⟩

/-- A plan of a list, by its cells. -/
theorem Lst.at_ {w : World} {base n c k : Nat} {A : Option Addr} {qs : List Pv} {p : Pv} (h : Lst w base (.slice A n c) qs) (hk : qs[k]? = some p) :
    ∃ q cur, A = some ⟨q, 0, none⟩ ∧ k < n ∧ n ≤ c ∧ base ≤ q ∧ q < w.heap.size ∧ w.heap[q]? = some (.cells cur 44 (0, 0)) ∧ ∀ (i : Nat) (v : Value), p.cs[i]? = some v → w.cell? ⟨q, k * 6 + i, none⟩ = some v := by
  have hkl := (List.getElem?_eq_some_iff.1 hk).1
  rcases h.2 with ⟨_, e⟩ | ⟨q, cap, cur, hv, hb, hg, h1, _⟩
  · omega
  · injection hv with h2 h3 h4
    subst h2 h4
    refine ⟨q, cur, rfl, by omega, by omega, hb, (Array.getElem?_eq_some_iff.1 hg).1, hg, fun i v hv => ?_⟩
    have := World.ownsRow.cells h (g := q) rfl (k * 6 + i) v (pcs_at hk hv)
    rwa [ad_head] at this

theorem plnone_any (w : World) (n c : Nat) (k : Int) (A : Option Addr) (h : k < 0 ∨ 0 ≤ k ∧ (n : Int) ≤ k) :
    Calls Tryz.prog 57 #[.slice A n c, .int .i64 k] w fun x w' => x = .returned (.tuple #[.agg #[.int .i64 0, .int .u8 0, .int .i64 0, .int .i64 0, .bool false, .bool false], .int .i64 2]) ∧ Below w.heap.size w w' := by
  rcases h with h | ⟨h0, h⟩
  · have d1 : decide (k < 0) = true := by simpa using h
    go_enter Tryz.func57, Tryz.ntmps57
    go_wp2
    refine bodyPost_ret (v := .tuple #[.agg #[.int .i64 0, .int .u8 0, .int .i64 0, .int .i64 0, .bool false, .bool false], .int .i64 2]) ?_ rfl ⟨rfl, by go_grown⟩
    simp [results, Tryz.results57, go_sem]
  · have d1 : decide (k < 0) = false := by simpa using h0
    have d2 : decide ((n : Int) ≤ k) = true := by simpa using h
    go_enter Tryz.func57, Tryz.ntmps57
    go_wp2
    refine bodyPost_ret (v := .tuple #[.agg #[.int .i64 0, .int .u8 0, .int .i64 0, .int .i64 0, .bool false, .bool false], .int .i64 2]) ?_ rfl ⟨rfl, by go_grown⟩
    simp [results, Tryz.results57, go_sem]
end Go.Proofs.YtblikgbcakgdnaaGreat
/-
  A world that is known in three blocks. No conditions but those that each law names.
-/
namespace Go.Proofs.YtblikgbcakgdnaaGreat
open Go.ChangeShapes Go.WideShapes Go.ChangeAt Go.RowKit

/-- Three new blocks of a call, behind another call that makes new blocks alone; and again. -/
theorem box3 {w w1 : World} {cs0 cs1 cs2 : Array Value} {t0 t1 t2 : TypeId} (hb : Below (((w.alloc (.cells cs0 t0)).alloc (.cells cs1 t1)).alloc (.cells cs2 t2)).heap.size (((w.alloc (.cells cs0 t0)).alloc (.cells cs1 t1)).alloc (.cells cs2 t2)) w1) :
    Below w.heap.size w w1 ∧ w.heap.size < w1.heap.size ∧ w.heap.size + 1 < w1.heap.size ∧ w.heap.size + 1 + 1 < w1.heap.size ∧ w1 = boxed (boxed (boxed w1 w.heap.size cs0 t0) (w.heap.size + 1) cs1 t1) (w.heap.size + 1 + 1) cs2 t2 := by
  have hz := hb.size
  have b0 : w1.heap[w.heap.size]? = some (.cells cs0 t0) := below_block hb (alloc_old (by simp; omega) (alloc_old (by simp) (alloc_at rfl)))
  have b1 : w1.heap[w.heap.size + 1]? = some (.cells cs1 t1) := below_block hb (alloc_old (by simp) (alloc_at (by simp)))
  have b2 : w1.heap[w.heap.size + 1 + 1]? = some (.cells cs2 t2) := below_block hb (alloc_at (by simp))
  simp at hz
  refine ⟨((((Below.refl _ _).alloc (Nat.le_refl _) _).alloc (by simp) _).alloc (by simp; omega) _).trans (hb.mono (by simp; omega)), by omega, by omega, by omega, ?_⟩
  rw [← boxed_self b0, ← boxed_self b1, ← boxed_self b2]
theorem box3_again {w wx w2 : World} {B : Nat} {cs0 cs1 cs2 : Array Value} {t0 t1 t2 : TypeId} (h0 : Below B w wx) (hz : B + 1 + 1 < wx.heap.size)
    (hb : Below (boxed (boxed (boxed wx B cs0 t0) (B + 1) cs1 t1) (B + 1 + 1) cs2 t2).heap.size (boxed (boxed (boxed wx B cs0 t0) (B + 1) cs1 t1) (B + 1 + 1) cs2 t2) w2) :
    Below B w w2 ∧ B + 1 + 1 < w2.heap.size ∧ w2 = boxed (boxed (boxed w2 B cs0 t0) (B + 1) cs1 t1) (B + 1 + 1) cs2 t2 := by
  have hs := hb.size
  have b0 : w2.heap[B]? = some (.cells cs0 t0) := below_block hb (boxed_old (by omega) (boxed_old (by omega) (boxed_at (by omega))))
  have b1 : w2.heap[B + 1]? = some (.cells cs1 t1) := below_block hb (boxed_old (by omega) (boxed_at (by rw [boxed_size]; omega)))
  have b2 : w2.heap[B + 1 + 1]? = some (.cells cs2 t2) := below_block hb (boxed_at (by rw [boxed_size, boxed_size]; omega))
  rw [boxed_size, boxed_size, boxed_size] at hs
  have hq : Below B wx (boxed (boxed (boxed wx B cs0 t0) (B + 1) cs1 t1) (B + 1 + 1) cs2 t2) := boxed_below (boxed_below (boxed_below (Below.refl _ _) (Nat.le_refl B)) (by omega)) (by omega)
  refine ⟨h0.trans (hq.trans (hb.mono (by rw [boxed_size, boxed_size, boxed_size]; omega))), by omega, ?_⟩
  rw [← boxed_self b0, ← boxed_self b1, ← boxed_self b2]
section
variable {wx : World} {B : Nat} {c0 c1 c2 : Array Value} {t0 t1 t2 : TypeId} {o o' : Obj}
/-- The first two of three known blocks, with a block or two that are made behind them. -/
theorem look0 (h : B + 1 + 1 < wx.heap.size) : (boxed (boxed (boxed wx B c0 t0) (B + 1) c1 t1) (B + 1 + 1) c2 t2).heap[B]? = some (.cells c0 t0 (0, 0)) :=
  boxed_old (by omega) (boxed_old (by omega) (boxed_at (by omega)))
theorem look0_1 (h : B + 1 + 1 < wx.heap.size) : ((boxed (boxed (boxed wx B c0 t0) (B + 1) c1 t1) (B + 1 + 1) c2 t2).alloc o).heap[B]? = some (.cells c0 t0 (0, 0)) := alloc_old (by simp; omega) (look0 h)
end
end Go.Proofs.YtblikgbcakgdnaaGreat
/-
  A subscription's lists: the document's own 'with' and 'change'. No conditions but the sizes.
-/
namespace Go.Proofs.YtblikgbcakgdnaaGreat
set_option maxRecDepth 20000
open Go.ChangeShapes Go.WideShapes Go.ChangeAt Go.RowKit

/-- All of a list behind a row of the call's own: at the operation, for the walk. -/
theorem wpList_append_cys {T E : TypeId} (ty : CyTy T E) {w : World} {ops : Array Oper} {rest : List Oper} {o : Oper} {a : Act} {Q : Exit → Act → World → Prop} (hgd : o.guard = none) (s x : Operand)
    (ho : o.op = .call { callee := .builtin .append, args := #[s, x], argTypes := #[T, T] }) {base b B : Nat} {v0 v : Value} {l0 l : List Cv} (hsv : a.eval s = v0) (hx : a.eval x = v)
    (how : w.ownsRow base E 8 v0 l0.length (ccs l0)) (h : Cys w b B v l) (hs : l0.length + l.length ≤ 100000000) (hb : base ≤ w.heap.size)
    (hk : ∀ v' w', w'.ownsRow base E 8 v' (l0 ++ l).length (ccs (l0 ++ l)) → w.grownBy w' v0.ownBlock → (v'.ownBlock = v0.ownBlock ∨ v'.ownBlock = some w.heap.size) → wpList Tryz.prog ops Q rest (a.put o.dst v') w') : wpList Tryz.prog ops Q (o :: rest) a w := by
  refine wpList_plain hgd fun K hK => ?_
  obtain ⟨v', w', hrun, h1, h2, h3⟩ := run_append_cys ty (q := o.type) how h hs hb
  unfold Oper.wp execOp
  simp only [ho, resolve, invoke, builtin, Sem.run_bind, Sem.run_pure, Result.andThen_ok, List.map_toArray, List.map_cons, List.map_nil, hsv, hx, hrun]
  exact hK _ _ (hk v' w' h1 h2 h3)
theorem setCells_below {w w1 : World} {g o : Nat} {vs : List Value} {b : Nat} (h : Below b w w1) (hg : b ≤ g) : Below b w (w1.setCells g o vs) := by
  induction vs generalizing w1 o with
  | nil => exact h
  | cons v r ih => exact ih (Below.setCell (p := ⟨g, o, none⟩) h hg v)
/-- A row of the call's own in which one cycle is stored anew: what it reads as. -/
theorem set_reads {w : World} {g : Nat} {l : List Cv} {k : Nat} {c : Cv} {cs : List Value} (hcs : c.cs = cs) (hr : w.rangeAt g 0 (ccs l)) (ht : w.there g (k * 8) 8) (hk : k < l.length) : (w.setCells g (k * 8) cs).rangeAt g 0 (ccs (l.set k c)) := by
  have hl : cs.length = 8 := by rw [← hcs]; exact c.cs_len
  have h1 := World.rangeAt_setCells_same w g (k * 8) cs (by rw [hl]; exact ht)
  intro j u hu
  obtain ⟨q, hq, hqu⟩ := ccs_of hu
  have hj : j = j / 8 * 8 + j % 8 := by omega
  have hm : j % 8 < 8 := by omega
  rw [Nat.zero_add]
  generalize j / 8 = J at *
  generalize j % 8 = I at *
  subst hj
  by_cases he : J = k
  · rw [he, List.getElem?_set_self (by omega)] at hq
    injection hq with hq
    rw [← hq, hcs] at hqu
    rw [he]
    exact h1 I u hqu
  · rw [List.getElem?_set_ne (by omega)] at hq
    have h5 : w.rangeAt g (J * 8) q.cs := fun i v hv => by
      have := hr _ v (ccs_at hq hv)
      rw [Nat.zero_add] at this
      exact this
    have h6 := World.rangeAt_setCells_apart h5 g (k * 8) cs (by rw [Cv.cs_len, hl]; omega)
    exact h6 I u hqu
theorem Cys.set {w : World} {base : Nat} {E : TypeId} {g cap : Nat} {l : List Cv} {k : Nat} {c : Cv} {cs : List Value} (hcs : c.cs = cs) (h : w.ownsRow base E 8 (.slice (some ⟨g, 0, none⟩) l.length cap) l.length (ccs l)) (hk : k < l.length) :
    w.there g (k * 8) 8 ∧ Cys (w.setCells g (k * 8) cs) base (w.setCells g (k * 8) cs).heap.size (.slice (some ⟨g, 0, none⟩) l.length cap) (l.set k c) := by
  have hz : w.heap.size ≤ (w.setCells g (k * 8) cs).heap.size := (setCells_below (Below.refl 0 w) (Nat.zero_le g)).size
  rcases h.2 with ⟨hv, _⟩ | ⟨g', cap', cur, hv, hb, hg, h1, h2, h3, h4⟩
  · injection hv with e; cases e
  injection hv with e1 e2 e3
  injection e1 with e1
  injection e1 with e1
  subst e1 e3
  have hr : w.rangeAt g 0 (ccs l) := fun j u hu => by
    rw [cell_of_row _ _ _ _ _ _ hg, Nat.zero_add, ← Array.getElem?_toList]
    rw [← h4, List.getElem?_take] at hu
    split at hu
    · exact hu
    · cases hu
  have ht : w.there g (k * 8) 8 := fun j hj => ⟨by rw [cell_of_row _ _ _ _ _ _ hg, Array.getElem?_eq_getElem (by rw [h3]; have : (k + 1) * 8 ≤ cap * 8 := Nat.mul_le_mul_right 8 (by omega); omega)]; rfl, by unfold World.frozen?; rw [hg]; simp⟩
  exact ⟨ht, some ⟨g, 0, none⟩, cap, by rw [List.length_set], by rw [List.length_set]; exact h1, h2, fun _ => ⟨g, 0, rfl, ⟨hb, Nat.lt_of_lt_of_le (Array.getElem?_eq_some_iff.1 hg).1 hz⟩, set_reads hcs hr ht hk⟩, fun e => by cases e⟩
end Go.Proofs.YtblikgbcakgdnaaGreat
/-
  One cycle of a subscription is another one: the document's own change. No conditions but the sizes.
-/
namespace Go.Proofs.YtblikgbcakgdnaaGreat
set_option maxRecDepth 20000
open Go.ChangeShapes Go.WideShapes Go.ChangeAt Go.RowKit

/-- The credit, behind a cycle that has turned. -/
def Cy.gain (cr : Int) (c z : Cv) : Int := if (z.p = 8 ∨ z.p = 9) ∧ c.p < 7 then cr + z.u else cr
end Go.Proofs.YtblikgbcakgdnaaGreat
/-
  Plain mathematics of the proleptic Gregorian calendar, with no program in it: leap years, the months' days, a year's first day, a day's number. No conditions.
-/
namespace Go.Proofs.YtblikgbcakgdnaaGreat.Cal

def leap (y : Int) : Bool := decide (y % 4 = 0 ∧ (y % 100 ≠ 0 ∨ y % 400 = 0))

theorem leap_true {y : Int} : leap y = true ↔ (y % 4 = 0 ∧ (y % 100 ≠ 0 ∨ y % 400 = 0)) := by simp [leap]
theorem leap_false {y : Int} : leap y = false ↔ ¬ (y % 4 = 0 ∧ (y % 100 ≠ 0 ∨ y % 400 = 0)) := by
  rw [leap]; exact decide_eq_false_iff_not

def mon (y m : Int) : Int :=
  if m = 1 ∨ m = 3 ∨ m = 5 ∨ m = 7 ∨ m = 8 ∨ m = 10 ∨ m = 12 then 31
  else if m = 4 ∨ m = 6 ∨ m = 9 ∨ m = 11 then 30
  else if m = 2 then (if leap y = true then 29 else 28) else 0

theorem mon_lo (y m : Int) : 0 ≤ mon y m ∧ mon y m ≤ 31 := by
  unfold mon; split <;> (try split) <;> (try split) <;> (try split) <;> omega

theorem tmod_zero (y k : Int) : y.tmod k = 0 ↔ y % k = 0 := by
  constructor
  · intro h; exact Int.emod_eq_zero_of_dvd (Int.dvd_of_tmod_eq_zero h)
  · intro h; exact Int.tmod_eq_zero_of_dvd (Int.dvd_of_emod_eq_zero h)

theorem tmod_eq {y k : Int} (h : y % k = 0) : (y.tmod k == 0) = true := by simp [(tmod_zero y k).2 h]
theorem tmod_ne {y k : Int} (h : ¬ y % k = 0) : (y.tmod k == 0) = false := by
  have : ¬ y.tmod k = 0 := fun e => h ((tmod_zero y k).1 e)
  simp [this]
theorem tmod_neq {y k : Int} (h : ¬ y % k = 0) : (y.tmod k != 0) = true := by
  have : ¬ y.tmod k = 0 := fun e => h ((tmod_zero y k).1 e)
  simp [this]
theorem tmod_nne {y k : Int} (h : y % k = 0) : (y.tmod k != 0) = false := by simp [(tmod_zero y k).2 h]

/-- A year's first day, counted from 0001-01-01. -/
def dby (y : Int) : Int := (y - 1) * 365 + (y - 1) / 4 - (y - 1) / 100 + (y - 1) / 400

/-- Is there such a day? -/
def right (y m d : Int) : Bool := decide (1 ≤ y ∧ y ≤ 9999 ∧ 1 ≤ d ∧ d ≤ mon y m)
theorem right_true {y m d : Int} : right y m d = true ↔ (1 ≤ y ∧ y ≤ 9999 ∧ 1 ≤ d ∧ d ≤ mon y m) := by simp [right]
theorem right_false {y m d : Int} : right y m d = false ↔ ¬ (1 ≤ y ∧ y ≤ 9999 ∧ 1 ≤ d ∧ d ≤ mon y m) := by
  rw [right]; exact decide_eq_false_iff_not
theorem mon_zero {y m : Int} (h : m < 1 ∨ 12 < m) : mon y m = 0 := by
  unfold mon; rw [if_neg (by omega), if_neg (by omega), if_neg (by omega)]
theorem right_month {y m d : Int} (h : right y m d = true) : 1 ≤ m ∧ m ≤ 12 := by
  have h := right_true.1 h
  by_cases c : m < 1 ∨ 12 < m
  · rw [mon_zero c] at h; omega
  · omega
end Go.Proofs.YtblikgbcakgdnaaGreat.Cal
/-
  Plain mathematics of the calendar, continued: how many days of a year lie ahead of a month, a day's number. No conditions.
-/
namespace Go.Proofs.YtblikgbcakgdnaaGreat.Cal

def lp (y : Int) : Int := if leap y = true then 1 else 0
theorem lp_01 (y : Int) : 0 ≤ lp y ∧ lp y ≤ 1 := by unfold lp; split <;> omega

/-- The days ahead of a month in its year. -/
def cum (y m : Int) : Int :=
  if m ≤ 1 then 0 else if m = 2 then 31 else if m = 3 then 59 + lp y else if m = 4 then 90 + lp y else if m = 5 then 120 + lp y
  else if m = 6 then 151 + lp y else if m = 7 then 181 + lp y else if m = 8 then 212 + lp y else if m = 9 then 243 + lp y
  else if m = 10 then 273 + lp y else if m = 11 then 304 + lp y else if m = 12 then 334 + lp y else 365 + lp y

theorem cum_one (y : Int) : cum y 1 = 0 := rfl
theorem cum_bd (y m : Int) : 0 ≤ cum y m ∧ cum y m ≤ 366 := by
  have := lp_01 y
  have h : m ≤ 1 ∨ m = 2 ∨ m = 3 ∨ m = 4 ∨ m = 5 ∨ m = 6 ∨ m = 7 ∨ m = 8 ∨ m = 9 ∨ m = 10 ∨ m = 11 ∨ m = 12 ∨ 12 < m := by omega
  rcases h with h | rfl | rfl | rfl | rfl | rfl | rfl | rfl | rfl | rfl | rfl | rfl | h
  · unfold cum; rw [if_pos h]; omega
  · simp [cum]
  all_goals first
    | (unfold cum; rw [if_neg (by omega), if_neg (by omega), if_neg (by omega), if_neg (by omega), if_neg (by omega), if_neg (by omega), if_neg (by omega), if_neg (by omega), if_neg (by omega), if_neg (by omega), if_neg (by omega), if_neg (by omega)]; omega)
    | (simp only [cum]; simp; omega)

theorem mon_two (y : Int) : mon y 2 = 28 + lp y := by
  unfold mon lp; rw [if_neg (by omega), if_neg (by omega), if_pos rfl]; split <;> rfl

theorem cum_succ (y m : Int) (h1 : 1 ≤ m) (h2 : m ≤ 12) : cum y (m + 1) = cum y m + mon y m := by
  have h : m = 1 ∨ m = 2 ∨ m = 3 ∨ m = 4 ∨ m = 5 ∨ m = 6 ∨ m = 7 ∨ m = 8 ∨ m = 9 ∨ m = 10 ∨ m = 11 ∨ m = 12 := by omega
  rcases h with rfl | rfl | rfl | rfl | rfl | rfl | rfl | rfl | rfl | rfl | rfl | rfl
  · simp [cum, mon]
  · rw [mon_two]; simp [cum]; omega
  all_goals (simp [cum, mon]; try omega)

theorem mon_28 (y m : Int) (h1 : 1 ≤ m) (h2 : m ≤ 12) : 28 ≤ mon y m ∧ mon y m ≤ 31 := by
  have h : m = 1 ∨ m = 2 ∨ m = 3 ∨ m = 4 ∨ m = 5 ∨ m = 6 ∨ m = 7 ∨ m = 8 ∨ m = 9 ∨ m = 10 ∨ m = 11 ∨ m = 12 := by omega
  have := lp_01 y
  rcases h with rfl | rfl | rfl | rfl | rfl | rfl | rfl | rfl | rfl | rfl | rfl | rfl
  · simp [mon]
  · rw [mon_two]; omega
  all_goals simp [mon]

/-- A day's number. -/
def num (y m d : Int) : Int := dby y + cum y m + d - 1

theorem dby_bd (y : Int) (h1 : 1 ≤ y) (h2 : y ≤ 10000) : 0 ≤ dby y ∧ dby y ≤ 3652059 := by unfold dby; omega
theorem dby_max : dby 10000 = 3652059 := by decide
theorem dby_succ (y : Int) : dby (y + 1) = dby y + 365 + lp y := by
  unfold dby lp
  by_cases h : leap y = true
  · rw [if_pos h]; have := leap_true.1 h; omega
  · have h' : leap y = false := by simpa using h
    rw [if_neg h]; have := leap_false.1 h'; omega
theorem dby_mono (a b : Int) (h : a ≤ b) : dby a ≤ dby b := by unfold dby; omega
end Go.Proofs.YtblikgbcakgdnaaGreat.Cal
