/-
  A diary's half: one seal ahead, or one more behind some bytes. No conditions but the sizes.
-/
import Derived.Test.YticefepcoemkoaaDoorWipe
import Derived.Deep.MidRow
namespace Go.Proofs.YticefepcoemkoaaDoor
set_option maxRecDepth 20000
open Go.ChangeShapes Go.WideShapes Go.ChangeAt Go.RowKit

/-- A half as a value; as cells. -/
def halfV (g p n : Nat) : Value := .agg #[.pointer (some ⟨g, 0, none⟩), .int .i64 p, .int .i64 n]
theorem halfinfo : (Tryd.prog.info? 52).map (·.size) = some 3 := by kernel_rfl
theorem run_load_half {w : World} {b o g p n : Nat} (hc : w.rangeAt b o [.pointer (some ⟨g, 0, none⟩), .int .i64 p, .int .i64 n]) :
    (Instr.loadAt 52 (.pointer (some ⟨b, o, none⟩))).run Tryd.prog w = .ok (halfV g p n) w :=
  run_loadAt_mid w b o 52 _ _ hc Tryd.underlying52 rfl halfinfo
theorem half_range {w : World} {b g p n : Nat} {f : Nat × Nat} (h : w.heap[b]? = some (.cells #[.pointer (some ⟨g, 0, none⟩), .int .i64 p, .int .i64 n] 52 f)) : w.rangeAt b 0 [.pointer (some ⟨g, 0, none⟩), .int .i64 p, .int .i64 n] := fun j v hv => by
  rw [Nat.zero_add, cell_of_row _ _ _ _ _ _ h, ← Array.getElem?_toList]; exact hv

/-- The sectors of a half that is begun. -/
def beginF (f : Nat → List Int) (p n : Nat) (s : List Int) : Nat → List Int :=
  if 64 < s.length then Pl.laid (Pl.laid (Pl.wiped f p n 0) (p + 1) (s.drop 64)) (p + 0) (s.take 64) else Pl.laid (Pl.wiped f p n 0) (p + 0) (s.take 64)
theorem begin_half {f : Nat → List Int} {p n : Nat} {s L : List Int} (h : Pl.Half f p n L) (hl : s.length ≤ n * 64) : Pl.Half (beginF f p n s) p n (Pl.full n s) := by
  have h1 := h.wiped (x := 0) (by omega)
  rw [List.take_zero] at h1
  unfold beginF
  split
  · exact h1.begin (by assumption) hl
  · rw [List.take_of_length_le (by omega)]
    have := h1.add (s := s) (by simpa using hl)
    simpa using this
theorem begin_other {f : Nat → List Int} {p n q m : Nat} {s L : List Int} (h : Pl.Half f p n L) (hq : q + m ≤ p ∨ p + n ≤ q) (h0 : 0 < s.length) (hs : s.length ≤ m * 64) : Pl.Half (beginF f q m s) p n L := by
  have h1 := h.wiped_other (x := 0) hq
  unfold beginF
  split
  · exact ((h1.other (q := q + 1) (row := s.drop 64) (by rw [List.length_drop]; omega)).other (q := q + 0) (row := s.take 64) (by rw [List.length_take]; omega))
  · exact h1.other (q := q + 0) (row := s.take 64) (by rw [List.length_take]; omega)

theorem hlay_eq (w0 : World) (N : Nat → Prop) (w : World) (g : Nat) (st : Pl.St) (m S : Nat) (f : Nat → List Int) (p size at_ : Nat) (x : Int) (a : Addr) (n c : Nat) (row : List Int) (hx : x = at_)
    (h : Live w0 N w g st m) (hs : Pl.Sees st S f) (hN : ∀ i, N i → i < w.heap.size) (hr : RdK w0 N w (some a) row) (hb : BytesOk row) (hn : row.length = n) (hpos : 0 < n) (h0 : n ≤ 5000) (hnc : n ≤ c) (hcm : c ≤ maxLen)
    (hp : p + at_ + (n + 63) / 64 ≤ S) (hm : m + 200 ≤ 50000) :
    Calls Tryd.prog 43 #[.agg #[.pointer (some ⟨g, 0, none⟩), .int .i64 p, .int .i64 size], .int .i64 x, .slice (some a) n c] w fun e w' => e = .returned (.int .i64 0) ∧ ∃ st', Live w0 N w' g st' (m + 200) ∧ Pl.Sees st' S (Pl.laid f (p + at_) row) ∧ st'.wet = [] ∧ Kept w0 N w w' := by
  subst hx; exact hlay_any w0 N w g st m S f p size at_ a n c row h hs hN hr hb hn hpos h0 hnc hcm hp hm

set_option maxHeartbeats 4000000 in
theorem hbegin_any (w0 : World) (N : Nat → Prop) (w : World) (g : Nat) (st : Pl.St) (m S : Nat) (f : Nat → List Int) (p size : Nat) (A : Option Addr) (n c : Nat) (s : List Int)
    (h : Live w0 N w g st m) (hs : Pl.Sees st S f) (hN : ∀ i, N i → i < w.heap.size) (hr : RdK w0 N w A s) (hb : BytesOk s) (hn : s.length = n) (hn0 : 16 ≤ n) (hns : n ≤ size * 64) (hnc : n ≤ c) (hcm : c ≤ maxLen)
    (hp : p + size ≤ S) (hz : size ≤ 70) (hm : m + 600 ≤ 50000) :
    Calls Tryd.prog 29 #[halfV g p size, .slice A n c] w fun e w' => e = .returned (.int .i64 0) ∧ ∃ st', Live w0 N w' g st' (m + 600) ∧ Pl.Sees st' S (beginF f p size s) ∧ st'.wet = [] ∧ Kept w0 N w w' := by
  have hw0 := h.old.size
  obtain ⟨a, rfl⟩ : ∃ a, A = some a := by obtain ⟨a, e, _⟩ := hr.1.at_ (j := 0) (by omega); exact ⟨a, e⟩
  have hb1 : Below w.heap.size w (w.alloc (.cells #[.pointer (some ⟨g, 0, none⟩), .int .i64 p, .int .i64 size] 52)) := (Below.refl _ w).alloc (Nat.le_refl _) _
  have H1 := Lib.hid (h.more hb1)
  have HS := Lib.hid hs
  have a1 : (w.alloc (.cells #[.pointer (some ⟨g, 0, none⟩), .int .i64 p, .int .i64 size] 52)).heap[w.heap.size]? = some (.cells #[.pointer (some ⟨g, 0, none⟩), .int .i64 p, .int .i64 size] 52 (0, 0)) := alloc_block
  have hz1 : (w.alloc (.cells #[.pointer (some ⟨g, 0, none⟩), .int .i64 p, .int .i64 size] 52)).heap.size = w.heap.size + 1 := by simp
  have HR1 : Hid (RdK w0 (fun i => N i ∨ (w.heap.size ≤ i ∧ i < w.heap.size + 1)) (w.alloc (.cells #[.pointer (some ⟨g, 0, none⟩), .int .i64 p, .int .i64 size] 52)) (some a) s) := (hr.kept (by simp) fun i hi _ => hb1.block i hi).more fun i hi => .inl hi
  clear h hs hr
  unfold halfV
  go_enter Tryd.func29, Tryd.ntmps29
  go_wp2_with (fail)
  generalize w.alloc (.cells #[.pointer (some ⟨g, 0, none⟩), .int .i64 p, .int .i64 size] 52) = W1 at *
  rw [hz1] at H1
  have HN2 : Hid (∀ i, (N i ∨ (w.heap.size ≤ i ∧ i < w.heap.size + 1)) → i < W1.heap.size) := by
    intro i hi
    rcases hi with h' | h'
    · have := hN i h'; omega
    · omega
  have HB1 := Lib.hid hb1
  have HBY := Lib.hid hb
  have HNN := Lib.hid hn
  clear hb1 hb
  refine (hwipe_any w0 _ W1 g st m S f p size 0 H1.out HS.out HN2.out (by omega) hp (by omega) (by omega)).mono ?_
  rintro e w2 ⟨rfl, st2, hl2, hs2, _, hk2⟩
  have b_w2 := (hk2.block w.heap.size (.inr ⟨Nat.le_refl _, by omega⟩)).trans a1
  have L2 := Lib.hid hl2
  have S2 := Lib.hid hs2
  have K2 := Lib.hid hk2
  clear hl2 hs2 hk2 a1
  by_cases hbig : 64 < n
  · have hc64 : c ≠ 64 := by omega
    go_wp2_with (fail)
    refine lane_start (ord := [0, 1, 2, 3, 4, 5]) (S := fun w' => w'.heap[w.heap.size]? = some (.cells #[.pointer (some ⟨g, 0, none⟩), .int .i64 p, .int .i64 size] 52 (0, 0))) rfl (by kernel_rfl) (by exact b_w2) (fun hHeld => ?_)
    refine lane_take (v := halfV g p size) rfl (by kernel_rfl) (by kernel_rfl) (by rfl) (fun W hSw => exec_load rfl rfl (run_load_half (half_range hSw))) (by assumption) ?_
    unfold halfV
    simp only [Act.put, List.setIfInBounds_toArray, List.set_cons_zero, List.set_cons_succ]
    iterate 2 (refine lane_take (v := ?_) rfl (by kernel_rfl) (by kernel_rfl) (by rfl) ?_ (by assumption) ?_; rotate_left; (focus (intro W hSw; go_simp; try (with_reducible rfl))); simp only [Act.put, List.setIfInBounds_toArray, List.set_cons_zero, List.set_cons_succ])
    refine lane_alone rfl (by kernel_rfl) (by rfl) (fun K hK => ?_)
    go_simp
    try go_wp2_with (fail)
    refine hK _ _ b_w2 (fun _ => ?_)
    clear hK K
    refine lane_alone rfl (by kernel_rfl) (by rfl) (fun K hK => ?_)
    go_simp
    go_wp2_with (fail)
    have hN_w2 : ∀ i, (N i ∨ (w.heap.size ≤ i ∧ i < w.heap.size + 1)) → i < w2.drew.heap.size := fun i hi => by have := HN2.out i hi; have := K2.out.size; show i < w2.heap.size; omega
    refine (hlay_eq w0 _ w2.drew g _ (m + 200) S (Pl.wiped f p size 0) p size 1 1 _ (n - 64) _ (s.drop 64) rfl (L2.out.below (Below.refl _ _).drew) S2.out hN_w2 ((RdK.drop (HR1.out.of_kept K2.out) 64).kept (w' := w2.drew) (Nat.le_refl _) fun _ _ _ => rfl) (HBY.out.drop _) (by simp; omega) (by omega) (by omega) (by omega) (by omega) (by omega) (by omega)).mono ?_
    rintro e w3 ⟨rfl, st_w3, hl_w3, hs_w3, hw_w3, hk_w3⟩
    have L_w3 := Lib.hid hl_w3
    have S_w3 := Lib.hid hs_w3
    have E_w3 := Lib.hid hw_w3
    have K_w3 := Lib.hid (K2.out.trans (Kept.trans (Kept.of_below (w0 := w0) (w1 := w2.drew) (Below.refl _ w2).drew hN_w2 (by have := L2.out.old.size; omega)) hk_w3 fun _ h => h) fun _ h => h)
    have b_w3 := (hk_w3.block w.heap.size (.inr ⟨Nat.le_refl _, by omega⟩)).trans b_w2
    clear hl_w3 hs_w3 hw_w3 hk_w3 hN_w2 hHeld
    refine hK _ _ b_w3 (fun _ => ?_)
    clear hK K
    iterate 1 (refine lane_take (v := ?_) rfl (by kernel_rfl) (by kernel_rfl) (by rfl) ?_ (by exact b_w3) ?_; rotate_left; (focus (intro W hSw; go_simp; try (with_reducible rfl))); simp only [Act.put, List.setIfInBounds_toArray, List.set_cons_zero, List.set_cons_succ])
    refine lane_end (by kernel_rfl) ?_
    go_wp2_with (fail)
    refine lane_start (ord := [0, 1, 2, 3, 4, 5]) (S := fun w' => w'.heap[w.heap.size]? = some (.cells #[.pointer (some ⟨g, 0, none⟩), .int .i64 p, .int .i64 size] 52 (0, 0))) rfl (by kernel_rfl) (by exact b_w3) (fun hHeld => ?_)
    refine lane_take (v := halfV g p size) rfl (by kernel_rfl) (by kernel_rfl) (by rfl) (fun W hSw => exec_load rfl rfl (run_load_half (half_range hSw))) (by assumption) ?_
    unfold halfV
    simp only [Act.put, List.setIfInBounds_toArray, List.set_cons_zero, List.set_cons_succ]
    iterate 2 (refine lane_take (v := ?_) rfl (by kernel_rfl) (by kernel_rfl) (by rfl) ?_ (by assumption) ?_; rotate_left; (focus (intro W hSw; go_simp; try (with_reducible rfl))); simp only [Act.put, List.setIfInBounds_toArray, List.set_cons_zero, List.set_cons_succ])
    refine lane_alone rfl (by kernel_rfl) (by rfl) (fun K hK => ?_)
    go_simp
    try go_wp2_with (fail)
    refine hK _ _ b_w3 (fun _ => ?_)
    clear hK K
    refine lane_alone rfl (by kernel_rfl) (by rfl) (fun K hK => ?_)
    go_simp
    go_wp2_with (fail)
    have hN_w3 : ∀ i, (N i ∨ (w.heap.size ≤ i ∧ i < w.heap.size + 1)) → i < w3.drew.heap.size := fun i hi => by have := HN2.out i hi; have := K_w3.out.size; show i < w3.heap.size; omega
    refine (hlay_eq w0 _ w3.drew g _ (m + 200 + 200) S (Pl.laid (Pl.wiped f p size 0) (p + 1) (s.drop 64)) p size 0 0 _ 64 _ (s.take 64) rfl (L_w3.out.below (Below.refl _ _).drew) S_w3.out hN_w3 ((RdK.take (HR1.out.of_kept K_w3.out) 64).kept (w' := w3.drew) (Nat.le_refl _) fun _ _ _ => rfl) (HBY.out.take _) (by simp; omega) (by omega) (by omega) (by omega) (by omega) (by omega) (by omega)).mono ?_
    rintro e w4 ⟨rfl, st_w4, hl_w4, hs_w4, hw_w4, hk_w4⟩
    have L_w4 := Lib.hid hl_w4
    have S_w4 := Lib.hid hs_w4
    have E_w4 := Lib.hid hw_w4
    have K_w4 := Lib.hid (K_w3.out.trans (Kept.trans (Kept.of_below (w0 := w0) (w1 := w3.drew) (Below.refl _ w3).drew hN_w3 (by have := L_w3.out.old.size; omega)) hk_w4 fun _ h => h) fun _ h => h)
    have b_w4 := (hk_w4.block w.heap.size (.inr ⟨Nat.le_refl _, by omega⟩)).trans b_w3
    clear hl_w4 hs_w4 hw_w4 hk_w4 hN_w3 hHeld
    refine hK _ _ b_w4 (fun _ => ?_)
    clear hK K
    iterate 1 (refine lane_take (v := ?_) rfl (by kernel_rfl) (by kernel_rfl) (by rfl) ?_ (by exact b_w4) ?_; rotate_left; (focus (intro W hSw; go_simp; try (with_reducible rfl))); simp only [Act.put, List.setIfInBounds_toArray, List.set_cons_zero, List.set_cons_succ])
    refine lane_end (by kernel_rfl) ?_
    go_wp2
    go_ret
    refine ⟨rfl, st_w4, (L_w4.out.less fun i hi => .inl hi).mono (by omega) (by omega), ?_, E_w4.out, ?_⟩
    · unfold beginF
      first
        | rw [if_pos (by omega)]; exact S_w4.out
        | rw [if_neg (by omega)]; exact S_w4.out
    · have := K_w4.out.size
      exact ⟨by omega, fun i hi => (K_w4.out.block i (.inl hi)).trans (HB1.out.block i (hN i hi)), fun i hi => (K_w4.out.old i hi).trans (HB1.out.block i (by omega))⟩
  · go_wp2_with (fail)
    refine lane_start (ord := [0, 1, 2, 3, 4, 5]) (S := fun w' => w'.heap[w.heap.size]? = some (.cells #[.pointer (some ⟨g, 0, none⟩), .int .i64 p, .int .i64 size] 52 (0, 0))) rfl (by kernel_rfl) (by exact b_w2) (fun hHeld => ?_)
    refine lane_take (v := halfV g p size) rfl (by kernel_rfl) (by kernel_rfl) (by rfl) (fun W hSw => exec_load rfl rfl (run_load_half (half_range hSw))) (by assumption) ?_
    unfold halfV
    simp only [Act.put, List.setIfInBounds_toArray, List.set_cons_zero, List.set_cons_succ]
    iterate 2 (refine lane_take (v := ?_) rfl (by kernel_rfl) (by kernel_rfl) (by rfl) ?_ (by assumption) ?_; rotate_left; (focus (intro W hSw; go_simp; try (with_reducible rfl))); simp only [Act.put, List.setIfInBounds_toArray, List.set_cons_zero, List.set_cons_succ])
    refine lane_alone rfl (by kernel_rfl) (by rfl) (fun K hK => ?_)
    go_simp
    try go_wp2_with (fail)
    refine hK _ _ b_w2 (fun _ => ?_)
    clear hK K
    refine lane_alone rfl (by kernel_rfl) (by rfl) (fun K hK => ?_)
    go_simp
    go_wp2_with (fail)
    have hN_w2 : ∀ i, (N i ∨ (w.heap.size ≤ i ∧ i < w.heap.size + 1)) → i < w2.drew.heap.size := fun i hi => by have := HN2.out i hi; have := K2.out.size; show i < w2.heap.size; omega
    refine (hlay_eq w0 _ w2.drew g _ (m + 200) S (Pl.wiped f p size 0) p size 0 0 _ n _ (s.take 64) rfl (L2.out.below (Below.refl _ _).drew) S2.out hN_w2 ((RdK.take (HR1.out.of_kept K2.out) 64).kept (w' := w2.drew) (Nat.le_refl _) fun _ _ _ => rfl) (HBY.out.take _) (by simp; omega) (by omega) (by omega) (by omega) (by omega) (by omega) (by omega)).mono ?_
    rintro e w3 ⟨rfl, st_w3, hl_w3, hs_w3, hw_w3, hk_w3⟩
    have L_w3 := Lib.hid hl_w3
    have S_w3 := Lib.hid hs_w3
    have E_w3 := Lib.hid hw_w3
    have K_w3 := Lib.hid (K2.out.trans (Kept.trans (Kept.of_below (w0 := w0) (w1 := w2.drew) (Below.refl _ w2).drew hN_w2 (by have := L2.out.old.size; omega)) hk_w3 fun _ h => h) fun _ h => h)
    have b_w3 := (hk_w3.block w.heap.size (.inr ⟨Nat.le_refl _, by omega⟩)).trans b_w2
    clear hl_w3 hs_w3 hw_w3 hk_w3 hN_w2 hHeld
    refine hK _ _ b_w3 (fun _ => ?_)
    clear hK K
    iterate 1 (refine lane_take (v := ?_) rfl (by kernel_rfl) (by kernel_rfl) (by rfl) ?_ (by exact b_w3) ?_; rotate_left; (focus (intro W hSw; go_simp; try (with_reducible rfl))); simp only [Act.put, List.setIfInBounds_toArray, List.set_cons_zero, List.set_cons_succ])
    refine lane_end (by kernel_rfl) ?_
    go_wp2
    go_ret
    refine ⟨rfl, st_w3, (L_w3.out.less fun i hi => .inl hi).mono (by omega) (by omega), ?_, E_w3.out, ?_⟩
    · unfold beginF
      first
        | rw [if_pos (by omega)]; exact S_w3.out
        | rw [if_neg (by omega)]; exact S_w3.out
    · have := K_w3.out.size
      exact ⟨by omega, fun i hi => (K_w3.out.block i (.inl hi)).trans (HB1.out.block i (hN i hi)), fun i hi => (K_w3.out.old i hi).trans (HB1.out.block i (by omega))⟩
end Go.Proofs.YticefepcoemkoaaDoor
