/-
  A diary's half: noughts behind a place. No conditions but the sizes.
-/
import Derived.Test.YticefepcoemkoaaDoorNz
import Derived.Test.YticefepcoemkoaaDoorLane
namespace Go.Proofs.YticefepcoemkoaaDoor
set_option maxRecDepth 20000
open Go.ChangeShapes Go.WideShapes Go.ChangeAt Go.RowKit

set_option maxHeartbeats 4000000 in
theorem hwipe_any (w0 : World) (N : Nat → Prop) (w : World) (g : Nat) (st : Pl.St) (m S : Nat) (f : Nat → List Int) (p size x : Nat)
    (h : Live w0 N w g st m) (hs : Pl.Sees st S f) (hN : ∀ i, N i → i < w.heap.size) (hx : x ≤ size * 64) (hp : p + size ≤ S) (hm : m + 200 ≤ 50000) (hz : size ≤ 90) :
    Calls Tryd.prog 40 #[.agg #[.pointer (some ⟨g, 0, none⟩), .int .i64 p, .int .i64 size], .int .i64 x] w fun e w' => e = .returned (.int .i64 0) ∧ ∃ st', Live w0 N w' g st' (m + 200) ∧ Pl.Sees st' S (Pl.wiped f p size x) ∧ st'.wet = [] ∧ Kept w0 N w w' := by
  have hw0 := h.old.size
  have hS : S ≤ 1000 := by rw [← hs.size]; exact h.ok.size
  have HF : Hid (∀ k, k < size → (f (p + k)).length = 64) := fun k hk => (hs.sec h.ok (i := p + k) (by omega)).1
  have HB : Hid (∀ k, k < size → BytesOk (f (p + k))) := fun k hk => (hs.sec h.ok (i := p + k) (by omega)).2
  have hb1 : Below w.heap.size w (w.alloc (.cells #[.pointer (some ⟨g, 0, none⟩), .int .i64 p, .int .i64 size] 52)) := (Below.refl _ w).alloc (Nat.le_refl _) _
  have H1 := Lib.hid (h.more hb1)
  have HS := Lib.hid hs
  clear h hs
  have a1 : (w.alloc (.cells #[.pointer (some ⟨g, 0, none⟩), .int .i64 p, .int .i64 size] 52)).heap[w.heap.size]? = some (.cells #[.pointer (some ⟨g, 0, none⟩), .int .i64 p, .int .i64 size] 52 (0, 0)) := alloc_block
  have hz1 : (w.alloc (.cells #[.pointer (some ⟨g, 0, none⟩), .int .i64 p, .int .i64 size] 52)).heap.size = w.heap.size + 1 := by simp
  go_enter Tryd.func40, Tryd.ntmps40
  go_wp2
  generalize w.alloc (.cells #[.pointer (some ⟨g, 0, none⟩), .int .i64 p, .int .i64 size] 52) = W1 at *
  have hdv : (x : Int) / 64 = ((x / 64 : Nat) : Int) := by omega
  rw [hdv]
  obtain ⟨y, HY⟩ : ∃ y, Hid (y = x / 64) := ⟨_, rfl⟩
  rw [← HY.out]
  rw [hz1] at H1
  have HN2 : Hid (∀ i, (N i ∨ (w.heap.size ≤ i ∧ i < w.heap.size + 1)) → i < W1.heap.size) := by
    intro i hi
    rcases hi with h' | h'
    · have := hN i h'; omega
    · omega
  have HA1 := Lib.hid a1
  have HB1 := Lib.hid hb1
  clear a1 hb1 hdv
  go_loopw [5] (fun t wr => ∃ (k : Nat) (st' : Pl.St), y ≤ k ∧ k ≤ size ∧ t = .int .i64 k ∧ Hid (Live w0 (fun i => N i ∨ (w.heap.size ≤ i ∧ i < w.heap.size + 1)) wr g st' (m + 2 * k)) ∧ Hid (Pl.Sees st' S (Pl.wiped f p k x)) ∧ Hid (Kept w0 (fun i => N i ∨ (w.heap.size ≤ i ∧ i < w.heap.size + 1)) W1 wr)) (fun t _ => size - (intOf t).toNat)
  case atStart => exact ⟨y, st, Nat.le_refl _, by have := HY.out; omega, rfl, H1.out.mono (by omega) (by have := HY.out; omega), (by rw [HY.out, Pl.wiped_start]; exact HS.out), ⟨Nat.le_refl _, fun _ _ => rfl, fun _ _ => rfl⟩⟩
  case round =>
    obtain ⟨k, st', hk0, hk, rfl, HL, HSE, HK⟩ := hrel
    have a1 := (HK.out.block _ (.inr ⟨Nat.le_refl _, by omega⟩)).trans HA1.out
    have c1 : wr.cell? ⟨w.heap.size, 0, none⟩ = some (.pointer (some ⟨g, 0, none⟩)) := by rw [cell_of_row _ _ _ _ _ _ a1]; rfl
    have c2 : wr.cell? ⟨w.heap.size, 1, none⟩ = some (.int .i64 p) := by rw [cell_of_row _ _ _ _ _ _ a1]; rfl
    have c3 : wr.cell? ⟨w.heap.size, 2, none⟩ = some (.int .i64 size) := by rw [cell_of_row _ _ _ _ _ _ a1]; rfl
    by_cases hlt : k < size
    · have hpk : p + k < 1000 := by omega
      have HWR : Hid (IntKind.i64.wrap ((p : Int) + k) = (p : Int) + k) := by show _ = _; rw [IntKind.wrap_i64]; omega
      go_wp2_with (fail)
      have e1 : ((p : Int) + k) = ((p + k : Nat) : Int) := by omega
      rw [e1]
      have hrd := HSE.out.reads (p + k) (by omega)
      rw [Pl.wiped_self] at hrd
      refine (read_live HL.out HSE.out.calm.1 (by omega) (by have := HSE.out.size; omega)).mono ?_
      intro e w4 ht
      rw [hrd] at ht
      obtain ⟨A, c, rfl, HR4, HB4, hc1, hc2, HO4⟩ := ht.open_
      clear ht hrd a1 e1
      have hl4 := HF.out k hlt
      have HP := Lib.hid (Pl.wiped_next (f := f) (p := p) (k := k) (x := x) (by have := HY.out; omega))
      obtain ⟨a, rfl⟩ : ∃ a, A = some a := by obtain ⟨a, e, _⟩ := HR4.out.at_ (j := 0) (by omega); exact ⟨a, e⟩
      have HL4 := Lib.hid (HL.out.below HB4.out)
      have HK4 := Lib.hid (HK.out.trans (Kept.of_below (w0 := w0) (N := fun i => N i ∨ (w.heap.size ≤ i ∧ i < w.heap.size + 1)) HB4.out (fun i hi => by have := HK.out.size; have := HN2.out i hi; omega) (by have := HL.out.old.size; omega)) fun _ h => h)
      have HS4 := Lib.hid (Pl.wiped_self (f := f) (p := p) (k := k) (x := x))
      have HBK := Lib.hid (HB.out k hlt)
      generalize f (p + k) = s at *
      by_cases hge : k * 64 ≤ x
      · have hq : (x : Int) - (k : Int) * 64 = ((x - k * 64 : Nat) : Int) := by omega
        have hq1 : x - k * 64 < 64 := by have := HY.out; omega
        have hcq : c ≠ x - k * 64 := by omega
        generalize x - k * 64 = q at *
        go_wp2_with (fail)
        refine (contains_any (some (a.add q)) w4.heap.size _ (64 - q) (s.drop q) w4 (HR4.out.drop q) (by rw [List.length_drop]; omega) (by omega)).mono ?_
        rintro e w5 ⟨rfl, rfl⟩
        cases hany : (s.drop q).any (· != 0)
        · have HSE2 : Hid (Pl.Sees st' S (Pl.wiped f p (k + 1) x)) := by
            show Pl.Sees _ _ _
            rw [HP.out, Pl.pad_noughts hl4 hany, ← HS4.out, Pl.up_self]
            exact HSE.out
          clear HP hany
          go_wp2
          go_roundw
          case rel => exact ⟨k + 1, st', by omega, by omega, by go_num, HL4.out.mono (by omega) (by omega), HSE2.out, HK4.out⟩
          case measure => simp [intOf]; omega
        · clear hany
          go_wp2_with (fail)
          have d1 := (World.cell?_of_block (a := ⟨w.heap.size, 0, none⟩) (HB4.out.block w.heap.size (by have := HK.out.size; omega))).trans c1
          have d2 := (World.cell?_of_block (a := ⟨w.heap.size, 1, none⟩) (HB4.out.block w.heap.size (by have := HK.out.size; omega))).trans c2
          refine lane_start (ord := [0, 1, 2, 3, 4, 5, 6, 7, 8, 9, 10]) (S := fun w' => w'.cell? ⟨w.heap.size, 0, none⟩ = some (.pointer (some ⟨g, 0, none⟩)) ∧ w'.cell? ⟨w.heap.size, 1, none⟩ = some (.int .i64 p)) rfl (by kernel_rfl) ⟨d1, d2⟩ (fun hHeld => ?_)
          iterate 8 (refine lane_take (v := ?_) rfl (by kernel_rfl) (by kernel_rfl) (by rfl) ?_ (by assumption) ?_; rotate_left; (focus (intro W hSw; obtain ⟨hS0, hS1⟩ := hSw; go_simp; try (with_reducible rfl))); simp only [Act.put, List.setIfInBounds_toArray, List.set_cons_zero, List.set_cons_succ])
          refine lane_alone rfl (by kernel_rfl) (by rfl) (fun K hK => ?_)
          go_simp
          try go_wp2_with (fail)
          refine hK _ _ ⟨d1, d2⟩ (fun _ => ?_)
          clear hK K
          refine lane_alone rfl (by kernel_rfl) (by rfl) (fun K hK => ?_)
          go_simp
          go_wp2_with (fail)
          try rw [HWR.out]
          have e1 : ((p : Int) + k) = ((p + k : Nat) : Int) := by omega
          rw [e1]
          have hlt1 : (s.take q).length = q := by rw [List.length_take]; omega
          have hpe := HSE.out.putE (i := p + k) (b := s.take q) (by omega) (by omega)
          have hpu := HSE.out.put (i := p + k) (b := s.take q) (by omega) (by omega)
          rw [← HP.out] at hpu
          refine (write_live (i := ((p + k : Nat) : Int)) (b := s.take q) (B := w4.drew.heap.size) (HL4.out.below (Below.refl _ _).drew) (fun i hi => by have := HN2.out i hi; have := HK4.out.size; show i < w4.heap.size; omega) (by omega) ((HR4.out.take q).below (Below.refl _ _).drew) (Nat.le_refl _) hlt1 (HBK.out.take _)).mono ?_
          rintro e w6 ⟨rfl, hl6, hk6⟩
          rw [hpe]
          have HL6 := Lib.hid hl6
          have HK6 := Lib.hid (HK4.out.trans (Kept.trans (Kept.of_below (w0 := w0) (w1 := w4.drew) (Below.refl _ w4).drew (fun i hi => by have := HN2.out i hi; have := HK4.out.size; omega) (by have := HL4.out.old.size; omega)) hk6 fun _ h => h) fun _ h => h)
          have HSE6 := Lib.hid hpu
          have f1 := (World.cell?_of_block (a := ⟨w.heap.size, 0, none⟩) (hk6.block w.heap.size (.inr ⟨Nat.le_refl _, by omega⟩))).trans d1
          have f2 := (World.cell?_of_block (a := ⟨w.heap.size, 1, none⟩) (hk6.block w.heap.size (.inr ⟨Nat.le_refl _, by omega⟩))).trans d2
          generalize st'.put _ _ = st6 at *
          clear e1 hpe hpu hl6 hk6 hlt1
          refine hK _ _ ⟨f1, f2⟩ (fun _ => ?_)
          clear hK K
          iterate 1 (refine lane_take (v := ?_) rfl (by kernel_rfl) (by kernel_rfl) (by rfl) ?_ (by exact ⟨f1, f2⟩) ?_; rotate_left; (focus (intro W hSw; go_simp; try (with_reducible rfl))); simp only [Act.put, List.setIfInBounds_toArray, List.set_cons_zero, List.set_cons_succ])
          refine lane_end (by kernel_rfl) ?_
          clear f1 f2 d1 d2 c1 c2 c3 hHeld
          go_wp2
          exact ⟨⟨k + 1, st6, by omega, by omega, by go_num, HL6.out.mono (by omega) (by omega), HSE6.out, HK6.out⟩, by simp [intOf]; omega⟩
      · have hq0 : x - k * 64 = 0 := by omega
        rw [hq0] at HP
        clear hq0
        go_wp2_with (fail)
        refine (contains_any (some a) w4.heap.size _ 64 (s.drop 0) w4 (by rw [List.drop_zero]; exact HR4.out) (by rw [List.length_drop]; omega) (by omega)).mono ?_
        rintro e w5 ⟨rfl, rfl⟩
        cases hany : (s.drop 0).any (· != 0)
        · have HSE2 : Hid (Pl.Sees st' S (Pl.wiped f p (k + 1) x)) := by
            show Pl.Sees _ _ _
            rw [HP.out, Pl.pad_noughts hl4 hany, ← HS4.out, Pl.up_self]
            exact HSE.out
          clear HP hany
          go_wp2
          go_roundw
          case rel => exact ⟨k + 1, st', by omega, by omega, by go_num, HL4.out.mono (by omega) (by omega), HSE2.out, HK4.out⟩
          case measure => simp [intOf]; omega
        · clear hany
          go_wp2_with (fail)
          have d1 := (World.cell?_of_block (a := ⟨w.heap.size, 0, none⟩) (HB4.out.block w.heap.size (by have := HK.out.size; omega))).trans c1
          have d2 := (World.cell?_of_block (a := ⟨w.heap.size, 1, none⟩) (HB4.out.block w.heap.size (by have := HK.out.size; omega))).trans c2
          refine lane_start (ord := [0, 1, 2, 3, 4, 5, 6, 7, 8, 9, 10]) (S := fun w' => w'.cell? ⟨w.heap.size, 0, none⟩ = some (.pointer (some ⟨g, 0, none⟩)) ∧ w'.cell? ⟨w.heap.size, 1, none⟩ = some (.int .i64 p)) rfl (by kernel_rfl) ⟨d1, d2⟩ (fun hHeld => ?_)
          iterate 8 (refine lane_take (v := ?_) rfl (by kernel_rfl) (by kernel_rfl) (by rfl) ?_ (by assumption) ?_; rotate_left; (focus (intro W hSw; obtain ⟨hS0, hS1⟩ := hSw; go_simp; try (with_reducible rfl))); simp only [Act.put, List.setIfInBounds_toArray, List.set_cons_zero, List.set_cons_succ])
          refine lane_alone rfl (by kernel_rfl) (by rfl) (fun K hK => ?_)
          go_simp
          try go_wp2_with (fail)
          refine hK _ _ ⟨d1, d2⟩ (fun _ => ?_)
          clear hK K
          refine lane_alone rfl (by kernel_rfl) (by rfl) (fun K hK => ?_)
          go_simp
          go_wp2_with (fail)
          try rw [HWR.out]
          have e1 : ((p : Int) + k) = ((p + k : Nat) : Int) := by omega
          rw [e1]
          have hlt1 : (s.take 0).length = 0 := by rw [List.length_take]; omega
          have hpe := HSE.out.putE (i := p + k) (b := s.take 0) (by omega) (by omega)
          have hpu := HSE.out.put (i := p + k) (b := s.take 0) (by omega) (by omega)
          rw [← HP.out] at hpu
          refine (write_live (i := ((p + k : Nat) : Int)) (b := s.take 0) (B := w4.drew.heap.size) (HL4.out.below (Below.refl _ _).drew) (fun i hi => by have := HN2.out i hi; have := HK4.out.size; show i < w4.heap.size; omega) (by omega) ((HR4.out.take 0).below (Below.refl _ _).drew) (Nat.le_refl _) hlt1 (HBK.out.take _)).mono ?_
          rintro e w6 ⟨rfl, hl6, hk6⟩
          rw [hpe]
          have HL6 := Lib.hid hl6
          have HK6 := Lib.hid (HK4.out.trans (Kept.trans (Kept.of_below (w0 := w0) (w1 := w4.drew) (Below.refl _ w4).drew (fun i hi => by have := HN2.out i hi; have := HK4.out.size; omega) (by have := HL4.out.old.size; omega)) hk6 fun _ h => h) fun _ h => h)
          have HSE6 := Lib.hid hpu
          have f1 := (World.cell?_of_block (a := ⟨w.heap.size, 0, none⟩) (hk6.block w.heap.size (.inr ⟨Nat.le_refl _, by omega⟩))).trans d1
          have f2 := (World.cell?_of_block (a := ⟨w.heap.size, 1, none⟩) (hk6.block w.heap.size (.inr ⟨Nat.le_refl _, by omega⟩))).trans d2
          generalize st'.put _ _ = st6 at *
          clear e1 hpe hpu hl6 hk6 hlt1
          refine hK _ _ ⟨f1, f2⟩ (fun _ => ?_)
          clear hK K
          iterate 1 (refine lane_take (v := ?_) rfl (by kernel_rfl) (by kernel_rfl) (by rfl) ?_ (by exact ⟨f1, f2⟩) ?_; rotate_left; (focus (intro W hSw; go_simp; try (with_reducible rfl))); simp only [Act.put, List.setIfInBounds_toArray, List.set_cons_zero, List.set_cons_succ])
          refine lane_end (by kernel_rfl) ?_
          clear f1 f2 d1 d2 c1 c2 c3 hHeld
          go_wp2
          exact ⟨⟨k + 1, st6, by omega, by omega, by go_num, HL6.out.mono (by omega) (by omega), HSE6.out, HK6.out⟩, by simp [intOf]; omega⟩
    · obtain rfl : k = size := by omega
      have hfl := HSE.out.flush HL.out.ok
      have HFE := Lib.hid HSE.out.flushE
      have HFL := Lib.hid hfl
      clear hfl a1 c2
      go_wp2_with (fail)
      refine (flush_live HL.out (fun i hi => by have := HN2.out i hi; have := HK.out.size; omega) (by omega)).mono ?_
      rintro e w' ⟨rfl, hl', hk'⟩
      rw [HFE.out]
      have HL6 := Lib.hid ((hl'.less fun i hi => .inl hi).mono (m' := m + 200) (by omega) (by omega))
      have HK6 := Lib.hid ((HK.out.trans hk' fun _ h => h))
      clear hl' hk'
      go_wp2
      go_ret
      refine ⟨rfl, _, HL6.out, HFL.out.1, HFL.out.2, ?_⟩
      have := HK6.out.size
      exact ⟨by omega, fun i hi => (HK6.out.block i (.inl hi)).trans (HB1.out.block i (hN i hi)), fun i hi => (HK6.out.old i hi).trans (HB1.out.block i (by omega))⟩
end Go.Proofs.YticefepcoemkoaaDoor
