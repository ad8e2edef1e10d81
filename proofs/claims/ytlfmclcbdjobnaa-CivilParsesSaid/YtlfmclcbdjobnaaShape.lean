/-
  Contract of the function that takes a text's three numbers: of a text of a day's form its numbers, else none. No conditions.
-/
import Derived.Test.YtlfmclcbdjobnaaCalS
import Derived.Test.YtlfmclcbdjobnaaNumber
import Derived.Deep.LoopGhost

namespace Go.Proofs.Ytlfmclcbdjobnaa
open Go.ChangeShapes Go.WideShapes Go.ChangeAt Go.RowKit

theorem iter_set_past {w : World} {s : ByteArray} {p n i : Nat} {v : Value} (h : n < w.heap.size) : (w.iter s p).setCell ⟨n, i, none⟩ v = (w.setCell ⟨n, i, none⟩ v).iter s p := World.setCell_alloc_past _ _ _ _ h
theorem iter_cell_past {w : World} {s : ByteArray} {p n i : Nat} (h : n < w.heap.size) : (w.iter s p).cell? ⟨n, i, none⟩ = w.cell? ⟨n, i, none⟩ := World.cell?_alloc_past _ _ _ h
theorem iter_frozen_past {w : World} {s : ByteArray} {p n i : Nat} (h : n < w.heap.size) : (w.iter s p).frozen? ⟨n, i, none⟩ = w.frozen? ⟨n, i, none⟩ := World.frozen?_alloc_past _ _ _ h
theorem iter_size {w : World} {s : ByteArray} {p : Nat} : (w.iter s p).heap.size = w.heap.size + 1 := World.size_alloc _ _
attribute [local simp, local go_sem] iter_set_past iter_cell_past iter_frozen_past iter_size

set_option maxHeartbeats 1600000 in
theorem numbersOf_short (s : ByteArray) (w : World) (h : ¬ s.size = 10) :
    Calls Try.prog 27 #[.string s] w fun e w' => e = .returned (.tuple #[.agg #[.int .i64 0, .int .i64 0, .int .i64 0], .bool false]) ∧ Below w.heap.size w w' := by
  have h10 : ((s.size : Int) != 10) = true := by rw [bne_iff_ne]; omega
  go_enter Try.func27, Try.ntmps27
  go_wp2
  go_step3
  go_wp2
  try rw [Exit.noGoto_ret]
  exact bodyPost_ret (v := .tuple #[.agg #[.int .i64 0, .int .i64 0, .int .i64 0], .bool false]) (by simp [results, Try.results27, go_sem]) rfl ⟨rfl, by go_grown⟩

theorem next_at {w : World} {a b : Obj} {s : ByteArray} {k : Nat} (h : k < s.size) (ty : TypeId) :
    (Instr.next (.pointer (some ⟨w.heap.size + 1 + 1, 0, none⟩)) true ty).run Try.prog (((w.alloc a).alloc b).iter s k) = .ok (.tuple #[.bool true, .int .i64 k, .int .i32 (Cal.rn s k)]) (((w.alloc a).alloc b).iter s (k + (Utf8.decode s k).2)) := by
  have := run_next_any (P := Try.prog) ((w.alloc a).alloc b) s k ty h
  rw [World.size_alloc, World.size_alloc] at this
  exact this
theorem next_end' {w : World} {a b : Obj} {s : ByteArray} {k : Nat} (h : ¬ k < s.size) (ty : TypeId) :
    (Instr.next (.pointer (some ⟨w.heap.size + 1 + 1, 0, none⟩)) true ty).run Try.prog (((w.alloc a).alloc b).iter s k) = .ok (.tuple #[.bool false]) (((w.alloc a).alloc b).iter s k) := by
  have := run_next_end (P := Try.prog) ((w.alloc a).alloc b) s k ty h
  rw [World.size_alloc, World.size_alloc] at this
  exact this
theorem iterPos_two {w : World} {a b : Obj} {s : ByteArray} {k : Nat} : (((w.alloc a).alloc b).iter s k).iterPos (w.heap.size + 1 + 1) = k := by
  have := World.iterPos_iter ((w.alloc a).alloc b) s k
  rwa [World.size_alloc, World.size_alloc] at this

/-- The world of the reading, with the numbers so far. -/
theorem world_step {w : World} {o : Obj} {t : TypeId} {s : ByteArray} {k : Nat} {a b c : Int} (h0 : Cal.n0 s k = a) (h1 : Cal.n1 s k = b) (h2 : Cal.n2 s k = c) :
    ((w.alloc o).alloc (.cells #[.int .i64 a, .int .i64 b, .int .i64 c] t)).iter s k = ((w.alloc o).alloc (.cells #[.int .i64 (Cal.n0 s k), .int .i64 (Cal.n1 s k), .int .i64 (Cal.n2 s k)] t)).iter s k := by
  rw [h0, h1, h2]

/-- What the reading of a text of ten bytes hands back. -/
def NumPost (s : ByteArray) (w : World) (e : Ending) (w' : World) : Prop :=
  (Cal.shape s = true ∧ e = .returned (.tuple #[.agg #[.int .i64 (Cal.n0 s 10), .int .i64 (Cal.n1 s 10), .int .i64 (Cal.n2 s 10)], .bool true]) ∨
   Cal.shape s = false ∧ e = .returned (.tuple #[.agg #[.int .i64 0, .int .i64 0, .int .i64 0], .bool false])) ∧ Below w.heap.size w w'

set_option maxHeartbeats 8000000 in
theorem numbersOf_ten (s : ByteArray) (w : World) (hs : s.size = 10) :
    Calls Try.prog 27 #[.string s] w (NumPost s w) := by
  have HS := Lib.hid hs
  have h10 : ((s.size : Int) != 10) = false := by rw [hs]; rfl
  clear hs
  go_enter Try.func27, Try.ntmps27
  go_wp2
  go_step3
  go_wp2
  go_step3
  go_wp2
  go_loopw [5, 6] (fun t r wr => ∃ k : Nat, k ≤ 10 ∧ Cal.okTo s k = true ∧ t = .int .i64 (Cal.atOf k) ∧ r = .int .i64 k ∧ wr = ((w.alloc (.cells #[.int .i64 0, .int .i64 0, .int .i64 0] 50)).alloc (.cells #[.int .i64 (Cal.n0 s k), .int .i64 (Cal.n1 s k), .int .i64 (Cal.n2 s k)] 50)).iter s k)
    (fun _ _ wr => 10 - wr.iterPos (w.heap.size + 1 + 1))
  case atStart => exact ⟨0, by omega, rfl, rfl, rfl, rfl⟩
  case round =>
    obtain ⟨k, hk, hok, rfl, rfl, rfl⟩ := hrel
    have hb := Cal.n_bd hok
    have HO := Lib.hid hok
    clear hok
    obtain ⟨⟨b0, b1⟩, ⟨b2, b3⟩, b4, b5⟩ := hb
    by_cases hlt : k < 10
    · have hnx := fun ty => next_at (w := w) (a := .cells #[.int .i64 0, .int .i64 0, .int .i64 0] 50) (b := .cells #[.int .i64 (Cal.n0 s k), .int .i64 (Cal.n1 s k), .int .i64 (Cal.n2 s k)] 50) (s := s) (k := k) (by rw [HS.out]; exact hlt) ty
      cases hat : Cal.okAt s k
      · have HN := Lib.hid (show Cal.shape s = false from Cal.shape_not hlt hat)
        by_cases hd : k = 4 ∨ k = 7
        · have hr := Cal.dash_no (s := s) (k := k) (by rw [HS.out]; exact hlt) hd hat
          have e45 : (Cal.rn s k == 45) = false := by rw [beq_eq_false_iff_ne]; exact hr
          clear hr hat
          rcases hd with rfl | rfl
          all_goals
            go_wp2
            try rw [Exit.noGoto_ret]
            exact bodyPost_ret (v := .tuple #[.agg #[.int .i64 0, .int .i64 0, .int .i64 0], .bool false]) (by simp [results, Try.results27, go_sem]) rfl
              ⟨Or.inr ⟨HN.out, rfl⟩, (((Below.refl _ _).alloc (Nat.le_refl _) _).alloc (by simp) _).alloc (by simp; omega) _⟩
        · have hr := Cal.digit_no (s := s) (k := k) (by rw [HS.out]; exact hlt) hd hat
          have rb := Cal.rn_bd s k
          have ne4 : ((k : Int) == 4) = false := by rw [beq_eq_false_iff_ne]; omega
          have ne7 : ((k : Int) == 7) = false := by rw [beq_eq_false_iff_ne]; omega
          clear hat
          rcases hr with hr | hr
          · go_wp2
            try rw [Exit.noGoto_ret]
            exact bodyPost_ret (v := .tuple #[.agg #[.int .i64 0, .int .i64 0, .int .i64 0], .bool false]) (by simp [results, Try.results27, go_sem]) rfl
              ⟨Or.inr ⟨HN.out, rfl⟩, (((Below.refl _ _).alloc (Nat.le_refl _) _).alloc (by simp) _).alloc (by simp; omega) _⟩
          · have hr' : 48 ≤ Cal.rn s k := by omega
            go_wp2
            try rw [Exit.noGoto_ret]
            exact bodyPost_ret (v := .tuple #[.agg #[.int .i64 0, .int .i64 0, .int .i64 0], .bool false]) (by simp [results, Try.results27, go_sem]) rfl
              ⟨Or.inr ⟨HN.out, rfl⟩, (((Below.refl _ _).alloc (Nat.le_refl _) _).alloc (by simp) _).alloc (by simp; omega) _⟩
      · have HO1 := Lib.hid (show Cal.okTo s (k + 1) = true by rw [Cal.okTo, HO.out, hat]; rfl)
        by_cases hd : k = 4 ∨ k = 7
        · obtain ⟨hr, hw⟩ := Cal.dash_yes (s := s) (k := k) (by rw [HS.out]; exact hlt) hd hat
          have e45 : (Cal.rn s k == 45) = true := by rw [hr]; rfl
          rw [hw] at hnx
          have e0 := Cal.n0_same s k (by omega)
          have e1 := Cal.n1_same s k (by omega)
          have e2 := Cal.n2_same s k (by omega)
          have E0 := Lib.hid e0
          have E1 := Lib.hid e1
          have E2 := Lib.hid e2
          clear hr hw e0 e1 e2 hat
          rcases hd with rfl | rfl
          all_goals
            have ka : Cal.atOf 4 = 0 := rfl
            have kb : Cal.atOf 7 = 1 := rfl
            go_wp2
            first
              | exact ⟨⟨5, by omega, HO1.out, rfl, rfl, world_step E0.out E1.out E2.out⟩, by simp only [iterPos_two]; omega⟩
              | exact ⟨⟨8, by omega, HO1.out, rfl, rfl, world_step E0.out E1.out E2.out⟩, by simp only [iterPos_two]; omega⟩
        · obtain ⟨hr, d0, d1, hw⟩ := Cal.digit_yes (s := s) (k := k) (by rw [HS.out]; exact hlt) hd hat
          rw [hw, hr] at hnx
          have E0 := Lib.hid (show Cal.n0 s (k + 1) = if k < 4 then Cal.n0 s k * 10 + (Cal.bt s k - 48) else Cal.n0 s k by
            by_cases c : k < 4
            · rw [if_pos c]; exact Cal.n0_succ s k c
            · rw [if_neg c]; exact Cal.n0_same s k (by omega))
          have E1 := Lib.hid (show Cal.n1 s (k + 1) = if 5 ≤ k ∧ k < 7 then Cal.n1 s k * 10 + (Cal.bt s k - 48) else Cal.n1 s k by
            by_cases c : 5 ≤ k ∧ k < 7
            · rw [if_pos c]; exact Cal.n1_succ s k c.1 c.2
            · rw [if_neg c]; exact Cal.n1_same s k (by omega))
          have E2 := Lib.hid (show Cal.n2 s (k + 1) = if 8 ≤ k then Cal.n2 s k * 10 + (Cal.bt s k - 48) else Cal.n2 s k by
            by_cases c : 8 ≤ k
            · rw [if_pos c]; exact Cal.n2_succ s k c hlt
            · rw [if_neg c]; exact Cal.n2_same s k (by omega))
          clear hr hw hat
          have hcase : k = 0 ∨ k = 1 ∨ k = 2 ∨ k = 3 ∨ k = 5 ∨ k = 6 ∨ k = 8 ∨ k = 9 := by omega
          clear hk hlt hd
          have ka : Cal.atOf 0 = 0 ∧ Cal.atOf 1 = 0 ∧ Cal.atOf 2 = 0 ∧ Cal.atOf 3 = 0 ∧ Cal.atOf 5 = 1 ∧ Cal.atOf 6 = 1 ∧ Cal.atOf 8 = 2 ∧ Cal.atOf 9 = 2 := ⟨rfl, rfl, rfl, rfl, rfl, rfl, rfl, rfl⟩
          obtain ⟨k0, k1, k2, k3, k5, k6, k8, k9⟩ := ka
          rcases hcase with rfl | rfl | rfl | rfl | rfl | rfl | rfl | rfl
          all_goals
            go_wp2
            first
              | exact ⟨⟨1, by omega, HO1.out, rfl, rfl, world_step (by simpa using E0.out) (by simpa using E1.out) (by simpa using E2.out)⟩, by simp only [iterPos_two]; omega⟩
              | exact ⟨⟨2, by omega, HO1.out, rfl, rfl, world_step (by simpa using E0.out) (by simpa using E1.out) (by simpa using E2.out)⟩, by simp only [iterPos_two]; omega⟩
              | exact ⟨⟨3, by omega, HO1.out, rfl, rfl, world_step (by simpa using E0.out) (by simpa using E1.out) (by simpa using E2.out)⟩, by simp only [iterPos_two]; omega⟩
              | exact ⟨⟨4, by omega, HO1.out, rfl, rfl, world_step (by simpa using E0.out) (by simpa using E1.out) (by simpa using E2.out)⟩, by simp only [iterPos_two]; omega⟩
              | exact ⟨⟨6, by omega, HO1.out, rfl, rfl, world_step (by simpa using E0.out) (by simpa using E1.out) (by simpa using E2.out)⟩, by simp only [iterPos_two]; omega⟩
              | exact ⟨⟨7, by omega, HO1.out, rfl, rfl, world_step (by simpa using E0.out) (by simpa using E1.out) (by simpa using E2.out)⟩, by simp only [iterPos_two]; omega⟩
              | exact ⟨⟨9, by omega, HO1.out, rfl, rfl, world_step (by simpa using E0.out) (by simpa using E1.out) (by simpa using E2.out)⟩, by simp only [iterPos_two]; omega⟩
              | exact ⟨⟨10, by omega, HO1.out, rfl, rfl, world_step (by simpa using E0.out) (by simpa using E1.out) (by simpa using E2.out)⟩, by simp only [iterPos_two]; omega⟩
    · obtain rfl : k = 10 := by omega
      have hnx := fun ty => next_end' (w := w) (a := .cells #[.int .i64 0, .int .i64 0, .int .i64 0] 50) (b := .cells #[.int .i64 (Cal.n0 s 10), .int .i64 (Cal.n1 s 10), .int .i64 (Cal.n2 s 10)] 50) (s := s) (k := 10) (by rw [HS.out]; omega) ty
      go_wp2
      try rw [Exit.noGoto_ret]
      exact bodyPost_ret (v := .tuple #[.agg #[.int .i64 (Cal.n0 s 10), .int .i64 (Cal.n1 s 10), .int .i64 (Cal.n2 s 10)], .bool true]) (by simp [results, Try.results27, go_sem]) rfl
        ⟨Or.inl ⟨Cal.shape_of HS.out HO.out, rfl⟩, (((Below.refl _ _).alloc (Nat.le_refl _) _).alloc (by simp) _).alloc (by simp; omega) _⟩

theorem numbersOf_yes (s : ByteArray) (w : World) (h : Cal.shape s = true) :
    Calls Try.prog 27 #[.string s] w fun e w' => e = .returned (.tuple #[.agg #[.int .i64 (Cal.year s), .int .i64 (Cal.month s), .int .i64 (Cal.day s)], .bool true]) ∧ Below w.heap.size w w' :=
  (numbersOf_ten s w (Cal.shape_true h).1).mono fun e w' ⟨he, hb⟩ => by
    rcases he with ⟨_, he⟩ | ⟨hn, _⟩
    · exact ⟨he, hb⟩
    · rw [h] at hn; cases hn

theorem numbersOf_no (s : ByteArray) (w : World) (h : Cal.shape s = false) :
    Calls Try.prog 27 #[.string s] w fun e w' => e = .returned (.tuple #[.agg #[.int .i64 0, .int .i64 0, .int .i64 0], .bool false]) ∧ Below w.heap.size w w' := by
  by_cases hl : s.size = 10
  · exact (numbersOf_ten s w hl).mono fun e w' ⟨he, hb⟩ => by
      rcases he with ⟨hn, _⟩ | ⟨_, he⟩
      · rw [h] at hn; cases hn
      · exact ⟨he, hb⟩
  · exact numbersOf_short s w hl
end Go.Proofs.Ytlfmclcbdjobnaa
