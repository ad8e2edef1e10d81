/-
  A cart's Hear, Sent, Trips and New, nil ones too. No conditions but the sizes.
-/
import Derived.Test.YtcjhgckkbekhoaaCrt
import Derived.Test.YtcjhgckkbekhoaaNv
import Derived.Lib.SmallJoins
import Derived.Lib.SliceRun
namespace Go.Proofs.Ytcjhgckkbekhoaa
set_option maxRecDepth 20000
open Go.ChangeShapes Go.WideShapes Go.ChangeAt Go.RowKit

theorem cnotice_info : (Try.prog.info? 31).map (·.size) = some 6 := by kernel_rfl
theorem ctwo_below (w : World) (o o' : Obj) : Below w.heap.size w ((w.alloc o).alloc o') := ((Below.refl _ _).alloc (Nat.le_refl _) _).alloc (by simp) _
theorem cat_second (w : World) (o o' : Obj) : ((w.alloc o).alloc o').heap[w.heap.size + 1]? = some o' := alloc_at (by simp)
set_option maxHeartbeats 1000000 in
theorem chear_nil (w : World) (K S C T M V v : Int) :
    Calls Try.prog 27 #[.pointer none, .agg #[.int .u8 K, .int .i64 S, .int .i64 C, .int .i64 T, .int .i64 M, .int .u8 V], .int .u8 v] w fun e w' => e = .returned (.tuple #[.agg #[.int .u8 0, .int .i64 0, .int .i64 0, .int .i64 0, .int .i64 0, .int .u8 0], .bool false]) ∧ Below w.heap.size w w' := by
  go_enter Try.func27, Try.ntmps27
  go_wp2
  refine bodyPost_ret (results_row_tmp rfl _ _ (w.heap.size + 1) 31 _ (0, 0) _ rfl (cat_second _ _ _) Try.underlying31 rfl (by exact cnotice_info)) rfl ?_
  exact ⟨rfl, ctwo_below _ _ _⟩
set_option maxHeartbeats 1000000 in
theorem chear_answer (w : World) (g : Nat) (K S C T M V v : Int) (hV : ¬ V = 0) :
    Calls Try.prog 27 #[.pointer (some ⟨g, 0, none⟩), .agg #[.int .u8 K, .int .i64 S, .int .i64 C, .int .i64 T, .int .i64 M, .int .u8 V], .int .u8 v] w fun e w' => e = .returned (.tuple #[.agg #[.int .u8 0, .int .i64 0, .int .i64 0, .int .i64 0, .int .i64 0, .int .u8 0], .bool false]) ∧ Below w.heap.size w w' := by
  have d : (V != 0) = true := by simpa using hV
  go_enter Try.func27, Try.ntmps27
  go_wp2
  refine bodyPost_ret (results_row_tmp rfl _ _ (w.heap.size + 1) 31 _ (0, 0) _ rfl (cat_second _ _ _) Try.underlying31 rfl (by exact cnotice_info)) rfl ?_
  exact ⟨rfl, ctwo_below _ _ _⟩
set_option maxHeartbeats 1000000 in
theorem chear_other (w : World) (g : Nat) (K S C T M v : Int) (h5 : ¬ K = 5) :
    Calls Try.prog 27 #[.pointer (some ⟨g, 0, none⟩), .agg #[.int .u8 K, .int .i64 S, .int .i64 C, .int .i64 T, .int .i64 M, .int .u8 0], .int .u8 v] w fun e w' => e = .returned (.tuple #[.agg #[.int .u8 0, .int .i64 0, .int .i64 0, .int .i64 0, .int .i64 0, .int .u8 0], .bool false]) ∧ Below w.heap.size w w' := by
  have d5 : (K != 5) = true := by simpa using h5
  go_enter Try.func27, Try.ntmps27
  go_wp2
  refine bodyPost_ret (results_row_tmp rfl _ _ (w.heap.size + 1) 31 _ (0, 0) _ rfl (cat_second _ _ _) Try.underlying31 rfl (by exact cnotice_info)) rfl ?_
  exact ⟨rfl, ctwo_below _ _ _⟩
set_option maxHeartbeats 1000000 in
theorem chear_ship (w : World) (F : Nat → Prop) (g : Nat) (st : Crt) (m : Nat) (S C T M v : Int) (h : CrtB g st m w F) (hk : tpok (S, C)) (hm : m + 2 ≤ 100000) :
    Calls Try.prog 27 #[.pointer (some ⟨g, 0, none⟩), .agg #[.int .u8 5, .int .i64 S, .int .i64 C, .int .i64 T, .int .i64 M, .int .u8 0], .int .u8 v] w fun e w' => e = .returned (.tuple #[.agg #[.int .u8 5, .int .i64 S, .int .i64 C, .int .i64 T, .int .i64 M, .int .u8 (st.ans (S, C) v)], .bool true]) ∧ PostO w F (CrtB g (st.ship (S, C) v) (m + 1)) w' := by
  have hl : ∀ i, F i → i < w.heap.size := fun i hi => (crt_thing g st m).lt h hi
  have HH : Hid (∀ o o' : Obj, CrtB g st m ((w.alloc o).alloc o') F) := fun o o' => (crt_thing g st m).kept h (fun i hi => (ctwo_below w o o').block i (hl i hi)) (ctwo_below w o o').size
  clear h
  go_enter Try.func27, Try.ntmps27
  go_wp2_with (fail)
  refine (ship_any _ F g st m S C v (HH.out _ _) hk hm).mono ?_
  rintro e W1 ⟨rfl, hst, ht⟩
  have hz := ht.size
  simp only [World.size_alloc] at hz
  have e0 : W1.heap[w.heap.size]? = some (.cells #[.int .u8 5, .int .i64 S, .int .i64 C, .int .i64 T, .int .i64 M, .int .u8 0] 31 (0, 0)) :=
    (ht.block _ (by simp only [World.size_alloc]; omega) (fun hf => by have := hl _ hf; omega)).trans (alloc_old (by simp) (alloc_at rfl))
  have e1 : W1.heap[w.heap.size + 1]? = some (.cells #[.int .u8 0, .int .i64 0, .int .i64 0, .int .i64 0, .int .i64 0, .int .u8 0] 31 (0, 0)) :=
    (ht.block _ (by simp only [World.size_alloc]; omega) (fun hf => by have := hl _ hf; omega)).trans (alloc_at (by simp))
  have HS := Lib.hid hst
  have HT : Hid (Turn F w W1) := (Turn.of_below (ctwo_below _ _ _)).trans ht fun i hi => .inl hi
  have HG : Hid (∀ i, grow F ((w.alloc (.cells #[.int .u8 5, .int .i64 S, .int .i64 C, .int .i64 T, .int .i64 M, .int .u8 0] 31)).alloc (.cells #[.int .u8 0, .int .i64 0, .int .i64 0, .int .i64 0, .int .i64 0, .int .u8 0] 31)) W1 i → F i ∨ (w.heap.size + 2 ≤ i ∧ i < W1.heap.size)) := fun i hi => by
    rcases hi with h' | h'
    · exact .inl h'
    · exact .inr ⟨by have := h'.1; simp only [World.size_alloc] at this; omega, h'.2⟩
  clear hst ht
  have l0 : w.heap.size < W1.heap.size := by omega
  have l1 : w.heap.size + 1 < W1.heap.size := by omega
  obtain ⟨W2, rfl⟩ : ∃ W2, W1 = boxed (boxed W2 w.heap.size #[.int .u8 5, .int .i64 S, .int .i64 C, .int .i64 T, .int .i64 M, .int .u8 0] 31) (w.heap.size + 1) #[.int .u8 0, .int .i64 0, .int .i64 0, .int .i64 0, .int .i64 0, .int .u8 0] 31 :=
    ⟨W1, by rw [← boxed_self e0, ← boxed_self e1]⟩
  rw [boxed_size, boxed_size] at l0 l1
  clear e0 e1 hz
  go_wp2
  refine bodyPost_ret (results_row_tmp rfl _ _ (w.heap.size + 1) 31 _ (0, 0) _ rfl (boxed_at (by rw [boxed_size]; exact l1)) Try.underlying31 rfl (by exact cnotice_info)) rfl ?_
  have hkeep : ∀ (c c' d d' : Array Value) (t t' : TypeId) (i : Nat), i ≠ w.heap.size → i ≠ w.heap.size + 1 → (boxed (boxed W2 w.heap.size c t) (w.heap.size + 1) c' t').heap[i]? = (boxed (boxed W2 w.heap.size d t) (w.heap.size + 1) d' t').heap[i]? := fun c c' d d' t t' i hi hi' => by
    rw [boxed_block_other hi', boxed_block_other hi, boxed_block_other hi', boxed_block_other hi]
  have hout : ∀ i, _ → F i ∨ (w.heap.size + 2 ≤ i ∧ i < _) := HG.out
  refine ⟨rfl, ?_, ?_⟩
  · have hk2 := (crt_thing g (st.ship (S, C) v) (m + 1)).kept HS.out (w' := boxed (boxed W2 w.heap.size #[.int .u8 5, .int .i64 S, .int .i64 C, .int .i64 T, .int .i64 M, .int .u8 (st.ans (S, C) v)] 31) (w.heap.size + 1) #[.int .u8 5, .int .i64 S, .int .i64 C, .int .i64 T, .int .i64 M, .int .u8 (st.ans (S, C) v)] 31) (fun i hi => hkeep _ _ _ _ _ _ _ (by rcases HG.out i hi with h' | h'; have := hl i h'; omega; omega) (by rcases HG.out i hi with h' | h'; have := hl i h'; omega; omega)) (by simp only [boxed_size]; exact Nat.le_refl _)
    obtain ⟨b1, vs, hk2⟩ := hk2
    refine ⟨b1, vs, hk2.wide (fun i hi => ?_) fun i hi => ?_⟩
    · rcases HG.out i hi with h' | h'
      · exact .inl h'
      · exact .inr ⟨by omega, by have := h'.2; simp only [boxed_size] at this ⊢; exact this⟩
    · rcases hi with h' | h'
      · have := hl i h'; simp only [boxed_size]; omega
      · exact h'.2
  · exact ⟨HT.out.os, HT.out.tape, HT.out.output, by have := HT.out.size; simp only [boxed_size] at this ⊢; exact this, fun i hi hn => (hkeep _ _ _ _ _ _ _ (by omega) (by omega)).trans (HT.out.block i hi hn)⟩

/-! Trips, Sent, New. -/
theorem trips_nil (w : World) : Calls Try.prog 28 #[.pointer none] w fun e w' => e = .returned (.slice none 0 0) ∧ w = w' := by
  go_enter Try.func28, Try.ntmps28
  go_wp2
  go_ret
  exact ⟨rfl, rfl⟩
theorem sent_nil (w : World) (a b : Int) : Calls Try.prog 29 #[.pointer none, .int .i64 a, .int .i64 b] w fun e w' => e = .returned (.int .i64 0) ∧ w = w' := by
  go_enter Try.func29, Try.ntmps29
  go_wp2
  go_ret
  exact ⟨rfl, rfl⟩
set_option maxHeartbeats 1000000 in
theorem tclone_any (w : World) (base : Nat) (v : Value) (l : List (Int × Int)) (h : w.ownsRow base 68 2 v l.length (tcl l)) (hs : l.length ≤ 1000000) :
    Calls Try.prog 36 #[v] w fun e w' => ∃ v', e = .returned v' ∧ w'.ownsRow w.heap.size 68 2 v' l.length (tcl l) ∧ Below w.heap.size w w' := by
  obtain ⟨it, hit, hz0, hz1, hz2⟩ := info_parts trip_info
  have H := Lib.hid h
  rcases h.2 with ⟨rfl, hn⟩ | ⟨q, cap, cur, rfl, hb, hq, hc, hm, _⟩
  · obtain rfl : l = [] := List.eq_nil_of_length_eq_zero hn
    clear h hn
    have q := fun w => Lib.run_eql_slice_nil (P := Try.prog) w 66 68 none 0 0 0 0 Try.underlying66
    go_enter Try.func36, Try.ntmps36
    go_wp2
    go_ret
    exact ⟨_, rfl, World.ownsRow_nil _ _ _ _, Below.refl _ _⟩
  · have hlen := h.1
    clear h hb hq hc hm
    have q1 := fun w => Lib.run_eql_slice_nil (P := Try.prog) w 66 68 (some ⟨q, 0, none⟩) l.length cap 0 0 Try.underlying66
    go_enter Try.func36, Try.ntmps36
    go_wp2_with (at_builtin; refine wpList_append_own_at _ rfl _ _ 66 rfl w.heap.size 68 it _ 2 16 Try.underlying66 hit hz0 hz1 hz2 rfl (by decide) _ _ _ rfl (World.ownsRow_made w #[] 0 (Nat.le_refl _) (by unfold maxLen; omega) rfl) ⟨q, 0, none⟩ l.length cap (tcl l) rfl (by rw [hlen]) (fun j u hu => (World.cell?_of_block (by rw [ad_block]; exact alloc_block_old (H.out.lt q rfl).2)).trans (H.out.cells (g := q) rfl j u hu)) (tcl_one l) (by unfold maxLen; omega) (by omega) (by simp) ?_; intro v1 w1 ho1 hg1 _ _; rw [List.nil_append, Nat.zero_add] at ho1)
    go_ret
    refine ⟨_, rfl, ho1, ?_⟩
    have hb1 : Below w.heap.size (w.alloc (.cells #[] 68)) w1 := ⟨hg1.os, hg1.tape, hg1.output, hg1.size, fun i hi => hg1.block i (by rw [World.size_alloc]; omega) (fun e => by have e2 : some i = some w.heap.size := e; injection e2 with e2; omega)⟩
    exact ((Below.refl _ w).alloc (Nat.le_refl _) _).trans hb1
theorem trips_any (w : World) (F : Nat → Prop) (g : Nat) (st : Crt) (m : Nat) (h : CrtB g st m w F) (hm : m ≤ 100000) : Calls Try.prog 28 #[.pointer (some ⟨g, 0, none⟩)] w fun e w' => ∃ v', e = .returned v' ∧ w'.ownsRow w.heap.size 68 2 v' st.trips.length (tcl st.trips) ∧ Below w.heap.size w w' := by
  obtain ⟨b1, v, h⟩ := h
  have hc : w.cell? ⟨g, 1, none⟩ = some v := by rw [cell_of_row _ _ _ _ _ _ h.blk]; rfl
  have HO := Lib.hid h.own
  have hl := h.len
  obtain ⟨A, c, rfl, _, _⟩ := own_form h.own
  clear h
  go_enter Try.func28, Try.ntmps28
  go_wp2_with (fail)
  refine (tclone_any w 0 _ st.trips HO.out (by omega)).mono ?_
  rintro e w1 ⟨v', rfl, h1, h2⟩
  obtain ⟨A', c', rfl, _, _⟩ := own_form h1
  have H1 := Lib.hid h1
  have H2 := Lib.hid h2
  clear h1 h2
  go_wp2
  go_ret
  exact ⟨_, rfl, H1.out, H2.out⟩
/-- How many of so many trips are of a cycle. -/
def sentOf (l : List (Int × Int)) (p : Int × Int) : Int := ((l.filter (· == p)).length : Nat)
theorem sentOf_snoc (l : List (Int × Int)) (q p : Int × Int) : sentOf (l ++ [q]) p = sentOf l p + (if q = p then 1 else 0) := by
  unfold sentOf
  rw [List.filter_append, List.length_append]
  by_cases e : q = p <;> simp [e]
set_option maxHeartbeats 1000000 in
theorem sent_any (w : World) (F : Nat → Prop) (g : Nat) (st : Crt) (m : Nat) (a b : Int) (h : CrtB g st m w F) (hm : m ≤ 100000) : Calls Try.prog 29 #[.pointer (some ⟨g, 0, none⟩), .int .i64 a, .int .i64 b] w fun e w' => e = .returned (.int .i64 (sentOf st.trips (a, b))) ∧ Below w.heap.size w w' := by
  obtain ⟨b1, v, h⟩ := h
  have hc : w.cell? ⟨g, 1, none⟩ = some v := by rw [cell_of_row _ _ _ _ _ _ h.blk]; rfl
  have HO := Lib.hid h.own
  have hl := h.len
  obtain ⟨A, c, rfl, _, _⟩ := own_form h.own
  clear h
  go_enter Try.func29, Try.ntmps29
  go_wp2
  go_loopw [7, 17] (fun sm i wq => ∃ j : Nat, j ≤ st.trips.length ∧ i = .int .i64 j ∧ sm = .int .i64 (sentOf (st.trips.take j) (a, b)) ∧ Hid (Below w.heap.size w wq)) (fun sm i _ => st.trips.length - (intOf i).toNat)
  case atStart => exact ⟨0, by omega, rfl, rfl, Below.refl _ _⟩
  case round =>
    obtain ⟨j, hj, rfl, rfl, HW⟩ := hrel
    by_cases hlt : j < st.trips.length
    case neg =>
      obtain rfl : j = st.trips.length := by omega
      have dlt : decide ((st.trips.length : Int) < (st.trips.length : Int)) = false := by simp
      rw [List.take_length]
      go_wp2
      go_ret
      exact ⟨rfl, HW.out⟩
    case pos =>
      have dlt : decide ((j : Int) < (st.trips.length : Int)) = true := by simpa using hlt
      obtain ⟨⟨c0, d0⟩, hcj⟩ : ∃ c, st.trips[j]? = some c := ⟨st.trips[j], List.getElem?_eq_getElem hlt⟩
      obtain ⟨q, rfl⟩ : ∃ q, A = some ⟨q, 0, none⟩ := by
        rcases HO.out.2 with ⟨_, hn⟩ | ⟨q, cap, cur, hv, _⟩
        · omega
        · injection hv with hA; exact ⟨q, hA⟩
      have hq : q < w.heap.size := (HO.out.lt q rfl).2
      have HR : Hid (wr.rangeAt q (j * 2) [.int .i64 c0, .int .i64 d0]) := fun i u hu => by
        have h1 := HO.out.cells (g := q) rfl (j * 2 + i) u (by
          have := tcl_at hcj
          match i, hu with
          | 0, hu => simp at hu; subst hu; exact this.1
          | 1, hu => simp at hu; subst hu; exact this.2)
        rw [ad_head] at h1
        exact (World.cell?_of_block (a := ⟨q, j * 2 + i, none⟩) (HW.out.block q hq)).trans h1
      have k0 : (0 : Int) ≤ (j : Int) := by omega
      have HNX : Hid (sentOf (st.trips.take (j + 1)) (a, b) = sentOf (st.trips.take j) (a, b) + (if (c0, d0) = (a, b) then 1 else 0)) := by rw [List.take_succ_eq_append_getElem hlt, ← sentOf_snoc]; rw [List.getElem?_eq_getElem hlt] at hcj; injection hcj with hcj; rw [hcj]; exact rfl
      have hsm : 0 ≤ sentOf (st.trips.take j) (a, b) ∧ sentOf (st.trips.take j) (a, b) ≤ 100000 := by
        unfold sentOf
        have := List.length_filter_le (· == (a, b)) (st.trips.take j)
        rw [List.length_take] at this
        omega
      generalize hS : sentOf (st.trips.take j) (a, b) = s at *
      clear hS hcj
      by_cases hab : (c0, d0) = (a, b)
      · injection hab with e1 e2
        subst e1 e2
        rw [if_pos rfl] at HNX
        go_wp2_with (refine wpList_load_mid rfl _ _ rfl q (j * 2) rfl [.int .i64 c0, .int .i64 d0] _ HR.out Try.underlying68 rfl (by kernel_rfl) ?_)
        go_roundw
        case rel => exact ⟨j + 1, by omega, by go_num, by rw [HNX.out], HW.out.alloc (by have := HW.out.size; omega) _⟩
        case measure => simp [intOf]; omega
      · rw [if_neg hab] at HNX
        rw [Int.add_zero] at HNX
        by_cases e1 : c0 = a
        · have e2 : ¬ d0 = b := fun e => hab (by rw [e1, e])
          subst e1
          clear hab
          go_wp2_with (refine wpList_load_mid rfl _ _ rfl q (j * 2) rfl [.int .i64 c0, .int .i64 d0] _ HR.out Try.underlying68 rfl (by kernel_rfl) ?_)
          go_roundw
          case rel => exact ⟨j + 1, by omega, by go_num, by rw [HNX.out], HW.out.alloc (by have := HW.out.size; omega) _⟩
          case measure => simp [intOf]; omega
        · clear hab
          go_wp2_with (refine wpList_load_mid rfl _ _ rfl q (j * 2) rfl [.int .i64 c0, .int .i64 d0] _ HR.out Try.underlying68 rfl (by kernel_rfl) ?_)
          go_roundw
          case rel => exact ⟨j + 1, by omega, by go_num, by rw [HNX.out], HW.out.alloc (by have := HW.out.size; omega) _⟩
          case measure => simp [intOf]; omega
theorem cnew_any (w : World) : Calls Try.prog 26 #[] w fun e w' => e = .returned (.pointer (some ⟨w.heap.size + 1, 0, none⟩)) ∧ CrtB (w.heap.size + 1) .new 0 w' (fun i => w.heap.size ≤ i ∧ i < w'.heap.size) ∧ Below w.heap.size w w' ∧ w'.heap.size = w.heap.size + 2 := by
  have hmm := @run_makeMap Try.prog
  go_enter Try.func26, Try.ntmps26
  go_wp2
  go_ret
  refine ⟨rfl, ⟨w.heap.size, .slice none 0 0, alloc_at (by simp), ⟨0, (mapE_made tripE w).kept (by rw [alloc_block_old (by simp)])⟩, World.ownsRow_nil _ _ _ _, ⟨⟨by omega, by simp⟩, ⟨by omega, by simp; omega⟩, fun i hi => by simp [Value.ownBlock] at hi⟩, fun i hi => hi.2, by simp [Crt.new]⟩, ctwo_below _ _ _, by simp⟩
end Go.Proofs.Ytcjhgckkbekhoaa
