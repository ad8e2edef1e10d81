/-
  The walk of the law CartPlays. No conditions.
-/
import Derived.Test.YtcjhgckkbekhoaaCrtPlays
import Derived.Test.YtcjhgckkbekhoaaPartyKit
import Derived.Test.YtcjhgckkbekhoaaRow
namespace Go.Proofs.Ytcjhgckkbekhoaa
set_option maxRecDepth 20000
set_option linter.unusedSimpArgs false
set_option linter.unusedVariables false
open Go.ChangeShapes Go.WideShapes Go.ChangeAt Go.RowKit

theorem pnotice_info : (Try.prog.info? 31).map (·.size) = some (#[Value.int .u8 0, .int .i64 0, .int .i64 0, .int .i64 0, .int .i64 0, .int .u8 0].size) := by kernel_rfl
theorem chear_said_live {w0 w : World} {N : Nat → Prop} {g : Nat} {st : Crt} {m : Nat} {S C T M v x : Int} (ha : st.ans (S, C) v = x) (h : LiveO (CrtB g st m) w0 N w) (hN : ∀ i, N i → i < w.heap.size) (hk : tpok (S, C)) (hm : m + 2 ≤ 100000) :
    Calls Try.prog 27 #[.pointer (some ⟨g, 0, none⟩), .agg #[.int .u8 5, .int .i64 S, .int .i64 C, .int .i64 T, .int .i64 M, .int .u8 0], .int .u8 v] w fun e w' => e = .returned (.tuple #[.agg #[.int .u8 5, .int .i64 S, .int .i64 C, .int .i64 T, .int .i64 M, .int .u8 x], .bool true]) ∧ LiveO (CrtB g (st.ship (S, C) v) (m + 1)) w0 N w' ∧ KeptO w0 N w w' := by
  have := chear_live (T := T) (M := M) (v := v) h hN hk hm
  rw [ha] at this
  exact this
theorem crtB_mono {g : Nat} {st : Crt} {m m' : Nat} {w : World} {F : Nat → Prop} (h : CrtB g st m w F) (hm : m ≤ m') : CrtB g st m' w F := h.mono hm
set_option maxHeartbeats 1000000 in
theorem cartPlays_far {w : World} (A A' A'' : Option Addr) (n n' n'' c c' c'' : Nat) (h : 50 < n ∨ n' < n ∨ n'' < n) : Calls Try.prog 10 #[.slice A n c, .slice A' n' c', .slice A'' n'' c''] w fun e w' => e = .returned (.bool true) ∧ Below w.heap.size w w' := by
  have fin : ∀ {w1 w2 : World}, Below w.heap.size w w1 → Below w1.heap.size w1 w2 → Below w.heap.size w w2 := fun hb1 hb2 => hb1.trans (hb2.mono hb1.size)
  by_cases h1 : 50 < n
  · have d1 : decide ((50 : Int) < (n : Int)) = true := by simp; omega
    go_enter Try.func10, Try.ntmps10
    go_wp2_with (fail)
    refine (crtAwake_any _).mono ?_
    rintro e w1 ⟨rfl, hb1⟩
    go_wp2_with (fail)
    refine (crtAwake_any _).mono ?_
    rintro e w2 ⟨rfl, hb2⟩
    go_wp2
    go_ret
    exact ⟨rfl, fin hb1 hb2⟩
  · have d1 : decide ((50 : Int) < (n : Int)) = false := by simp; omega
    by_cases h2 : n' < n
    · have d2 : decide ((n' : Int) < (n : Int)) = true := by simp; omega
      go_enter Try.func10, Try.ntmps10
      go_wp2_with (fail)
      refine (crtAwake_any _).mono ?_
      rintro e w1 ⟨rfl, hb1⟩
      go_wp2_with (fail)
      refine (crtAwake_any _).mono ?_
      rintro e w2 ⟨rfl, hb2⟩
      go_wp2
      go_ret
      exact ⟨rfl, fin hb1 hb2⟩
    · have d2 : decide ((n' : Int) < (n : Int)) = false := by simp; omega
      have d3 : decide ((n'' : Int) < (n : Int)) = true := by simp; omega
      go_enter Try.func10, Try.ntmps10
      go_wp2_with (fail)
      refine (crtAwake_any _).mono ?_
      rintro e w1 ⟨rfl, hb1⟩
      go_wp2_with (fail)
      refine (crtAwake_any _).mono ?_
      rintro e w2 ⟨rfl, hb2⟩
      go_wp2
      go_ret
      exact ⟨rfl, fin hb1 hb2⟩
set_option maxHeartbeats 8000000 in
theorem cartPlays_in {w : World} (A A' A'' : Option Addr) (n n' n'' c c' c'' : Nat) (l l' l'' : List Int) (hr : Rd w .u8 w.heap.size A l) (hr' : Rd w .u8 w.heap.size A' l') (hr'' : Rd w .u8 w.heap.size A'' l'') (hw : ∀ x ∈ l, 0 ≤ x ∧ x < 256) (hw' : ∀ x ∈ l', 0 ≤ x ∧ x < 256) (hn : l.length = n) (hn' : l'.length = n') (hn'' : l''.length = n'') (h : n ≤ 50) (hle : n ≤ n') (hle' : n ≤ n'') :
    Calls Try.prog 10 #[.slice A n c, .slice A' n' c', .slice A'' n'' c''] w fun e w' => e = .returned (.bool true) ∧ Below w.heap.size w w' := by
  have d1 : decide ((50 : Int) < (n : Int)) = false := by simp; omega
  have d2 : decide ((n' : Int) < (n : Int)) = false := by simp; omega
  have d3 : decide ((n'' : Int) < (n : Int)) = false := by simp; omega
  have HR := Lib.hid hr
  have HR' := Lib.hid hr'
  have HR'' := Lib.hid hr''
  have HW := Lib.hid hw
  have HW' := Lib.hid hw'
  have HN := Lib.hid hn
  have HN' := Lib.hid hn'
  have HN'' := Lib.hid hn''
  clear hr hr' hr'' hn hn' hn'' hw hw'
  go_enter Try.func10, Try.ntmps10
  go_wp2_with (fail)
  refine (crtAwake_any _).mono ?_
  rintro e U ⟨rfl, hU⟩
  have HU := Lib.hid hU
  have hUs : w.heap.size ≤ U.heap.size := hU.size
  clear hU
  go_wp2_with (fail)
  refine cnew_live.mono ?_
  rintro e W1 ⟨rfl, hl, hz1⟩
  have l1 : U.heap.size ≤ W1.heap.size := hl.old.size
  clear hz1
  have HL1 := Lib.hid hl
  clear hl
  go_wp2
  generalize hSB : W1.heap.size = SB at *
  go_loopw [9, 10] (fun sl i wq => ∃ (j : Nat) (st : Crt) (A9 : Option Addr) (c9 : Nat), j ≤ n ∧ i = .int .i64 j ∧ sl = .slice A9 st.trips.length c9 ∧ Hid st.Fine ∧ st.trips.length ≤ j ∧ Hid (LiveO (CrtB (U.heap.size + 1) st j) U (fun i => i = SB ∨ (Value.slice A9 st.trips.length c9).ownBlock = some i) wq) ∧ Hid (ArrB wq SB 51 9 (gTold st)) ∧ Hid (wq.ownsRow U.heap.size 68 2 (.slice A9 st.trips.length c9) st.trips.length (tcl st.trips))) (fun sl i _ => n - (intOf i).toNat)
  case atStart =>
    subst hSB
    refine ⟨0, .new, none, 0, by omega, rfl, rfl, crtFine_new, Nat.le_refl _, (HL1.out.alloc (crt_thing _ _ _) _).less (fun i hi => ?_), arrB_of alloc_block rfl ?_, World.ownsRow_nil _ _ _ _⟩
    · rcases hi with rfl | hi
      · exact .inr rfl
      · simp [Value.ownBlock] at hi
    · intro i hi
      match i, hi with
      | 0, _ | 1, _ | 2, _ | 3, _ | 4, _ | 5, _ | 6, _ | 7, _ | 8, _ => rfl
  case round =>
    clear HL1
    obtain ⟨j, st, A9, c9, hj, rfl, rfl, HF, hlj, HL, HS, HO⟩ := hrel
    by_cases hlt : j < n
    case neg =>
      obtain rfl : j = n := by omega
      have dlt : decide ((j : Int) < (j : Int)) = false := by simp
      clear HW HW' HR HR' HR'' HN HN' HN'' HS
      have hlw : U.heap.size ≤ wr.heap.size := HL.out.old.size
      have HF2 := HF
      go_wp2_with (fail)
      refine (trips_live HL.out (by omega)).mono ?_
      rintro e X2 ⟨v9, rfl, ho9, hb9⟩
      obtain ⟨A8, c8, rfl, _, _⟩ := own_form ho9
      have HL2 := Lib.hid (HL.out.below (crt_thing _ _ _) hb9)
      have HO2 : Hid (X2.ownsRow U.heap.size 68 2 (.slice A9 st.trips.length c9) st.trips.length (tcl st.trips)) := own_kept HO.out (fun i hi => hb9.block i (HO.out.lt i hi).2)
      have HG2 := Lib.hid ho9
      have l2 : wr.heap.size ≤ X2.heap.size := hb9.size
      clear ho9 hb9 HL HO
      go_wp2
      go_loopw [15] (fun i wq => ∃ a : Nat, a ≤ st.trips.length ∧ i = .int .i64 a ∧ Hid (Below X2.heap.size X2 wq)) (fun i _ => st.trips.length - (intOf i).toNat)
      case atStart => exact ⟨0, by omega, rfl, Below.refl _ _⟩
      case round =>
        rename_i wx
        obtain ⟨a, ha, rfl, HB⟩ := hrel
        have HL := Lib.hid (HL2.out.below (crt_thing _ _ _) HB.out)
        have lb : X2.heap.size ≤ wr.heap.size := HB.out.size
        by_cases hat : a < st.trips.length
        case neg =>
          obtain rfl : a = st.trips.length := by omega
          have da : decide ((st.trips.length : Int) < (st.trips.length : Int)) = false := by simp
          go_wp2_with (fail)
          refine (sent_live (a := 7) (b := 7) HL.out (by omega)).mono ?_
          rintro e X4 ⟨rfl, hb4⟩
          rw [sentOf_none (fun hm => by have := HF.out.near _ hm; simp at this)]
          go_wp2
          go_ret
          exact ⟨rfl, HU.out.trans ((HL.out.old.trans (hb4.mono (by omega))).mono hUs)⟩
        case pos =>
          have da : decide ((a : Int) < (st.trips.length : Int)) = true := by simpa using hat
          obtain ⟨⟨c0, d0⟩, hcj⟩ : ∃ c, st.trips[a]? = some c := ⟨st.trips[a], List.getElem?_eq_getElem hat⟩
          obtain ⟨q1, rfl⟩ : ∃ q, A9 = some ⟨q, 0, none⟩ := by
            rcases HO2.out.2 with ⟨_, hn⟩ | ⟨q, cap, cur, hv, _⟩
            · omega
            · injection hv with hA; exact ⟨q, hA⟩
          obtain ⟨q2, rfl⟩ : ∃ q, A8 = some ⟨q, 0, none⟩ := by
            rcases HG2.out.2 with ⟨_, hn⟩ | ⟨q, cap, cur, hv, _⟩
            · omega
            · injection hv with hA; exact ⟨q, hA⟩
          have hq1 : q1 < wr.heap.size := by have := (HO2.out.lt q1 rfl).2; omega
          have hq2 : q2 < wr.heap.size := by have := (HG2.out.lt q2 rfl).2; omega
          have u0 : wr.cell? ⟨q1, a * 2, none⟩ = some (.int .i64 c0) := (World.cell?_of_block (a := ⟨q1, a * 2, none⟩) (HB.out.block q1 (HO2.out.lt q1 rfl).2)).trans (by have := HO2.out.cells (g := q1) rfl (a * 2) _ (tcl_at hcj).1; rwa [ad_head] at this)
          have u1 : wr.cell? ⟨q1, a * 2 + 1, none⟩ = some (.int .i64 d0) := (World.cell?_of_block (a := ⟨q1, a * 2 + 1, none⟩) (HB.out.block q1 (HO2.out.lt q1 rfl).2)).trans (by have := HO2.out.cells (g := q1) rfl (a * 2 + 1) _ (tcl_at hcj).2; rwa [ad_head] at this)
          have v0 : wr.cell? ⟨q2, a * 2, none⟩ = some (.int .i64 c0) := (World.cell?_of_block (a := ⟨q2, a * 2, none⟩) (HB.out.block q2 (HG2.out.lt q2 rfl).2)).trans (by have := HG2.out.cells (g := q2) rfl (a * 2) _ (tcl_at hcj).1; rwa [ad_head] at this)
          have v1 : wr.cell? ⟨q2, a * 2 + 1, none⟩ = some (.int .i64 d0) := (World.cell?_of_block (a := ⟨q2, a * 2 + 1, none⟩) (HB.out.block q2 (HG2.out.lt q2 rfl).2)).trans (by have := HG2.out.cells (g := q2) rfl (a * 2 + 1) _ (tcl_at hcj).2; rwa [ad_head] at this)
          have k0 : (0 : Int) ≤ (a : Int) := by omega
          have kt : (a : Int) < (st.trips.length : Int) := by omega
          have HSE : Hid (∀ y : Later wr, Calls Try.prog 29 #[.pointer (some ⟨U.heap.size + 1, 0, none⟩), .int .i64 c0, .int .i64 d0] (over wr y) fun e w' => e = .returned (.int .i64 1) ∧ Below (over wr y).heap.size (over wr y) w') := fun y => by
            have := sent_live (a := c0) (b := d0) (HL.out.below (crt_thing _ _ _) (over_below wr y)) (by omega)
            rw [sentOf_one HF.out.nd (List.mem_of_getElem? hcj)] at this
            exact this
          clear hcj
          go_wp2
          refine region_over (by kernel_rfl) (by kernel_rfl) ?_
          repeat (go_big_quiet_step (first | (go_at_call 29; exact over_call (HSE.out _))))
          refine wpQuiet_nil ?_
          rintro _ ⟨y, rfl⟩
          have HY := Lib.hid (HB.out.trans ((over_below wr y).mono lb))
          go_wp2
          go_roundw
          case rel => exact ⟨a + 1, by omega, by go_num, HY⟩
          case measure => simp [intOf]; omega
    case pos =>
      have dlt : decide ((j : Int) < (n : Int)) = true := by simpa using hlt
      obtain ⟨a, rfl, ha, hv1⟩ := HR.out.at_ (j := j) (by have := HN.out; omega)
      obtain ⟨a', rfl, ha', hv2⟩ := HR'.out.at_ (j := j) (by have := HN'.out; omega)
      obtain ⟨a'', rfl, ha'', hv3⟩ := HR''.out.at_ (j := j) (by have := HN''.out; omega)
      have ws := HW.out (l[j]'(by have := HN.out; omega)) (List.getElem_mem _)
      have wc := HW'.out (l'[j]'(by have := HN'.out; omega)) (List.getElem_mem _)
      generalize l[j]'(by have := HN.out; omega) = s0 at *
      generalize l'[j]'(by have := HN'.out; omega) = c0 at *
      generalize l''[j]'(by have := HN''.out; omega) = v at *
      have lsw : U.heap.size ≤ wr.heap.size := HL.out.old.size
      have HV1 : Hid (U.cell? (a.add j) = some (.int .u8 s0)) := (World.cell?_of_block (by rw [ad_block]; exact HU.out.block a.block ha)).trans hv1
      have HV2 : Hid (U.cell? (a'.add j) = some (.int .u8 c0)) := (World.cell?_of_block (by rw [ad_block]; exact HU.out.block a'.block ha')).trans hv2
      have HV3 : Hid (U.cell? (a''.add j) = some (.int .u8 v)) := (World.cell?_of_block (by rw [ad_block]; exact HU.out.block a''.block ha'')).trans hv3
      clear hv1 hv2 hv3
      have haU : a.block < U.heap.size := by omega
      have haU' : a'.block < U.heap.size := by omega
      have haU'' : a''.block < U.heap.size := by omega
      have k0 : (0 : Int) ≤ (j : Int) := by omega
      have jn' : (j : Int) < (n' : Int) := by omega
      have jn'' : (j : Int) < (n'' : Int) := by omega
      obtain ⟨s, hs⟩ : ∃ s : Nat, s0 % 3 = (s : Int) := ⟨(s0 % 3).toNat, by omega⟩
      obtain ⟨c, hc⟩ : ∃ c : Nat, c0 % 3 = (c : Int) := ⟨(c0 % 3).toNat, by omega⟩
      have hs2 : s0.tmod 3 = (s : Int) := by rw [Int.tmod_eq_emod_of_nonneg ws.1]; exact hs
      have hc2 : c0.tmod 3 = (c : Int) := by rw [Int.tmod_eq_emod_of_nonneg wc.1]; exact hc
      have s3 : s < 3 := by omega
      have c3 : c < 3 := by omega
      have s3i : (s : Int) < 3 := by omega
      have c3i : (c : Int) < 3 := by omega
      have s0i : (0 : Int) ≤ (s : Int) := by omega
      have c0i : (0 : Int) ≤ (c : Int) := by omega
      have hk : tpok ((s : Int), (c : Int)) := ⟨WalkArith.wf_i64 (by omega), WalkArith.wf_i64 (by omega)⟩
      have hws : IntKind.i64.wrap (s : Int) = s := (IntWalk.i64_left _).trans (IntWalk.wrap64_in _ (by omega))
      have hwc : IntKind.i64.wrap (c : Int) = c := (IntWalk.i64_left _).trans (IntWalk.wrap64_in _ (by omega))
      go_wp2_with (fail)
      have HL1 := HL
      have ls1 : U.heap.size ≤ wr.heap.size := HL1.out.old.size
      have H1_0 := HS
      have H1_1 := HO
      have : SB < wr.heap.size := H1_0.out.lt
      have HS0 : Hid ((fun w' : World => w'.cell? (a.add j) = some (.int .u8 s0) ∧ w'.cell? (a'.add j) = some (.int .u8 c0)) wr.drew) := ⟨(World.cell?_of_block (w' := wr.drew) (a := a.add j) (by (try rw [ad_block]); exact (HL1.out.old).block _ haU)).trans HV1.out, (World.cell?_of_block (w' := wr.drew) (a := a'.add j) (by (try rw [ad_block]); exact (HL1.out.old).block _ haU')).trans HV2.out⟩
      refine lane_start (ord := [0, 1, 2, 3, 4, 5, 6, 7, 8, 9, 10, 11, 12, 13, 14]) (S := (fun w' : World => w'.cell? (a.add j) = some (.int .u8 s0) ∧ w'.cell? (a'.add j) = some (.int .u8 c0))) rfl (by kernel_rfl) (by exact HS0.out) (fun _ => ?_)
      iterate 13 (refine lane_take (v := ?_) rfl (by kernel_rfl) (by kernel_rfl) (by rfl) ?_ (by exact HS0.out) ?_; rotate_left; (focus (intro w9 hSw; obtain ⟨x0, x1⟩ := hSw; (try go_simp); try (with_reducible rfl))); simp only [Act.put, List.setIfInBounds_toArray, List.set_cons_zero, List.set_cons_succ])
      try rw [hws, hwc]
      refine lane_alone rfl (by kernel_rfl) (by rfl) (fun KK hKK => ?_)
      go_simp
      have hS9 : (fun w' : World => w'.cell? (a.add j) = some (.int .u8 s0) ∧ w'.cell? (a'.add j) = some (.int .u8 c0)) ((wr.alloc (.cells #[.int .u8 0, .int .i64 0, .int .i64 0, .int .i64 0, .int .i64 0, .int .u8 0] 31)).drew) := ⟨(World.cell?_of_block (w' := ((wr.alloc (.cells #[.int .u8 0, .int .i64 0, .int .i64 0, .int .i64 0, .int .i64 0, .int .u8 0] 31)).drew)) (a := a.add j) (by (try rw [ad_block]); exact ((show ((wr.alloc (.cells #[.int .u8 0, .int .i64 0, .int .i64 0, .int .i64 0, .int .i64 0, .int .u8 0] 31)).drew).heap[_]? = wr.heap[_]? from alloc_block_old (by show _ < wr.heap.size; omega)).trans ((HL1.out.old).block _ haU)))).trans HV1.out, (World.cell?_of_block (w' := ((wr.alloc (.cells #[.int .u8 0, .int .i64 0, .int .i64 0, .int .i64 0, .int .i64 0, .int .u8 0] 31)).drew)) (a := a'.add j) (by (try rw [ad_block]); exact ((show ((wr.alloc (.cells #[.int .u8 0, .int .i64 0, .int .i64 0, .int .i64 0, .int .i64 0, .int .u8 0] 31)).drew).heap[_]? = wr.heap[_]? from alloc_block_old (by show _ < wr.heap.size; omega)).trans ((HL1.out.old).block _ haU')))).trans HV2.out⟩
      refine hKK _ _ (by exact hS9) (fun _ => ?_)
      clear hKK KK hS9
      refine lane_alone rfl (by kernel_rfl) (by rfl) (fun KK hKK => ?_)
      have hZ9 : ((wr.alloc (.cells #[.int .u8 0, .int .i64 0, .int .i64 0, .int .i64 0, .int .i64 0, .int .u8 0] 31)).drew).heap[wr.heap.size]? = some (.cells #[.int .u8 0, .int .i64 0, .int .i64 0, .int .i64 0, .int .i64 0, .int .u8 0] 31 (0, 0)) := alloc_block
      refine wp_store_row _ _ _ rfl wr.heap.size _ rfl rfl _ _ hZ9 (by exact pnotice_info) rfl (by simp [Value.oneCell']) ?_
      rw [row_boxed hZ9, boxed_alloc_drew]
      have hS9 : (fun w' : World => w'.cell? (a.add j) = some (.int .u8 s0) ∧ w'.cell? (a'.add j) = some (.int .u8 c0)) (wr.drew.alloc (.cells #[.int .u8 5, .int .i64 s, .int .i64 c, .int .i64 0, .int .i64 0, .int .u8 0] 31)) := ⟨(World.cell?_of_block (w' := (wr.drew.alloc (.cells #[.int .u8 5, .int .i64 s, .int .i64 c, .int .i64 0, .int .i64 0, .int .u8 0] 31))) (a := a.add j) (by (try rw [ad_block]); exact ((show (wr.drew.alloc (.cells #[.int .u8 5, .int .i64 s, .int .i64 c, .int .i64 0, .int .i64 0, .int .u8 0] 31)).heap[_]? = wr.heap[_]? from alloc_block_old (by show _ < wr.heap.size; omega)).trans ((HL1.out.old).block _ haU)))).trans HV1.out, (World.cell?_of_block (w' := (wr.drew.alloc (.cells #[.int .u8 5, .int .i64 s, .int .i64 c, .int .i64 0, .int .i64 0, .int .u8 0] 31))) (a := a'.add j) (by (try rw [ad_block]); exact ((show (wr.drew.alloc (.cells #[.int .u8 5, .int .i64 s, .int .i64 c, .int .i64 0, .int .i64 0, .int .u8 0] 31)).heap[_]? = wr.heap[_]? from alloc_block_old (by show _ < wr.heap.size; omega)).trans ((HL1.out.old).block _ haU')))).trans HV2.out⟩
      refine hKK _ _ (by exact hS9) (fun _ => ?_)
      clear hKK KK hS9 hZ9 HS0
      refine lane_end (by kernel_rfl) ?_
      skip
      have hK : ∀ i, i < wr.heap.size → wr.drew.heap[i]? = wr.heap[i]? := fun i hi => rfl
      have H2_0 : Hid (ArrB wr.drew SB 51 9 (gTold st)) := H1_0.out.kept (hK SB (by omega))
      have H2_1 : Hid (wr.drew.ownsRow U.heap.size 68 2 (Value.slice A9 st.trips.length c9) st.trips.length (tcl st.trips)) := own_kept H1_1.out (fun i hi => hK i (H1_1.out.lt i hi).2)
      have HL2 : Hid (LiveO (CrtB (U.heap.size + 1) st j) U (fun (i : Nat) => i = SB ∨ (Value.slice A9 st.trips.length c9).ownBlock = some i) wr.drew) := HL1.out.drew (crt_thing (U.heap.size + 1) st j)
      have : SB < wr.drew.heap.size := by show _ < wr.heap.size; first | omega | (rw [World.size_alloc]; omega) | (rw [setCell_size]; omega)
      have ls2 : U.heap.size ≤ wr.drew.heap.size := by show _ ≤ wr.heap.size; first | omega | (rw [World.size_alloc]; omega) | (rw [setCell_size]; omega)
      have lt2 : wr.heap.size ≤ wr.drew.heap.size := by show _ ≤ wr.heap.size; first | omega | (rw [World.size_alloc]; omega) | (rw [setCell_size]; omega)
      have lu2 : wr.drew.heap.size ≤ wr.heap.size := by show wr.heap.size ≤ _; omega
      clear hK HL1 H1_0 H1_1
      generalize wr.drew = X2 at *
      have hK : ∀ i, i < X2.heap.size → (X2.alloc (.cells #[.int .u8 5, .int .i64 s, .int .i64 c, .int .i64 0, .int .i64 0, .int .u8 0] 31)).heap[i]? = X2.heap[i]? := fun i hi => alloc_block_old hi
      have H3_0 : Hid (ArrB (X2.alloc (.cells #[.int .u8 5, .int .i64 s, .int .i64 c, .int .i64 0, .int .i64 0, .int .u8 0] 31)) SB 51 9 (gTold st)) := H2_0.out.kept (hK SB (by omega))
      have H3_1 : Hid ((X2.alloc (.cells #[.int .u8 5, .int .i64 s, .int .i64 c, .int .i64 0, .int .i64 0, .int .u8 0] 31)).ownsRow U.heap.size 68 2 (Value.slice A9 st.trips.length c9) st.trips.length (tcl st.trips)) := own_kept H2_1.out (fun i hi => hK i (H2_1.out.lt i hi).2)
      have H3_2 : Hid ((X2.alloc (.cells #[.int .u8 5, .int .i64 s, .int .i64 c, .int .i64 0, .int .i64 0, .int .u8 0] 31)).heap[wr.heap.size]? = some (.cells #[.int .u8 5, .int .i64 s, .int .i64 c, .int .i64 0, .int .i64 0, .int .u8 0] 31 (0, 0))) := alloc_at (by omega)
      have HL3 : Hid (LiveO (CrtB (U.heap.size + 1) st j) U (fun (i : Nat) => i = SB ∨ (Value.slice A9 st.trips.length c9).ownBlock = some i ∨ i = wr.heap.size) (X2.alloc (.cells #[.int .u8 5, .int .i64 s, .int .i64 c, .int .i64 0, .int .i64 0, .int .u8 0] 31))) := (HL2.out.alloc (crt_thing (U.heap.size + 1) st j) (.cells #[.int .u8 5, .int .i64 s, .int .i64 c, .int .i64 0, .int .i64 0, .int .u8 0] 31)).less (N' := (fun (i : Nat) => i = SB ∨ (Value.slice A9 st.trips.length c9).ownBlock = some i ∨ i = wr.heap.size)) (fun i hi => by rcases hi with h0 | h1 | h2; exact .inl (.inl h0); exact .inl (.inr h1); exact .inr (by omega))
      have : SB < (X2.alloc (.cells #[.int .u8 5, .int .i64 s, .int .i64 c, .int .i64 0, .int .i64 0, .int .u8 0] 31)).heap.size := by first | omega | (rw [World.size_alloc]; omega) | (rw [setCell_size]; omega)
      have ls3 : U.heap.size ≤ (X2.alloc (.cells #[.int .u8 5, .int .i64 s, .int .i64 c, .int .i64 0, .int .i64 0, .int .u8 0] 31)).heap.size := by first | omega | (rw [World.size_alloc]; omega) | (rw [setCell_size]; omega)
      have lt3 : X2.heap.size ≤ (X2.alloc (.cells #[.int .u8 5, .int .i64 s, .int .i64 c, .int .i64 0, .int .i64 0, .int .u8 0] 31)).heap.size := by first | omega | (rw [World.size_alloc]; omega) | (rw [setCell_size]; omega)
      have : wr.heap.size < (X2.alloc (.cells #[.int .u8 5, .int .i64 s, .int .i64 c, .int .i64 0, .int .i64 0, .int .u8 0] 31)).heap.size := by rw [World.size_alloc]; omega
      have lg3 : (X2.alloc (.cells #[.int .u8 5, .int .i64 s, .int .i64 c, .int .i64 0, .int .i64 0, .int .u8 0] 31)).heap.size ≤ X2.heap.size + 1 ∧ X2.heap.size + 1 ≤ (X2.alloc (.cells #[.int .u8 5, .int .i64 s, .int .i64 c, .int .i64 0, .int .i64 0, .int .u8 0] 31)).heap.size := by rw [World.size_alloc]; omega
      have : SB < wr.heap.size := by omega
      clear hK HL2 H2_0 H2_1
      generalize (X2.alloc (.cells #[.int .u8 5, .int .i64 s, .int .i64 c, .int .i64 0, .int .i64 0, .int .u8 0] 31)) = X3 at *
      have c2_0 : X3.cell? ⟨wr.heap.size, 0, none⟩ = some (.int .u8 5) := by rw [cell_of_row _ _ _ _ _ _ H3_2.out]; rfl
      have c2_1 : X3.cell? ⟨wr.heap.size, 1, none⟩ = some (.int .i64 s) := by rw [cell_of_row _ _ _ _ _ _ H3_2.out]; rfl
      have c2_2 : X3.cell? ⟨wr.heap.size, 2, none⟩ = some (.int .i64 c) := by rw [cell_of_row _ _ _ _ _ _ H3_2.out]; rfl
      have c2_3 : X3.cell? ⟨wr.heap.size, 3, none⟩ = some (.int .i64 0) := by rw [cell_of_row _ _ _ _ _ _ H3_2.out]; rfl
      have c2_4 : X3.cell? ⟨wr.heap.size, 4, none⟩ = some (.int .i64 0) := by rw [cell_of_row _ _ _ _ _ _ H3_2.out]; rfl
      have c2_5 : X3.cell? ⟨wr.heap.size, 5, none⟩ = some (.int .u8 0) := by rw [cell_of_row _ _ _ _ _ _ H3_2.out]; rfl
      go_wp2_with (fail)
      cases hsd : st.said ((s : Int), (c : Int)) with
      | some x =>
        have z0 : X3.cell? ⟨SB, s * 3 + c, none⟩ = some (.int .u8 x) := by rw [H3_0.out.cell (by omega), gTold_at c3, hsd]; rfl
        have hx0 : (x == 0) = false := by have := HF.out.said _ _ hsd; simp; omega
        have HSD := Lib.hid hsd
        have HAN : Hid (st.said ((s : Int), (c : Int)) = some x) := HSD
        clear hsd
        go_quiet (fail)
        have hK : ∀ i, i < X3.heap.size → (X3.drewN nq).heap[i]? = X3.heap[i]? := fun i hi => rfl
        have H4_0 : Hid (ArrB (X3.drewN nq) SB 51 9 (gTold st)) := H3_0.out.kept (hK SB (by omega))
        have H4_1 : Hid ((X3.drewN nq).ownsRow U.heap.size 68 2 (Value.slice A9 st.trips.length c9) st.trips.length (tcl st.trips)) := own_kept H3_1.out (fun i hi => hK i (H3_1.out.lt i hi).2)
        have H4_2 : Hid ((X3.drewN nq).heap[wr.heap.size]? = some (.cells #[.int .u8 5, .int .i64 s, .int .i64 c, .int .i64 0, .int .i64 0, .int .u8 0] 31 (0, 0))) := (hK wr.heap.size (by omega)).trans H3_2.out
        have HL4 : Hid (LiveO (CrtB (U.heap.size + 1) st j) U (fun (i : Nat) => i = SB ∨ (Value.slice A9 st.trips.length c9).ownBlock = some i ∨ i = wr.heap.size) (X3.drewN nq)) := HL3.out.below (crt_thing (U.heap.size + 1) st j) (Below.drewN' (Below.refl _ _) _)
        have : SB < (X3.drewN nq).heap.size := by show _ < X3.heap.size; first | omega | (rw [World.size_alloc]; omega) | (rw [setCell_size]; omega)
        have : wr.heap.size < (X3.drewN nq).heap.size := by show _ < X3.heap.size; first | omega | (rw [World.size_alloc]; omega) | (rw [setCell_size]; omega)
        have ls4 : U.heap.size ≤ (X3.drewN nq).heap.size := by show _ ≤ X3.heap.size; first | omega | (rw [World.size_alloc]; omega) | (rw [setCell_size]; omega)
        have lt4 : X3.heap.size ≤ (X3.drewN nq).heap.size := by show _ ≤ X3.heap.size; first | omega | (rw [World.size_alloc]; omega) | (rw [setCell_size]; omega)
        clear hK HL3 H3_0 H3_1 H3_2 c2_0 c2_1 c2_2 c2_3 c2_4 c2_5 z0
        generalize (X3.drewN nq) = X4 at *
        go_wp2_with (fail)
        have c2_0 : X4.cell? ⟨wr.heap.size, 0, none⟩ = some (.int .u8 5) := by rw [cell_of_row _ _ _ _ _ _ H4_2.out]; rfl
        have c2_1 : X4.cell? ⟨wr.heap.size, 1, none⟩ = some (.int .i64 s) := by rw [cell_of_row _ _ _ _ _ _ H4_2.out]; rfl
        have c2_2 : X4.cell? ⟨wr.heap.size, 2, none⟩ = some (.int .i64 c) := by rw [cell_of_row _ _ _ _ _ _ H4_2.out]; rfl
        have c2_3 : X4.cell? ⟨wr.heap.size, 3, none⟩ = some (.int .i64 0) := by rw [cell_of_row _ _ _ _ _ _ H4_2.out]; rfl
        have c2_4 : X4.cell? ⟨wr.heap.size, 4, none⟩ = some (.int .i64 0) := by rw [cell_of_row _ _ _ _ _ _ H4_2.out]; rfl
        have c2_5 : X4.cell? ⟨wr.heap.size, 5, none⟩ = some (.int .u8 0) := by rw [cell_of_row _ _ _ _ _ _ H4_2.out]; rfl
        have HS0 : Hid ((fun w' : World => w'.cell? ⟨wr.heap.size, 0, none⟩ = some (.int .u8 5) ∧ w'.cell? ⟨wr.heap.size, 1, none⟩ = some (.int .i64 s) ∧ w'.cell? ⟨wr.heap.size, 2, none⟩ = some (.int .i64 c) ∧ w'.cell? ⟨wr.heap.size, 3, none⟩ = some (.int .i64 0) ∧ w'.cell? ⟨wr.heap.size, 4, none⟩ = some (.int .i64 0) ∧ w'.cell? ⟨wr.heap.size, 5, none⟩ = some (.int .u8 0) ∧ w'.cell? (a''.add j) = some (.int .u8 v)) X4.drew) := ⟨by rw [cell_of_row _ _ _ _ _ _ (show X4.drew.heap[_]? = _ from H4_2.out)]; rfl, by rw [cell_of_row _ _ _ _ _ _ (show X4.drew.heap[_]? = _ from H4_2.out)]; rfl, by rw [cell_of_row _ _ _ _ _ _ (show X4.drew.heap[_]? = _ from H4_2.out)]; rfl, by rw [cell_of_row _ _ _ _ _ _ (show X4.drew.heap[_]? = _ from H4_2.out)]; rfl, by rw [cell_of_row _ _ _ _ _ _ (show X4.drew.heap[_]? = _ from H4_2.out)]; rfl, by rw [cell_of_row _ _ _ _ _ _ (show X4.drew.heap[_]? = _ from H4_2.out)]; rfl, (World.cell?_of_block (w' := X4.drew) (a := a''.add j) (by (try rw [ad_block]); exact (HL4.out.old).block _ haU'')).trans HV3.out⟩
        have hN9 : ∀ i, (fun (i : Nat) => i = SB ∨ (Value.slice A9 st.trips.length c9).ownBlock = some i ∨ i = wr.heap.size) i → i < X4.heap.size := (fun i hx0 => (hx0.elim (fun (hi : i = SB) => by omega) (fun hx1 => (hx1.elim (fun (hi : _) => (H4_1.out.lt i hi).2) (fun hx2 => ((fun (hi : i = wr.heap.size) => by omega) hx2))))))
        apply region_frame1 (fun Zq w9 => Hid (LiveO (CrtB (U.heap.size + 1) st (j + 1)) U (fun (i : Nat) => i = SB ∨ (Value.slice A9 st.trips.length c9).ownBlock = some i ∨ i = wr.heap.size ∨ i = Zq) w9) ∧ Hid (ArrB w9 SB 51 9 (gTold st)) ∧ Hid (w9.ownsRow U.heap.size 68 2 (Value.slice A9 st.trips.length c9) st.trips.length (tcl st.trips)) ∧ Hid (w9.heap[wr.heap.size]? = some (.cells #[.int .u8 5, .int .i64 s, .int .i64 c, .int .i64 0, .int .i64 0, .int .u8 0] 31 (0, 0))) ∧ Hid (w9.heap[Zq]? = some (.cells #[.int .u8 5, .int .i64 s, .int .i64 c, .int .i64 0, .int .i64 0, .int .u8 x] 31 (0, 0))) ∧ U.heap.size ≤ w9.heap.size ∧ SB < w9.heap.size ∧ wr.heap.size < w9.heap.size ∧ SB < Zq ∧ wr.heap.size < Zq ∧ Zq < w9.heap.size ∧ U.heap.size ≤ Zq ∧ X4.heap.size ≤ Zq)
        · skip
          refine lane_start (ord := [0, 1, 2, 3, 4, 5, 6, 7, 8, 9, 10, 11, 12]) (S := (fun w' : World => w'.cell? ⟨wr.heap.size, 0, none⟩ = some (.int .u8 5) ∧ w'.cell? ⟨wr.heap.size, 1, none⟩ = some (.int .i64 s) ∧ w'.cell? ⟨wr.heap.size, 2, none⟩ = some (.int .i64 c) ∧ w'.cell? ⟨wr.heap.size, 3, none⟩ = some (.int .i64 0) ∧ w'.cell? ⟨wr.heap.size, 4, none⟩ = some (.int .i64 0) ∧ w'.cell? ⟨wr.heap.size, 5, none⟩ = some (.int .u8 0) ∧ w'.cell? (a''.add j) = some (.int .u8 v))) rfl (by kernel_rfl) (by exact HS0.out) (fun _ => ?_)
          iterate 6 (refine lane_take (v := ?_) rfl (by kernel_rfl) (by kernel_rfl) (by rfl) ?_ (by exact HS0.out) ?_; rotate_left; (focus (intro w9 hSw; obtain ⟨x0, x1, x2, x3, x4, x5, x6⟩ := hSw; (try go_simp); try (with_reducible rfl))); simp only [Act.put, List.setIfInBounds_toArray, List.set_cons_zero, List.set_cons_succ])
          refine lane_two (i := 6) (j := 10) (ordI := [7, 8, 9, 10, 11, 12]) (ordJ := [6, 7, 8, 9, 11, 12]) rfl rfl (by kernel_rfl) rfl (by rfl) (by rfl) (fun KK hKK => ?_) (fun KK hKK => ?_)
          · skip
            go_simp
            refine (chear_again_live HSD.out (HL4.out.drew (crt_thing (U.heap.size + 1) st j)) (fun i hi => hN9 i hi) hk (by omega)).mono ?_
            rintro e V9 ⟨rfl, hl, hk⟩
            have hsz : X4.heap.size ≤ V9.heap.size := hk.size
            have hb0 : ArrB V9 SB 51 9 (gTold st) := H4_0.out.kept (hk.block SB (.inl rfl))
            have hb1 : V9.ownsRow U.heap.size 68 2 (Value.slice A9 st.trips.length c9) st.trips.length (tcl st.trips) := own_kept H4_1.out (fun i hi => hk.block i (.inr (.inl hi)))
            have hb2 : V9.heap[wr.heap.size]? = some (.cells #[.int .u8 5, .int .i64 s, .int .i64 c, .int .i64 0, .int .i64 0, .int .u8 0] 31 (0, 0)) := (hk.block wr.heap.size (.inr (.inr rfl))).trans H4_2.out
            have HLv := Lib.hid hl
            have hS1 : (fun w' : World => w'.cell? ⟨wr.heap.size, 0, none⟩ = some (.int .u8 5) ∧ w'.cell? ⟨wr.heap.size, 1, none⟩ = some (.int .i64 s) ∧ w'.cell? ⟨wr.heap.size, 2, none⟩ = some (.int .i64 c) ∧ w'.cell? ⟨wr.heap.size, 3, none⟩ = some (.int .i64 0) ∧ w'.cell? ⟨wr.heap.size, 4, none⟩ = some (.int .i64 0) ∧ w'.cell? ⟨wr.heap.size, 5, none⟩ = some (.int .u8 0) ∧ w'.cell? (a''.add j) = some (.int .u8 v)) V9 := ⟨by rw [cell_of_row _ _ _ _ _ _ (show V9.heap[_]? = _ from hb2)]; rfl, by rw [cell_of_row _ _ _ _ _ _ (show V9.heap[_]? = _ from hb2)]; rfl, by rw [cell_of_row _ _ _ _ _ _ (show V9.heap[_]? = _ from hb2)]; rfl, by rw [cell_of_row _ _ _ _ _ _ (show V9.heap[_]? = _ from hb2)]; rfl, by rw [cell_of_row _ _ _ _ _ _ (show V9.heap[_]? = _ from hb2)]; rfl, by rw [cell_of_row _ _ _ _ _ _ (show V9.heap[_]? = _ from hb2)]; rfl, (World.cell?_of_block (w' := V9) (a := a''.add j) (by (try rw [ad_block]); exact (HLv.out.old).block _ haU'')).trans HV3.out⟩
            have HS1 := Lib.hid hS1
            refine hKK _ _ HS1.out (fun _ => ?_)
            clear hKK KK hS1 hl hk
            iterate 3 (refine lane_take (v := ?_) rfl (by kernel_rfl) (by kernel_rfl) (by rfl) ?_ (by exact HS1.out) ?_; rotate_left; (focus (intro w9 hSw; obtain ⟨x0, x1, x2, x3, x4, x5, x6⟩ := hSw; (try go_simp); try (with_reducible rfl))); simp only [Act.put, List.setIfInBounds_toArray, List.set_cons_zero, List.set_cons_succ])
            refine lane_alone rfl (by kernel_rfl) (by rfl) (fun KK hKK => ?_)
            go_simp
            have hK9 : ∀ i, i < V9.heap.size → (V9.alloc (.cells #[.int .u8 0, .int .i64 0, .int .i64 0, .int .i64 0, .int .i64 0, .int .u8 0] 31)).heap[i]? = V9.heap[i]? := fun i hi => alloc_block_old hi
            have HZ : Hid ((V9.alloc (.cells #[.int .u8 0, .int .i64 0, .int .i64 0, .int .i64 0, .int .i64 0, .int .u8 0] 31)).heap[V9.heap.size]? = some (.cells #[.int .u8 0, .int .i64 0, .int .i64 0, .int .i64 0, .int .i64 0, .int .u8 0] 31 (0, 0))) := alloc_block
            have HLx := Lib.hid (HLv.out.alloc (crt_thing (U.heap.size + 1) st (j + 1)) (.cells #[.int .u8 0, .int .i64 0, .int .i64 0, .int .i64 0, .int .i64 0, .int .u8 0] 31))
            have hzz : V9.heap.size < (V9.alloc (.cells #[.int .u8 0, .int .i64 0, .int .i64 0, .int .i64 0, .int .i64 0, .int .u8 0] 31)).heap.size := by rw [World.size_alloc]; omega
            have hzl : X4.heap.size ≤ V9.heap.size := by omega
            have HC0 : Hid (ArrB (V9.alloc (.cells #[.int .u8 0, .int .i64 0, .int .i64 0, .int .i64 0, .int .i64 0, .int .u8 0] 31)) SB 51 9 (gTold st)) := hb0.kept (hK9 SB (by omega))
            have HC1 : Hid ((V9.alloc (.cells #[.int .u8 0, .int .i64 0, .int .i64 0, .int .i64 0, .int .i64 0, .int .u8 0] 31)).ownsRow U.heap.size 68 2 (Value.slice A9 st.trips.length c9) st.trips.length (tcl st.trips)) := own_kept hb1 (fun i hi => hK9 i (hb1.lt i hi).2)
            have hrz1 : ∀ i, (Value.slice A9 st.trips.length c9).ownBlock = some i → i ≠ V9.heap.size := fun i hi e => by have := (H4_1.out.lt i hi).2; omega
            have HC2 : Hid ((V9.alloc (.cells #[.int .u8 0, .int .i64 0, .int .i64 0, .int .i64 0, .int .i64 0, .int .u8 0] 31)).heap[wr.heap.size]? = some (.cells #[.int .u8 5, .int .i64 s, .int .i64 c, .int .i64 0, .int .i64 0, .int .u8 0] 31 (0, 0))) := (hK9 wr.heap.size (by omega)).trans hb2
            have hS2 : (fun w' : World => w'.cell? ⟨wr.heap.size, 0, none⟩ = some (.int .u8 5) ∧ w'.cell? ⟨wr.heap.size, 1, none⟩ = some (.int .i64 s) ∧ w'.cell? ⟨wr.heap.size, 2, none⟩ = some (.int .i64 c) ∧ w'.cell? ⟨wr.heap.size, 3, none⟩ = some (.int .i64 0) ∧ w'.cell? ⟨wr.heap.size, 4, none⟩ = some (.int .i64 0) ∧ w'.cell? ⟨wr.heap.size, 5, none⟩ = some (.int .u8 0) ∧ w'.cell? (a''.add j) = some (.int .u8 v)) (V9.alloc (.cells #[.int .u8 0, .int .i64 0, .int .i64 0, .int .i64 0, .int .i64 0, .int .u8 0] 31)) := ⟨by rw [cell_of_row _ _ _ _ _ _ (show (V9.alloc (.cells #[.int .u8 0, .int .i64 0, .int .i64 0, .int .i64 0, .int .i64 0, .int .u8 0] 31)).heap[_]? = _ from HC2.out)]; rfl, by rw [cell_of_row _ _ _ _ _ _ (show (V9.alloc (.cells #[.int .u8 0, .int .i64 0, .int .i64 0, .int .i64 0, .int .i64 0, .int .u8 0] 31)).heap[_]? = _ from HC2.out)]; rfl, by rw [cell_of_row _ _ _ _ _ _ (show (V9.alloc (.cells #[.int .u8 0, .int .i64 0, .int .i64 0, .int .i64 0, .int .i64 0, .int .u8 0] 31)).heap[_]? = _ from HC2.out)]; rfl, by rw [cell_of_row _ _ _ _ _ _ (show (V9.alloc (.cells #[.int .u8 0, .int .i64 0, .int .i64 0, .int .i64 0, .int .i64 0, .int .u8 0] 31)).heap[_]? = _ from HC2.out)]; rfl, by rw [cell_of_row _ _ _ _ _ _ (show (V9.alloc (.cells #[.int .u8 0, .int .i64 0, .int .i64 0, .int .i64 0, .int .i64 0, .int .u8 0] 31)).heap[_]? = _ from HC2.out)]; rfl, by rw [cell_of_row _ _ _ _ _ _ (show (V9.alloc (.cells #[.int .u8 0, .int .i64 0, .int .i64 0, .int .i64 0, .int .i64 0, .int .u8 0] 31)).heap[_]? = _ from HC2.out)]; rfl, (World.cell?_of_block (w' := (V9.alloc (.cells #[.int .u8 0, .int .i64 0, .int .i64 0, .int .i64 0, .int .i64 0, .int .u8 0] 31))) (a := a''.add j) (by (try rw [ad_block]); exact ((HLv.out.old.alloc HLv.out.old.size (.cells #[.int .u8 0, .int .i64 0, .int .i64 0, .int .i64 0, .int .i64 0, .int .u8 0] 31))).block _ haU'')).trans HV3.out⟩
            have HS2 := Lib.hid hS2
            refine hKK _ _ HS2.out (fun _ => ?_)
            clear hKK KK hS2
            clear hb0 hb1 hb2
            generalize hzn : V9.heap.size = ZZ at *
            refine lane_alone rfl (by kernel_rfl) (by rfl) (fun KK hKK => ?_)
            refine wp_store_row _ _ _ rfl ZZ _ rfl rfl _ _ HZ.out (by exact pnotice_info) rfl (by simp [Value.oneCell']) ?_
            rw [row_boxed HZ.out]
            have HD0 : Hid (ArrB (boxed (V9.alloc (.cells #[.int .u8 0, .int .i64 0, .int .i64 0, .int .i64 0, .int .i64 0, .int .u8 0] 31)) ZZ #[.int .u8 5, .int .i64 s, .int .i64 c, .int .i64 0, .int .i64 0, .int .u8 x] 31) SB 51 9 (gTold st)) := HC0.out.kept (boxed_block_other (by omega))
            have HD1 : Hid ((boxed (V9.alloc (.cells #[.int .u8 0, .int .i64 0, .int .i64 0, .int .i64 0, .int .i64 0, .int .u8 0] 31)) ZZ #[.int .u8 5, .int .i64 s, .int .i64 c, .int .i64 0, .int .i64 0, .int .u8 x] 31).ownsRow U.heap.size 68 2 (Value.slice A9 st.trips.length c9) st.trips.length (tcl st.trips)) := own_kept HC1.out (fun i hi => boxed_block_other (hrz1 i hi))
            have HD2 : Hid ((boxed (V9.alloc (.cells #[.int .u8 0, .int .i64 0, .int .i64 0, .int .i64 0, .int .i64 0, .int .u8 0] 31)) ZZ #[.int .u8 5, .int .i64 s, .int .i64 c, .int .i64 0, .int .i64 0, .int .u8 x] 31).heap[wr.heap.size]? = some (.cells #[.int .u8 5, .int .i64 s, .int .i64 c, .int .i64 0, .int .i64 0, .int .u8 0] 31 (0, 0))) := boxed_old (by omega) HC2.out
            have HLy := Lib.hid (HLx.out.boxed (crt_thing (U.heap.size + 1) st (j + 1)) (g := ZZ) (cs := #[.int .u8 5, .int .i64 s, .int .i64 c, .int .i64 0, .int .i64 0, .int .u8 x]) (t := 31) (.inr rfl) (by omega))
            have hS4 : (fun w' : World => w'.cell? ⟨wr.heap.size, 0, none⟩ = some (.int .u8 5) ∧ w'.cell? ⟨wr.heap.size, 1, none⟩ = some (.int .i64 s) ∧ w'.cell? ⟨wr.heap.size, 2, none⟩ = some (.int .i64 c) ∧ w'.cell? ⟨wr.heap.size, 3, none⟩ = some (.int .i64 0) ∧ w'.cell? ⟨wr.heap.size, 4, none⟩ = some (.int .i64 0) ∧ w'.cell? ⟨wr.heap.size, 5, none⟩ = some (.int .u8 0) ∧ w'.cell? (a''.add j) = some (.int .u8 v)) (boxed (V9.alloc (.cells #[.int .u8 0, .int .i64 0, .int .i64 0, .int .i64 0, .int .i64 0, .int .u8 0] 31)) ZZ #[.int .u8 5, .int .i64 s, .int .i64 c, .int .i64 0, .int .i64 0, .int .u8 x] 31) := ⟨by rw [cell_of_row _ _ _ _ _ _ (show (boxed (V9.alloc (.cells #[.int .u8 0, .int .i64 0, .int .i64 0, .int .i64 0, .int .i64 0, .int .u8 0] 31)) ZZ #[.int .u8 5, .int .i64 s, .int .i64 c, .int .i64 0, .int .i64 0, .int .u8 x] 31).heap[_]? = _ from HD2.out)]; rfl, by rw [cell_of_row _ _ _ _ _ _ (show (boxed (V9.alloc (.cells #[.int .u8 0, .int .i64 0, .int .i64 0, .int .i64 0, .int .i64 0, .int .u8 0] 31)) ZZ #[.int .u8 5, .int .i64 s, .int .i64 c, .int .i64 0, .int .i64 0, .int .u8 x] 31).heap[_]? = _ from HD2.out)]; rfl, by rw [cell_of_row _ _ _ _ _ _ (show (boxed (V9.alloc (.cells #[.int .u8 0, .int .i64 0, .int .i64 0, .int .i64 0, .int .i64 0, .int .u8 0] 31)) ZZ #[.int .u8 5, .int .i64 s, .int .i64 c, .int .i64 0, .int .i64 0, .int .u8 x] 31).heap[_]? = _ from HD2.out)]; rfl, by rw [cell_of_row _ _ _ _ _ _ (show (boxed (V9.alloc (.cells #[.int .u8 0, .int .i64 0, .int .i64 0, .int .i64 0, .int .i64 0, .int .u8 0] 31)) ZZ #[.int .u8 5, .int .i64 s, .int .i64 c, .int .i64 0, .int .i64 0, .int .u8 x] 31).heap[_]? = _ from HD2.out)]; rfl, by rw [cell_of_row _ _ _ _ _ _ (show (boxed (V9.alloc (.cells #[.int .u8 0, .int .i64 0, .int .i64 0, .int .i64 0, .int .i64 0, .int .u8 0] 31)) ZZ #[.int .u8 5, .int .i64 s, .int .i64 c, .int .i64 0, .int .i64 0, .int .u8 x] 31).heap[_]? = _ from HD2.out)]; rfl, by rw [cell_of_row _ _ _ _ _ _ (show (boxed (V9.alloc (.cells #[.int .u8 0, .int .i64 0, .int .i64 0, .int .i64 0, .int .i64 0, .int .u8 0] 31)) ZZ #[.int .u8 5, .int .i64 s, .int .i64 c, .int .i64 0, .int .i64 0, .int .u8 x] 31).heap[_]? = _ from HD2.out)]; rfl, (World.cell?_of_block (w' := (boxed (V9.alloc (.cells #[.int .u8 0, .int .i64 0, .int .i64 0, .int .i64 0, .int .i64 0, .int .u8 0] 31)) ZZ #[.int .u8 5, .int .i64 s, .int .i64 c, .int .i64 0, .int .i64 0, .int .u8 x] 31)) (a := a''.add j) (by (try rw [ad_block]); exact (HLy.out.old).block _ haU'')).trans HV3.out⟩
            have HS4 := Lib.hid hS4
            refine hKK _ _ (by exact HS4.out) (fun _ => ?_)
            clear hKK KK hS4
            iterate 1 (refine lane_take (v := ?_) rfl (by kernel_rfl) (by kernel_rfl) (by rfl) ?_ (by exact HS4.out) ?_; rotate_left; (focus (intro w9 hSw; obtain ⟨x0, x1, x2, x3, x4, x5, x6⟩ := hSw; (try go_simp); try (with_reducible rfl))); simp only [Act.put, List.setIfInBounds_toArray, List.set_cons_zero, List.set_cons_succ])
            refine lane_end (by kernel_rfl) ?_
            refine ⟨rfl, ZZ, rfl, (HLy.out.less (fun i hi => by rcases hi with h0 | h1 | h2 | h3; exact .inl (.inl h0); exact .inl (.inr (.inl h1)); exact .inl (.inr (.inr h2)); exact .inr h3)), HD0.out, HD1.out, HD2.out, boxed_at hzz, by rw [boxed_size]; omega, by rw [boxed_size]; omega, by rw [boxed_size]; omega, by omega, by omega, by rw [boxed_size]; omega, by omega, by omega⟩
          · skip
            go_simp
            have hK9 : ∀ i, i < X4.heap.size → ((X4.alloc (.cells #[.int .u8 0, .int .i64 0, .int .i64 0, .int .i64 0, .int .i64 0, .int .u8 0] 31)).drew).heap[i]? = X4.heap[i]? := fun i hi => alloc_block_old (w := X4) hi
            have hd0 : ArrB ((X4.alloc (.cells #[.int .u8 0, .int .i64 0, .int .i64 0, .int .i64 0, .int .i64 0, .int .u8 0] 31)).drew) SB 51 9 (gTold st) := H4_0.out.kept (hK9 SB (by omega))
            have hd1 : ((X4.alloc (.cells #[.int .u8 0, .int .i64 0, .int .i64 0, .int .i64 0, .int .i64 0, .int .u8 0] 31)).drew).ownsRow U.heap.size 68 2 (Value.slice A9 st.trips.length c9) st.trips.length (tcl st.trips) := own_kept H4_1.out (fun i hi => hK9 i (H4_1.out.lt i hi).2)
            have hd2 : ((X4.alloc (.cells #[.int .u8 0, .int .i64 0, .int .i64 0, .int .i64 0, .int .i64 0, .int .u8 0] 31)).drew).heap[wr.heap.size]? = some (.cells #[.int .u8 5, .int .i64 s, .int .i64 c, .int .i64 0, .int .i64 0, .int .u8 0] 31 (0, 0)) := (hK9 wr.heap.size (by omega)).trans H4_2.out
            have hS2 : (fun w' : World => w'.cell? ⟨wr.heap.size, 0, none⟩ = some (.int .u8 5) ∧ w'.cell? ⟨wr.heap.size, 1, none⟩ = some (.int .i64 s) ∧ w'.cell? ⟨wr.heap.size, 2, none⟩ = some (.int .i64 c) ∧ w'.cell? ⟨wr.heap.size, 3, none⟩ = some (.int .i64 0) ∧ w'.cell? ⟨wr.heap.size, 4, none⟩ = some (.int .i64 0) ∧ w'.cell? ⟨wr.heap.size, 5, none⟩ = some (.int .u8 0) ∧ w'.cell? (a''.add j) = some (.int .u8 v)) ((X4.alloc (.cells #[.int .u8 0, .int .i64 0, .int .i64 0, .int .i64 0, .int .i64 0, .int .u8 0] 31)).drew) := ⟨by rw [cell_of_row _ _ _ _ _ _ (show ((X4.alloc (.cells #[.int .u8 0, .int .i64 0, .int .i64 0, .int .i64 0, .int .i64 0, .int .u8 0] 31)).drew).heap[_]? = _ from hd2)]; rfl, by rw [cell_of_row _ _ _ _ _ _ (show ((X4.alloc (.cells #[.int .u8 0, .int .i64 0, .int .i64 0, .int .i64 0, .int .i64 0, .int .u8 0] 31)).drew).heap[_]? = _ from hd2)]; rfl, by rw [cell_of_row _ _ _ _ _ _ (show ((X4.alloc (.cells #[.int .u8 0, .int .i64 0, .int .i64 0, .int .i64 0, .int .i64 0, .int .u8 0] 31)).drew).heap[_]? = _ from hd2)]; rfl, by rw [cell_of_row _ _ _ _ _ _ (show ((X4.alloc (.cells #[.int .u8 0, .int .i64 0, .int .i64 0, .int .i64 0, .int .i64 0, .int .u8 0] 31)).drew).heap[_]? = _ from hd2)]; rfl, by rw [cell_of_row _ _ _ _ _ _ (show ((X4.alloc (.cells #[.int .u8 0, .int .i64 0, .int .i64 0, .int .i64 0, .int .i64 0, .int .u8 0] 31)).drew).heap[_]? = _ from hd2)]; rfl, by rw [cell_of_row _ _ _ _ _ _ (show ((X4.alloc (.cells #[.int .u8 0, .int .i64 0, .int .i64 0, .int .i64 0, .int .i64 0, .int .u8 0] 31)).drew).heap[_]? = _ from hd2)]; rfl, (World.cell?_of_block (w' := ((X4.alloc (.cells #[.int .u8 0, .int .i64 0, .int .i64 0, .int .i64 0, .int .i64 0, .int .u8 0] 31)).drew)) (a := a''.add j) (by (try rw [ad_block]); exact ((HL4.out.old.alloc HL4.out.old.size (.cells #[.int .u8 0, .int .i64 0, .int .i64 0, .int .i64 0, .int .i64 0, .int .u8 0] 31))).block _ haU'')).trans HV3.out⟩
            have HS2 := Lib.hid hS2
            refine hKK _ _ HS2.out (fun _ => ?_)
            clear hKK KK hS2
            refine lane_alone rfl (by kernel_rfl) (by rfl) (fun KK hKK => ?_)
            go_simp
            refine (chear_again_live HSD.out ((HL4.out.alloc (crt_thing (U.heap.size + 1) st j) (.cells #[.int .u8 0, .int .i64 0, .int .i64 0, .int .i64 0, .int .i64 0, .int .u8 0] 31)).drew (crt_thing (U.heap.size + 1) st j)) (fun i hi => by show i < (X4.alloc (.cells #[.int .u8 0, .int .i64 0, .int .i64 0, .int .i64 0, .int .i64 0, .int .u8 0] 31)).heap.size; rw [World.size_alloc]; rcases hi with hi | hi; exact Nat.lt_succ_of_lt (hN9 i hi); omega) hk (by omega)).mono ?_
            rintro e V9 ⟨rfl, hl, hk0⟩
            have hk : KeptO U (fun (i : Nat) => i = SB ∨ (Value.slice A9 st.trips.length c9).ownBlock = some i ∨ i = wr.heap.size) ((X4.alloc (.cells #[.int .u8 0, .int .i64 0, .int .i64 0, .int .i64 0, .int .i64 0, .int .u8 0] 31)).drew) V9 := ⟨hk0.size, fun i hi => hk0.block i (.inl hi), hk0.old⟩
            have hsz : (X4.alloc (.cells #[.int .u8 0, .int .i64 0, .int .i64 0, .int .i64 0, .int .i64 0, .int .u8 0] 31)).heap.size ≤ V9.heap.size := hk.size
            rw [World.size_alloc] at hsz
            have hb0 : ArrB V9 SB 51 9 (gTold st) := hd0.kept (hk.block SB (.inl rfl))
            have hb1 : V9.ownsRow U.heap.size 68 2 (Value.slice A9 st.trips.length c9) st.trips.length (tcl st.trips) := own_kept hd1 (fun i hi => hk.block i (.inr (.inl hi)))
            have hb2 : V9.heap[wr.heap.size]? = some (.cells #[.int .u8 5, .int .i64 s, .int .i64 c, .int .i64 0, .int .i64 0, .int .u8 0] 31 (0, 0)) := (hk.block wr.heap.size (.inr (.inr rfl))).trans hd2
            have HZ : Hid (V9.heap[X4.heap.size]? = some (.cells #[.int .u8 0, .int .i64 0, .int .i64 0, .int .i64 0, .int .i64 0, .int .u8 0] 31 (0, 0))) := (hk0.block _ (.inr rfl)).trans (show (X4.alloc (.cells #[.int .u8 0, .int .i64 0, .int .i64 0, .int .i64 0, .int .i64 0, .int .u8 0] 31)).heap[_]? = _ from alloc_block)
            have HLx := Lib.hid hl
            have hS3 : (fun w' : World => w'.cell? ⟨wr.heap.size, 0, none⟩ = some (.int .u8 5) ∧ w'.cell? ⟨wr.heap.size, 1, none⟩ = some (.int .i64 s) ∧ w'.cell? ⟨wr.heap.size, 2, none⟩ = some (.int .i64 c) ∧ w'.cell? ⟨wr.heap.size, 3, none⟩ = some (.int .i64 0) ∧ w'.cell? ⟨wr.heap.size, 4, none⟩ = some (.int .i64 0) ∧ w'.cell? ⟨wr.heap.size, 5, none⟩ = some (.int .u8 0) ∧ w'.cell? (a''.add j) = some (.int .u8 v)) V9 := ⟨by rw [cell_of_row _ _ _ _ _ _ (show V9.heap[_]? = _ from hb2)]; rfl, by rw [cell_of_row _ _ _ _ _ _ (show V9.heap[_]? = _ from hb2)]; rfl, by rw [cell_of_row _ _ _ _ _ _ (show V9.heap[_]? = _ from hb2)]; rfl, by rw [cell_of_row _ _ _ _ _ _ (show V9.heap[_]? = _ from hb2)]; rfl, by rw [cell_of_row _ _ _ _ _ _ (show V9.heap[_]? = _ from hb2)]; rfl, by rw [cell_of_row _ _ _ _ _ _ (show V9.heap[_]? = _ from hb2)]; rfl, (World.cell?_of_block (w' := V9) (a := a''.add j) (by (try rw [ad_block]); exact (HLx.out.old).block _ haU'')).trans HV3.out⟩
            have HS2 := Lib.hid hS3
            refine hKK _ _ HS2.out (fun _ => ?_)
            clear hKK KK hS3 hl hk hk0
            iterate 3 (refine lane_take (v := ?_) rfl (by kernel_rfl) (by kernel_rfl) (by rfl) ?_ (by exact HS2.out) ?_; rotate_left; (focus (intro w9 hSw; obtain ⟨x0, x1, x2, x3, x4, x5, x6⟩ := hSw; (try go_simp); try (with_reducible rfl))); simp only [Act.put, List.setIfInBounds_toArray, List.set_cons_zero, List.set_cons_succ])
            have hzz : X4.heap.size < V9.heap.size := by omega
            have hzl : X4.heap.size ≤ X4.heap.size := by omega
            have HC0 : Hid (ArrB V9 SB 51 9 (gTold st)) := hb0
            have HC1 : Hid (V9.ownsRow U.heap.size 68 2 (Value.slice A9 st.trips.length c9) st.trips.length (tcl st.trips)) := hb1
            have hrz1 : ∀ i, (Value.slice A9 st.trips.length c9).ownBlock = some i → i ≠ X4.heap.size := fun i hi e => by have := (H4_1.out.lt i hi).2; omega
            have HC2 : Hid (V9.heap[wr.heap.size]? = some (.cells #[.int .u8 5, .int .i64 s, .int .i64 c, .int .i64 0, .int .i64 0, .int .u8 0] 31 (0, 0))) := hb2
            clear hb0 hb1 hb2
            generalize hzn : X4.heap.size = ZZ at *
            refine lane_alone rfl (by kernel_rfl) (by rfl) (fun KK hKK => ?_)
            refine wp_store_row _ _ _ rfl ZZ _ rfl rfl _ _ HZ.out (by exact pnotice_info) rfl (by simp [Value.oneCell']) ?_
            rw [row_boxed HZ.out]
            have HD0 : Hid (ArrB (boxed V9 ZZ #[.int .u8 5, .int .i64 s, .int .i64 c, .int .i64 0, .int .i64 0, .int .u8 x] 31) SB 51 9 (gTold st)) := HC0.out.kept (boxed_block_other (by omega))
            have HD1 : Hid ((boxed V9 ZZ #[.int .u8 5, .int .i64 s, .int .i64 c, .int .i64 0, .int .i64 0, .int .u8 x] 31).ownsRow U.heap.size 68 2 (Value.slice A9 st.trips.length c9) st.trips.length (tcl st.trips)) := own_kept HC1.out (fun i hi => boxed_block_other (hrz1 i hi))
            have HD2 : Hid ((boxed V9 ZZ #[.int .u8 5, .int .i64 s, .int .i64 c, .int .i64 0, .int .i64 0, .int .u8 x] 31).heap[wr.heap.size]? = some (.cells #[.int .u8 5, .int .i64 s, .int .i64 c, .int .i64 0, .int .i64 0, .int .u8 0] 31 (0, 0))) := boxed_old (by omega) HC2.out
            have HLy := Lib.hid (HLx.out.boxed (crt_thing (U.heap.size + 1) st (j + 1)) (g := ZZ) (cs := #[.int .u8 5, .int .i64 s, .int .i64 c, .int .i64 0, .int .i64 0, .int .u8 x]) (t := 31) (.inr rfl) (by omega))
            have hS4 : (fun w' : World => w'.cell? ⟨wr.heap.size, 0, none⟩ = some (.int .u8 5) ∧ w'.cell? ⟨wr.heap.size, 1, none⟩ = some (.int .i64 s) ∧ w'.cell? ⟨wr.heap.size, 2, none⟩ = some (.int .i64 c) ∧ w'.cell? ⟨wr.heap.size, 3, none⟩ = some (.int .i64 0) ∧ w'.cell? ⟨wr.heap.size, 4, none⟩ = some (.int .i64 0) ∧ w'.cell? ⟨wr.heap.size, 5, none⟩ = some (.int .u8 0) ∧ w'.cell? (a''.add j) = some (.int .u8 v)) (boxed V9 ZZ #[.int .u8 5, .int .i64 s, .int .i64 c, .int .i64 0, .int .i64 0, .int .u8 x] 31) := ⟨by rw [cell_of_row _ _ _ _ _ _ (show (boxed V9 ZZ #[.int .u8 5, .int .i64 s, .int .i64 c, .int .i64 0, .int .i64 0, .int .u8 x] 31).heap[_]? = _ from HD2.out)]; rfl, by rw [cell_of_row _ _ _ _ _ _ (show (boxed V9 ZZ #[.int .u8 5, .int .i64 s, .int .i64 c, .int .i64 0, .int .i64 0, .int .u8 x] 31).heap[_]? = _ from HD2.out)]; rfl, by rw [cell_of_row _ _ _ _ _ _ (show (boxed V9 ZZ #[.int .u8 5, .int .i64 s, .int .i64 c, .int .i64 0, .int .i64 0, .int .u8 x] 31).heap[_]? = _ from HD2.out)]; rfl, by rw [cell_of_row _ _ _ _ _ _ (show (boxed V9 ZZ #[.int .u8 5, .int .i64 s, .int .i64 c, .int .i64 0, .int .i64 0, .int .u8 x] 31).heap[_]? = _ from HD2.out)]; rfl, by rw [cell_of_row _ _ _ _ _ _ (show (boxed V9 ZZ #[.int .u8 5, .int .i64 s, .int .i64 c, .int .i64 0, .int .i64 0, .int .u8 x] 31).heap[_]? = _ from HD2.out)]; rfl, by rw [cell_of_row _ _ _ _ _ _ (show (boxed V9 ZZ #[.int .u8 5, .int .i64 s, .int .i64 c, .int .i64 0, .int .i64 0, .int .u8 x] 31).heap[_]? = _ from HD2.out)]; rfl, (World.cell?_of_block (w' := (boxed V9 ZZ #[.int .u8 5, .int .i64 s, .int .i64 c, .int .i64 0, .int .i64 0, .int .u8 x] 31)) (a := a''.add j) (by (try rw [ad_block]); exact (HLy.out.old).block _ haU'')).trans HV3.out⟩
            have HS4 := Lib.hid hS4
            refine hKK _ _ (by exact HS4.out) (fun _ => ?_)
            clear hKK KK hS4
            iterate 1 (refine lane_take (v := ?_) rfl (by kernel_rfl) (by kernel_rfl) (by rfl) ?_ (by exact HS4.out) ?_; rotate_left; (focus (intro w9 hSw; obtain ⟨x0, x1, x2, x3, x4, x5, x6⟩ := hSw; (try go_simp); try (with_reducible rfl))); simp only [Act.put, List.setIfInBounds_toArray, List.set_cons_zero, List.set_cons_succ])
            refine lane_end (by kernel_rfl) ?_
            refine ⟨rfl, ZZ, rfl, (HLy.out.less (fun i hi => by rcases hi with h0 | h1 | h2 | h3; exact .inl (.inl h0); exact .inl (.inr (.inl h1)); exact .inl (.inr (.inr h2)); exact .inr h3)), HD0.out, HD1.out, HD2.out, boxed_at hzz, by rw [boxed_size]; omega, by rw [boxed_size]; omega, by rw [boxed_size]; omega, by omega, by omega, by rw [boxed_size]; omega, by omega, by omega⟩
        rintro Zh X5 ⟨HL5, H5_0, H5_1, H5_2, HZ9, ls5, lc9_0, lc9_1, ld9_0, ld9_1, le9, lf9, lt5⟩
        have H5_3 := HZ9
        clear HZ9
        have c2_0 : X5.cell? ⟨wr.heap.size, 0, none⟩ = some (.int .u8 5) := by rw [cell_of_row _ _ _ _ _ _ H5_2.out]; rfl
        have c2_1 : X5.cell? ⟨wr.heap.size, 1, none⟩ = some (.int .i64 s) := by rw [cell_of_row _ _ _ _ _ _ H5_2.out]; rfl
        have c2_2 : X5.cell? ⟨wr.heap.size, 2, none⟩ = some (.int .i64 c) := by rw [cell_of_row _ _ _ _ _ _ H5_2.out]; rfl
        have c2_3 : X5.cell? ⟨wr.heap.size, 3, none⟩ = some (.int .i64 0) := by rw [cell_of_row _ _ _ _ _ _ H5_2.out]; rfl
        have c2_4 : X5.cell? ⟨wr.heap.size, 4, none⟩ = some (.int .i64 0) := by rw [cell_of_row _ _ _ _ _ _ H5_2.out]; rfl
        have c2_5 : X5.cell? ⟨wr.heap.size, 5, none⟩ = some (.int .u8 0) := by rw [cell_of_row _ _ _ _ _ _ H5_2.out]; rfl
        have z1 : X5.cell? ⟨SB, s * 3 + c, none⟩ = some (.int .u8 x) := by rw [H5_0.out.cell (by omega), gTold_at c3]; exact congrArg (fun u => some (Value.int .u8 u)) (by rw [HAN.out]; rfl)
        have HZ1 := Lib.hid z1
        clear z1
        go_wp2_with (fail)
        have HS0 : Hid ((fun w' : World => w'.cell? ⟨wr.heap.size, 1, none⟩ = some (.int .i64 s) ∧ w'.cell? ⟨wr.heap.size, 2, none⟩ = some (.int .i64 c) ∧ w'.cell? (⟨SB, s * 3 + c, none⟩) = some (.int .u8 x)) X5.drew) := ⟨by rw [cell_of_row _ _ _ _ _ _ (show X5.drew.heap[_]? = _ from H5_2.out)]; rfl, by rw [cell_of_row _ _ _ _ _ _ (show X5.drew.heap[_]? = _ from H5_2.out)]; rfl, HZ1.out⟩
        refine lane_start (ord := [0, 1, 2, 3, 4, 5, 6, 7, 8]) (S := (fun w' : World => w'.cell? ⟨wr.heap.size, 1, none⟩ = some (.int .i64 s) ∧ w'.cell? ⟨wr.heap.size, 2, none⟩ = some (.int .i64 c) ∧ w'.cell? (⟨SB, s * 3 + c, none⟩) = some (.int .u8 x))) rfl (by kernel_rfl) (by exact HS0.out) (fun _ => ?_)
        iterate 8 (refine lane_take (v := ?_) rfl (by kernel_rfl) (by kernel_rfl) (by rfl) ?_ (by exact HS0.out) ?_; rotate_left; (focus (intro w9 hSw; obtain ⟨x0, x1, x2⟩ := hSw; (try go_simp); try (with_reducible rfl))); simp only [Act.put, List.setIfInBounds_toArray, List.set_cons_zero, List.set_cons_succ])
        refine lane_alone rfl (by kernel_rfl) (by rfl) (fun KK hKK => ?_)
        have hA9 : X5.drew.heap[wr.heap.size]? = some (.cells #[.int .u8 5, .int .i64 s, .int .i64 c, .int .i64 0, .int .i64 0, .int .u8 0] 31 (0, 0)) := H5_2.out
        have hA8 : X5.drew.cell? ⟨wr.heap.size, 5, none⟩ = some (.int .u8 0) := by rw [cell_of_row _ _ _ _ _ _ hA9]; rfl
        refine wp_of_skip (exec_store_one rfl (by rfl) rfl (by kernel_rfl) rfl hA8 (by rw [World.frozen?, hA9]; simp)) ?_
        clear hA8
        have hS9 : (fun w' : World => w'.cell? ⟨wr.heap.size, 1, none⟩ = some (.int .i64 s) ∧ w'.cell? ⟨wr.heap.size, 2, none⟩ = some (.int .i64 c) ∧ w'.cell? (⟨SB, s * 3 + c, none⟩) = some (.int .u8 x)) (X5.drew.setCell ⟨wr.heap.size, 5, none⟩ (.int .u8 x)) := ⟨by rw [cell_of_row _ _ _ _ _ _ (blk_set hA9 (5) _)]; rfl, by rw [cell_of_row _ _ _ _ _ _ (blk_set hA9 (5) _)]; rfl, (World.cell?_of_block (w' := (X5.drew.setCell ⟨wr.heap.size, 5, none⟩ (.int .u8 x))) (a := ⟨SB, s * 3 + c, none⟩) (setCell_other (by show (Addr.block ⟨SB, s * 3 + c, none⟩) ≠ wr.heap.size; show SB ≠ wr.heap.size; omega))).trans HZ1.out⟩
        refine hKK _ _ (by exact hS9) (fun _ => ?_)
        clear hKK KK hA9 HS0 hS9
        refine lane_end (by kernel_rfl) ?_
        change Exit.then _ _ Exit.normal _ (X5.drew.setCell ⟨wr.heap.size, 5, none⟩ (.int .u8 x))
        have hK : ∀ i, i < X5.heap.size → X5.drew.heap[i]? = X5.heap[i]? := fun i hi => rfl
        have H6_0 : Hid (ArrB X5.drew SB 51 9 (gTold st)) := H5_0.out.kept (hK SB (by omega))
        have H6_1 : Hid (X5.drew.ownsRow U.heap.size 68 2 (Value.slice A9 st.trips.length c9) st.trips.length (tcl st.trips)) := own_kept H5_1.out (fun i hi => hK i (H5_1.out.lt i hi).2)
        have H6_2 : Hid (X5.drew.heap[wr.heap.size]? = some (.cells #[.int .u8 5, .int .i64 s, .int .i64 c, .int .i64 0, .int .i64 0, .int .u8 0] 31 (0, 0))) := (hK wr.heap.size (by omega)).trans H5_2.out
        have H6_3 : Hid (X5.drew.heap[Zh]? = some (.cells #[.int .u8 5, .int .i64 s, .int .i64 c, .int .i64 0, .int .i64 0, .int .u8 x] 31 (0, 0))) := (hK Zh (by omega)).trans H5_3.out
        have HL6 : Hid (LiveO (CrtB (U.heap.size + 1) st (j + 1)) U (fun (i : Nat) => i = SB ∨ (Value.slice A9 st.trips.length c9).ownBlock = some i ∨ i = wr.heap.size ∨ i = Zh) X5.drew) := HL5.out.drew (crt_thing (U.heap.size + 1) st (j + 1))
        have : SB < X5.drew.heap.size := by show _ < X5.heap.size; first | omega | (rw [World.size_alloc]; omega) | (rw [setCell_size]; omega)
        have : wr.heap.size < X5.drew.heap.size := by show _ < X5.heap.size; first | omega | (rw [World.size_alloc]; omega) | (rw [setCell_size]; omega)
        have : Zh < X5.drew.heap.size := by show _ < X5.heap.size; first | omega | (rw [World.size_alloc]; omega) | (rw [setCell_size]; omega)
        have ls6 : U.heap.size ≤ X5.drew.heap.size := by show _ ≤ X5.heap.size; first | omega | (rw [World.size_alloc]; omega) | (rw [setCell_size]; omega)
        have lt6 : X5.heap.size ≤ X5.drew.heap.size := by show _ ≤ X5.heap.size; first | omega | (rw [World.size_alloc]; omega) | (rw [setCell_size]; omega)
        have lu6 : X5.drew.heap.size ≤ X5.heap.size := by show X5.heap.size ≤ _; omega
        clear hK HL5 H5_0 H5_1 H5_2 H5_3 c2_0 c2_1 c2_2 c2_3 c2_4 c2_5
        generalize X5.drew = X6 at *
        have hK : ∀ i, i < X6.heap.size → i ≠ wr.heap.size → (X6.setCell ⟨wr.heap.size, 5, none⟩ (.int .u8 x)).heap[i]? = X6.heap[i]? := fun i _ hi => setCell_other hi
        have H7_0 : Hid (ArrB (X6.setCell ⟨wr.heap.size, 5, none⟩ (.int .u8 x)) SB 51 9 (gTold st)) := H6_0.out.kept (hK SB (by omega) (by omega))
        have H7_1 : Hid ((X6.setCell ⟨wr.heap.size, 5, none⟩ (.int .u8 x)).ownsRow U.heap.size 68 2 (Value.slice A9 st.trips.length c9) st.trips.length (tcl st.trips)) := own_kept H6_1.out (fun i hi => hK i (H6_1.out.lt i hi).2 (fun e => own_ne H6_1.out H6_2.out (by decide) (hi.trans (by rw [e]))))
        have H7_2 : Hid ((X6.setCell ⟨wr.heap.size, 5, none⟩ (.int .u8 x)).heap[wr.heap.size]? = some (.cells #[.int .u8 5, .int .i64 s, .int .i64 c, .int .i64 0, .int .i64 0, .int .u8 x] 31 (0, 0))) := blk_set H6_2.out (5) _
        have H7_3 : Hid ((X6.setCell ⟨wr.heap.size, 5, none⟩ (.int .u8 x)).heap[Zh]? = some (.cells #[.int .u8 5, .int .i64 s, .int .i64 c, .int .i64 0, .int .i64 0, .int .u8 x] 31 (0, 0))) := (hK Zh (by omega) (by omega)).trans H6_3.out
        have HL7 : Hid (LiveO (CrtB (U.heap.size + 1) st (j + 1)) U (fun (i : Nat) => i = SB ∨ (Value.slice A9 st.trips.length c9).ownBlock = some i ∨ i = wr.heap.size ∨ i = Zh) (X6.setCell ⟨wr.heap.size, 5, none⟩ (.int .u8 x))) := HL6.out.setCell (crt_thing (U.heap.size + 1) st (j + 1)) (p := ⟨wr.heap.size, 5, none⟩) (.inr (.inr (.inl rfl))) (by show U.heap.size ≤ wr.heap.size; omega)
        have : SB < (X6.setCell ⟨wr.heap.size, 5, none⟩ (.int .u8 x)).heap.size := by first | omega | (rw [World.size_alloc]; omega) | (rw [setCell_size]; omega)
        have : wr.heap.size < (X6.setCell ⟨wr.heap.size, 5, none⟩ (.int .u8 x)).heap.size := by first | omega | (rw [World.size_alloc]; omega) | (rw [setCell_size]; omega)
        have : Zh < (X6.setCell ⟨wr.heap.size, 5, none⟩ (.int .u8 x)).heap.size := by first | omega | (rw [World.size_alloc]; omega) | (rw [setCell_size]; omega)
        have ls7 : U.heap.size ≤ (X6.setCell ⟨wr.heap.size, 5, none⟩ (.int .u8 x)).heap.size := by first | omega | (rw [World.size_alloc]; omega) | (rw [setCell_size]; omega)
        have lt7 : X6.heap.size ≤ (X6.setCell ⟨wr.heap.size, 5, none⟩ (.int .u8 x)).heap.size := by first | omega | (rw [World.size_alloc]; omega) | (rw [setCell_size]; omega)
        clear hK HL6 H6_0 H6_1 H6_2 H6_3
        generalize (X6.setCell ⟨wr.heap.size, 5, none⟩ (.int .u8 x)) = X7 at *
        have c2_0 : X7.cell? ⟨wr.heap.size, 0, none⟩ = some (.int .u8 5) := by rw [cell_of_row _ _ _ _ _ _ H7_2.out]; rfl
        have c2_1 : X7.cell? ⟨wr.heap.size, 1, none⟩ = some (.int .i64 s) := by rw [cell_of_row _ _ _ _ _ _ H7_2.out]; rfl
        have c2_2 : X7.cell? ⟨wr.heap.size, 2, none⟩ = some (.int .i64 c) := by rw [cell_of_row _ _ _ _ _ _ H7_2.out]; rfl
        have c2_3 : X7.cell? ⟨wr.heap.size, 3, none⟩ = some (.int .i64 0) := by rw [cell_of_row _ _ _ _ _ _ H7_2.out]; rfl
        have c2_4 : X7.cell? ⟨wr.heap.size, 4, none⟩ = some (.int .i64 0) := by rw [cell_of_row _ _ _ _ _ _ H7_2.out]; rfl
        have c2_5 : X7.cell? ⟨wr.heap.size, 5, none⟩ = some (.int .u8 x) := by rw [cell_of_row _ _ _ _ _ _ H7_2.out]; rfl
        have c3_0 : X7.cell? ⟨Zh, 0, none⟩ = some (.int .u8 5) := by rw [cell_of_row _ _ _ _ _ _ H7_3.out]; rfl
        have c3_1 : X7.cell? ⟨Zh, 1, none⟩ = some (.int .i64 s) := by rw [cell_of_row _ _ _ _ _ _ H7_3.out]; rfl
        have c3_2 : X7.cell? ⟨Zh, 2, none⟩ = some (.int .i64 c) := by rw [cell_of_row _ _ _ _ _ _ H7_3.out]; rfl
        have c3_3 : X7.cell? ⟨Zh, 3, none⟩ = some (.int .i64 0) := by rw [cell_of_row _ _ _ _ _ _ H7_3.out]; rfl
        have c3_4 : X7.cell? ⟨Zh, 4, none⟩ = some (.int .i64 0) := by rw [cell_of_row _ _ _ _ _ _ H7_3.out]; rfl
        have c3_5 : X7.cell? ⟨Zh, 5, none⟩ = some (.int .u8 x) := by rw [cell_of_row _ _ _ _ _ _ H7_3.out]; rfl
        go_wp2
        go_roundw
        case rel => exact ⟨j + 1, st, A9, c9, by omega, by go_num, rfl, HF, by omega, (HL7.out.less (fun i hi => by rcases hi with rfl | hi; exact .inl rfl; exact .inr (.inl (by first | exact hi | (rw [h9] at hi; exact hi) | (have h9 := hi; rw [← HT] at h9; exact h9))))).imp (fun F hF => crtB_mono hF (by omega)), H7_0, H7_1⟩
        case measure => simp [intOf]; omega
      | none =>
        have z0 : X3.cell? ⟨SB, s * 3 + c, none⟩ = some (.int .u8 0) := by rw [H3_0.out.cell (by omega), gTold_at c3, hsd]; rfl
        have HSD := Lib.hid hsd
        clear hsd
        go_quiet (fail)
        have hK : ∀ i, i < X3.heap.size → (X3.drewN nq).heap[i]? = X3.heap[i]? := fun i hi => rfl
        have H4_0 : Hid (ArrB (X3.drewN nq) SB 51 9 (gTold st)) := H3_0.out.kept (hK SB (by omega))
        have H4_1 : Hid ((X3.drewN nq).ownsRow U.heap.size 68 2 (Value.slice A9 st.trips.length c9) st.trips.length (tcl st.trips)) := own_kept H3_1.out (fun i hi => hK i (H3_1.out.lt i hi).2)
        have H4_2 : Hid ((X3.drewN nq).heap[wr.heap.size]? = some (.cells #[.int .u8 5, .int .i64 s, .int .i64 c, .int .i64 0, .int .i64 0, .int .u8 0] 31 (0, 0))) := (hK wr.heap.size (by omega)).trans H3_2.out
        have HL4 : Hid (LiveO (CrtB (U.heap.size + 1) st j) U (fun (i : Nat) => i = SB ∨ (Value.slice A9 st.trips.length c9).ownBlock = some i ∨ i = wr.heap.size) (X3.drewN nq)) := HL3.out.below (crt_thing (U.heap.size + 1) st j) (Below.drewN' (Below.refl _ _) _)
        have : SB < (X3.drewN nq).heap.size := by show _ < X3.heap.size; first | omega | (rw [World.size_alloc]; omega) | (rw [setCell_size]; omega)
        have : wr.heap.size < (X3.drewN nq).heap.size := by show _ < X3.heap.size; first | omega | (rw [World.size_alloc]; omega) | (rw [setCell_size]; omega)
        have ls4 : U.heap.size ≤ (X3.drewN nq).heap.size := by show _ ≤ X3.heap.size; first | omega | (rw [World.size_alloc]; omega) | (rw [setCell_size]; omega)
        have lt4 : X3.heap.size ≤ (X3.drewN nq).heap.size := by show _ ≤ X3.heap.size; first | omega | (rw [World.size_alloc]; omega) | (rw [setCell_size]; omega)
        clear hK HL3 H3_0 H3_1 H3_2 c2_0 c2_1 c2_2 c2_3 c2_4 c2_5 z0
        generalize (X3.drewN nq) = X4 at *
        go_wp2_with (fail)
        have HS0 : Hid ((fun w' : World => w'.cell? ⟨wr.heap.size, 1, none⟩ = some (.int .i64 s) ∧ w'.cell? ⟨wr.heap.size, 2, none⟩ = some (.int .i64 c)) X4.drew) := ⟨by rw [cell_of_row _ _ _ _ _ _ (show X4.drew.heap[_]? = _ from H4_2.out)]; rfl, by rw [cell_of_row _ _ _ _ _ _ (show X4.drew.heap[_]? = _ from H4_2.out)]; rfl⟩
        refine lane_start (ord := [0, 1, 2, 3, 4, 5, 6]) (S := (fun w' : World => w'.cell? ⟨wr.heap.size, 1, none⟩ = some (.int .i64 s) ∧ w'.cell? ⟨wr.heap.size, 2, none⟩ = some (.int .i64 c))) rfl (by kernel_rfl) (by exact HS0.out) (fun _ => ?_)
        iterate 6 (refine lane_take (v := ?_) rfl (by kernel_rfl) (by kernel_rfl) (by rfl) ?_ (by exact HS0.out) ?_; rotate_left; (focus (intro w9 hSw; obtain ⟨x0, x1⟩ := hSw; (try go_simp); try (with_reducible rfl))); simp only [Act.put, List.setIfInBounds_toArray, List.set_cons_zero, List.set_cons_succ])
        refine lane_alone rfl (by kernel_rfl) (by rfl) (fun KK hKK => ?_)
        have hA9 : ArrB X4.drew SB 51 9 (gTold st) := H4_0.out
        refine wp_of_skip (exec_store_one rfl (by rfl) rfl (by kernel_rfl) rfl (hA9.cell (i := s * 3 + c) (by omega)) (hA9.frozen _)) ?_
        have hS9 : (fun w' : World => w'.cell? ⟨wr.heap.size, 1, none⟩ = some (.int .i64 s) ∧ w'.cell? ⟨wr.heap.size, 2, none⟩ = some (.int .i64 c)) (X4.drew.setCell ⟨SB, s * 3 + c, none⟩ (.int .u8 3)) := ⟨by rw [cell_of_row _ _ _ _ _ _ (show (X4.drew.setCell ⟨SB, s * 3 + c, none⟩ (.int .u8 3)).heap[_]? = _ from (setCell_other (by omega)).trans H4_2.out)]; rfl, by rw [cell_of_row _ _ _ _ _ _ (show (X4.drew.setCell ⟨SB, s * 3 + c, none⟩ (.int .u8 3)).heap[_]? = _ from (setCell_other (by omega)).trans H4_2.out)]; rfl⟩
        refine hKK _ _ (by exact hS9) (fun _ => ?_)
        clear hKK KK hA9 HS0 hS9
        refine lane_end (by kernel_rfl) ?_
        change Exit.then _ _ Exit.normal _ (X4.drew.setCell ⟨SB, s * 3 + c, none⟩ (.int .u8 3))
        have hK : ∀ i, i < X4.heap.size → X4.drew.heap[i]? = X4.heap[i]? := fun i hi => rfl
        have H5_0 : Hid (ArrB X4.drew SB 51 9 (gTold st)) := H4_0.out.kept (hK SB (by omega))
        have H5_1 : Hid (X4.drew.ownsRow U.heap.size 68 2 (Value.slice A9 st.trips.length c9) st.trips.length (tcl st.trips)) := own_kept H4_1.out (fun i hi => hK i (H4_1.out.lt i hi).2)
        have H5_2 : Hid (X4.drew.heap[wr.heap.size]? = some (.cells #[.int .u8 5, .int .i64 s, .int .i64 c, .int .i64 0, .int .i64 0, .int .u8 0] 31 (0, 0))) := (hK wr.heap.size (by omega)).trans H4_2.out
        have HL5 : Hid (LiveO (CrtB (U.heap.size + 1) st j) U (fun (i : Nat) => i = SB ∨ (Value.slice A9 st.trips.length c9).ownBlock = some i ∨ i = wr.heap.size) X4.drew) := HL4.out.drew (crt_thing (U.heap.size + 1) st j)
        have : SB < X4.drew.heap.size := by show _ < X4.heap.size; first | omega | (rw [World.size_alloc]; omega) | (rw [setCell_size]; omega)
        have : wr.heap.size < X4.drew.heap.size := by show _ < X4.heap.size; first | omega | (rw [World.size_alloc]; omega) | (rw [setCell_size]; omega)
        have ls5 : U.heap.size ≤ X4.drew.heap.size := by show _ ≤ X4.heap.size; first | omega | (rw [World.size_alloc]; omega) | (rw [setCell_size]; omega)
        have lt5 : X4.heap.size ≤ X4.drew.heap.size := by show _ ≤ X4.heap.size; first | omega | (rw [World.size_alloc]; omega) | (rw [setCell_size]; omega)
        have lu5 : X4.drew.heap.size ≤ X4.heap.size := by show X4.heap.size ≤ _; omega
        clear hK HL4 H4_0 H4_1 H4_2
        generalize X4.drew = X5 at *
        have hK : ∀ i, i < X5.heap.size → i ≠ SB → (X5.setCell ⟨SB, s * 3 + c, none⟩ (.int .u8 3)).heap[i]? = X5.heap[i]? := fun i _ hi => setCell_other hi
        have H6_0 : Hid (ArrB (X5.setCell ⟨SB, s * 3 + c, none⟩ (.int .u8 3)) SB 51 9 (fun i => if i = s * 3 + c then .int .u8 3 else gTold st i)) := (H5_0.out.set (s * 3 + c) _).congr (fun i _ => rfl)
        have H6_1 : Hid ((X5.setCell ⟨SB, s * 3 + c, none⟩ (.int .u8 3)).ownsRow U.heap.size 68 2 (Value.slice A9 st.trips.length c9) st.trips.length (tcl st.trips)) := own_kept H5_1.out (fun i hi => hK i (H5_1.out.lt i hi).2 (fun e => own_ne_arr H5_1.out H5_0.out (by decide) (hi.trans (by rw [e]))))
        have H6_2 : Hid ((X5.setCell ⟨SB, s * 3 + c, none⟩ (.int .u8 3)).heap[wr.heap.size]? = some (.cells #[.int .u8 5, .int .i64 s, .int .i64 c, .int .i64 0, .int .i64 0, .int .u8 0] 31 (0, 0))) := (hK wr.heap.size (by omega) (by omega)).trans H5_2.out
        have HL6 : Hid (LiveO (CrtB (U.heap.size + 1) st j) U (fun (i : Nat) => i = SB ∨ (Value.slice A9 st.trips.length c9).ownBlock = some i ∨ i = wr.heap.size) (X5.setCell ⟨SB, s * 3 + c, none⟩ (.int .u8 3))) := HL5.out.setCell (crt_thing (U.heap.size + 1) st j) (p := ⟨SB, s * 3 + c, none⟩) (.inl rfl) (by show U.heap.size ≤ SB; omega)
        have : SB < (X5.setCell ⟨SB, s * 3 + c, none⟩ (.int .u8 3)).heap.size := by first | omega | (rw [World.size_alloc]; omega) | (rw [setCell_size]; omega)
        have : wr.heap.size < (X5.setCell ⟨SB, s * 3 + c, none⟩ (.int .u8 3)).heap.size := by first | omega | (rw [World.size_alloc]; omega) | (rw [setCell_size]; omega)
        have ls6 : U.heap.size ≤ (X5.setCell ⟨SB, s * 3 + c, none⟩ (.int .u8 3)).heap.size := by first | omega | (rw [World.size_alloc]; omega) | (rw [setCell_size]; omega)
        have lt6 : X5.heap.size ≤ (X5.setCell ⟨SB, s * 3 + c, none⟩ (.int .u8 3)).heap.size := by first | omega | (rw [World.size_alloc]; omega) | (rw [setCell_size]; omega)
        clear hK HL5 H5_0 H5_1 H5_2
        generalize (X5.setCell ⟨SB, s * 3 + c, none⟩ (.int .u8 3)) = X6 at *
        by_cases hv1 : v = 1
        · subst hv1
          have c2_0 : X6.cell? ⟨wr.heap.size, 0, none⟩ = some (.int .u8 5) := by rw [cell_of_row _ _ _ _ _ _ H6_2.out]; rfl
          have c2_1 : X6.cell? ⟨wr.heap.size, 1, none⟩ = some (.int .i64 s) := by rw [cell_of_row _ _ _ _ _ _ H6_2.out]; rfl
          have c2_2 : X6.cell? ⟨wr.heap.size, 2, none⟩ = some (.int .i64 c) := by rw [cell_of_row _ _ _ _ _ _ H6_2.out]; rfl
          have c2_3 : X6.cell? ⟨wr.heap.size, 3, none⟩ = some (.int .i64 0) := by rw [cell_of_row _ _ _ _ _ _ H6_2.out]; rfl
          have c2_4 : X6.cell? ⟨wr.heap.size, 4, none⟩ = some (.int .i64 0) := by rw [cell_of_row _ _ _ _ _ _ H6_2.out]; rfl
          have c2_5 : X6.cell? ⟨wr.heap.size, 5, none⟩ = some (.int .u8 0) := by rw [cell_of_row _ _ _ _ _ _ H6_2.out]; rfl
          have z3 : X6.cell? (a''.add j) = some (.int .u8 1) := (World.cell?_of_block (by rw [ad_block]; exact HL6.out.old.block _ haU'')).trans HV3.out
          go_wp2_with (fail)
          have HS0 : Hid ((fun w' : World => w'.cell? ⟨wr.heap.size, 1, none⟩ = some (.int .i64 s) ∧ w'.cell? ⟨wr.heap.size, 2, none⟩ = some (.int .i64 c)) X6.drew) := ⟨by rw [cell_of_row _ _ _ _ _ _ (show X6.drew.heap[_]? = _ from H6_2.out)]; rfl, by rw [cell_of_row _ _ _ _ _ _ (show X6.drew.heap[_]? = _ from H6_2.out)]; rfl⟩
          refine lane_start (ord := [0, 1, 2, 3, 4, 5, 6]) (S := (fun w' : World => w'.cell? ⟨wr.heap.size, 1, none⟩ = some (.int .i64 s) ∧ w'.cell? ⟨wr.heap.size, 2, none⟩ = some (.int .i64 c))) rfl (by kernel_rfl) (by exact HS0.out) (fun _ => ?_)
          iterate 6 (refine lane_take (v := ?_) rfl (by kernel_rfl) (by kernel_rfl) (by rfl) ?_ (by exact HS0.out) ?_; rotate_left; (focus (intro w9 hSw; obtain ⟨x0, x1⟩ := hSw; (try go_simp); try (with_reducible rfl))); simp only [Act.put, List.setIfInBounds_toArray, List.set_cons_zero, List.set_cons_succ])
          refine lane_alone rfl (by kernel_rfl) (by rfl) (fun KK hKK => ?_)
          have hA9 : ArrB X6.drew SB 51 9 (fun i => if i = s * 3 + c then .int .u8 3 else gTold st i) := H6_0.out
          refine wp_of_skip (exec_store_one rfl (by rfl) rfl (by kernel_rfl) rfl (hA9.cell (i := s * 3 + c) (by omega)) (hA9.frozen _)) ?_
          have hS9 : (fun w' : World => w'.cell? ⟨wr.heap.size, 1, none⟩ = some (.int .i64 s) ∧ w'.cell? ⟨wr.heap.size, 2, none⟩ = some (.int .i64 c)) (X6.drew.setCell ⟨SB, s * 3 + c, none⟩ (.int .u8 1)) := ⟨by rw [cell_of_row _ _ _ _ _ _ (show (X6.drew.setCell ⟨SB, s * 3 + c, none⟩ (.int .u8 1)).heap[_]? = _ from (setCell_other (by omega)).trans H6_2.out)]; rfl, by rw [cell_of_row _ _ _ _ _ _ (show (X6.drew.setCell ⟨SB, s * 3 + c, none⟩ (.int .u8 1)).heap[_]? = _ from (setCell_other (by omega)).trans H6_2.out)]; rfl⟩
          refine hKK _ _ (by exact hS9) (fun _ => ?_)
          clear hKK KK hA9 HS0 hS9
          refine lane_end (by kernel_rfl) ?_
          change Exit.then _ _ Exit.normal _ (X6.drew.setCell ⟨SB, s * 3 + c, none⟩ (.int .u8 1))
          have hK : ∀ i, i < X6.heap.size → X6.drew.heap[i]? = X6.heap[i]? := fun i hi => rfl
          have H7_0 : Hid (ArrB X6.drew SB 51 9 (fun i => if i = s * 3 + c then .int .u8 3 else gTold st i)) := H6_0.out.kept (hK SB (by omega))
          have H7_1 : Hid (X6.drew.ownsRow U.heap.size 68 2 (Value.slice A9 st.trips.length c9) st.trips.length (tcl st.trips)) := own_kept H6_1.out (fun i hi => hK i (H6_1.out.lt i hi).2)
          have H7_2 : Hid (X6.drew.heap[wr.heap.size]? = some (.cells #[.int .u8 5, .int .i64 s, .int .i64 c, .int .i64 0, .int .i64 0, .int .u8 0] 31 (0, 0))) := (hK wr.heap.size (by omega)).trans H6_2.out
          have HL7 : Hid (LiveO (CrtB (U.heap.size + 1) st j) U (fun (i : Nat) => i = SB ∨ (Value.slice A9 st.trips.length c9).ownBlock = some i ∨ i = wr.heap.size) X6.drew) := HL6.out.drew (crt_thing (U.heap.size + 1) st j)
          have : SB < X6.drew.heap.size := by show _ < X6.heap.size; first | omega | (rw [World.size_alloc]; omega) | (rw [setCell_size]; omega)
          have : wr.heap.size < X6.drew.heap.size := by show _ < X6.heap.size; first | omega | (rw [World.size_alloc]; omega) | (rw [setCell_size]; omega)
          have ls7 : U.heap.size ≤ X6.drew.heap.size := by show _ ≤ X6.heap.size; first | omega | (rw [World.size_alloc]; omega) | (rw [setCell_size]; omega)
          have lt7 : X6.heap.size ≤ X6.drew.heap.size := by show _ ≤ X6.heap.size; first | omega | (rw [World.size_alloc]; omega) | (rw [setCell_size]; omega)
          have lu7 : X6.drew.heap.size ≤ X6.heap.size := by show X6.heap.size ≤ _; omega
          clear hK HL6 H6_0 H6_1 H6_2 c2_0 c2_1 c2_2 c2_3 c2_4 c2_5 z3
          generalize X6.drew = X7 at *
          have hK : ∀ i, i < X7.heap.size → i ≠ SB → (X7.setCell ⟨SB, s * 3 + c, none⟩ (.int .u8 1)).heap[i]? = X7.heap[i]? := fun i _ hi => setCell_other hi
          have H8_0 : Hid (ArrB (X7.setCell ⟨SB, s * 3 + c, none⟩ (.int .u8 1)) SB 51 9 (gTold (st.ship ((s : Int), (c : Int)) 1))) := (H7_0.out.set (s * 3 + c) _).congr (fun i _ => by rw [← told_ship c3 HSD.out i]; by_cases e9 : i = s * 3 + c <;> simp [e9])
          have H8_1 : Hid ((X7.setCell ⟨SB, s * 3 + c, none⟩ (.int .u8 1)).ownsRow U.heap.size 68 2 (Value.slice A9 st.trips.length c9) st.trips.length (tcl st.trips)) := own_kept H7_1.out (fun i hi => hK i (H7_1.out.lt i hi).2 (fun e => own_ne_arr H7_1.out H7_0.out (by decide) (hi.trans (by rw [e]))))
          have H8_2 : Hid ((X7.setCell ⟨SB, s * 3 + c, none⟩ (.int .u8 1)).heap[wr.heap.size]? = some (.cells #[.int .u8 5, .int .i64 s, .int .i64 c, .int .i64 0, .int .i64 0, .int .u8 0] 31 (0, 0))) := (hK wr.heap.size (by omega) (by omega)).trans H7_2.out
          have HL8 : Hid (LiveO (CrtB (U.heap.size + 1) st j) U (fun (i : Nat) => i = SB ∨ (Value.slice A9 st.trips.length c9).ownBlock = some i ∨ i = wr.heap.size) (X7.setCell ⟨SB, s * 3 + c, none⟩ (.int .u8 1))) := HL7.out.setCell (crt_thing (U.heap.size + 1) st j) (p := ⟨SB, s * 3 + c, none⟩) (.inl rfl) (by show U.heap.size ≤ SB; omega)
          have : SB < (X7.setCell ⟨SB, s * 3 + c, none⟩ (.int .u8 1)).heap.size := by first | omega | (rw [World.size_alloc]; omega) | (rw [setCell_size]; omega)
          have : wr.heap.size < (X7.setCell ⟨SB, s * 3 + c, none⟩ (.int .u8 1)).heap.size := by first | omega | (rw [World.size_alloc]; omega) | (rw [setCell_size]; omega)
          have ls8 : U.heap.size ≤ (X7.setCell ⟨SB, s * 3 + c, none⟩ (.int .u8 1)).heap.size := by first | omega | (rw [World.size_alloc]; omega) | (rw [setCell_size]; omega)
          have lt8 : X7.heap.size ≤ (X7.setCell ⟨SB, s * 3 + c, none⟩ (.int .u8 1)).heap.size := by first | omega | (rw [World.size_alloc]; omega) | (rw [setCell_size]; omega)
          clear hK HL7 H7_0 H7_1 H7_2
          generalize (X7.setCell ⟨SB, s * 3 + c, none⟩ (.int .u8 1)) = X8 at *
          have c2_0 : X8.cell? ⟨wr.heap.size, 0, none⟩ = some (.int .u8 5) := by rw [cell_of_row _ _ _ _ _ _ H8_2.out]; rfl
          have c2_1 : X8.cell? ⟨wr.heap.size, 1, none⟩ = some (.int .i64 s) := by rw [cell_of_row _ _ _ _ _ _ H8_2.out]; rfl
          have c2_2 : X8.cell? ⟨wr.heap.size, 2, none⟩ = some (.int .i64 c) := by rw [cell_of_row _ _ _ _ _ _ H8_2.out]; rfl
          have c2_3 : X8.cell? ⟨wr.heap.size, 3, none⟩ = some (.int .i64 0) := by rw [cell_of_row _ _ _ _ _ _ H8_2.out]; rfl
          have c2_4 : X8.cell? ⟨wr.heap.size, 4, none⟩ = some (.int .i64 0) := by rw [cell_of_row _ _ _ _ _ _ H8_2.out]; rfl
          have c2_5 : X8.cell? ⟨wr.heap.size, 5, none⟩ = some (.int .u8 0) := by rw [cell_of_row _ _ _ _ _ _ H8_2.out]; rfl
          obtain ⟨it9, hit, hz0, hz1, hz2⟩ := info_parts trip_info
          go_wp2_with (at_builtin; refine wpList_append_own_at _ rfl _ _ 66 rfl U.heap.size 68 it9 _ 2 16 Try.underlying66 hit hz0 hz1 hz2 rfl (by decide) _ _ _ rfl (show (X8.alloc (.cells #[.int .i64 s, .int .i64 c] 68)).ownsRow _ _ _ _ _ _ from own_kept H8_1.out fun i hi => alloc_block_old (H8_1.out.lt i hi).2) ⟨X8.heap.size, 0, none⟩ 1 1 (tcl [((s : Int), (c : Int))]) rfl rfl (fun j u hu => by rw [ad_head, cell_of_row _ _ _ _ _ (0, 0) alloc_block]; simpa [tcl] using hu) (tcl_one _) (by unfold maxLen; omega) (by omega) (by rw [World.size_alloc]; omega) ?_; intro v9 X9 ho9 hg9 hn9 hat9; obtain ⟨A10, c10, rfl, hnc9, hcm9⟩ := own_form ho9)
          have hsz9 : X8.heap.size ≤ X9.heap.size := by have := hg9.size; rw [World.size_alloc] at this; omega
          have hK : ∀ i, i < X8.heap.size → (Value.slice A9 st.trips.length c9).ownBlock ≠ some i → X9.heap[i]? = X8.heap[i]? := fun i hi hne => (hg9.block i (by rw [World.size_alloc]; omega) fun e => hne e.symm).trans (alloc_block_old hi)
          have hE9 : X8.heap.size ≤ (X8.alloc (.cells #[.int .i64 s, .int .i64 c] 68)).heap.size := by rw [World.size_alloc]; omega
          have H9_0 : Hid (ArrB X9 SB 51 9 (gTold (st.ship ((s : Int), (c : Int)) 1))) := H8_0.out.kept (hK SB (by omega) (own_ne_arr H8_1.out H8_0.out (by decide)))
          have H9_1 : Hid (X9.ownsRow U.heap.size 68 2 (Value.slice A10 (st.trips.length + 1) c10) (st.ship ((s : Int), (c : Int)) 1).trips.length (tcl (st.ship ((s : Int), (c : Int)) 1).trips)) := by have h9 := ho9; rw [← tcl_append] at h9; rw [ship_yes HSD.out, List.length_append]; exact h9
          have H9_2 : Hid (X9.heap[wr.heap.size]? = some (.cells #[.int .u8 5, .int .i64 s, .int .i64 c, .int .i64 0, .int .i64 0, .int .u8 0] 31 (0, 0))) := (hK wr.heap.size (by omega) (own_ne H8_1.out H8_2.out (by decide))).trans H8_2.out
          have HL9 : Hid (LiveO (CrtB (U.heap.size + 1) st j) U (fun (i : Nat) => i = SB ∨ (Value.slice A10 (st.trips.length + 1) c10).ownBlock = some i ∨ i = wr.heap.size) X9) := (HL8.out.grown (crt_thing (U.heap.size + 1) st j) hsz9 (fun j hj hn => hK j hj (fun e => hn (.inr (.inl e)))) (Below.grown (HL8.out.old.alloc ls8 (.cells #[.int .i64 s, .int .i64 c] 68)) hg9 (by rw [World.size_alloc]; omega) (fun k hk => (H8_1.out.lt k hk).1))).less (N' := (fun (i : Nat) => i = SB ∨ (Value.slice A10 (st.trips.length + 1) c10).ownBlock = some i ∨ i = wr.heap.size)) (fun i hi => by rcases hi with h0 | h1 | h2; exact .inl (.inl h0); exact (hat9.elim (fun e => .inl (.inr (.inl (e.symm.trans h1)))) (fun e => .inr (by have h8 := h1; rw [e] at h8; injection h8 with h8; subst h8; exact hE9))); exact .inl (.inr (.inr h2)))
          have : SB < X9.heap.size := by omega
          have : wr.heap.size < X9.heap.size := by omega
          have ls9 : U.heap.size ≤ X9.heap.size := by omega
          have lt9 : X8.heap.size ≤ X9.heap.size := by omega
          clear hK HL8 H8_0 H8_1 H8_2 c2_0 c2_1 c2_2 c2_3 c2_4 c2_5
          clear hsz9 hE9 ho9 hg9 hat9
          have HAN : Hid ((st.ship ((s : Int), (c : Int)) 1).said ((s : Int), (c : Int)) = some 1) := by show (st.ship ((s : Int), (c : Int)) 1).said _ = _; unfold Crt.ship; rw [HSD.out]; simp
          have ha : st.ans ((s : Int), (c : Int)) 1 = 1 := by unfold Crt.ans; rw [HSD.out]; rfl
          have HAS := Lib.hid ha
          clear ha
          have c2_0 : X9.cell? ⟨wr.heap.size, 0, none⟩ = some (.int .u8 5) := by rw [cell_of_row _ _ _ _ _ _ H9_2.out]; rfl
          have c2_1 : X9.cell? ⟨wr.heap.size, 1, none⟩ = some (.int .i64 s) := by rw [cell_of_row _ _ _ _ _ _ H9_2.out]; rfl
          have c2_2 : X9.cell? ⟨wr.heap.size, 2, none⟩ = some (.int .i64 c) := by rw [cell_of_row _ _ _ _ _ _ H9_2.out]; rfl
          have c2_3 : X9.cell? ⟨wr.heap.size, 3, none⟩ = some (.int .i64 0) := by rw [cell_of_row _ _ _ _ _ _ H9_2.out]; rfl
          have c2_4 : X9.cell? ⟨wr.heap.size, 4, none⟩ = some (.int .i64 0) := by rw [cell_of_row _ _ _ _ _ _ H9_2.out]; rfl
          have c2_5 : X9.cell? ⟨wr.heap.size, 5, none⟩ = some (.int .u8 0) := by rw [cell_of_row _ _ _ _ _ _ H9_2.out]; rfl
          have HS0 : Hid ((fun w' : World => w'.cell? ⟨wr.heap.size, 0, none⟩ = some (.int .u8 5) ∧ w'.cell? ⟨wr.heap.size, 1, none⟩ = some (.int .i64 s) ∧ w'.cell? ⟨wr.heap.size, 2, none⟩ = some (.int .i64 c) ∧ w'.cell? ⟨wr.heap.size, 3, none⟩ = some (.int .i64 0) ∧ w'.cell? ⟨wr.heap.size, 4, none⟩ = some (.int .i64 0) ∧ w'.cell? ⟨wr.heap.size, 5, none⟩ = some (.int .u8 0) ∧ w'.cell? (a''.add j) = some (.int .u8 1)) X9.drew) := ⟨by rw [cell_of_row _ _ _ _ _ _ (show X9.drew.heap[_]? = _ from H9_2.out)]; rfl, by rw [cell_of_row _ _ _ _ _ _ (show X9.drew.heap[_]? = _ from H9_2.out)]; rfl, by rw [cell_of_row _ _ _ _ _ _ (show X9.drew.heap[_]? = _ from H9_2.out)]; rfl, by rw [cell_of_row _ _ _ _ _ _ (show X9.drew.heap[_]? = _ from H9_2.out)]; rfl, by rw [cell_of_row _ _ _ _ _ _ (show X9.drew.heap[_]? = _ from H9_2.out)]; rfl, by rw [cell_of_row _ _ _ _ _ _ (show X9.drew.heap[_]? = _ from H9_2.out)]; rfl, (World.cell?_of_block (w' := X9.drew) (a := a''.add j) (by (try rw [ad_block]); exact (HL9.out.old).block _ haU'')).trans HV3.out⟩
          have hN9 : ∀ i, (fun (i : Nat) => i = SB ∨ (Value.slice A10 (st.trips.length + 1) c10).ownBlock = some i ∨ i = wr.heap.size) i → i < X9.heap.size := (fun i hx0 => (hx0.elim (fun (hi : i = SB) => by omega) (fun hx1 => (hx1.elim (fun (hi : _) => (H9_1.out.lt i hi).2) (fun hx2 => ((fun (hi : i = wr.heap.size) => by omega) hx2))))))
          apply region_frame1 (fun Zq w9 => Hid (LiveO (CrtB (U.heap.size + 1) (st.ship ((s : Int), (c : Int)) 1) (j + 1)) U (fun (i : Nat) => i = SB ∨ (Value.slice A10 (st.trips.length + 1) c10).ownBlock = some i ∨ i = wr.heap.size ∨ i = Zq) w9) ∧ Hid (ArrB w9 SB 51 9 (gTold (st.ship ((s : Int), (c : Int)) 1))) ∧ Hid (w9.ownsRow U.heap.size 68 2 (Value.slice A10 (st.trips.length + 1) c10) (st.ship ((s : Int), (c : Int)) 1).trips.length (tcl (st.ship ((s : Int), (c : Int)) 1).trips)) ∧ Hid (w9.heap[wr.heap.size]? = some (.cells #[.int .u8 5, .int .i64 s, .int .i64 c, .int .i64 0, .int .i64 0, .int .u8 0] 31 (0, 0))) ∧ Hid (w9.heap[Zq]? = some (.cells #[.int .u8 5, .int .i64 s, .int .i64 c, .int .i64 0, .int .i64 0, .int .u8 1] 31 (0, 0))) ∧ U.heap.size ≤ w9.heap.size ∧ SB < w9.heap.size ∧ wr.heap.size < w9.heap.size ∧ SB < Zq ∧ wr.heap.size < Zq ∧ Zq < w9.heap.size ∧ U.heap.size ≤ Zq ∧ X9.heap.size ≤ Zq)
          · skip
            refine lane_start (ord := [0, 1, 2, 3, 4, 5, 6, 7, 8, 9, 10, 11, 12]) (S := (fun w' : World => w'.cell? ⟨wr.heap.size, 0, none⟩ = some (.int .u8 5) ∧ w'.cell? ⟨wr.heap.size, 1, none⟩ = some (.int .i64 s) ∧ w'.cell? ⟨wr.heap.size, 2, none⟩ = some (.int .i64 c) ∧ w'.cell? ⟨wr.heap.size, 3, none⟩ = some (.int .i64 0) ∧ w'.cell? ⟨wr.heap.size, 4, none⟩ = some (.int .i64 0) ∧ w'.cell? ⟨wr.heap.size, 5, none⟩ = some (.int .u8 0) ∧ w'.cell? (a''.add j) = some (.int .u8 1))) rfl (by kernel_rfl) (by exact HS0.out) (fun _ => ?_)
            iterate 6 (refine lane_take (v := ?_) rfl (by kernel_rfl) (by kernel_rfl) (by rfl) ?_ (by exact HS0.out) ?_; rotate_left; (focus (intro w9 hSw; obtain ⟨x0, x1, x2, x3, x4, x5, x6⟩ := hSw; (try go_simp); try (with_reducible rfl))); simp only [Act.put, List.setIfInBounds_toArray, List.set_cons_zero, List.set_cons_succ])
            refine lane_two (i := 6) (j := 10) (ordI := [7, 8, 9, 10, 11, 12]) (ordJ := [6, 7, 8, 9, 11, 12]) rfl rfl (by kernel_rfl) rfl (by rfl) (by rfl) (fun KK hKK => ?_) (fun KK hKK => ?_)
            · skip
              go_simp
              refine (chear_said_live HAS.out (HL9.out.drew (crt_thing (U.heap.size + 1) st j)) (fun i hi => hN9 i hi) hk (by omega)).mono ?_
              rintro e V9 ⟨rfl, hl, hk⟩
              have hsz : X9.heap.size ≤ V9.heap.size := hk.size
              have hb0 : ArrB V9 SB 51 9 (gTold (st.ship ((s : Int), (c : Int)) 1)) := H9_0.out.kept (hk.block SB (.inl rfl))
              have hb1 : V9.ownsRow U.heap.size 68 2 (Value.slice A10 (st.trips.length + 1) c10) (st.ship ((s : Int), (c : Int)) 1).trips.length (tcl (st.ship ((s : Int), (c : Int)) 1).trips) := own_kept H9_1.out (fun i hi => hk.block i (.inr (.inl hi)))
              have hb2 : V9.heap[wr.heap.size]? = some (.cells #[.int .u8 5, .int .i64 s, .int .i64 c, .int .i64 0, .int .i64 0, .int .u8 0] 31 (0, 0)) := (hk.block wr.heap.size (.inr (.inr rfl))).trans H9_2.out
              have HLv := Lib.hid hl
              have hS1 : (fun w' : World => w'.cell? ⟨wr.heap.size, 0, none⟩ = some (.int .u8 5) ∧ w'.cell? ⟨wr.heap.size, 1, none⟩ = some (.int .i64 s) ∧ w'.cell? ⟨wr.heap.size, 2, none⟩ = some (.int .i64 c) ∧ w'.cell? ⟨wr.heap.size, 3, none⟩ = some (.int .i64 0) ∧ w'.cell? ⟨wr.heap.size, 4, none⟩ = some (.int .i64 0) ∧ w'.cell? ⟨wr.heap.size, 5, none⟩ = some (.int .u8 0) ∧ w'.cell? (a''.add j) = some (.int .u8 1)) V9 := ⟨by rw [cell_of_row _ _ _ _ _ _ (show V9.heap[_]? = _ from hb2)]; rfl, by rw [cell_of_row _ _ _ _ _ _ (show V9.heap[_]? = _ from hb2)]; rfl, by rw [cell_of_row _ _ _ _ _ _ (show V9.heap[_]? = _ from hb2)]; rfl, by rw [cell_of_row _ _ _ _ _ _ (show V9.heap[_]? = _ from hb2)]; rfl, by rw [cell_of_row _ _ _ _ _ _ (show V9.heap[_]? = _ from hb2)]; rfl, by rw [cell_of_row _ _ _ _ _ _ (show V9.heap[_]? = _ from hb2)]; rfl, (World.cell?_of_block (w' := V9) (a := a''.add j) (by (try rw [ad_block]); exact (HLv.out.old).block _ haU'')).trans HV3.out⟩
              have HS1 := Lib.hid hS1
              refine hKK _ _ HS1.out (fun _ => ?_)
              clear hKK KK hS1 hl hk
              iterate 3 (refine lane_take (v := ?_) rfl (by kernel_rfl) (by kernel_rfl) (by rfl) ?_ (by exact HS1.out) ?_; rotate_left; (focus (intro w9 hSw; obtain ⟨x0, x1, x2, x3, x4, x5, x6⟩ := hSw; (try go_simp); try (with_reducible rfl))); simp only [Act.put, List.setIfInBounds_toArray, List.set_cons_zero, List.set_cons_succ])
              refine lane_alone rfl (by kernel_rfl) (by rfl) (fun KK hKK => ?_)
              go_simp
              have hK9 : ∀ i, i < V9.heap.size → (V9.alloc (.cells #[.int .u8 0, .int .i64 0, .int .i64 0, .int .i64 0, .int .i64 0, .int .u8 0] 31)).heap[i]? = V9.heap[i]? := fun i hi => alloc_block_old hi
              have HZ : Hid ((V9.alloc (.cells #[.int .u8 0, .int .i64 0, .int .i64 0, .int .i64 0, .int .i64 0, .int .u8 0] 31)).heap[V9.heap.size]? = some (.cells #[.int .u8 0, .int .i64 0, .int .i64 0, .int .i64 0, .int .i64 0, .int .u8 0] 31 (0, 0))) := alloc_block
              have HLx := Lib.hid (HLv.out.alloc (crt_thing (U.heap.size + 1) (st.ship ((s : Int), (c : Int)) 1) (j + 1)) (.cells #[.int .u8 0, .int .i64 0, .int .i64 0, .int .i64 0, .int .i64 0, .int .u8 0] 31))
              have hzz : V9.heap.size < (V9.alloc (.cells #[.int .u8 0, .int .i64 0, .int .i64 0, .int .i64 0, .int .i64 0, .int .u8 0] 31)).heap.size := by rw [World.size_alloc]; omega
              have hzl : X9.heap.size ≤ V9.heap.size := by omega
              have HC0 : Hid (ArrB (V9.alloc (.cells #[.int .u8 0, .int .i64 0, .int .i64 0, .int .i64 0, .int .i64 0, .int .u8 0] 31)) SB 51 9 (gTold (st.ship ((s : Int), (c : Int)) 1))) := hb0.kept (hK9 SB (by omega))
              have HC1 : Hid ((V9.alloc (.cells #[.int .u8 0, .int .i64 0, .int .i64 0, .int .i64 0, .int .i64 0, .int .u8 0] 31)).ownsRow U.heap.size 68 2 (Value.slice A10 (st.trips.length + 1) c10) (st.ship ((s : Int), (c : Int)) 1).trips.length (tcl (st.ship ((s : Int), (c : Int)) 1).trips)) := own_kept hb1 (fun i hi => hK9 i (hb1.lt i hi).2)
              have hrz1 : ∀ i, (Value.slice A10 (st.trips.length + 1) c10).ownBlock = some i → i ≠ V9.heap.size := fun i hi e => by have := (H9_1.out.lt i hi).2; omega
              have HC2 : Hid ((V9.alloc (.cells #[.int .u8 0, .int .i64 0, .int .i64 0, .int .i64 0, .int .i64 0, .int .u8 0] 31)).heap[wr.heap.size]? = some (.cells #[.int .u8 5, .int .i64 s, .int .i64 c, .int .i64 0, .int .i64 0, .int .u8 0] 31 (0, 0))) := (hK9 wr.heap.size (by omega)).trans hb2
              have hS2 : (fun w' : World => w'.cell? ⟨wr.heap.size, 0, none⟩ = some (.int .u8 5) ∧ w'.cell? ⟨wr.heap.size, 1, none⟩ = some (.int .i64 s) ∧ w'.cell? ⟨wr.heap.size, 2, none⟩ = some (.int .i64 c) ∧ w'.cell? ⟨wr.heap.size, 3, none⟩ = some (.int .i64 0) ∧ w'.cell? ⟨wr.heap.size, 4, none⟩ = some (.int .i64 0) ∧ w'.cell? ⟨wr.heap.size, 5, none⟩ = some (.int .u8 0) ∧ w'.cell? (a''.add j) = some (.int .u8 1)) (V9.alloc (.cells #[.int .u8 0, .int .i64 0, .int .i64 0, .int .i64 0, .int .i64 0, .int .u8 0] 31)) := ⟨by rw [cell_of_row _ _ _ _ _ _ (show (V9.alloc (.cells #[.int .u8 0, .int .i64 0, .int .i64 0, .int .i64 0, .int .i64 0, .int .u8 0] 31)).heap[_]? = _ from HC2.out)]; rfl, by rw [cell_of_row _ _ _ _ _ _ (show (V9.alloc (.cells #[.int .u8 0, .int .i64 0, .int .i64 0, .int .i64 0, .int .i64 0, .int .u8 0] 31)).heap[_]? = _ from HC2.out)]; rfl, by rw [cell_of_row _ _ _ _ _ _ (show (V9.alloc (.cells #[.int .u8 0, .int .i64 0, .int .i64 0, .int .i64 0, .int .i64 0, .int .u8 0] 31)).heap[_]? = _ from HC2.out)]; rfl, by rw [cell_of_row _ _ _ _ _ _ (show (V9.alloc (.cells #[.int .u8 0, .int .i64 0, .int .i64 0, .int .i64 0, .int .i64 0, .int .u8 0] 31)).heap[_]? = _ from HC2.out)]; rfl, by rw [cell_of_row _ _ _ _ _ _ (show (V9.alloc (.cells #[.int .u8 0, .int .i64 0, .int .i64 0, .int .i64 0, .int .i64 0, .int .u8 0] 31)).heap[_]? = _ from HC2.out)]; rfl, by rw [cell_of_row _ _ _ _ _ _ (show (V9.alloc (.cells #[.int .u8 0, .int .i64 0, .int .i64 0, .int .i64 0, .int .i64 0, .int .u8 0] 31)).heap[_]? = _ from HC2.out)]; rfl, (World.cell?_of_block (w' := (V9.alloc (.cells #[.int .u8 0, .int .i64 0, .int .i64 0, .int .i64 0, .int .i64 0, .int .u8 0] 31))) (a := a''.add j) (by (try rw [ad_block]); exact ((HLv.out.old.alloc HLv.out.old.size (.cells #[.int .u8 0, .int .i64 0, .int .i64 0, .int .i64 0, .int .i64 0, .int .u8 0] 31))).block _ haU'')).trans HV3.out⟩
              have HS2 := Lib.hid hS2
              refine hKK _ _ HS2.out (fun _ => ?_)
              clear hKK KK hS2
              clear hb0 hb1 hb2
              generalize hzn : V9.heap.size = ZZ at *
              refine lane_alone rfl (by kernel_rfl) (by rfl) (fun KK hKK => ?_)
              refine wp_store_row _ _ _ rfl ZZ _ rfl rfl _ _ HZ.out (by exact pnotice_info) rfl (by simp [Value.oneCell']) ?_
              rw [row_boxed HZ.out]
              have HD0 : Hid (ArrB (boxed (V9.alloc (.cells #[.int .u8 0, .int .i64 0, .int .i64 0, .int .i64 0, .int .i64 0, .int .u8 0] 31)) ZZ #[.int .u8 5, .int .i64 s, .int .i64 c, .int .i64 0, .int .i64 0, .int .u8 1] 31) SB 51 9 (gTold (st.ship ((s : Int), (c : Int)) 1))) := HC0.out.kept (boxed_block_other (by omega))
              have HD1 : Hid ((boxed (V9.alloc (.cells #[.int .u8 0, .int .i64 0, .int .i64 0, .int .i64 0, .int .i64 0, .int .u8 0] 31)) ZZ #[.int .u8 5, .int .i64 s, .int .i64 c, .int .i64 0, .int .i64 0, .int .u8 1] 31).ownsRow U.heap.size 68 2 (Value.slice A10 (st.trips.length + 1) c10) (st.ship ((s : Int), (c : Int)) 1).trips.length (tcl (st.ship ((s : Int), (c : Int)) 1).trips)) := own_kept HC1.out (fun i hi => boxed_block_other (hrz1 i hi))
              have HD2 : Hid ((boxed (V9.alloc (.cells #[.int .u8 0, .int .i64 0, .int .i64 0, .int .i64 0, .int .i64 0, .int .u8 0] 31)) ZZ #[.int .u8 5, .int .i64 s, .int .i64 c, .int .i64 0, .int .i64 0, .int .u8 1] 31).heap[wr.heap.size]? = some (.cells #[.int .u8 5, .int .i64 s, .int .i64 c, .int .i64 0, .int .i64 0, .int .u8 0] 31 (0, 0))) := boxed_old (by omega) HC2.out
              have HLy := Lib.hid (HLx.out.boxed (crt_thing (U.heap.size + 1) (st.ship ((s : Int), (c : Int)) 1) (j + 1)) (g := ZZ) (cs := #[.int .u8 5, .int .i64 s, .int .i64 c, .int .i64 0, .int .i64 0, .int .u8 1]) (t := 31) (.inr rfl) (by omega))
              have hS4 : (fun w' : World => w'.cell? ⟨wr.heap.size, 0, none⟩ = some (.int .u8 5) ∧ w'.cell? ⟨wr.heap.size, 1, none⟩ = some (.int .i64 s) ∧ w'.cell? ⟨wr.heap.size, 2, none⟩ = some (.int .i64 c) ∧ w'.cell? ⟨wr.heap.size, 3, none⟩ = some (.int .i64 0) ∧ w'.cell? ⟨wr.heap.size, 4, none⟩ = some (.int .i64 0) ∧ w'.cell? ⟨wr.heap.size, 5, none⟩ = some (.int .u8 0) ∧ w'.cell? (a''.add j) = some (.int .u8 1)) (boxed (V9.alloc (.cells #[.int .u8 0, .int .i64 0, .int .i64 0, .int .i64 0, .int .i64 0, .int .u8 0] 31)) ZZ #[.int .u8 5, .int .i64 s, .int .i64 c, .int .i64 0, .int .i64 0, .int .u8 1] 31) := ⟨by rw [cell_of_row _ _ _ _ _ _ (show (boxed (V9.alloc (.cells #[.int .u8 0, .int .i64 0, .int .i64 0, .int .i64 0, .int .i64 0, .int .u8 0] 31)) ZZ #[.int .u8 5, .int .i64 s, .int .i64 c, .int .i64 0, .int .i64 0, .int .u8 1] 31).heap[_]? = _ from HD2.out)]; rfl, by rw [cell_of_row _ _ _ _ _ _ (show (boxed (V9.alloc (.cells #[.int .u8 0, .int .i64 0, .int .i64 0, .int .i64 0, .int .i64 0, .int .u8 0] 31)) ZZ #[.int .u8 5, .int .i64 s, .int .i64 c, .int .i64 0, .int .i64 0, .int .u8 1] 31).heap[_]? = _ from HD2.out)]; rfl, by rw [cell_of_row _ _ _ _ _ _ (show (boxed (V9.alloc (.cells #[.int .u8 0, .int .i64 0, .int .i64 0, .int .i64 0, .int .i64 0, .int .u8 0] 31)) ZZ #[.int .u8 5, .int .i64 s, .int .i64 c, .int .i64 0, .int .i64 0, .int .u8 1] 31).heap[_]? = _ from HD2.out)]; rfl, by rw [cell_of_row _ _ _ _ _ _ (show (boxed (V9.alloc (.cells #[.int .u8 0, .int .i64 0, .int .i64 0, .int .i64 0, .int .i64 0, .int .u8 0] 31)) ZZ #[.int .u8 5, .int .i64 s, .int .i64 c, .int .i64 0, .int .i64 0, .int .u8 1] 31).heap[_]? = _ from HD2.out)]; rfl, by rw [cell_of_row _ _ _ _ _ _ (show (boxed (V9.alloc (.cells #[.int .u8 0, .int .i64 0, .int .i64 0, .int .i64 0, .int .i64 0, .int .u8 0] 31)) ZZ #[.int .u8 5, .int .i64 s, .int .i64 c, .int .i64 0, .int .i64 0, .int .u8 1] 31).heap[_]? = _ from HD2.out)]; rfl, by rw [cell_of_row _ _ _ _ _ _ (show (boxed (V9.alloc (.cells #[.int .u8 0, .int .i64 0, .int .i64 0, .int .i64 0, .int .i64 0, .int .u8 0] 31)) ZZ #[.int .u8 5, .int .i64 s, .int .i64 c, .int .i64 0, .int .i64 0, .int .u8 1] 31).heap[_]? = _ from HD2.out)]; rfl, (World.cell?_of_block (w' := (boxed (V9.alloc (.cells #[.int .u8 0, .int .i64 0, .int .i64 0, .int .i64 0, .int .i64 0, .int .u8 0] 31)) ZZ #[.int .u8 5, .int .i64 s, .int .i64 c, .int .i64 0, .int .i64 0, .int .u8 1] 31)) (a := a''.add j) (by (try rw [ad_block]); exact (HLy.out.old).block _ haU'')).trans HV3.out⟩
              have HS4 := Lib.hid hS4
              refine hKK _ _ (by exact HS4.out) (fun _ => ?_)
              clear hKK KK hS4
              iterate 1 (refine lane_take (v := ?_) rfl (by kernel_rfl) (by kernel_rfl) (by rfl) ?_ (by exact HS4.out) ?_; rotate_left; (focus (intro w9 hSw; obtain ⟨x0, x1, x2, x3, x4, x5, x6⟩ := hSw; (try go_simp); try (with_reducible rfl))); simp only [Act.put, List.setIfInBounds_toArray, List.set_cons_zero, List.set_cons_succ])
              refine lane_end (by kernel_rfl) ?_
              refine ⟨rfl, ZZ, rfl, (HLy.out.less (fun i hi => by rcases hi with h0 | h1 | h2 | h3; exact .inl (.inl h0); exact .inl (.inr (.inl h1)); exact .inl (.inr (.inr h2)); exact .inr h3)), HD0.out, HD1.out, HD2.out, boxed_at hzz, by rw [boxed_size]; omega, by rw [boxed_size]; omega, by rw [boxed_size]; omega, by omega, by omega, by rw [boxed_size]; omega, by omega, by omega⟩
            · skip
              go_simp
              have hK9 : ∀ i, i < X9.heap.size → ((X9.alloc (.cells #[.int .u8 0, .int .i64 0, .int .i64 0, .int .i64 0, .int .i64 0, .int .u8 0] 31)).drew).heap[i]? = X9.heap[i]? := fun i hi => alloc_block_old (w := X9) hi
              have hd0 : ArrB ((X9.alloc (.cells #[.int .u8 0, .int .i64 0, .int .i64 0, .int .i64 0, .int .i64 0, .int .u8 0] 31)).drew) SB 51 9 (gTold (st.ship ((s : Int), (c : Int)) 1)) := H9_0.out.kept (hK9 SB (by omega))
              have hd1 : ((X9.alloc (.cells #[.int .u8 0, .int .i64 0, .int .i64 0, .int .i64 0, .int .i64 0, .int .u8 0] 31)).drew).ownsRow U.heap.size 68 2 (Value.slice A10 (st.trips.length + 1) c10) (st.ship ((s : Int), (c : Int)) 1).trips.length (tcl (st.ship ((s : Int), (c : Int)) 1).trips) := own_kept H9_1.out (fun i hi => hK9 i (H9_1.out.lt i hi).2)
              have hd2 : ((X9.alloc (.cells #[.int .u8 0, .int .i64 0, .int .i64 0, .int .i64 0, .int .i64 0, .int .u8 0] 31)).drew).heap[wr.heap.size]? = some (.cells #[.int .u8 5, .int .i64 s, .int .i64 c, .int .i64 0, .int .i64 0, .int .u8 0] 31 (0, 0)) := (hK9 wr.heap.size (by omega)).trans H9_2.out
              have hS2 : (fun w' : World => w'.cell? ⟨wr.heap.size, 0, none⟩ = some (.int .u8 5) ∧ w'.cell? ⟨wr.heap.size, 1, none⟩ = some (.int .i64 s) ∧ w'.cell? ⟨wr.heap.size, 2, none⟩ = some (.int .i64 c) ∧ w'.cell? ⟨wr.heap.size, 3, none⟩ = some (.int .i64 0) ∧ w'.cell? ⟨wr.heap.size, 4, none⟩ = some (.int .i64 0) ∧ w'.cell? ⟨wr.heap.size, 5, none⟩ = some (.int .u8 0) ∧ w'.cell? (a''.add j) = some (.int .u8 1)) ((X9.alloc (.cells #[.int .u8 0, .int .i64 0, .int .i64 0, .int .i64 0, .int .i64 0, .int .u8 0] 31)).drew) := ⟨by rw [cell_of_row _ _ _ _ _ _ (show ((X9.alloc (.cells #[.int .u8 0, .int .i64 0, .int .i64 0, .int .i64 0, .int .i64 0, .int .u8 0] 31)).drew).heap[_]? = _ from hd2)]; rfl, by rw [cell_of_row _ _ _ _ _ _ (show ((X9.alloc (.cells #[.int .u8 0, .int .i64 0, .int .i64 0, .int .i64 0, .int .i64 0, .int .u8 0] 31)).drew).heap[_]? = _ from hd2)]; rfl, by rw [cell_of_row _ _ _ _ _ _ (show ((X9.alloc (.cells #[.int .u8 0, .int .i64 0, .int .i64 0, .int .i64 0, .int .i64 0, .int .u8 0] 31)).drew).heap[_]? = _ from hd2)]; rfl, by rw [cell_of_row _ _ _ _ _ _ (show ((X9.alloc (.cells #[.int .u8 0, .int .i64 0, .int .i64 0, .int .i64 0, .int .i64 0, .int .u8 0] 31)).drew).heap[_]? = _ from hd2)]; rfl, by rw [cell_of_row _ _ _ _ _ _ (show ((X9.alloc (.cells #[.int .u8 0, .int .i64 0, .int .i64 0, .int .i64 0, .int .i64 0, .int .u8 0] 31)).drew).heap[_]? = _ from hd2)]; rfl, by rw [cell_of_row _ _ _ _ _ _ (show ((X9.alloc (.cells #[.int .u8 0, .int .i64 0, .int .i64 0, .int .i64 0, .int .i64 0, .int .u8 0] 31)).drew).heap[_]? = _ from hd2)]; rfl, (World.cell?_of_block (w' := ((X9.alloc (.cells #[.int .u8 0, .int .i64 0, .int .i64 0, .int .i64 0, .int .i64 0, .int .u8 0] 31)).drew)) (a := a''.add j) (by (try rw [ad_block]); exact ((HL9.out.old.alloc HL9.out.old.size (.cells #[.int .u8 0, .int .i64 0, .int .i64 0, .int .i64 0, .int .i64 0, .int .u8 0] 31))).block _ haU'')).trans HV3.out⟩
              have HS2 := Lib.hid hS2
              refine hKK _ _ HS2.out (fun _ => ?_)
              clear hKK KK hS2
              refine lane_alone rfl (by kernel_rfl) (by rfl) (fun KK hKK => ?_)
              go_simp
              refine (chear_said_live HAS.out ((HL9.out.alloc (crt_thing (U.heap.size + 1) st j) (.cells #[.int .u8 0, .int .i64 0, .int .i64 0, .int .i64 0, .int .i64 0, .int .u8 0] 31)).drew (crt_thing (U.heap.size + 1) st j)) (fun i hi => by show i < (X9.alloc (.cells #[.int .u8 0, .int .i64 0, .int .i64 0, .int .i64 0, .int .i64 0, .int .u8 0] 31)).heap.size; rw [World.size_alloc]; rcases hi with hi | hi; exact Nat.lt_succ_of_lt (hN9 i hi); omega) hk (by omega)).mono ?_
              rintro e V9 ⟨rfl, hl, hk0⟩
              have hk : KeptO U (fun (i : Nat) => i = SB ∨ (Value.slice A10 (st.trips.length + 1) c10).ownBlock = some i ∨ i = wr.heap.size) ((X9.alloc (.cells #[.int .u8 0, .int .i64 0, .int .i64 0, .int .i64 0, .int .i64 0, .int .u8 0] 31)).drew) V9 := ⟨hk0.size, fun i hi => hk0.block i (.inl hi), hk0.old⟩
              have hsz : (X9.alloc (.cells #[.int .u8 0, .int .i64 0, .int .i64 0, .int .i64 0, .int .i64 0, .int .u8 0] 31)).heap.size ≤ V9.heap.size := hk.size
              rw [World.size_alloc] at hsz
              have hb0 : ArrB V9 SB 51 9 (gTold (st.ship ((s : Int), (c : Int)) 1)) := hd0.kept (hk.block SB (.inl rfl))
              have hb1 : V9.ownsRow U.heap.size 68 2 (Value.slice A10 (st.trips.length + 1) c10) (st.ship ((s : Int), (c : Int)) 1).trips.length (tcl (st.ship ((s : Int), (c : Int)) 1).trips) := own_kept hd1 (fun i hi => hk.block i (.inr (.inl hi)))
              have hb2 : V9.heap[wr.heap.size]? = some (.cells #[.int .u8 5, .int .i64 s, .int .i64 c, .int .i64 0, .int .i64 0, .int .u8 0] 31 (0, 0)) := (hk.block wr.heap.size (.inr (.inr rfl))).trans hd2
              have HZ : Hid (V9.heap[X9.heap.size]? = some (.cells #[.int .u8 0, .int .i64 0, .int .i64 0, .int .i64 0, .int .i64 0, .int .u8 0] 31 (0, 0))) := (hk0.block _ (.inr rfl)).trans (show (X9.alloc (.cells #[.int .u8 0, .int .i64 0, .int .i64 0, .int .i64 0, .int .i64 0, .int .u8 0] 31)).heap[_]? = _ from alloc_block)
              have HLx := Lib.hid hl
              have hS3 : (fun w' : World => w'.cell? ⟨wr.heap.size, 0, none⟩ = some (.int .u8 5) ∧ w'.cell? ⟨wr.heap.size, 1, none⟩ = some (.int .i64 s) ∧ w'.cell? ⟨wr.heap.size, 2, none⟩ = some (.int .i64 c) ∧ w'.cell? ⟨wr.heap.size, 3, none⟩ = some (.int .i64 0) ∧ w'.cell? ⟨wr.heap.size, 4, none⟩ = some (.int .i64 0) ∧ w'.cell? ⟨wr.heap.size, 5, none⟩ = some (.int .u8 0) ∧ w'.cell? (a''.add j) = some (.int .u8 1)) V9 := ⟨by rw [cell_of_row _ _ _ _ _ _ (show V9.heap[_]? = _ from hb2)]; rfl, by rw [cell_of_row _ _ _ _ _ _ (show V9.heap[_]? = _ from hb2)]; rfl, by rw [cell_of_row _ _ _ _ _ _ (show V9.heap[_]? = _ from hb2)]; rfl, by rw [cell_of_row _ _ _ _ _ _ (show V9.heap[_]? = _ from hb2)]; rfl, by rw [cell_of_row _ _ _ _ _ _ (show V9.heap[_]? = _ from hb2)]; rfl, by rw [cell_of_row _ _ _ _ _ _ (show V9.heap[_]? = _ from hb2)]; rfl, (World.cell?_of_block (w' := V9) (a := a''.add j) (by (try rw [ad_block]); exact (HLx.out.old).block _ haU'')).trans HV3.out⟩
              have HS2 := Lib.hid hS3
              refine hKK _ _ HS2.out (fun _ => ?_)
              clear hKK KK hS3 hl hk hk0
              iterate 3 (refine lane_take (v := ?_) rfl (by kernel_rfl) (by kernel_rfl) (by rfl) ?_ (by exact HS2.out) ?_; rotate_left; (focus (intro w9 hSw; obtain ⟨x0, x1, x2, x3, x4, x5, x6⟩ := hSw; (try go_simp); try (with_reducible rfl))); simp only [Act.put, List.setIfInBounds_toArray, List.set_cons_zero, List.set_cons_succ])
              have hzz : X9.heap.size < V9.heap.size := by omega
              have hzl : X9.heap.size ≤ X9.heap.size := by omega
              have HC0 : Hid (ArrB V9 SB 51 9 (gTold (st.ship ((s : Int), (c : Int)) 1))) := hb0
              have HC1 : Hid (V9.ownsRow U.heap.size 68 2 (Value.slice A10 (st.trips.length + 1) c10) (st.ship ((s : Int), (c : Int)) 1).trips.length (tcl (st.ship ((s : Int), (c : Int)) 1).trips)) := hb1
              have hrz1 : ∀ i, (Value.slice A10 (st.trips.length + 1) c10).ownBlock = some i → i ≠ X9.heap.size := fun i hi e => by have := (H9_1.out.lt i hi).2; omega
              have HC2 : Hid (V9.heap[wr.heap.size]? = some (.cells #[.int .u8 5, .int .i64 s, .int .i64 c, .int .i64 0, .int .i64 0, .int .u8 0] 31 (0, 0))) := hb2
              clear hb0 hb1 hb2
              generalize hzn : X9.heap.size = ZZ at *
              refine lane_alone rfl (by kernel_rfl) (by rfl) (fun KK hKK => ?_)
              refine wp_store_row _ _ _ rfl ZZ _ rfl rfl _ _ HZ.out (by exact pnotice_info) rfl (by simp [Value.oneCell']) ?_
              rw [row_boxed HZ.out]
              have HD0 : Hid (ArrB (boxed V9 ZZ #[.int .u8 5, .int .i64 s, .int .i64 c, .int .i64 0, .int .i64 0, .int .u8 1] 31) SB 51 9 (gTold (st.ship ((s : Int), (c : Int)) 1))) := HC0.out.kept (boxed_block_other (by omega))
              have HD1 : Hid ((boxed V9 ZZ #[.int .u8 5, .int .i64 s, .int .i64 c, .int .i64 0, .int .i64 0, .int .u8 1] 31).ownsRow U.heap.size 68 2 (Value.slice A10 (st.trips.length + 1) c10) (st.ship ((s : Int), (c : Int)) 1).trips.length (tcl (st.ship ((s : Int), (c : Int)) 1).trips)) := own_kept HC1.out (fun i hi => boxed_block_other (hrz1 i hi))
              have HD2 : Hid ((boxed V9 ZZ #[.int .u8 5, .int .i64 s, .int .i64 c, .int .i64 0, .int .i64 0, .int .u8 1] 31).heap[wr.heap.size]? = some (.cells #[.int .u8 5, .int .i64 s, .int .i64 c, .int .i64 0, .int .i64 0, .int .u8 0] 31 (0, 0))) := boxed_old (by omega) HC2.out
              have HLy := Lib.hid (HLx.out.boxed (crt_thing (U.heap.size + 1) (st.ship ((s : Int), (c : Int)) 1) (j + 1)) (g := ZZ) (cs := #[.int .u8 5, .int .i64 s, .int .i64 c, .int .i64 0, .int .i64 0, .int .u8 1]) (t := 31) (.inr rfl) (by omega))
              have hS4 : (fun w' : World => w'.cell? ⟨wr.heap.size, 0, none⟩ = some (.int .u8 5) ∧ w'.cell? ⟨wr.heap.size, 1, none⟩ = some (.int .i64 s) ∧ w'.cell? ⟨wr.heap.size, 2, none⟩ = some (.int .i64 c) ∧ w'.cell? ⟨wr.heap.size, 3, none⟩ = some (.int .i64 0) ∧ w'.cell? ⟨wr.heap.size, 4, none⟩ = some (.int .i64 0) ∧ w'.cell? ⟨wr.heap.size, 5, none⟩ = some (.int .u8 0) ∧ w'.cell? (a''.add j) = some (.int .u8 1)) (boxed V9 ZZ #[.int .u8 5, .int .i64 s, .int .i64 c, .int .i64 0, .int .i64 0, .int .u8 1] 31) := ⟨by rw [cell_of_row _ _ _ _ _ _ (show (boxed V9 ZZ #[.int .u8 5, .int .i64 s, .int .i64 c, .int .i64 0, .int .i64 0, .int .u8 1] 31).heap[_]? = _ from HD2.out)]; rfl, by rw [cell_of_row _ _ _ _ _ _ (show (boxed V9 ZZ #[.int .u8 5, .int .i64 s, .int .i64 c, .int .i64 0, .int .i64 0, .int .u8 1] 31).heap[_]? = _ from HD2.out)]; rfl, by rw [cell_of_row _ _ _ _ _ _ (show (boxed V9 ZZ #[.int .u8 5, .int .i64 s, .int .i64 c, .int .i64 0, .int .i64 0, .int .u8 1] 31).heap[_]? = _ from HD2.out)]; rfl, by rw [cell_of_row _ _ _ _ _ _ (show (boxed V9 ZZ #[.int .u8 5, .int .i64 s, .int .i64 c, .int .i64 0, .int .i64 0, .int .u8 1] 31).heap[_]? = _ from HD2.out)]; rfl, by rw [cell_of_row _ _ _ _ _ _ (show (boxed V9 ZZ #[.int .u8 5, .int .i64 s, .int .i64 c, .int .i64 0, .int .i64 0, .int .u8 1] 31).heap[_]? = _ from HD2.out)]; rfl, by rw [cell_of_row _ _ _ _ _ _ (show (boxed V9 ZZ #[.int .u8 5, .int .i64 s, .int .i64 c, .int .i64 0, .int .i64 0, .int .u8 1] 31).heap[_]? = _ from HD2.out)]; rfl, (World.cell?_of_block (w' := (boxed V9 ZZ #[.int .u8 5, .int .i64 s, .int .i64 c, .int .i64 0, .int .i64 0, .int .u8 1] 31)) (a := a''.add j) (by (try rw [ad_block]); exact (HLy.out.old).block _ haU'')).trans HV3.out⟩
              have HS4 := Lib.hid hS4
              refine hKK _ _ (by exact HS4.out) (fun _ => ?_)
              clear hKK KK hS4
              iterate 1 (refine lane_take (v := ?_) rfl (by kernel_rfl) (by kernel_rfl) (by rfl) ?_ (by exact HS4.out) ?_; rotate_left; (focus (intro w9 hSw; obtain ⟨x0, x1, x2, x3, x4, x5, x6⟩ := hSw; (try go_simp); try (with_reducible rfl))); simp only [Act.put, List.setIfInBounds_toArray, List.set_cons_zero, List.set_cons_succ])
              refine lane_end (by kernel_rfl) ?_
              refine ⟨rfl, ZZ, rfl, (HLy.out.less (fun i hi => by rcases hi with h0 | h1 | h2 | h3; exact .inl (.inl h0); exact .inl (.inr (.inl h1)); exact .inl (.inr (.inr h2)); exact .inr h3)), HD0.out, HD1.out, HD2.out, boxed_at hzz, by rw [boxed_size]; omega, by rw [boxed_size]; omega, by rw [boxed_size]; omega, by omega, by omega, by rw [boxed_size]; omega, by omega, by omega⟩
          rintro Zh X10 ⟨HL10, H10_0, H10_1, H10_2, HZ9, ls10, lc9_0, lc9_1, ld9_0, ld9_1, le9, lf9, lt10⟩
          have H10_3 := HZ9
          clear HZ9
          have c2_0 : X10.cell? ⟨wr.heap.size, 0, none⟩ = some (.int .u8 5) := by rw [cell_of_row _ _ _ _ _ _ H10_2.out]; rfl
          have c2_1 : X10.cell? ⟨wr.heap.size, 1, none⟩ = some (.int .i64 s) := by rw [cell_of_row _ _ _ _ _ _ H10_2.out]; rfl
          have c2_2 : X10.cell? ⟨wr.heap.size, 2, none⟩ = some (.int .i64 c) := by rw [cell_of_row _ _ _ _ _ _ H10_2.out]; rfl
          have c2_3 : X10.cell? ⟨wr.heap.size, 3, none⟩ = some (.int .i64 0) := by rw [cell_of_row _ _ _ _ _ _ H10_2.out]; rfl
          have c2_4 : X10.cell? ⟨wr.heap.size, 4, none⟩ = some (.int .i64 0) := by rw [cell_of_row _ _ _ _ _ _ H10_2.out]; rfl
          have c2_5 : X10.cell? ⟨wr.heap.size, 5, none⟩ = some (.int .u8 0) := by rw [cell_of_row _ _ _ _ _ _ H10_2.out]; rfl
          have z1 : X10.cell? ⟨SB, s * 3 + c, none⟩ = some (.int .u8 1) := by rw [H10_0.out.cell (by omega), gTold_at c3]; exact congrArg (fun u => some (Value.int .u8 u)) (by rw [HAN.out]; rfl)
          have HZ1 := Lib.hid z1
          clear z1
          go_wp2_with (fail)
          have HS0 : Hid ((fun w' : World => w'.cell? ⟨wr.heap.size, 1, none⟩ = some (.int .i64 s) ∧ w'.cell? ⟨wr.heap.size, 2, none⟩ = some (.int .i64 c) ∧ w'.cell? (⟨SB, s * 3 + c, none⟩) = some (.int .u8 1)) X10.drew) := ⟨by rw [cell_of_row _ _ _ _ _ _ (show X10.drew.heap[_]? = _ from H10_2.out)]; rfl, by rw [cell_of_row _ _ _ _ _ _ (show X10.drew.heap[_]? = _ from H10_2.out)]; rfl, HZ1.out⟩
          refine lane_start (ord := [0, 1, 2, 3, 4, 5, 6, 7, 8]) (S := (fun w' : World => w'.cell? ⟨wr.heap.size, 1, none⟩ = some (.int .i64 s) ∧ w'.cell? ⟨wr.heap.size, 2, none⟩ = some (.int .i64 c) ∧ w'.cell? (⟨SB, s * 3 + c, none⟩) = some (.int .u8 1))) rfl (by kernel_rfl) (by exact HS0.out) (fun _ => ?_)
          iterate 8 (refine lane_take (v := ?_) rfl (by kernel_rfl) (by kernel_rfl) (by rfl) ?_ (by exact HS0.out) ?_; rotate_left; (focus (intro w9 hSw; obtain ⟨x0, x1, x2⟩ := hSw; (try go_simp); try (with_reducible rfl))); simp only [Act.put, List.setIfInBounds_toArray, List.set_cons_zero, List.set_cons_succ])
          refine lane_alone rfl (by kernel_rfl) (by rfl) (fun KK hKK => ?_)
          have hA9 : X10.drew.heap[wr.heap.size]? = some (.cells #[.int .u8 5, .int .i64 s, .int .i64 c, .int .i64 0, .int .i64 0, .int .u8 0] 31 (0, 0)) := H10_2.out
          have hA8 : X10.drew.cell? ⟨wr.heap.size, 5, none⟩ = some (.int .u8 0) := by rw [cell_of_row _ _ _ _ _ _ hA9]; rfl
          refine wp_of_skip (exec_store_one rfl (by rfl) rfl (by kernel_rfl) rfl hA8 (by rw [World.frozen?, hA9]; simp)) ?_
          clear hA8
          have hS9 : (fun w' : World => w'.cell? ⟨wr.heap.size, 1, none⟩ = some (.int .i64 s) ∧ w'.cell? ⟨wr.heap.size, 2, none⟩ = some (.int .i64 c) ∧ w'.cell? (⟨SB, s * 3 + c, none⟩) = some (.int .u8 1)) (X10.drew.setCell ⟨wr.heap.size, 5, none⟩ (.int .u8 1)) := ⟨by rw [cell_of_row _ _ _ _ _ _ (blk_set hA9 (5) _)]; rfl, by rw [cell_of_row _ _ _ _ _ _ (blk_set hA9 (5) _)]; rfl, (World.cell?_of_block (w' := (X10.drew.setCell ⟨wr.heap.size, 5, none⟩ (.int .u8 1))) (a := ⟨SB, s * 3 + c, none⟩) (setCell_other (by show (Addr.block ⟨SB, s * 3 + c, none⟩) ≠ wr.heap.size; show SB ≠ wr.heap.size; omega))).trans HZ1.out⟩
          refine hKK _ _ (by exact hS9) (fun _ => ?_)
          clear hKK KK hA9 HS0 hS9
          refine lane_end (by kernel_rfl) ?_
          change Exit.then _ _ Exit.normal _ (X10.drew.setCell ⟨wr.heap.size, 5, none⟩ (.int .u8 1))
          have hK : ∀ i, i < X10.heap.size → X10.drew.heap[i]? = X10.heap[i]? := fun i hi => rfl
          have H11_0 : Hid (ArrB X10.drew SB 51 9 (gTold (st.ship ((s : Int), (c : Int)) 1))) := H10_0.out.kept (hK SB (by omega))
          have H11_1 : Hid (X10.drew.ownsRow U.heap.size 68 2 (Value.slice A10 (st.trips.length + 1) c10) (st.ship ((s : Int), (c : Int)) 1).trips.length (tcl (st.ship ((s : Int), (c : Int)) 1).trips)) := own_kept H10_1.out (fun i hi => hK i (H10_1.out.lt i hi).2)
          have H11_2 : Hid (X10.drew.heap[wr.heap.size]? = some (.cells #[.int .u8 5, .int .i64 s, .int .i64 c, .int .i64 0, .int .i64 0, .int .u8 0] 31 (0, 0))) := (hK wr.heap.size (by omega)).trans H10_2.out
          have H11_3 : Hid (X10.drew.heap[Zh]? = some (.cells #[.int .u8 5, .int .i64 s, .int .i64 c, .int .i64 0, .int .i64 0, .int .u8 1] 31 (0, 0))) := (hK Zh (by omega)).trans H10_3.out
          have HL11 : Hid (LiveO (CrtB (U.heap.size + 1) (st.ship ((s : Int), (c : Int)) 1) (j + 1)) U (fun (i : Nat) => i = SB ∨ (Value.slice A10 (st.trips.length + 1) c10).ownBlock = some i ∨ i = wr.heap.size ∨ i = Zh) X10.drew) := HL10.out.drew (crt_thing (U.heap.size + 1) (st.ship ((s : Int), (c : Int)) 1) (j + 1))
          have : SB < X10.drew.heap.size := by show _ < X10.heap.size; first | omega | (rw [World.size_alloc]; omega) | (rw [setCell_size]; omega)
          have : wr.heap.size < X10.drew.heap.size := by show _ < X10.heap.size; first | omega | (rw [World.size_alloc]; omega) | (rw [setCell_size]; omega)
          have : Zh < X10.drew.heap.size := by show _ < X10.heap.size; first | omega | (rw [World.size_alloc]; omega) | (rw [setCell_size]; omega)
          have ls11 : U.heap.size ≤ X10.drew.heap.size := by show _ ≤ X10.heap.size; first | omega | (rw [World.size_alloc]; omega) | (rw [setCell_size]; omega)
          have lt11 : X10.heap.size ≤ X10.drew.heap.size := by show _ ≤ X10.heap.size; first | omega | (rw [World.size_alloc]; omega) | (rw [setCell_size]; omega)
          have lu11 : X10.drew.heap.size ≤ X10.heap.size := by show X10.heap.size ≤ _; omega
          clear hK HL10 H10_0 H10_1 H10_2 H10_3 c2_0 c2_1 c2_2 c2_3 c2_4 c2_5
          generalize X10.drew = X11 at *
          have hK : ∀ i, i < X11.heap.size → i ≠ wr.heap.size → (X11.setCell ⟨wr.heap.size, 5, none⟩ (.int .u8 1)).heap[i]? = X11.heap[i]? := fun i _ hi => setCell_other hi
          have H12_0 : Hid (ArrB (X11.setCell ⟨wr.heap.size, 5, none⟩ (.int .u8 1)) SB 51 9 (gTold (st.ship ((s : Int), (c : Int)) 1))) := H11_0.out.kept (hK SB (by omega) (by omega))
          have H12_1 : Hid ((X11.setCell ⟨wr.heap.size, 5, none⟩ (.int .u8 1)).ownsRow U.heap.size 68 2 (Value.slice A10 (st.trips.length + 1) c10) (st.ship ((s : Int), (c : Int)) 1).trips.length (tcl (st.ship ((s : Int), (c : Int)) 1).trips)) := own_kept H11_1.out (fun i hi => hK i (H11_1.out.lt i hi).2 (fun e => own_ne H11_1.out H11_2.out (by decide) (hi.trans (by rw [e]))))
          have H12_2 : Hid ((X11.setCell ⟨wr.heap.size, 5, none⟩ (.int .u8 1)).heap[wr.heap.size]? = some (.cells #[.int .u8 5, .int .i64 s, .int .i64 c, .int .i64 0, .int .i64 0, .int .u8 1] 31 (0, 0))) := blk_set H11_2.out (5) _
          have H12_3 : Hid ((X11.setCell ⟨wr.heap.size, 5, none⟩ (.int .u8 1)).heap[Zh]? = some (.cells #[.int .u8 5, .int .i64 s, .int .i64 c, .int .i64 0, .int .i64 0, .int .u8 1] 31 (0, 0))) := (hK Zh (by omega) (by omega)).trans H11_3.out
          have HL12 : Hid (LiveO (CrtB (U.heap.size + 1) (st.ship ((s : Int), (c : Int)) 1) (j + 1)) U (fun (i : Nat) => i = SB ∨ (Value.slice A10 (st.trips.length + 1) c10).ownBlock = some i ∨ i = wr.heap.size ∨ i = Zh) (X11.setCell ⟨wr.heap.size, 5, none⟩ (.int .u8 1))) := HL11.out.setCell (crt_thing (U.heap.size + 1) (st.ship ((s : Int), (c : Int)) 1) (j + 1)) (p := ⟨wr.heap.size, 5, none⟩) (.inr (.inr (.inl rfl))) (by show U.heap.size ≤ wr.heap.size; omega)
          have : SB < (X11.setCell ⟨wr.heap.size, 5, none⟩ (.int .u8 1)).heap.size := by first | omega | (rw [World.size_alloc]; omega) | (rw [setCell_size]; omega)
          have : wr.heap.size < (X11.setCell ⟨wr.heap.size, 5, none⟩ (.int .u8 1)).heap.size := by first | omega | (rw [World.size_alloc]; omega) | (rw [setCell_size]; omega)
          have : Zh < (X11.setCell ⟨wr.heap.size, 5, none⟩ (.int .u8 1)).heap.size := by first | omega | (rw [World.size_alloc]; omega) | (rw [setCell_size]; omega)
          have ls12 : U.heap.size ≤ (X11.setCell ⟨wr.heap.size, 5, none⟩ (.int .u8 1)).heap.size := by first | omega | (rw [World.size_alloc]; omega) | (rw [setCell_size]; omega)
          have lt12 : X11.heap.size ≤ (X11.setCell ⟨wr.heap.size, 5, none⟩ (.int .u8 1)).heap.size := by first | omega | (rw [World.size_alloc]; omega) | (rw [setCell_size]; omega)
          clear hK HL11 H11_0 H11_1 H11_2 H11_3
          generalize (X11.setCell ⟨wr.heap.size, 5, none⟩ (.int .u8 1)) = X12 at *
          have c2_0 : X12.cell? ⟨wr.heap.size, 0, none⟩ = some (.int .u8 5) := by rw [cell_of_row _ _ _ _ _ _ H12_2.out]; rfl
          have c2_1 : X12.cell? ⟨wr.heap.size, 1, none⟩ = some (.int .i64 s) := by rw [cell_of_row _ _ _ _ _ _ H12_2.out]; rfl
          have c2_2 : X12.cell? ⟨wr.heap.size, 2, none⟩ = some (.int .i64 c) := by rw [cell_of_row _ _ _ _ _ _ H12_2.out]; rfl
          have c2_3 : X12.cell? ⟨wr.heap.size, 3, none⟩ = some (.int .i64 0) := by rw [cell_of_row _ _ _ _ _ _ H12_2.out]; rfl
          have c2_4 : X12.cell? ⟨wr.heap.size, 4, none⟩ = some (.int .i64 0) := by rw [cell_of_row _ _ _ _ _ _ H12_2.out]; rfl
          have c2_5 : X12.cell? ⟨wr.heap.size, 5, none⟩ = some (.int .u8 1) := by rw [cell_of_row _ _ _ _ _ _ H12_2.out]; rfl
          have c3_0 : X12.cell? ⟨Zh, 0, none⟩ = some (.int .u8 5) := by rw [cell_of_row _ _ _ _ _ _ H12_3.out]; rfl
          have c3_1 : X12.cell? ⟨Zh, 1, none⟩ = some (.int .i64 s) := by rw [cell_of_row _ _ _ _ _ _ H12_3.out]; rfl
          have c3_2 : X12.cell? ⟨Zh, 2, none⟩ = some (.int .i64 c) := by rw [cell_of_row _ _ _ _ _ _ H12_3.out]; rfl
          have c3_3 : X12.cell? ⟨Zh, 3, none⟩ = some (.int .i64 0) := by rw [cell_of_row _ _ _ _ _ _ H12_3.out]; rfl
          have c3_4 : X12.cell? ⟨Zh, 4, none⟩ = some (.int .i64 0) := by rw [cell_of_row _ _ _ _ _ _ H12_3.out]; rfl
          have c3_5 : X12.cell? ⟨Zh, 5, none⟩ = some (.int .u8 1) := by rw [cell_of_row _ _ _ _ _ _ H12_3.out]; rfl
          go_wp2
          have HT : (st.ship ((s : Int), (c : Int)) 1).trips.length = st.trips.length + 1 := by rw [ship_yes HSD.out, List.length_append, List.length_singleton]
          go_roundw
          case rel => exact ⟨j + 1, (st.ship ((s : Int), (c : Int)) 1), A10, c10, by omega, by go_num, by rw [ship_yes HSD.out, List.length_append, List.length_singleton], (HF.out.ship s3 _), by first | omega | (rw [ship_yes HSD.out, List.length_append, List.length_singleton]; omega), (HL12.out.less (fun i hi => by rcases hi with rfl | hi; exact .inl rfl; exact .inr (.inl (by first | exact hi | (rw [ship_yes HSD.out, List.length_append, List.length_singleton] at hi; exact hi) | (have h9 := hi; rw [← HT] at h9; exact h9))))).imp (fun F hF => crtB_mono hF (by omega)), H12_0, by have h9 := H12_1; rw [← HT] at h9; exact h9⟩
          case measure => simp [intOf]; omega
        · skip
          have c2_0 : X6.cell? ⟨wr.heap.size, 0, none⟩ = some (.int .u8 5) := by rw [cell_of_row _ _ _ _ _ _ H6_2.out]; rfl
          have c2_1 : X6.cell? ⟨wr.heap.size, 1, none⟩ = some (.int .i64 s) := by rw [cell_of_row _ _ _ _ _ _ H6_2.out]; rfl
          have c2_2 : X6.cell? ⟨wr.heap.size, 2, none⟩ = some (.int .i64 c) := by rw [cell_of_row _ _ _ _ _ _ H6_2.out]; rfl
          have c2_3 : X6.cell? ⟨wr.heap.size, 3, none⟩ = some (.int .i64 0) := by rw [cell_of_row _ _ _ _ _ _ H6_2.out]; rfl
          have c2_4 : X6.cell? ⟨wr.heap.size, 4, none⟩ = some (.int .i64 0) := by rw [cell_of_row _ _ _ _ _ _ H6_2.out]; rfl
          have c2_5 : X6.cell? ⟨wr.heap.size, 5, none⟩ = some (.int .u8 0) := by rw [cell_of_row _ _ _ _ _ _ H6_2.out]; rfl
          have b1 : (v == 1) = false := by simpa using hv1
          have z3 : X6.cell? (a''.add j) = some (.int .u8 v) := (World.cell?_of_block (by rw [ad_block]; exact HL6.out.old.block _ haU'')).trans HV3.out
          go_wp2_with (fail)
          have HG : Hid (ArrB X6 SB 51 9 (gTold (st.ship ((s : Int), (c : Int)) v))) := H6_0.out.congr (fun i _ => by rw [← told_ship c3 HSD.out i, if_neg hv1])
          clear H6_0
          have H6_0 := HG
          clear HG
          have HAN : Hid ((st.ship ((s : Int), (c : Int)) v).said ((s : Int), (c : Int)) = some 3) := by show (st.ship ((s : Int), (c : Int)) v).said _ = _; unfold Crt.ship; rw [HSD.out]; simp [hv1]
          have ha : st.ans ((s : Int), (c : Int)) v = 3 := by unfold Crt.ans; rw [HSD.out]; exact if_neg hv1
          have HAS := Lib.hid ha
          clear ha
          have HS0 : Hid ((fun w' : World => w'.cell? ⟨wr.heap.size, 0, none⟩ = some (.int .u8 5) ∧ w'.cell? ⟨wr.heap.size, 1, none⟩ = some (.int .i64 s) ∧ w'.cell? ⟨wr.heap.size, 2, none⟩ = some (.int .i64 c) ∧ w'.cell? ⟨wr.heap.size, 3, none⟩ = some (.int .i64 0) ∧ w'.cell? ⟨wr.heap.size, 4, none⟩ = some (.int .i64 0) ∧ w'.cell? ⟨wr.heap.size, 5, none⟩ = some (.int .u8 0) ∧ w'.cell? (a''.add j) = some (.int .u8 v)) X6.drew) := ⟨by rw [cell_of_row _ _ _ _ _ _ (show X6.drew.heap[_]? = _ from H6_2.out)]; rfl, by rw [cell_of_row _ _ _ _ _ _ (show X6.drew.heap[_]? = _ from H6_2.out)]; rfl, by rw [cell_of_row _ _ _ _ _ _ (show X6.drew.heap[_]? = _ from H6_2.out)]; rfl, by rw [cell_of_row _ _ _ _ _ _ (show X6.drew.heap[_]? = _ from H6_2.out)]; rfl, by rw [cell_of_row _ _ _ _ _ _ (show X6.drew.heap[_]? = _ from H6_2.out)]; rfl, by rw [cell_of_row _ _ _ _ _ _ (show X6.drew.heap[_]? = _ from H6_2.out)]; rfl, (World.cell?_of_block (w' := X6.drew) (a := a''.add j) (by (try rw [ad_block]); exact (HL6.out.old).block _ haU'')).trans HV3.out⟩
          have hN9 : ∀ i, (fun (i : Nat) => i = SB ∨ (Value.slice A9 st.trips.length c9).ownBlock = some i ∨ i = wr.heap.size) i → i < X6.heap.size := (fun i hx0 => (hx0.elim (fun (hi : i = SB) => by omega) (fun hx1 => (hx1.elim (fun (hi : _) => (H6_1.out.lt i hi).2) (fun hx2 => ((fun (hi : i = wr.heap.size) => by omega) hx2))))))
          apply region_frame1 (fun Zq w9 => Hid (LiveO (CrtB (U.heap.size + 1) (st.ship ((s : Int), (c : Int)) v) (j + 1)) U (fun (i : Nat) => i = SB ∨ (Value.slice A9 st.trips.length c9).ownBlock = some i ∨ i = wr.heap.size ∨ i = Zq) w9) ∧ Hid (ArrB w9 SB 51 9 (gTold (st.ship ((s : Int), (c : Int)) v))) ∧ Hid (w9.ownsRow U.heap.size 68 2 (Value.slice A9 st.trips.length c9) st.trips.length (tcl st.trips)) ∧ Hid (w9.heap[wr.heap.size]? = some (.cells #[.int .u8 5, .int .i64 s, .int .i64 c, .int .i64 0, .int .i64 0, .int .u8 0] 31 (0, 0))) ∧ Hid (w9.heap[Zq]? = some (.cells #[.int .u8 5, .int .i64 s, .int .i64 c, .int .i64 0, .int .i64 0, .int .u8 3] 31 (0, 0))) ∧ U.heap.size ≤ w9.heap.size ∧ SB < w9.heap.size ∧ wr.heap.size < w9.heap.size ∧ SB < Zq ∧ wr.heap.size < Zq ∧ Zq < w9.heap.size ∧ U.heap.size ≤ Zq ∧ X6.heap.size ≤ Zq)
          · skip
            refine lane_start (ord := [0, 1, 2, 3, 4, 5, 6, 7, 8, 9, 10, 11, 12]) (S := (fun w' : World => w'.cell? ⟨wr.heap.size, 0, none⟩ = some (.int .u8 5) ∧ w'.cell? ⟨wr.heap.size, 1, none⟩ = some (.int .i64 s) ∧ w'.cell? ⟨wr.heap.size, 2, none⟩ = some (.int .i64 c) ∧ w'.cell? ⟨wr.heap.size, 3, none⟩ = some (.int .i64 0) ∧ w'.cell? ⟨wr.heap.size, 4, none⟩ = some (.int .i64 0) ∧ w'.cell? ⟨wr.heap.size, 5, none⟩ = some (.int .u8 0) ∧ w'.cell? (a''.add j) = some (.int .u8 v))) rfl (by kernel_rfl) (by exact HS0.out) (fun _ => ?_)
            iterate 6 (refine lane_take (v := ?_) rfl (by kernel_rfl) (by kernel_rfl) (by rfl) ?_ (by exact HS0.out) ?_; rotate_left; (focus (intro w9 hSw; obtain ⟨x0, x1, x2, x3, x4, x5, x6⟩ := hSw; (try go_simp); try (with_reducible rfl))); simp only [Act.put, List.setIfInBounds_toArray, List.set_cons_zero, List.set_cons_succ])
            refine lane_two (i := 6) (j := 10) (ordI := [7, 8, 9, 10, 11, 12]) (ordJ := [6, 7, 8, 9, 11, 12]) rfl rfl (by kernel_rfl) rfl (by rfl) (by rfl) (fun KK hKK => ?_) (fun KK hKK => ?_)
            · skip
              go_simp
              refine (chear_said_live HAS.out (HL6.out.drew (crt_thing (U.heap.size + 1) st j)) (fun i hi => hN9 i hi) hk (by omega)).mono ?_
              rintro e V9 ⟨rfl, hl, hk⟩
              have hsz : X6.heap.size ≤ V9.heap.size := hk.size
              have hb0 : ArrB V9 SB 51 9 (gTold (st.ship ((s : Int), (c : Int)) v)) := H6_0.out.kept (hk.block SB (.inl rfl))
              have hb1 : V9.ownsRow U.heap.size 68 2 (Value.slice A9 st.trips.length c9) st.trips.length (tcl st.trips) := own_kept H6_1.out (fun i hi => hk.block i (.inr (.inl hi)))
              have hb2 : V9.heap[wr.heap.size]? = some (.cells #[.int .u8 5, .int .i64 s, .int .i64 c, .int .i64 0, .int .i64 0, .int .u8 0] 31 (0, 0)) := (hk.block wr.heap.size (.inr (.inr rfl))).trans H6_2.out
              have HLv := Lib.hid hl
              have hS1 : (fun w' : World => w'.cell? ⟨wr.heap.size, 0, none⟩ = some (.int .u8 5) ∧ w'.cell? ⟨wr.heap.size, 1, none⟩ = some (.int .i64 s) ∧ w'.cell? ⟨wr.heap.size, 2, none⟩ = some (.int .i64 c) ∧ w'.cell? ⟨wr.heap.size, 3, none⟩ = some (.int .i64 0) ∧ w'.cell? ⟨wr.heap.size, 4, none⟩ = some (.int .i64 0) ∧ w'.cell? ⟨wr.heap.size, 5, none⟩ = some (.int .u8 0) ∧ w'.cell? (a''.add j) = some (.int .u8 v)) V9 := ⟨by rw [cell_of_row _ _ _ _ _ _ (show V9.heap[_]? = _ from hb2)]; rfl, by rw [cell_of_row _ _ _ _ _ _ (show V9.heap[_]? = _ from hb2)]; rfl, by rw [cell_of_row _ _ _ _ _ _ (show V9.heap[_]? = _ from hb2)]; rfl, by rw [cell_of_row _ _ _ _ _ _ (show V9.heap[_]? = _ from hb2)]; rfl, by rw [cell_of_row _ _ _ _ _ _ (show V9.heap[_]? = _ from hb2)]; rfl, by rw [cell_of_row _ _ _ _ _ _ (show V9.heap[_]? = _ from hb2)]; rfl, (World.cell?_of_block (w' := V9) (a := a''.add j) (by (try rw [ad_block]); exact (HLv.out.old).block _ haU'')).trans HV3.out⟩
              have HS1 := Lib.hid hS1
              refine hKK _ _ HS1.out (fun _ => ?_)
              clear hKK KK hS1 hl hk
              iterate 3 (refine lane_take (v := ?_) rfl (by kernel_rfl) (by kernel_rfl) (by rfl) ?_ (by exact HS1.out) ?_; rotate_left; (focus (intro w9 hSw; obtain ⟨x0, x1, x2, x3, x4, x5, x6⟩ := hSw; (try go_simp); try (with_reducible rfl))); simp only [Act.put, List.setIfInBounds_toArray, List.set_cons_zero, List.set_cons_succ])
              refine lane_alone rfl (by kernel_rfl) (by rfl) (fun KK hKK => ?_)
              go_simp
              have hK9 : ∀ i, i < V9.heap.size → (V9.alloc (.cells #[.int .u8 0, .int .i64 0, .int .i64 0, .int .i64 0, .int .i64 0, .int .u8 0] 31)).heap[i]? = V9.heap[i]? := fun i hi => alloc_block_old hi
              have HZ : Hid ((V9.alloc (.cells #[.int .u8 0, .int .i64 0, .int .i64 0, .int .i64 0, .int .i64 0, .int .u8 0] 31)).heap[V9.heap.size]? = some (.cells #[.int .u8 0, .int .i64 0, .int .i64 0, .int .i64 0, .int .i64 0, .int .u8 0] 31 (0, 0))) := alloc_block
              have HLx := Lib.hid (HLv.out.alloc (crt_thing (U.heap.size + 1) (st.ship ((s : Int), (c : Int)) v) (j + 1)) (.cells #[.int .u8 0, .int .i64 0, .int .i64 0, .int .i64 0, .int .i64 0, .int .u8 0] 31))
              have hzz : V9.heap.size < (V9.alloc (.cells #[.int .u8 0, .int .i64 0, .int .i64 0, .int .i64 0, .int .i64 0, .int .u8 0] 31)).heap.size := by rw [World.size_alloc]; omega
              have hzl : X6.heap.size ≤ V9.heap.size := by omega
              have HC0 : Hid (ArrB (V9.alloc (.cells #[.int .u8 0, .int .i64 0, .int .i64 0, .int .i64 0, .int .i64 0, .int .u8 0] 31)) SB 51 9 (gTold (st.ship ((s : Int), (c : Int)) v))) := hb0.kept (hK9 SB (by omega))
              have HC1 : Hid ((V9.alloc (.cells #[.int .u8 0, .int .i64 0, .int .i64 0, .int .i64 0, .int .i64 0, .int .u8 0] 31)).ownsRow U.heap.size 68 2 (Value.slice A9 st.trips.length c9) st.trips.length (tcl st.trips)) := own_kept hb1 (fun i hi => hK9 i (hb1.lt i hi).2)
              have hrz1 : ∀ i, (Value.slice A9 st.trips.length c9).ownBlock = some i → i ≠ V9.heap.size := fun i hi e => by have := (H6_1.out.lt i hi).2; omega
              have HC2 : Hid ((V9.alloc (.cells #[.int .u8 0, .int .i64 0, .int .i64 0, .int .i64 0, .int .i64 0, .int .u8 0] 31)).heap[wr.heap.size]? = some (.cells #[.int .u8 5, .int .i64 s, .int .i64 c, .int .i64 0, .int .i64 0, .int .u8 0] 31 (0, 0))) := (hK9 wr.heap.size (by omega)).trans hb2
              have hS2 : (fun w' : World => w'.cell? ⟨wr.heap.size, 0, none⟩ = some (.int .u8 5) ∧ w'.cell? ⟨wr.heap.size, 1, none⟩ = some (.int .i64 s) ∧ w'.cell? ⟨wr.heap.size, 2, none⟩ = some (.int .i64 c) ∧ w'.cell? ⟨wr.heap.size, 3, none⟩ = some (.int .i64 0) ∧ w'.cell? ⟨wr.heap.size, 4, none⟩ = some (.int .i64 0) ∧ w'.cell? ⟨wr.heap.size, 5, none⟩ = some (.int .u8 0) ∧ w'.cell? (a''.add j) = some (.int .u8 v)) (V9.alloc (.cells #[.int .u8 0, .int .i64 0, .int .i64 0, .int .i64 0, .int .i64 0, .int .u8 0] 31)) := ⟨by rw [cell_of_row _ _ _ _ _ _ (show (V9.alloc (.cells #[.int .u8 0, .int .i64 0, .int .i64 0, .int .i64 0, .int .i64 0, .int .u8 0] 31)).heap[_]? = _ from HC2.out)]; rfl, by rw [cell_of_row _ _ _ _ _ _ (show (V9.alloc (.cells #[.int .u8 0, .int .i64 0, .int .i64 0, .int .i64 0, .int .i64 0, .int .u8 0] 31)).heap[_]? = _ from HC2.out)]; rfl, by rw [cell_of_row _ _ _ _ _ _ (show (V9.alloc (.cells #[.int .u8 0, .int .i64 0, .int .i64 0, .int .i64 0, .int .i64 0, .int .u8 0] 31)).heap[_]? = _ from HC2.out)]; rfl, by rw [cell_of_row _ _ _ _ _ _ (show (V9.alloc (.cells #[.int .u8 0, .int .i64 0, .int .i64 0, .int .i64 0, .int .i64 0, .int .u8 0] 31)).heap[_]? = _ from HC2.out)]; rfl, by rw [cell_of_row _ _ _ _ _ _ (show (V9.alloc (.cells #[.int .u8 0, .int .i64 0, .int .i64 0, .int .i64 0, .int .i64 0, .int .u8 0] 31)).heap[_]? = _ from HC2.out)]; rfl, by rw [cell_of_row _ _ _ _ _ _ (show (V9.alloc (.cells #[.int .u8 0, .int .i64 0, .int .i64 0, .int .i64 0, .int .i64 0, .int .u8 0] 31)).heap[_]? = _ from HC2.out)]; rfl, (World.cell?_of_block (w' := (V9.alloc (.cells #[.int .u8 0, .int .i64 0, .int .i64 0, .int .i64 0, .int .i64 0, .int .u8 0] 31))) (a := a''.add j) (by (try rw [ad_block]); exact ((HLv.out.old.alloc HLv.out.old.size (.cells #[.int .u8 0, .int .i64 0, .int .i64 0, .int .i64 0, .int .i64 0, .int .u8 0] 31))).block _ haU'')).trans HV3.out⟩
              have HS2 := Lib.hid hS2
              refine hKK _ _ HS2.out (fun _ => ?_)
              clear hKK KK hS2
              clear hb0 hb1 hb2
              generalize hzn : V9.heap.size = ZZ at *
              refine lane_alone rfl (by kernel_rfl) (by rfl) (fun KK hKK => ?_)
              refine wp_store_row _ _ _ rfl ZZ _ rfl rfl _ _ HZ.out (by exact pnotice_info) rfl (by simp [Value.oneCell']) ?_
              rw [row_boxed HZ.out]
              have HD0 : Hid (ArrB (boxed (V9.alloc (.cells #[.int .u8 0, .int .i64 0, .int .i64 0, .int .i64 0, .int .i64 0, .int .u8 0] 31)) ZZ #[.int .u8 5, .int .i64 s, .int .i64 c, .int .i64 0, .int .i64 0, .int .u8 3] 31) SB 51 9 (gTold (st.ship ((s : Int), (c : Int)) v))) := HC0.out.kept (boxed_block_other (by omega))
              have HD1 : Hid ((boxed (V9.alloc (.cells #[.int .u8 0, .int .i64 0, .int .i64 0, .int .i64 0, .int .i64 0, .int .u8 0] 31)) ZZ #[.int .u8 5, .int .i64 s, .int .i64 c, .int .i64 0, .int .i64 0, .int .u8 3] 31).ownsRow U.heap.size 68 2 (Value.slice A9 st.trips.length c9) st.trips.length (tcl st.trips)) := own_kept HC1.out (fun i hi => boxed_block_other (hrz1 i hi))
              have HD2 : Hid ((boxed (V9.alloc (.cells #[.int .u8 0, .int .i64 0, .int .i64 0, .int .i64 0, .int .i64 0, .int .u8 0] 31)) ZZ #[.int .u8 5, .int .i64 s, .int .i64 c, .int .i64 0, .int .i64 0, .int .u8 3] 31).heap[wr.heap.size]? = some (.cells #[.int .u8 5, .int .i64 s, .int .i64 c, .int .i64 0, .int .i64 0, .int .u8 0] 31 (0, 0))) := boxed_old (by omega) HC2.out
              have HLy := Lib.hid (HLx.out.boxed (crt_thing (U.heap.size + 1) (st.ship ((s : Int), (c : Int)) v) (j + 1)) (g := ZZ) (cs := #[.int .u8 5, .int .i64 s, .int .i64 c, .int .i64 0, .int .i64 0, .int .u8 3]) (t := 31) (.inr rfl) (by omega))
              have hS4 : (fun w' : World => w'.cell? ⟨wr.heap.size, 0, none⟩ = some (.int .u8 5) ∧ w'.cell? ⟨wr.heap.size, 1, none⟩ = some (.int .i64 s) ∧ w'.cell? ⟨wr.heap.size, 2, none⟩ = some (.int .i64 c) ∧ w'.cell? ⟨wr.heap.size, 3, none⟩ = some (.int .i64 0) ∧ w'.cell? ⟨wr.heap.size, 4, none⟩ = some (.int .i64 0) ∧ w'.cell? ⟨wr.heap.size, 5, none⟩ = some (.int .u8 0) ∧ w'.cell? (a''.add j) = some (.int .u8 v)) (boxed (V9.alloc (.cells #[.int .u8 0, .int .i64 0, .int .i64 0, .int .i64 0, .int .i64 0, .int .u8 0] 31)) ZZ #[.int .u8 5, .int .i64 s, .int .i64 c, .int .i64 0, .int .i64 0, .int .u8 3] 31) := ⟨by rw [cell_of_row _ _ _ _ _ _ (show (boxed (V9.alloc (.cells #[.int .u8 0, .int .i64 0, .int .i64 0, .int .i64 0, .int .i64 0, .int .u8 0] 31)) ZZ #[.int .u8 5, .int .i64 s, .int .i64 c, .int .i64 0, .int .i64 0, .int .u8 3] 31).heap[_]? = _ from HD2.out)]; rfl, by rw [cell_of_row _ _ _ _ _ _ (show (boxed (V9.alloc (.cells #[.int .u8 0, .int .i64 0, .int .i64 0, .int .i64 0, .int .i64 0, .int .u8 0] 31)) ZZ #[.int .u8 5, .int .i64 s, .int .i64 c, .int .i64 0, .int .i64 0, .int .u8 3] 31).heap[_]? = _ from HD2.out)]; rfl, by rw [cell_of_row _ _ _ _ _ _ (show (boxed (V9.alloc (.cells #[.int .u8 0, .int .i64 0, .int .i64 0, .int .i64 0, .int .i64 0, .int .u8 0] 31)) ZZ #[.int .u8 5, .int .i64 s, .int .i64 c, .int .i64 0, .int .i64 0, .int .u8 3] 31).heap[_]? = _ from HD2.out)]; rfl, by rw [cell_of_row _ _ _ _ _ _ (show (boxed (V9.alloc (.cells #[.int .u8 0, .int .i64 0, .int .i64 0, .int .i64 0, .int .i64 0, .int .u8 0] 31)) ZZ #[.int .u8 5, .int .i64 s, .int .i64 c, .int .i64 0, .int .i64 0, .int .u8 3] 31).heap[_]? = _ from HD2.out)]; rfl, by rw [cell_of_row _ _ _ _ _ _ (show (boxed (V9.alloc (.cells #[.int .u8 0, .int .i64 0, .int .i64 0, .int .i64 0, .int .i64 0, .int .u8 0] 31)) ZZ #[.int .u8 5, .int .i64 s, .int .i64 c, .int .i64 0, .int .i64 0, .int .u8 3] 31).heap[_]? = _ from HD2.out)]; rfl, by rw [cell_of_row _ _ _ _ _ _ (show (boxed (V9.alloc (.cells #[.int .u8 0, .int .i64 0, .int .i64 0, .int .i64 0, .int .i64 0, .int .u8 0] 31)) ZZ #[.int .u8 5, .int .i64 s, .int .i64 c, .int .i64 0, .int .i64 0, .int .u8 3] 31).heap[_]? = _ from HD2.out)]; rfl, (World.cell?_of_block (w' := (boxed (V9.alloc (.cells #[.int .u8 0, .int .i64 0, .int .i64 0, .int .i64 0, .int .i64 0, .int .u8 0] 31)) ZZ #[.int .u8 5, .int .i64 s, .int .i64 c, .int .i64 0, .int .i64 0, .int .u8 3] 31)) (a := a''.add j) (by (try rw [ad_block]); exact (HLy.out.old).block _ haU'')).trans HV3.out⟩
              have HS4 := Lib.hid hS4
              refine hKK _ _ (by exact HS4.out) (fun _ => ?_)
              clear hKK KK hS4
              iterate 1 (refine lane_take (v := ?_) rfl (by kernel_rfl) (by kernel_rfl) (by rfl) ?_ (by exact HS4.out) ?_; rotate_left; (focus (intro w9 hSw; obtain ⟨x0, x1, x2, x3, x4, x5, x6⟩ := hSw; (try go_simp); try (with_reducible rfl))); simp only [Act.put, List.setIfInBounds_toArray, List.set_cons_zero, List.set_cons_succ])
              refine lane_end (by kernel_rfl) ?_
              refine ⟨rfl, ZZ, rfl, (HLy.out.less (fun i hi => by rcases hi with h0 | h1 | h2 | h3; exact .inl (.inl h0); exact .inl (.inr (.inl h1)); exact .inl (.inr (.inr h2)); exact .inr h3)), HD0.out, HD1.out, HD2.out, boxed_at hzz, by rw [boxed_size]; omega, by rw [boxed_size]; omega, by rw [boxed_size]; omega, by omega, by omega, by rw [boxed_size]; omega, by omega, by omega⟩
            · skip
              go_simp
              have hK9 : ∀ i, i < X6.heap.size → ((X6.alloc (.cells #[.int .u8 0, .int .i64 0, .int .i64 0, .int .i64 0, .int .i64 0, .int .u8 0] 31)).drew).heap[i]? = X6.heap[i]? := fun i hi => alloc_block_old (w := X6) hi
              have hd0 : ArrB ((X6.alloc (.cells #[.int .u8 0, .int .i64 0, .int .i64 0, .int .i64 0, .int .i64 0, .int .u8 0] 31)).drew) SB 51 9 (gTold (st.ship ((s : Int), (c : Int)) v)) := H6_0.out.kept (hK9 SB (by omega))
              have hd1 : ((X6.alloc (.cells #[.int .u8 0, .int .i64 0, .int .i64 0, .int .i64 0, .int .i64 0, .int .u8 0] 31)).drew).ownsRow U.heap.size 68 2 (Value.slice A9 st.trips.length c9) st.trips.length (tcl st.trips) := own_kept H6_1.out (fun i hi => hK9 i (H6_1.out.lt i hi).2)
              have hd2 : ((X6.alloc (.cells #[.int .u8 0, .int .i64 0, .int .i64 0, .int .i64 0, .int .i64 0, .int .u8 0] 31)).drew).heap[wr.heap.size]? = some (.cells #[.int .u8 5, .int .i64 s, .int .i64 c, .int .i64 0, .int .i64 0, .int .u8 0] 31 (0, 0)) := (hK9 wr.heap.size (by omega)).trans H6_2.out
              have hS2 : (fun w' : World => w'.cell? ⟨wr.heap.size, 0, none⟩ = some (.int .u8 5) ∧ w'.cell? ⟨wr.heap.size, 1, none⟩ = some (.int .i64 s) ∧ w'.cell? ⟨wr.heap.size, 2, none⟩ = some (.int .i64 c) ∧ w'.cell? ⟨wr.heap.size, 3, none⟩ = some (.int .i64 0) ∧ w'.cell? ⟨wr.heap.size, 4, none⟩ = some (.int .i64 0) ∧ w'.cell? ⟨wr.heap.size, 5, none⟩ = some (.int .u8 0) ∧ w'.cell? (a''.add j) = some (.int .u8 v)) ((X6.alloc (.cells #[.int .u8 0, .int .i64 0, .int .i64 0, .int .i64 0, .int .i64 0, .int .u8 0] 31)).drew) := ⟨by rw [cell_of_row _ _ _ _ _ _ (show ((X6.alloc (.cells #[.int .u8 0, .int .i64 0, .int .i64 0, .int .i64 0, .int .i64 0, .int .u8 0] 31)).drew).heap[_]? = _ from hd2)]; rfl, by rw [cell_of_row _ _ _ _ _ _ (show ((X6.alloc (.cells #[.int .u8 0, .int .i64 0, .int .i64 0, .int .i64 0, .int .i64 0, .int .u8 0] 31)).drew).heap[_]? = _ from hd2)]; rfl, by rw [cell_of_row _ _ _ _ _ _ (show ((X6.alloc (.cells #[.int .u8 0, .int .i64 0, .int .i64 0, .int .i64 0, .int .i64 0, .int .u8 0] 31)).drew).heap[_]? = _ from hd2)]; rfl, by rw [cell_of_row _ _ _ _ _ _ (show ((X6.alloc (.cells #[.int .u8 0, .int .i64 0, .int .i64 0, .int .i64 0, .int .i64 0, .int .u8 0] 31)).drew).heap[_]? = _ from hd2)]; rfl, by rw [cell_of_row _ _ _ _ _ _ (show ((X6.alloc (.cells #[.int .u8 0, .int .i64 0, .int .i64 0, .int .i64 0, .int .i64 0, .int .u8 0] 31)).drew).heap[_]? = _ from hd2)]; rfl, by rw [cell_of_row _ _ _ _ _ _ (show ((X6.alloc (.cells #[.int .u8 0, .int .i64 0, .int .i64 0, .int .i64 0, .int .i64 0, .int .u8 0] 31)).drew).heap[_]? = _ from hd2)]; rfl, (World.cell?_of_block (w' := ((X6.alloc (.cells #[.int .u8 0, .int .i64 0, .int .i64 0, .int .i64 0, .int .i64 0, .int .u8 0] 31)).drew)) (a := a''.add j) (by (try rw [ad_block]); exact ((HL6.out.old.alloc HL6.out.old.size (.cells #[.int .u8 0, .int .i64 0, .int .i64 0, .int .i64 0, .int .i64 0, .int .u8 0] 31))).block _ haU'')).trans HV3.out⟩
              have HS2 := Lib.hid hS2
              refine hKK _ _ HS2.out (fun _ => ?_)
              clear hKK KK hS2
              refine lane_alone rfl (by kernel_rfl) (by rfl) (fun KK hKK => ?_)
              go_simp
              refine (chear_said_live HAS.out ((HL6.out.alloc (crt_thing (U.heap.size + 1) st j) (.cells #[.int .u8 0, .int .i64 0, .int .i64 0, .int .i64 0, .int .i64 0, .int .u8 0] 31)).drew (crt_thing (U.heap.size + 1) st j)) (fun i hi => by show i < (X6.alloc (.cells #[.int .u8 0, .int .i64 0, .int .i64 0, .int .i64 0, .int .i64 0, .int .u8 0] 31)).heap.size; rw [World.size_alloc]; rcases hi with hi | hi; exact Nat.lt_succ_of_lt (hN9 i hi); omega) hk (by omega)).mono ?_
              rintro e V9 ⟨rfl, hl, hk0⟩
              have hk : KeptO U (fun (i : Nat) => i = SB ∨ (Value.slice A9 st.trips.length c9).ownBlock = some i ∨ i = wr.heap.size) ((X6.alloc (.cells #[.int .u8 0, .int .i64 0, .int .i64 0, .int .i64 0, .int .i64 0, .int .u8 0] 31)).drew) V9 := ⟨hk0.size, fun i hi => hk0.block i (.inl hi), hk0.old⟩
              have hsz : (X6.alloc (.cells #[.int .u8 0, .int .i64 0, .int .i64 0, .int .i64 0, .int .i64 0, .int .u8 0] 31)).heap.size ≤ V9.heap.size := hk.size
              rw [World.size_alloc] at hsz
              have hb0 : ArrB V9 SB 51 9 (gTold (st.ship ((s : Int), (c : Int)) v)) := hd0.kept (hk.block SB (.inl rfl))
              have hb1 : V9.ownsRow U.heap.size 68 2 (Value.slice A9 st.trips.length c9) st.trips.length (tcl st.trips) := own_kept hd1 (fun i hi => hk.block i (.inr (.inl hi)))
              have hb2 : V9.heap[wr.heap.size]? = some (.cells #[.int .u8 5, .int .i64 s, .int .i64 c, .int .i64 0, .int .i64 0, .int .u8 0] 31 (0, 0)) := (hk.block wr.heap.size (.inr (.inr rfl))).trans hd2
              have HZ : Hid (V9.heap[X6.heap.size]? = some (.cells #[.int .u8 0, .int .i64 0, .int .i64 0, .int .i64 0, .int .i64 0, .int .u8 0] 31 (0, 0))) := (hk0.block _ (.inr rfl)).trans (show (X6.alloc (.cells #[.int .u8 0, .int .i64 0, .int .i64 0, .int .i64 0, .int .i64 0, .int .u8 0] 31)).heap[_]? = _ from alloc_block)
              have HLx := Lib.hid hl
              have hS3 : (fun w' : World => w'.cell? ⟨wr.heap.size, 0, none⟩ = some (.int .u8 5) ∧ w'.cell? ⟨wr.heap.size, 1, none⟩ = some (.int .i64 s) ∧ w'.cell? ⟨wr.heap.size, 2, none⟩ = some (.int .i64 c) ∧ w'.cell? ⟨wr.heap.size, 3, none⟩ = some (.int .i64 0) ∧ w'.cell? ⟨wr.heap.size, 4, none⟩ = some (.int .i64 0) ∧ w'.cell? ⟨wr.heap.size, 5, none⟩ = some (.int .u8 0) ∧ w'.cell? (a''.add j) = some (.int .u8 v)) V9 := ⟨by rw [cell_of_row _ _ _ _ _ _ (show V9.heap[_]? = _ from hb2)]; rfl, by rw [cell_of_row _ _ _ _ _ _ (show V9.heap[_]? = _ from hb2)]; rfl, by rw [cell_of_row _ _ _ _ _ _ (show V9.heap[_]? = _ from hb2)]; rfl, by rw [cell_of_row _ _ _ _ _ _ (show V9.heap[_]? = _ from hb2)]; rfl, by rw [cell_of_row _ _ _ _ _ _ (show V9.heap[_]? = _ from hb2)]; rfl, by rw [cell_of_row _ _ _ _ _ _ (show V9.heap[_]? = _ from hb2)]; rfl, (World.cell?_of_block (w' := V9) (a := a''.add j) (by (try rw [ad_block]); exact (HLx.out.old).block _ haU'')).trans HV3.out⟩
              have HS2 := Lib.hid hS3
              refine hKK _ _ HS2.out (fun _ => ?_)
              clear hKK KK hS3 hl hk hk0
              iterate 3 (refine lane_take (v := ?_) rfl (by kernel_rfl) (by kernel_rfl) (by rfl) ?_ (by exact HS2.out) ?_; rotate_left; (focus (intro w9 hSw; obtain ⟨x0, x1, x2, x3, x4, x5, x6⟩ := hSw; (try go_simp); try (with_reducible rfl))); simp only [Act.put, List.setIfInBounds_toArray, List.set_cons_zero, List.set_cons_succ])
              have hzz : X6.heap.size < V9.heap.size := by omega
              have hzl : X6.heap.size ≤ X6.heap.size := by omega
              have HC0 : Hid (ArrB V9 SB 51 9 (gTold (st.ship ((s : Int), (c : Int)) v))) := hb0
              have HC1 : Hid (V9.ownsRow U.heap.size 68 2 (Value.slice A9 st.trips.length c9) st.trips.length (tcl st.trips)) := hb1
              have hrz1 : ∀ i, (Value.slice A9 st.trips.length c9).ownBlock = some i → i ≠ X6.heap.size := fun i hi e => by have := (H6_1.out.lt i hi).2; omega
              have HC2 : Hid (V9.heap[wr.heap.size]? = some (.cells #[.int .u8 5, .int .i64 s, .int .i64 c, .int .i64 0, .int .i64 0, .int .u8 0] 31 (0, 0))) := hb2
              clear hb0 hb1 hb2
              generalize hzn : X6.heap.size = ZZ at *
              refine lane_alone rfl (by kernel_rfl) (by rfl) (fun KK hKK => ?_)
              refine wp_store_row _ _ _ rfl ZZ _ rfl rfl _ _ HZ.out (by exact pnotice_info) rfl (by simp [Value.oneCell']) ?_
              rw [row_boxed HZ.out]
              have HD0 : Hid (ArrB (boxed V9 ZZ #[.int .u8 5, .int .i64 s, .int .i64 c, .int .i64 0, .int .i64 0, .int .u8 3] 31) SB 51 9 (gTold (st.ship ((s : Int), (c : Int)) v))) := HC0.out.kept (boxed_block_other (by omega))
              have HD1 : Hid ((boxed V9 ZZ #[.int .u8 5, .int .i64 s, .int .i64 c, .int .i64 0, .int .i64 0, .int .u8 3] 31).ownsRow U.heap.size 68 2 (Value.slice A9 st.trips.length c9) st.trips.length (tcl st.trips)) := own_kept HC1.out (fun i hi => boxed_block_other (hrz1 i hi))
              have HD2 : Hid ((boxed V9 ZZ #[.int .u8 5, .int .i64 s, .int .i64 c, .int .i64 0, .int .i64 0, .int .u8 3] 31).heap[wr.heap.size]? = some (.cells #[.int .u8 5, .int .i64 s, .int .i64 c, .int .i64 0, .int .i64 0, .int .u8 0] 31 (0, 0))) := boxed_old (by omega) HC2.out
              have HLy := Lib.hid (HLx.out.boxed (crt_thing (U.heap.size + 1) (st.ship ((s : Int), (c : Int)) v) (j + 1)) (g := ZZ) (cs := #[.int .u8 5, .int .i64 s, .int .i64 c, .int .i64 0, .int .i64 0, .int .u8 3]) (t := 31) (.inr rfl) (by omega))
              have hS4 : (fun w' : World => w'.cell? ⟨wr.heap.size, 0, none⟩ = some (.int .u8 5) ∧ w'.cell? ⟨wr.heap.size, 1, none⟩ = some (.int .i64 s) ∧ w'.cell? ⟨wr.heap.size, 2, none⟩ = some (.int .i64 c) ∧ w'.cell? ⟨wr.heap.size, 3, none⟩ = some (.int .i64 0) ∧ w'.cell? ⟨wr.heap.size, 4, none⟩ = some (.int .i64 0) ∧ w'.cell? ⟨wr.heap.size, 5, none⟩ = some (.int .u8 0) ∧ w'.cell? (a''.add j) = some (.int .u8 v)) (boxed V9 ZZ #[.int .u8 5, .int .i64 s, .int .i64 c, .int .i64 0, .int .i64 0, .int .u8 3] 31) := ⟨by rw [cell_of_row _ _ _ _ _ _ (show (boxed V9 ZZ #[.int .u8 5, .int .i64 s, .int .i64 c, .int .i64 0, .int .i64 0, .int .u8 3] 31).heap[_]? = _ from HD2.out)]; rfl, by rw [cell_of_row _ _ _ _ _ _ (show (boxed V9 ZZ #[.int .u8 5, .int .i64 s, .int .i64 c, .int .i64 0, .int .i64 0, .int .u8 3] 31).heap[_]? = _ from HD2.out)]; rfl, by rw [cell_of_row _ _ _ _ _ _ (show (boxed V9 ZZ #[.int .u8 5, .int .i64 s, .int .i64 c, .int .i64 0, .int .i64 0, .int .u8 3] 31).heap[_]? = _ from HD2.out)]; rfl, by rw [cell_of_row _ _ _ _ _ _ (show (boxed V9 ZZ #[.int .u8 5, .int .i64 s, .int .i64 c, .int .i64 0, .int .i64 0, .int .u8 3] 31).heap[_]? = _ from HD2.out)]; rfl, by rw [cell_of_row _ _ _ _ _ _ (show (boxed V9 ZZ #[.int .u8 5, .int .i64 s, .int .i64 c, .int .i64 0, .int .i64 0, .int .u8 3] 31).heap[_]? = _ from HD2.out)]; rfl, by rw [cell_of_row _ _ _ _ _ _ (show (boxed V9 ZZ #[.int .u8 5, .int .i64 s, .int .i64 c, .int .i64 0, .int .i64 0, .int .u8 3] 31).heap[_]? = _ from HD2.out)]; rfl, (World.cell?_of_block (w' := (boxed V9 ZZ #[.int .u8 5, .int .i64 s, .int .i64 c, .int .i64 0, .int .i64 0, .int .u8 3] 31)) (a := a''.add j) (by (try rw [ad_block]); exact (HLy.out.old).block _ haU'')).trans HV3.out⟩
              have HS4 := Lib.hid hS4
              refine hKK _ _ (by exact HS4.out) (fun _ => ?_)
              clear hKK KK hS4
              iterate 1 (refine lane_take (v := ?_) rfl (by kernel_rfl) (by kernel_rfl) (by rfl) ?_ (by exact HS4.out) ?_; rotate_left; (focus (intro w9 hSw; obtain ⟨x0, x1, x2, x3, x4, x5, x6⟩ := hSw; (try go_simp); try (with_reducible rfl))); simp only [Act.put, List.setIfInBounds_toArray, List.set_cons_zero, List.set_cons_succ])
              refine lane_end (by kernel_rfl) ?_
              refine ⟨rfl, ZZ, rfl, (HLy.out.less (fun i hi => by rcases hi with h0 | h1 | h2 | h3; exact .inl (.inl h0); exact .inl (.inr (.inl h1)); exact .inl (.inr (.inr h2)); exact .inr h3)), HD0.out, HD1.out, HD2.out, boxed_at hzz, by rw [boxed_size]; omega, by rw [boxed_size]; omega, by rw [boxed_size]; omega, by omega, by omega, by rw [boxed_size]; omega, by omega, by omega⟩
          rintro Zh X7 ⟨HL7, H7_0, H7_1, H7_2, HZ9, ls7, lc9_0, lc9_1, ld9_0, ld9_1, le9, lf9, lt7⟩
          have H7_3 := HZ9
          clear HZ9
          have c2_0 : X7.cell? ⟨wr.heap.size, 0, none⟩ = some (.int .u8 5) := by rw [cell_of_row _ _ _ _ _ _ H7_2.out]; rfl
          have c2_1 : X7.cell? ⟨wr.heap.size, 1, none⟩ = some (.int .i64 s) := by rw [cell_of_row _ _ _ _ _ _ H7_2.out]; rfl
          have c2_2 : X7.cell? ⟨wr.heap.size, 2, none⟩ = some (.int .i64 c) := by rw [cell_of_row _ _ _ _ _ _ H7_2.out]; rfl
          have c2_3 : X7.cell? ⟨wr.heap.size, 3, none⟩ = some (.int .i64 0) := by rw [cell_of_row _ _ _ _ _ _ H7_2.out]; rfl
          have c2_4 : X7.cell? ⟨wr.heap.size, 4, none⟩ = some (.int .i64 0) := by rw [cell_of_row _ _ _ _ _ _ H7_2.out]; rfl
          have c2_5 : X7.cell? ⟨wr.heap.size, 5, none⟩ = some (.int .u8 0) := by rw [cell_of_row _ _ _ _ _ _ H7_2.out]; rfl
          have z1 : X7.cell? ⟨SB, s * 3 + c, none⟩ = some (.int .u8 3) := by rw [H7_0.out.cell (by omega), gTold_at c3]; exact congrArg (fun u => some (Value.int .u8 u)) (by rw [HAN.out]; rfl)
          have HZ1 := Lib.hid z1
          clear z1
          go_wp2_with (fail)
          have HS0 : Hid ((fun w' : World => w'.cell? ⟨wr.heap.size, 1, none⟩ = some (.int .i64 s) ∧ w'.cell? ⟨wr.heap.size, 2, none⟩ = some (.int .i64 c) ∧ w'.cell? (⟨SB, s * 3 + c, none⟩) = some (.int .u8 3)) X7.drew) := ⟨by rw [cell_of_row _ _ _ _ _ _ (show X7.drew.heap[_]? = _ from H7_2.out)]; rfl, by rw [cell_of_row _ _ _ _ _ _ (show X7.drew.heap[_]? = _ from H7_2.out)]; rfl, HZ1.out⟩
          refine lane_start (ord := [0, 1, 2, 3, 4, 5, 6, 7, 8]) (S := (fun w' : World => w'.cell? ⟨wr.heap.size, 1, none⟩ = some (.int .i64 s) ∧ w'.cell? ⟨wr.heap.size, 2, none⟩ = some (.int .i64 c) ∧ w'.cell? (⟨SB, s * 3 + c, none⟩) = some (.int .u8 3))) rfl (by kernel_rfl) (by exact HS0.out) (fun _ => ?_)
          iterate 8 (refine lane_take (v := ?_) rfl (by kernel_rfl) (by kernel_rfl) (by rfl) ?_ (by exact HS0.out) ?_; rotate_left; (focus (intro w9 hSw; obtain ⟨x0, x1, x2⟩ := hSw; (try go_simp); try (with_reducible rfl))); simp only [Act.put, List.setIfInBounds_toArray, List.set_cons_zero, List.set_cons_succ])
          refine lane_alone rfl (by kernel_rfl) (by rfl) (fun KK hKK => ?_)
          have hA9 : X7.drew.heap[wr.heap.size]? = some (.cells #[.int .u8 5, .int .i64 s, .int .i64 c, .int .i64 0, .int .i64 0, .int .u8 0] 31 (0, 0)) := H7_2.out
          have hA8 : X7.drew.cell? ⟨wr.heap.size, 5, none⟩ = some (.int .u8 0) := by rw [cell_of_row _ _ _ _ _ _ hA9]; rfl
          refine wp_of_skip (exec_store_one rfl (by rfl) rfl (by kernel_rfl) rfl hA8 (by rw [World.frozen?, hA9]; simp)) ?_
          clear hA8
          have hS9 : (fun w' : World => w'.cell? ⟨wr.heap.size, 1, none⟩ = some (.int .i64 s) ∧ w'.cell? ⟨wr.heap.size, 2, none⟩ = some (.int .i64 c) ∧ w'.cell? (⟨SB, s * 3 + c, none⟩) = some (.int .u8 3)) (X7.drew.setCell ⟨wr.heap.size, 5, none⟩ (.int .u8 3)) := ⟨by rw [cell_of_row _ _ _ _ _ _ (blk_set hA9 (5) _)]; rfl, by rw [cell_of_row _ _ _ _ _ _ (blk_set hA9 (5) _)]; rfl, (World.cell?_of_block (w' := (X7.drew.setCell ⟨wr.heap.size, 5, none⟩ (.int .u8 3))) (a := ⟨SB, s * 3 + c, none⟩) (setCell_other (by show (Addr.block ⟨SB, s * 3 + c, none⟩) ≠ wr.heap.size; show SB ≠ wr.heap.size; omega))).trans HZ1.out⟩
          refine hKK _ _ (by exact hS9) (fun _ => ?_)
          clear hKK KK hA9 HS0 hS9
          refine lane_end (by kernel_rfl) ?_
          change Exit.then _ _ Exit.normal _ (X7.drew.setCell ⟨wr.heap.size, 5, none⟩ (.int .u8 3))
          have hK : ∀ i, i < X7.heap.size → X7.drew.heap[i]? = X7.heap[i]? := fun i hi => rfl
          have H8_0 : Hid (ArrB X7.drew SB 51 9 (gTold (st.ship ((s : Int), (c : Int)) v))) := H7_0.out.kept (hK SB (by omega))
          have H8_1 : Hid (X7.drew.ownsRow U.heap.size 68 2 (Value.slice A9 st.trips.length c9) st.trips.length (tcl st.trips)) := own_kept H7_1.out (fun i hi => hK i (H7_1.out.lt i hi).2)
          have H8_2 : Hid (X7.drew.heap[wr.heap.size]? = some (.cells #[.int .u8 5, .int .i64 s, .int .i64 c, .int .i64 0, .int .i64 0, .int .u8 0] 31 (0, 0))) := (hK wr.heap.size (by omega)).trans H7_2.out
          have H8_3 : Hid (X7.drew.heap[Zh]? = some (.cells #[.int .u8 5, .int .i64 s, .int .i64 c, .int .i64 0, .int .i64 0, .int .u8 3] 31 (0, 0))) := (hK Zh (by omega)).trans H7_3.out
          have HL8 : Hid (LiveO (CrtB (U.heap.size + 1) (st.ship ((s : Int), (c : Int)) v) (j + 1)) U (fun (i : Nat) => i = SB ∨ (Value.slice A9 st.trips.length c9).ownBlock = some i ∨ i = wr.heap.size ∨ i = Zh) X7.drew) := HL7.out.drew (crt_thing (U.heap.size + 1) (st.ship ((s : Int), (c : Int)) v) (j + 1))
          have : SB < X7.drew.heap.size := by show _ < X7.heap.size; first | omega | (rw [World.size_alloc]; omega) | (rw [setCell_size]; omega)
          have : wr.heap.size < X7.drew.heap.size := by show _ < X7.heap.size; first | omega | (rw [World.size_alloc]; omega) | (rw [setCell_size]; omega)
          have : Zh < X7.drew.heap.size := by show _ < X7.heap.size; first | omega | (rw [World.size_alloc]; omega) | (rw [setCell_size]; omega)
          have ls8 : U.heap.size ≤ X7.drew.heap.size := by show _ ≤ X7.heap.size; first | omega | (rw [World.size_alloc]; omega) | (rw [setCell_size]; omega)
          have lt8 : X7.heap.size ≤ X7.drew.heap.size := by show _ ≤ X7.heap.size; first | omega | (rw [World.size_alloc]; omega) | (rw [setCell_size]; omega)
          have lu8 : X7.drew.heap.size ≤ X7.heap.size := by show X7.heap.size ≤ _; omega
          clear hK HL7 H7_0 H7_1 H7_2 H7_3 c2_0 c2_1 c2_2 c2_3 c2_4 c2_5
          generalize X7.drew = X8 at *
          have hK : ∀ i, i < X8.heap.size → i ≠ wr.heap.size → (X8.setCell ⟨wr.heap.size, 5, none⟩ (.int .u8 3)).heap[i]? = X8.heap[i]? := fun i _ hi => setCell_other hi
          have H9_0 : Hid (ArrB (X8.setCell ⟨wr.heap.size, 5, none⟩ (.int .u8 3)) SB 51 9 (gTold (st.ship ((s : Int), (c : Int)) v))) := H8_0.out.kept (hK SB (by omega) (by omega))
          have H9_1 : Hid ((X8.setCell ⟨wr.heap.size, 5, none⟩ (.int .u8 3)).ownsRow U.heap.size 68 2 (Value.slice A9 st.trips.length c9) st.trips.length (tcl st.trips)) := own_kept H8_1.out (fun i hi => hK i (H8_1.out.lt i hi).2 (fun e => own_ne H8_1.out H8_2.out (by decide) (hi.trans (by rw [e]))))
          have H9_2 : Hid ((X8.setCell ⟨wr.heap.size, 5, none⟩ (.int .u8 3)).heap[wr.heap.size]? = some (.cells #[.int .u8 5, .int .i64 s, .int .i64 c, .int .i64 0, .int .i64 0, .int .u8 3] 31 (0, 0))) := blk_set H8_2.out (5) _
          have H9_3 : Hid ((X8.setCell ⟨wr.heap.size, 5, none⟩ (.int .u8 3)).heap[Zh]? = some (.cells #[.int .u8 5, .int .i64 s, .int .i64 c, .int .i64 0, .int .i64 0, .int .u8 3] 31 (0, 0))) := (hK Zh (by omega) (by omega)).trans H8_3.out
          have HL9 : Hid (LiveO (CrtB (U.heap.size + 1) (st.ship ((s : Int), (c : Int)) v) (j + 1)) U (fun (i : Nat) => i = SB ∨ (Value.slice A9 st.trips.length c9).ownBlock = some i ∨ i = wr.heap.size ∨ i = Zh) (X8.setCell ⟨wr.heap.size, 5, none⟩ (.int .u8 3))) := HL8.out.setCell (crt_thing (U.heap.size + 1) (st.ship ((s : Int), (c : Int)) v) (j + 1)) (p := ⟨wr.heap.size, 5, none⟩) (.inr (.inr (.inl rfl))) (by show U.heap.size ≤ wr.heap.size; omega)
          have : SB < (X8.setCell ⟨wr.heap.size, 5, none⟩ (.int .u8 3)).heap.size := by first | omega | (rw [World.size_alloc]; omega) | (rw [setCell_size]; omega)
          have : wr.heap.size < (X8.setCell ⟨wr.heap.size, 5, none⟩ (.int .u8 3)).heap.size := by first | omega | (rw [World.size_alloc]; omega) | (rw [setCell_size]; omega)
          have : Zh < (X8.setCell ⟨wr.heap.size, 5, none⟩ (.int .u8 3)).heap.size := by first | omega | (rw [World.size_alloc]; omega) | (rw [setCell_size]; omega)
          have ls9 : U.heap.size ≤ (X8.setCell ⟨wr.heap.size, 5, none⟩ (.int .u8 3)).heap.size := by first | omega | (rw [World.size_alloc]; omega) | (rw [setCell_size]; omega)
          have lt9 : X8.heap.size ≤ (X8.setCell ⟨wr.heap.size, 5, none⟩ (.int .u8 3)).heap.size := by first | omega | (rw [World.size_alloc]; omega) | (rw [setCell_size]; omega)
          clear hK HL8 H8_0 H8_1 H8_2 H8_3
          generalize (X8.setCell ⟨wr.heap.size, 5, none⟩ (.int .u8 3)) = X9 at *
          have c2_0 : X9.cell? ⟨wr.heap.size, 0, none⟩ = some (.int .u8 5) := by rw [cell_of_row _ _ _ _ _ _ H9_2.out]; rfl
          have c2_1 : X9.cell? ⟨wr.heap.size, 1, none⟩ = some (.int .i64 s) := by rw [cell_of_row _ _ _ _ _ _ H9_2.out]; rfl
          have c2_2 : X9.cell? ⟨wr.heap.size, 2, none⟩ = some (.int .i64 c) := by rw [cell_of_row _ _ _ _ _ _ H9_2.out]; rfl
          have c2_3 : X9.cell? ⟨wr.heap.size, 3, none⟩ = some (.int .i64 0) := by rw [cell_of_row _ _ _ _ _ _ H9_2.out]; rfl
          have c2_4 : X9.cell? ⟨wr.heap.size, 4, none⟩ = some (.int .i64 0) := by rw [cell_of_row _ _ _ _ _ _ H9_2.out]; rfl
          have c2_5 : X9.cell? ⟨wr.heap.size, 5, none⟩ = some (.int .u8 3) := by rw [cell_of_row _ _ _ _ _ _ H9_2.out]; rfl
          have c3_0 : X9.cell? ⟨Zh, 0, none⟩ = some (.int .u8 5) := by rw [cell_of_row _ _ _ _ _ _ H9_3.out]; rfl
          have c3_1 : X9.cell? ⟨Zh, 1, none⟩ = some (.int .i64 s) := by rw [cell_of_row _ _ _ _ _ _ H9_3.out]; rfl
          have c3_2 : X9.cell? ⟨Zh, 2, none⟩ = some (.int .i64 c) := by rw [cell_of_row _ _ _ _ _ _ H9_3.out]; rfl
          have c3_3 : X9.cell? ⟨Zh, 3, none⟩ = some (.int .i64 0) := by rw [cell_of_row _ _ _ _ _ _ H9_3.out]; rfl
          have c3_4 : X9.cell? ⟨Zh, 4, none⟩ = some (.int .i64 0) := by rw [cell_of_row _ _ _ _ _ _ H9_3.out]; rfl
          have c3_5 : X9.cell? ⟨Zh, 5, none⟩ = some (.int .u8 3) := by rw [cell_of_row _ _ _ _ _ _ H9_3.out]; rfl
          go_wp2
          go_roundw
          case rel => exact ⟨j + 1, (st.ship ((s : Int), (c : Int)) v), A9, c9, by omega, by go_num, by rw [ship_no HSD.out hv1], (HF.out.ship s3 _), by first | omega | (rw [ship_no HSD.out hv1]; omega), (HL9.out.less (fun i hi => by rcases hi with rfl | hi; exact .inl rfl; exact .inr (.inl (by first | exact hi | (rw [ship_no HSD.out hv1] at hi; exact hi) | (have h9 := hi; rw [← HT] at h9; exact h9))))).imp (fun F hF => crtB_mono hF (by omega)), H9_0, by rw [ship_no HSD.out hv1]; exact H9_1⟩
          case measure => simp [intOf]; omega
theorem cartPlays_walk {w : World} (A : Option Addr) (c : Nat) (l : List Int) (hr : Rd w .u8 w.heap.size A l) (hw : ∀ x ∈ l, (Lit.int .u8 x).wf = true) (A' : Option Addr) (c' : Nat) (l' : List Int) (hr' : Rd w .u8 w.heap.size A' l') (hw' : ∀ x ∈ l', (Lit.int .u8 x).wf = true) (A'' : Option Addr) (c'' : Nat) (l'' : List Int) (hr'' : Rd w .u8 w.heap.size A'' l'') (_ : ∀ x ∈ l'', (Lit.int .u8 x).wf = true) :
    Calls Try.prog 10 #[.slice A l.length c, .slice A' l'.length c', .slice A'' l''.length c''] w fun e w' => e = .returned (.bool true) ∧ Below w.heap.size w w' := by
  by_cases h : l.length ≤ 50 ∧ l.length ≤ l'.length ∧ l.length ≤ l''.length
  · exact cartPlays_in A A' A'' _ _ _ c c' c'' l l' l'' hr hr' hr'' (fun x hx => wf_u8 (hw x hx)) (fun x hx => wf_u8 (hw' x hx)) rfl rfl rfl h.1 h.2.1 h.2.2
  · exact cartPlays_far A A' A'' _ _ _ c c' c'' (by omega)
end Go.Proofs.Ytcjhgckkbekhoaa
