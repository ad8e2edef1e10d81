/-
  BookReads: any bytes are read as none, or as a book that has just these bytes. No conditions.
-/
import Derived.Laws.BitsAllLaws
import Derived.Deep.CutRange
import Derived.Test.YtblikgbcakgdnaaGreatBr48
set_option linter.unusedSimpArgs false
set_option linter.unusedVariables false
namespace Go.Proofs.YtblikgbcakgdnaaGreat
set_option linter.unusedVariables false
set_option linter.unusedSimpArgs false
set_option maxRecDepth 100000
open Go.ChangeShapes Go.WideShapes Go.ChangeAt Go.RowKit

theorem Pk.encs_ge : ∀ ns : List Int, ns.length ≤ (Pk.encs ns).length
  | [] => Nat.zero_le _
  | n :: r => by
    rw [Pk.encs_cons, List.length_append, List.length_cons]
    have := Pk.enc_pos (Pk.zig n)
    have := Pk.encs_ge r
    omega
theorem Kbd.csm {lo hi : Int} {c : Cv} (h : Kbd.CIn lo hi c) (h0 : -10000000 ≤ lo) (h1 : hi ≤ 10000000) : Kbe.CSm c := by
  have := h.n; have := h.d; have := h.p; have := h.a; have := h.u; have := h.t; have := h.x
  constructor <;> (try unfold Kbe.Sm) <;> omega
theorem Kbd.rise_sm {hi : Int} (h1 : hi ≤ 10000000) : ∀ (l : List Cv) (lo : Int), -10000000 ≤ lo → Kbd.Rise hi lo l → ∀ c ∈ l, Kbe.CSm c
  | [], _, _, _, c, hc => by cases hc
  | q :: r, lo, h0, h, c, hc => by
    have hq := h.1.n
    rcases List.mem_cons.1 hc with rfl | hc
    · exact Kbd.csm h.1 h0 h1
    · exact Kbd.rise_sm h1 r _ (by omega) h.2 c hc
theorem Kbd.asm {plans : Int} {a : Av} (h : Kbd.AOk plans a) (hp : plans ≤ 1000) : Kbe.ASm a ∧ a.l.length ≤ 3652059 := by
  rcases h with rfl | h
  · exact ⟨Kbe.zero_sm, Nat.zero_le _⟩
  · have := h.st; have := h.pl; have := h.an; have := h.ix; have := h.ct; have := h.cr; have := h.dn; have := h.un; have := h.rf; have := h.sp; have := h.pd; have := h.len
    refine ⟨⟨by omega, by unfold Kbe.Sm; omega, by unfold Kbe.Sm; omega, by unfold Kbe.Sm; omega, by unfold Kbe.Sm; omega, by unfold Kbe.Sm; omega, by unfold Kbe.Sm; omega, by unfold Kbe.Sm; omega, by unfold Kbe.Sm; omega, by unfold Kbe.Sm; omega, by unfold Kbe.Sm; omega, Kbd.rise_sm (by omega) a.l 0 (by omega) h.l⟩, by omega⟩
/-- Any bytes read: none, or a book that has just these. -/
def RdsPost (l : List Int) (w : World) (e : Ending) (w' : World) : Prop := (∃ (d : Kb) (ps : List Pv), e = .returned (.tuple #[.agg d.arr, .int .i64 0]) ∧ KbM w' w.heap.size w'.heap.size d ps ∧ Kbe.BSm d.td ps d.a ∧ Pk.encs (Kbe.book d.td ps d.a) = l) ∧ Below w.heap.size w w' ∨ e = .returned (.tuple #[.agg Kb.zero.arr, .int .i64 4]) ∧ Below w.heap.size w w'
theorem decode_reads {w : World} {A : Option Addr} {c m : Nat} {l : List Int} (hr : Rd w .u8 w.heap.size A l) (hm : l.length = m) (hl : m ≤ 700000) (hb : ∀ x ∈ l, 0 ≤ x ∧ x < 256) : Calls Tryz.prog 18 #[.slice A m c] w (RdsPost l w) := by
  subst hm
  refine (decode_any hr (by omega) hb).mono ?_
  rintro e w' ⟨td, ps, a, l', f', hbk, hc, hbl⟩
  rcases hc with ⟨rfl, rfl, d, rfl, hd, hda, hkm⟩ | ⟨_, rfl⟩
  · obtain ⟨hin, hle⟩ := hbk.ok fun x hx => (hb x hx).1
    have hlen := Pk.encs_ge (Kbe.book td ps a)
    rw [← hle] at hlen
    have es : ∀ n, n ≤ 32 → Kbe.subs d.a n = Kbe.subs a n := fun n => by
      induction n with
      | zero => intro _; rfl
      | succ n ih => intro hn; rw [Kbe.subs, Kbe.subs, ih (by omega), hda n (by omega)]
    have e2 : Kbe.book d.td ps d.a = Kbe.book td ps a := by unfold Kbe.book; rw [hd, es 32 (Nat.le_refl _)]
    have h8 := hin.len
    have hd2 := hin.day
    left
    refine ⟨⟨d, ps, rfl, hkm, ⟨by rw [hd]; unfold Kbe.Sm; omega, fun p hp => ?_, by omega, fun k hk => ?_, by rw [e2]; omega⟩, by rw [e2]; exact hle.symm⟩, hbl⟩
    · obtain ⟨g1, g2, g3, g4⟩ := hin.pok p hp
      exact ⟨by unfold Kbe.Sm; omega, by omega, by unfold Kbe.Sm; omega, by unfold Kbe.Sm; omega⟩
    · obtain ⟨g1, g2⟩ := Kbd.asm (hin.sub k hk) (by omega)
      rw [hda k hk]
      refine ⟨g1, ?_⟩
      have h9 := Kbe.subs_mono (a := a) (k + 1) 32 (by omega)
      have hsub : (Kbe.subs a 32).length ≤ (Kbe.book td ps a).length := by
        unfold Kbe.book
        rw [List.length_append]; omega
      have hacc : (Kbe.acc (a k)).length ≤ (Kbe.subs a (k + 1)).length := by rw [Kbe.subs, List.length_append]; omega
      rcases hin.sub k hk with hz | hz
      · rw [hz]; exact Nat.zero_le _
      · have hst := hz.st
        have hal : (Kbe.acc (a k)).length = 13 + (a k).l.length * 8 := by
          unfold Kbe.acc
          rw [if_neg (by omega), List.length_append, flat_len]; simp
        omega
  · exact .inr ⟨rfl, hbl⟩
theorem region_frame0v {P : Program} {cd : Code} {Q : Exit → Act → World → Prop} {a : Act} {w : World} (Facts : World → Prop) (fr : Act)
    (h : cd.wp P (fun e a' w' => e = .normal ∧ a' = fr ∧ Facts w') a w) (hk : ∀ w', Facts w' → Q .normal fr w') : cd.wp P Q a w :=
  wp_mono h (by rintro e a' w' ⟨rfl, rfl, hf⟩; exact hk _ hf)
set_option maxHeartbeats 16000000 in
theorem bookReads_walk {w : World} (A0 : Option Addr) (c0 : Nat) (p : List Int) (r0 : Rd w .u8 w.heap.size A0 p) (w0 : ∀ x ∈ p, (Lit.int .u8 x).wf = true) (A1 : Option Addr) (c1 : Nat) (l : List Ac4) (r1 : RdAc4 w w.heap.size A1 l) (w1 : ∀ p ∈ l, Ac4.Wf p) (at_ : Int) (w2 : (Lit.int .u16 at_).wf = true) (turn : Int) (w3 : (Lit.int .u8 turn).wf = true) :
    Calls Tryz.prog 5 #[.slice A0 p.length c0, .slice A1 l.length c1, .int .u16 at_, .int .u8 turn] w fun e w' => e = .returned (.bool true) ∧ Below w.heap.size w w' := by
  obtain ⟨a00, a01⟩ := wf_u16 w2
  obtain ⟨t0, t1⟩ := wf_u8 w3
  have HRP := Lib.hid r0
  have HBP : Hid (∀ x ∈ p, 0 ≤ x ∧ x < 256) := Lib.hid fun x hx => wf_u8 (w0 x hx)
  have HRD := Lib.hid r1
  have HWF := Lib.hid w1
  obtain ⟨n0, hn0⟩ : ∃ n0, p.length = n0 := ⟨_, rfl⟩
  obtain ⟨n, hn⟩ : ∃ n, l.length = n := ⟨_, rfl⟩
  rw [hn0, hn]
  have HNP := Lib.hid hn0
  have HN0 := Lib.hid hn
  obtain ⟨at_, rfl⟩ := Int.eq_ofNat_of_zero_le a00
  clear r0 w0 r1 w1 w2 w3 hn0 hn
  go_enter Tryz.func5, Tryz.ntmps5
  go_wp2_with fail
  refine (bkawake_any _).mono ?_
  rintro e u1 ⟨rfl, hb1⟩
  have HW1 : Hid (Below w.heap.size w u1) := hb1
  clear hb1
  by_cases hlong : 100 < n0 ∨ 25 < n
  · have hd : (decide (100 < (n0 : Int)) = true ∧ decide ((n0 : Int) > 100) = true) ∨ (decide (100 < (n0 : Int)) = false ∧ decide ((n0 : Int) > 100) = false ∧ decide (25 < (n : Int)) = true ∧ decide ((n : Int) > 25) = true) := by
      by_cases h : 100 < n0
      · exact .inl ⟨by simp; omega, by simp; omega⟩
      · exact .inr ⟨by simp; omega, by simp; omega, by simp; omega, by simp; omega⟩
    rcases hd with ⟨d1, d2⟩ | ⟨d1, d2, d3, d4⟩
    all_goals
      go_wp2_with fail
      refine (bkawake_any _).mono ?_
      rintro e u2 ⟨rfl, hb2⟩
      go_wp2_with fail
      go_ret
      exact ⟨rfl, HW1.out.trans (hb2.mono HW1.out.size)⟩
  have d1 : decide (100 < (n0 : Int)) = false := by simp; omega
  have d2 : decide ((n0 : Int) > 100) = false := by simp; omega
  have d3 : decide (25 < (n : Int)) = false := by simp; omega
  have d4 : decide ((n : Int) > 25) = false := by simp; omega
  go_wp2_with fail
  refine (bknew_any (700000) _).mono ?_
  rintro e u2 ⟨rfl, hb2⟩
  have HW2 : Hid (Below w.heap.size w u2) := HW1.out.trans (hb2.mono HW1.out.size)
  clear hb2 HW1
  go_wp2_with (((with_reducible_and_instances (show wpList _ _ _ (Oper.mk _ (Op.store 35 _ _) _ _ _ _ :: _) _ _)); refine stop_here ?_))
  refine ⟨?_⟩
  refine wl_store (g := u2.heap.size) Kb.info rfl rfl rfl rfl (alloc_at rfl) Kb.zero_size (Kb.arr_size _) (Kb.new_one _).arr ?_
  obtain ⟨U1, hU1⟩ : ∃ U1, boxed (u2.alloc (.cells Tryz.zeroCells35 35)) u2.heap.size (Kb.new (700000)).arr 35 = U1 := ⟨_, rfl⟩
  have HD5 : Hid (U1.heap[u2.heap.size]? = some (.cells (Kb.new (700000)).arr 35 (0, 0))) := by rw [← hU1]; exact boxed_at (by simp)
  have HW5 : Hid (Below w.heap.size w U1) := by rw [← hU1]; exact boxed_below (HW2.out.alloc HW2.out.size _) HW2.out.size
  have hwD : w.heap.size ≤ u2.heap.size := HW2.out.size
  rw [hU1]
  clear hU1 HW2
  generalize u2.heap.size = D at *
  go_wp2_with fail
  go_loopw [10] (fun i wq => ∃ (j : Nat) (b : Kb) (B : Bs), j ≤ n ∧ i = .int .i64 j ∧ Hid (Below w.heap.size w wq) ∧ Hid (wq.heap[D]? = some (.cells b.arr 35 (0, 0))) ∧ Hid (KbR wq (D + 1) wq.heap.size b B) ∧ Hid (Goes (j : Int) B)) (fun i _ => n - (intOf i).toNat)
  case atStart => exact ⟨0, Kb.new 700000, Bs.new 700000, by omega, rfl, HW5, HD5, new_kr _ _ _ _, Goes.new (by omega)⟩
  case round =>
    clear HW5 HD5
    obtain ⟨j, b, B, hj, rfl, HW, HD, HK, HP⟩ := hrel
    by_cases hlt : j < n
    case pos =>
      have dlt : decide ((j : Int) < (n : Int)) = true := by simp; omega
      have hln := HN0.out
      obtain ⟨⟨K, A, B1, C⟩, hact⟩ : ∃ p, l[j]? = some p := ⟨_, List.getElem?_eq_getElem (by omega)⟩
      obtain ⟨ab, ao, hAd, hab, hrd⟩ := HRD.out j _ hact
      subst hAd
      obtain ⟨⟨hk0, hk1⟩, ⟨hA0, hA1⟩, ⟨hB0, hB1⟩, ⟨hC0, hC1⟩⟩ := HWF.out _ (List.mem_of_getElem? hact)
      dsimp only at hk0 hk1 hA0 hA1 hB0 hB1 hC0 hC1
      have hzr : D < wr.heap.size := (Array.getElem?_eq_some_iff.1 HD.out).1
      have HS : Hid (∀ V, Below wr.heap.size wr V → (fun w' : World => w'.heap[D]? = some (.cells b.arr 35 (0, 0)) ∧ w'.rangeAt ab (ao + j * 4) (Ac4.cs ⟨K, A, B1, C⟩)) V) := fun V hV => ⟨(hV.block D hzr).trans HD.out, fun i v hv => (World.cell?_of_block (a := ⟨ab, ao + j * 4 + i, none⟩) ((hV.block ab (by have := HW.out.size; omega)).trans (HW.out.block _ hab))).trans (hrd i v hv)⟩
      have hjI : (j : Int) < (n : Int) := by omega
      have hjJ : (0 : Int) ≤ (j : Int) := by omega
      clear hact hrd
      have HLN : Hid (∀ k, k < 32 → (b.a k).l.length ≤ 9000) := HK.out.lens HP.out.ok (by omega)
      have HLE : Hid ((asksK b.a 32).length ≤ 100000000) := Nat.le_trans (asksK_len (m := 9000) HLN.out 32 (Nat.le_refl _)) (by omega)
      have HASK : Hid (∀ m ∈ asksK b.a 32, (∃ j : Nat, j < 32 ∧ m.s = (j : Int)) ∧ 0 ≤ m.t ∧ m.t ≤ 1000000) := HP.out.ok.asked HK.out.a (by omega)
      go_upto_region 7 with fail
      apply region_frame5 (fun Z c x v o w' => Hid (Below wr.heap.size wr w') ∧ Hid (w'.heap[Z]? = some (.cells c.arr 35 (0, 0))) ∧ wr.heap.size ≤ Z ∧ Z < w'.heap.size ∧ Hid (∃ B', Did (1100000000 * (j : Int)) (40 * (j : Int) + 1) 40 B o x B' ∧ (x = 0 → KbR w' (D + 1) w'.heap.size c B')) ∧ Hid (OForm o))
      · skip
        refine lane_start (ord := [0, 1, 2, 3, 4, 5, 6, 7, 8, 9, 10, 11, 12, 13, 14]) (S := (fun w' : World => w'.heap[D]? = some (.cells b.arr 35 (0, 0)) ∧ w'.rangeAt ab (ao + j * 4) (Ac4.cs ⟨K, A, B1, C⟩))) rfl (by kernel_rfl) (by exact HS.out _ (Below.refl _ wr).drew) (fun _ => ?_)
        obtain ⟨V0, hV0⟩ : ∃ V0, wr.drew = V0 := ⟨_, rfl⟩
        have HB0 : Hid (Below wr.heap.size wr V0) := by rw [← hV0]; exact (Below.refl _ wr).drew
        rw [hV0]
        clear hV0
        refine lane_take (v := .agg b.arr) rfl (by kernel_rfl) (by kernel_rfl) (by rfl) (fun W hSw => exec_load rfl rfl (by
          have h9 := run_loadAt_mid (P := Tryz.prog) W D 0 35 _ _ (Kb.range_all hSw.1) Tryz.underlying35 rfl Kb.info_all
          (try rw [Array.toArray_toList] at h9)
          exact h9)) (by exact HS.out _ HB0.out) ?_
        simp only [Act.put, List.setIfInBounds_toArray, List.set_cons_zero, List.set_cons_succ]
        iterate 1 (refine lane_take (v := ?_) rfl (by kernel_rfl) (by kernel_rfl) (by rfl) ?_ (by exact HS.out _ HB0.out) ?_; rotate_left; (focus (intro W hSw; go_simp; try (with_reducible rfl))); simp only [Act.put, List.setIfInBounds_toArray, List.set_cons_zero, List.set_cons_succ])
        iterate 1 (refine lane_take (v := ?_) rfl (by kernel_rfl) (by kernel_rfl) (by rfl) ?_ (by exact HS.out _ HB0.out) ?_; rotate_left; (focus (intro W hSw; go_simp; try (with_reducible rfl))); simp only [Act.put, List.setIfInBounds_toArray, List.set_cons_zero, List.set_cons_succ])
        iterate 1 (refine lane_take (v := ?_) rfl (by kernel_rfl) (by kernel_rfl) (by rfl) ?_ (by exact HS.out _ HB0.out) ?_; rotate_left; (focus (intro W hSw; go_simp; try (with_reducible rfl))); simp only [Act.put, List.setIfInBounds_toArray, List.set_cons_zero, List.set_cons_succ])
        refine lane_take (v := .agg #[.int .u8 K, .int .u8 A, .int .u8 B1, .int .u8 C]) rfl (by kernel_rfl) (by kernel_rfl) (by rfl) (fun W hSw => exec_load rfl rfl (by
          have h9 := run_loadAt_mid (P := Tryz.prog) W ab (ao + j * 4) 51 _ _ (hSw.2) Tryz.underlying51 rfl info4a
          (try rw [Array.toArray_toList] at h9)
          exact h9)) (by exact HS.out _ HB0.out) ?_
        simp only [Act.put, List.setIfInBounds_toArray, List.set_cons_zero, List.set_cons_succ]
        refine lane_take (v := .agg b.arr) rfl (by kernel_rfl) (by kernel_rfl) (by rfl) (fun W hSw => exec_load rfl rfl (by
          have h9 := run_loadAt_mid (P := Tryz.prog) W D 0 35 _ _ (Kb.range_all hSw.1) Tryz.underlying35 rfl Kb.info_all
          (try rw [Array.toArray_toList] at h9)
          exact h9)) (by exact HS.out _ HB0.out) ?_
        simp only [Act.put, List.setIfInBounds_toArray, List.set_cons_zero, List.set_cons_succ]
        refine lane_two (i := 6) (j := 12) (ordI := [7, 8, 9, 10, 11, 12, 13, 14]) (ordJ := [6, 7, 8, 9, 10, 11, 13, 14]) rfl rfl (by kernel_rfl) rfl (by rfl) (by rfl) (fun KK hK => ?_) (fun KK hK => ?_)
        · skip
          go_simp
          refine (bkasks_any ((HK.out.km.below HB0.out).more (Nat.zero_le _) HB0.out.size) (fun k hk => by have := HLN.out k hk; omega)).mono ?_
          rintro e V1 ⟨v1, rfl, ho1, hb1⟩
          have HB1 : Hid (Below wr.heap.size wr V1) := HB0.out.trans (hb1.mono HB0.out.size)
          have HN : Hid (Nvs V1 0 V1.heap.size v1 (asksK b.a 32)) := (Nvs.own ho1).more (Nat.zero_le _) (Nat.le_refl _)
          clear ho1 hb1
          refine hK _ _ (HS.out _ HB1.out) (fun _ => ?_)
          clear hK KK
          refine lane_two (i := 7) (j := 12) (ordI := [8, 9, 10, 11, 12, 13, 14]) (ordJ := [7, 8, 9, 10, 11, 13, 14]) rfl rfl (by kernel_rfl) rfl (by rfl) (by rfl) (fun KK hK => ?_) (fun KK hK => ?_)
          · skip
            go_simp
            refine (order_any K A B1 C hk0 ⟨hA0, hA1⟩ ⟨hB0, hB1⟩ ⟨hC0, hC1⟩ HN.out HLE.out HASK.out).mono ?_
            rintro e V2 ⟨o, rfl, ho, hb2⟩
            have HO := Lib.hid ho
            have HB2 : Hid (Below wr.heap.size wr V2) := HB1.out.trans (hb2.mono HB1.out.size)
            clear ho hb2
            refine hK _ _ (HS.out _ HB2.out) (fun _ => ?_)
            clear hK KK
            refine lane_two (i := 8) (j := 12) (ordI := [9, 10, 11, 12, 13, 14]) (ordJ := [8, 9, 10, 11, 13, 14]) rfl rfl (by kernel_rfl) rfl (by rfl) (by rfl) (fun KK hK => ?_) (fun KK hK => ?_)
            · skip
              go_simp
              refine (step_allb HP.out.ok ((HK.out.below HB2.out).more (Nat.zero_le _) HB2.out.size) (by omega) (by omega) HO.out).mono ?_
              rintro e V3 ⟨c, x, rfl, hone, hc, hb3⟩
              have HB3 : Hid (Below wr.heap.size wr V3) := HB2.out.trans (hb3.mono HB2.out.size)
              have hD3 : D + 1 ≤ V2.heap.size := by have := HB2.out.size; omega
              clear hb3
              refine hK _ _ (HS.out _ HB3.out) (fun _ => ?_)
              clear hK KK
              iterate 3 (refine lane_take (v := ?_) rfl (by kernel_rfl) (by kernel_rfl) (by rfl) ?_ (by exact HS.out _ HB3.out) ?_; rotate_left; (focus (intro W hSw; go_simp; try (with_reducible rfl))); simp only [Act.put, List.setIfInBounds_toArray, List.set_cons_zero, List.set_cons_succ])
              refine lane_alone rfl (by kernel_rfl) (by rfl) (fun KK hK => ?_)
              go_simp
              obtain ⟨A4, hA4⟩ : ∃ A, V3.alloc (.cells Tryz.zeroCells35 35) = A := ⟨_, rfl⟩
              have HA4 : Hid (Below wr.heap.size wr A4) := by rw [← hA4]; exact HB3.out.alloc HB3.out.size _
              have HZ : Hid (A4.heap[V3.heap.size]? = some (.cells Tryz.zeroCells35 35 (0, 0))) := by rw [← hA4]; exact alloc_at rfl
              have hZl : V3.heap.size < A4.heap.size := by rw [← hA4]; simp
              have hZg : wr.heap.size ≤ V3.heap.size := HB3.out.size
              have hbA : Below V3.heap.size V3 A4 := by rw [← hA4]; exact (Below.refl _ _).alloc (Nat.le_refl _) _
              rw [hA4]
              have HC : Hid (CamB (1100000000 * (j : Int)) (40 * (j : Int) + 1) B o D V3.heap.size c x A4) := (Stepb.camb hc hD3 (.inr (Nat.le_refl _))).below hbA
              clear hc
              obtain ⟨Z, hZe⟩ : ∃ Z, V3.heap.size = Z := ⟨_, rfl⟩
              rw [hZe] at HZ hZl hZg HC ⊢
              clear hA4 hbA hZe
              refine hK _ _ (HS.out _ HA4.out) (fun _ => ?_)
              clear hK KK
              refine lane_alone rfl (by kernel_rfl) (by rfl) (fun KK hK => ?_)
              refine wp_store_row 35 _ _ rfl Z c.arr rfl rfl 35 _ HZ.out (by rw [Kb.arr_size]; exact Kb.info) (by rw [Kb.arr_size]; exact Kb.zero_size) hone.arr ?_
              rw [row_boxed HZ.out]
              have HB9 : Hid (Below wr.heap.size wr (boxed A4 Z c.arr 35)) := boxed_below HA4.out hZg
              refine hK _ _ (HS.out _ HB9.out) (fun _ => ?_)
              clear hK KK
              iterate 1 (refine lane_take (v := ?_) rfl (by kernel_rfl) (by kernel_rfl) (by rfl) ?_ (by exact HS.out _ HB9.out) ?_; rotate_left; (focus (intro W hSw; go_simp; try (with_reducible rfl))); simp only [Act.put, List.setIfInBounds_toArray, List.set_cons_zero, List.set_cons_succ])
              refine lane_end (by kernel_rfl) ?_
              exact ⟨rfl, Z, c, x, v1, o, rfl, HB9, boxed_at hZl, hZg, by rw [boxed_size]; exact hZl, HC.out.boxed, HO⟩
            · skip
              go_simp
              obtain ⟨A5, hA5⟩ : ∃ A, V2.alloc (.cells Tryz.zeroCells35 35) = A := ⟨_, rfl⟩
              have HA5 : Hid (Below wr.heap.size wr A5) := by rw [← hA5]; exact HB2.out.alloc HB2.out.size _
              have HZ : Hid (A5.heap[V2.heap.size]? = some (.cells Tryz.zeroCells35 35 (0, 0))) := by rw [← hA5]; exact alloc_at rfl
              have hZl : V2.heap.size < A5.heap.size := by rw [← hA5]; simp
              have hZg : wr.heap.size ≤ V2.heap.size := HB2.out.size
              have hbA : Below V2.heap.size V2 A5 := by rw [← hA5]; exact (Below.refl _ _).alloc (Nat.le_refl _) _
              rw [hA5]
              obtain ⟨Z, hZe⟩ : ∃ Z, V2.heap.size = Z := ⟨_, rfl⟩
              rw [hZe] at HZ hZl hZg ⊢
              clear hA5 hbA hZe
              refine hK _ _ (HS.out _ HA5.out) (fun _ => ?_)
              clear hK KK
              refine lane_alone rfl (by kernel_rfl) (by rfl) (fun KK hK => ?_)
              go_simp
              refine (step_allb HP.out.ok ((HK.out.below HA5.out).more (Nat.zero_le _) HA5.out.size) (by omega) (by omega) HO.out).mono ?_
              rintro e V6 ⟨c, x, rfl, hone, hc, hb6⟩
              have HB6 : Hid (Below wr.heap.size wr V6) := HA5.out.trans (hb6.mono HA5.out.size)
              have hD6 : D + 1 ≤ A5.heap.size := by have := HA5.out.size; omega
              have HC : Hid (CamB (1100000000 * (j : Int)) (40 * (j : Int) + 1) B o D Z c x V6) := Stepb.camb hc hD6 (.inl hZl)
              clear hc
              have HZ : Hid (V6.heap[Z]? = _) := (hb6.block Z (by omega)).trans HZ.out
              have hZl : Z < V6.heap.size := by have := hb6.size; omega
              clear hb6
              refine hK _ _ (HS.out _ HB6.out) (fun _ => ?_)
              clear hK KK
              iterate 3 (refine lane_take (v := ?_) rfl (by kernel_rfl) (by kernel_rfl) (by rfl) ?_ (by exact HS.out _ HB6.out) ?_; rotate_left; (focus (intro W hSw; go_simp; try (with_reducible rfl))); simp only [Act.put, List.setIfInBounds_toArray, List.set_cons_zero, List.set_cons_succ])
              refine lane_alone rfl (by kernel_rfl) (by rfl) (fun KK hK => ?_)
              refine wp_store_row 35 _ _ rfl Z c.arr rfl rfl 35 _ HZ.out (by rw [Kb.arr_size]; exact Kb.info) (by rw [Kb.arr_size]; exact Kb.zero_size) hone.arr ?_
              rw [row_boxed HZ.out]
              have HB9 : Hid (Below wr.heap.size wr (boxed V6 Z c.arr 35)) := boxed_below HB6.out hZg
              refine hK _ _ (HS.out _ HB9.out) (fun _ => ?_)
              clear hK KK
              iterate 1 (refine lane_take (v := ?_) rfl (by kernel_rfl) (by kernel_rfl) (by rfl) ?_ (by exact HS.out _ HB9.out) ?_; rotate_left; (focus (intro W hSw; go_simp; try (with_reducible rfl))); simp only [Act.put, List.setIfInBounds_toArray, List.set_cons_zero, List.set_cons_succ])
              refine lane_end (by kernel_rfl) ?_
              exact ⟨rfl, Z, c, x, v1, o, rfl, HB9, boxed_at hZl, hZg, by rw [boxed_size]; exact hZl, HC.out.boxed, HO⟩
          · skip
            go_simp
            obtain ⟨A8, hA8⟩ : ∃ A, V1.alloc (.cells Tryz.zeroCells35 35) = A := ⟨_, rfl⟩
            have HA8 : Hid (Below wr.heap.size wr A8) := by rw [← hA8]; exact HB1.out.alloc HB1.out.size _
            have HZ : Hid (A8.heap[V1.heap.size]? = some (.cells Tryz.zeroCells35 35 (0, 0))) := by rw [← hA8]; exact alloc_at rfl
            have hZl : V1.heap.size < A8.heap.size := by rw [← hA8]; simp
            have hZg : wr.heap.size ≤ V1.heap.size := HB1.out.size
            have hbA : Below V1.heap.size V1 A8 := by rw [← hA8]; exact (Below.refl _ _).alloc (Nat.le_refl _) _
            rw [hA8]
            have HN : Hid (Nvs A8 0 A8.heap.size v1 (asksK b.a 32)) := (HN.out.below hbA).more (Nat.zero_le _) hbA.size
            obtain ⟨Z, hZe⟩ : ∃ Z, V1.heap.size = Z := ⟨_, rfl⟩
            rw [hZe] at HZ hZl hZg ⊢
            clear hA8 hbA hZe
            refine hK _ _ (HS.out _ HA8.out) (fun _ => ?_)
            clear hK KK
            refine lane_alone rfl (by kernel_rfl) (by rfl) (fun KK hK => ?_)
            go_simp
            refine (order_any K A B1 C hk0 ⟨hA0, hA1⟩ ⟨hB0, hB1⟩ ⟨hC0, hC1⟩ HN.out HLE.out HASK.out).mono ?_
            rintro e V9 ⟨o, rfl, ho, hb9⟩
            have HO := Lib.hid ho
            have HB9 : Hid (Below wr.heap.size wr V9) := HA8.out.trans (hb9.mono HA8.out.size)
            have HZ : Hid (V9.heap[Z]? = _) := (hb9.block Z (by omega)).trans HZ.out
            have hZl : Z < V9.heap.size := by have := hb9.size; omega
            clear ho hb9
            refine hK _ _ (HS.out _ HB9.out) (fun _ => ?_)
            clear hK KK
            refine lane_alone rfl (by kernel_rfl) (by rfl) (fun KK hK => ?_)
            go_simp
            refine (step_allb HP.out.ok ((HK.out.below HB9.out).more (Nat.zero_le _) HB9.out.size) (by omega) (by omega) HO.out).mono ?_
            rintro e V10 ⟨c, x, rfl, hone, hc, hb10⟩
            have HB10 : Hid (Below wr.heap.size wr V10) := HB9.out.trans (hb10.mono HB9.out.size)
            have hD10 : D + 1 ≤ V9.heap.size := by have := HB9.out.size; omega
            have HC : Hid (CamB (1100000000 * (j : Int)) (40 * (j : Int) + 1) B o D Z c x V10) := Stepb.camb hc hD10 (.inl hZl)
            clear hc
            have HZ : Hid (V10.heap[Z]? = _) := (hb10.block Z (by omega)).trans HZ.out
            have hZl : Z < V10.heap.size := by have := hb10.size; omega
            clear hb10
            refine hK _ _ (HS.out _ HB10.out) (fun _ => ?_)
            clear hK KK
            iterate 3 (refine lane_take (v := ?_) rfl (by kernel_rfl) (by kernel_rfl) (by rfl) ?_ (by exact HS.out _ HB10.out) ?_; rotate_left; (focus (intro W hSw; go_simp; try (with_reducible rfl))); simp only [Act.put, List.setIfInBounds_toArray, List.set_cons_zero, List.set_cons_succ])
            refine lane_alone rfl (by kernel_rfl) (by rfl) (fun KK hK => ?_)
            refine wp_store_row 35 _ _ rfl Z c.arr rfl rfl 35 _ HZ.out (by rw [Kb.arr_size]; exact Kb.info) (by rw [Kb.arr_size]; exact Kb.zero_size) hone.arr ?_
            rw [row_boxed HZ.out]
            have HB9 : Hid (Below wr.heap.size wr (boxed V10 Z c.arr 35)) := boxed_below HB10.out hZg
            refine hK _ _ (HS.out _ HB9.out) (fun _ => ?_)
            clear hK KK
            iterate 1 (refine lane_take (v := ?_) rfl (by kernel_rfl) (by kernel_rfl) (by rfl) ?_ (by exact HS.out _ HB9.out) ?_; rotate_left; (focus (intro W hSw; go_simp; try (with_reducible rfl))); simp only [Act.put, List.setIfInBounds_toArray, List.set_cons_zero, List.set_cons_succ])
            refine lane_end (by kernel_rfl) ?_
            exact ⟨rfl, Z, c, x, v1, o, rfl, HB9, boxed_at hZl, hZg, by rw [boxed_size]; exact hZl, HC.out.boxed, HO⟩
        · skip
          go_simp
          obtain ⟨A12, hA12⟩ : ∃ A, V0.alloc (.cells Tryz.zeroCells35 35) = A := ⟨_, rfl⟩
          have HA12 : Hid (Below wr.heap.size wr A12) := by rw [← hA12]; exact HB0.out.alloc HB0.out.size _
          have HZ : Hid (A12.heap[V0.heap.size]? = some (.cells Tryz.zeroCells35 35 (0, 0))) := by rw [← hA12]; exact alloc_at rfl
          have hZl : V0.heap.size < A12.heap.size := by rw [← hA12]; simp
          have hZg : wr.heap.size ≤ V0.heap.size := HB0.out.size
          have hbA : Below V0.heap.size V0 A12 := by rw [← hA12]; exact (Below.refl _ _).alloc (Nat.le_refl _) _
          rw [hA12]
          obtain ⟨Z, hZe⟩ : ∃ Z, V0.heap.size = Z := ⟨_, rfl⟩
          rw [hZe] at HZ hZl hZg ⊢
          clear hA12 hbA hZe
          refine hK _ _ (HS.out _ HA12.out) (fun _ => ?_)
          clear hK KK
          refine lane_alone rfl (by kernel_rfl) (by rfl) (fun KK hK => ?_)
          go_simp
          refine (bkasks_any ((HK.out.km.below HA12.out).more (Nat.zero_le _) HA12.out.size) (fun k hk => by have := HLN.out k hk; omega)).mono ?_
          rintro e V13 ⟨v1, rfl, ho13, hb13⟩
          have HB13 : Hid (Below wr.heap.size wr V13) := HA12.out.trans (hb13.mono HA12.out.size)
          have HN : Hid (Nvs V13 0 V13.heap.size v1 (asksK b.a 32)) := (Nvs.own ho13).more (Nat.zero_le _) (Nat.le_refl _)
          have HZ : Hid (V13.heap[Z]? = _) := (hb13.block Z (by omega)).trans HZ.out
          have hZl : Z < V13.heap.size := by have := hb13.size; omega
          clear ho13 hb13
          refine hK _ _ (HS.out _ HB13.out) (fun _ => ?_)
          clear hK KK
          refine lane_alone rfl (by kernel_rfl) (by rfl) (fun KK hK => ?_)
          go_simp
          refine (order_any K A B1 C hk0 ⟨hA0, hA1⟩ ⟨hB0, hB1⟩ ⟨hC0, hC1⟩ HN.out HLE.out HASK.out).mono ?_
          rintro e V14 ⟨o, rfl, ho, hb14⟩
          have HO := Lib.hid ho
          have HB14 : Hid (Below wr.heap.size wr V14) := HB13.out.trans (hb14.mono HB13.out.size)
          have HZ : Hid (V14.heap[Z]? = _) := (hb14.block Z (by omega)).trans HZ.out
          have hZl : Z < V14.heap.size := by have := hb14.size; omega
          clear ho hb14
          refine hK _ _ (HS.out _ HB14.out) (fun _ => ?_)
          clear hK KK
          refine lane_alone rfl (by kernel_rfl) (by rfl) (fun KK hK => ?_)
          go_simp
          refine (step_allb HP.out.ok ((HK.out.below HB14.out).more (Nat.zero_le _) HB14.out.size) (by omega) (by omega) HO.out).mono ?_
          rintro e V15 ⟨c, x, rfl, hone, hc, hb15⟩
          have HB15 : Hid (Below wr.heap.size wr V15) := HB14.out.trans (hb15.mono HB14.out.size)
          have hD15 : D + 1 ≤ V14.heap.size := by have := HB14.out.size; omega
          have HC : Hid (CamB (1100000000 * (j : Int)) (40 * (j : Int) + 1) B o D Z c x V15) := Stepb.camb hc hD15 (.inl hZl)
          clear hc
          have HZ : Hid (V15.heap[Z]? = _) := (hb15.block Z (by omega)).trans HZ.out
          have hZl : Z < V15.heap.size := by have := hb15.size; omega
          clear hb15
          refine hK _ _ (HS.out _ HB15.out) (fun _ => ?_)
          clear hK KK
          iterate 3 (refine lane_take (v := ?_) rfl (by kernel_rfl) (by kernel_rfl) (by rfl) ?_ (by exact HS.out _ HB15.out) ?_; rotate_left; (focus (intro W hSw; go_simp; try (with_reducible rfl))); simp only [Act.put, List.setIfInBounds_toArray, List.set_cons_zero, List.set_cons_succ])
          refine lane_alone rfl (by kernel_rfl) (by rfl) (fun KK hK => ?_)
          refine wp_store_row 35 _ _ rfl Z c.arr rfl rfl 35 _ HZ.out (by rw [Kb.arr_size]; exact Kb.info) (by rw [Kb.arr_size]; exact Kb.zero_size) hone.arr ?_
          rw [row_boxed HZ.out]
          have HB9 : Hid (Below wr.heap.size wr (boxed V15 Z c.arr 35)) := boxed_below HB15.out hZg
          refine hK _ _ (HS.out _ HB9.out) (fun _ => ?_)
          clear hK KK
          iterate 1 (refine lane_take (v := ?_) rfl (by kernel_rfl) (by kernel_rfl) (by rfl) ?_ (by exact HS.out _ HB9.out) ?_; rotate_left; (focus (intro W hSw; go_simp; try (with_reducible rfl))); simp only [Act.put, List.setIfInBounds_toArray, List.set_cons_zero, List.set_cons_succ])
          refine lane_end (by kernel_rfl) ?_
          exact ⟨rfl, Z, c, x, v1, o, rfl, HB9, boxed_at hZl, hZg, by rw [boxed_size]; exact hZl, HC.out.boxed, HO⟩
      rintro Z c x v o w9 ⟨HB9, HZ9, hz1, hz2, HC9, HO⟩
      have HW9 : Hid (Below w.heap.size w w9) := HW.out.trans (HB9.out.mono HW.out.size)
      have HD9 : Hid (w9.heap[D]? = some (.cells b.arr 35 (0, 0))) := (HB9.out.block D hzr).trans HD.out
      have hz9 : D < w9.heap.size := (Array.getElem?_eq_some_iff.1 HD9.out).1
      have hsz9 : wr.heap.size ≤ w9.heap.size := HB9.out.size
      obtain ⟨B9, hdid, hkr⟩ := HC9.out
      have HGO : Hid (Goes ((j : Int) + 1) B9) := HP.out.next hdid HO.out
      have HKR := Lib.hid hkr
      clear hdid hkr HC9
      by_cases hx : x = 0
      · subst hx
        have hk9 := HKR.out rfl
        have HK9 := Lib.hid hk9
        have hone9 := hk9.km.one.arr
        clear hk9 HKR
        go_wp2_with (((with_reducible_and_instances (show wpList _ _ _ (Oper.mk _ (Op.load 35 _) _ _ _ _ :: _) _ _)); refine stop_here ?_))
        refine ⟨?_⟩
        refine wl_load (cs := c.arr) (fr := (0, 0)) (g := Z) Tryz.underlying35 rfl Kb.info rfl rfl rfl HZ9.out (Kb.arr_size _) ?_
        go_wp2_with (((with_reducible_and_instances (show wpList _ _ _ (Oper.mk _ (Op.store 35 _ _) _ _ _ _ :: _) _ _)); refine stop_here ?_))
        refine ⟨?_⟩
        refine wl_store (g := D) Kb.info rfl rfl rfl rfl HD9.out (Kb.arr_size _) (Kb.arr_size _) hone9 ?_
        go_wp2_with fail
        go_roundw
        case rel => exact ⟨j + 1, c, B9, by omega, by go_num, boxed_below HW9.out (by omega), boxed_at hz9, ((HK9.out.boxed (.inl (Nat.lt_succ_self _))).more (Nat.le_refl _) (by rw [boxed_size]; exact Nat.le_refl _)), HGO⟩
        case measure => simp [intOf]; omega
      · have dx : (x == 0) = false := by simpa using hx
        go_wp2_with fail
        go_roundw
        case rel => exact ⟨j + 1, b, B, by omega, by go_num, HW9.out, HD9.out, (HK.out.below HB9.out).more (Nat.le_refl _) HB9.out.size, HP.out.stay⟩
        case measure => simp [intOf]; omega
    case neg =>
      obtain rfl : j = n := by omega
      have dlt : decide ((j : Int) < (j : Int)) = false := by simp
      have hzr : D < wr.heap.size := (Array.getElem?_eq_some_iff.1 HD.out).1
      have hwz := HW.out.size
      go_wp2_with (((with_reducible_and_instances (show wpList _ _ _ (Oper.mk _ (Op.load 35 _) _ _ _ _ :: _) _ _)); refine stop_here ?_))
      refine ⟨?_⟩
      refine wl_load (cs := b.arr) (fr := (0, 0)) (g := D) Tryz.underlying35 rfl Kb.info rfl rfl rfl HD.out (Kb.arr_size _) ?_
      go_wp2_with fail
      refine (encode_go (HK.out.more (Nat.zero_le _) (Nat.le_refl _)) HP.out (by omega)).mono ?_
      intro e w9 hO
      obtain ⟨L, hL⟩ : ∃ L, B.bytes = L := ⟨_, rfl⟩
      have hLl := Bs.bytes_len HP.out (by omega)
      have hLb := B.bytes_range
      have hLp : 0 < B.bytes.length := by
        have h9 := Pk.encs_ge (Kbe.book B.td B.ps (fun k => (B.s k).tell))
        have h8 : 2 ≤ (Kbe.book B.td B.ps (fun k => (B.s k).tell)).length := by
          unfold Kbe.book
          rw [List.length_append, List.length_append]
          simp only [List.length_cons, List.length_nil]
          omega
        have : B.bytes.length = (Pk.encs (Kbe.book B.td B.ps (fun k => (B.s k).tell))).length := rfl
        omega
      rw [hL] at hO hLl hLb hLp
      obtain ⟨n9, hn9⟩ : ∃ n9, L.length = n9 := ⟨_, rfl⟩
      rw [hn9] at hLl hLp
      have HN9 := Lib.hid hn9
      have HLB := Lib.hid hLb
      obtain ⟨A9, c9', rfl, HO9, HB9, HR9, hc9, hc9m⟩ := hO.open_n n9 HN9.out
      have HW9 : Hid (Below w.heap.size w w9) := HW.out.trans (HB9.out.mono HW.out.size)
      have hk : at_ % n9 < L.length := by rw [hn9]; exact Nat.mod_lt _ (by omega)
      have hkx : (at_ : Int).tmod (n9 : Int) = ((at_ % n9 : Nat) : Int) := by rw [Int.tmod_eq_emod_of_nonneg (by omega)]; simp
      have hxb := hLb _ (List.getElem_mem hk)
      have HXB := u8_xor L[at_ % n9] turn hxb.1 (by omega) t0 t1
      have hxv : L[at_ % n9].toNat ^^^ turn.toNat < 256 := Nat.xor_lt_two_pow (n := 8) (by omega) (by omega)
      have HG : Hid (L[at_ % n9]? = some L[at_ % n9]) := List.getElem?_eq_getElem hk
      obtain ⟨g, cap, cur, hA, hgb, hw9, _, _, _, htk⟩ := own_some (w := w9) (base := wr.heap.size) (l := L) (v := .slice A9 n9 c9') (by rw [HN9.out]; exact HO9.out) n9 HN9.out (by omega)
      injection hA with hA _ hcc
      subst hA hcc
      have hck := cur_at htk HG.out
      have hgs : g < w9.heap.size := (Array.getElem?_eq_some_iff.1 hw9).1
      rw [hn9] at hk
      clear hn9 hLb hL hO HB9 HW HD HK hlt HP
      generalize L[at_ % n9] = y at *
      generalize at_ % n9 = k at *
      generalize y.toNat ^^^ turn.toNat = v at *
      obtain ⟨x9, rfl, hgw⟩ : ∃ x9, w9 = boxed x9 g cur 5 ∧ g < x9.heap.size := ⟨w9, boxed_self hw9, hgs⟩
      clear hw9 hgs
      go_wp2_with (rw [hkx])
      obtain ⟨V9, hV9⟩ : ∃ V, boxed x9 g (cur.setIfInBounds k (.int .u8 v)) 5 = V := ⟨_, rfl⟩
      have HW10 : Hid (Below w.heap.size w V9) := Lib.hid (by rw [← hV9]; exact boxed_below (below_boxed HW9.out (by omega)) (by omega))
      have HQ : Hid (Rd V9 .u8 V9.heap.size (some ⟨g, 0, none⟩) (L.set k v)) := Lib.hid (by rw [← hV9]; exact rd_set hgw htk)
      have HLQ : Hid ((L.set k v).length = n9) := Lib.hid (by rw [List.length_set, HN9.out])
      have HBQ : Hid (∀ x ∈ L.set k v, 0 ≤ x ∧ x < 256) := Lib.hid fun x hx => by
        rcases List.mem_or_eq_of_mem_set hx with h | h
        · have := HLB.out x h; omega
        · rw [h]; omega
      have hs9 : V9.heap.size = x9.heap.size := by rw [← hV9, boxed_size]
      rw [hV9]
      clear hV9 htk hck HG HXB hxv hxb hk hkx HO9 HR9 hgw hgb HW9 HLB HN9 hc9 hc9m
      generalize (L.set k v) = Q at *
      obtain ⟨X2, hX2⟩ : ∃ X2, x9.heap.size = X2 := ⟨_, rfl⟩
      rw [hX2] at hs9
      obtain ⟨V, hV⟩ : ∃ V, V9.alloc (.cells #[.slice A0 n0 c0, .slice (some ⟨g, 0, none⟩) n9 c9'] 63) = V := ⟨_, rfl⟩
      have hbV : Below V9.heap.size V9 V := by rw [← hV]; exact (Below.refl _ V9).alloc (Nat.le_refl _) _
      have HX2 : Hid (V.heap[X2]? = some (.cells #[.slice A0 n0 c0, .slice (some ⟨g, 0, none⟩) n9 c9'] 63 (0, 0))) := Lib.hid (by rw [← hV, ← hs9]; exact alloc_at rfl)
      have HWV : Hid (Below w.heap.size w V) := Lib.hid (HW10.out.trans (hbV.mono HW10.out.size))
      have HPV : Hid (Rd V .u8 V.heap.size A0 p) := Lib.hid ((HRP.out.below HWV.out).more HWV.out.size)
      have HQV : Hid (Rd V .u8 V.heap.size (some ⟨g, 0, none⟩) Q) := Lib.hid ((HQ.out.below hbV).more hbV.size)
      have hzX : X2 < V.heap.size := (Array.getElem?_eq_some_iff.1 HX2.out).1
      rw [hV, hX2]
      clear hV hX2 hbV HW10 HQ hs9
      go_loopw [70] (fun i wq => ∃ q : Nat, q ≤ 2 ∧ i = .int .i64 q ∧ Hid (Below V.heap.size V wq)) (fun i _ => 2 - (intOf i).toNat)
      case atStart => exact ⟨0, by omega, rfl, Below.refl _ _⟩
      case round =>
        obtain ⟨q, hq, rfl, HV⟩ := hrel
        have hsr := HV.out.size
        have HWr : Hid (Below w.heap.size w wr) := Lib.hid (HWV.out.trans (HV.out.mono HWV.out.size))
        have HXr : Hid (wr.heap[X2]? = some (.cells #[.slice A0 n0 c0, .slice (some ⟨g, 0, none⟩) n9 c9'] 63 (0, 0))) := Lib.hid ((HV.out.block X2 hzX).trans HX2.out)
        by_cases hlt : q < 2
        case pos =>
          have dlt : decide ((q : Int) < 2) = true := by simp; omega
          have hq0 : (0 : Int) ≤ (q : Int) := by omega
          have hq1 : (q : Int) < 2 := by omega
          obtain ⟨AX, nX, cX, lX, hcX, HXR, HNX, hnX, HXB⟩ : ∃ (AX : Option Addr) (nX cX : Nat) (lX : List Int), wr.cell? ⟨X2, q, none⟩ = some (.slice AX nX cX) ∧ Hid (Rd wr .u8 wr.heap.size AX lX) ∧ Hid (lX.length = nX) ∧ nX ≤ 700000 ∧ Hid (∀ x ∈ lX, 0 ≤ x ∧ x < 256) := by
            rcases (by omega : q = 0 ∨ q = 1) with rfl | rfl
            · exact ⟨A0, n0, c0, p, (cell_of_row _ _ _ _ _ _ HXr.out).trans rfl, Lib.hid ((HPV.out.below HV.out).more hsr), HNP, by omega, HBP⟩
            · exact ⟨some ⟨g, 0, none⟩, n9, c9', Q, (cell_of_row _ _ _ _ _ _ HXr.out).trans rfl, Lib.hid ((HQV.out.below HV.out).more hsr), HLQ, by omega, HBQ⟩
          go_wp2_with fail
          refine (decode_reads HXR.out HNX.out hnX HXB.out).mono ?_
          clear hcX
          rintro e w11 (⟨⟨d, ps, rfl, hkm, hbs, hee⟩, hb11⟩ | ⟨rfl, hb11⟩)
          · have hone := hkm.one.arr
            have HKM := Lib.hid hkm
            have HBS := Lib.hid hbs
            have HB11 := Lib.hid hb11
            obtain ⟨EB, hEB⟩ : ∃ EB, bst lX = EB := ⟨_, rfl⟩
            have HEB := Lib.hid hEB
            have HEE : Hid (bst (Pk.encs (Kbe.book d.td ps d.a)) = EB) := Lib.hid (by rw [hee]; exact hEB)
            clear hkm hbs hee hb11 hEB
            go_wp2_with (((with_reducible_and_instances (show wpList _ _ _ (Oper.mk _ (Op.store 35 _ _) _ _ _ _ :: _) _ _)); refine stop_here ?_))
            refine ⟨?_⟩
            refine wl_store (g := w11.heap.size) Kb.info rfl rfl rfl rfl (alloc_at rfl) Kb.zero_size (Kb.arr_size _) hone ?_
            obtain ⟨U, hU⟩ : ∃ U, boxed (w11.alloc (.cells Tryz.zeroCells35 35)) w11.heap.size d.arr 35 = U := ⟨_, rfl⟩
            obtain ⟨E, hE⟩ : ∃ E, w11.heap.size = E := ⟨_, rfl⟩
            have hbU : Below w11.heap.size w11 U := by rw [← hU]; exact boxed_below ((Below.refl _ w11).alloc (Nat.le_refl _) _) (Nat.le_refl _)
            have hbb : Below wr.heap.size wr U := HB11.out.trans (hbU.mono HB11.out.size)
            have HBB := Lib.hid hbb
            have HEU : Hid (U.heap[E]? = some (.cells d.arr 35 (0, 0))) := Lib.hid (by rw [← hU, ← hE]; exact boxed_at (by simp))
            have HKD : Hid (KbM U 0 U.heap.size d ps) := Lib.hid ((HKM.out.below hbU).more (Nat.zero_le _) hbU.size)
            have HXU : Hid (Rd U .u8 U.heap.size AX lX) := Lib.hid ((HXR.out.below hbb).more hbb.size)
            rw [hU, hE]
            clear hU hE hbU HKM HB11 HXR
            have hzE : E < U.heap.size := (Array.getElem?_eq_some_iff.1 HEU.out).1
            go_upto_region 16 with fail
            apply region_frame1v (fun w' => Hid (Below U.heap.size U w'))
            · skip
              refine lane_start (ord := [0, 1, 2, 3, 6, 7, 4, 5, 8, 9, 10, 11, 12, 13, 14, 15, 16, 17]) (S := fun w' => Below U.heap.size U w') rfl (by kernel_rfl) (by exact (Below.refl _ U).drew) (fun _ => ?_)
              obtain ⟨V0, hV0⟩ : ∃ V0, U.drew = V0 := ⟨_, rfl⟩
              have HB0 : Hid (Below U.heap.size U V0) := by rw [← hV0]; exact (Below.refl _ U).drew
              rw [hV0]
              clear hV0
              iterate 1 (refine lane_take (v := ?_) rfl (by kernel_rfl) (by kernel_rfl) (by rfl) ?_ (by exact HB0.out) ?_; rotate_left; (focus (intro W hSw; go_simp; try (with_reducible rfl))); (try simp only [Act.put, List.setIfInBounds_toArray, List.set_cons_zero, List.set_cons_succ]))
              refine lane_take (v := .bool true) rfl (by kernel_rfl) (by kernel_rfl) (by rfl) (fun W hSw => ?_) (by exact HB0.out) ?_
              · go_simp
                try rfl
              (try simp only [Act.put, List.setIfInBounds_toArray, List.set_cons_zero, List.set_cons_succ])
              iterate 1 (refine lane_take (v := ?_) rfl (by kernel_rfl) (by kernel_rfl) (by rfl) ?_ (by exact HB0.out) ?_; rotate_left; (focus (intro W hSw; go_simp; try (with_reducible rfl))); (try simp only [Act.put, List.setIfInBounds_toArray, List.set_cons_zero, List.set_cons_succ]))
              refine lane_take (v := .agg d.arr) rfl (by kernel_rfl) (by kernel_rfl) (by rfl) (fun W hSw => exec_load rfl rfl (by
                have h9 := run_loadAt_mid (P := Tryz.prog) W E 0 35 _ _ (Kb.range_all ((hSw.block E hzE).trans HEU.out)) Tryz.underlying35 rfl Kb.info_all
                (try rw [Array.toArray_toList] at h9)
                exact h9)) (by exact HB0.out) ?_
              (try simp only [Act.put, List.setIfInBounds_toArray, List.set_cons_zero, List.set_cons_succ])
              iterate 1 (refine lane_take (v := ?_) rfl (by kernel_rfl) (by kernel_rfl) (by rfl) ?_ (by exact HB0.out) ?_; rotate_left; (focus (intro W hSw; go_simp; try (with_reducible rfl))); (try simp only [Act.put, List.setIfInBounds_toArray, List.set_cons_zero, List.set_cons_succ]))
              iterate 1 (refine lane_take (v := .string EB) rfl (by kernel_rfl) (by kernel_rfl) (by rfl) ?_ (by exact HB0.out) ?_; (focus (intro W hSw; have q := conv_len W AX _ cX nX _ ((HXU.out.below hSw).more hSw.size) HNX.out; rw [HEB.out] at q; go_simp; try (with_reducible rfl))); (try simp only [Act.put, List.setIfInBounds_toArray, List.set_cons_zero, List.set_cons_succ]))
              refine lane_alone rfl (by kernel_rfl) (by rfl) (fun KK hK => ?_)
              go_simp
              refine (encode_str ((HKD.out.below HB0.out).more (Nat.zero_le _) HB0.out.size) HBS.out HEE.out).mono ?_
              rintro e V1 ⟨v1, rfl, hcx, hb1⟩
              have HB1 : Hid (Below U.heap.size U V1) := HB0.out.trans (hb1.mono HB0.out.size)
              refine hK _ _ HB1.out (fun _ => ?_)
              clear hK KK hb1
              (try simp only [Act.put, List.setIfInBounds_toArray, List.set_cons_zero, List.set_cons_succ])
              refine lane_into (S' := fun w' => Below V1.heap.size V1 w') (fun w' h => HB1.out.trans (h.mono HB1.out.size)) (Below.refl _ V1) (fun _ => ?_)
              iterate 1 (refine lane_take (v := ?_) rfl (by kernel_rfl) (by kernel_rfl) (by rfl) ?_ (by exact Below.refl _ V1) ?_; rotate_left; (focus (intro W hSw; have q := hcx.out W hSw; go_simp; try (with_reducible rfl))); (try simp only [Act.put, List.setIfInBounds_toArray, List.set_cons_zero, List.set_cons_succ]))
              refine lane_take (v := .bool false) rfl (by kernel_rfl) (by kernel_rfl) (by rfl) (fun W hSw => ?_) (by exact Below.refl _ V1) ?_
              · go_simp
                try rfl
              (try simp only [Act.put, List.setIfInBounds_toArray, List.set_cons_zero, List.set_cons_succ])
              iterate 1 (refine lane_take (v := ?_) rfl (by kernel_rfl) (by kernel_rfl) (by rfl) ?_ (by exact Below.refl _ V1) ?_; rotate_left; (focus (intro W hSw; go_simp; try (with_reducible rfl))); (try simp only [Act.put, List.setIfInBounds_toArray, List.set_cons_zero, List.set_cons_succ]))
              iterate 1 (refine lane_take (v := ?_) rfl (by kernel_rfl) (by kernel_rfl) (by rfl) ?_ (by exact Below.refl _ V1) ?_; rotate_left; (focus (intro W hSw; go_simp; try (with_reducible rfl))); (try simp only [Act.put, List.setIfInBounds_toArray, List.set_cons_zero, List.set_cons_succ]))
              iterate 1 (refine lane_take (v := ?_) rfl (by kernel_rfl) (by kernel_rfl) (by rfl) ?_ (by exact Below.refl _ V1) ?_; rotate_left; (focus (intro W hSw; go_simp; try (with_reducible rfl))); (try simp only [Act.put, List.setIfInBounds_toArray, List.set_cons_zero, List.set_cons_succ]))
              refine lane_take (v := .bool false) rfl (by kernel_rfl) (by kernel_rfl) (by rfl) (fun W hSw => ?_) (by exact Below.refl _ V1) ?_
              · go_simp
                try rfl
              (try simp only [Act.put, List.setIfInBounds_toArray, List.set_cons_zero, List.set_cons_succ])
              iterate 1 (refine lane_take (v := ?_) rfl (by kernel_rfl) (by kernel_rfl) (by rfl) ?_ (by exact Below.refl _ V1) ?_; rotate_left; (focus (intro W hSw; go_simp; try (with_reducible rfl))); (try simp only [Act.put, List.setIfInBounds_toArray, List.set_cons_zero, List.set_cons_succ]))
              refine lane_skip rfl (by kernel_rfl) (by kernel_rfl) (by rfl) (by exact Below.refl _ V1) ?_
              (try simp only [Act.put, List.setIfInBounds_toArray, List.set_cons_zero, List.set_cons_succ])
              refine lane_skip rfl (by kernel_rfl) (by kernel_rfl) (by rfl) (by exact Below.refl _ V1) ?_
              (try simp only [Act.put, List.setIfInBounds_toArray, List.set_cons_zero, List.set_cons_succ])
              iterate 1 (refine lane_take (v := ?_) rfl (by kernel_rfl) (by kernel_rfl) (by rfl) ?_ (by exact Below.refl _ V1) ?_; rotate_left; (focus (intro W hSw; go_simp; try (with_reducible rfl))); (try simp only [Act.put, List.setIfInBounds_toArray, List.set_cons_zero, List.set_cons_succ]))
              iterate 1 (refine lane_take (v := ?_) rfl (by kernel_rfl) (by kernel_rfl) (by rfl) ?_ (by exact Below.refl _ V1) ?_; rotate_left; (focus (intro W hSw; go_simp; try (with_reducible rfl))); (try simp only [Act.put, List.setIfInBounds_toArray, List.set_cons_zero, List.set_cons_succ]))
              refine lane_end (by kernel_rfl) ?_
              exact ⟨rfl, v1, rfl, HB1⟩
            rintro v1 U1 HBU1
            go_wp2_with fail
            go_roundw
            case rel => exact ⟨q + 1, by omega, by go_num, Lib.hid ((HV.out.trans (HBB.out.mono hsr)).trans (HBU1.out.mono (by have := HBB.out.size; omega)))⟩
            case measure => simp [intOf]; omega
          · have hone := Kb.zero_one.arr
            have HB11 := Lib.hid hb11
            clear hb11
            go_wp2_with (((with_reducible_and_instances (show wpList _ _ _ (Oper.mk _ (Op.store 35 _ _) _ _ _ _ :: _) _ _)); refine stop_here ?_))
            refine ⟨?_⟩
            refine wl_store (g := w11.heap.size) Kb.info rfl rfl rfl rfl (alloc_at rfl) Kb.zero_size (Kb.arr_size _) hone ?_
            obtain ⟨U, hU⟩ : ∃ U, boxed (w11.alloc (.cells Tryz.zeroCells35 35)) w11.heap.size Kb.zero.arr 35 = U := ⟨_, rfl⟩
            obtain ⟨E, hE⟩ : ∃ E, w11.heap.size = E := ⟨_, rfl⟩
            have hbU : Below w11.heap.size w11 U := by rw [← hU]; exact boxed_below ((Below.refl _ w11).alloc (Nat.le_refl _) _) (Nat.le_refl _)
            have hbb : Below wr.heap.size wr U := HB11.out.trans (hbU.mono HB11.out.size)
            have HBB := Lib.hid hbb
            have HEU : Hid (U.heap[E]? = some (.cells Kb.zero.arr 35 (0, 0))) := Lib.hid (by rw [← hU, ← hE]; exact boxed_at (by simp))
            rw [hU, hE]
            clear hU hE hbU HB11 HXR
            go_upto_region 16 with fail
            apply region_frame0v (fun w' => Hid (Below U.heap.size U w'))
            · skip
              refine lane_start (ord := [0, 1, 2, 3, 4, 5, 6, 7, 8, 9, 10, 11, 12, 13, 14, 15, 16, 17]) (S := fun w' => Below U.heap.size U w') rfl (by kernel_rfl) (by exact (Below.refl _ U).drew) (fun _ => ?_)
              obtain ⟨V0, hV0⟩ : ∃ V0, U.drew = V0 := ⟨_, rfl⟩
              have HB0 : Hid (Below U.heap.size U V0) := by rw [← hV0]; exact (Below.refl _ U).drew
              rw [hV0]
              clear hV0
              iterate 1 (refine lane_take (v := ?_) rfl (by kernel_rfl) (by kernel_rfl) (by rfl) ?_ (by exact HB0.out) ?_; rotate_left; (focus (intro W hSw; go_simp; try (with_reducible rfl))); (try simp only [Act.put, List.setIfInBounds_toArray, List.set_cons_zero, List.set_cons_succ]))
              refine lane_take (v := .bool false) rfl (by kernel_rfl) (by kernel_rfl) (by rfl) (fun W hSw => ?_) (by exact HB0.out) ?_
              · go_simp
                try rfl
              (try simp only [Act.put, List.setIfInBounds_toArray, List.set_cons_zero, List.set_cons_succ])
              iterate 1 (refine lane_take (v := ?_) rfl (by kernel_rfl) (by kernel_rfl) (by rfl) ?_ (by exact HB0.out) ?_; rotate_left; (focus (intro W hSw; go_simp; try (with_reducible rfl))); (try simp only [Act.put, List.setIfInBounds_toArray, List.set_cons_zero, List.set_cons_succ]))
              refine lane_skip rfl (by kernel_rfl) (by kernel_rfl) (by rfl) (by exact HB0.out) ?_
              (try simp only [Act.put, List.setIfInBounds_toArray, List.set_cons_zero, List.set_cons_succ])
              refine lane_skip rfl (by kernel_rfl) (by kernel_rfl) (by rfl) (by exact HB0.out) ?_
              (try simp only [Act.put, List.setIfInBounds_toArray, List.set_cons_zero, List.set_cons_succ])
              refine lane_skip rfl (by kernel_rfl) (by kernel_rfl) (by rfl) (by exact HB0.out) ?_
              (try simp only [Act.put, List.setIfInBounds_toArray, List.set_cons_zero, List.set_cons_succ])
              refine lane_skip rfl (by kernel_rfl) (by kernel_rfl) (by rfl) (by exact HB0.out) ?_
              (try simp only [Act.put, List.setIfInBounds_toArray, List.set_cons_zero, List.set_cons_succ])
              refine lane_skip rfl (by kernel_rfl) (by kernel_rfl) (by rfl) (by exact HB0.out) ?_
              (try simp only [Act.put, List.setIfInBounds_toArray, List.set_cons_zero, List.set_cons_succ])
              refine lane_skip rfl (by kernel_rfl) (by kernel_rfl) (by rfl) (by exact HB0.out) ?_
              (try simp only [Act.put, List.setIfInBounds_toArray, List.set_cons_zero, List.set_cons_succ])
              iterate 1 (refine lane_take (v := ?_) rfl (by kernel_rfl) (by kernel_rfl) (by rfl) ?_ (by exact HB0.out) ?_; rotate_left; (focus (intro W hSw; go_simp; try (with_reducible rfl))); (try simp only [Act.put, List.setIfInBounds_toArray, List.set_cons_zero, List.set_cons_succ]))
              iterate 1 (refine lane_take (v := ?_) rfl (by kernel_rfl) (by kernel_rfl) (by rfl) ?_ (by exact HB0.out) ?_; rotate_left; (focus (intro W hSw; go_simp; try (with_reducible rfl))); (try simp only [Act.put, List.setIfInBounds_toArray, List.set_cons_zero, List.set_cons_succ]))
              iterate 1 (refine lane_take (v := ?_) rfl (by kernel_rfl) (by kernel_rfl) (by rfl) ?_ (by exact HB0.out) ?_; rotate_left; (focus (intro W hSw; go_simp; try (with_reducible rfl))); (try simp only [Act.put, List.setIfInBounds_toArray, List.set_cons_zero, List.set_cons_succ]))
              refine lane_take (v := .bool true) rfl (by kernel_rfl) (by kernel_rfl) (by rfl) (fun W hSw => ?_) (by exact HB0.out) ?_
              · go_simp
                try rfl
              (try simp only [Act.put, List.setIfInBounds_toArray, List.set_cons_zero, List.set_cons_succ])
              iterate 1 (refine lane_take (v := ?_) rfl (by kernel_rfl) (by kernel_rfl) (by rfl) ?_ (by exact HB0.out) ?_; rotate_left; (focus (intro W hSw; go_simp; try (with_reducible rfl))); (try simp only [Act.put, List.setIfInBounds_toArray, List.set_cons_zero, List.set_cons_succ]))
              iterate 1 (refine lane_take (v := ?_) rfl (by kernel_rfl) (by kernel_rfl) (by rfl) ?_ (by exact HB0.out) ?_; rotate_left; (focus (intro W hSw; go_simp; try (with_reducible rfl))); (try simp only [Act.put, List.setIfInBounds_toArray, List.set_cons_zero, List.set_cons_succ]))
              refine lane_take (v := .bool false) rfl (by kernel_rfl) (by kernel_rfl) (by rfl) (fun W hSw => ?_) (by exact HB0.out) ?_
              · go_simp
                try rfl
              (try simp only [Act.put, List.setIfInBounds_toArray, List.set_cons_zero, List.set_cons_succ])
              iterate 1 (refine lane_take (v := ?_) rfl (by kernel_rfl) (by kernel_rfl) (by rfl) ?_ (by exact HB0.out) ?_; rotate_left; (focus (intro W hSw; go_simp; try (with_reducible rfl))); (try simp only [Act.put, List.setIfInBounds_toArray, List.set_cons_zero, List.set_cons_succ]))
              iterate 1 (refine lane_take (v := ?_) rfl (by kernel_rfl) (by kernel_rfl) (by rfl) ?_ (by exact HB0.out) ?_; rotate_left; (focus (intro W hSw; go_simp; try (with_reducible rfl))); (try simp only [Act.put, List.setIfInBounds_toArray, List.set_cons_zero, List.set_cons_succ]))
              refine lane_end (by kernel_rfl) ?_
              exact ⟨rfl, rfl, HB0⟩
            rintro U1 HBU1
            go_wp2_with fail
            go_roundw
            case rel => exact ⟨q + 1, by omega, by go_num, Lib.hid ((HV.out.trans (HBB.out.mono hsr)).trans (HBU1.out.mono (by have := HBB.out.size; omega)))⟩
            case measure => simp [intOf]; omega
        case neg =>
          obtain rfl : q = 2 := by omega
          have dlt : decide (((2 : Nat) : Int) < 2) = false := by decide
          clear hlt
          go_wp2_with fail
          refine (of_len none 0 0 0 [] _ Rd.none (Nat.zero_le _) (by simp) (by simp) rfl).mono ?_
          rintro e w12 ⟨g2, rfl, hg2, hb12, _⟩
          obtain ⟨bA, bc, hbx, _⟩ := hg2
          go_wp2_with fail
          refine (left_box _ g2 bA _ bc 0 hbx).mono ?_
          rintro e w13 ⟨rfl, rfl⟩
          go_wp2
          go_ret
          exact ⟨rfl, HWr.out.trans (hb12.mono HWr.out.size)⟩
end Go.Proofs.YtblikgbcakgdnaaGreat
