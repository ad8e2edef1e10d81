/-
  The walk of the law CycleEnds: it returns true, whatever the input. No conditions.
-/
import Derived.Test.YthilcefikhnilaaCyEnds
import Derived.Test.YthilcefikhnilaaKeep2
namespace Go.Proofs.Ythilcefikhnilaa
set_option maxRecDepth 20000
open Go.ChangeShapes Go.WideShapes Go.ChangeAt Go.RowKit

theorem two_boxes {w : World} {B C : Nat} {cs cs' : Array Value} {t t' : TypeId} (hB : w.heap[B]? = some (.cells cs t (0, 0))) (hC : w.heap[C]? = some (.cells cs' t' (0, 0))) (hne : B ≠ C) : w = boxed (boxed w B cs t) C cs' t' := by
  rw [← boxed_self (w := boxed w B cs t) (boxed_old (fun e => hne e.symm) hC), ← boxed_self hB]
/-- An answer to what it asks. -/
theorem hear_step {p a t x v : Int} {o g : Bool} {K S C T M : Int} (hk : Cy.kind p ≠ 0) (hv : v ≠ 0) (hA : Cv.ask 1 ⟨1, 1, p, a, 0, t, x, g⟩ = ⟨K, S, C, T, M, 0⟩) : ∃ pz tz xz, (Cv.next ⟨1, 1, p, a, 0, t, x, g⟩ v 1 o).p = pz ∧ (Cv.next ⟨1, 1, p, a, 0, t, x, g⟩ v 1 o).t = tz ∧
    Hid (∀ w, Calls Try.prog 21 #[.int .i64 1, .agg #[.int .i64 1, .int .i64 1, .int .u8 p, .int .i64 a, .int .i64 0, .int .i64 t, .int .i64 x, .bool g], .agg #[.int .u8 K, .int .i64 S, .int .i64 C, .int .i64 T, .int .i64 M, .int .u8 v], .int .i64 1, .bool o] w fun e w' => e = .returned (.tuple #[.agg #[.int .i64 1, .int .i64 1, .int .u8 pz, .int .i64 a, .int .i64 0, .int .i64 tz, .int .i64 xz, .bool g], .int .i64 0]) ∧ Below w.heap.size w w') := by
  have hh : Cv.Heard 1 ⟨1, 1, p, a, 0, t, x, g⟩ ⟨K, S, C, T, M, v⟩ := ⟨hk, hv, hA.symm⟩
  have kn := kept_next ⟨1, 1, p, a, 0, t, x, g⟩ v 1 o (kind_early hk)
  obtain ⟨z, hz⟩ : ∃ z, Cv.next ⟨1, 1, p, a, 0, t, x, g⟩ v 1 o = z := ⟨_, rfl⟩
  rw [hz] at kn
  obtain ⟨n1, d1, p1, a1, u1, t1, x1, g1⟩ := z
  obtain ⟨h1, h2, h3, h4, h5, _⟩ := kn
  dsimp only at h1 h2 h3 h4 h5
  subst h1 h2 h3 h4 h5
  refine ⟨p1, t1, x1, by rw [hz], by rw [hz], fun w => ?_⟩
  have := cyhear_any 1 1 1 p a1 0 t x g1 K S C T M v 1 o w (by omega) (by omega)
  rw [show Cv.hear 1 ⟨1, 1, p, a1, 0, t, x, g1⟩ ⟨K, S, C, T, M, v⟩ 1 o = Cv.next ⟨1, 1, p, a1, 0, t, x, g1⟩ v 1 o from if_pos hh, show Cv.herr 1 ⟨1, 1, p, a1, 0, t, x, g1⟩ ⟨K, S, C, T, M, v⟩ = 0 from if_pos hh, hz] at this
  exact this
theorem begin_is (a : Int) (g : Bool) : Cy.begin_ 1 1 a 0 g = ⟨1, 1, (Cy.begin_ 1 1 a 0 g).p, a, 0, (Cy.begin_ 1 1 a 0 g).t, 0, g⟩ := by
  unfold Cy.begin_; split <;> rfl
set_option maxHeartbeats 16000000 in
theorem cycleEnds_walk (a : Int) (w0 : (Lit.int .u8 a).wf = true) (g : Bool) (A : Option Addr) (c : Nat) (l : List Int) {w : World} (r : Rd w .u8 w.heap.size A l) (wl : ∀ x ∈ l, (Lit.int .u8 x).wf = true) (o : Bool) :
    Calls Try.prog 9 #[.int .u8 a, .bool g, .slice A l.length c, .bool o] w fun e w' => e = .returned (.bool true) ∧ Below w.heap.size w w' := by
  obtain ⟨ha0, ha1⟩ := wf_u8 w0
  have WL := Lib.hid wl
  have HR := Lib.hid r
  clear w0 wl r
  obtain ⟨n, hn⟩ : ∃ n, l.length = n := ⟨_, rfl⟩
  rw [hn]
  have HN := Lib.hid hn
  clear hn
  by_cases h20 : 20 < n
  · have d20 : decide ((n : Int) > 20) = true := by simp; omega
    have d21 : decide (20 < (n : Int)) = true := by simp; omega
    go_enter Try.func9, Try.ntmps9
    go_wp2_with (fail)
    refine (cyawake_any _).mono ?_
    rintro e w1 ⟨rfl, hb⟩
    have HB1 := Lib.hid hb
    clear hb
    go_wp2_with (fail)
    refine (cyawake_any _).mono ?_
    rintro e w2 ⟨rfl, hb⟩
    have HB2 := Lib.hid (HB1.out.trans (hb.mono HB1.out.size))
    clear hb
    go_wp2
    go_ret
    exact ⟨rfl, HB2.out⟩
  have d20 : decide ((n : Int) > 20) = false := by simp; omega
  have d21 : decide (20 < (n : Int)) = false := by simp; omega
  have hn20 : n ≤ 20 := by omega
  have hwy := way_begin (a := a) g
  obtain ⟨P, hP⟩ : ∃ P, (Cy.begin_ 1 1 a 0 g).p = P := ⟨_, rfl⟩
  obtain ⟨T, hT⟩ : ∃ T, (Cy.begin_ 1 1 a 0 g).t = T := ⟨_, rfl⟩
  have hbe := begin_is a g
  rw [hP, hT] at hbe hwy
  have HBE : Hid (∀ w, Calls Try.prog 12 #[.int .i64 1, .int .i64 1, .int .i64 a, .int .i64 0, .bool g] w fun e w' => e = .returned (.agg #[.int .i64 1, .int .i64 1, .int .u8 P, .int .i64 a, .int .i64 0, .int .i64 T, .int .i64 0, .bool g]) ∧ Below w.heap.size w w') := fun w => by
    have := cybegin_any 1 1 a 0 g w
    rw [hbe] at this
    exact this
  have HWY := Lib.hid hwy
  clear hbe hP hT hwy h20
  go_enter Try.func9, Try.ntmps9
  go_wp2_with (fail)
  refine (cyawake_any _).mono ?_
  rintro e w1 ⟨rfl, hb⟩
  have HB1 := Lib.hid hb
  clear hb
  go_wp2_with (fail)
  refine (HBE.out _).mono ?_
  rintro e w2 ⟨rfl, hb⟩
  have HB2 := Lib.hid (HB1.out.trans (hb.mono HB1.out.size))
  clear hb HB1
  have hB : w.heap.size ≤ w2.heap.size := HB2.out.size
  go_wp2
  go_loopw [11, 12] (fun k i wq => ∃ (K I : Nat) (p t x e1 e2 e3 e4 e5 : Int), k = .int .i64 K ∧ i = .int .i64 I ∧ Hid (K ≤ I ∧ (I : Int) + Cy.left p t ≤ 11 ∧ Cy.Way g p t e1 e2 e3 e4 e5) ∧ Hid (Below w.heap.size w wq) ∧ Hid (wq.heap[w2.heap.size]? = some (.cells #[.int .i64 1, .int .i64 1, .int .u8 p, .int .i64 a, .int .i64 0, .int .i64 t, .int .i64 x, .bool g] 25 (0, 0))) ∧ Hid (wq.heap[(w2.heap.size + 1)]? = some (.cells #[.int .i64 0, .int .i64 e1, .int .i64 e2, .int .i64 e3, .int .i64 e4, .int .i64 e5] 55 (0, 0)))) (fun _ i _ => 30 - (intOf i).toNat)
  case atStart => exact ⟨0, 0, P, T, 0, 0, 0, 0, 0, 0, rfl, rfl, ⟨Nat.le_refl _, by have := HWY.out.2; omega, HWY.out.1⟩, (HB2.out.alloc (by exact hB) _).alloc (by simp; omega) _, alloc_old (by simp) (alloc_at rfl), alloc_at (by simp)⟩
  case round =>
    obtain ⟨K, I, p, t, x, e1, e2, e3, e4, e5, rfl, rfl, HI, HW, HC, HK⟩ := hrel
    obtain ⟨hKI, hL, hW⟩ := HI.out
    have hlp := left_pos (fun e => (hW.ch e).2.1) (fun e => (hW.wa e).2.1)
    have hI11 : I ≤ 11 := by omega
    have hcz : w2.heap.size < wr.heap.size := (Array.getElem?_eq_some_iff.1 HC.out).1
    have haz : (w2.heap.size + 1) < wr.heap.size := (Array.getElem?_eq_some_iff.1 HK.out).1
    have hlt : w2.heap.size < (w2.heap.size + 1) := Nat.lt_succ_self _
    have dI : decide ((I : Int) < 30) = true := by simp; omega
    have hr1 := hW.r1
    have hr2 := hW.r2
    have hr3 := hW.r3
    have hr4 := hW.r4
    have hr5 := hW.r5
    obtain ⟨hr10, hr11⟩ := hr1
    obtain ⟨hr20, hr21⟩ := hr2
    obtain ⟨hr30, hr31⟩ := hr3
    obtain ⟨hr40, hr41⟩ := hr4
    obtain ⟨hr50, hr51⟩ := hr5
    have e := two_boxes HC.out HK.out (Nat.ne_of_lt hlt)
    rw [e]
    clear e HC HK HI hlp
    by_cases h7 : 7 ≤ p
    case pos =>
      have d7 : decide (7 ≤ p) = true := by simpa using h7
      have hno := hW.no
      clear hW h7 hL
      go_wp2_with (fail)
      refine (cyended_any _ _ _ _ _ _ _ _ _).mono ?_
      rw [d7]
      rintro e w3 ⟨rfl, hb⟩
      obtain ⟨hw, z3, z4, e1'⟩ := keep2 HW.out hB hlt haz hb
      rw [e1']
      have HW3 := Lib.hid hw
      clear e1' hb hw HW haz hcz
      go_wp2_with (fail)
      refine (cyended_any _ _ _ _ _ _ _ _ _).mono ?_
      rw [d7]
      rintro e w4 ⟨rfl, hb⟩
      obtain ⟨hw, z5, z6, e1'⟩ := keep2 HW3.out hB hlt z4 hb
      rw [e1']
      have HW4 := Lib.hid hw
      clear e1' hb hw HW3 z3 z4
      cases g
      case false =>
        obtain ⟨_, _, _, rfl, rfl, rfl⟩ := hno rfl
        clear hno
        go_wp2
        go_ret
        exact ⟨rfl, boxed_below (boxed_below HW4.out hB) (by omega)⟩
      case true =>
        clear hno
        go_wp2
        go_ret
        exact ⟨rfl, boxed_below (boxed_below HW4.out hB) (by omega)⟩
    have d7 : decide (7 ≤ p) = false := by simpa using h7
    have hph : p = 1 ∨ p = 2 ∨ p = 3 ∨ p = 4 ∨ p = 5 ∨ p = 6 := by have := hW.ph; omega
    clear h7
    rcases hph with rfl | rfl | rfl | rfl | rfl | rfl
    · have hask : Cv.ask 1 ⟨1, 1, 1, a, 0, t, x, g⟩ = ⟨1, 1, 1, t, a, 0⟩ := rfl
      have hasks : Cv.asks ⟨1, 1, 1, a, 0, t, x, g⟩ = true := rfl
      have HAS := Lib.hid (And.intro hask hasks)
      clear hask hasks
      by_cases hKn : K < n
      · have dk : decide ((K : Int) < (n : Int)) = true := by simp; omega
        have hkl : K < l.length := by rw [HN.out]; exact hKn
        obtain ⟨ad, rfl, hadb, hcell⟩ := HR.out.at_ hkl
        have hu := wf_u8 (WL.out _ (List.getElem_mem hkl))
        generalize l[K] = u at *
        obtain ⟨hu0, hu1⟩ := hu
        have eu := Int.tmod_eq_emod_of_nonneg (b := 3) hu0
        obtain ⟨v, hv⟩ : ∃ v, 1 + u % 3 = v := ⟨_, rfl⟩
        have hv0 : v ≠ 0 := by omega
        have HVE := Lib.hid hv
        have HCE := Lib.hid hcell
        have k0 : (0 : Int) ≤ (K : Int) := by omega
        have k1 : (K : Int) < (n : Int) := by omega
        clear hv hkl hcell
        obtain ⟨pz, tz, xz, hpz, htz, HH⟩ := hear_step (o := o) (x := x) (g := g) (a := a) (v := v) (p := 1) (t := t) (by decide) hv0 HAS.out.1
        have hwn := way_1 (o := o) (a := a) (x := x) (v := v) hW
        rw [hpz, htz] at hwn
        have HV : Hid (K ≤ I ∧ (I : Int) + Cy.left 1 t ≤ 11 ∧ Cy.Way g pz tz (e1 + 1) (e2) (e3) (e4) (e5) ∧ Cy.left pz tz + 1 ≤ Cy.left 1 t) := ⟨hKI, hL, hwn.1, hwn.2⟩
        clear hwn hpz htz hW hL hv0
        go_wp2_with (fail)
        refine (cyended_any _ _ _ _ _ _ _ _ _).mono ?_
        rw [d7]
        rintro e w3 ⟨rfl, hb⟩
        obtain ⟨hw, z3, z4, e1'⟩ := keep2 HW.out hB hlt haz hb
        rw [e1']
        have HW3 := Lib.hid hw
        clear e1' hb hw HW haz hcz
        go_wp2_with (fail)
        refine (cyasks_any _ _ _ _ _ _ _ _ _ _).mono ?_
        rw [HAS.out.1, HAS.out.2]
        dsimp only [Nv.arr]
        rintro e w4 ⟨rfl, hb⟩
        obtain ⟨hw, z5, z6, e1'⟩ := keep2 HW3.out hB hlt z4 hb
        rw [e1']
        have HW4 := Lib.hid hw
        clear e1' hb hw HW3 z3 z4
        have hce : ((boxed (boxed w4 w2.heap.size #[.int .i64 1, .int .i64 1, .int .u8 1, .int .i64 a, .int .i64 0, .int .i64 t, .int .i64 x, .bool g] 25) (w2.heap.size + 1) #[.int .i64 0, .int .i64 (e1 + 1), .int .i64 e2, .int .i64 e3, .int .i64 e4, .int .i64 e5] 55).alloc (.cells #[.int .u8 1, .int .i64 1, .int .i64 1, .int .i64 t, .int .i64 a, .int .u8 1] 35)).cell? (ad.add K) = some (.int .u8 u) := by
          refine (World.cell?_of_block ?_).trans HCE.out
          rw [ad_block]
          have hB4 := HW4.out
          exact Below.block (show Below w.heap.size w _ by (repeat (first | assumption | (with_reducible exact Below.refl _ _) | (with_reducible refine boxed_below ?_ ?_; rotate_left; (focus (first | omega | (simp; done) | (simp; omega)))) | (with_reducible refine Below.alloc ?_ ?_ _; rotate_left; (focus (first | omega | (simp; done) | (simp; omega)))) | (with_reducible refine Below.drew ?_)))) _ hadb
        go_wp2_with (fail)
        rw [HVE.out]
        refine (HH.out _).mono ?_
        rintro e w5 ⟨rfl, hb⟩
        obtain ⟨hw, z7, z8, z9, e1'⟩ := keep2_alloc HW4.out hB hlt z6 hb
        rw [e1']
        have HW5 := Lib.hid hw
        clear e1' hb hw HW4
        go_wp2
        go_roundw
        case rel => exact ⟨K + 1, I + 1, pz, tz, xz, e1 + 1, e2, e3, e4, e5, by go_num, by go_num, ⟨by have := HV.out.1; omega, by have h1 := HV.out.2.1; have h2 := HV.out.2.2.2; omega, HV.out.2.2.1⟩, boxed_below (boxed_below (boxed_below HW5.out hB) (by omega)) (by omega), boxed_old (by omega) (boxed_old (by omega) (boxed_at (by omega))), boxed_old (by omega) (boxed_at (by rw [boxed_size]; omega))⟩
        case measure => simp [intOf]; omega
      · have dk : decide ((K : Int) < (n : Int)) = false := by simp; omega
        obtain ⟨v, hv⟩ : ∃ v, (1 : Int) = v := ⟨_, rfl⟩
        have hv0 : v ≠ 0 := by omega
        have HVE := Lib.hid hv
        clear hv
        obtain ⟨pz, tz, xz, hpz, htz, HH⟩ := hear_step (o := o) (x := x) (g := g) (a := a) (v := v) (p := 1) (t := t) (by decide) hv0 HAS.out.1
        have hwn := way_1 (o := o) (a := a) (x := x) (v := v) hW
        rw [hpz, htz] at hwn
        have HV : Hid (K ≤ I ∧ (I : Int) + Cy.left 1 t ≤ 11 ∧ Cy.Way g pz tz (e1 + 1) (e2) (e3) (e4) (e5) ∧ Cy.left pz tz + 1 ≤ Cy.left 1 t) := ⟨hKI, hL, hwn.1, hwn.2⟩
        clear hwn hpz htz hW hL hv0
        go_wp2_with (fail)
        refine (cyended_any _ _ _ _ _ _ _ _ _).mono ?_
        rw [d7]
        rintro e w3 ⟨rfl, hb⟩
        obtain ⟨hw, z3, z4, e1'⟩ := keep2 HW.out hB hlt haz hb
        rw [e1']
        have HW3 := Lib.hid hw
        clear e1' hb hw HW haz hcz
        go_wp2_with (fail)
        refine (cyasks_any _ _ _ _ _ _ _ _ _ _).mono ?_
        rw [HAS.out.1, HAS.out.2]
        dsimp only [Nv.arr]
        rintro e w4 ⟨rfl, hb⟩
        obtain ⟨hw, z5, z6, e1'⟩ := keep2 HW3.out hB hlt z4 hb
        rw [e1']
        have HW4 := Lib.hid hw
        clear e1' hb hw HW3 z3 z4
        obtain rfl := HVE.out
        clear HVE
        go_wp2_with (fail)
        refine (HH.out _).mono ?_
        rintro e w5 ⟨rfl, hb⟩
        obtain ⟨hw, z7, z8, z9, e1'⟩ := keep2_alloc HW4.out hB hlt z6 hb
        rw [e1']
        have HW5 := Lib.hid hw
        clear e1' hb hw HW4
        go_wp2
        go_roundw
        case rel => exact ⟨K + 1, I + 1, pz, tz, xz, e1 + 1, e2, e3, e4, e5, by go_num, by go_num, ⟨by have := HV.out.1; omega, by have h1 := HV.out.2.1; have h2 := HV.out.2.2.2; omega, HV.out.2.2.1⟩, boxed_below (boxed_below (boxed_below HW5.out hB) (by omega)) (by omega), boxed_old (by omega) (boxed_old (by omega) (boxed_at (by omega))), boxed_old (by omega) (boxed_at (by rw [boxed_size]; omega))⟩
        case measure => simp [intOf]; omega
    · have hwc := way_card hW
      have hwa := hW.wa rfl
      have ht0 : -9223372036854775808 ≤ t := by omega
      have ht1 : t < 9223372036854775807 := by omega
      have HV : Hid (K ≤ I ∧ (I : Int) + Cy.left 2 t ≤ 11 ∧ Cy.Way g 1 (t + 1) e1 e2 e3 e4 e5 ∧ Cy.left 1 (t + 1) + 1 ≤ Cy.left 2 t) := ⟨hKI, hL, hwc.1, hwc.2⟩
      clear hwc hwa hW hL
      go_wp2_with (fail)
      refine (cyended_any _ _ _ _ _ _ _ _ _).mono ?_
      rw [d7]
      rintro e w3 ⟨rfl, hb⟩
      obtain ⟨hw, z3, z4, e1'⟩ := keep2 HW.out hB hlt haz hb
      rw [e1']
      have HW3 := Lib.hid hw
      clear e1' hb hw HW haz hcz
      go_wp2_with (fail)
      refine (cycard_any _ _ _ _ _ _ _ _ _ ht0 ht1).mono ?_
      rw [card_yes]
      dsimp only [Cv.val, Cv.arr]
      rintro e w4 ⟨rfl, hb⟩
      obtain ⟨hw, z5, z6, e1'⟩ := keep2 HW3.out hB hlt z4 hb
      rw [e1']
      have HW4 := Lib.hid hw
      clear e1' hb hw HW3 z3 z4
      go_wp2
      go_roundw
      case rel => exact ⟨K, I + 1, 1, t + 1, 0, e1, e2, e3, e4, e5, rfl, by go_num, ⟨by have := HV.out.1; omega, by have h1 := HV.out.2.1; have h2 := HV.out.2.2.2; omega, HV.out.2.2.1⟩, boxed_below (boxed_below HW4.out hB) (by omega), boxed_old (by omega) (boxed_at (by omega)), boxed_at (by rw [boxed_size]; omega)⟩
      case measure => simp [intOf]; omega
    · have hask : Cv.ask 1 ⟨1, 1, 3, a, 0, t, x, g⟩ = ⟨3, 1, 1, 0, 0, 0⟩ := rfl
      have hasks : Cv.asks ⟨1, 1, 3, a, 0, t, x, g⟩ = true := rfl
      have HAS := Lib.hid (And.intro hask hasks)
      clear hask hasks
      by_cases hKn : K < n
      · have dk : decide ((K : Int) < (n : Int)) = true := by simp; omega
        have hkl : K < l.length := by rw [HN.out]; exact hKn
        obtain ⟨ad, rfl, hadb, hcell⟩ := HR.out.at_ hkl
        have hu := wf_u8 (WL.out _ (List.getElem_mem hkl))
        generalize l[K] = u at *
        obtain ⟨hu0, hu1⟩ := hu
        have eu := Int.tmod_eq_emod_of_nonneg (b := 3) hu0
        obtain ⟨v, hv⟩ : ∃ v, 1 + u % 3 = v := ⟨_, rfl⟩
        have hv0 : v ≠ 0 := by omega
        have HVE := Lib.hid hv
        have HCE := Lib.hid hcell
        have k0 : (0 : Int) ≤ (K : Int) := by omega
        have k1 : (K : Int) < (n : Int) := by omega
        clear hv hkl hcell
        obtain ⟨pz, tz, xz, hpz, htz, HH⟩ := hear_step (o := o) (x := x) (g := g) (a := a) (v := v) (p := 3) (t := t) (by decide) hv0 HAS.out.1
        have hwn := way_3 (o := o) (a := a) (x := x) (v := v) hW
        rw [hpz, htz] at hwn
        have HV : Hid (K ≤ I ∧ (I : Int) + Cy.left 3 t ≤ 11 ∧ Cy.Way g pz tz (e1) (e2) (e3 + 1) (e4) (e5) ∧ Cy.left pz tz + 1 ≤ Cy.left 3 t) := ⟨hKI, hL, hwn.1, hwn.2⟩
        clear hwn hpz htz hW hL hv0
        go_wp2_with (fail)
        refine (cyended_any _ _ _ _ _ _ _ _ _).mono ?_
        rw [d7]
        rintro e w3 ⟨rfl, hb⟩
        obtain ⟨hw, z3, z4, e1'⟩ := keep2 HW.out hB hlt haz hb
        rw [e1']
        have HW3 := Lib.hid hw
        clear e1' hb hw HW haz hcz
        go_wp2_with (fail)
        refine (cyasks_any _ _ _ _ _ _ _ _ _ _).mono ?_
        rw [HAS.out.1, HAS.out.2]
        dsimp only [Nv.arr]
        rintro e w4 ⟨rfl, hb⟩
        obtain ⟨hw, z5, z6, e1'⟩ := keep2 HW3.out hB hlt z4 hb
        rw [e1']
        have HW4 := Lib.hid hw
        clear e1' hb hw HW3 z3 z4
        have hce : ((boxed (boxed w4 w2.heap.size #[.int .i64 1, .int .i64 1, .int .u8 3, .int .i64 a, .int .i64 0, .int .i64 t, .int .i64 x, .bool g] 25) (w2.heap.size + 1) #[.int .i64 0, .int .i64 e1, .int .i64 e2, .int .i64 (e3 + 1), .int .i64 e4, .int .i64 e5] 55).alloc (.cells #[.int .u8 3, .int .i64 1, .int .i64 1, .int .i64 0, .int .i64 0, .int .u8 1] 35)).cell? (ad.add K) = some (.int .u8 u) := by
          refine (World.cell?_of_block ?_).trans HCE.out
          rw [ad_block]
          have hB4 := HW4.out
          exact Below.block (show Below w.heap.size w _ by (repeat (first | assumption | (with_reducible exact Below.refl _ _) | (with_reducible refine boxed_below ?_ ?_; rotate_left; (focus (first | omega | (simp; done) | (simp; omega)))) | (with_reducible refine Below.alloc ?_ ?_ _; rotate_left; (focus (first | omega | (simp; done) | (simp; omega)))) | (with_reducible refine Below.drew ?_)))) _ hadb
        go_wp2_with (fail)
        rw [HVE.out]
        refine (HH.out _).mono ?_
        rintro e w5 ⟨rfl, hb⟩
        obtain ⟨hw, z7, z8, z9, e1'⟩ := keep2_alloc HW4.out hB hlt z6 hb
        rw [e1']
        have HW5 := Lib.hid hw
        clear e1' hb hw HW4
        go_wp2
        go_roundw
        case rel => exact ⟨K + 1, I + 1, pz, tz, xz, e1, e2, e3 + 1, e4, e5, by go_num, by go_num, ⟨by have := HV.out.1; omega, by have h1 := HV.out.2.1; have h2 := HV.out.2.2.2; omega, HV.out.2.2.1⟩, boxed_below (boxed_below (boxed_below HW5.out hB) (by omega)) (by omega), boxed_old (by omega) (boxed_old (by omega) (boxed_at (by omega))), boxed_old (by omega) (boxed_at (by rw [boxed_size]; omega))⟩
        case measure => simp [intOf]; omega
      · have dk : decide ((K : Int) < (n : Int)) = false := by simp; omega
        obtain ⟨v, hv⟩ : ∃ v, (1 : Int) = v := ⟨_, rfl⟩
        have hv0 : v ≠ 0 := by omega
        have HVE := Lib.hid hv
        clear hv
        obtain ⟨pz, tz, xz, hpz, htz, HH⟩ := hear_step (o := o) (x := x) (g := g) (a := a) (v := v) (p := 3) (t := t) (by decide) hv0 HAS.out.1
        have hwn := way_3 (o := o) (a := a) (x := x) (v := v) hW
        rw [hpz, htz] at hwn
        have HV : Hid (K ≤ I ∧ (I : Int) + Cy.left 3 t ≤ 11 ∧ Cy.Way g pz tz (e1) (e2) (e3 + 1) (e4) (e5) ∧ Cy.left pz tz + 1 ≤ Cy.left 3 t) := ⟨hKI, hL, hwn.1, hwn.2⟩
        clear hwn hpz htz hW hL hv0
        go_wp2_with (fail)
        refine (cyended_any _ _ _ _ _ _ _ _ _).mono ?_
        rw [d7]
        rintro e w3 ⟨rfl, hb⟩
        obtain ⟨hw, z3, z4, e1'⟩ := keep2 HW.out hB hlt haz hb
        rw [e1']
        have HW3 := Lib.hid hw
        clear e1' hb hw HW haz hcz
        go_wp2_with (fail)
        refine (cyasks_any _ _ _ _ _ _ _ _ _ _).mono ?_
        rw [HAS.out.1, HAS.out.2]
        dsimp only [Nv.arr]
        rintro e w4 ⟨rfl, hb⟩
        obtain ⟨hw, z5, z6, e1'⟩ := keep2 HW3.out hB hlt z4 hb
        rw [e1']
        have HW4 := Lib.hid hw
        clear e1' hb hw HW3 z3 z4
        obtain rfl := HVE.out
        clear HVE
        go_wp2_with (fail)
        refine (HH.out _).mono ?_
        rintro e w5 ⟨rfl, hb⟩
        obtain ⟨hw, z7, z8, z9, e1'⟩ := keep2_alloc HW4.out hB hlt z6 hb
        rw [e1']
        have HW5 := Lib.hid hw
        clear e1' hb hw HW4
        go_wp2
        go_roundw
        case rel => exact ⟨K + 1, I + 1, pz, tz, xz, e1, e2, e3 + 1, e4, e5, by go_num, by go_num, ⟨by have := HV.out.1; omega, by have h1 := HV.out.2.1; have h2 := HV.out.2.2.2; omega, HV.out.2.2.1⟩, boxed_below (boxed_below (boxed_below HW5.out hB) (by omega)) (by omega), boxed_old (by omega) (boxed_old (by omega) (boxed_at (by omega))), boxed_old (by omega) (boxed_at (by rw [boxed_size]; omega))⟩
        case measure => simp [intOf]; omega
    · have hask : Cv.ask 1 ⟨1, 1, 4, a, 0, t, x, g⟩ = ⟨5, 1, 1, 0, 0, 0⟩ := rfl
      have hasks : Cv.asks ⟨1, 1, 4, a, 0, t, x, g⟩ = true := rfl
      have HAS := Lib.hid (And.intro hask hasks)
      clear hask hasks
      by_cases hKn : K < n
      · have dk : decide ((K : Int) < (n : Int)) = true := by simp; omega
        have hkl : K < l.length := by rw [HN.out]; exact hKn
        obtain ⟨ad, rfl, hadb, hcell⟩ := HR.out.at_ hkl
        have hu := wf_u8 (WL.out _ (List.getElem_mem hkl))
        generalize l[K] = u at *
        obtain ⟨hu0, hu1⟩ := hu
        have eu := Int.tmod_eq_emod_of_nonneg (b := 3) hu0
        obtain ⟨v, hv⟩ : ∃ v, 1 + u % 3 = v := ⟨_, rfl⟩
        have hv0 : v ≠ 0 := by omega
        have HVE := Lib.hid hv
        have HCE := Lib.hid hcell
        have k0 : (0 : Int) ≤ (K : Int) := by omega
        have k1 : (K : Int) < (n : Int) := by omega
        clear hv hkl hcell
        obtain ⟨pz, tz, xz, hpz, htz, HH⟩ := hear_step (o := o) (x := x) (g := g) (a := a) (v := v) (p := 4) (t := t) (by decide) hv0 HAS.out.1
        have hwn := way_4 (o := o) (a := a) (x := x) (v := v) hW
        rw [hpz, htz] at hwn
        have HV : Hid (K ≤ I ∧ (I : Int) + Cy.left 4 t ≤ 11 ∧ Cy.Way g pz tz (e1) (e2) (e3) (e4) (e5 + 1) ∧ Cy.left pz tz + 1 ≤ Cy.left 4 t) := ⟨hKI, hL, hwn.1, hwn.2⟩
        clear hwn hpz htz hW hL hv0
        go_wp2_with (fail)
        refine (cyended_any _ _ _ _ _ _ _ _ _).mono ?_
        rw [d7]
        rintro e w3 ⟨rfl, hb⟩
        obtain ⟨hw, z3, z4, e1'⟩ := keep2 HW.out hB hlt haz hb
        rw [e1']
        have HW3 := Lib.hid hw
        clear e1' hb hw HW haz hcz
        go_wp2_with (fail)
        refine (cyasks_any _ _ _ _ _ _ _ _ _ _).mono ?_
        rw [HAS.out.1, HAS.out.2]
        dsimp only [Nv.arr]
        rintro e w4 ⟨rfl, hb⟩
        obtain ⟨hw, z5, z6, e1'⟩ := keep2 HW3.out hB hlt z4 hb
        rw [e1']
        have HW4 := Lib.hid hw
        clear e1' hb hw HW3 z3 z4
        have hce : ((boxed (boxed w4 w2.heap.size #[.int .i64 1, .int .i64 1, .int .u8 4, .int .i64 a, .int .i64 0, .int .i64 t, .int .i64 x, .bool g] 25) (w2.heap.size + 1) #[.int .i64 0, .int .i64 e1, .int .i64 e2, .int .i64 e3, .int .i64 e4, .int .i64 (e5 + 1)] 55).alloc (.cells #[.int .u8 5, .int .i64 1, .int .i64 1, .int .i64 0, .int .i64 0, .int .u8 1] 35)).cell? (ad.add K) = some (.int .u8 u) := by
          refine (World.cell?_of_block ?_).trans HCE.out
          rw [ad_block]
          have hB4 := HW4.out
          exact Below.block (show Below w.heap.size w _ by (repeat (first | assumption | (with_reducible exact Below.refl _ _) | (with_reducible refine boxed_below ?_ ?_; rotate_left; (focus (first | omega | (simp; done) | (simp; omega)))) | (with_reducible refine Below.alloc ?_ ?_ _; rotate_left; (focus (first | omega | (simp; done) | (simp; omega)))) | (with_reducible refine Below.drew ?_)))) _ hadb
        go_wp2_with (fail)
        rw [HVE.out]
        refine (HH.out _).mono ?_
        rintro e w5 ⟨rfl, hb⟩
        obtain ⟨hw, z7, z8, z9, e1'⟩ := keep2_alloc HW4.out hB hlt z6 hb
        rw [e1']
        have HW5 := Lib.hid hw
        clear e1' hb hw HW4
        go_wp2
        go_roundw
        case rel => exact ⟨K + 1, I + 1, pz, tz, xz, e1, e2, e3, e4, e5 + 1, by go_num, by go_num, ⟨by have := HV.out.1; omega, by have h1 := HV.out.2.1; have h2 := HV.out.2.2.2; omega, HV.out.2.2.1⟩, boxed_below (boxed_below (boxed_below HW5.out hB) (by omega)) (by omega), boxed_old (by omega) (boxed_old (by omega) (boxed_at (by omega))), boxed_old (by omega) (boxed_at (by rw [boxed_size]; omega))⟩
        case measure => simp [intOf]; omega
      · have dk : decide ((K : Int) < (n : Int)) = false := by simp; omega
        obtain ⟨v, hv⟩ : ∃ v, (1 : Int) = v := ⟨_, rfl⟩
        have hv0 : v ≠ 0 := by omega
        have HVE := Lib.hid hv
        clear hv
        obtain ⟨pz, tz, xz, hpz, htz, HH⟩ := hear_step (o := o) (x := x) (g := g) (a := a) (v := v) (p := 4) (t := t) (by decide) hv0 HAS.out.1
        have hwn := way_4 (o := o) (a := a) (x := x) (v := v) hW
        rw [hpz, htz] at hwn
        have HV : Hid (K ≤ I ∧ (I : Int) + Cy.left 4 t ≤ 11 ∧ Cy.Way g pz tz (e1) (e2) (e3) (e4) (e5 + 1) ∧ Cy.left pz tz + 1 ≤ Cy.left 4 t) := ⟨hKI, hL, hwn.1, hwn.2⟩
        clear hwn hpz htz hW hL hv0
        go_wp2_with (fail)
        refine (cyended_any _ _ _ _ _ _ _ _ _).mono ?_
        rw [d7]
        rintro e w3 ⟨rfl, hb⟩
        obtain ⟨hw, z3, z4, e1'⟩ := keep2 HW.out hB hlt haz hb
        rw [e1']
        have HW3 := Lib.hid hw
        clear e1' hb hw HW haz hcz
        go_wp2_with (fail)
        refine (cyasks_any _ _ _ _ _ _ _ _ _ _).mono ?_
        rw [HAS.out.1, HAS.out.2]
        dsimp only [Nv.arr]
        rintro e w4 ⟨rfl, hb⟩
        obtain ⟨hw, z5, z6, e1'⟩ := keep2 HW3.out hB hlt z4 hb
        rw [e1']
        have HW4 := Lib.hid hw
        clear e1' hb hw HW3 z3 z4
        obtain rfl := HVE.out
        clear HVE
        go_wp2_with (fail)
        refine (HH.out _).mono ?_
        rintro e w5 ⟨rfl, hb⟩
        obtain ⟨hw, z7, z8, z9, e1'⟩ := keep2_alloc HW4.out hB hlt z6 hb
        rw [e1']
        have HW5 := Lib.hid hw
        clear e1' hb hw HW4
        go_wp2
        go_roundw
        case rel => exact ⟨K + 1, I + 1, pz, tz, xz, e1, e2, e3, e4, e5 + 1, by go_num, by go_num, ⟨by have := HV.out.1; omega, by have h1 := HV.out.2.1; have h2 := HV.out.2.2.2; omega, HV.out.2.2.1⟩, boxed_below (boxed_below (boxed_below HW5.out hB) (by omega)) (by omega), boxed_old (by omega) (boxed_old (by omega) (boxed_at (by omega))), boxed_old (by omega) (boxed_at (by rw [boxed_size]; omega))⟩
        case measure => simp [intOf]; omega
    · have hask : Cv.ask 1 ⟨1, 1, 5, a, 0, t, x, g⟩ = ⟨4, 1, 1, 0, 0, 0⟩ := rfl
      have hasks : Cv.asks ⟨1, 1, 5, a, 0, t, x, g⟩ = true := rfl
      have HAS := Lib.hid (And.intro hask hasks)
      clear hask hasks
      by_cases hKn : K < n
      · have dk : decide ((K : Int) < (n : Int)) = true := by simp; omega
        have hkl : K < l.length := by rw [HN.out]; exact hKn
        obtain ⟨ad, rfl, hadb, hcell⟩ := HR.out.at_ hkl
        have hu := wf_u8 (WL.out _ (List.getElem_mem hkl))
        generalize l[K] = u at *
        obtain ⟨hu0, hu1⟩ := hu
        have eu := Int.tmod_eq_emod_of_nonneg (b := 3) hu0
        obtain ⟨v, hv⟩ : ∃ v, 1 + u % 3 = v := ⟨_, rfl⟩
        have hv0 : v ≠ 0 := by omega
        have HVE := Lib.hid hv
        have HCE := Lib.hid hcell
        have k0 : (0 : Int) ≤ (K : Int) := by omega
        have k1 : (K : Int) < (n : Int) := by omega
        clear hv hkl hcell
        obtain ⟨pz, tz, xz, hpz, htz, HH⟩ := hear_step (o := o) (x := x) (g := g) (a := a) (v := v) (p := 5) (t := t) (by decide) hv0 HAS.out.1
        have hwn := way_5 (o := o) (a := a) (x := x) (v := v) hW
        rw [hpz, htz] at hwn
        have HV : Hid (K ≤ I ∧ (I : Int) + Cy.left 5 t ≤ 11 ∧ Cy.Way g pz tz (e1) (e2) (e3) (e4 + 1) (e5) ∧ Cy.left pz tz + 1 ≤ Cy.left 5 t) := ⟨hKI, hL, hwn.1, hwn.2⟩
        clear hwn hpz htz hW hL hv0
        go_wp2_with (fail)
        refine (cyended_any _ _ _ _ _ _ _ _ _).mono ?_
        rw [d7]
        rintro e w3 ⟨rfl, hb⟩
        obtain ⟨hw, z3, z4, e1'⟩ := keep2 HW.out hB hlt haz hb
        rw [e1']
        have HW3 := Lib.hid hw
        clear e1' hb hw HW haz hcz
        go_wp2_with (fail)
        refine (cyasks_any _ _ _ _ _ _ _ _ _ _).mono ?_
        rw [HAS.out.1, HAS.out.2]
        dsimp only [Nv.arr]
        rintro e w4 ⟨rfl, hb⟩
        obtain ⟨hw, z5, z6, e1'⟩ := keep2 HW3.out hB hlt z4 hb
        rw [e1']
        have HW4 := Lib.hid hw
        clear e1' hb hw HW3 z3 z4
        have hce : ((boxed (boxed w4 w2.heap.size #[.int .i64 1, .int .i64 1, .int .u8 5, .int .i64 a, .int .i64 0, .int .i64 t, .int .i64 x, .bool g] 25) (w2.heap.size + 1) #[.int .i64 0, .int .i64 e1, .int .i64 e2, .int .i64 e3, .int .i64 (e4 + 1), .int .i64 e5] 55).alloc (.cells #[.int .u8 4, .int .i64 1, .int .i64 1, .int .i64 0, .int .i64 0, .int .u8 1] 35)).cell? (ad.add K) = some (.int .u8 u) := by
          refine (World.cell?_of_block ?_).trans HCE.out
          rw [ad_block]
          have hB4 := HW4.out
          exact Below.block (show Below w.heap.size w _ by (repeat (first | assumption | (with_reducible exact Below.refl _ _) | (with_reducible refine boxed_below ?_ ?_; rotate_left; (focus (first | omega | (simp; done) | (simp; omega)))) | (with_reducible refine Below.alloc ?_ ?_ _; rotate_left; (focus (first | omega | (simp; done) | (simp; omega)))) | (with_reducible refine Below.drew ?_)))) _ hadb
        go_wp2_with (fail)
        rw [HVE.out]
        refine (HH.out _).mono ?_
        rintro e w5 ⟨rfl, hb⟩
        obtain ⟨hw, z7, z8, z9, e1'⟩ := keep2_alloc HW4.out hB hlt z6 hb
        rw [e1']
        have HW5 := Lib.hid hw
        clear e1' hb hw HW4
        go_wp2
        go_roundw
        case rel => exact ⟨K + 1, I + 1, pz, tz, xz, e1, e2, e3, e4 + 1, e5, by go_num, by go_num, ⟨by have := HV.out.1; omega, by have h1 := HV.out.2.1; have h2 := HV.out.2.2.2; omega, HV.out.2.2.1⟩, boxed_below (boxed_below (boxed_below HW5.out hB) (by omega)) (by omega), boxed_old (by omega) (boxed_old (by omega) (boxed_at (by omega))), boxed_old (by omega) (boxed_at (by rw [boxed_size]; omega))⟩
        case measure => simp [intOf]; omega
      · have dk : decide ((K : Int) < (n : Int)) = false := by simp; omega
        obtain ⟨v, hv⟩ : ∃ v, (1 : Int) = v := ⟨_, rfl⟩
        have hv0 : v ≠ 0 := by omega
        have HVE := Lib.hid hv
        clear hv
        obtain ⟨pz, tz, xz, hpz, htz, HH⟩ := hear_step (o := o) (x := x) (g := g) (a := a) (v := v) (p := 5) (t := t) (by decide) hv0 HAS.out.1
        have hwn := way_5 (o := o) (a := a) (x := x) (v := v) hW
        rw [hpz, htz] at hwn
        have HV : Hid (K ≤ I ∧ (I : Int) + Cy.left 5 t ≤ 11 ∧ Cy.Way g pz tz (e1) (e2) (e3) (e4 + 1) (e5) ∧ Cy.left pz tz + 1 ≤ Cy.left 5 t) := ⟨hKI, hL, hwn.1, hwn.2⟩
        clear hwn hpz htz hW hL hv0
        go_wp2_with (fail)
        refine (cyended_any _ _ _ _ _ _ _ _ _).mono ?_
        rw [d7]
        rintro e w3 ⟨rfl, hb⟩
        obtain ⟨hw, z3, z4, e1'⟩ := keep2 HW.out hB hlt haz hb
        rw [e1']
        have HW3 := Lib.hid hw
        clear e1' hb hw HW haz hcz
        go_wp2_with (fail)
        refine (cyasks_any _ _ _ _ _ _ _ _ _ _).mono ?_
        rw [HAS.out.1, HAS.out.2]
        dsimp only [Nv.arr]
        rintro e w4 ⟨rfl, hb⟩
        obtain ⟨hw, z5, z6, e1'⟩ := keep2 HW3.out hB hlt z4 hb
        rw [e1']
        have HW4 := Lib.hid hw
        clear e1' hb hw HW3 z3 z4
        obtain rfl := HVE.out
        clear HVE
        go_wp2_with (fail)
        refine (HH.out _).mono ?_
        rintro e w5 ⟨rfl, hb⟩
        obtain ⟨hw, z7, z8, z9, e1'⟩ := keep2_alloc HW4.out hB hlt z6 hb
        rw [e1']
        have HW5 := Lib.hid hw
        clear e1' hb hw HW4
        go_wp2
        go_roundw
        case rel => exact ⟨K + 1, I + 1, pz, tz, xz, e1, e2, e3, e4 + 1, e5, by go_num, by go_num, ⟨by have := HV.out.1; omega, by have h1 := HV.out.2.1; have h2 := HV.out.2.2.2; omega, HV.out.2.2.1⟩, boxed_below (boxed_below (boxed_below HW5.out hB) (by omega)) (by omega), boxed_old (by omega) (boxed_old (by omega) (boxed_at (by omega))), boxed_old (by omega) (boxed_at (by rw [boxed_size]; omega))⟩
        case measure => simp [intOf]; omega
    · have hask : Cv.ask 1 ⟨1, 1, 6, a, 0, t, x, g⟩ = ⟨2, 1, 1, 0, a, 0⟩ := rfl
      have hasks : Cv.asks ⟨1, 1, 6, a, 0, t, x, g⟩ = true := rfl
      have HAS := Lib.hid (And.intro hask hasks)
      clear hask hasks
      by_cases hKn : K < n
      · have dk : decide ((K : Int) < (n : Int)) = true := by simp; omega
        have hkl : K < l.length := by rw [HN.out]; exact hKn
        obtain ⟨ad, rfl, hadb, hcell⟩ := HR.out.at_ hkl
        have hu := wf_u8 (WL.out _ (List.getElem_mem hkl))
        generalize l[K] = u at *
        obtain ⟨hu0, hu1⟩ := hu
        have eu := Int.tmod_eq_emod_of_nonneg (b := 3) hu0
        obtain ⟨v, hv⟩ : ∃ v, 1 + u % 3 = v := ⟨_, rfl⟩
        have hv0 : v ≠ 0 := by omega
        have HVE := Lib.hid hv
        have HCE := Lib.hid hcell
        have k0 : (0 : Int) ≤ (K : Int) := by omega
        have k1 : (K : Int) < (n : Int) := by omega
        clear hv hkl hcell
        obtain ⟨pz, tz, xz, hpz, htz, HH⟩ := hear_step (o := o) (x := x) (g := g) (a := a) (v := v) (p := 6) (t := t) (by decide) hv0 HAS.out.1
        have hwn := way_6 (o := o) (a := a) (x := x) (v := v) hW
        rw [hpz, htz] at hwn
        have HV : Hid (K ≤ I ∧ (I : Int) + Cy.left 6 t ≤ 11 ∧ Cy.Way g pz tz (e1) (e2 + 1) (e3) (e4) (e5) ∧ Cy.left pz tz + 1 ≤ Cy.left 6 t) := ⟨hKI, hL, hwn.1, hwn.2⟩
        clear hwn hpz htz hW hL hv0
        go_wp2_with (fail)
        refine (cyended_any _ _ _ _ _ _ _ _ _).mono ?_
        rw [d7]
        rintro e w3 ⟨rfl, hb⟩
        obtain ⟨hw, z3, z4, e1'⟩ := keep2 HW.out hB hlt haz hb
        rw [e1']
        have HW3 := Lib.hid hw
        clear e1' hb hw HW haz hcz
        go_wp2_with (fail)
        refine (cyasks_any _ _ _ _ _ _ _ _ _ _).mono ?_
        rw [HAS.out.1, HAS.out.2]
        dsimp only [Nv.arr]
        rintro e w4 ⟨rfl, hb⟩
        obtain ⟨hw, z5, z6, e1'⟩ := keep2 HW3.out hB hlt z4 hb
        rw [e1']
        have HW4 := Lib.hid hw
        clear e1' hb hw HW3 z3 z4
        have hce : ((boxed (boxed w4 w2.heap.size #[.int .i64 1, .int .i64 1, .int .u8 6, .int .i64 a, .int .i64 0, .int .i64 t, .int .i64 x, .bool g] 25) (w2.heap.size + 1) #[.int .i64 0, .int .i64 e1, .int .i64 (e2 + 1), .int .i64 e3, .int .i64 e4, .int .i64 e5] 55).alloc (.cells #[.int .u8 2, .int .i64 1, .int .i64 1, .int .i64 0, .int .i64 a, .int .u8 1] 35)).cell? (ad.add K) = some (.int .u8 u) := by
          refine (World.cell?_of_block ?_).trans HCE.out
          rw [ad_block]
          have hB4 := HW4.out
          exact Below.block (show Below w.heap.size w _ by (repeat (first | assumption | (with_reducible exact Below.refl _ _) | (with_reducible refine boxed_below ?_ ?_; rotate_left; (focus (first | omega | (simp; done) | (simp; omega)))) | (with_reducible refine Below.alloc ?_ ?_ _; rotate_left; (focus (first | omega | (simp; done) | (simp; omega)))) | (with_reducible refine Below.drew ?_)))) _ hadb
        go_wp2_with (fail)
        rw [HVE.out]
        refine (HH.out _).mono ?_
        rintro e w5 ⟨rfl, hb⟩
        obtain ⟨hw, z7, z8, z9, e1'⟩ := keep2_alloc HW4.out hB hlt z6 hb
        rw [e1']
        have HW5 := Lib.hid hw
        clear e1' hb hw HW4
        go_wp2
        go_roundw
        case rel => exact ⟨K + 1, I + 1, pz, tz, xz, e1, e2 + 1, e3, e4, e5, by go_num, by go_num, ⟨by have := HV.out.1; omega, by have h1 := HV.out.2.1; have h2 := HV.out.2.2.2; omega, HV.out.2.2.1⟩, boxed_below (boxed_below (boxed_below HW5.out hB) (by omega)) (by omega), boxed_old (by omega) (boxed_old (by omega) (boxed_at (by omega))), boxed_old (by omega) (boxed_at (by rw [boxed_size]; omega))⟩
        case measure => simp [intOf]; omega
      · have dk : decide ((K : Int) < (n : Int)) = false := by simp; omega
        obtain ⟨v, hv⟩ : ∃ v, (1 : Int) = v := ⟨_, rfl⟩
        have hv0 : v ≠ 0 := by omega
        have HVE := Lib.hid hv
        clear hv
        obtain ⟨pz, tz, xz, hpz, htz, HH⟩ := hear_step (o := o) (x := x) (g := g) (a := a) (v := v) (p := 6) (t := t) (by decide) hv0 HAS.out.1
        have hwn := way_6 (o := o) (a := a) (x := x) (v := v) hW
        rw [hpz, htz] at hwn
        have HV : Hid (K ≤ I ∧ (I : Int) + Cy.left 6 t ≤ 11 ∧ Cy.Way g pz tz (e1) (e2 + 1) (e3) (e4) (e5) ∧ Cy.left pz tz + 1 ≤ Cy.left 6 t) := ⟨hKI, hL, hwn.1, hwn.2⟩
        clear hwn hpz htz hW hL hv0
        go_wp2_with (fail)
        refine (cyended_any _ _ _ _ _ _ _ _ _).mono ?_
        rw [d7]
        rintro e w3 ⟨rfl, hb⟩
        obtain ⟨hw, z3, z4, e1'⟩ := keep2 HW.out hB hlt haz hb
        rw [e1']
        have HW3 := Lib.hid hw
        clear e1' hb hw HW haz hcz
        go_wp2_with (fail)
        refine (cyasks_any _ _ _ _ _ _ _ _ _ _).mono ?_
        rw [HAS.out.1, HAS.out.2]
        dsimp only [Nv.arr]
        rintro e w4 ⟨rfl, hb⟩
        obtain ⟨hw, z5, z6, e1'⟩ := keep2 HW3.out hB hlt z4 hb
        rw [e1']
        have HW4 := Lib.hid hw
        clear e1' hb hw HW3 z3 z4
        obtain rfl := HVE.out
        clear HVE
        go_wp2_with (fail)
        refine (HH.out _).mono ?_
        rintro e w5 ⟨rfl, hb⟩
        obtain ⟨hw, z7, z8, z9, e1'⟩ := keep2_alloc HW4.out hB hlt z6 hb
        rw [e1']
        have HW5 := Lib.hid hw
        clear e1' hb hw HW4
        go_wp2
        go_roundw
        case rel => exact ⟨K + 1, I + 1, pz, tz, xz, e1, e2 + 1, e3, e4, e5, by go_num, by go_num, ⟨by have := HV.out.1; omega, by have h1 := HV.out.2.1; have h2 := HV.out.2.2.2; omega, HV.out.2.2.1⟩, boxed_below (boxed_below (boxed_below HW5.out hB) (by omega)) (by omega), boxed_old (by omega) (boxed_old (by omega) (boxed_at (by omega))), boxed_old (by omega) (boxed_at (by rw [boxed_size]; omega))⟩
        case measure => simp [intOf]; omega
end Go.Proofs.Ythilcefikhnilaa
