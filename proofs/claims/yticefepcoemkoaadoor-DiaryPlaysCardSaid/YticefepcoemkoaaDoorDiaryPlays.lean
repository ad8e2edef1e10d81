/-
  'paybooklaw08.DiaryPlays' returns true for every input, and each argument reads afterwards as it did. Condition: the listed tables start as the program's text lays them, to which the card ties them (over a pruned copy of the project).
-/
import Derived.Test.YticefepcoemkoaaDoorCards
import Derived.Test.YticefepcoemkoaaDoorTie
import Derived.Test.YticefepcoemkoaaDoorDyPlaysWalk
import Derived.Test.YticefepcoemkoaaDoorRow
import Derived.Lib.SmallJoins
import Derived.Deep.DeepHandedRow
import Derived.Stop.LaidErr
namespace Go.Proofs.YticefepcoemkoaaDoor
set_option maxRecDepth 20000
open Go.ChangeShapes Go.WideShapes Go.ChangeAt Go.RowKit

set_option maxHeartbeats 8000000 in
theorem diaryPlays_in (x : Nat) (A : Option Addr) (m c : Nat) (l : List Da) (w : World) (ht : Lines w) (hr : RdDas w w.heap.size A l) (hw : ∀ a ∈ l, Da.Wf a) (hn : l.length = m) (hx : x < 256) (h : ∀ a ∈ l, a.p.length ≤ 150) (h30 : m ≤ 30) :
    Calls Tryd.prog 3 #[.int .u8 x, .slice A m c] w fun e w' => e = .returned (.bool true) ∧ Below w.heap.size w w' := by
  have HT := Lib.hid ht
  have HR := Lib.hid hr
  have HF := Lib.hid hw
  have HN := Lib.hid hn
  have H150 := Lib.hid h
  clear ht hr hw hn h
  go_enter Tryd.func3, Tryd.ntmps3
  go_wp2_with (fail)
  refine (awake_any _ HT.out).mono ?_
  rintro e w1 ⟨rfl, hb1⟩
  have HB1 := Lib.hid hb1
  have HT1 := Lib.hid (HT.out.below hb1)
  clear hb1
  go_wp2_with (fail)
  refine (short_yes w1 w.heap.size m c A l (HR.out.kept HB1.out.block) HN.out H150.out h30).mono ?_
  rintro e w2 ⟨rfl, rfl⟩
  obtain ⟨s, hs⟩ : ∃ s, s = 2 + x % 20 := ⟨_, rfl⟩
  obtain ⟨nh, hnh⟩ : ∃ nh, s / 2 = nh := ⟨_, rfl⟩
  have e1 : (2 : Int) + (x : Int) % 20 = (s : Int) := by omega
  have hs2 : 2 ≤ s ∧ s ≤ 21 := by omega
  have HNH := Lib.hid hnh
  have hnh2 : 1 ≤ nh ∧ nh ≤ 10 := by omega
  clear hs
  go_wp2_with (fail)
  refine (dy_new w1 s (by omega)).mono ?_
  rintro e w3 ⟨rfl, hl3, hb3, hs3⟩
  have HL3 := Lib.hid hl3
  have HS3 := Lib.hid hs3
  clear hl3 hb3 hs3 e1
  go_wp2_with (fail)
  refine (dy_begin HL3.out HS3.out (by omega) (by omega) HT1.out).mono ?_
  rintro e w4 ⟨d, rfl, hk4, f4, st4, N4, I4, E4, hd4⟩
  rw [HNH.out] at hd4
  have HPT : Hid (Pt w w1 w4 (w1.heap.size + 2) s nh 600 d 1 16 0 0 0 none none) := ⟨_, _, [], [], [], [], f4, st4, N4, I4, E4, hd4.less (fun i hi => by cases hi), by simp [Sl.log, Sl.closed_len], .inr ⟨rfl, rfl⟩, .inl rfl, Rd.none, rfl, World.ownsRow_nil _ _ _ _, Ents.nil _ _, rfl⟩
  clear hk4 hd4
  have hq1 : Int.tdiv (s : Int) 2 = (nh : Int) := by rw [← hnh]; rfl
  have hq2 : (s : Int) / 2 = (nh : Int) := by omega
  clear hnh
  go_wp2
  go_loopw [7, 10, 11, 12, 13, 14] (fun D at_ age fi li i wr => ∃ (j d ag q n1 c1 n2 c2 : Nat) (A1 A2 : Option Addr), j ≤ m ∧ D = .pointer (some ⟨d, 0, none⟩) ∧ at_ = .int .i64 q ∧ age = .int .i64 ag ∧ fi = .slice A1 n1 c1 ∧ li = .slice A2 n2 c2 ∧ i = .int .i64 j ∧ ag ≤ 1 + j ∧ Hid (Pt w w1 wr (w1.heap.size + 2) s nh (600 + 600 * j) d ag q n1 n2 c2 A1 A2)) (fun _ _ _ _ _ i _ => m - (intOf i).toNat)
  case atStart => exact ⟨0, d, 1, 16, 0, 0, 0, 0, none, none, by omega, rfl, rfl, rfl, rfl, rfl, rfl, by omega, HPT⟩
  case round =>
    clear HPT
    obtain ⟨j, d, ag, q, n1, c1, n2, c2, A1, A2, hj, rfl, rfl, rfl, rfl, rfl, rfl, hag, HP⟩ := hrel
    have HX : Hid (Below w.heap.size w wr) := HB1.out.trans (HP.out.old.mono HB1.out.size)
    by_cases hlt : j < m
    · have d4 : decide ((j : Int) < (m : Int)) = true := by simp; omega
      obtain ⟨a, ha⟩ : ∃ a, l[j]? = some a := ⟨l[j]'(by rw [HN.out]; exact hlt), List.getElem?_eq_getElem _⟩
      obtain ⟨b, o, A', c', rfl, hb, hck, hcp, hcc, hrp⟩ := HR.out j a ha
      have hwf := HF.out a (List.mem_of_getElem? ha)
      have h150 := H150.out a (List.mem_of_getElem? ha)
      have hrp2 : Rd wr .u8 w.heap.size A' a.p := hrp.below HX.out
      have hk0 : wr.cell? ⟨b, o + j * 2, none⟩ = some (.int .u8 a.k) := (World.cell?_of_block (a := ⟨b, o + j * 2, none⟩) (HX.out.block b hb)).trans hck
      have hp0 : wr.cell? ⟨b, o + j * 2 + 1, none⟩ = some (.slice A' a.p.length c') := (World.cell?_of_block (a := ⟨b, o + j * 2 + 1, none⟩) (HX.out.block b hb)).trans hcp
      obtain ⟨k, p⟩ := a
      obtain ⟨⟨k0, k1⟩, hby⟩ := hwf
      dsimp only at hk0 hp0 hcc hrp2 h150 k0 k1 hby
      have HBY : Hid (BytesOk p) := fun y hy => wf_u8 (hby y hy)
      have HRP := Lib.hid hrp2
      obtain ⟨nb, hnb⟩ : ∃ nb, p.length = nb := ⟨_, rfl⟩
      have HNB := Lib.hid hnb
      rw [hnb] at hp0 hcc h150
      have hle0 := HP.out.le
      clear hck hcp hrp hrp2 hby hnb ha
      by_cases hadd : k % 8 < 6
      · have d5 : decide (k % 8 < 6) = true := by simpa using hadd
        go_wp2_with (fail)
        refine (pt_add HP.out HB1.out.size A' nb c' p HRP.out HBY.out HNB.out (by omega) HT1.out (by omega)).mono ?_
        rintro e w6 (⟨hfit, rfl, hrp6, p1, p2, fs, es, lo, vs, f, st, N, I, E, hps⟩ | ⟨hno, rfl, hpt⟩)
        · have d6 : decide ((q : Int) + 16 + (nb : Int) ≤ (nh : Int) * 64) = true := by simp; omega
          have HPS := Lib.hid hps
          have HRP6 := Lib.hid hrp6
          have hvo := ents_one hps.ents
          have HVO := Lib.hid hvo
          have hn2 := hle0.2
          clear hps hrp6 hvo hk0 hp0
          go_wp2_with (first
            | (at_builtin; refine wpList_copy_row rfl _ _ rfl rfl _ n2 (.slice A2 n2 c2) vs rfl rfl HPS.out.row HVO.out hn2 ?_; intro A7 c7 w7 ho7 hb7; have HO7 := Lib.hid ho7; have HB7 := Lib.hid hb7; clear ho7 hb7)
            | (at_builtin; refine wpList_append_slice rfl _ _ rfl w6.heap.size (.slice A7 n2 c7) n2 vs (.slice A' nb c') rfl ⟨w7.heap.size, 0, none⟩ rfl rfl (own_kept HO7.out fun i hi => alloc_block_old (HO7.out.lt i hi).2) (cell_one_new w7 _ _) hn2 (by rw [World.size_alloc]; have := HB7.out.size; omega) ?_; intro A9 c9 w9 ho9 hg9; have HO9 := Lib.hid ho9; have HG9 := Lib.hid hg9; clear ho9 hg9))
          have hb8 : Below w6.heap.size w6 (w7.alloc (.cells #[.slice A' nb c'] 31)) := HB7.out.alloc HB7.out.size _
          have hb9 : Below w6.heap.size w6 w9 := hb8.trans (grown_under HG9.out (fun i hi => (HO7.out.lt i hi).1) hb8.size)
          have HP2 := Lib.hid ((HPS.out.listed HB1.out.size HRP6.out HNB.out hcc hb9 HO9.out).mono (show 600 + 600 * j + 200 ≤ 600 + 600 * (j + 1) by omega) (by omega))
          clear hb8 hb9 HPS HP hfit
          have hle := HP2.out.le
          go_wp2_with (fail)
          refine (pt_told HP2.out HB1.out.size c1).mono ?_
          rintro e wa ⟨rfl, hba⟩
          have HPA := Lib.hid (HP2.out.below HB1.out.size hba)
          clear hba HP2
          go_wp2_with (fail)
          refine (pt_age HPA.out ((ag : Int)) (by omega)).mono ?_
          rintro e wb ⟨rfl, rfl⟩
          go_wp2_with (fail)
          refine (pt_left HPA.out ((nh : Int) * 64 - ((q : Int) + (16 + (nb : Int)))) (by omega)).mono ?_
          rintro e wc ⟨rfl, hbc⟩
          have HPC := Lib.hid (HPA.out.below HB1.out.size hbc)
          clear hbc HPA
          go_wp2
          go_roundw
          case rel => exact ⟨j + 1, d, ag, q + (16 + nb), n1, c1, n2 + 1, c9, A1, A9, by omega, rfl, by go_num, by go_num, rfl, by go_num, by go_num, by omega, HPC⟩
          case measure => simp [intOf]; omega
        · have d6 : decide ((q : Int) + 16 + (nb : Int) ≤ (nh : Int) * 64) = false := by simp; omega
          have HP2 := Lib.hid (hpt.mono (show 600 + 600 * j ≤ 600 + 600 * (j + 1) by omega) (by omega))
          clear hpt HP hk0 hp0 hno
          have hle := HP2.out.le
          go_wp2_with (fail)
          refine (pt_told HP2.out HB1.out.size c1).mono ?_
          rintro e wa ⟨rfl, hba⟩
          have HPA := Lib.hid (HP2.out.below HB1.out.size hba)
          clear hba HP2
          go_wp2_with (fail)
          refine (pt_age HPA.out ((ag : Int)) (by omega)).mono ?_
          rintro e wb ⟨rfl, rfl⟩
          go_wp2_with (fail)
          refine (pt_left HPA.out ((nh : Int) * 64 - (q : Int)) (by omega)).mono ?_
          rintro e wc ⟨rfl, hbc⟩
          have HPC := Lib.hid (HPA.out.below HB1.out.size hbc)
          clear hbc HPA
          go_wp2
          go_roundw
          case rel => exact ⟨j + 1, d, ag, q, n1, c1, n2, c2, A1, A2, by omega, rfl, by go_num, by go_num, rfl, by go_num, by go_num, by omega, HPC⟩
          case measure => simp [intOf]; omega
      · have d5 : decide (k % 8 < 6) = false := by simpa using hadd
        by_cases hst : k % 8 = 6
        · have d7 : (k % 8 == 6) = true := by simpa using hst
          go_wp2_with (fail)
          refine (pt_start HP.out HB1.out.size A' nb c' p HRP.out HBY.out HNB.out (by omega) (by omega) HT1.out (by omega)).mono ?_
          rintro e w6 (⟨hfit, rfl, hpt⟩ | ⟨hno, rfl, hpt⟩)
          · have d6 : decide ((16 : Int) + (nb : Int) ≤ (nh : Int) * 64) = true := by simp; omega
            have HP2 := Lib.hid (hpt.mono (show 600 + 600 * j + 600 ≤ 600 + 600 * (j + 1) by omega) (by omega))
            clear hpt HP hk0 hp0 hfit
            have hle := HP2.out.le
            go_wp2_with (fail)
            refine (pt_told HP2.out HB1.out.size c').mono ?_
            rintro e wa ⟨rfl, hba⟩
            have HPA := Lib.hid (HP2.out.below HB1.out.size hba)
            clear hba HP2
            go_wp2_with (fail)
            refine (pt_age HPA.out ((ag : Int) + 1) (by omega)).mono ?_
            rintro e wb ⟨rfl, rfl⟩
            go_wp2_with (fail)
            refine (pt_left HPA.out ((nh : Int) * 64 - (16 + (nb : Int))) (by omega)).mono ?_
            rintro e wc ⟨rfl, hbc⟩
            have HPC := Lib.hid (HPA.out.below HB1.out.size hbc)
            clear hbc HPA
            go_wp2
            go_roundw
            case rel => exact ⟨j + 1, d, ag + 1, 16 + nb, nb, c', 0, 0, A', none, by omega, rfl, by go_num, by go_num, rfl, by go_num, by go_num, by omega, HPC⟩
            case measure => simp [intOf]; omega
          · have d6 : decide ((16 : Int) + (nb : Int) ≤ (nh : Int) * 64) = false := by simp; omega
            have HP2 := Lib.hid (hpt.mono (show 600 + 600 * j ≤ 600 + 600 * (j + 1) by omega) (by omega))
            clear hpt HP hk0 hp0 hno
            have hle := HP2.out.le
            go_wp2_with (fail)
            refine (pt_told HP2.out HB1.out.size c1).mono ?_
            rintro e wa ⟨rfl, hba⟩
            have HPA := Lib.hid (HP2.out.below HB1.out.size hba)
            clear hba HP2
            go_wp2_with (fail)
            refine (pt_age HPA.out ((ag : Int)) (by omega)).mono ?_
            rintro e wb ⟨rfl, rfl⟩
            go_wp2_with (fail)
            refine (pt_left HPA.out ((nh : Int) * 64 - (q : Int)) (by omega)).mono ?_
            rintro e wc ⟨rfl, hbc⟩
            have HPC := Lib.hid (HPA.out.below HB1.out.size hbc)
            clear hbc HPA
            go_wp2
            go_roundw
            case rel => exact ⟨j + 1, d, ag, q, n1, c1, n2, c2, A1, A2, by omega, rfl, by go_num, by go_num, rfl, by go_num, by go_num, by omega, HPC⟩
            case measure => simp [intOf]; omega
        · have d7 : (k % 8 == 6) = false := by simpa using hst
          go_wp2_with (fail)
          refine (pt_open HP.out HB1.out.size HNH.out HT1.out (by omega)).mono ?_
          rintro e w6 ⟨d8, rfl, hpt⟩
          have HP2 := Lib.hid (hpt.mono (show 600 + 600 * j + 200 ≤ 600 + 600 * (j + 1) by omega) (by omega))
          clear hpt HP hk0 hp0
          have hle := HP2.out.le
          go_wp2_with (fail)
          refine (pt_told HP2.out HB1.out.size c1).mono ?_
          rintro e wa ⟨rfl, hba⟩
          have HPA := Lib.hid (HP2.out.below HB1.out.size hba)
          clear hba HP2
          go_wp2_with (fail)
          refine (pt_age HPA.out ((ag : Int)) (by omega)).mono ?_
          rintro e wb ⟨rfl, rfl⟩
          go_wp2_with (fail)
          refine (pt_left HPA.out ((nh : Int) * 64 - (q : Int)) (by omega)).mono ?_
          rintro e wc ⟨rfl, hbc⟩
          have HPC := Lib.hid (HPA.out.below HB1.out.size hbc)
          clear hbc HPA
          go_wp2
          go_roundw
          case rel => exact ⟨j + 1, d8, ag, q, n1, c1, n2, c2, A1, A2, by omega, rfl, by go_num, by go_num, rfl, by go_num, by go_num, by omega, HPC⟩
          case measure => simp [intOf]; omega
    · obtain rfl : j = m := by omega
      have d4 : decide ((j : Int) < (j : Int)) = false := by simp
      go_wp2
      go_ret
      exact ⟨rfl, HX.out⟩

theorem diaryPlays_walk (x : Int) (hx : (Lit.int .u8 x).wf = true) (A : Option Addr) (c : Nat) (l : List Da) (hc : l.length ≤ c) (hm : c ≤ maxLen) {w : World} (hr : RdDas w w.heap.size A l) (hw : ∀ a ∈ l, Da.Wf a) (ht : Lines w) :
    Calls Tryd.prog 3 #[.int .u8 x, .slice A l.length c] w fun e w' => e = .returned (.bool true) ∧ Below w.heap.size w w' := by
  obtain ⟨h0, h1⟩ := wf_u8 hx
  obtain ⟨k, rfl⟩ := Int.eq_ofNat_of_zero_le h0
  by_cases h : (∀ a ∈ l, a.p.length ≤ 150) ∧ l.length ≤ 30
  · exact diaryPlays_in k A l.length c l w ht hr hw rfl (by omega) h.1 h.2
  · exact diaryPlays_no k A l.length c l w ht hr rfl (Nat.le_trans hc hm) h
end Go.Proofs.YticefepcoemkoaaDoor
namespace Go.Proofs.YticefepcoemkoaaDoor.diaryPlays
set_option maxRecDepth 20000
open Go.ChangeShapes Go.WideShapes Go.ChangeAt Go.RowKit

theorem laidOut : laidOutB Tryd.prog = true := by kernel_rfl
theorem own : ownKnob Tryd.prog.godebug = none := by kernel_rfl

theorem powers : (Rows.laid_paybook_seal_lines : DataW Unit) = Lib.tabData .u32 Sl.tab := by kernel_rfl
theorem table {W : World} (h : laidMetH Tryd.prog Rows.diaryPlaysRow.laid W) : Lines W := by
  have h0 : laidMet Tryd.prog [("paybook/seal.lines", Rows.laid_paybook_seal_lines)] W := h

  rw [powers] at h0
  exact Lib.tabIs_of_head (rest := []) (g := 0) (t := 101) (e := 40) (n := 16) (by kernel_rfl) (by kernel_rfl) Tryd.underlying101 Tryd.underlying40 (by kernel_rfl) (by kernel_rfl) h0

theorem contract (H : Type) (enc : TypeId × Value → H) (W : World) (base : Nat) (args : Array Value) (ds gs : List (DataW H)) (before : List MemPlace)
    (hval : ∀ (j : Nat) t v, Tryd.f3.params[j]? = some t → args[j]? = some v → Value.okWide Tryd.prog W .any base t v)
    (hW : DataW.Whole enc Tryd.prog Tryd.f3.params.toList Rows.diaryPlaysSpec.vars false W args.toList ds gs before) (hL : laidMetH Tryd.prog Rows.diaryPlaysRow.laid W) :
    Calls Tryd.prog 3 args W fun e W' => ∃ v, e = .returned v ∧ Rows.diaryPlaysSpec.post enc Tryd.prog Tryd.f3 false true false false W args v W' := by
  have hW' := hW
  obtain ⟨p, q, hA0, hV, rfl, hfz, hnd⟩ := hW
  have hA : DataW.TrodAll enc Tryd.prog W 0 (fun _ => true) true Tryd.f3.params.toList args.toList ds p := hA0
  rw [Tryd.params3] at hA hval
  obtain ⟨v0, vs0, d0, ds0, p0, q0, hargs, rfl, rfl, h0, r0⟩ := trodAll_cons hA
  obtain ⟨v1, vs1, d1, ds1, p1, q1, rfl, rfl, rfl, h1, r1⟩ := trodAll_cons r0
  obtain ⟨rfl, rfl, rfl⟩ := trodAll_nil r1
  obtain rfl : args = #[v0, v1] := by cases args; simp_all
  obtain ⟨rfl, rfl⟩ := trodVars_none hV
  obtain ⟨a0, rfl, rfl, rfl, w0⟩ := open_int Tryd.underlying5 (hval 0 5 v0 rfl rfl) h0
  obtain ⟨A1, c1, l1, rfl, m1, x1, r1_, w1⟩ := open_das (hval 1 22 v1 rfl rfl) h1
  clear hA0
  simp only [List.append_nil] at hW'
  refine (diaryPlays_walk (w := W) a0 w0 A1 c1 l1 m1 x1 r1_ w1 (table hL)).mono fun e W' ⟨he, hb⟩ => ?_
  subst he
  exact ⟨_, rfl, post_law2 hW' (fun _ _ _ => (trodAll_cons_mk (shut_bool Tryd.underlying4 _) trodAll_mk0)) (trodAll_cons_mk (shut_int Tryd.underlying5 w0) (trodAll_cons_mk (Below.trod laidOut (by kernel_rfl) (of_decide_eq_true (by kernel_rfl)) h1 hb (fun x hx => hW'.lt x (by simp [hx]))) trodAll_mk0)) (fun _ => rfl) (by simp) hb⟩

/-- A world for the witness: the settled one, the listed tables holding what their text lays. -/
noncomputable def laidWorld (os : Os) : World :=
  { World.holding Tryd.prog os ⟨#[], #[], []⟩ with heap :=
    let h0 := (World.holding Tryd.prog os ⟨#[], #[], []⟩).heap
    let h1 := h0.modify 0 fun
      | .cells _ t frozen => .cells #[.int .u32 0, .int .u32 498536548, .int .u32 997073096, .int .u32 651767980, .int .u32 1994146192, .int .u32 1802195444, .int .u32 1303535960, .int .u32 1342533948, .int .u32 3988292384, .int .u32 4027552580, .int .u32 3604390888, .int .u32 3412177804, .int .u32 2607071920, .int .u32 2262029012, .int .u32 2685067896, .int .u32 3183342108] t frozen
      | o => o
    h1 }
theorem laid_met (os : Os) : laidMet Tryd.prog Rows.diaryPlaysRow.laid ((laidWorld os).forCall (fun _ _ => 0) ⟨#[], #[.int .u8 0, .slice none 0 0], []⟩).memory :=
  laidMet_of_run' 8 (by kernel_rfl) (by kernel_rfl)
theorem reads (os : Os) {H : Type} (enc : TypeId × Value → H) : ∃ places, DataW.whole enc Tryd.prog ((laidWorld os).forCall (fun _ _ => 0) ⟨#[], #[.int .u8 0, .slice none 0 0], []⟩).memory Tryd.f3.params.toList Rows.diaryPlaysSpec.vars false (#[.int .u8 0, .slice none 0 0] : Array Value).toList 8 = some ([.lit (.int .u8 0), .nil], [], places) :=
  ⟨[], by kernel_rfl⟩

set_option maxRecDepth 100000 in
theorem lifted (os : Os) (started : os.Started) (H : Type) (enc : TypeId × Value → H) (F : Stop.Interp) :
    ReturnsInHanded {} Tryd.checked os 3 .any ((OpenSpec.ofChange Rows.diaryPlaysSpec).preRow enc Tryd.prog Tryd.f3 Rows.diaryPlaysRow.domain false Rows.diaryPlaysRow.laid) (((OpenSpec.ofChange Rows.diaryPlaysSpec).at F).post enc Tryd.prog Tryd.f3 false true false false) := by
  obtain ⟨places, hx⟩ := reads os enc
  refine returnsInHanded_of_row (C := Tryd.checked) (s := OpenSpec.ofChange Rows.diaryPlaysSpec) own started (by kernel_rfl) Tryd.func3
    (witness_row_at (enc := enc) (C := Tryd.checked) false (laidWorld os) #[.int .u8 0, .slice none 0 0] rfl (by kernel_rfl) (by kernel_rfl) (by kernel_rfl)
      (OpenSpec.preRow_of_cond 8 hx (by kernel_rfl) (fun k hk => by cases hk) (by kernel_rfl) (laid_met os))) ?_
  intro W base args ds gs before hval hW _ _ _ hL _ _
  exact contract H enc W base args ds gs before hval hW hL

theorem said : Rows.DiaryPlaysSaid :=
  OpenClaim.holds_of_cond 3 Tryd.f3 rfl rfl rfl rfl rfl rfl rfl ⟨rfl, rfl, rfl, rfl, rfl⟩ rfl rfl rfl rfl rfl (by kernel_rfl) Tryd.func3 (by kernel_rfl)
    (of_decide_eq_true (by kernel_rfl)) (by unfold Func.isWrapper; first | (rw [if_pos (by decide +kernel)]; kernel_rfl) | (rw [if_neg (by decide +kernel)]; exact ⟨rfl, rfl⟩))
    (fun os started H enc _ F => by rw [OpenClaim.pre_eq_preRow]; exact lifted os started H enc F)

theorem plain (f : FuncId) (fn : Func) (hf : Tryd.pinned.checked.prog.funcNamed "paybook/paybooklaw08.DiaryPlays" = some f) (hfn : Tryd.pinned.checked.prog.funcs[f]? = some fn) :
    false = Tryd.pinned.checked.prog.looks [] ∧ ∀ (j : Nat) t, fn.params[j]? = some t → Tryd.pinned.checked.prog.wantsStandIn t = false := by
  obtain rfl : f = 3 := Option.some.inj ((show Tryd.prog.funcNamed "paybook/paybooklaw08.DiaryPlays" = some 3 by kernel_rfl).symm.trans hf) |>.symm
  obtain rfl : fn = Tryd.f3 := (Option.some.inj (Tryd.func3.symm.trans hfn)).symm
  refine ⟨by kernel_rfl, fun j t ht => ?_⟩
  rw [Tryd.params3] at ht
  have hm := Array.mem_of_getElem? ht
  simp only [List.mem_toArray, List.mem_cons, List.not_mem_nil, or_false] at hm
  rcases hm with rfl | rfl
  · exact (show Tryd.prog.wantsStandIn 5 = false by kernel_rfl)
  · exact (show Tryd.prog.wantsStandIn 22 = false by kernel_rfl)

theorem card : Rows.DiaryPlaysCardSaid :=
  Claim7.holds_tied_plain_at .later [] _ _ _ _ said (fun _ h => by cases h) (by kernel_rfl) (fun _ h => by cases h) diaryPlays_row_tie rfl ⟨rfl, rfl⟩ (by kernel_rfl) rfl plain (by kernel_rfl)
#print axioms card
end Go.Proofs.YticefepcoemkoaaDoor.diaryPlays
