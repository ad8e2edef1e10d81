/-
  'paybooklaw08.DiaryFits' returns true for every input, and each argument reads afterwards as it did. Condition: the listed tables start as the program's text lays them, to which the card ties them (over a pruned copy of the project).
-/
import Derived.Test.YtlbodpffkdfllaaDoorCards
import Derived.Test.YtlbodpffkdfllaaDoorTie
import Derived.Test.YtlbodpffkdfllaaDoorDyErrsWalk
import Derived.Test.YtlbodpffkdfllaaDoorRow
import Derived.Lib.SmallJoins
import Derived.Deep.DeepHandedRow
import Derived.Stop.LaidErr
namespace Go.Proofs.YtlbodpffkdfllaaDoor
set_option maxRecDepth 20000
open Go.ChangeShapes Go.WideShapes Go.ChangeAt Go.RowKit

theorem diaryFits_far (A : Option Addr) (n c : Nat) (x y : Int) (w : World) (ht : Lines w) (h : 100 < n) :
    Calls Tryd.prog 6 #[.int .u8 x, .int .u8 y, .slice A n c] w fun e w' => e = .returned (.bool true) ∧ Below w.heap.size w w' := by
  have d2 : decide ((100 : Int) < (n : Int)) = true := by simp; omega
  have HT := Lib.hid ht
  clear ht h
  go_enter Tryd.func6, Tryd.ntmps6
  go_wp2_with (fail)
  refine (awake_any _ HT.out).mono ?_
  rintro e w1 ⟨rfl, hb1⟩
  go_wp2_with (fail)
  refine (awake_any _ (HT.out.below hb1)).mono ?_
  rintro e w2 ⟨rfl, hb2⟩
  go_wp2
  go_ret
  exact ⟨rfl, hb1.trans (hb2.mono hb1.size)⟩
theorem log_rep (a k : Nat) : ∀ (j i : Nat), (Sl.log a i (List.replicate j (List.replicate k 0))).length = j * (16 + k) := by
  intro j
  induction j with
  | zero => intro i; simp [Sl.log]
  | succ j ih => intro i; rw [List.replicate_succ]; show (Sl.closed a i _ ++ Sl.log a (i + 1) _).length = _; rw [List.length_append, Sl.closed_len, ih, List.length_replicate, Nat.succ_mul]; omega

set_option maxHeartbeats 4000000 in
theorem diaryFits_in (A : Option Addr) (n c x y : Nat) (l : List Int) (w : World) (ht : Lines w) (hr : Rd w .u8 w.heap.size A l) (hb : BytesOk l) (hn : l.length = n) (h : n ≤ 100) (hx : x < 256) (hy : y < 256) :
    Calls Tryd.prog 6 #[.int .u8 x, .int .u8 y, .slice A n c] w fun e w' => e = .returned (.bool true) ∧ Below w.heap.size w w' := by
  have d2 : decide ((100 : Int) < (n : Int)) = false := by simp; omega
  have HT := Lib.hid ht
  have HR := Lib.hid hr
  have HB := Lib.hid hb
  clear ht hr hb
  go_enter Tryd.func6, Tryd.ntmps6
  go_wp2_with (fail)
  refine (awake_any _ HT.out).mono ?_
  rintro e w1 ⟨rfl, hb1⟩
  have HB1 := Lib.hid hb1
  have HT1 := Lib.hid (HT.out.below hb1)
  clear hb1
  obtain ⟨half, hh⟩ : ∃ half, half = 3 + x % 20 := ⟨_, rfl⟩
  have hh2 : 3 ≤ half ∧ half ≤ 22 := by omega
  obtain ⟨s, hs⟩ : ∃ s, s = 2 * half + x % 2 := ⟨_, rfl⟩
  have e1 : (3 : Int) + (x : Int) % 20 = (half : Int) := by omega
  have e2 : (2 : Int) * (half : Int) + (x : Int) % 2 = (s : Int) := by omega
  have HSN : Hid (s / 2 = half) := Lib.hid (by omega)
  have hs3 : 6 ≤ s ∧ s ≤ 45 := by omega
  clear hh hs
  go_wp2_with (fail)
  refine (dy_new w1 s (by omega)).mono ?_
  rintro e w2 ⟨rfl, hl2, hb2, hs2⟩
  have HL2 := Lib.hid hl2
  have HS2 := Lib.hid hs2
  clear hl2 hb2 hs2 e1 e2
  go_wp2_with (fail)
  refine (dy_begin HL2.out HS2.out (by omega) (by omega) HT1.out).mono ?_
  rintro e w3 ⟨d, rfl, hk3, f3, st3, N3, I3, E3, hd3⟩
  rw [HSN.out] at hd3
  have HD3 := Lib.hid hd3
  have hdl := dy_left hd3 (q := 16) (by simp [Sl.log, Sl.closed_len])
  have eL : ((half * 64 - 16 : Nat) : Int) = 64 * (half : Int) - 16 := by omega
  rw [eL] at hdl
  clear hk3 hd3 eL
  go_wp2_with (fail)
  refine hdl.mono ?_
  clear hdl
  rintro e w4 ⟨rfl, hb4⟩
  have HD4 := Lib.hid (HD3.out.below hb4)
  clear hb4
  obtain ⟨k, hk⟩ : ∃ k, k = y % 60 := ⟨_, rfl⟩
  have e3 : (y : Int) % 60 = (k : Int) := by omega
  have hk2 : k < 60 := by omega
  clear hk
  obtain ⟨O, hmk, hrd⟩ := make_fact k k rfl (by omega)
  have HRD := Lib.hid hrd
  clear hrd
  go_wp2_with (fail)
  clear e3
  go_loopw [12] (fun t wr => ∃ (j : Nat) (f : Nat → List Int) (st : Pl.St) (N I E : Nat → Prop), 16 + j * (16 + k) ≤ half * 64 ∧ t = .int .i64 j ∧ Hid (DyM w1 (fun _ => False) wr d (w1.heap.size + 2) (600 + 200 * j) s half 0 half 1 [] (List.replicate j (List.replicate k 0)) [] f st N I E)) (fun t _ => 2000 - (intOf t).toNat)
  case atStart => exact ⟨0, f3, st3, N3, I3, E3, by omega, rfl, HD4⟩
  case round =>
    obtain ⟨j, f, st, N, I, E, hj, rfl, HD⟩ := hrel
    have hjb : j * 16 ≤ j * (16 + k) := Nat.mul_le_mul_left _ (by omega)
    have hj2 : j < 2000 := by omega
    have hlen : (Sl.log 1 0 ([] :: List.replicate j (List.replicate k 0))).length = 16 + j * (16 + k) := by
      show (Sl.closed 1 0 [] ++ Sl.log 1 1 _).length = _
      rw [List.length_append, Sl.closed_len, log_rep]
      rfl
    have HLEN := Lib.hid hlen
    have HJ := Lib.hid hj
    obtain ⟨z, hz⟩ : ∃ z, z = j * (16 + k) := ⟨_, rfl⟩
    rw [← hz] at hjb
    have hj' : 16 + z ≤ half * 64 := by rw [hz]; exact hj
    have HZ := Lib.hid hz
    clear hlen hj hz
    have hm : 600 + 200 * j + 200 ≤ 40000 := by omega
    go_wp2_with (fail)
    refine (dAdd_any w1 _ (wr.alloc O) d _ _ s half 0 half 1 [] _ [] f st _ I E _ k k (List.replicate k 0) (HD.out.more ((Below.refl _ wr).alloc (Nat.le_refl _) O)) (HRD.out _ _ _) (zeros_ok _) (by simp) (by omega) HT1.out hm).mono ?_
    rintro e w7 ⟨_, ⟨hfit, rfl, f7, st7, N7, I7, E7, hd7⟩ | ⟨hno, rfl, N7, hd7⟩⟩
    · have hd8 : DyM w1 (fun _ => False) w7 d (w1.heap.size + 2) (600 + 200 * (j + 1)) s half 0 half 1 [] (List.replicate (j + 1) (List.replicate k 0)) [] f7 st7 N7 I7 E7 := by
        rw [List.replicate_succ']
        exact hd7.less fun i hi => hi.elim
      have HD8 := Lib.hid hd8
      have hfit2 : 16 + (j + 1) * (16 + k) ≤ half * 64 := by rw [HLEN.out] at hfit; rw [Nat.succ_mul]; omega
      clear hd7 hd8 hfit
      have d4 : decide ((j : Int) < 2000) = true := by simp; omega
      go_wp2
      go_roundw
      case rel => exact ⟨j + 1, f7, st7, N7, I7, E7, hfit2, by go_num, HD8⟩
      case measure => simp [intOf]; omega
    · rw [HLEN.out] at hno
      have HD8 : Hid (DyM w1 (fun _ => False) w7 d (w1.heap.size + 2) (600 + 200 * j) s half 0 half 1 [] (List.replicate j (List.replicate k 0)) [] f st N7 I E) := Lib.hid (hd7.less fun i hi => hi.elim)
      clear hd7
      have hdiv : (64 * half - 16) / (16 + k) = j := by
        have h1 := HJ.out
        have h2 : half * 64 < 16 + (j + 1) * (16 + k) := by rw [Nat.succ_mul]; omega
        exact Nat.div_eq_of_lt_le (by omega) (by omega)
      have e5 : Int.tdiv (64 * (half : Int) - 16) (16 + (k : Int)) = (j : Int) := by
        have h1 : (64 * (half : Int) - 16) = ((64 * half - 16 : Nat) : Int) := by omega
        have h2 : (16 + (k : Int)) = ((16 + k : Nat) : Int) := by omega
        rw [h1, h2, ← hdiv]
        rfl
      have HE5 := Lib.hid e5
      clear hdiv hno
      go_wp2_with (first | (rw [HE5.out]) | fail)
      have hrk : RdK w1 (fun _ => False) w7 A l := ⟨fun hne => by
        obtain ⟨a, e, h1, h2⟩ := HR.out hne
        have h3 := HB1.out.size
        have h4 := HD8.out.live.old
        exact ⟨a, e, by have := h4.size; omega, fun jj u hu => (World.cell?_of_block ((h4.block _ (by rw [ad_block]; omega)).trans (HB1.out.block _ (by rw [ad_block]; omega)))).trans (h2 jj u hu)⟩, fun hne a e => .inr (by
        obtain ⟨a', e', h1, _⟩ := HR.out hne
        have h3 := HB1.out.size
        rw [e] at e'; injection e' with e'; subst e'
        omega)⟩
      refine (dy_start HD8.out A n c l hrk HB.out hn (by omega) (by omega) HT1.out (by omega)).mono ?_
      rintro e w9 ⟨_, ⟨_, rfl, f9, st9, N9, I9, E9, hd9⟩ | ⟨hno, _⟩⟩
      · have hdl := dy_left hd9 (q := 16 + n) (by simp [Sl.log, Sl.closed_len, hn])
        have eL : ((half * 64 - (16 + n) : Nat) : Int) = 64 * (half : Int) - 16 - (n : Int) := by omega
        rw [eL] at hdl
        have HD9 := Lib.hid hd9
        clear hd9 eL hrk
        go_wp2_with (fail)
        refine hdl.mono ?_
        clear hdl
        rintro e wa ⟨rfl, hba⟩
        have HDA := Lib.hid (HD9.out.below hba)
        clear hba
        go_wp2_with (fail)
        refine (dy_entries HDA.out).mono ?_
        rintro e wb ⟨Ab, cb, vb, rfl, _, _, hbb⟩
        have HBB := Lib.hid (HB1.out.trans ((HDA.out.live.old.trans (hbb.mono HDA.out.live.old.size)).mono HB1.out.size))
        clear hbb
        go_wp2
        go_ret
        exact ⟨rfl, HBB.out⟩
      · omega

theorem diaryFits_walk (x : Int) (hx : (Lit.int .u8 x).wf = true) (y : Int) (hy : (Lit.int .u8 y).wf = true) (A : Option Addr) (c : Nat) (l : List Int) (_ : l.length ≤ c) {w : World} (hr : Rd w .u8 w.heap.size A l) (hb : ∀ x ∈ l, (Lit.int .u8 x).wf = true) (ht : Lines w) :
    Calls Tryd.prog 6 #[.int .u8 x, .int .u8 y, .slice A l.length c] w fun e w' => e = .returned (.bool true) ∧ Below w.heap.size w w' := by
  obtain ⟨h0, h1⟩ := wf_u8 hx
  obtain ⟨h2, h3⟩ := wf_u8 hy
  obtain ⟨xn, rfl⟩ : ∃ m : Nat, x = m := ⟨x.toNat, by omega⟩
  obtain ⟨yn, rfl⟩ : ∃ m : Nat, y = m := ⟨y.toNat, by omega⟩
  by_cases h : 100 < l.length
  · exact diaryFits_far A l.length c xn yn w ht h
  · exact diaryFits_in A l.length c xn yn l w ht hr (fun x hx => wf_u8 (hb x hx)) rfl (by omega) (by omega) (by omega)
end Go.Proofs.YtlbodpffkdfllaaDoor
namespace Go.Proofs.YtlbodpffkdfllaaDoor.diaryFits
set_option maxRecDepth 20000
open Go.ChangeShapes Go.WideShapes Go.ChangeAt Go.RowKit

theorem laidOut : laidOutB Tryd.prog = true := by kernel_rfl
theorem own : ownKnob Tryd.prog.godebug = none := by kernel_rfl

theorem powers : (Rows.laid_paybook_seal_lines : DataW Unit) = Lib.tabData .u32 Sl.tab := by kernel_rfl
theorem table {W : World} (h : laidMetH Tryd.prog Rows.diaryFitsRow.laid W) : Lines W := by
  have h0 : laidMet Tryd.prog [("paybook/seal.lines", Rows.laid_paybook_seal_lines)] W := h

  rw [powers] at h0
  exact Lib.tabIs_of_head (rest := []) (g := 0) (t := 103) (e := 40) (n := 16) (by kernel_rfl) (by kernel_rfl) Tryd.underlying103 Tryd.underlying40 (by kernel_rfl) (by kernel_rfl) h0

theorem contract (H : Type) (enc : TypeId × Value → H) (W : World) (base : Nat) (args : Array Value) (ds gs : List (DataW H)) (before : List MemPlace)
    (hval : ∀ (j : Nat) t v, Tryd.f6.params[j]? = some t → args[j]? = some v → Value.okWide Tryd.prog W .any base t v)
    (hW : DataW.Whole enc Tryd.prog Tryd.f6.params.toList Rows.diaryFitsSpec.vars false W args.toList ds gs before) (hL : laidMetH Tryd.prog Rows.diaryFitsRow.laid W) :
    Calls Tryd.prog 6 args W fun e W' => ∃ v, e = .returned v ∧ Rows.diaryFitsSpec.post enc Tryd.prog Tryd.f6 false true false false W args v W' := by
  have hW' := hW
  obtain ⟨p, q, hA0, hV, rfl, hfz, hnd⟩ := hW
  have hA : DataW.TrodAll enc Tryd.prog W 0 (fun _ => true) true Tryd.f6.params.toList args.toList ds p := hA0
  rw [Tryd.params6] at hA hval
  obtain ⟨v0, vs0, d0, ds0, p0, q0, hargs, rfl, rfl, h0, r0⟩ := trodAll_cons hA
  obtain ⟨v1, vs1, d1, ds1, p1, q1, rfl, rfl, rfl, h1, r1⟩ := trodAll_cons r0
  obtain ⟨v2, vs2, d2, ds2, p2, q2, rfl, rfl, rfl, h2, r2⟩ := trodAll_cons r1
  obtain ⟨rfl, rfl, rfl⟩ := trodAll_nil r2
  obtain rfl : args = #[v0, v1, v2] := by cases args; simp_all
  obtain ⟨rfl, rfl⟩ := trodVars_none hV
  obtain ⟨a0, rfl, rfl, rfl, w0⟩ := open_int Tryd.underlying5 (hval 0 5 v0 rfl rfl) h0
  obtain ⟨a1, rfl, rfl, rfl, w1⟩ := open_int Tryd.underlying5 (hval 1 5 v1 rfl rfl) h1
  obtain ⟨A2, c2, l2, rfl, m2, _, r2_, w2⟩ := open_nums Tryd.underlying31 Tryd.underlying5 (by kernel_rfl) (hval 2 31 v2 rfl rfl) h2
  clear hA0
  simp only [List.append_nil] at hW'
  refine (diaryFits_walk (w := W) a0 w0 a1 w1 A2 c2 l2 m2 r2_ w2 (table hL)).mono fun e W' ⟨he, hb⟩ => ?_
  subst he
  exact ⟨_, rfl, post_law2 hW' (fun _ _ _ => (trodAll_cons_mk (shut_bool Tryd.underlying4 _) trodAll_mk0)) (trodAll_cons_mk (shut_int Tryd.underlying5 w0) (trodAll_cons_mk (shut_int Tryd.underlying5 w1) (trodAll_cons_mk (Below.trod laidOut (by kernel_rfl) (of_decide_eq_true (by kernel_rfl)) h2 hb (fun x hx => hW'.lt x (by simp [hx]))) trodAll_mk0))) (fun _ => rfl) (by simp) hb⟩

/-- A world for the witness: the settled one, the listed tables holding what their text lays. -/
noncomputable def laidWorld (os : Os) : World :=
  { World.holding Tryd.prog os ⟨#[], #[], []⟩ with heap :=
    let h0 := (World.holding Tryd.prog os ⟨#[], #[], []⟩).heap
    let h1 := h0.modify 0 fun
      | .cells _ t frozen => .cells #[.int .u32 0, .int .u32 498536548, .int .u32 997073096, .int .u32 651767980, .int .u32 1994146192, .int .u32 1802195444, .int .u32 1303535960, .int .u32 1342533948, .int .u32 3988292384, .int .u32 4027552580, .int .u32 3604390888, .int .u32 3412177804, .int .u32 2607071920, .int .u32 2262029012, .int .u32 2685067896, .int .u32 3183342108] t frozen
      | o => o
    h1 }
theorem laid_met (os : Os) : laidMet Tryd.prog Rows.diaryFitsRow.laid ((laidWorld os).forCall (fun _ _ => 0) ⟨#[], #[.int .u8 0, .int .u8 0, .slice none 0 0], []⟩).memory :=
  laidMet_of_run' 8 (by kernel_rfl) (by kernel_rfl)
theorem reads (os : Os) {H : Type} (enc : TypeId × Value → H) : ∃ places, DataW.whole enc Tryd.prog ((laidWorld os).forCall (fun _ _ => 0) ⟨#[], #[.int .u8 0, .int .u8 0, .slice none 0 0], []⟩).memory Tryd.f6.params.toList Rows.diaryFitsSpec.vars false (#[.int .u8 0, .int .u8 0, .slice none 0 0] : Array Value).toList 8 = some ([.lit (.int .u8 0), .lit (.int .u8 0), .nil], [], places) :=
  ⟨[], by kernel_rfl⟩

set_option maxRecDepth 100000 in
theorem lifted (os : Os) (started : os.Started) (H : Type) (enc : TypeId × Value → H) (F : Stop.Interp) :
    ReturnsInHanded {} Tryd.checked os 6 .any ((OpenSpec.ofChange Rows.diaryFitsSpec).preRow enc Tryd.prog Tryd.f6 Rows.diaryFitsRow.domain false Rows.diaryFitsRow.laid) (((OpenSpec.ofChange Rows.diaryFitsSpec).at F).post enc Tryd.prog Tryd.f6 false true false false) := by
  obtain ⟨places, hx⟩ := reads os enc
  refine returnsInHanded_of_row (C := Tryd.checked) (s := OpenSpec.ofChange Rows.diaryFitsSpec) own started (by kernel_rfl) Tryd.func6
    (witness_row_at (enc := enc) (C := Tryd.checked) false (laidWorld os) #[.int .u8 0, .int .u8 0, .slice none 0 0] rfl (by kernel_rfl) (by kernel_rfl) (by kernel_rfl)
      (OpenSpec.preRow_of_cond 8 hx (by kernel_rfl) (fun k hk => by cases hk) (by kernel_rfl) (laid_met os))) ?_
  intro W base args ds gs before hval hW _ _ _ hL _ _
  exact contract H enc W base args ds gs before hval hW hL

theorem said : Rows.DiaryFitsSaid :=
  OpenClaim.holds_of_cond 6 Tryd.f6 rfl rfl rfl rfl rfl rfl rfl ⟨rfl, rfl, rfl, rfl, rfl⟩ rfl rfl rfl rfl rfl (by kernel_rfl) Tryd.func6 (by kernel_rfl)
    (of_decide_eq_true (by kernel_rfl)) (by unfold Func.isWrapper; first | (rw [if_pos (by decide +kernel)]; kernel_rfl) | (rw [if_neg (by decide +kernel)]; exact ⟨rfl, rfl⟩))
    (fun os started H enc _ F => by rw [OpenClaim.pre_eq_preRow]; exact lifted os started H enc F)

theorem plain (f : FuncId) (fn : Func) (hf : Tryd.pinned.checked.prog.funcNamed "paybook/paybooklaw08.DiaryFits" = some f) (hfn : Tryd.pinned.checked.prog.funcs[f]? = some fn) :
    false = Tryd.pinned.checked.prog.looks [] ∧ ∀ (j : Nat) t, fn.params[j]? = some t → Tryd.pinned.checked.prog.wantsStandIn t = false := by
  obtain rfl : f = 6 := Option.some.inj ((show Tryd.prog.funcNamed "paybook/paybooklaw08.DiaryFits" = some 6 by kernel_rfl).symm.trans hf) |>.symm
  obtain rfl : fn = Tryd.f6 := (Option.some.inj (Tryd.func6.symm.trans hfn)).symm
  refine ⟨by kernel_rfl, fun j t ht => ?_⟩
  rw [Tryd.params6] at ht
  have hm := Array.mem_of_getElem? ht
  simp only [List.mem_toArray, List.mem_cons, List.not_mem_nil, or_false] at hm
  rcases hm with rfl | rfl | rfl
  · exact (show Tryd.prog.wantsStandIn 5 = false by kernel_rfl)
  · exact (show Tryd.prog.wantsStandIn 5 = false by kernel_rfl)
  · exact (show Tryd.prog.wantsStandIn 31 = false by kernel_rfl)

theorem card : Rows.DiaryFitsCardSaid :=
  Claim7.holds_tied_plain_at .later [] _ _ _ _ said (fun _ h => by cases h) (by kernel_rfl) (fun _ h => by cases h) diaryFits_row_tie rfl ⟨rfl, rfl⟩ (by kernel_rfl) rfl plain (by kernel_rfl)
#print axioms card
end Go.Proofs.YtlbodpffkdfllaaDoor.diaryFits
