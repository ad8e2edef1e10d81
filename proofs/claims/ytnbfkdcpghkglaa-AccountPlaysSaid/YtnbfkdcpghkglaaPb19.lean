/-
  Is an account what a subscription is? The document's own Told. No conditions but the sizes.
-/
import Derived.Deep.CutRange
import Derived.Test.YtnbfkdcpghkglaaPb18
set_option linter.unusedSimpArgs false
set_option linter.unusedVariables false
namespace Go.Proofs.Ytnbfkdcpghkglaa
set_option maxRecDepth 100000
open Go.ChangeShapes Go.WideShapes Go.ChangeAt Go.RowKit

theorem avcells {w : World} {b : Nat} {ty : TypeId} {fr : Nat × Nat} {a : Av} {v : Value} (h : w.heap[b]? = some (.cells (a.arr v) ty fr)) : w.cell? ⟨b, 0, none⟩ = some (.int .u8 a.st) ∧ w.cell? ⟨b, 1, none⟩ = some (.int .i64 a.pl) ∧ w.cell? ⟨b, 2, none⟩ = some (.int .i64 a.an) ∧ w.cell? ⟨b, 3, none⟩ = some (.int .i64 a.ix) ∧ w.cell? ⟨b, 4, none⟩ = some (.int .i64 a.ct) ∧ w.cell? ⟨b, 5, none⟩ = some (.int .i64 a.cr) ∧ w.cell? ⟨b, 6, none⟩ = some (.bool a.sk) ∧ w.cell? ⟨b, 7, none⟩ = some (v) ∧ w.cell? ⟨b, 8, none⟩ = some (.int .i64 a.dn) ∧ w.cell? ⟨b, 9, none⟩ = some (.int .i64 a.un) ∧ w.cell? ⟨b, 10, none⟩ = some (.int .i64 a.rf) ∧ w.cell? ⟨b, 11, none⟩ = some (.int .i64 a.sp) ∧ w.cell? ⟨b, 12, none⟩ = some (.int .i64 a.pd) := by
  refine ⟨?_, ?_, ?_, ?_, ?_, ?_, ?_, ?_, ?_, ?_, ?_, ?_, ?_⟩
  all_goals
    rw [cell_of_row _ _ _ _ _ _ h]
    rfl
theorem take_next {l : List Cv} {j : Nat} {c : Cv} (h : l[j]? = some c) : l.take (j + 1) = l.take j ++ [c] := by
  have hj := (List.getElem?_eq_some_iff.1 h).1
  have hc : l[j] = c := (List.getElem?_eq_some_iff.1 h).2
  rw [List.take_succ_eq_append_getElem hj, hc]
theorem paid_bd {l : List Cv} (h : ∀ c ∈ l, -1000000000000 ≤ c.a ∧ c.a ≤ 1000000000000) (j : Nat) : -(l.length * 1000000000000) ≤ paidOf (l.take j) ∧ paidOf (l.take j) ≤ l.length * 1000000000000 := by
  induction l generalizing j with
  | nil => simp [paidOf]
  | cons c r ih =>
    cases j with
    | zero => simp [paidOf]; omega
    | succ j =>
      have h1 := ih (fun c hc => h c (List.mem_cons_of_mem _ hc)) j
      have h2 := h c List.mem_cons_self
      rw [List.take_succ_cons, List.length_cons, paid_cons]
      split <;> omega
/-- Where the next open cycle stands among those that are open. -/
theorem opn_at {l : List Cv} {j : Nat} {c : Cv} (h : l[j]? = some c) (hp : c.p < 7) : (opn l)[(opn (l.take j)).length]? = some c := by
  have hj := (List.getElem?_eq_some_iff.1 h).1
  have hc : l[j] = c := (List.getElem?_eq_some_iff.1 h).2
  have e : l = l.take j ++ (c :: l.drop (j + 1)) := by
    rw [← hc, ← List.drop_eq_getElem_cons hj, List.take_append_drop]
  have e2 : opn l = opn (l.take j) ++ (c :: opn (l.drop (j + 1))) := by
    rw [← opn_cons_yes hp, ← opn_append, ← e]
  rw [e2, List.getElem?_append_right (Nat.le_refl _), Nat.sub_self]
  rfl
set_option maxHeartbeats 8000000 in
theorem told_nothing {w : World} {va vs : Value} {a : Av} {s : Sv} (h : a.st = s.st) (h0 : s.st = 0) : Calls Try.prog 23 #[.agg (a.arr va), .agg (s.arr vs)] w fun e w' => e = .returned (.bool true) ∧ Below w.heap.size w w' := by
  have d0 : (a.st != s.st) = false := by rw [h]; simp
  have d1 : (s.st == 0) = true := by rw [h0]; rfl
  clear h h0
  go_enter Try.func23, Try.ntmps23
  go_wp2
  go_ret
  exact ⟨rfl, by go_grown⟩
set_option maxHeartbeats 16000000 in
theorem told_any {w : World} {va vs : Value} {s : Sv} (hc : Cys w 0 w.heap.size va (opn s.l)) (hs : Cys w 0 w.heap.size vs s.l) (hl : s.l.length ≤ 1000000) (h0 : s.st ≠ 0) (hph : ∀ c ∈ s.l, c.p ≤ 10) (hpa : ∀ c ∈ s.l, -1000000000000 ≤ c.a ∧ c.a ≤ 1000000000000) :
    Calls Try.prog 23 #[.agg (s.tell.arr va), .agg (s.arr vs)] w fun e w' => e = .returned (.bool true) ∧ Below w.heap.size w w' := by
  obtain ⟨a, ha⟩ : ∃ a, s.tell = a := ⟨_, rfl⟩
  have x0 : a.st = s.st := by rw [← ha]; rfl
  have x1 : a.pl = s.pl := by rw [← ha]; rfl
  have x2 : a.an = s.an := by rw [← ha]; rfl
  have x3 : a.ix = s.ix := by rw [← ha]; rfl
  have x4 : a.ct = s.l.length := by rw [← ha]; rfl
  have x5 : a.cr = s.cr := by rw [← ha]; rfl
  have x6 : a.sk = s.sk := by rw [← ha]; rfl
  have x8 : a.dn = cntOf 7 s.l := by rw [← ha]; rfl
  have x9 : a.un = cntOf 8 s.l := by rw [← ha]; rfl
  have x10 : a.rf = cntOf 9 s.l := by rw [← ha]; rfl
  have x11 : a.sp = cntOf 10 s.l := by rw [← ha]; rfl
  have x12 : a.pd = paidOf s.l := by rw [← ha]; rfl
  have d0 : (a.st != s.st) = false := by rw [x0]; simp
  have d00 : (s.st == 0) = false := by simpa using h0
  have d1 : (a.pl != s.pl) = false := by rw [x1]; simp
  have d2 : (a.an != s.an) = false := by rw [x2]; simp
  have d3 : (a.ix != s.ix) = false := by rw [x3]; simp
  have d4 : (a.ct != (s.l.length : Int)) = false := by rw [x4]; simp
  have d5 : (a.cr != s.cr) = false := by rw [x5]; simp
  have d6 : a.sk = s.sk := x6
  have HX8 := Lib.hid x8
  have HX9 := Lib.hid x9
  have HX10 := Lib.hid x10
  have HX11 := Lib.hid x11
  have HX12 := Lib.hid x12
  have HC := Lib.hid hc
  have HS := Lib.hid hs
  have HPH := Lib.hid hph
  have HPA := Lib.hid hpa
  obtain ⟨A, cap, rfl, hcap, hcm, _⟩ := hc
  obtain ⟨D, dap, rfl, hdap, hdm, _⟩ := hs
  rw [ha]
  clear x0 x1 x2 x3 x4 x5 x6 x8 x9 x10 x11 x12 hph hpa ha h0
  go_enter Try.func23, Try.ntmps23
  go_wp2
  go_loopw [6, 7] (fun nn i wq => ∃ j : Nat, j ≤ s.l.length ∧ i = .int .i64 j ∧ nn = .int .i64 (opn (s.l.take j)).length ∧ Hid (Below w.heap.size w wq) ∧ Hid (wq.heap[w.heap.size]? = some (.cells (a.arr (.slice A (opn s.l).length cap)) 33 (0, 0))) ∧ Hid (wq.heap[w.heap.size + 1]? = some (.cells (s.arr (.slice D s.l.length dap)) 36 (0, 0))) ∧ Hid (wq.heap[w.heap.size + 1 + 1]? = some (.cells #[.int .i64 (cntOf 7 (s.l.take j)), .int .i64 (cntOf 8 (s.l.take j)), .int .i64 (cntOf 9 (s.l.take j)), .int .i64 (cntOf 10 (s.l.take j)), .int .i64 (paidOf (s.l.take j))] 31 (0, 0)))) (fun _ i _ => s.l.length - (intOf i).toNat)
  case atStart =>
    exact ⟨0, by omega, rfl, rfl, (((Below.refl _ w).alloc (Nat.le_refl _) _).alloc (by simp) _).alloc (by simp; omega) _, alloc_old (by simp; omega) (alloc_old (by simp) (alloc_at rfl)), alloc_old (by simp) (alloc_at (by simp)), alloc_at (by simp)⟩
  case round =>
    obtain ⟨j, hj, rfl, rfl, HW, HP, HQ, HT⟩ := hrel
    have hz2 : w.heap.size + 1 + 1 < wr.heap.size := (Array.getElem?_eq_some_iff.1 HT.out).1
    have hzw := HW.out.size
    have hbp := paid_bd HPA.out j
    obtain ⟨m0, m1, m2, m3, m4, m5, m6, m7, m8, m9, m10, m11, m12⟩ := avcells HP.out
    obtain ⟨s0, s1, s2, s3, s4, s5, s6⟩ := scells HQ.out
    by_cases hlt : j < s.l.length
    case neg =>
      obtain rfl : j = s.l.length := by omega
      have dlt : decide ((s.l.length : Int) < (s.l.length : Int)) = false := by simp
      have hT := HT.out
      rw [List.take_length] at hT hbp ⊢
      rw [HX8.out] at m8
      rw [HX9.out] at m9
      rw [HX10.out] at m10
      rw [HX11.out] at m11
      rw [HX12.out] at m12
      have e := boxed_self hT
      rw [e]
      clear e hbp hT
      go_wp2
      go_ret
      exact ⟨by simp, boxed_below HW.out (by omega)⟩
    case pos =>
      have dlt : decide ((j : Int) < (s.l.length : Int)) = true := by simpa using hlt
      obtain ⟨z, hz⟩ : ∃ z, s.l[j]? = some z := ⟨s.l[j], List.getElem?_eq_getElem hlt⟩
      obtain ⟨g, o, cap', hv, y1, y2, y3, _, hgl, hr⟩ := HS.out.at_ hz
      injection hv with hv1 hvl hv3
      clear hvl y1 y2 y3
      subst hv1 hv3
      have k0 : (0 : Int) ≤ (j : Int) := by omega
      have k1 : (j : Int) < (s.l.length : Int) := by omega
      have hzp := HPH.out z (List.mem_of_getElem? hz)
      have hza := HPA.out z (List.mem_of_getElem? hz)
      have hnx := take_next hz
      have hcb := cnt_bd 7 (s.l.take j)
      have hcb8 := cnt_bd 8 (s.l.take j)
      have hcb9 := cnt_bd 9 (s.l.take j)
      have hcb10 := cnt_bd 10 (s.l.take j)
      have hol := opn_len (s.l.take j)
      rw [List.length_take] at hcb hcb8 hcb9 hcb10 hol
      have HZ := Lib.hid hz
      obtain ⟨n, d, p, a', u, t, x, gd⟩ := z
      have q : ∀ k v9, (⟨n, d, p, a', u, t, x, gd⟩ : Cv).cs[k]? = some v9 → wr.cell? ⟨g, o + j * 8 + k, none⟩ = some v9 := fun k v9 h9 => (World.cell?_of_block (a := ⟨g, o + j * 8 + k, none⟩) (HW.out.block g hgl)).trans (hr k v9 h9)
      have q0 : wr.cell? ⟨g, o + j * 8, none⟩ = some (.int .i64 n) := q 0 _ rfl
      have q1 : wr.cell? ⟨g, o + j * 8 + 1, none⟩ = some (.int .i64 d) := q 1 _ rfl
      have q2 : wr.cell? ⟨g, o + j * 8 + 2, none⟩ = some (.int .u8 p) := q 2 _ rfl
      have q3 : wr.cell? ⟨g, o + j * 8 + 3, none⟩ = some (.int .i64 a') := q 3 _ rfl
      have q4 : wr.cell? ⟨g, o + j * 8 + 4, none⟩ = some (.int .i64 u) := q 4 _ rfl
      have q5 : wr.cell? ⟨g, o + j * 8 + 5, none⟩ = some (.int .i64 t) := q 5 _ rfl
      have q6 : wr.cell? ⟨g, o + j * 8 + 6, none⟩ = some (.int .i64 x) := q 6 _ rfl
      have q7 : wr.cell? ⟨g, o + j * 8 + 7, none⟩ = some (.bool gd) := q 7 _ rfl
      obtain ⟨l1, hl1⟩ : ∃ l1, s.l.take j = l1 := ⟨_, rfl⟩
      rw [hl1] at hnx hcb hcb8 hcb9 hcb10 hol hbp HT ⊢
      have hT := HT.out
      obtain ⟨C7, h7⟩ : ∃ q, cntOf 7 l1 = q := ⟨_, rfl⟩
      obtain ⟨C8, h8⟩ : ∃ q, cntOf 8 l1 = q := ⟨_, rfl⟩
      obtain ⟨C9, h9⟩ : ∃ q, cntOf 9 l1 = q := ⟨_, rfl⟩
      obtain ⟨C10, h10⟩ : ∃ q, cntOf 10 l1 = q := ⟨_, rfl⟩
      obtain ⟨CP, hp9⟩ : ∃ q, paidOf l1 = q := ⟨_, rfl⟩
      rw [h7, h8, h9, h10, hp9] at hT
      rw [h7] at hcb
      rw [h8] at hcb8
      rw [h9] at hcb9
      rw [h10] at hcb10
      rw [hp9] at hbp
      have H7 := Lib.hid h7
      have H8 := Lib.hid h8
      have H9 := Lib.hid h9
      have H10 := Lib.hid h10
      have HP9 := Lib.hid hp9
      have HNX := Lib.hid hnx
      have HL1 := Lib.hid hl1
      dsimp only at hzp hza
      have hg2 : g < w.heap.size + 1 + 1 := by omega
      have hg3 : g < w.heap.size + 1 + 1 + 1 := by omega
      have e := boxed_self hT
      rw [e]
      clear e hz hr q hnx hl1 h7 h8 h9 h10 hp9 hT HT
      by_cases hp7 : p = 7
      · subst hp7
        have ew : wrap64 (C7 + 1) = C7 + 1 := by unfold wrap64; omega
        have ew2 : wrap64 (CP + a') = CP + a' := by unfold wrap64; omega
        have hno : opn [(⟨n, d, 7, a', u, t, x, gd⟩ : Cv)] = [] := opn_cons_no (by dsimp only; omega)
        have HNO := Lib.hid hno
        clear hno
        go_wp2
        go_roundw
        case rel =>
          refine ⟨j + 1, by omega, by go_num, ?_, ?_, ?_, ?_, ?_⟩
          · rw [HNX.out, opn_append, HNO.out, List.append_nil]
          · exact (boxed_below HW.out (by omega)).alloc (by rw [boxed_size]; omega) _
          · exact alloc_old (by rw [boxed_size]; omega) (boxed_old (by omega) HP.out)
          · exact alloc_old (by rw [boxed_size]; omega) (boxed_old (by omega) HQ.out)
          · show _ = _
            rw [HNX.out, cnt_append, cnt_append, cnt_append, cnt_append, paid_append, H7.out, H8.out, H9.out, H10.out, HP9.out]
            have e7 : cntOf 7 [(⟨n, d, 7, a', u, t, x, gd⟩ : Cv)] = 1 := by rw [cnt_cons, cnt_nil]; rfl
            have e8 : cntOf 8 [(⟨n, d, 7, a', u, t, x, gd⟩ : Cv)] = 0 := by rw [cnt_cons, cnt_nil]; rfl
            have e9 : cntOf 9 [(⟨n, d, 7, a', u, t, x, gd⟩ : Cv)] = 0 := by rw [cnt_cons, cnt_nil]; rfl
            have e10 : cntOf 10 [(⟨n, d, 7, a', u, t, x, gd⟩ : Cv)] = 0 := by rw [cnt_cons, cnt_nil]; rfl
            have ep : paidOf [(⟨n, d, 7, a', u, t, x, gd⟩ : Cv)] = a' := by rw [paid_cons]; simp [paidOf]
            rw [e7, e8, e9, e10, ep]
            first
              | (simp only [Int.add_zero]; exact alloc_old (by rw [boxed_size]; omega) (boxed_at (by omega)))
              | trace_state
        case measure => simp [intOf]; omega
      by_cases hp8 : p = 8
      · subst hp8
        have ew : wrap64 (C8 + 1) = C8 + 1 := by unfold wrap64; omega
        have hno : opn [(⟨n, d, 8, a', u, t, x, gd⟩ : Cv)] = [] := opn_cons_no (by dsimp only; omega)
        have HNO := Lib.hid hno
        clear hno
        go_wp2
        go_roundw
        case rel =>
          refine ⟨j + 1, by omega, by go_num, ?_, ?_, ?_, ?_, ?_⟩
          · rw [HNX.out, opn_append, HNO.out, List.append_nil]
          · exact (boxed_below HW.out (by omega)).alloc (by rw [boxed_size]; omega) _
          · exact alloc_old (by rw [boxed_size]; omega) (boxed_old (by omega) HP.out)
          · exact alloc_old (by rw [boxed_size]; omega) (boxed_old (by omega) HQ.out)
          · show _ = _
            rw [HNX.out, cnt_append, cnt_append, cnt_append, cnt_append, paid_append, H7.out, H8.out, H9.out, H10.out, HP9.out]
            have e7 : cntOf 7 [(⟨n, d, 8, a', u, t, x, gd⟩ : Cv)] = 0 := by rw [cnt_cons, cnt_nil]; rfl
            have e8 : cntOf 8 [(⟨n, d, 8, a', u, t, x, gd⟩ : Cv)] = 1 := by rw [cnt_cons, cnt_nil]; rfl
            have e9 : cntOf 9 [(⟨n, d, 8, a', u, t, x, gd⟩ : Cv)] = 0 := by rw [cnt_cons, cnt_nil]; rfl
            have e10 : cntOf 10 [(⟨n, d, 8, a', u, t, x, gd⟩ : Cv)] = 0 := by rw [cnt_cons, cnt_nil]; rfl
            have ep : paidOf [(⟨n, d, 8, a', u, t, x, gd⟩ : Cv)] = 0 := by rw [paid_cons]; simp [paidOf]
            rw [e7, e8, e9, e10, ep]
            first
              | (simp only [Int.add_zero]; exact alloc_old (by rw [boxed_size]; omega) (boxed_at (by omega)))
              | trace_state
        case measure => simp [intOf]; omega
      by_cases hp9 : p = 9
      · subst hp9
        have ew : wrap64 (C9 + 1) = C9 + 1 := by unfold wrap64; omega
        have hno : opn [(⟨n, d, 9, a', u, t, x, gd⟩ : Cv)] = [] := opn_cons_no (by dsimp only; omega)
        have HNO := Lib.hid hno
        clear hno
        go_wp2
        go_roundw
        case rel =>
          refine ⟨j + 1, by omega, by go_num, ?_, ?_, ?_, ?_, ?_⟩
          · rw [HNX.out, opn_append, HNO.out, List.append_nil]
          · exact (boxed_below HW.out (by omega)).alloc (by rw [boxed_size]; omega) _
          · exact alloc_old (by rw [boxed_size]; omega) (boxed_old (by omega) HP.out)
          · exact alloc_old (by rw [boxed_size]; omega) (boxed_old (by omega) HQ.out)
          · show _ = _
            rw [HNX.out, cnt_append, cnt_append, cnt_append, cnt_append, paid_append, H7.out, H8.out, H9.out, H10.out, HP9.out]
            have e7 : cntOf 7 [(⟨n, d, 9, a', u, t, x, gd⟩ : Cv)] = 0 := by rw [cnt_cons, cnt_nil]; rfl
            have e8 : cntOf 8 [(⟨n, d, 9, a', u, t, x, gd⟩ : Cv)] = 0 := by rw [cnt_cons, cnt_nil]; rfl
            have e9 : cntOf 9 [(⟨n, d, 9, a', u, t, x, gd⟩ : Cv)] = 1 := by rw [cnt_cons, cnt_nil]; rfl
            have e10 : cntOf 10 [(⟨n, d, 9, a', u, t, x, gd⟩ : Cv)] = 0 := by rw [cnt_cons, cnt_nil]; rfl
            have ep : paidOf [(⟨n, d, 9, a', u, t, x, gd⟩ : Cv)] = 0 := by rw [paid_cons]; simp [paidOf]
            rw [e7, e8, e9, e10, ep]
            first
              | (simp only [Int.add_zero]; exact alloc_old (by rw [boxed_size]; omega) (boxed_at (by omega)))
              | trace_state
        case measure => simp [intOf]; omega
      by_cases hp10 : p = 10
      · subst hp10
        have ew : wrap64 (C10 + 1) = C10 + 1 := by unfold wrap64; omega
        have hno : opn [(⟨n, d, 10, a', u, t, x, gd⟩ : Cv)] = [] := opn_cons_no (by dsimp only; omega)
        have HNO := Lib.hid hno
        clear hno
        go_wp2
        go_roundw
        case rel =>
          refine ⟨j + 1, by omega, by go_num, ?_, ?_, ?_, ?_, ?_⟩
          · rw [HNX.out, opn_append, HNO.out, List.append_nil]
          · exact (boxed_below HW.out (by omega)).alloc (by rw [boxed_size]; omega) _
          · exact alloc_old (by rw [boxed_size]; omega) (boxed_old (by omega) HP.out)
          · exact alloc_old (by rw [boxed_size]; omega) (boxed_old (by omega) HQ.out)
          · show _ = _
            rw [HNX.out, cnt_append, cnt_append, cnt_append, cnt_append, paid_append, H7.out, H8.out, H9.out, H10.out, HP9.out]
            have e7 : cntOf 7 [(⟨n, d, 10, a', u, t, x, gd⟩ : Cv)] = 0 := by rw [cnt_cons, cnt_nil]; rfl
            have e8 : cntOf 8 [(⟨n, d, 10, a', u, t, x, gd⟩ : Cv)] = 0 := by rw [cnt_cons, cnt_nil]; rfl
            have e9 : cntOf 9 [(⟨n, d, 10, a', u, t, x, gd⟩ : Cv)] = 0 := by rw [cnt_cons, cnt_nil]; rfl
            have e10 : cntOf 10 [(⟨n, d, 10, a', u, t, x, gd⟩ : Cv)] = 1 := by rw [cnt_cons, cnt_nil]; rfl
            have ep : paidOf [(⟨n, d, 10, a', u, t, x, gd⟩ : Cv)] = 0 := by rw [paid_cons]; simp [paidOf]
            rw [e7, e8, e9, e10, ep]
            first
              | (simp only [Int.add_zero]; exact alloc_old (by rw [boxed_size]; omega) (boxed_at (by omega)))
              | trace_state
        case measure => simp [intOf]; omega
      have hpl : p < 7 := by omega
      have dp7 : (p == 7) = false := by simpa using hp7
      have dp8 : (p == 8) = false := by simpa using hp8
      have dp9 : (p == 9) = false := by simpa using hp9
      have dp10 : (p == 10) = false := by simpa using hp10
      have hat := opn_at HZ.out hpl
      rw [HL1.out] at hat
      obtain ⟨m, hm⟩ : ∃ m, (opn l1).length = m := ⟨_, rfl⟩
      rw [hm] at hat hol ⊢
      obtain ⟨g2, o2, cap2, hv', y4, y5, y6, _, hgl2, hr2⟩ := HC.out.at_ hat
      injection hv' with hv1' hvl' hv3'
      subst hv1' hv3'
      have hy := HNX.out
      have HOM : Hid ((opn (s.l.take (j + 1))).length = m + 1) := by
        show _ = _
        rw [HNX.out, opn_append, opn_cons_yes (by exact hpl), opn_nil, List.length_append, hm]; rfl
      have HM := Lib.hid hm
      have dge : decide ((m : Int) ≥ ((opn s.l).length : Int)) = false := by simp; omega
      have dge' : decide (((opn s.l).length : Int) ≤ (m : Int)) = false := by simp; omega
      have l0 : (0 : Int) ≤ (m : Int) := by omega
      have l1' : (m : Int) < ((opn s.l).length : Int) := by omega
      have HR2 := Lib.hid hr2
      clear hvl' y5 y6 hr2 hat hm hy hp7 hp8 hp9 hp10
      go_upto_region 14 with fail
      have hbk : ∀ i, i < w.heap.size + 1 + 1 → (((boxed wr (w.heap.size + 1 + 1) #[.int .i64 C7, .int .i64 C8, .int .i64 C9, .int .i64 C10, .int .i64 CP] 31).alloc (.cells #[.int .i64 n, .int .i64 d, .int .u8 p, .int .i64 a', .int .i64 u, .int .i64 t, .int .i64 x, .bool gd] 69)) : World).heap[i]? = wr.heap[i]? := fun i hi => by rw [alloc_block_old (by rw [boxed_size]; omega), boxed_block_other (by omega)]
      have X1 : Hid ((((boxed wr (w.heap.size + 1 + 1) #[.int .i64 C7, .int .i64 C8, .int .i64 C9, .int .i64 C10, .int .i64 CP] 31).alloc (.cells #[.int .i64 n, .int .i64 d, .int .u8 p, .int .i64 a', .int .i64 u, .int .i64 t, .int .i64 x, .bool gd] 69)) : World).cell? ⟨w.heap.size, 7, none⟩ = some (.slice (some ⟨g2, o2, none⟩) (opn s.l).length cap)) := (World.cell?_of_block (a := ⟨w.heap.size, 7, none⟩) (hbk w.heap.size (by omega))).trans m7
      have X2 : Hid ((((boxed wr (w.heap.size + 1 + 1) #[.int .i64 C7, .int .i64 C8, .int .i64 C9, .int .i64 C10, .int .i64 CP] 31).alloc (.cells #[.int .i64 n, .int .i64 d, .int .u8 p, .int .i64 a', .int .i64 u, .int .i64 t, .int .i64 x, .bool gd] 69)) : World).rangeAt g2 (o2 + m * 8) [.int .i64 n, .int .i64 d, .int .u8 p, .int .i64 a', .int .i64 u, .int .i64 t, .int .i64 x, .bool gd]) := fun i q hq => (World.cell?_of_block (a := ⟨g2, o2 + m * 8 + i, none⟩) ((hbk g2 (by omega)).trans (HW.out.block g2 (by omega)))).trans (HR2.out i q hq)
      clear hbk
      have X3 : Hid ((((boxed wr (w.heap.size + 1 + 1) #[.int .i64 C7, .int .i64 C8, .int .i64 C9, .int .i64 C10, .int .i64 CP] 31).alloc (.cells #[.int .i64 n, .int .i64 d, .int .u8 p, .int .i64 a', .int .i64 u, .int .i64 t, .int .i64 x, .bool gd] 69)) : World).heap[wr.heap.size]? = some (.cells #[.int .i64 n, .int .i64 d, .int .u8 p, .int .i64 a', .int .i64 u, .int .i64 t, .int .i64 x, .bool gd] 69 (0, 0))) := alloc_at (by rw [boxed_size])
      have X4 : Hid (Below w.heap.size w ((boxed wr (w.heap.size + 1 + 1) #[.int .i64 C7, .int .i64 C8, .int .i64 C9, .int .i64 C10, .int .i64 CP] 31).alloc (.cells #[.int .i64 n, .int .i64 d, .int .u8 p, .int .i64 a', .int .i64 u, .int .i64 t, .int .i64 x, .bool gd] 69))) := (boxed_below HW.out (by omega)).alloc (by rw [boxed_size]; omega) _
      have X5 : Hid ((((boxed wr (w.heap.size + 1 + 1) #[.int .i64 C7, .int .i64 C8, .int .i64 C9, .int .i64 C10, .int .i64 CP] 31).alloc (.cells #[.int .i64 n, .int .i64 d, .int .u8 p, .int .i64 a', .int .i64 u, .int .i64 t, .int .i64 x, .bool gd] 69)) : World).heap[w.heap.size]? = some (.cells (a.arr (.slice (some ⟨g2, o2, none⟩) (opn s.l).length cap)) 33 (0, 0))) := alloc_old (by rw [boxed_size]; omega) (boxed_old (by omega) HP.out)
      have X6 : Hid ((((boxed wr (w.heap.size + 1 + 1) #[.int .i64 C7, .int .i64 C8, .int .i64 C9, .int .i64 C10, .int .i64 CP] 31).alloc (.cells #[.int .i64 n, .int .i64 d, .int .u8 p, .int .i64 a', .int .i64 u, .int .i64 t, .int .i64 x, .bool gd] 69)) : World).heap[w.heap.size + 1]? = some (.cells (s.arr (.slice (some ⟨g, o, none⟩) s.l.length dap)) 36 (0, 0))) := alloc_old (by rw [boxed_size]; omega) (boxed_old (by omega) HQ.out)
      have X7 : Hid ((((boxed wr (w.heap.size + 1 + 1) #[.int .i64 C7, .int .i64 C8, .int .i64 C9, .int .i64 C10, .int .i64 CP] 31).alloc (.cells #[.int .i64 n, .int .i64 d, .int .u8 p, .int .i64 a', .int .i64 u, .int .i64 t, .int .i64 x, .bool gd] 69)) : World).heap[w.heap.size + 1 + 1]? = some (.cells #[.int .i64 C7, .int .i64 C8, .int .i64 C9, .int .i64 C10, .int .i64 CP] 31 (0, 0))) := alloc_old (by rw [boxed_size]; omega) (boxed_at (by omega))
      obtain ⟨X, hX⟩ : ∃ X, ((boxed wr (w.heap.size + 1 + 1) #[.int .i64 C7, .int .i64 C8, .int .i64 C9, .int .i64 C10, .int .i64 CP] 31).alloc (.cells #[.int .i64 n, .int .i64 d, .int .u8 p, .int .i64 a', .int .i64 u, .int .i64 t, .int .i64 x, .bool gd] 69)) = X := ⟨_, rfl⟩
      rw [hX] at X1 X2 X3 X4 X5 X6 X7 ⊢
      clear hX
      have HS0 : Hid ((fun w' : World => w'.cell? ⟨w.heap.size, 7, none⟩ = some (.slice (some ⟨g2, o2, none⟩) (opn s.l).length cap) ∧ w'.rangeAt g2 (o2 + m * 8) [.int .i64 n, .int .i64 d, .int .u8 p, .int .i64 a', .int .i64 u, .int .i64 t, .int .i64 x, .bool gd] ∧ w'.heap[wr.heap.size]? = some (.cells #[.int .i64 n, .int .i64 d, .int .u8 p, .int .i64 a', .int .i64 u, .int .i64 t, .int .i64 x, .bool gd] 69 (0, 0))) X.drew) := ⟨X1.out, (World.rangeAt_drew _ _ _ _).2 X2.out, X3.out⟩
      refine lane_start (ord := [0, 1, 2, 3, 4, 5, 6, 7, 8, 9, 10, 11, 12, 13]) (S := (fun w' : World => w'.cell? ⟨w.heap.size, 7, none⟩ = some (.slice (some ⟨g2, o2, none⟩) (opn s.l).length cap) ∧ w'.rangeAt g2 (o2 + m * 8) [.int .i64 n, .int .i64 d, .int .u8 p, .int .i64 a', .int .i64 u, .int .i64 t, .int .i64 x, .bool gd] ∧ w'.heap[wr.heap.size]? = some (.cells #[.int .i64 n, .int .i64 d, .int .u8 p, .int .i64 a', .int .i64 u, .int .i64 t, .int .i64 x, .bool gd] 69 (0, 0)))) rfl (by kernel_rfl) (by exact HS0.out) (fun _ => ?_)
      iterate 4 (refine lane_take (v := ?_) rfl (by kernel_rfl) (by kernel_rfl) (by rfl) ?_ (by exact HS0.out) ?_; rotate_left; (focus (intro W hSw; obtain ⟨s1, s2, s3⟩ := hSw; go_simp; try (with_reducible rfl))); simp only [Act.put, List.setIfInBounds_toArray, List.set_cons_zero, List.set_cons_succ])
      (refine lane_take (v := .bool false) rfl (by kernel_rfl) (by kernel_rfl) (by rfl) ?_ (by exact HS0.out) ?_; (focus (intro W hSw; obtain ⟨s1, s2, s3⟩ := hSw; go_simp; (first | done | (with_reducible rfl) | (simp [dge, dge']; done)))); simp only [Act.put, List.setIfInBounds_toArray, List.set_cons_zero, List.set_cons_succ])
      iterate 5 (refine lane_take (v := ?_) rfl (by kernel_rfl) (by kernel_rfl) (by rfl) ?_ (by exact HS0.out) ?_; rotate_left; (focus (intro W hSw; obtain ⟨s1, s2, s3⟩ := hSw; go_simp; try (with_reducible rfl))); simp only [Act.put, List.setIfInBounds_toArray, List.set_cons_zero, List.set_cons_succ])
      refine lane_take (v := .agg #[.int .i64 n, .int .i64 d, .int .u8 p, .int .i64 a', .int .i64 u, .int .i64 t, .int .i64 x, .bool gd]) rfl (by kernel_rfl) (by kernel_rfl) (by rfl) (fun W hSw => exec_load rfl rfl (run_loadAt_mid W g2 (o2 + m * 8) 46 _ _ hSw.2.1 Try.underlying46 rfl info8)) (by exact HS0.out) ?_
      simp only [Act.put, List.setIfInBounds_toArray, List.set_cons_zero, List.set_cons_succ]
      refine lane_take (v := .agg #[.int .i64 n, .int .i64 d, .int .u8 p, .int .i64 a', .int .i64 u, .int .i64 t, .int .i64 x, .bool gd]) rfl (by kernel_rfl) (by kernel_rfl) (by rfl) (fun W hSw => exec_load rfl rfl (run_loadAt_row W wr.heap.size 69 69 _ (0, 0) _ hSw.2.2 Try.underlying69 rfl info8r)) (by exact HS0.out) ?_
      simp only [Act.put, List.setIfInBounds_toArray, List.set_cons_zero, List.set_cons_succ]
      iterate 2 (refine lane_take (v := ?_) rfl (by kernel_rfl) (by kernel_rfl) (by rfl) ?_ (by exact HS0.out) ?_; rotate_left; (focus (intro W hSw; obtain ⟨s1, s2, s3⟩ := hSw; go_simp; try (with_reducible rfl))); simp only [Act.put, List.setIfInBounds_toArray, List.set_cons_zero, List.set_cons_succ])
      refine lane_end (by kernel_rfl) ?_
      go_wp2
      go_roundw
      case rel =>
        refine ⟨j + 1, by omega, by go_num, by rw [HOM.out]; go_num, X4.out.drew, X5.out, X6.out, ?_⟩
        show _ = _
        rw [HNX.out, cnt_append, cnt_append, cnt_append, cnt_append, paid_append, H7.out, H8.out, H9.out, H10.out, HP9.out]
        have e7 : ∀ k : Int, 7 ≤ k → cntOf k [(⟨n, d, p, a', u, t, x, gd⟩ : Cv)] = 0 := fun k hk => by rw [cnt_cons, cnt_nil, if_neg (by dsimp only; omega)]; rfl
        have ep : paidOf [(⟨n, d, p, a', u, t, x, gd⟩ : Cv)] = 0 := by rw [paid_cons, if_neg (by dsimp only; omega)]; rfl
        rw [e7 7 (by omega), e7 8 (by omega), e7 9 (by omega), e7 10 (by omega), ep]
        simp only [Int.add_zero]
        exact X7.out
      case measure => simp [intOf]; omega
end Go.Proofs.Ytnbfkdcpghkglaa
