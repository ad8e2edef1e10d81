/-
  The walk of the law PlanLists: it returns true, whatever the input, and makes new blocks alone. No conditions.
-/
import Derived.Test.YticefepcoemkoaaPlanList
import Derived.Deep.MidRow
namespace Go.Proofs.Yticefepcoemkoaa
set_option maxRecDepth 20000
open Go.ChangeShapes Go.WideShapes Go.ChangeAt Go.RowKit

set_option maxHeartbeats 1000000 in
theorem planLists_long (A : Option Addr) (n c : Nat) (k : Int) (w : World) (h : 20 < n) :
    Calls Try.prog 5 #[.slice A n c, .int .i64 k] w fun e w' => e = .returned (.bool true) ∧ Below w.heap.size w w' := by
  have t : decide ((20 : Int) < (n : Int)) = true := by simp; omega
  clear h
  go_enter Try.func5, Try.ntmps5
  go_wp2_with (fail)
  refine (pnawake_any _).mono ?_
  rintro e w1 ⟨rfl, hb1⟩
  go_wp2_with (fail)
  refine (pnawake_any _).mono ?_
  rintro e w2 ⟨rfl, hb2⟩
  go_wp2
  go_ret
  exact ⟨rfl, hb1.trans (hb2.mono hb1.size)⟩

theorem grown_below_own {a w : World} {row : Option Nat} (h : a.grownBy w row) {b : Nat} (hr : ∀ i, row = some i → b ≤ i) (hs : b ≤ a.heap.size) : Below b a w :=
  ⟨h.os, h.tape, h.output, h.size, fun i hi => h.block i (by omega) fun e => by have := hr i e.symm; omega⟩
theorem planinfo2 : (Try.prog.info? 23).map (·.size) = some 6 := by kernel_rfl
theorem run_load_plan {w : World} {b o : Nat} {a u e t : Int} {g l : Bool} (hc : w.rangeAt b o (⟨a, u, e, t, g, l⟩ : Pv).cs) :
    (Instr.loadAt 23 (.pointer (some ⟨b, o, none⟩))).run Try.prog w = .ok (.agg #[.int .i64 a, .int .u8 u, .int .i64 e, .int .i64 t, .bool g, .bool l]) w :=
  run_loadAt_mid w b o 23 _ _ hc Try.underlying23 rfl planinfo2
/-- One plan more, at the operation, for the walk. -/
theorem wpList_append_plan {w : World} {ops : Array Oper} {rest : List Oper} {o : Oper} {a : Act} {Q : Exit → Act → World → Prop} (hgd : o.guard = none) (s x : Operand)
    (ho : o.op = .call { callee := .builtin .append, args := #[s, x], argTypes := #[42, 42] })
    (base : Nat) (v : Value) (N : Nat) (qs : List Pv) (p : Pv) (ad : Addr) (hsv : a.eval s = v) (hx : a.eval x = .slice (some ad) 1 1) (hown : w.ownsRow base 23 6 v N (pcs qs))
    (hc : ∀ j u, p.cs[j]? = some u → w.cell? (ad.add j) = some u) (hN : N ≤ 1000) (hbase : base ≤ w.heap.size)
    (h : ∀ v' w', w'.ownsRow base 23 6 v' (N + 1) (pcs qs ++ p.cs) → w.grownBy w' v.ownBlock → (v'.ownBlock = v.ownBlock ∨ v'.ownBlock = some w.heap.size) → wpList Try.prog ops Q rest (a.put o.dst v') w') : wpList Try.prog ops Q (o :: rest) a w := by
  obtain ⟨it, hi0, hi1, hi2, hi3⟩ := info_parts planinfo
  exact wpList_append_own_at (P := Try.prog) w hgd s x 42 ho base 23 it _ 6 40 Try.underlying42 hi0 hi1 hi2 hi3 rfl (by decide) v N (pcs qs) hsv hown ad 1 1 p.cs hx rfl hc (Pv.cs_one _) (by unfold maxLen; omega) (by omega) hbase (fun v' w' h1 h2 _ h4 => h v' w' h1 h2 h4)
/-- Two rows in unlike blocks. -/
def Apart (x y : Value) : Prop := ∀ b, x.ownBlock = some b → y.ownBlock ≠ some b

set_option maxHeartbeats 8000000 in
theorem planLists_in (A : Option Addr) (n c : Nat) (l : List Pv) (k : Int) (w : World) (hr : RdPlans w w.heap.size A l) (hw : ∀ p ∈ l, Pv.Wf p) (hn : l.length = n) (h : n ≤ 20) :
    Calls Try.prog 5 #[.slice A n c, .int .i64 k] w fun e w' => e = .returned (.bool true) ∧ Below w.heap.size w w' := by
  have t : decide ((20 : Int) < (n : Int)) = false := by simp; omega
  have HR := Lib.hid hr
  have HF := Lib.hid hw
  have HN := Lib.hid hn
  clear hr hw hn
  go_enter Try.func5, Try.ntmps5
  go_wp2_with (fail)
  refine (pnawake_any _).mono ?_
  rintro e w1 ⟨rfl, hb1⟩
  have H1 := Lib.hid hb1
  clear hb1
  go_wp2
  go_loopw [5, 6, 7] (fun x y i wr => ∃ (j : Nat) (qs : List Pv), j ≤ n ∧ i = .int .i64 j ∧ qs.length ≤ 8 ∧ Hid (Lst wr w1.heap.size x qs) ∧ Hid (Lst wr w1.heap.size y qs) ∧ Hid (Apart x y) ∧ Hid (Below w1.heap.size w1 wr)) (fun _ _ i _ => n - (intOf i).toNat)
  case atStart => exact ⟨0, [], by omega, rfl, by simp, World.ownsRow_nil _ _ _ _, World.ownsRow_nil _ _ _ _, (fun b hb => by simp [Value.ownBlock] at hb), Below.refl _ _⟩
  case round =>
    obtain ⟨j, qs, hj, rfl, hq8, HX, HY, HA, HW⟩ := hrel
    have HWr : Hid (Below w.heap.size w wr) := H1.out.trans (HW.out.mono H1.out.size)
    obtain ⟨Ax, cx, rfl, hcx, hax⟩ := HX.out.form
    obtain ⟨Ay, cy, rfl, hcy, hay⟩ := HY.out.form
    obtain ⟨N, hN⟩ : ∃ N, qs.length = N := ⟨_, rfl⟩
    have HQ := Lib.hid hN
    rw [hN] at HX HY HA hq8 hcx hcy ⊢
    clear hN
    by_cases hlt : j < n
    · have hjl : j < l.length := by rw [HN.out]; exact hlt
      obtain ⟨p, hp⟩ : ∃ p, l[j]? = some p := ⟨l[j], List.getElem?_eq_getElem hjl⟩
      obtain ⟨b, o, rfl, hb, hc⟩ := HR.out j p hp
      have hwf := HF.out p (List.mem_of_getElem? hp)
      obtain ⟨a, u, e, t0, g, lb⟩ := p
      obtain ⟨_, wu, _, _⟩ := hwf
      dsimp only at wu
      have WU := Lib.hid wu
      have hcr : ∀ (i : Nat) (v : Value), (⟨a, u, e, t0, g, lb⟩ : Pv).cs[i]? = some v → wr.cell? ⟨b, o + j * 6 + i, none⟩ = some v := fun i v hv => (World.cell?_of_block (a := ⟨b, o + j * 6 + i, none⟩) (HWr.out.block b hb)).trans (hc i v hv)
      have c0 := hcr 0 _ rfl
      have c1 := hcr 1 _ rfl
      have c2 := hcr 2 _ rfl
      have c3 := hcr 3 _ rfl
      have c4 := hcr 4 _ rfl
      have c5 := hcr 5 _ rfl
      dsimp only at c0 c1 c2 c3 c4 c5
      rw [Nat.add_zero] at c0
      have hbr : b < wr.heap.size := Nat.lt_of_lt_of_le hb HWr.out.size
      clear hcr hc hp wu
      by_cases h3 : 0 < (j : Int) % 3
      case' pos =>
        have d3 : decide (0 < (j : Int) % 3) = true := by simpa using h3
        go_wp2_with (fail)
        refine (near_any a u e t0 g lb _ WU.out).mono ?_
        rintro x w2 ⟨rfl, hb2⟩
        obtain ⟨hw2, s2, e2⟩ := keep0 hb2
        rw [e2]
        have HW2 := Lib.hid hw2
        clear e2 hb2 hw2 c0 c1 c2 c3 c4 c5 d3
        go_wp2_with (fail)
        have HWP : Hid (Below wr.heap.size wr (boxed w2 wr.heap.size #[.int .i64 (Pn.nP a), .int .u8 (Pn.nU u), .int .i64 (Pn.nE e), .int .i64 (Pn.nT t0), .bool g, .bool lb] 23)) := boxed_below HW2.out (Nat.le_refl _)
        have HPP := Lib.hid (boxed_block (cs := #[.int .i64 (Pn.nP a), .int .u8 (Pn.nU u), .int .i64 (Pn.nE e), .int .i64 (Pn.nT t0), .bool g, .bool lb]) (t := 23) s2)
        have sW : wr.heap.size < (boxed w2 wr.heap.size #[.int .i64 (Pn.nP a), .int .u8 (Pn.nU u), .int .i64 (Pn.nE e), .int .i64 (Pn.nT t0), .bool g, .bool lb] 23).heap.size := by rw [boxed_size]; exact s2
        clear HW2 s2 WU
        generalize boxed w2 wr.heap.size #[.int .i64 (Pn.nP a), .int .u8 (Pn.nU u), .int .i64 (Pn.nE e), .int .i64 (Pn.nT t0), .bool g, .bool lb] 23 = W at *
        clear w2
        generalize Pn.nP a = a' at *
        generalize Pn.nU u = u' at *
        generalize Pn.nE e = e' at *
        generalize Pn.nT t0 = t' at *
      case' neg =>
        have d3 : decide (0 < (j : Int) % 3) = false := by simpa using h3
        go_wp2_with (fail)
        have HWP : Hid (Below wr.heap.size wr (wr.alloc (Obj.cells #[.int .i64 a, .int .u8 u, .int .i64 e, .int .i64 t0, .bool g, .bool lb] 23))) := (Below.refl _ wr).alloc (Nat.le_refl _) _
        have HPP : Hid ((wr.alloc (Obj.cells #[.int .i64 a, .int .u8 u, .int .i64 e, .int .i64 t0, .bool g, .bool lb] 23)).heap[wr.heap.size]? = some (Obj.cells #[.int .i64 a, .int .u8 u, .int .i64 e, .int .i64 t0, .bool g, .bool lb] 23)) := alloc_block
        have sW : wr.heap.size < (wr.alloc (Obj.cells #[.int .i64 a, .int .u8 u, .int .i64 e, .int .i64 t0, .bool g, .bool lb] 23)).heap.size := by simp
        clear c0 c1 c2 c3 c4 c5 d3 WU
        generalize wr.alloc (Obj.cells #[.int .i64 a, .int .u8 u, .int .i64 e, .int .i64 t0, .bool g, .bool lb] 23) = W at *
        generalize a = a' at *
        generalize u = u' at *
        generalize e = e' at *
        generalize t0 = t' at *
      all_goals
        have HX2 : Hid (Lst W w1.heap.size (.slice Ax N cx) qs) := own_kept HX.out fun i hi => HWP.out.block i (HX.out.lt i hi).2
        have HW2 : Hid (Below w1.heap.size w1 W) := HW.out.trans (HWP.out.mono HW.out.size)
        have HY2 : Hid (Lst W w1.heap.size (.slice Ay N cy) qs) := own_kept HY.out fun i hi => HWP.out.block i (HY.out.lt i hi).2
        have hwW : w1.heap.size ≤ W.heap.size := HW2.out.size
        have HYO : Hid (∀ b, (Value.slice Ay N cy).ownBlock = some b → b < wr.heap.size) := fun b hb => (HY.out.lt b hb).2
        refine (pladd_any W w1.heap.size N cx Ax qs _ _ _ _ g lb HX2.out HQ.out (by omega)).mono ?_
        rintro x w3 ⟨hadd, hb3⟩
        have hp3 := (hb3.block _ sW).trans HPP.out
        obtain ⟨c0, c1, c2, c3, c4, c5⟩ := Pn.At.of hp3
        have s3 : wr.heap.size < w3.heap.size := Nat.lt_of_lt_of_le sW hb3.size
        have HP3 := Lib.hid hp3
        have HB3 := Lib.hid hb3
        have HX3 : Hid (Lst w3 w1.heap.size (.slice Ax N cx) qs) := own_kept HX2.out fun i hi => HB3.out.block i (HX2.out.lt i hi).2
        have HY3 : Hid (Lst w3 w1.heap.size (.slice Ay N cy) qs) := own_kept HY2.out fun i hi => HB3.out.block i (HY2.out.lt i hi).2
        have HW3 : Hid (Below w1.heap.size w1 w3) := HW2.out.trans (HB3.out.mono HW2.out.size)
        clear hp3 hb3 HX HY HX2 HW2 HY2 HWP HPP
        rcases hadd with ⟨hr, rfl⟩ | ⟨hr, h8, rfl⟩ | ⟨hr, h8, A3, c3', rfl, hl3⟩
        · dsimp only at hr ⊢
          go_wp2_with (fail)
          refine (lwright_any _ _ _ _ g lb w3).mono ?_
          rintro x w4 ⟨rfl, hb4⟩
          generalize Pn.right _ _ _ _ = r at *
          have d5 : (r == 0) = false := by simpa using hr
          have d6 : (r != 0) = true := by simpa using hr
          have d7 : (r != r) = false := by simp
          have HX4 : Hid (Lst w4 w1.heap.size (.slice Ax N cx) qs) := own_kept HX3.out fun i hi => hb4.block i (HX3.out.lt i hi).2
          have HY4 : Hid (Lst w4 w1.heap.size (.slice Ay N cy) qs) := own_kept HY3.out fun i hi => hb4.block i (HY3.out.lt i hi).2
          have HW4 : Hid (Below w1.heap.size w1 w4) := HW3.out.trans (hb4.mono HW3.out.size)
          clear hr hb4 c0 c1 c2 c3 c4 c5
          go_wp2
          go_roundw
          case rel => exact ⟨j + 1, qs, by omega, by go_num, by rw [HQ.out]; exact hq8, HX4, HY4, HA, HW4⟩
          case measure => simp [intOf]; omega
        · dsimp only at hr ⊢
          rw [HQ.out] at h8
          go_wp2_with (fail)
          refine (lwright_any _ _ _ _ g lb w3).mono ?_
          rw [hr]
          rintro x w4 ⟨rfl, hb4⟩
          have d5 : decide ((8 : Int) ≤ (N : Int)) = true := by simp; omega
          have HX4 : Hid (Lst w4 w1.heap.size (.slice Ax N cx) qs) := own_kept HX3.out fun i hi => hb4.block i (HX3.out.lt i hi).2
          have HY4 : Hid (Lst w4 w1.heap.size (.slice Ay N cy) qs) := own_kept HY3.out fun i hi => hb4.block i (HY3.out.lt i hi).2
          have HW4 : Hid (Below w1.heap.size w1 w4) := HW3.out.trans (hb4.mono HW3.out.size)
          clear hr hb4 c0 c1 c2 c3 c4 c5
          go_wp2
          go_roundw
          case rel => exact ⟨j + 1, qs, by omega, by go_num, by rw [HQ.out]; exact hq8, HX4, HY4, HA, HW4⟩
          case measure => simp [intOf]; omega
        · dsimp only at hr ⊢
          rw [HQ.out] at h8 hl3 ⊢
          have HL3 := Lib.hid hl3
          go_wp2_with (fail)
          refine (lwright_any _ _ _ _ g lb w3).mono ?_
          rw [hr]
          rintro x w4 ⟨rfl, hb4⟩
          have hp4 := (hb4.block _ s3).trans HP3.out
          obtain ⟨x0, x1, x2, x3, x4, x5⟩ := Pn.At.of hp4
          have d5 : decide ((8 : Int) ≤ (N : Int)) = false := by simp; omega
          have HX4 : Hid (Lst w4 W.heap.size (.slice A3 (N + 1) c3') _) := own_kept HL3.out fun i hi => hb4.block i (HL3.out.lt i hi).2
          have HY4 : Hid (Lst w4 w1.heap.size (.slice Ay N cy) qs) := own_kept HY3.out fun i hi => hb4.block i (HY3.out.lt i hi).2
          have HW4 : Hid (Below w1.heap.size w1 w4) := HW3.out.trans (hb4.mono HW3.out.size)
          have s4 : wr.heap.size < w4.heap.size := Nat.lt_of_lt_of_le s3 hb4.size
          have s5 : W.heap.size ≤ w4.heap.size := Nat.le_trans HB3.out.size hb4.size
          clear hr hb4 c0 c1 c2 c3 c4 c5 hl3 HL3 hp4
          have hb5 : Below w4.heap.size w4 (w4.alloc (Obj.cells #[.int .i64 a', .int .u8 u', .int .i64 e', .int .i64 t', .bool g, .bool lb] 23)) := (Below.refl _ w4).alloc (Nat.le_refl _) _
          have hn5 : (w4.alloc (Obj.cells #[.int .i64 a', .int .u8 u', .int .i64 e', .int .i64 t', .bool g, .bool lb] 23)).heap[w4.heap.size]? = some (Obj.cells #[.int .i64 a', .int .u8 u', .int .i64 e', .int .i64 t', .bool g, .bool lb] 23) := alloc_block
          have hy5 : (w4.alloc (Obj.cells #[.int .i64 a', .int .u8 u', .int .i64 e', .int .i64 t', .bool g, .bool lb] 23)).ownsRow w1.heap.size 23 6 (.slice Ay N cy) N (pcs qs) := by
            have := own_kept HY4.out fun i hi => hb5.block i (HY4.out.lt i hi).2
            rwa [HQ.out] at this
          have hc5 : ∀ j u, (⟨a', u', e', t', g, lb⟩ : Pv).cs[j]? = some u → (w4.alloc (Obj.cells #[.int .i64 a', .int .u8 u', .int .i64 e', .int .i64 t', .bool g, .bool lb] 23)).cell? ((⟨w4.heap.size, 0, none⟩ : Addr).add j) = some u := fun j v hj => by
            rw [ad_head, cell_of_row _ _ _ _ _ (0, 0) hn5, ← Array.getElem?_toList]; exact hj
          have hz5 : (w4.alloc (Obj.cells #[.int .i64 a', .int .u8 u', .int .i64 e', .int .i64 t', .bool g, .bool lb] 23)).heap.size = w4.heap.size + 1 := by simp
          have HX5 : Hid (Lst (w4.alloc (Obj.cells #[.int .i64 a', .int .u8 u', .int .i64 e', .int .i64 t', .bool g, .bool lb] 23)) W.heap.size (.slice A3 (N + 1) c3') (qs ++ [(⟨a', u', e', t', g, lb⟩ : Pv)])) := own_kept HX4.out fun i hi => hb5.block i (HX4.out.lt i hi).2
          have HB5 := Lib.hid hb5
          have HY5 := Lib.hid hy5
          have HC5 := Lib.hid hc5
          have HZ5 := Lib.hid hz5
          have hay4 : ∀ b, (Value.slice Ay N cy).ownBlock = some b → b < wr.heap.size := HYO.out
          have HAY := Lib.hid hay4
          clear hb5 hn5 hy5 hc5 hz5 hay4 HX4 HX3
          go_wp2_with (at_builtin; refine wpList_append_plan rfl _ _ rfl w1.heap.size (.slice Ay N cy) N qs ⟨a', u', e', t', g, lb⟩ ⟨w4.heap.size, 0, none⟩ rfl rfl HY5.out HC5.out (by omega) (by have := HZ5.out; omega) ?_; intro v6 w6 ho6 hg6 hat6)
          obtain ⟨A6, c6, rfl, _, _⟩ := own_form ho6
          have hlen : (qs ++ [(⟨a', u', e', t', g, lb⟩ : Pv)]).length = N + 1 := by rw [List.length_append, HQ.out]; rfl
          have HY6 : Hid (Lst w6 w1.heap.size (.slice A6 (N + 1) c6) (qs ++ [(⟨a', u', e', t', g, lb⟩ : Pv)])) := by
            show w6.ownsRow _ _ _ _ _ _
            rw [hlen, pcs_snoc]; exact ho6
          have hxl : ∀ i, (Value.slice A3 (N + 1) c3').ownBlock = some i → W.heap.size ≤ i ∧ i < (w4.alloc (Obj.cells #[.int .i64 a', .int .u8 u', .int .i64 e', .int .i64 t', .bool g, .bool lb] 23)).heap.size := fun i hi => HX5.out.lt i hi
          have HX6 : Hid (Lst w6 w1.heap.size (.slice A3 (N + 1) c3') (qs ++ [(⟨a', u', e', t', g, lb⟩ : Pv)])) := own_more (own_kept HX5.out fun i hi => hg6.block i (hxl i hi).2 fun e => by
            have := HAY.out i e.symm; have := (hxl i hi).1; omega) hwW
          have HA6 : Hid (Apart (.slice A3 (N + 1) c3') (.slice A6 (N + 1) c6)) := fun b hb hb2 => by
            have h1 := hxl b hb
            rcases hat6 with h2 | h2
            · rw [h2] at hb2; have := HAY.out b hb2; omega
            · rw [h2] at hb2; injection hb2 with hb2; omega
          have HW6 : Hid (Below w1.heap.size w1 w6) := (HW4.out.trans (HB5.out.mono HW4.out.size)).trans (grown_below_own hg6 (fun i hi => (HY5.out.lt i hi).1) (by have := HW4.out.size; have := HZ5.out; omega))
          clear ho6 hg6 hat6 hxl HX5 HY5 HY4 HB5 HC5
          go_roundw
          case rel => exact ⟨j + 1, qs ++ [(⟨a', u', e', t', g, lb⟩ : Pv)], by omega, by go_num, by rw [hlen]; omega, HX6, HY6, HA6, HW6⟩
          case measure => simp [intOf]; omega
    · obtain rfl : j = n := by omega
      have d1 : decide ((j : Int) < (j : Int)) = false := by simp
      clear hlt hj h t HR HF HN HA hax hay
      generalize wr = ws at *
      go_wp2
      go_loopw [13] (fun i wq => ∃ r : Nat, r ≤ N ∧ i = .int .i64 r ∧ Hid (Below ws.heap.size ws wq)) (fun i _ => N - (intOf i).toNat)
      case atStart => exact ⟨0, by omega, rfl, Below.refl _ _⟩
      case round =>
        obtain ⟨r, hr, rfl, HWq⟩ := hrel
        have HXq : Hid (Lst wr w1.heap.size (.slice Ax N cx) qs) := own_kept HX.out fun i hi => HWq.out.block i (HX.out.lt i hi).2
        by_cases hlt2 : r < N
        · obtain ⟨p, hp⟩ : ∃ p, qs[r]? = some p := ⟨qs[r]'(by rw [HQ.out]; exact hlt2), List.getElem?_eq_getElem _⟩
          obtain ⟨a, u, e, t0, g, lb⟩ := p
          have HP := Lib.hid hp
          obtain ⟨q, cur, rfl, _, _, _, hq, _, hcy2⟩ := HY.out.at_ hp
          have HCY := Lib.hid hcy2
          have d2 : decide ((r : Int) < (N : Int)) = true := by simp; omega
          clear hp hcy2
          go_wp2_with (fail)
          refine (plat_any wr w1.heap.size N cx r Ax qs a u e t0 g lb HXq.out HP.out).mono ?_
          rintro x w2 ⟨rfl, hb2⟩
          have hb3 : Below ws.heap.size ws (w2.alloc (Obj.cells #[.int .i64 a, .int .u8 u, .int .i64 e, .int .i64 t0, .bool g, .bool lb] 23)) := (HWq.out.trans (hb2.mono HWq.out.size)).alloc (Nat.le_trans HWq.out.size hb2.size) _
          have hn3 : (w2.alloc (Obj.cells #[.int .i64 a, .int .u8 u, .int .i64 e, .int .i64 t0, .bool g, .bool lb] 23)).heap[w2.heap.size]? = some (Obj.cells #[.int .i64 a, .int .u8 u, .int .i64 e, .int .i64 t0, .bool g, .bool lb] 23) := alloc_block
          have hz3 : (w2.alloc (Obj.cells #[.int .i64 a, .int .u8 u, .int .i64 e, .int .i64 t0, .bool g, .bool lb] 23)).heap.size = w2.heap.size + 1 := by simp
          have hqs : ws.heap.size ≤ w2.heap.size := Nat.le_trans HWq.out.size hb2.size
          have HB3 := Lib.hid hb3
          have hcc : (w2.alloc (Obj.cells #[.int .i64 a, .int .u8 u, .int .i64 e, .int .i64 t0, .bool g, .bool lb] 23)).rangeAt q (r * 6) (⟨a, u, e, t0, g, lb⟩ : Pv).cs := fun i v hv => (World.cell?_of_block (a := ⟨q, r * 6 + i, none⟩) (hb3.block q hq)).trans (HCY.out i v hv)
          have hnn : (w2.alloc (Obj.cells #[.int .i64 a, .int .u8 u, .int .i64 e, .int .i64 t0, .bool g, .bool lb] 23)).rangeAt w2.heap.size 0 (⟨a, u, e, t0, g, lb⟩ : Pv).cs := fun i v hv => by
            rw [Nat.zero_add, cell_of_row _ _ _ _ _ _ hn3, ← Array.getElem?_toList]; exact hv
          have HCC := Lib.hid hcc
          have HNN := Lib.hid hnn
          clear hnn
          clear hcc hn3 hb3 hb2
          go_wp2
          have sW : w2.heap.size < (w2.alloc (Obj.cells #[.int .i64 a, .int .u8 u, .int .i64 e, .int .i64 t0, .bool g, .bool lb] 23)).heap.size := by omega
          have sQ : q < (w2.alloc (Obj.cells #[.int .i64 a, .int .u8 u, .int .i64 e, .int .i64 t0, .bool g, .bool lb] 23)).heap.size := by omega
          generalize w2.alloc (Obj.cells #[.int .i64 a, .int .u8 u, .int .i64 e, .int .i64 t0, .bool g, .bool lb] 23) = W at *
          refine lane_start (ord := [0, 1, 2, 3, 4, 5, 6, 7, 8, 9]) (S := fun w' => w'.rangeAt w2.heap.size 0 (⟨a, u, e, t0, g, lb⟩ : Pv).cs ∧ w'.rangeAt q (r * 6) (⟨a, u, e, t0, g, lb⟩ : Pv).cs) rfl (by kernel_rfl) ⟨HNN.out, HCC.out⟩ (fun hHeld => ?_)
          iterate 3 (refine lane_take (v := ?_) rfl (by kernel_rfl) (by kernel_rfl) (by rfl) ?_ (by assumption) ?_; rotate_left; (focus (intro W hSw; go_simp; try (with_reducible rfl))); simp only [Act.put, List.setIfInBounds_toArray, List.set_cons_zero, List.set_cons_succ])
          refine lane_take (v := .agg #[.int .i64 a, .int .u8 u, .int .i64 e, .int .i64 t0, .bool g, .bool lb]) rfl (by kernel_rfl) (by kernel_rfl) (by rfl) (fun W hSw => exec_load rfl rfl (run_load_plan hSw.1)) (by assumption) ?_
          simp only [Act.put, List.setIfInBounds_toArray, List.set_cons_zero, List.set_cons_succ]
          iterate 3 (refine lane_take (v := ?_) rfl (by kernel_rfl) (by kernel_rfl) (by rfl) ?_ (by assumption) ?_; rotate_left; (focus (intro W hSw; go_simp; try (with_reducible rfl))); simp only [Act.put, List.setIfInBounds_toArray, List.set_cons_zero, List.set_cons_succ])
          refine lane_take (v := .agg #[.int .i64 a, .int .u8 u, .int .i64 e, .int .i64 t0, .bool g, .bool lb]) rfl (by kernel_rfl) (by kernel_rfl) (by rfl) (fun W hSw => exec_load rfl rfl (run_load_plan hSw.2)) (by assumption) ?_
          simp only [Act.put, List.setIfInBounds_toArray, List.set_cons_zero, List.set_cons_succ]
          iterate 2 (refine lane_take (v := ?_) rfl (by kernel_rfl) (by kernel_rfl) (by rfl) ?_ (by assumption) ?_; rotate_left; (focus (intro W hSw; go_simp; try (with_reducible rfl))); simp only [Act.put, List.setIfInBounds_toArray, List.set_cons_zero, List.set_cons_succ])
          refine lane_end (by kernel_rfl) ?_
          have HB4 : Hid (Below ws.heap.size ws W.drew) := HB3.out.drew
          clear HCC HNN HB3 hHeld
          go_wp2
          exact ⟨⟨r + 1, by omega, by go_num, HB4⟩, by simp [intOf]; omega⟩
        · obtain rfl : r = N := by omega
          have d2 : decide ((r : Int) < (r : Int)) = false := by simp
          have HWF : Hid (Below w.heap.size w wr) := HWr.out.trans (HWq.out.mono HWr.out.size)
          by_cases hk : 0 ≤ k ∧ k < (r : Int)
          · obtain ⟨k0, k1⟩ := hk
            obtain ⟨m, rfl⟩ := Int.eq_ofNat_of_zero_le k0
            have d3 : decide ((0 : Int) ≤ (m : Int)) = true := by simp
            have d4 : decide ((m : Int) < (r : Int)) = true := by simpa using k1
            obtain ⟨p, hp⟩ : ∃ p, qs[m]? = some p := ⟨qs[m]'(by rw [HQ.out]; omega), List.getElem?_eq_getElem _⟩
            obtain ⟨a, u, e, t0, g, lb⟩ := p
            have HP := Lib.hid hp
            clear hp
            go_wp2_with (fail)
            refine (plat_any wr w1.heap.size r cx m Ax qs a u e t0 g lb HXq.out HP.out).mono ?_
            rintro x w2 ⟨rfl, hb2⟩
            have hfin := (HWF.out.trans (hb2.mono HWF.out.size)).alloc (Nat.le_trans HWF.out.size hb2.size) (Obj.cells #[.int .i64 a, .int .u8 u, .int .i64 e, .int .i64 t0, .bool g, .bool lb] 23)
            clear hb2
            go_wp2
            go_ret
            exact ⟨rfl, hfin⟩
          · have hor : k < 0 ∨ 0 ≤ k ∧ (r : Int) ≤ k := by omega
            have HOR := Lib.hid hor
            rcases hor with h0 | ⟨h0, h1⟩
            · have d3 : decide ((0 : Int) ≤ k) = false := by simp; omega
              clear hk h0
              go_wp2_with (fail)
              refine (plnone_any wr r cx k Ax HOR.out).mono ?_
              rintro x w2 ⟨rfl, hb2⟩
              have hfin := (HWF.out.trans (hb2.mono HWF.out.size)).alloc (Nat.le_trans HWF.out.size hb2.size) (Obj.cells #[.int .i64 0, .int .u8 0, .int .i64 0, .int .i64 0, .bool false, .bool false] 23)
              clear hb2
              go_wp2
              go_ret
              exact ⟨rfl, hfin⟩
            · have d3 : decide ((0 : Int) ≤ k) = true := by simpa using h0
              have d4 : decide (k < (r : Int)) = false := by simp; omega
              clear hk h0 h1
              go_wp2_with (fail)
              refine (plnone_any wr r cx k Ax HOR.out).mono ?_
              rintro x w2 ⟨rfl, hb2⟩
              have hfin := (HWF.out.trans (hb2.mono HWF.out.size)).alloc (Nat.le_trans HWF.out.size hb2.size) (Obj.cells #[.int .i64 0, .int .u8 0, .int .i64 0, .int .i64 0, .bool false, .bool false] 23)
              clear hb2
              go_wp2
              go_ret
              exact ⟨rfl, hfin⟩

theorem planLists_walk (A : Option Addr) (c : Nat) (l : List Pv) (w : World) (hr : RdPlans w w.heap.size A l) (hw : ∀ p ∈ l, Pv.Wf p) (k : Int) (_ : (Lit.int .i64 k).wf = true) :
    Calls Try.prog 5 #[.slice A l.length c, .int .i64 k] w fun e w' => e = .returned (.bool true) ∧ Below w.heap.size w w' := by
  by_cases h : 20 < l.length
  · exact planLists_long A l.length c k w h
  · exact planLists_in A l.length c l k w hr hw rfl (by omega)
end Go.Proofs.Yticefepcoemkoaa
