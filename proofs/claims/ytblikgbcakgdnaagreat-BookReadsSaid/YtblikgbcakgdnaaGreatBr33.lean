/-
  Another plan that is refused: the same one, or a period that ends behind the last day; a period that begins near enough. No conditions but those that each law names.
-/
import Derived.Test.YtblikgbcakgdnaaGreatBr16
import Derived.Test.YtblikgbcakgdnaaGreatBr18
import Derived.Test.YtblikgbcakgdnaaGreatBr20
import Derived.Test.YtblikgbcakgdnaaGreatBr23
import Derived.Test.YtblikgbcakgdnaaGreatBr30
import Derived.Test.YtblikgbcakgdnaaGreatBr31
import Derived.Test.YtblikgbcakgdnaaGreatBr32
set_option linter.unusedSimpArgs false
set_option linter.unusedVariables false
namespace Go.Proofs.YtblikgbcakgdnaaGreat
set_option maxRecDepth 100000
open Go.ChangeShapes Go.WideShapes Go.ChangeAt Go.RowKit

set_option maxHeartbeats 2000000 in
theorem change_same {w : World} {v : Value} {a : Av} {p q : Pv} {k d : Int} (n y : Int) (hst : a.st = 1) (hn : n = a.pl) (hAt : Cal.At a.an k d) (hU : 0 ≤ p.u ∧ p.u ≤ 3) (hE : 1 ≤ p.e ∧ p.e ≤ 1000) (hy : 0 ≤ y ∧ y ≤ 3652058) :
    Calls Tryz.prog 98 #[.agg (a.arr v), .agg p.arr, .int .i64 n, .agg q.arr, .int .i64 y] w (Refused w 8) := by
  obtain ⟨x1, x2, x3, hs⟩ := span_some a.an k d p.u p.e y hAt hU.1 hU.2 hE.1 hE.2 hy.1 hy.2
  have HS := Lib.hid hs
  have h1 : (a.st == 1) = true := by simpa using hst
  have h2 : (a.st != 1) = false := by simpa using hst
  have h3 : (n == a.pl) = true := by simpa using hn
  clear hs hst hAt hn
  go_enter Tryz.func98, Tryz.ntmps98
  go_wp2_with (fail)
  refine (HS.out _).mono ?_
  rintro e w1 ⟨rfl, hb⟩
  have hP : w1.heap[w.heap.size]? = some (.cells (a.arr v) 32 (0, 0)) := below_block hb (alloc_old (by simp; omega) (alloc_old (by simp; omega) (alloc_old (by simp) (alloc_at rfl))))
  have hZ : w1.heap[w.heap.size + 1 + 1 + 1]? = some (.cells #[.int .u8 0, .int .i64 0, .int .i64 0, .int .i64 0, .int .i64 0, .int .i64 0, .bool false, .slice none 0 0, .int .i64 0, .int .i64 0, .int .i64 0, .int .i64 0, .int .i64 0] 32 (0, 0)) := below_block hb (alloc_at (by simp))
  have hW : Below w.heap.size w w1 := (((((Below.refl _ w).alloc (Nat.le_refl _) _).alloc (by simp) _).alloc (by simp; omega) _).alloc (by simp; omega) _).trans (hb.mono (by simp; omega))
  have hz : w.heap.size + 1 + 1 + 1 < w1.heap.size := (Array.getElem?_eq_some_iff.1 hZ).1
  have c0 : w1.cell? ⟨w.heap.size, 0, none⟩ = some (.int .u8 a.st) := cell_of_row _ _ _ _ _ _ hP
  have c1 : w1.cell? ⟨w.heap.size, 1, none⟩ = some (.int .i64 a.pl) := cell_of_row _ _ _ _ _ _ hP
  have HW := Lib.hid hW
  clear hb hW hP
  go_wp2_with (first | ((with_reducible_and_instances (show wpList _ _ _ (Oper.mk _ (Op.store 32 _ _) _ _ _ _ :: _) _ _)); refine wl_store info13 rfl rfl rfl rfl (by (repeat (first | assumption | (with_reducible refine alloc_at ?_; (focus (first | omega | (simp; done) | (simp; omega)))) | (with_reducible refine boxed_at ?_; (focus (first | omega | (simp; done) | (simp; omega)))) | (with_reducible refine alloc_old ?_ ?_; (focus (first | omega | (simp; done) | (simp; omega)))) | (with_reducible refine boxed_old ?_ ?_; (focus (first | omega | (simp; done) | (simp; omega)))) | (with_reducible refine drew_old ?_)))) (by rfl) (by rfl) (by first | exact Cv.arr_one _ | exact Nv.arr_one _ | exact Av.arr_one rfl | exact Pv.arr_one _ | simp [Value.oneCell']) ?_))
  refine bodyPost_ret (results_row_tmp rfl _ _ (w.heap.size + 1 + 1 + 1) 32 _ (0, 0) _ rfl (boxed_at (by omega)) Tryz.underlying32 rfl (by exact info13)) rfl ?_
  exact ⟨rfl, boxed_below HW.out (by omega)⟩
set_option maxHeartbeats 2000000 in
theorem change_long {w : World} {v : Value} {a : Av} {p q : Pv} {k d c : Int} (n y : Int) (hst : a.st = 1) (hn : n ≠ a.pl) (hAt : Cal.At a.an k d) (hU : 0 ≤ p.u ∧ p.u ≤ 3) (hE : 1 ≤ p.e ∧ p.e ≤ 1000) (hy : 0 ≤ y ∧ y ≤ 3652058) (hay : a.an ≤ y) (hcn : Cal.Cnt p.u a.an k d p.e y c) (hok : Cal.okN p.u a.an k p.e c = false) :
    Calls Tryz.prog 98 #[.agg (a.arr v), .agg p.arr, .int .i64 n, .agg q.arr, .int .i64 y] w (Refused w 8) := by
  have HS : Hid (∀ w, Calls Tryz.prog 118 #[.int .i64 a.an, .int .u8 p.u, .int .i64 p.e, .int .i64 y] w fun r w' => r = .returned (.tuple #[.int .i64 0, .int .i64 0, .int .i64 6]) ∧ Below w.heap.size w w') := fun w => span_long _ k d _ _ _ c w hAt hU.1 hU.2 hE.1 hE.2 hy.1 hy.2 hay hcn hok
  have h1 : (a.st == 1) = true := by simpa using hst
  have h2 : (a.st != 1) = false := by simpa using hst
  have h3 : (n == a.pl) = false := by simpa using hn
  clear hst hAt hn hcn hok
  go_enter Tryz.func98, Tryz.ntmps98
  go_wp2_with (fail)
  refine (HS.out _).mono ?_
  rintro e w1 ⟨rfl, hb⟩
  have hP : w1.heap[w.heap.size]? = some (.cells (a.arr v) 32 (0, 0)) := below_block hb (alloc_old (by simp; omega) (alloc_old (by simp; omega) (alloc_old (by simp) (alloc_at rfl))))
  have hZ : w1.heap[w.heap.size + 1 + 1 + 1]? = some (.cells #[.int .u8 0, .int .i64 0, .int .i64 0, .int .i64 0, .int .i64 0, .int .i64 0, .bool false, .slice none 0 0, .int .i64 0, .int .i64 0, .int .i64 0, .int .i64 0, .int .i64 0] 32 (0, 0)) := below_block hb (alloc_at (by simp))
  have hW : Below w.heap.size w w1 := (((((Below.refl _ w).alloc (Nat.le_refl _) _).alloc (by simp) _).alloc (by simp; omega) _).alloc (by simp; omega) _).trans (hb.mono (by simp; omega))
  have hz : w.heap.size + 1 + 1 + 1 < w1.heap.size := (Array.getElem?_eq_some_iff.1 hZ).1
  have c0 : w1.cell? ⟨w.heap.size, 0, none⟩ = some (.int .u8 a.st) := cell_of_row _ _ _ _ _ _ hP
  have c1 : w1.cell? ⟨w.heap.size, 1, none⟩ = some (.int .i64 a.pl) := cell_of_row _ _ _ _ _ _ hP
  have HW := Lib.hid hW
  clear hb hW hP
  go_wp2_with (first | ((with_reducible_and_instances (show wpList _ _ _ (Oper.mk _ (Op.store 32 _ _) _ _ _ _ :: _) _ _)); refine wl_store info13 rfl rfl rfl rfl (by (repeat (first | assumption | (with_reducible refine alloc_at ?_; (focus (first | omega | (simp; done) | (simp; omega)))) | (with_reducible refine boxed_at ?_; (focus (first | omega | (simp; done) | (simp; omega)))) | (with_reducible refine alloc_old ?_ ?_; (focus (first | omega | (simp; done) | (simp; omega)))) | (with_reducible refine boxed_old ?_ ?_; (focus (first | omega | (simp; done) | (simp; omega)))) | (with_reducible refine drew_old ?_)))) (by rfl) (by rfl) (by first | exact Cv.arr_one _ | exact Nv.arr_one _ | exact Av.arr_one rfl | exact Pv.arr_one _ | simp [Value.oneCell']) ?_))
  refine bodyPost_ret (results_row_tmp rfl _ _ (w.heap.size + 1 + 1 + 1) 32 _ (0, 0) _ rfl (boxed_at (by omega)) Tryz.underlying32 rfl (by exact info13)) rfl ?_
  exact ⟨rfl, boxed_below HW.out (by omega)⟩
end Go.Proofs.YtblikgbcakgdnaaGreat
/-
  One subscription, told something: what the account answers, and that its numbers stay small. No conditions but the sizes.
-/
namespace Go.Proofs.YtblikgbcakgdnaaGreat
set_option linter.unusedVariables false
set_option linter.unusedSimpArgs false
set_option maxRecDepth 100000
open Go.ChangeShapes Go.WideShapes Go.ChangeAt Go.RowKit

section
variable {M L : Int} {p : Pv} {y : Int} {s : Sv}
theorem Sta.lens (h : Sta M L p y s) (hL : L ≤ 9000) : s.l.length ≤ 9000 ∧ s.tell.l.length ≤ 9000 := by
  have h1 := h.len
  have h2 := opn_len s.l
  have h3 : s.tell.l = opn s.l := rfl
  rw [h3]
  omega
theorem Sta.fits (h : Sta M L p y s) (hM : M ≤ 100000000000) (hL : L ≤ 9000) : s.tell.Fit 10000 ∧ (∀ c ∈ s.tell.l, c.Fit) ∧ (∀ c ∈ s.tell.l, (Cv.over c).Fit) ∧ (∀ c ∈ s.tell.l, (Cv.card c).Fit) ∧ (-100000000000 ≤ s.cr ∧ s.cr ≤ 100000000000) := by
  have hl := (h.lens hL).1
  have hcr := h.ok.cr
  have mem : ∀ c ∈ s.tell.l, c ∈ s.l := fun c hc => (opn_mem hc).1
  exact ⟨(h.ok.fit hM).more (by omega), fun c hc => (h.ok.cs c (mem c hc)).fit hM, fun c hc => (h.ok.cs c (mem c hc)).over.fit hM, fun c hc => (h.ok.cs c (mem c hc)).card.fit hM, by omega⟩
theorem Sta.live (h : Sta M L p y s) (hst : s.st ≠ 3) : s.tell.live = true := by
  have e1 : s.tell.st = s.st := rfl
  unfold Av.live
  rw [e1]
  rcases h.ok.st with g | g | g
  · rw [g]; rfl
  · rw [g]; rfl
  · exact absurd g hst
theorem Sta.dead (hst : s.st = 3) : s.tell.live = false := by
  have e1 : s.tell.st = s.st := rfl
  unfold Av.live
  rw [e1, hst]; rfl
end
end Go.Proofs.YtblikgbcakgdnaaGreat
/-
  One subscription: another plan, days that go by, its first day. No conditions but the sizes.
-/
namespace Go.Proofs.YtblikgbcakgdnaaGreat
set_option linter.unusedVariables false
set_option linter.unusedSimpArgs false
set_option maxRecDepth 100000
open Go.ChangeShapes Go.WideShapes Go.ChangeAt Go.RowKit

section
variable {M L : Int} {p q : Pv} {y : Int} {s : Sv}
/-- A subscription that has just been opened. -/
def Sv.begun (pl an : Int) : Sv := ⟨1, pl, an, 0, 0, false, []⟩
theorem Sv.begun_sta {pl an : Int} (h0 : 0 ≤ an) (h1 : an ≤ 3652058) (hy : y < an) : Sta 0 0 p y (Sv.begun pl an) := by
  obtain ⟨k, d, hAt⟩ := Cal.at_of an h0 h1
  exact ⟨⟨.inl rfl, fun k c h => by simp [Sv.begun] at h, fun c h => by simp [Sv.begun] at h, by show absI 0 + 0 ≤ 0; decide, Int.le_refl _, Int.le_refl _⟩, Int.le_refl _, k, d, 0, hAt, Cal.Cnt.before hAt hy, fun _ => rfl, Int.le_refl _, Int.le_refl _⟩
theorem Sv.begun_tell (pl an : Int) : (Sv.begun pl an).tell = Av.opened pl an := rfl
end
end Go.Proofs.YtblikgbcakgdnaaGreat
/-
  What a book asks, and a new book: package book's Asks, New. No conditions but the sizes.
-/
namespace Go.Proofs.YtblikgbcakgdnaaGreat
set_option linter.unusedVariables false
set_option linter.unusedSimpArgs false
set_option maxRecDepth 100000
open Go.ChangeShapes Go.WideShapes Go.ChangeAt Go.RowKit

/-- What the first subscriptions ask. -/
def asksK (a : Nat → Av) : Nat → List Nv
  | 0 => []
  | n + 1 => asksK a n ++ asksOf (n : Int) (a n).l
theorem asksK_len {a : Nat → Av} {m : Nat} (h : ∀ k, k < 32 → (a k).l.length ≤ m) : ∀ n, n ≤ 32 → (asksK a n).length ≤ n * m
  | 0, _ => Nat.zero_le _
  | n + 1, hn => by
    have h1 := asksK_len h n (by omega)
    have h2 := asksOf_len (n : Int) (a n).l
    have h3 := h n (by omega)
    rw [asksK, List.length_append, Nat.add_mul]
    omega
/-- A book with nothing in it. -/
def Kb.new (td : Int) : Kb := { Kb.zero with td := td }
theorem Kb.new_built (td : Int) : Tryz.prog.built 35 [(0, .int .i64 td)] = some (Kb.new td).arr := by
  rw [Kb.arr_row, rowF_list]
  kernel_rfl
theorem Kb.new_one (td : Int) : (Kb.new td).One := ⟨rfl, fun _ _ => rfl⟩
set_option maxHeartbeats 4000000 in
theorem bknew_any (td : Int) (w : World) : Calls Tryz.prog 10 #[.int .i64 td] w fun e w' => e = .returned (.agg (Kb.new td).arr) ∧ Below w.heap.size w w' := by
  go_enter Tryz.func10, Tryz.ntmps10
  go_wp2_with (((with_reducible_and_instances (show wpList _ _ _ (Oper.mk _ (Op.build 35 _) _ _ _ _ :: _) _ _)); refine stop_here ?_))
  refine ⟨?_⟩
  refine wpList_buildTo rfl 35 _ rfl _ rfl _ (Eq.trans (congrArg (Program.built _ _) (by simp [Act.eval])) (Kb.new_built td)) ?_
  go_wp2_with (((with_reducible_and_instances (show wpList _ _ _ (Oper.mk _ (Op.store 35 _ _) _ _ _ _ :: _) _ _)); refine stop_here ?_))
  refine ⟨?_⟩
  refine wl_store (g := w.heap.size) Kb.info rfl rfl rfl rfl (alloc_at (by simp)) Kb.zero_size (Kb.arr_size _) (Kb.new_one td).arr ?_
  go_wp2_with fail
  refine bodyPost_ret (results_cell_row rfl _ _ (w.heap.size) 35 _ (0, 0) _ rfl (boxed_at (by simp)) Tryz.underlying35 rfl (by rw [Kb.arr_size]; exact Kb.info)) rfl ?_
  exact ⟨rfl, boxed_below ((Below.refl _ w).alloc (by first | exact Nat.le_refl _ | (simp; done) | (simp; omega)) _) (by omega)⟩
set_option maxHeartbeats 8000000 in
theorem bkasks_any {w : World} {b : Kb} {ps : List Pv} (h : KbM w 0 w.heap.size b ps) (hl : ∀ k, k < 32 → (b.a k).l.length ≤ 100000) : Calls Tryz.prog 12 #[.agg b.arr] w fun e w' => ∃ v', e = .returned v' ∧ w'.ownsRow w.heap.size 46 6 v' (asksK b.a 32).length (ncs (asksK b.a 32)) ∧ Below w.heap.size w w' := by
  have H := Lib.hid h
  have HL := Lib.hid hl
  clear h hl
  go_enter Tryz.func12, Tryz.ntmps12
  go_upto_region 2 with fail
  have B2 : (w.alloc (.cells b.arr 35)).heap[w.heap.size]? = some (.cells b.arr 35 (0, 0)) := alloc_at rfl
  go_wp2_with (((with_reducible_and_instances (show wpList _ _ _ (Oper.mk _ (Op.load 33 _) _ _ _ _ :: _) _ _)); refine stop_here ?_))
  refine ⟨?_⟩
  refine wpList_load_mid rfl _ _ rfl w.heap.size 2 rfl b.subs.toList _ (Kb.range_subs B2) Tryz.underlying33 rfl Kb.infos_l ?_
  rw [Array.toArray_toList]
  go_wp2_with fail
  go_loopw [3, 8] (fun sl i wq => ∃ (j : Nat) (v' : Value), j ≤ 32 ∧ i = .int .i64 j ∧ sl = v' ∧ Hid (Below w.heap.size w wq) ∧ Hid (wq.ownsRow (w.heap.size + 1) 46 6 v' (asksK b.a j).length (ncs (asksK b.a j)))) (fun _ i _ => 32 - (intOf i).toNat)
  case atStart => exact ⟨0, _, by omega, rfl, rfl, (Below.refl _ w).alloc (Nat.le_refl _) _, World.ownsRow_nil _ _ _ _⟩
  case round =>
    clear B2
    obtain ⟨j, v', hj, rfl, rfl, HW, HO⟩ := hrel
    have hzw := HW.out.size
    by_cases hlt : j < 32
    case neg =>
      obtain rfl : j = 32 := by omega
      have dlt : decide (((32 : Nat) : Int) < 32) = false := by decide
      obtain ⟨An, cn, hvn, _⟩ := own_form HO.out
      subst hvn
      go_wp2
      go_ret
      exact ⟨_, rfl, ⟨HO.out.1, HO.out.2.elim .inl fun ⟨g, cap, cur, h1, h2, h3⟩ => .inr ⟨g, cap, cur, h1, by omega, h3⟩⟩, HW.out⟩
    case pos =>
      have dlt : decide ((j : Int) < 32) = true := by simp; omega
      have q := fun w => Kb.run_index b hlt w
      have hln := HL.out j hlt
      have hcy := H.out.cs j hlt
      have hal := asksK_len HL.out j hj
      have hM1 : asksK b.a (j + 1) = asksK b.a j ++ asksOf (j : Int) (b.a j).l := rfl
      obtain ⟨M, hM⟩ : ∃ M, asksK b.a j = M := ⟨_, rfl⟩
      rw [hM] at HO hal hM1
      have HM1 := Lib.hid hM1
      obtain ⟨a, ha⟩ : ∃ a, b.a j = a := ⟨_, rfl⟩
      obtain ⟨v, hv⟩ : ∃ v, b.v j = v := ⟨_, rfl⟩
      rw [ha, hv] at q hcy
      rw [ha] at hln HM1
      have HCY := Lib.hid hcy
      have hv1 : v.oneCell' = true := by obtain ⟨A, c, he, _⟩ := hcy; rw [he]; rfl
      obtain ⟨An, cn, hvn, _⟩ := own_form HO.out
      subst hvn
      have hjI : (j : Int) < 32 := by omega
      have hjJ : (0 : Int) ≤ (j : Int) := by omega
      clear ha hv hcy hM hM1
      go_wp2_with (((with_reducible_and_instances (show wpList _ _ _ (Oper.mk _ (Op.store 32 _ _) _ _ _ _ :: _) _ _)); refine stop_here ?_))
      refine ⟨?_⟩
      refine wl_store (g := wr.heap.size) info13 rfl rfl rfl rfl (alloc_at rfl) rfl rfl (Av.arr_one hv1) ?_
      obtain ⟨W3, hW3⟩ : ∃ W3, boxed (wr.alloc (.cells #[.int .u8 0, .int .i64 0, .int .i64 0, .int .i64 0, .int .i64 0, .int .i64 0, .bool false, .slice none 0 0, .int .i64 0, .int .i64 0, .int .i64 0, .int .i64 0, .int .i64 0] 32)) wr.heap.size (a.arr v) 32 = W3 := ⟨_, rfl⟩
      have s2 : W3.heap[wr.heap.size]? = some (.cells (a.arr v) 32 (0, 0)) := by rw [← hW3]; exact boxed_at (by simp)
      have hV3 : Below w.heap.size w W3 := by rw [← hW3]; exact boxed_below (HW.out.alloc HW.out.size _) (by omega)
      have HO3 : Hid (W3.ownsRow (w.heap.size + 1) 46 6 (.slice An M.length cn) M.length (ncs M)) := own_kept HO.out fun i hi => by
        have := (HO.out.lt i hi).2
        rw [← hW3, boxed_block_other (by omega), alloc_block_old this]
      rw [hW3]
      have hs3 : w.heap.size + 1 ≤ W3.heap.size := by rw [← hW3]; simp; omega
      obtain ⟨ab, hab⟩ : ∃ ab, wr.heap.size = ab := ⟨_, rfl⟩
      rw [hab] at s2 ⊢
      clear hW3 hab q HO HW hzw wr
      go_wp2_with (((with_reducible_and_instances (show wpList _ _ _ (Oper.mk _ (Op.load 32 _) _ _ _ _ :: _) _ _)); refine stop_here ?_))
      refine ⟨?_⟩
      refine wl_load (cs := a.arr v) (fr := (0, 0)) (g := ab) Tryz.underlying32 rfl info13 rfl rfl rfl s2 rfl ?_
      go_wp2_with fail
      refine (asks_any (a := a) (j : Int) ((HCY.out.kept fun i _ h2 => hV3.block i h2).more (Nat.le_refl _) hV3.size) hln).mono ?_
      rintro e W4 ⟨v4, rfl, ho4, hb4⟩
      have HV4 : Hid (Below w.heap.size w W4) := hV3.trans (hb4.mono hV3.size)
      have hs4 := hb4.size
      have HO4 : Hid (W4.ownsRow (w.heap.size + 1) 46 6 (.slice An M.length cn) M.length (ncs M)) := own_kept HO3.out fun i hi => hb4.block i (HO3.out.lt i hi).2
      have hla := asksOf_len (j : Int) a.l
      clear hb4 hV3 HO3
      go_wp2_with (at_builtin; refine stop_here ?_)
      refine ⟨?_⟩
      refine wpList_append_nvs nyty rfl _ _ rfl (l0 := M) (l := asksOf (j : Int) a.l) (base := w.heap.size + 1) (b := W3.heap.size) (B := W4.heap.size) rfl rfl HO4.out (Nvs.own ho4) (by omega) (by omega) ?_
      intro v5 w5 ho5 hg5 hat5
      rw [← HM1.out] at ho5
      obtain ⟨A5, c5, hv5, _, _⟩ := own_form ho5
      subst hv5
      have HO5 := Lib.hid ho5
      have HW5 : Hid (Below w.heap.size w w5) := by
        have hq := HV4.out
        refine ⟨hg5.os.trans hq.os, hg5.tape.trans hq.tape, hg5.output.trans hq.output, by have := hg5.size; omega, fun i hi => ?_⟩
        rw [hg5.block i (by omega) (fun e => by have := (HO4.out.lt _ e.symm).1; omega)]
        exact hq.block i hi
      clear hg5 hat5 ho5 ho4 HO4 HV4
      go_wp2_with fail
      go_roundw
      case rel => exact ⟨j + 1, _, by omega, by go_num, rfl, HW5, HO5.out⟩
      case measure => simp [intOf]; omega
end Go.Proofs.YtblikgbcakgdnaaGreat
