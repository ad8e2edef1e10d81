/-
  The document's own Step: days that pass. No conditions but the sizes.
-/
import Derived.Deep.MidRow
import Derived.Maps.AppendAt
import Derived.WalkSpells
import Derived.Test.YtnbfkdcpghkglaaPb03
import Derived.Test.YtnbfkdcpghkglaaPb04
import Derived.Test.YtnbfkdcpghkglaaPb14
import Derived.Test.YtnbfkdcpghkglaaPb17
import Derived.Test.YtnbfkdcpghkglaaPb21
import Derived.Test.YtnbfkdcpghkglaaPb23
set_option linter.unusedSimpArgs false
set_option linter.unusedVariables false
namespace Go.Proofs.Ytnbfkdcpghkglaa
set_option maxRecDepth 100000
open Go.ChangeShapes Go.WideShapes Go.ChangeAt Go.RowKit

section
variable {P : Program} {l : List Oper} {S : World → Prop} {Q : Exit → Act → World → Prop} {t : Nat}
/-- t waits for i. -/
def tWaits (l : List Oper) (t i : Nat) : Bool := match l[t]? with
  | some o => o.after.toList.any fun e => Region.binds .any e && e.on == i
  | none => true
theorem tWaits_spec {i : Nat} (h : tWaits l t i = true) : ∀ o, l.toArray[t]? = some o → i ≠ t → ∃ e ∈ o.after, Region.binds .any e = true ∧ e.on = i := by
  intro o ho _
  have ho' : l[t]? = some o := by simpa using ho
  unfold tWaits at h
  simp only [ho', List.any_eq_true, Bool.and_eq_true, beq_iff_eq] at h
  obtain ⟨e, he, hb, hon⟩ := h
  exact ⟨e, by simpa using he, hb, hon⟩
theorem laneT_take1 {i : Nat} {o : Oper} {done ord : List Nat} {a : Act} {w : World} {v : Value} (ho : l[i]? = some o) (hf : laneFree l done i = true) (hs : (Region.noSelect l.toArray && tWaits l t i && !(i == t)) = true) (hw : Region.wanted o (yielded l.toArray a.tmps) = true)
    (hv : ∀ w, S w → (execOp a.eval o).run P w = .ok (.value v) w) (hS : S w) (h : LaneT P l S (NoPanic Q) t (i :: done) ord (a.put o.dst v) w) : LaneT P l S (NoPanic Q) t done (i :: ord) a w := by
  unfold laneFree at hf
  simp only [Bool.and_eq_true, Bool.not_eq_true', beq_eq_false_iff_ne] at hf hs
  exact end_first (by simpa using ho) (Region.noSelect_spec hs.1.1) (fun _ _ _ h => h) (tWaits_spec hs.1.2) hs.2 _ _ _ _ (Region.free_spec (by simpa using ho) hf.1) (by simpa using hf.2) (.inl ⟨hw, hv⟩) hS h
/-- Two operations may come up: each is walked. -/
theorem laneT_two {i j : Nat} {oi oj : Oper} {done ordI ordJ : List Nat} {a : Act} {w : World} (hoi : l[i]? = some oi) (hoj : l[j]? = some oj) (hr : (Region.ready .any l.toArray (cameUp l done) == [i, j]) = true) (hlen : ordI.length = ordJ.length)
    (hwi : Region.wanted oi (yielded l.toArray a.tmps) = true) (hwj : Region.wanted oj (yielded l.toArray a.tmps) = true)
    (hi : ∀ K : Act → World → Prop, (∀ a' w', (i ≠ t → S w') → LaneT P l S (NoPanic Q) t (i :: done) ordI a' w' → K a' w') → oi.wp P a w K (NoPanic Q))
    (hj : ∀ K : Act → World → Prop, (∀ a' w', (j ≠ t → S w') → LaneT P l S (NoPanic Q) t (j :: done) ordJ a' w' → K a' w') → oj.wp P a w K (NoPanic Q)) : LaneT P l S (NoPanic Q) t done (i :: ordI) a w := by
  have hready : Region.ready .any l.toArray (cameUp l done) = [i, j] := by simpa using hr
  refine ⟨fun h0 => (by rw [hready] at h0; cases h0), fun k hk => ?_⟩
  rw [hready] at hk
  unfold wpOp
  rcases List.mem_cons.1 hk with rfl | hk
  · have h2 : l.toArray[k]? = some oi := by simpa using hoi
    simp only [h2, hwi, if_true]
    exact .inl (hi _ fun a' w' hS hn => ⟨hS, hn⟩)
  · obtain rfl : k = j := by simpa using hk
    have h2 : l.toArray[k]? = some oj := by simpa using hoj
    simp only [h2, hwj, if_true]
    refine .inl (hj _ fun a' w' hS hn => ⟨hS, ?_⟩)
    unfold LaneT at hn
    rw [← hlen] at hn
    exact hn
end
/-- The book behind so many subscriptions' days. -/
def Bk.mid (b : Bk) (y : Int) (D : Nat → Sv) (vv : Nat → Value) (j : Nat) : Bk := { td := y, vp := b.vp, s := fun k => if k < j then D k else b.s k, v := fun k => if k < j then vv k else b.v k }
theorem Bk.mid_zero (b : Bk) (y : Int) (D : Nat → Sv) (vv : Nat → Value) : b.mid y D vv 0 = { b with td := y } := by
  unfold Bk.mid
  congr 1
theorem Bk.mid_at (b : Bk) (y : Int) (D : Nat → Sv) (vv : Nat → Value) (j : Nat) : (b.mid y D vv j).s j = b.s j ∧ (b.mid y D vv j).v j = b.v j := ⟨if_neg (Nat.lt_irrefl _), if_neg (Nat.lt_irrefl _)⟩
theorem Bk.mid_next (b : Bk) (y : Int) (D : Nat → Sv) (vv : Nat → Value) (j : Nat) (v' : Value) : (b.mid y D vv j).put j (D j) v' = b.mid y D (fun k => if k = j then v' else vv k) (j + 1) := by
  unfold Bk.mid Bk.put
  simp only [Bk.mk.injEq, true_and]
  constructor
  · funext k
    by_cases h : k = j
    · subst h; simp
    · by_cases h2 : k < j
      · rw [if_neg h, if_pos h2, if_pos (by omega)]
      · rw [if_neg h, if_neg h2, if_neg (by omega)]
  · funext k
    by_cases h : k = j
    · subst h; simp
    · by_cases h2 : k < j
      · rw [if_neg h, if_pos h2, if_pos (by omega), if_neg h]
      · rw [if_neg h, if_neg h2, if_neg (by omega)]
theorem Bk.mid_same (b : Bk) (y : Int) (D : Nat → Sv) (vv : Nat → Value) (j : Nat) (h : D j = b.s j) : b.mid y D vv j = b.mid y D (fun k => if k = j then b.v j else vv k) (j + 1) := by
  rw [← Bk.mid_next, h]
  unfold Bk.mid Bk.put
  simp only [Bk.mk.injEq, true_and]
  constructor
  · funext k
    by_cases e : k = j
    · subst e; simp
    · rw [if_neg e]
  · funext k
    by_cases e : k = j
    · subst e; simp
    · rw [if_neg e]
/-- A subscription of which a day may come. -/
structure Comes (ps : List Pv) (y : Int) (s d' : Sv) : Prop where
  ex : ∃ (p : Pv) (pk : Nat) (k d : Int), s.pl = (pk : Int) ∧ ps[pk]? = some p ∧ Cal.At s.an k d ∧ (0 ≤ p.u ∧ p.u ≤ 3) ∧ (1 ≤ p.e ∧ p.e ≤ 1000) ∧ (0 ≤ p.a ∧ p.a ≤ 100000000000) ∧ d' = Sv.day (Cal.nth s.an k d p.u p.e) p y s
  ix : 0 ≤ s.ix ∧ s.ix ≤ 15000
  len : s.l.length ≤ 500000
  cr : -100000000000 ≤ s.cr ∧ s.cr ≤ 100000000000
  us : ∀ c ∈ s.l, (-1000000000000 ≤ c.u ∧ c.u ≤ 1000000000000) ∧ 0 ≤ c.t ∧ c.t ≤ 1000
set_option maxHeartbeats 8000000 in
theorem step_pass {w : World} {b : Bk} {ps : List Pv} {n : Int} {D : Nat → Sv} (hone : b.One) (hps : Pls w w.heap.size b.vp ps) {b0 c0 : Nat → Nat} (hc0 : ∀ k, k < 32 → c0 k ≤ w.heap.size) (hrd : ∀ k, k < 32 → Cys w (b0 k) (c0 k) (b.v k) (b.s k).l) (hn : 0 ≤ b.td + n ∧ b.td + n ≤ 3652058)
    (h0 : ∀ k, k < 32 → (b.s k).st = 0 → D k = b.s k) (h1 : ∀ k, k < 32 → (b.s k).st ≠ 0 → Comes ps (b.td + n) (b.s k) (D k)) :
    Calls Try.prog 32 #[.agg b.arr, .agg #[.int .u8 9, .int .i64 0, .int .i64 0, .int .i64 n, .int .i64 0, .int .u8 0, .int .i64 0, .int .i64 0, .bool false, .bool false, .int .u8 0, .int .i64 0, .int .i64 0, .int .i64 0, .int .i64 0, .int .u8 0]] w fun e w' => ∃ vv, e = .returned (.tuple #[.agg (b.mid (b.td + n) D vv 32).arr, .int .i64 0]) ∧ (∀ k, k < 32 → Cys w' (b0 k) (c0 k) (vv k) (D k).l ∨ Cys w' w.heap.size w'.heap.size (vv k) (D k).l) ∧ Below w.heap.size w w' := by
  obtain ⟨pA, pc, hvp, hpc0, hpc1, hpr⟩ := hps
  have HPR := Lib.hid hpr
  have HRD := Lib.hid hrd
  have H0 := Lib.hid h0
  have H1 := Lib.hid h1
  have HON := Lib.hid hone
  have HVP := Lib.hid hvp
  have HC0 := Lib.hid hc0
  have ew : wrap64 (b.td + n) = b.td + n := by unfold wrap64; omega
  have dg : decide (b.td + n > 3652058) = false := by simp; omega
  have dg' : decide (3652058 < b.td + n) = false := by simp; omega
  clear hpr hrd h0 h1 hone hvp hc0
  go_enter Try.func32, Try.ntmps32
  go_wp2
  go_loopw [7] (fun ii wq => ∃ (j : Nat) (vv : Nat → Value), j ≤ 32 ∧ ii = .int .i64 j ∧ Hid (Below w.heap.size w wq) ∧ Hid (wq.heap[w.heap.size]? = some (.cells (b.mid (b.td + n) D vv j).arr 73 (0, 0))) ∧ Hid (wq.heap[w.heap.size + 1 + 1]? = some (.cells Try.zeroCells73 73 (0, 0))) ∧ Hid (∀ k, k < j → (vv k).oneCell' = true ∧ (Cys wq (b0 k) (c0 k) (vv k) (D k).l ∨ Cys wq (w.heap.size + 1 + 1 + 1) wq.heap.size (vv k) (D k).l))) (fun ii _ => 32 - (intOf ii).toNat)
  case atStart =>
    refine ⟨0, b.v, by omega, rfl, (((Below.refl _ w).alloc (Nat.le_refl _) _).alloc (by simp) _).alloc (by simp; omega) _, ?_, alloc_at (by simp), fun k hk => absurd hk (Nat.not_lt_zero k)⟩
    rw [Bk.mid_zero]
    exact alloc_old (by simp; omega) (alloc_old (by simp) (alloc_at rfl))
  case round =>
    obtain ⟨j, vv, hj, rfl, HW, HB, HZ, HC⟩ := hrel
    have hz2 : w.heap.size + 1 + 1 < wr.heap.size := (Array.getElem?_eq_some_iff.1 HZ.out).1
    have hz0 : w.heap.size < wr.heap.size := by omega
    by_cases hlt : j < 32
    case neg =>
      obtain rfl : j = 32 := by omega
      have dlt : decide (((32 : Nat) : Int) < 32) = false := by decide
      have hb2 : (b.mid (b.td + n) D vv 32).arr.all (·.oneCell') = true := Bk.arr_one HON.out.1 (fun k hk => by
        show (if k < 32 then vv k else b.v k).oneCell' = true
        rw [if_pos hk]; exact (HC.out k hk).1)
      have hB := HB.out
      have hZ := HZ.out
      clear hlt hj
      go_wp2_with (((with_reducible_and_instances (show wpList _ _ _ (Oper.mk _ (Op.load 73 _ ) _ _ _ _ :: _) _ _)); refine stop_here ?_))
      refine ⟨?_⟩
      refine wl_load (cs := (b.mid (b.td + n) D vv 32).arr) (fr := (0, 0)) (g := w.heap.size) Try.underlying73 rfl Bk.info rfl rfl rfl hB (Bk.arr_size _) ?_
      go_wp2_with (((with_reducible_and_instances (show wpList _ _ _ (Oper.mk _ (Op.store 73 _ _ ) _ _ _ _ :: _) _ _)); refine stop_here ?_))
      refine ⟨?_⟩
      refine wl_store (g := w.heap.size + 1 + 1) Bk.info rfl rfl rfl rfl hZ Bk.zero_size (Bk.arr_size _) hb2 ?_
      go_wp2_with (fail)
      refine bodyPost_ret (results_row_tmp rfl _ _ (w.heap.size + 1 + 1) 73 _ (0, 0) _ rfl (boxed_at hz2) Try.underlying73 rfl (by rw [Bk.arr_size]; exact Bk.info)) rfl ?_
      refine ⟨vv, rfl, fun k hk => ?_, boxed_below HW.out (by omega)⟩
      have hck := HC0.out k hk
      rcases (HC.out k hk).2 with h | h
      · exact .inl (h.kept fun i _ h2 => boxed_block_other (by omega))
      · exact .inr ((h.kept fun i h2 _ => boxed_block_other (by omega)).more (by omega) (by simp))
    have dlt : decide ((j : Int) < 32) = true := by simp; omega
    have k0 : (0 : Int) ≤ (j : Int) := by omega
    have k1 : (j : Int) < 32 := by omega
    obtain ⟨s, hs⟩ : ∃ s, b.s j = s := ⟨_, rfl⟩
    obtain ⟨v, hv⟩ : ∃ v, b.v j = v := ⟨_, rfl⟩
    have HSS := Lib.hid hs
    have HVV := Lib.hid hv
    have hmid := Bk.mid_at b (b.td + n) D vv j
    rw [hs, hv] at hmid
    have HMID := Lib.hid hmid
    have HCF : Hid (∀ W : World, W.heap[w.heap.size]? = some (.cells (b.mid (b.td + n) D vv j).arr 73 (0, 0)) → W.cell? ⟨w.heap.size, 0, none⟩ = some (.int .i64 (b.td + n)) ∧ W.cell? ⟨w.heap.size, 1, none⟩ = some b.vp ∧ W.cell? ⟨w.heap.size, 2 + j * 7 + 1, none⟩ = some (.int .i64 s.pl)) := fun W hW => by
      refine ⟨(cell_of_row _ _ _ _ _ _ hW).trans (Bk.at0 _), (cell_of_row _ _ _ _ _ _ hW).trans (Bk.at1 _), Bk.cell hW hlt (by omega) ?_⟩
      rw [HMID.out.1, HMID.out.2]; rfl
    have x00 : wr.cell? ⟨w.heap.size, 2 + j * 7, none⟩ = some (.int .u8 s.st) := Bk.cell (j := 0) HB.out hlt (by omega) (by rw [HMID.out.1, HMID.out.2]; rfl)
    clear hs hv hmid
    by_cases hst : s.st = 0
    · have d0 : (s.st != 0) = false := by rw [hst]; rfl
      have d1 : (s.st == 0) = true := by rw [hst]; rfl
      have hDj : D j = b.s j := H0.out j hlt (by rw [HSS.out]; exact hst)
      have HDJ := Lib.hid hDj
      clear hst hDj
      go_wp2
      go_roundw
      case rel =>
        refine ⟨j + 1, fun k => if k = j then b.v j else vv k, by omega, by go_num, HW, ?_, HZ, fun k hk => ?_⟩
        · rw [← Bk.mid_same _ _ _ _ _ HDJ.out]; exact HB
        · by_cases e : k = j
          · subst e
            show (if k = k then b.v k else vv k).oneCell' = true ∧ (Cys wr (b0 k) (c0 k) (if k = k then b.v k else vv k) (D k).l ∨ _)
            rw [if_pos rfl, HDJ.out]
            have hck := HC0.out k hlt
            exact ⟨HON.out.2 k hlt, .inl ((HRD.out k hlt).kept fun i _ h2 => HW.out.block i (by omega))⟩
          · show (if k = j then b.v j else vv k).oneCell' = true ∧ (Cys wr (b0 k) (c0 k) (if k = j then b.v j else vv k) (D k).l ∨ Cys wr (w.heap.size + 1 + 1 + 1) wr.heap.size (if k = j then b.v j else vv k) (D k).l)
            rw [if_neg e]
            exact HC.out k (by omega)
      case measure => simp [intOf]; omega
    · have d0 : (s.st != 0) = true := by simpa using hst
      have d1 : (s.st == 0) = false := by simpa using hst
      have hcm := H1.out j hlt (by rw [HSS.out]; exact hst)
      rw [HSS.out] at hcm
      obtain ⟨P, pk, kk, d, hpl, hP, hAt, hU, hE, hPa, hD⟩ := hcm.ex
      have hix := hcm.ix
      have hln := hcm.len
      have hcr := hcm.cr
      have hus := hcm.us
      obtain ⟨pg, po, hpA, hpg, hrP⟩ := HPR.out pk P hP
      have hpk : pk < ps.length := (List.getElem?_eq_some_iff.1 hP).1
      have hvp : b.vp = .slice (some ⟨pg, po, none⟩) ps.length pc := by rw [HVP.out, hpA]
      have p0 : (0 : Int) ≤ (pk : Int) := by omega
      have p1 : (pk : Int) < (ps.length : Int) := by omega
      have hone1 : v.oneCell' = true := by rw [← HVV.out]; exact HON.out.2 j hlt
      have hc0j := HC0.out j hlt
      have hcl : Cys w (b0 j) (c0 j) v s.l := by have := HRD.out j hlt; rw [HSS.out, HVV.out] at this; exact this
      have HRP : Hid (wr.rangeAt pg (po + pk * 6) P.arr.toList) := fun q u hu => (World.cell?_of_block (a := ⟨pg, po + pk * 6 + q, none⟩) (HW.out.block pg hpg)).trans (hrP q u hu)
      have HDAY : Hid (∀ W : World, Below w.heap.size w W → Calls Try.prog 22 #[.agg (s.arr v), .agg P.arr, .int .i64 (b.td + n)] W fun e w' => ∃ v', e = .returned (.agg ((D j).arr v')) ∧ (Cys w' (b0 j) (c0 j) v' (D j).l ∨ Cys w' W.heap.size w'.heap.size v' (D j).l) ∧ Below W.heap.size W w') := fun W hW => by
        rw [hD]
        exact refday_any hAt hU hE hix hPa (hcl.kept fun i _ h2 => hW.block i (by omega)) (by have := hW.size; omega) hln hcr hus
      have HPL := Lib.hid hpl
      rw [hvp, hpl] at HCF
      clear hst hcm hpl hP hAt hU hE hPa hD hix hln hcr hus hrP hpA hvp hcl
      go_wp2
      have HS0 : Hid ((fun w' : World => w'.heap[w.heap.size]? = some (.cells (b.mid (b.td + n) D vv j).arr 73 (0, 0)) ∧ w'.rangeAt pg (po + pk * 6) P.arr.toList) wr.drew) := ⟨HB.out, (World.rangeAt_drew _ _ _ _).2 HRP.out⟩
      refine laneT_start (ord := [0, 1, 2, 3, 4, 5, 6, 7, 8, 9, 10, 11, 12, 13, 14, 15, 16, 17, 18, 19]) (t := 19) (S := (fun w' : World => w'.heap[w.heap.size]? = some (.cells (b.mid (b.td + n) D vv j).arr 73 (0, 0)) ∧ w'.rangeAt pg (po + pk * 6) P.arr.toList)) rfl (by kernel_rfl) ?_
      iterate 4 (refine laneT_take1 (v := ?_) rfl (by kernel_rfl) (by kernel_rfl) (by rfl) ?_ (by exact HS0.out) ?_; rotate_left; (focus (intro W hSw; have x0 := HCF.out W hSw.1; obtain ⟨x1, x2, x3⟩ := x0; go_simp; try (with_reducible rfl))); simp only [Act.put, List.setIfInBounds_toArray, List.set_cons_zero, List.set_cons_succ])
      refine laneT_take1 (v := .agg (s.arr v)) rfl (by kernel_rfl) (by kernel_rfl) (by rfl) (fun W hSw => exec_load rfl rfl (by
        have h9 := run_loadAt_mid (P := Try.prog) W (w.heap.size) (2 + j * 7) 36 _ _ (Bk.range hSw.1 hlt) Try.underlying36 rfl info7s
        rw [Array.toArray_toList, HMID.out.1, HMID.out.2] at h9
        exact h9)) (by exact HS0.out) ?_
      simp only [Act.put, List.setIfInBounds_toArray, List.set_cons_zero, List.set_cons_succ]
      iterate 8 (refine laneT_take1 (v := ?_) rfl (by kernel_rfl) (by kernel_rfl) (by rfl) ?_ (by exact HS0.out) ?_; rotate_left; (focus (intro W hSw; have x0 := HCF.out W hSw.1; obtain ⟨x1, x2, x3⟩ := x0; go_simp; try (with_reducible rfl))); simp only [Act.put, List.setIfInBounds_toArray, List.set_cons_zero, List.set_cons_succ])
      refine laneT_take1 (v := .agg P.arr) rfl (by kernel_rfl) (by kernel_rfl) (by rfl) (fun W hSw => exec_load rfl rfl (by
        have h9 := run_loadAt_mid (P := Try.prog) W pg (po + pk * 6) 26 _ _ hSw.2 Try.underlying26 rfl info6p
        rw [Array.toArray_toList] at h9
        exact h9)) (by exact HS0.out) ?_
      simp only [Act.put, List.setIfInBounds_toArray, List.set_cons_zero, List.set_cons_succ]
      iterate 2 (refine laneT_take1 (v := ?_) rfl (by kernel_rfl) (by kernel_rfl) (by rfl) ?_ (by exact HS0.out) ?_; rotate_left; (focus (intro W hSw; have x0 := HCF.out W hSw.1; obtain ⟨x1, x2, x3⟩ := x0; go_simp; try (with_reducible rfl))); simp only [Act.put, List.setIfInBounds_toArray, List.set_cons_zero, List.set_cons_succ])
      refine laneT_two (i := 16) (j := 17) (ordI := [17, 18, 19]) (ordJ := [16, 18, 19]) rfl rfl (by kernel_rfl) rfl (by rfl) (by rfl) (fun K hK => ?_) (fun K hK => ?_)
      · go_simp
        refine (HDAY.out _ HW.out.drew).mono ?_
        rintro e w2 ⟨v2, rfl, hc2, hb2⟩
        have hb2 : Below wr.heap.size wr w2 := (Below.refl _ wr).drew.trans hb2
        have hB2 : w2.heap[w.heap.size]? = some (.cells (b.mid (b.td + n) D vv j).arr 73 (0, 0)) := below_block hb2 HB.out
        have hr2 : w2.rangeAt pg (po + pk * 6) P.arr.toList := fun q u hu => (World.cell?_of_block (a := ⟨pg, po + pk * 6 + q, none⟩) (hb2.block pg (by omega))).trans (HRP.out q u hu)
        refine hK _ _ (fun _ => ⟨hB2, hr2⟩) ?_
        clear hK K
        have HBB2 := Lib.hid hb2
        have HB2 := Lib.hid hB2
        have HR2 := Lib.hid hr2
        have HC2 : Hid (Cys w2 (b0 j) (c0 j) v2 (D j).l ∨ Cys w2 wr.heap.size w2.heap.size v2 (D j).l) := hc2
        clear hb2 hB2 hr2 hc2
        refine laneT_alone rfl (by kernel_rfl) (by rfl) (fun K hK => ?_)
        go_simp
        refine hK _ _ (fun _ => ⟨HB2.out, HR2.out⟩) ?_
        clear hK K
        refine laneT_alone rfl (by kernel_rfl) (by rfl) (fun K hK => ?_)
        go_simp
        refine hK _ _ (fun _ => ⟨HB2.out, HR2.out⟩) ?_
        clear hK K
        refine laneT_alone rfl (by kernel_rfl) (by rfl) (fun K hK => ?_)
        have hz9 := HBB2.out.size
        have hv21 : v2.oneCell' = true := by
          rcases HC2.out with h | h
          · obtain ⟨_, _, rfl, _⟩ := h; rfl
          · obtain ⟨_, _, rfl, _⟩ := h; rfl
        have e9 := boxed_self HB2.out
        rw [e9]
        refine wp_store_mid _ _ _ rfl (w.heap.size) (2 + j * 7) ((D j).arr v2) rfl rfl (Bk.there (by omega) hlt) info7s (Sv.arr_one hv21) ?_
        rw [Bk.store, Bk.mid_next]
        refine hK _ _ (fun h => absurd rfl h) ?_
        clear hK K e9
        refine laneT_end (by kernel_rfl) ?_
        go_wp2
        go_roundw
        case rel =>
          refine ⟨j + 1, fun k => if k = j then v2 else vv k, by omega, by go_num, boxed_below (HW.out.trans (HBB2.out.mono HW.out.size)) (Nat.le_refl _), boxed_at (by omega), boxed_old (by omega) ((HBB2.out.block _ hz2).trans HZ.out), fun k hk => ?_⟩
          by_cases e : k = j
          · subst e
            show (if k = k then v2 else vv k).oneCell' = true ∧ (Cys _ (b0 k) (c0 k) (if k = k then v2 else vv k) (D k).l ∨ Cys _ (w.heap.size + 1 + 1 + 1) _ (if k = k then v2 else vv k) (D k).l)
            rw [if_pos rfl]
            have hck := HC0.out k (by omega)
            refine ⟨hv21, HC2.out.imp (fun h => h.kept fun i _ h9 => boxed_block_other (by omega)) (fun h => (h.kept fun i h8 h9 => boxed_block_other (by omega)).more (by omega) (by simp))⟩
          · show (if k = j then v2 else vv k).oneCell' = true ∧ (Cys _ (b0 k) (c0 k) (if k = j then v2 else vv k) (D k).l ∨ Cys _ (w.heap.size + 1 + 1 + 1) _ (if k = j then v2 else vv k) (D k).l)
            rw [if_neg e]
            have h9 := HC.out k (by omega)
            have hck := HC0.out k (by omega)
            refine ⟨h9.1, h9.2.imp (fun h => h.kept fun i _ h9 => (boxed_block_other (by omega)).trans (HBB2.out.block i (by omega))) (fun h => (h.kept fun i h8 h9 => (boxed_block_other (by omega)).trans (HBB2.out.block i h9)).more (Nat.le_refl _) (by simp; exact HBB2.out.size))⟩
        case measure => simp [intOf]; omega
      · go_simp
        refine hK _ _ (fun _ => HS0.out) ?_
        clear hK K
        refine laneT_alone rfl (by kernel_rfl) (by rfl) (fun K hK => ?_)
        go_simp
        refine (HDAY.out _ HW.out.drew).mono ?_
        rintro e w2 ⟨v2, rfl, hc2, hb2⟩
        have hb2 : Below wr.heap.size wr w2 := (Below.refl _ wr).drew.trans hb2
        have hB2 : w2.heap[w.heap.size]? = some (.cells (b.mid (b.td + n) D vv j).arr 73 (0, 0)) := below_block hb2 HB.out
        have hr2 : w2.rangeAt pg (po + pk * 6) P.arr.toList := fun q u hu => (World.cell?_of_block (a := ⟨pg, po + pk * 6 + q, none⟩) (hb2.block pg (by omega))).trans (HRP.out q u hu)
        refine hK _ _ (fun _ => ⟨hB2, hr2⟩) ?_
        clear hK K
        have HBB2 := Lib.hid hb2
        have HB2 := Lib.hid hB2
        have HR2 := Lib.hid hr2
        have HC2 : Hid (Cys w2 (b0 j) (c0 j) v2 (D j).l ∨ Cys w2 wr.heap.size w2.heap.size v2 (D j).l) := hc2
        clear hb2 hB2 hr2 hc2
        refine laneT_alone rfl (by kernel_rfl) (by rfl) (fun K hK => ?_)
        go_simp
        refine hK _ _ (fun _ => ⟨HB2.out, HR2.out⟩) ?_
        clear hK K
        refine laneT_alone rfl (by kernel_rfl) (by rfl) (fun K hK => ?_)
        have hz9 := HBB2.out.size
        have hv21 : v2.oneCell' = true := by
          rcases HC2.out with h | h
          · obtain ⟨_, _, rfl, _⟩ := h; rfl
          · obtain ⟨_, _, rfl, _⟩ := h; rfl
        have e9 := boxed_self HB2.out
        rw [e9]
        refine wp_store_mid _ _ _ rfl (w.heap.size) (2 + j * 7) ((D j).arr v2) rfl rfl (Bk.there (by omega) hlt) info7s (Sv.arr_one hv21) ?_
        rw [Bk.store, Bk.mid_next]
        refine hK _ _ (fun h => absurd rfl h) ?_
        clear hK K e9
        refine laneT_end (by kernel_rfl) ?_
        go_wp2
        go_roundw
        case rel =>
          refine ⟨j + 1, fun k => if k = j then v2 else vv k, by omega, by go_num, boxed_below (HW.out.trans (HBB2.out.mono HW.out.size)) (Nat.le_refl _), boxed_at (by omega), boxed_old (by omega) ((HBB2.out.block _ hz2).trans HZ.out), fun k hk => ?_⟩
          by_cases e : k = j
          · subst e
            show (if k = k then v2 else vv k).oneCell' = true ∧ (Cys _ (b0 k) (c0 k) (if k = k then v2 else vv k) (D k).l ∨ Cys _ (w.heap.size + 1 + 1 + 1) _ (if k = k then v2 else vv k) (D k).l)
            rw [if_pos rfl]
            have hck := HC0.out k (by omega)
            refine ⟨hv21, HC2.out.imp (fun h => h.kept fun i _ h9 => boxed_block_other (by omega)) (fun h => (h.kept fun i h8 h9 => boxed_block_other (by omega)).more (by omega) (by simp))⟩
          · show (if k = j then v2 else vv k).oneCell' = true ∧ (Cys _ (b0 k) (c0 k) (if k = j then v2 else vv k) (D k).l ∨ Cys _ (w.heap.size + 1 + 1 + 1) _ (if k = j then v2 else vv k) (D k).l)
            rw [if_neg e]
            have h9 := HC.out k (by omega)
            have hck := HC0.out k (by omega)
            refine ⟨h9.1, h9.2.imp (fun h => h.kept fun i _ h9 => (boxed_block_other (by omega)).trans (HBB2.out.block i (by omega))) (fun h => (h.kept fun i h8 h9 => (boxed_block_other (by omega)).trans (HBB2.out.block i h9)).more (Nat.le_refl _) (by simp; exact HBB2.out.size))⟩
        case measure => simp [intOf]; omega
end Go.Proofs.Ytnbfkdcpghkglaa
/-
  Lists of notices in memory: a slice that reads as notices, nil let in; one notice more, one loaded. No conditions but the sizes.
-/
namespace Go.Proofs.Ytnbfkdcpghkglaa
set_option maxRecDepth 20000
open Go.ChangeShapes Go.WideShapes Go.ChangeAt Go.RowKit

/-- The types of a list of cycles. -/
structure NyTy (T E : TypeId) : Prop where
  row : Try.prog.underlying T = some (.slice E)
  one : ∃ d, Try.prog.underlying E = some d ∧ d.isRow = true
  info : (Try.prog.info? E).map (fun i => (i.zero, i.size, i.bytes)) = some (some (.agg #[.int .u8 0, .int .i64 0, .int .i64 0, .int .i64 0, .int .i64 0, .int .u8 0]), 6, 48)
theorem NyTy.size {T E : TypeId} (h : NyTy T E) : (Try.prog.info? E).map (·.size) = some 6 := by
  obtain ⟨i, hi, _, hs, _⟩ := info_parts h.info
  rw [hi]; exact congrArg some hs
theorem nyty : NyTy 65 59 := ⟨Try.underlying65, ⟨_, Try.underlying59, rfl⟩, by kernel_rfl⟩
/-- A cycle's cells, and those of cycles one behind the other. -/
theorem Nv.cs_len (c : Nv) : c.cs.length = 6 := rfl
theorem Nv.cs_one (c : Nv) : ∀ u ∈ c.cs, u.oneCell' = true := by
  intro u hu
  simp only [Nv.cs, List.mem_cons, List.not_mem_nil, or_false] at hu
  rcases hu with rfl | rfl | rfl | rfl | rfl | rfl <;> rfl
def ncs (l : List Nv) : List Value := l.flatMap Nv.cs
theorem ncs_nil : ncs [] = [] := rfl
theorem ncs_cons (c : Nv) (l : List Nv) : ncs (c :: l) = c.cs ++ ncs l := by unfold ncs; rw [List.flatMap_cons]
theorem ncs_append (a b : List Nv) : ncs (a ++ b) = ncs a ++ ncs b := by unfold ncs; rw [List.flatMap_append]
theorem ncs_one (c : Nv) : ncs [c] = c.cs := by rw [ncs_cons, ncs_nil, List.append_nil]
theorem ncs_len (l : List Nv) : (ncs l).length = l.length * 6 := by
  induction l with
  | nil => rfl
  | cons c r ih => rw [ncs_cons, List.length_append, ih, Nv.cs_len, List.length_cons]; omega
theorem ncs_cell (l : List Nv) : ∀ u ∈ ncs l, u.oneCell' = true := by
  intro u hu
  obtain ⟨c, _, hc⟩ := List.mem_flatMap.1 hu
  exact c.cs_one u hc
theorem ncs_at {l : List Nv} {k : Nat} {c : Nv} (h : l[k]? = some c) {i : Nat} {v : Value} (hv : c.cs[i]? = some v) : (ncs l)[k * 6 + i]? = some v := by
  induction l generalizing k with
  | nil => simp at h
  | cons q r ih =>
    have hi : i < 6 := by have := (List.getElem?_eq_some_iff.1 hv).1; rwa [Nv.cs_len] at this
    rw [ncs_cons]
    rcases k with _ | k
    · simp at h; subst h
      rw [List.getElem?_append_left (by rw [Nv.cs_len]; omega)]
      simpa using hv
    · rw [List.getElem?_append_right (by rw [Nv.cs_len]; omega), Nv.cs_len, show (k + 1) * 6 + i - 6 = k * 6 + i by omega]
      exact ih (by simpa using h)
/-- The cycle in which a cell lies. -/
theorem ncs_of {l : List Nv} {j : Nat} {v : Value} (h : (ncs l)[j]? = some v) : ∃ c, l[j / 6]? = some c ∧ c.cs[j % 6]? = some v := by
  induction l generalizing j with
  | nil => simp [ncs_nil] at h
  | cons q r ih =>
    rw [ncs_cons] at h
    by_cases hj : j < 6
    · rw [List.getElem?_append_left (by rw [Nv.cs_len]; exact hj)] at h
      exact ⟨q, by rw [Nat.div_eq_of_lt hj]; rfl, by rw [Nat.mod_eq_of_lt hj]; exact h⟩
    · rw [List.getElem?_append_right (by rw [Nv.cs_len]; omega), Nv.cs_len] at h
      obtain ⟨c, h1, h2⟩ := ih h
      refine ⟨c, ?_, ?_⟩
      · rw [show j / 6 = (j - 6) / 6 + 1 by omega, List.getElem?_cons_succ]; exact h1
      · rw [show j % 6 = (j - 6) % 6 by omega]; exact h2

/-- A slice reads as these cycles, in a block from b on, below block B. -/
def Nvs (w : World) (b B : Nat) (v : Value) (l : List Nv) : Prop :=
  ∃ A c, v = .slice A l.length c ∧ l.length ≤ c ∧ c ≤ maxLen ∧ (l ≠ [] → ∃ g o, A = some ⟨g, o, none⟩ ∧ (b ≤ g ∧ g < B) ∧ w.rangeAt g o (ncs l)) ∧ (A = none → c = 0)
section
variable {w w' : World} {b b' B B' base : Nat} {v : Value} {l : List Nv} {T E : TypeId}
theorem Nvs.nil : Nvs w b B (.slice none 0 0) [] := ⟨none, 0, rfl, Nat.le_refl _, by unfold maxLen; omega, fun h => absurd rfl h, fun _ => rfl⟩
theorem Nvs.kept (h : Nvs w b B v l) (hk : ∀ i, b ≤ i → i < B → w'.heap[i]? = w.heap[i]?) : Nvs w' b B v l := by
  obtain ⟨A, c, hv, h1, h2, h3, h4⟩ := h
  refine ⟨A, c, hv, h1, h2, fun hl => ?_, h4⟩
  obtain ⟨g, o, hA, hg, hr⟩ := h3 hl
  exact ⟨g, o, hA, hg, fun j u hu => (World.cell?_of_block (a := ⟨g, o + j, none⟩) (hk g hg.1 hg.2)).trans (hr j u hu)⟩
theorem Nvs.below (h : Nvs w b B v l) (hb : Below B w w') : Nvs w' b B v l := h.kept fun i _ hi => hb.block i hi
theorem Nvs.more (h : Nvs w b B v l) (hb : b' ≤ b) (hB : B ≤ B') : Nvs w b' B' v l := by
  obtain ⟨A, c, hv, h1, h2, h3, h4⟩ := h
  refine ⟨A, c, hv, h1, h2, fun hl => ?_, h4⟩
  obtain ⟨g, o, hA, hg, hr⟩ := h3 hl
  exact ⟨g, o, hA, ⟨by omega, by omega⟩, hr⟩
/-- One of them: where it lies. -/
theorem Nvs.at_ (h : Nvs w b B v l) {k : Nat} {c : Nv} (hc : l[k]? = some c) : ∃ g o cap, v = .slice (some ⟨g, o, none⟩) l.length cap ∧ k < l.length ∧ l.length ≤ cap ∧ cap ≤ maxLen ∧ b ≤ g ∧ g < B ∧ w.rangeAt g (o + k * 6) c.cs := by
  obtain ⟨A, cap, hv, h1, h2, h3, _⟩ := h
  obtain ⟨g, o, rfl, hg, hr⟩ := h3 (fun e => by subst e; simp at hc)
  refine ⟨g, o, cap, hv, (List.getElem?_eq_some_iff.1 hc).1, h1, h2, hg.1, hg.2, fun j u hu => ?_⟩
  rw [Nat.add_assoc]
  exact hr _ u (ncs_at hc hu)
/-- A row of the call's own. -/
theorem Nvs.own (h : w.ownsRow base E 6 v l.length (ncs l)) : Nvs w base w.heap.size v l := by
  rcases h.2 with ⟨hv, hn⟩ | ⟨g, cap, cur, hv, hb, hg, h1, h2, h3, h4⟩
  · obtain rfl := List.eq_nil_of_length_eq_zero hn
    subst hv
    exact Nvs.nil
  · refine ⟨_, cap, hv, h1, h2, fun _ => ⟨g, 0, rfl, ⟨hb, (Array.getElem?_eq_some_iff.1 hg).1⟩, fun j u hu => ?_⟩, fun e => by cases e⟩
    rw [cell_of_row _ _ _ _ _ _ hg, Nat.zero_add, ← Array.getElem?_toList]
    rw [← h4] at hu
    rw [List.getElem?_take] at hu
    split at hu
    · exact hu
    · cases hu
/-- All of a list behind a row of the call's own. -/
theorem run_append_nvs (ty : NyTy T E) {q : TypeId} {l0 : List Nv} {v0 : Value} (ho : w.ownsRow base E 6 v0 l0.length (ncs l0)) (h : Nvs w b B v l) (hs : l0.length + l.length ≤ 100000000) (hb : base ≤ w.heap.size) :
    ∃ v' w', (Builtin.append_ #[T, T] q #[v0, v]).run Try.prog w = .ok v' w' ∧ w'.ownsRow base E 6 v' (l0 ++ l).length (ncs (l0 ++ l)) ∧ w.grownBy w' v0.ownBlock ∧ (v'.ownBlock = v0.ownBlock ∨ v'.ownBlock = some w.heap.size) := by
  obtain ⟨i, hi, hz, hsz, hby⟩ := info_parts ty.info
  obtain ⟨A, c, rfl, h1, h2, h3, h4⟩ := h
  rcases A with _ | a
  · have hl : l = [] := by
      rcases l with _ | ⟨x, r⟩
      · rfl
      · obtain ⟨g, o, e, _⟩ := h3 (by simp); cases e
    subst hl
    refine ⟨v0, w, ?_, by rw [List.append_nil]; exact ho, grown_refl _ _, .inl rfl⟩
    rcases ho.2 with ⟨rfl, hn⟩ | ⟨g, cap, cur, rfl, _, _, hnc, _⟩
    · simp [Builtin.append_, run_underlying ty.row, sizeOf, typeInfo, hi, Builtin.lenOf, Builtin.firstCells]
    · simp [Builtin.append_, run_underlying ty.row, sizeOf, typeInfo, hi, Builtin.lenOf, Builtin.firstCells, hnc, storeCells]
  · have hcells : ∀ j u, (ncs l)[j]? = some u → w.cell? (a.add j) = some u := fun j u hu => by
      obtain ⟨g, o, e, _, hr⟩ := h3 (fun e => by subst e; simp [ncs_nil] at hu)
      injection e with e
      subst e
      have := hr j u hu
      unfold Addr.add
      split
      · subst_vars; simpa using this
      · exact this
    obtain ⟨v', w', hrun, g1, g2, _, g4⟩ := run_append_own_at (P := Try.prog) w base T q E i _ 6 48 ty.row hi hz hsz hby rfl (by decide) v0 l0.length (ncs l0) ho a l.length c (ncs l) (ncs_len l) hcells (ncs_cell l) (by unfold maxLen; omega) (by omega) hb
    refine ⟨v', w', hrun, ?_, g2, g4⟩
    rw [List.length_append, ncs_append]
    exact g1
end
/-- One new notice, in a block of its own. -/
theorem nvs_one (w : World) (c : Nv) (t : TypeId) : Nvs (w.alloc (.cells c.arr t)) w.heap.size (w.heap.size + 1) (.slice (some ⟨w.heap.size, 0, none⟩) 1 1) [c] := by
  refine ⟨some ⟨w.heap.size, 0, none⟩, 1, rfl, Nat.le_refl _, by unfold maxLen; omega, fun _ => ⟨w.heap.size, 0, rfl, ⟨Nat.le_refl _, by omega⟩, fun j u hu => ?_⟩, fun e => by cases e⟩
  rw [cell_of_row _ _ _ _ _ _ alloc_block, Nat.zero_add, ← Array.getElem?_toList]
  rw [ncs_one] at hu
  exact hu
/-- All of a list behind a row of the call's own: at the operation, for the walk. -/
theorem wpList_append_nvs {T E : TypeId} (ty : NyTy T E) {w : World} {ops : Array Oper} {rest : List Oper} {o : Oper} {a : Act} {Q : Exit → Act → World → Prop} (hgd : o.guard = none) (s x : Operand)
    (ho : o.op = .call { callee := .builtin .append, args := #[s, x], argTypes := #[T, T] }) {base b B : Nat} {v0 v : Value} {l0 l : List Nv} (hsv : a.eval s = v0) (hx : a.eval x = v)
    (how : w.ownsRow base E 6 v0 l0.length (ncs l0)) (h : Nvs w b B v l) (hs : l0.length + l.length ≤ 100000000) (hb : base ≤ w.heap.size)
    (hk : ∀ v' w', w'.ownsRow base E 6 v' (l0 ++ l).length (ncs (l0 ++ l)) → w.grownBy w' v0.ownBlock → (v'.ownBlock = v0.ownBlock ∨ v'.ownBlock = some w.heap.size) → wpList Try.prog ops Q rest (a.put o.dst v') w') : wpList Try.prog ops Q (o :: rest) a w := by
  refine wpList_plain hgd fun K hK => ?_
  obtain ⟨v', w', hrun, h1, h2, h3⟩ := run_append_nvs ty (q := o.type) how h hs hb
  unfold Oper.wp execOp
  simp only [ho, resolve, invoke, builtin, Sem.run_bind, Sem.run_pure, Result.andThen_ok, List.map_toArray, List.map_cons, List.map_nil, hsv, hx, hrun]
  exact hK _ _ (hk v' w' h1 h2 h3)
end Go.Proofs.Ytnbfkdcpghkglaa
/-
  What a subscription's cycles ask: package account's Asks. No conditions but the sizes.
-/
namespace Go.Proofs.Ytnbfkdcpghkglaa
set_option maxRecDepth 100000
open Go.ChangeShapes Go.WideShapes Go.ChangeAt Go.RowKit

/-- What a list of cycles asks. -/
def asksOf (s : Int) : List Cv → List Nv
  | [] => []
  | c :: r => (if c.asks = true then [c.ask s] else []) ++ asksOf s r
theorem asksOf_append (s : Int) (a b : List Cv) : asksOf s (a ++ b) = asksOf s a ++ asksOf s b := by
  induction a with
  | nil => rfl
  | cons c r ih => rw [List.cons_append]; show _ ++ asksOf s (r ++ b) = _; rw [ih, ← List.append_assoc]; rfl
theorem asksOf_next {s : Int} {l : List Cv} {j : Nat} {c : Cv} (h : l[j]? = some c) : asksOf s (l.take (j + 1)) = asksOf s (l.take j) ++ (if c.asks = true then [c.ask s] else []) := by
  have hj := (List.getElem?_eq_some_iff.1 h).1
  have hc : l[j] = c := (List.getElem?_eq_some_iff.1 h).2
  rw [List.take_succ_eq_append_getElem hj, hc, asksOf_append]
  show _ ++ ((if c.asks = true then [c.ask s] else []) ++ []) = _
  rw [List.append_nil]
theorem asksOf_len (s : Int) (l : List Cv) : (asksOf s l).length ≤ l.length := by
  induction l with
  | nil => exact Nat.le_refl _
  | cons c r ih =>
    show ((if c.asks = true then [c.ask s] else []) ++ asksOf s r).length ≤ _
    rw [List.length_append, List.length_cons]
    split <;> simp <;> omega
theorem asksOf_mem {s : Int} {l : List Cv} {n : Nv} (h : n ∈ asksOf s l) : ∃ c ∈ l, c.asks = true ∧ n = c.ask s := by
  induction l with
  | nil => cases h
  | cons c r ih =>
    rcases List.mem_append.1 h with h | h
    · split at h
      · rename_i h1
        exact ⟨c, List.mem_cons_self, h1, List.mem_singleton.1 h⟩
      · cases h
    · obtain ⟨c', h1, h2⟩ := ih h
      exact ⟨c', List.mem_cons_of_mem _ h1, h2⟩
set_option maxHeartbeats 8000000 in
theorem asks_any {w : World} {v : Value} {a : Av} (s : Int) (h : Cys w 0 w.heap.size v a.l) (hs : a.l.length ≤ 100000) :
    Calls Try.prog 30 #[.int .i64 s, .agg (a.arr v)] w fun e w' => ∃ v', e = .returned v' ∧ w'.ownsRow w.heap.size 59 6 v' (asksOf s a.l).length (ncs (asksOf s a.l)) ∧ Below w.heap.size w w' := by
  obtain ⟨A, cap, rfl, hcap, hcm, _⟩ := id h
  have H := Lib.hid h
  clear h
  go_enter Try.func30, Try.ntmps30
  go_wp2
  go_loopw [5, 13] (fun sl i wq => ∃ (j : Nat) (v' : Value), j ≤ a.l.length ∧ i = .int .i64 j ∧ sl = v' ∧ Hid (Below w.heap.size w wq) ∧ Hid (wq.ownsRow (w.heap.size + 1) 59 6 v' (asksOf s (a.l.take j)).length (ncs (asksOf s (a.l.take j))))) (fun _ i _ => a.l.length - (intOf i).toNat)
  case atStart => exact ⟨0, _, by omega, rfl, rfl, (Below.refl _ w).alloc (Nat.le_refl _) _, World.ownsRow_nil _ _ _ _⟩
  case round =>
    obtain ⟨j, v', hj, rfl, rfl, HW, HO⟩ := hrel
    have hzw := HW.out.size
    by_cases hlt : j < a.l.length
    case neg =>
      obtain rfl : j = a.l.length := by omega
      have dlt : decide ((a.l.length : Int) < (a.l.length : Int)) = false := by simp
      have HOx := HO
      rw [List.take_length] at HOx
      clear HO
      obtain ⟨An, cn, hvn, _⟩ := own_form HOx.out
      subst hvn
      go_wp2
      go_ret
      exact ⟨_, rfl, ⟨HOx.out.1, HOx.out.2.elim .inl fun ⟨g, cap, cur, h1, h2, h3⟩ => .inr ⟨g, cap, cur, h1, by omega, h3⟩⟩, HW.out⟩
    case pos =>
      have dlt : decide ((j : Int) < (a.l.length : Int)) = true := by simpa using hlt
      obtain ⟨z, hz⟩ : ∃ z, a.l[j]? = some z := ⟨a.l[j], List.getElem?_eq_getElem hlt⟩
      obtain ⟨g, o, cap', hv, y1, y2, y3, _, hgl, hr⟩ := H.out.at_ hz
      injection hv with hv1 hvl hv3
      clear hvl y1 y2 y3
      subst hv1 hv3
      have k0 : (0 : Int) ≤ (j : Int) := by omega
      have k1 : (j : Int) < (a.l.length : Int) := by omega
      have hnx := asksOf_next (s := s) hz
      have hbl := asksOf_len s (a.l.take j)
      rw [List.length_take] at hbl
      obtain ⟨M, hM⟩ : ∃ M, asksOf s (a.l.take j) = M := ⟨_, rfl⟩
      rw [hM] at HO hnx hbl
      have HNX := Lib.hid hnx
      obtain ⟨An, cn, hvn, _⟩ := own_form HO.out
      subst hvn
      obtain ⟨n, d, p, a', u, t, x, gd⟩ := z
      have q : ∀ k v9, (⟨n, d, p, a', u, t, x, gd⟩ : Cv).cs[k]? = some v9 → wr.cell? ⟨g, o + j * 8 + k, none⟩ = some v9 := fun k v9 h9 => (World.cell?_of_block (a := ⟨g, o + j * 8 + k, none⟩) (HW.out.block g hgl)).trans (hr k v9 h9)
      have q0 : wr.cell? ⟨g, o + j * 8, none⟩ = some (.int .i64 n) := q 0 _ rfl
      have q1 : wr.cell? ⟨g, o + j * 8 + 1, none⟩ = some (.int .i64 d) := q 1 _ rfl
      have q2 : wr.cell? ⟨g, o + j * 8 + 2, none⟩ = some (.int .u8 p) := q 2 _ rfl
      have q3 : wr.cell? ⟨g, o + j * 8 + 3, none⟩ = some (.int .i64 a') := q 3 _ rfl
      have q4 : wr.cell? ⟨g, o + j * 8 + 4, none⟩ = some (.int .i64 u) := q 4 _ rfl
      have q5 : wr.cell? ⟨g, o + j * 8 + 5, none⟩ = some (.int .i64 t) := q 5 _ rfl
      have q6 : wr.cell? ⟨g, o + j * 8 + 6, none⟩ = some (.int .i64 x) := q 6 _ rfl
      have q7 : wr.cell? ⟨g, o + j * 8 + 7, none⟩ = some (.bool gd) := q 7 _ rfl
      obtain ⟨b, hb⟩ : ∃ b, Cv.asks ⟨n, d, p, a', u, t, x, gd⟩ = b := ⟨_, rfl⟩
      obtain ⟨q9, hq9⟩ : ∃ q9, Cv.ask s ⟨n, d, p, a', u, t, x, gd⟩ = q9 := ⟨_, rfl⟩
      have HB := Lib.hid hb
      have HQ := Lib.hid hq9
      rw [hb, hq9] at HNX
      clear hr q hz hb hq9 hnx hM
      obtain ⟨K9, S9, C9, T9, M9, V9⟩ := q9
      go_wp2_with (fail)
      refine (cyasks_any _ _ _ _ _ _ _ _ _ _).mono ?_
      rw [HB.out, HQ.out]
      rintro e w1 ⟨rfl, hb1⟩
      have hs1 := hb1.size
      rw [World.size_alloc] at hs1
      have HO1 : Hid (w1.ownsRow (w.heap.size + 1) 59 6 (.slice An M.length cn) M.length (ncs M)) := own_kept HO.out fun i hi => (hb1.block i (by rw [World.size_alloc]; have := (HO.out.lt i hi).2; omega)).trans (alloc_block_old (HO.out.lt i hi).2)
      have HW1 : Hid (Below w.heap.size w w1) := (HW.out.alloc HW.out.size _).trans (hb1.mono (by rw [World.size_alloc]; omega))
      clear hb1 q0 q1 q2 q3 q4 q5 q6 q7 HO HW
      dsimp only [Nv.arr]
      cases b
      · have HNE : Hid (asksOf s (a.l.take (j + 1)) = M) := by
          show _ = _
          rw [HNX.out]; simp
        clear HNX
        go_wp2
        go_roundw
        case rel => exact ⟨j + 1, _, by omega, by go_num, rfl, HW1.out.alloc (by omega) _, by rw [HNE.out]; exact own_kept HO1.out fun i hi => alloc_block_old (HO1.out.lt i hi).2⟩
        case measure => simp [intOf]; omega
      · have HNE : Hid (asksOf s (a.l.take (j + 1)) = M ++ [⟨K9, S9, C9, T9, M9, V9⟩]) := by
          show _ = _
          rw [HNX.out]; simp
        clear HNX
        go_wp2_with (at_builtin; refine stop_here ?_)
        refine ⟨?_⟩
        refine wpList_append_nvs nyty rfl _ _ rfl (l0 := M) (l := [⟨K9, S9, C9, T9, M9, V9⟩]) (base := w.heap.size + 1) (b := w1.heap.size + 1) (B := w1.heap.size + 1 + 1) rfl rfl (own_kept HO1.out fun i hi => ?_) ?_ (by rw [List.length_singleton]; omega) (by simp; omega) ?_
        · rw [alloc_block_old (by rw [World.size_alloc]; have := (HO1.out.lt i hi).2; omega), alloc_block_old (HO1.out.lt i hi).2]
        · have h9 := nvs_one (w1.alloc (.cells (⟨K9, S9, C9, T9, M9, V9⟩ : Nv).arr 59)) ⟨K9, S9, C9, T9, M9, V9⟩ 59
          rw [World.size_alloc] at h9
          exact h9
        intro v5 w5 ho5 hg5 hat5
        obtain ⟨L, hL⟩ : ∃ L, M ++ [⟨K9, S9, C9, T9, M9, V9⟩] = L := ⟨_, rfl⟩
        rw [hL] at ho5 HNE
        clear hL
        obtain ⟨A5, c5, hv5, _, _⟩ := own_form ho5
        subst hv5
        have HO5 := Lib.hid ho5
        have HW5 : Hid (Below w.heap.size w w5) := by
          have hq := HW1.out
          refine ⟨hg5.os.trans hq.os, hg5.tape.trans hq.tape, hg5.output.trans hq.output, by have := hg5.size; simp only [World.size_alloc] at this; omega, fun i hi => ?_⟩
          rw [hg5.block i (by simp only [World.size_alloc]; omega) (fun e => by have := (HO1.out.lt _ e.symm).1; omega), alloc_block_old (by rw [World.size_alloc]; omega), alloc_block_old (by omega)]
          exact hq.block i hi
        clear hg5 hat5 ho5
        go_wp2
        go_roundw
        case rel => exact ⟨j + 1, _, by omega, by go_num, rfl, HW5, by rw [HNE.out]; exact HO5.out⟩
        case measure => simp [intOf]; omega
end Go.Proofs.Ytnbfkdcpghkglaa
