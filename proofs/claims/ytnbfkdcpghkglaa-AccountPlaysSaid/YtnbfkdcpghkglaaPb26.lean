/-
  The document's own Step: Cancel and Card. No conditions but the sizes.
-/
import Derived.Test.YtnbfkdcpghkglaaPb20
set_option linter.unusedSimpArgs false
set_option linter.unusedVariables false
namespace Go.Proofs.Ytnbfkdcpghkglaa
set_option maxRecDepth 100000
open Go.ChangeShapes Go.WideShapes Go.ChangeAt Go.RowKit

/-- What those that come to nothing by f leave. -/
def gainOf (f : Cv → Cv) : List Cv → Int
  | [] => 0
  | c :: r => (if ((f c).p = 8 ∨ (f c).p = 9) ∧ c.p < 7 then (f c).u else 0) + gainOf f r
theorem gain_cons (f : Cv → Cv) (c : Cv) (r : List Cv) : gainOf f (c :: r) = (if ((f c).p = 8 ∨ (f c).p = 9) ∧ c.p < 7 then (f c).u else 0) + gainOf f r := rfl
theorem gain_append (f : Cv → Cv) (a b : List Cv) : gainOf f (a ++ b) = gainOf f a + gainOf f b := by
  induction a with
  | nil => simp [gainOf]
  | cons c r ih => rw [List.cons_append, gain_cons, gain_cons, ih]; omega
theorem gain_back (f : Cv → Cv) (l : List Cv) : gainOf f l = backOf ((opn l).map f) := by
  induction l with
  | nil => rfl
  | cons c r ih =>
    rw [gain_cons, ih]
    by_cases h : c.p < 7
    · rw [opn_cons_yes h, List.map_cons, back_cons]
      by_cases h2 : (f c).p = 8 ∨ (f c).p = 9
      · rw [if_pos ⟨h2, h⟩, if_pos h2]
      · rw [if_neg (fun g => h2 g.1), if_neg h2]
    · rw [opn_cons_no h, if_neg (fun g => h g.2)]; omega
theorem gain_next {f : Cv → Cv} {l : List Cv} {j : Nat} {c : Cv} (h : l[j]? = some c) (cr : Int) : cr + gainOf f (l.take (j + 1)) = Cy.gain (cr + gainOf f (l.take j)) c (f c) := by
  rw [take_next h, gain_append, gain_cons]
  unfold Cy.gain
  split <;> simp [gainOf] <;> omega
theorem gain_bd {f : Cv → Cv} {l : List Cv} (h : ∀ c ∈ l, -1000000000000 ≤ (f c).u ∧ (f c).u ≤ 1000000000000) (j : Nat) : -(l.length * 1000000000000) ≤ gainOf f (l.take j) ∧ gainOf f (l.take j) ≤ l.length * 1000000000000 := by
  induction l generalizing j with
  | nil => simp [gainOf]
  | cons c r ih =>
    cases j with
    | zero => simp [gainOf]; omega
    | succ j =>
      have h1 := ih (fun c hc => h c (List.mem_cons_of_mem _ hc)) j
      have h2 := h c List.mem_cons_self
      rw [List.take_succ_cons, List.length_cons, gain_cons]
      split <;> omega
/-- A list that lies apart from what a call has boxed. -/
def Cyb (b0 B S : Nat) (w : World) (v : Value) (l : List Cv) : Prop := ∃ b c, (b0 ≤ b ∧ c ≤ B ∨ S + 1 ≤ b) ∧ c ≤ w.heap.size ∧ Cys w b c v l
theorem Cyb.kept {b0 B S : Nat} {w w' : World} {v : Value} {l : List Cv} (h : Cyb b0 B S w v l) (hz : w.heap.size ≤ w'.heap.size) (hk : ∀ i, i < w.heap.size → (i < B ∨ S + 1 ≤ i) → w'.heap[i]? = w.heap[i]?) : Cyb b0 B S w' v l := by
  obtain ⟨b, c, hap, hc, hcys⟩ := h
  exact ⟨b, c, hap, by omega, hcys.kept fun i h1 h2 => hk i (by omega) (by omega)⟩
theorem Cyb.whole {b0 B S : Nat} {w : World} {v : Value} {l : List Cv} (h : Cyb b0 B S w v l) : Cys w 0 w.heap.size v l := by
  obtain ⟨b, c, _, hc, hcys⟩ := h
  exact hcys.more (Nat.zero_le _) hc
theorem Cyb.parted {b0 B S n : Nat} {w : World} {v : Value} {l : List Cv} (h : Cyb b0 B S w v l) (hn : n ≤ S) : Cys w b0 B v l ∨ Cys w n w.heap.size v l := by
  obtain ⟨b, c, ha, hc, hcys⟩ := h
  rcases ha with ha | ha
  · exact .inl (hcys.more ha.1 ha.2)
  · exact .inr (hcys.more (by omega) hc)
theorem over_u (c : Cv) : c.over.u = c.u := by unfold Cv.over; split <;> rfl
set_option maxHeartbeats 8000000 in
theorem step_cancel_one {w : World} {b : Bk} {i : Nat} (hi : i < 32) (hone : b.One) (hst : (b.s i).st = 1) {b0 c0 : Nat} (hc0 : c0 ≤ w.heap.size) (hl : Cys w b0 c0 (b.v i) (b.s i).l) (hlen : (b.s i).l.length ≤ 100000) (hcr : -100000000000 ≤ (b.s i).cr ∧ (b.s i).cr ≤ 100000000000) (hu : ∀ c ∈ (b.s i).l, (-1000000000000 ≤ c.u ∧ c.u ≤ 1000000000000) ∧ 0 ≤ c.t ∧ c.t ≤ 1000) :
    Calls Try.prog 32 #[.agg b.arr, .agg #[.int .u8 7, .int .i64 (i : Int), .int .i64 0, .int .i64 0, .int .i64 0, .int .u8 0, .int .i64 0, .int .i64 0, .bool false, .bool false, .int .u8 0, .int .i64 0, .int .i64 0, .int .i64 0, .int .i64 0, .int .u8 0]] w fun e w' => ∃ v', e = .returned (.tuple #[.agg (b.put i ({ b.s i with st := 3, cr := (b.s i).cr + gainOf (fun c => c.over) (b.s i).l, l := (b.s i).l.map (fun c => c.over) } : Sv) v').arr, .int .i64 0]) ∧ (Cys w' b0 c0 v' ((b.s i).l.map (fun c => c.over)) ∨ Cys w' w.heap.size w'.heap.size v' ((b.s i).l.map (fun c => c.over))) ∧ Below w.heap.size w w' := by
  obtain ⟨v0, hv0⟩ : ∃ v0, b.v i = v0 := ⟨_, rfl⟩
  rw [hv0] at hl
  have hvf := hl
  obtain ⟨VA, vc, hvv, hvc, hvm, _⟩ := hvf
  have HL0 := Lib.hid hl
  have HV0 := Lib.hid hv0
  have HVV := Lib.hid hvv
  clear hl hv0 hvv
  obtain ⟨s, hs⟩ : ∃ s, b.s i = s := ⟨_, rfl⟩
  obtain ⟨v, hv⟩ : ∃ v, b.v i = v := ⟨_, rfl⟩
  rw [hs] at hst hlen hcr hu HL0 HVV hvc
  have hv1 : v.oneCell' = true := by rw [← hv]; exact hone.2 i hi
  have HON := Lib.hid hone
  have HS := Lib.hid hs
  have HV := Lib.hid hv
  have hi0 : (0 : Int) ≤ (i : Int) := by omega
  have hi1 : (i : Int) < 32 := by omega
  have HRG : Hid (∀ X : World, X.heap[w.heap.size]? = some (.cells b.arr 73 (0, 0)) → X.rangeAt w.heap.size (2 + i * 7) (s.arr v).toList) := fun X hX => by
    have := Bk.range hX hi
    rw [hs, hv] at this
    exact this
  clear hs hv hone
  go_enter Try.func32, Try.ntmps32
  go_upto_region 30 with fail
  obtain ⟨W0, hW0⟩ : ∃ W0, ((w.alloc (.cells b.arr 73)).alloc (.cells #[.int .u8 7, .int .i64 (i : Int), .int .i64 0, .int .i64 0, .int .i64 0, .int .u8 0, .int .i64 0, .int .i64 0, .bool false, .bool false, .int .u8 0, .int .i64 0, .int .i64 0, .int .i64 0, .int .i64 0, .int .u8 0] 61)).alloc (.cells Try.zeroCells73 73) = W0 := ⟨_, rfl⟩
  have hB : W0.heap[w.heap.size]? = some (.cells b.arr 73 (0, 0)) := by rw [← hW0]; exact alloc_old (by simp; omega) (alloc_old (by simp) (alloc_at rfl))
  have hO : W0.heap[w.heap.size + 1]? = some (.cells #[.int .u8 7, .int .i64 (i : Int), .int .i64 0, .int .i64 0, .int .i64 0, .int .u8 0, .int .i64 0, .int .i64 0, .bool false, .bool false, .int .u8 0, .int .i64 0, .int .i64 0, .int .i64 0, .int .i64 0, .int .u8 0] 61 (0, 0)) := by rw [← hW0]; exact alloc_old (by simp) (alloc_at (by simp))
  have hZ : W0.heap[w.heap.size + 1 + 1]? = some (.cells Try.zeroCells73 73 (0, 0)) := by rw [← hW0]; exact alloc_at (by simp)
  have hW : Below w.heap.size w W0 := by rw [← hW0]; exact (((Below.refl _ w).alloc (Nat.le_refl _) _).alloc (by simp) _).alloc (by simp; omega) _
  have hz2 : w.heap.size + 1 + 1 < W0.heap.size := (Array.getElem?_eq_some_iff.1 hZ).1
  have hz1 : w.heap.size + 1 < W0.heap.size := by omega
  have hz0 : w.heap.size < W0.heap.size := by omega
  rw [hW0]
  clear hW0
  obtain ⟨o0, o1, o2, o3, o10, o11, o12, o13, o14, o15⟩ := ocells hO
  have HW := Lib.hid hW
  have HB := Lib.hid hB
  have e9 := boxed_self hB
  rw [e9]
  clear e9 hW hB hO
  have HU := Lib.hid hu
  obtain ⟨hcr0, hcr1⟩ := hcr
  have hvf : v = .slice VA s.l.length vc := by rw [← HV.out, HV0.out]; exact HVV.out
  have hl : Cys w b0 c0 v s.l := by rw [← HV.out, HV0.out]; exact HL0.out
  have HL := Lib.hid hl
  clear HL0 HVV hl hu
  subst hvf
  have d0 : (s.st == 0) = false := by rw [hst]; decide
  have n0 : (s.st != 0) = true := by rw [hst]; decide
  have d1 : (s.st == 1) = true := by rw [hst]; decide
  have n1 : (s.st != 1) = false := by rw [hst]; decide
  have d2 : (s.st == 2) = false := by rw [hst]; decide
  have n2 : (s.st != 2) = true := by rw [hst]; decide
  have d3 : (s.st == 3) = false := by rw [hst]; decide
  have n3 : (s.st != 3) = true := by rw [hst]; decide
  clear hst
  go_upto_region 77 with (first | ((with_reducible_and_instances (show wpList _ _ _ (Oper.mk _ (Op.load 36 _ ) _ _ _ _ :: _) _ _)); refine wpList_load_mid rfl _ _ rfl w.heap.size (2 + i * 7) rfl (s.arr (.slice VA s.l.length vc)).toList _ (HRG.out _ (boxed_at hz0)) Try.underlying36 rfl info7s ?_; rw [Array.toArray_toList]) | ((with_reducible_and_instances (show wpList _ _ _ (Oper.mk _ (Op.store 36 _ _ ) _ _ _ _ :: _) _ _)); refine wl_store info7s rfl rfl rfl rfl (by (repeat (first | assumption | (with_reducible refine alloc_at ?_; (focus (first | omega | (simp; done) | (simp; omega)))) | (with_reducible refine boxed_at ?_; (focus (first | omega | (simp; done) | (simp; omega)))) | (with_reducible refine alloc_old ?_ ?_; (focus (first | omega | (simp; done) | (simp; omega)))) | (with_reducible refine boxed_old ?_ ?_; (focus (first | omega | (simp; done) | (simp; omega)))) | (with_reducible refine drew_old ?_)))) (by rfl) (by rfl) (Sv.arr_one rfl) ?_))
  obtain ⟨s2, hs2⟩ : ∃ s2, ({ s with st := 3 } : Sv) = s2 := ⟨_, rfl⟩
  have HS2 := Lib.hid hs2
  obtain ⟨W1, hW1⟩ : ∃ W1, boxed ((boxed W0 w.heap.size b.arr 73).alloc (.cells #[.int .u8 0, .int .i64 0, .int .i64 0, .int .i64 0, .int .i64 0, .bool false, .slice none 0 0] 36)) W0.heap.size (s2.arr (.slice VA s.l.length vc)) 36 = W1 := ⟨_, rfl⟩
  have hB1 : W1.heap[w.heap.size]? = some (.cells b.arr 73 (0, 0)) := by rw [← hW1]; exact boxed_old (by omega) (alloc_old (by simp; omega) (boxed_at hz0))
  have hS1 : W1.heap[W0.heap.size]? = some (.cells (s2.arr (.slice VA s.l.length vc)) 36 (0, 0)) := by rw [← hW1]; exact boxed_at (by simp)
  have hZ1 : W1.heap[w.heap.size + 1 + 1]? = some (.cells Try.zeroCells73 73 (0, 0)) := by rw [← hW1]; exact boxed_old (by omega) (alloc_old (by simp; omega) (boxed_old (by omega) hZ))
  have hk1 : ∀ i, i < W0.heap.size → i ≠ w.heap.size → W1.heap[i]? = W0.heap[i]? := fun i h1 h2 => by
    rw [← hW1, boxed_block_other (by omega), alloc_block_old (by rw [boxed_size]; omega), boxed_block_other (by omega)]
  have hO1 : W1.cell? ⟨w.heap.size + 1, 1, none⟩ = some (.int .i64 (i : Int)) := (World.cell?_of_block (a := ⟨w.heap.size + 1, 1, none⟩) (hk1 (w.heap.size + 1) (by omega) (by omega))).trans o1
  have HW1 : Hid (Below w.heap.size w W1) := by
    show Below _ _ _
    rw [← hW1]; exact boxed_below ((boxed_below HW.out (Nat.le_refl _)).alloc (by simp; omega) _) (by omega)
  have HL1 : Hid (Cyb b0 c0 W0.heap.size W1 (.slice VA s.l.length vc) s.l) := ⟨b0, c0, .inl ⟨Nat.le_refl _, Nat.le_refl _⟩, by have := HW1.out.size; omega, HL.out.kept fun i _ h2 => (hk1 i (by omega) (by omega)).trans (HW.out.block i (by omega))⟩
  have hz1s : W0.heap.size < W1.heap.size := (Array.getElem?_eq_some_iff.1 hS1).1
  rw [hs2, hW1]
  clear hs2 hW1 hk1 o0 o1 o2 o3 o10 o11 o12 o13 o14 o15 hZ HL
  go_wp2
  go_loopw [15] (fun ii wq => ∃ (j : Nat) (A' : Option Addr) (c' : Nat), j ≤ s.l.length ∧ ii = .int .i64 j ∧ Hid (Below w.heap.size w wq) ∧ Hid (wq.heap[w.heap.size]? = some (.cells b.arr 73 (0, 0))) ∧ Hid (wq.cell? ⟨w.heap.size + 1, 1, none⟩ = some (.int .i64 (i : Int))) ∧ Hid (wq.heap[w.heap.size + 1 + 1]? = some (.cells Try.zeroCells73 73 (0, 0))) ∧ Hid (wq.heap[W0.heap.size]? = some (.cells (({ s2 with cr := s.cr + gainOf (fun c => c.over) (s.l.take j) } : Sv).arr (.slice A' s.l.length c')) 36 (0, 0))) ∧ Hid (Cyb b0 c0 W0.heap.size wq (.slice A' s.l.length c') (woken s.l (fun c => c.over) j)) ∧ s.l.length ≤ c' ∧ c' ≤ maxLen) (fun ii _ => s.l.length - (intOf ii).toNat)
  case atStart =>
    refine ⟨0, VA, vc, by omega, rfl, HW1, hB1, hO1, hZ1, ?_, ?_, hvc, hvm⟩
    · rw [show ({ s2 with cr := s.cr + gainOf (fun c => c.over) (s.l.take 0) } : Sv) = s2 from by rw [← HS2.out]; show Sv.mk _ _ _ _ (s.cr + 0) _ _ = _; rw [Int.add_zero]]
      exact hS1
    · rw [woken_zero]; exact HL1.out
  case round =>
    obtain ⟨j, A', c', hj, rfl, HW2, HB2, HO2, HZ2, HS3, HL2, hc1, hc2⟩ := hrel
    have hzs : W0.heap.size < wr.heap.size := (Array.getElem?_eq_some_iff.1 HS3.out).1
    obtain ⟨m0, m1, m2, m3, m4, m5, m6⟩ := scells HS3.out
    by_cases hlt : j < s.l.length
    case neg =>
      obtain rfl : j = s.l.length := by omega
      have dlt : decide ((s.l.length : Int) < (s.l.length : Int)) = false := by simp
      rw [woken_all] at HL2
      rw [List.take_length] at HS3
      obtain ⟨s9, hs9⟩ : ∃ s9, ({ s2 with cr := s.cr + gainOf (fun c => c.over) s.l, l := s.l.map (fun c => c.over) } : Sv) = s9 := ⟨_, rfl⟩
      have hS1 : wr.heap[W0.heap.size]? = some (.cells (s9.arr (.slice A' s.l.length c')) 36 (0, 0)) := by rw [← hs9]; exact HS3.out
      have HPUT : Hid (∀ v', b.put i ({ b.s i with st := 3, cr := (b.s i).cr + gainOf (fun c => c.over) (b.s i).l, l := (b.s i).l.map (fun c => c.over) } : Sv) v' = b.put i s9 v') := fun v' => by rw [HS.out, ← hs9, ← HS2.out]
      have HRES : Hid (s9.l = s.l.map (fun c => c.over)) := by
        show _ = _
        rw [← hs9]
      have hb2 : (b.put i s9 (.slice A' s.l.length c')).arr.all (·.oneCell') = true := (HON.out.put i s9 rfl).arr
      have hB1 := HB2.out
      have hZ1 := HZ2.out
      have hO1 := HO2.out
      have hz10 : w.heap.size < wr.heap.size := by omega
      have hz12 : w.heap.size + 1 + 1 < wr.heap.size := by omega
      have hz1s : W0.heap.size < wr.heap.size := hzs
      obtain ⟨W1, hW1⟩ : ∃ W1, wr = W1 := ⟨_, rfl⟩
      rw [hW1] at hB1 hZ1 hO1 hS1 HW2 hz10 hz12 hz1s HL2 m0 m1 m2 m3 m4 m5 m6 ⊢
      have HW1 := HW2
      clear hW1 hs9 hlt hj HB2 HZ2 HO2 HS3
      go_upto_region 93 with fail
      have e9 := boxed_self hB1
      rw [e9]
      clear e9 m0 m1 m2 m3 m4 m5 m6
      go_wp2_with (((with_reducible_and_instances (show wpList _ _ _ (Oper.mk _ (Op.load 36 _ ) _ _ _ _ :: _) _ _)); refine stop_here ?_))
      refine ⟨?_⟩
      refine wl_load (cs := s9.arr (.slice A' s.l.length c')) (fr := (0, 0)) (g := W0.heap.size) Try.underlying36 rfl info7s rfl rfl rfl (boxed_old (by omega) hS1) (by rfl) ?_
      go_wp2_with (((with_reducible_and_instances (show wpList _ _ _ (Oper.mk _ (Op.store 36 _ _ ) _ _ _ _ :: _) _ _)); refine stop_here ?_))
      refine ⟨?_⟩
      refine wpList_store_mid rfl _ _ _ rfl (w.heap.size) (2 + i * 7) (s9.arr (.slice A' s.l.length c')) rfl rfl (Bk.there (by omega) hi) info7s (Sv.arr_one rfl) ?_
      rw [Bk.store]
      go_wp2_with (((with_reducible_and_instances (show wpList _ _ _ (Oper.mk _ (Op.load 73 _ ) _ _ _ _ :: _) _ _)); refine stop_here ?_))
      refine ⟨?_⟩
      refine wl_load (cs := (b.put i s9 (.slice A' s.l.length c')).arr) (fr := (0, 0)) (g := w.heap.size) Try.underlying73 rfl Bk.info rfl rfl rfl (boxed_at (by omega)) (Bk.arr_size _) ?_
      go_wp2_with (((with_reducible_and_instances (show wpList _ _ _ (Oper.mk _ (Op.store 73 _ _ ) _ _ _ _ :: _) _ _)); refine stop_here ?_))
      refine ⟨?_⟩
      refine wl_store (g := w.heap.size + 1 + 1) Bk.info rfl rfl rfl rfl (boxed_old (by omega) hZ1) Bk.zero_size (Bk.arr_size _) hb2 ?_
      go_wp2_with (fail)
      refine bodyPost_ret (results_row_tmp rfl _ _ (w.heap.size + 1 + 1) 73 _ (0, 0) _ rfl (boxed_at (by rw [boxed_size]; omega)) Try.underlying73 rfl (by rw [Bk.arr_size]; exact Bk.info)) rfl ?_
      exact ⟨.slice A' s.l.length c', by rw [HPUT.out]; rfl, by rw [HS.out]; exact (HL2.out.kept (by simp) fun i _ h9 => (boxed_block_other (by omega)).trans (boxed_block_other (by omega))).parted (by omega), boxed_below (boxed_below HW1.out (Nat.le_refl _)) (by omega)⟩
    obtain ⟨z, hz⟩ : ∃ z, s.l[j]? = some z := ⟨s.l[j], List.getElem?_eq_getElem hlt⟩
    have huz := HU.out z (List.mem_of_getElem? hz)
    obtain ⟨bb, cc, hap, hcc, hcys⟩ := HL2.out
    have hat := woken_at (f := fun c => c.over) hz
    obtain ⟨gg, oo, cap, hv, hjl, _, _, hbg, hgc, hr⟩ := hcys.at_ hat
    rw [woken_len] at hv hjl
    injection hv with hA _ hcap'
    subst hA hcap'
    have dlt : decide ((j : Int) < (s.l.length : Int)) = true := by simpa using hlt
    have k0 : (0 : Int) ≤ (j : Int) := by omega
    have k1 : (j : Int) < (s.l.length : Int) := by omega
    have HZ := Lib.hid hz
    have HY := Lib.hid hcys
    have HX := Lib.hid hap
    have HAT2 := Lib.hid hat
    have HRC := Lib.hid hr
    obtain ⟨n, q, f, a, u, t, x, g⟩ := z
    obtain ⟨⟨hu0, hu1⟩, ht0, ht1⟩ := huz
    dsimp only at hu0 hu1 ht0 ht1
    have q0 : wr.cell? ⟨gg, oo + j * 8, none⟩ = some (.int .i64 n) := hr 0 _ rfl
    have q1 : wr.cell? ⟨gg, oo + j * 8 + 1, none⟩ = some (.int .i64 q) := hr 1 _ rfl
    have p2 : wr.cell? ⟨gg, oo + j * 8 + 2, none⟩ = some (.int .u8 f) := hr 2 _ rfl
    have q3 : wr.cell? ⟨gg, oo + j * 8 + 3, none⟩ = some (.int .i64 a) := hr 3 _ rfl
    have q4 : wr.cell? ⟨gg, oo + j * 8 + 4, none⟩ = some (.int .i64 u) := hr 4 _ rfl
    have q5 : wr.cell? ⟨gg, oo + j * 8 + 5, none⟩ = some (.int .i64 t) := hr 5 _ rfl
    have q6 : wr.cell? ⟨gg, oo + j * 8 + 6, none⟩ = some (.int .i64 x) := hr 6 _ rfl
    have q7 : wr.cell? ⟨gg, oo + j * 8 + 7, none⟩ = some (.bool g) := hr 7 _ rfl
    clear hz hat hr hap hcys HL2
    by_cases hw : f = 2
    case neg =>
      have hsame : Cv.over ⟨n, q, f, a, u, t, x, g⟩ = ⟨n, q, f, a, u, t, x, g⟩ := over_no hw
      have d2 : (f == 2) = false := by simpa using hw
      have hg := gain_next (f := fun c => c.over) HZ.out s.cr
      rw [hsame, show Cy.gain (s.cr + gainOf (fun c => c.over) (s.l.take j)) ⟨n, q, f, a, u, t, x, g⟩ ⟨n, q, f, a, u, t, x, g⟩ = s.cr + gainOf (fun c => c.over) (s.l.take j) from if_neg (fun h => by have h1 := h.1; have h2 := h.2; dsimp only at h1 h2; omega)] at hg
      have HG := Lib.hid hg
      clear hg
      have HSM := Lib.hid hsame
      clear hsame hw
      go_wp2
      go_roundw
      case rel => exact ⟨j + 1, _, c', by omega, by go_num, HW2, HB2, HO2, HZ2, by rw [HG.out]; exact HS3, by rw [woken_same (f := fun c => c.over) HZ.out HSM.out]; exact ⟨bb, cc, HX.out, hcc, HY.out⟩, hc1, hc2⟩
      case measure => simp [intOf]; omega
    obtain rfl := hw
    have hg := gain_next (f := fun c => c.over) HZ.out s.cr
    have hset := woken_next (f := fun c => c.over) HZ.out
    rw [over_yes] at hg hset
    have hbd := gain_bd (f := fun c => c.over) (l := s.l) (fun c hc => by rw [over_u]; exact (HU.out c hc).1) j
    obtain ⟨CR, hCR⟩ : ∃ CR, s.cr + gainOf (fun c => c.over) (s.l.take j) = CR := ⟨_, rfl⟩
    rw [hCR] at hg HS3 m4
    have HG := Lib.hid hg
    have hcrb : -1000000000000000000 ≤ CR ∧ CR ≤ 1000000000000000000 := by rw [← hCR]; omega
    have HCH : Hid (∀ w2 : World, Cys w2 0 w2.heap.size (.slice (some ⟨gg, oo, none⟩) s.l.length c') (woken s.l (fun c => c.over) j) → Calls Try.prog 47 #[.agg (({ s2 with cr := CR } : Sv).arr (.slice (some ⟨gg, oo, none⟩) s.l.length c')), .int .i64 j, .agg #[.int .i64 n, .int .i64 q, .int .u8 8, .int .i64 a, .int .i64 u, .int .i64 t, .int .i64 0, .bool g]] w2 fun e w' => ∃ v', e = .returned (.agg (({ s2 with cr := s.cr + gainOf (fun c => c.over) (s.l.take (j + 1)) } : Sv).arr v')) ∧ Cys w' w2.heap.size w'.heap.size v' (woken s.l (fun c => c.over) (j + 1)) ∧ Below w2.heap.size w2 w') := fun w2 hq => by
      have h9 := refchange_s (s := { s2 with cr := CR, l := woken s.l (fun c => c.over) j }) (k := j) (c := ⟨n, q, 8, a, u, t, 0, g⟩) (c0 := ⟨n, q, 2, a, u, t, x, g⟩) hq HAT2.out (by rw [woken_len]; omega) hcrb ⟨by dsimp only; omega, by dsimp only; omega⟩
      dsimp only at h9
      rw [hset, ← HG.out] at h9
      exact h9
    clear hg hset hCR hbd hcrb
    go_wp2_with (((with_reducible_and_instances (show wpList _ _ _ (Oper.mk _ (Op.load 36 _ ) _ _ _ _ :: _) _ _)); refine stop_here ?_))
    refine ⟨?_⟩
    refine wl_load (cs := ({ s2 with cr := CR } : Sv).arr (.slice (some ⟨gg, oo, none⟩) s.l.length c')) (fr := (0, 0)) (g := W0.heap.size) Try.underlying36 rfl info7s rfl rfl rfl (alloc_old (by omega) HS3.out) (by rfl) ?_
    go_wp2_with (first | ((with_reducible_and_instances (show wpList _ _ _ (Oper.mk _ (Op.load 69 _) _ _ _ _ :: _) _ _)); refine wl_load Try.underlying69 rfl info8r rfl rfl rfl (by (repeat (first | assumption | (with_reducible refine alloc_at ?_; (focus (first | omega | (simp; done) | (simp; omega)))) | (with_reducible refine boxed_at ?_; (focus (first | omega | (simp; done) | (simp; omega)))) | (with_reducible refine alloc_old ?_ ?_; (focus (first | omega | (simp; done) | (simp; omega)))) | (with_reducible refine boxed_old ?_ ?_; (focus (first | omega | (simp; done) | (simp; omega)))) | (with_reducible refine drew_old ?_)))) (by rfl) ?_))
    refine (HCH.out _ ((HY.out.kept fun i _ h9 => alloc_block_old (by omega)).more (Nat.zero_le _) (by simp; omega))).mono ?_
    rintro e w3 ⟨v3, rfl, hc3, hb3⟩
    obtain ⟨A3, c3, hv3, hc31, hc32, _⟩ := id hc3
    rw [woken_len] at hv3 hc31
    subst hv3
    have hS5 : w3.heap[W0.heap.size]? = some (.cells (({ s2 with cr := CR } : Sv).arr (.slice (some ⟨gg, oo, none⟩) s.l.length c')) 36 (0, 0)) := below_block hb3 (alloc_old (by omega) HS3.out)
    have hkk : ∀ i, i < wr.heap.size → w3.heap[i]? = wr.heap[i]? := fun i h9 => (hb3.block i (by rw [World.size_alloc]; omega)).trans (alloc_block_old h9)
    have HB5 : Hid (w3.heap[w.heap.size]? = some (.cells b.arr 73 (0, 0))) := (hkk _ (by omega)).trans HB2.out
    have HO5 : Hid (w3.cell? ⟨w.heap.size + 1, 1, none⟩ = some (.int .i64 (i : Int))) := (World.cell?_of_block (a := ⟨w.heap.size + 1, 1, none⟩) (hkk (w.heap.size + 1) (by omega))).trans HO2.out
    have HZ5 : Hid (w3.heap[w.heap.size + 1 + 1]? = some (.cells Try.zeroCells73 73 (0, 0))) := (hkk _ (by omega)).trans HZ2.out
    have HW5 : Hid (Below w.heap.size w w3) := (HW2.out.alloc HW2.out.size _).trans (hb3.mono (by have := HW2.out.size; simp; omega))
    have hz35 : wr.heap.size + 1 ≤ w3.heap.size := by have := hb3.size; rw [World.size_alloc] at this; exact this
    have HC3 : Hid (Cys w3 (wr.heap.size + 1) w3.heap.size (.slice A3 s.l.length c3) (woken s.l (fun c => c.over) (j + 1))) := by have := hc3; rw [World.size_alloc] at this; exact this
    clear hb3 hc3 hkk q0 q1 p2 q3 q4 q5 q6 q7 m0 m1 m2 m3 m4 m5 m6
    go_wp2_with (((with_reducible_and_instances (show wpList _ _ _ (Oper.mk _ (Op.store 36 _ _ ) _ _ _ _ :: _) _ _)); refine stop_here ?_))
    refine ⟨?_⟩
    refine wl_store (cs := ({ s2 with cr := CR } : Sv).arr (.slice (some ⟨gg, oo, none⟩) s.l.length c')) (cs' := ({ s2 with cr := s.cr + gainOf (fun c => c.over) (s.l.take (j + 1)) } : Sv).arr (.slice A3 s.l.length c3)) (g := W0.heap.size) info7s rfl rfl rfl rfl hS5 (by rfl) (by rfl) (Sv.arr_one rfl) ?_
    go_wp2
    go_roundw
    case rel =>
      refine ⟨j + 1, A3, c3, by omega, by go_num, boxed_below HW5.out (by have := HW2.out.size; omega), boxed_old (by omega) HB5.out, ?_, boxed_old (by omega) HZ5.out, boxed_at (by omega), ?_, hc31, hc32⟩
      · exact (World.cell?_of_block (a := ⟨w.heap.size + 1, 1, none⟩) (boxed_block_other (show w.heap.size + 1 ≠ W0.heap.size by omega))).trans HO5.out
      · exact ⟨wr.heap.size + 1, w3.heap.size, .inr (by omega), by simp, HC3.out.kept fun i h9 _ => boxed_block_other (by omega)⟩
    case measure => simp [intOf]; omega
set_option maxHeartbeats 8000000 in
theorem step_cancel_two {w : World} {b : Bk} {i : Nat} (hi : i < 32) (hone : b.One) (hst : (b.s i).st = 2) {b0 c0 : Nat} (hc0 : c0 ≤ w.heap.size) (hl : Cys w b0 c0 (b.v i) (b.s i).l) (hlen : (b.s i).l.length ≤ 100000) (hcr : -100000000000 ≤ (b.s i).cr ∧ (b.s i).cr ≤ 100000000000) (hu : ∀ c ∈ (b.s i).l, (-1000000000000 ≤ c.u ∧ c.u ≤ 1000000000000) ∧ 0 ≤ c.t ∧ c.t ≤ 1000) :
    Calls Try.prog 32 #[.agg b.arr, .agg #[.int .u8 7, .int .i64 (i : Int), .int .i64 0, .int .i64 0, .int .i64 0, .int .u8 0, .int .i64 0, .int .i64 0, .bool false, .bool false, .int .u8 0, .int .i64 0, .int .i64 0, .int .i64 0, .int .i64 0, .int .u8 0]] w fun e w' => ∃ v', e = .returned (.tuple #[.agg (b.put i ({ b.s i with st := 3, cr := (b.s i).cr + gainOf (fun c => c.over) (b.s i).l, l := (b.s i).l.map (fun c => c.over) } : Sv) v').arr, .int .i64 0]) ∧ (Cys w' b0 c0 v' ((b.s i).l.map (fun c => c.over)) ∨ Cys w' w.heap.size w'.heap.size v' ((b.s i).l.map (fun c => c.over))) ∧ Below w.heap.size w w' := by
  obtain ⟨v0, hv0⟩ : ∃ v0, b.v i = v0 := ⟨_, rfl⟩
  rw [hv0] at hl
  have hvf := hl
  obtain ⟨VA, vc, hvv, hvc, hvm, _⟩ := hvf
  have HL0 := Lib.hid hl
  have HV0 := Lib.hid hv0
  have HVV := Lib.hid hvv
  clear hl hv0 hvv
  obtain ⟨s, hs⟩ : ∃ s, b.s i = s := ⟨_, rfl⟩
  obtain ⟨v, hv⟩ : ∃ v, b.v i = v := ⟨_, rfl⟩
  rw [hs] at hst hlen hcr hu HL0 HVV hvc
  have hv1 : v.oneCell' = true := by rw [← hv]; exact hone.2 i hi
  have HON := Lib.hid hone
  have HS := Lib.hid hs
  have HV := Lib.hid hv
  have hi0 : (0 : Int) ≤ (i : Int) := by omega
  have hi1 : (i : Int) < 32 := by omega
  have HRG : Hid (∀ X : World, X.heap[w.heap.size]? = some (.cells b.arr 73 (0, 0)) → X.rangeAt w.heap.size (2 + i * 7) (s.arr v).toList) := fun X hX => by
    have := Bk.range hX hi
    rw [hs, hv] at this
    exact this
  clear hs hv hone
  go_enter Try.func32, Try.ntmps32
  go_upto_region 30 with fail
  obtain ⟨W0, hW0⟩ : ∃ W0, ((w.alloc (.cells b.arr 73)).alloc (.cells #[.int .u8 7, .int .i64 (i : Int), .int .i64 0, .int .i64 0, .int .i64 0, .int .u8 0, .int .i64 0, .int .i64 0, .bool false, .bool false, .int .u8 0, .int .i64 0, .int .i64 0, .int .i64 0, .int .i64 0, .int .u8 0] 61)).alloc (.cells Try.zeroCells73 73) = W0 := ⟨_, rfl⟩
  have hB : W0.heap[w.heap.size]? = some (.cells b.arr 73 (0, 0)) := by rw [← hW0]; exact alloc_old (by simp; omega) (alloc_old (by simp) (alloc_at rfl))
  have hO : W0.heap[w.heap.size + 1]? = some (.cells #[.int .u8 7, .int .i64 (i : Int), .int .i64 0, .int .i64 0, .int .i64 0, .int .u8 0, .int .i64 0, .int .i64 0, .bool false, .bool false, .int .u8 0, .int .i64 0, .int .i64 0, .int .i64 0, .int .i64 0, .int .u8 0] 61 (0, 0)) := by rw [← hW0]; exact alloc_old (by simp) (alloc_at (by simp))
  have hZ : W0.heap[w.heap.size + 1 + 1]? = some (.cells Try.zeroCells73 73 (0, 0)) := by rw [← hW0]; exact alloc_at (by simp)
  have hW : Below w.heap.size w W0 := by rw [← hW0]; exact (((Below.refl _ w).alloc (Nat.le_refl _) _).alloc (by simp) _).alloc (by simp; omega) _
  have hz2 : w.heap.size + 1 + 1 < W0.heap.size := (Array.getElem?_eq_some_iff.1 hZ).1
  have hz1 : w.heap.size + 1 < W0.heap.size := by omega
  have hz0 : w.heap.size < W0.heap.size := by omega
  rw [hW0]
  clear hW0
  obtain ⟨o0, o1, o2, o3, o10, o11, o12, o13, o14, o15⟩ := ocells hO
  have HW := Lib.hid hW
  have HB := Lib.hid hB
  have e9 := boxed_self hB
  rw [e9]
  clear e9 hW hB hO
  have HU := Lib.hid hu
  obtain ⟨hcr0, hcr1⟩ := hcr
  have hvf : v = .slice VA s.l.length vc := by rw [← HV.out, HV0.out]; exact HVV.out
  have hl : Cys w b0 c0 v s.l := by rw [← HV.out, HV0.out]; exact HL0.out
  have HL := Lib.hid hl
  clear HL0 HVV hl hu
  subst hvf
  have d0 : (s.st == 0) = false := by rw [hst]; decide
  have n0 : (s.st != 0) = true := by rw [hst]; decide
  have d1 : (s.st == 1) = false := by rw [hst]; decide
  have n1 : (s.st != 1) = true := by rw [hst]; decide
  have d2 : (s.st == 2) = true := by rw [hst]; decide
  have n2 : (s.st != 2) = false := by rw [hst]; decide
  have d3 : (s.st == 3) = false := by rw [hst]; decide
  have n3 : (s.st != 3) = true := by rw [hst]; decide
  clear hst
  go_upto_region 77 with (first | ((with_reducible_and_instances (show wpList _ _ _ (Oper.mk _ (Op.load 36 _ ) _ _ _ _ :: _) _ _)); refine wpList_load_mid rfl _ _ rfl w.heap.size (2 + i * 7) rfl (s.arr (.slice VA s.l.length vc)).toList _ (HRG.out _ (boxed_at hz0)) Try.underlying36 rfl info7s ?_; rw [Array.toArray_toList]) | ((with_reducible_and_instances (show wpList _ _ _ (Oper.mk _ (Op.store 36 _ _ ) _ _ _ _ :: _) _ _)); refine wl_store info7s rfl rfl rfl rfl (by (repeat (first | assumption | (with_reducible refine alloc_at ?_; (focus (first | omega | (simp; done) | (simp; omega)))) | (with_reducible refine boxed_at ?_; (focus (first | omega | (simp; done) | (simp; omega)))) | (with_reducible refine alloc_old ?_ ?_; (focus (first | omega | (simp; done) | (simp; omega)))) | (with_reducible refine boxed_old ?_ ?_; (focus (first | omega | (simp; done) | (simp; omega)))) | (with_reducible refine drew_old ?_)))) (by rfl) (by rfl) (Sv.arr_one rfl) ?_))
  obtain ⟨s2, hs2⟩ : ∃ s2, ({ s with st := 3 } : Sv) = s2 := ⟨_, rfl⟩
  have HS2 := Lib.hid hs2
  obtain ⟨W1, hW1⟩ : ∃ W1, boxed ((boxed W0 w.heap.size b.arr 73).alloc (.cells #[.int .u8 0, .int .i64 0, .int .i64 0, .int .i64 0, .int .i64 0, .bool false, .slice none 0 0] 36)) W0.heap.size (s2.arr (.slice VA s.l.length vc)) 36 = W1 := ⟨_, rfl⟩
  have hB1 : W1.heap[w.heap.size]? = some (.cells b.arr 73 (0, 0)) := by rw [← hW1]; exact boxed_old (by omega) (alloc_old (by simp; omega) (boxed_at hz0))
  have hS1 : W1.heap[W0.heap.size]? = some (.cells (s2.arr (.slice VA s.l.length vc)) 36 (0, 0)) := by rw [← hW1]; exact boxed_at (by simp)
  have hZ1 : W1.heap[w.heap.size + 1 + 1]? = some (.cells Try.zeroCells73 73 (0, 0)) := by rw [← hW1]; exact boxed_old (by omega) (alloc_old (by simp; omega) (boxed_old (by omega) hZ))
  have hk1 : ∀ i, i < W0.heap.size → i ≠ w.heap.size → W1.heap[i]? = W0.heap[i]? := fun i h1 h2 => by
    rw [← hW1, boxed_block_other (by omega), alloc_block_old (by rw [boxed_size]; omega), boxed_block_other (by omega)]
  have hO1 : W1.cell? ⟨w.heap.size + 1, 1, none⟩ = some (.int .i64 (i : Int)) := (World.cell?_of_block (a := ⟨w.heap.size + 1, 1, none⟩) (hk1 (w.heap.size + 1) (by omega) (by omega))).trans o1
  have HW1 : Hid (Below w.heap.size w W1) := by
    show Below _ _ _
    rw [← hW1]; exact boxed_below ((boxed_below HW.out (Nat.le_refl _)).alloc (by simp; omega) _) (by omega)
  have HL1 : Hid (Cyb b0 c0 W0.heap.size W1 (.slice VA s.l.length vc) s.l) := ⟨b0, c0, .inl ⟨Nat.le_refl _, Nat.le_refl _⟩, by have := HW1.out.size; omega, HL.out.kept fun i _ h2 => (hk1 i (by omega) (by omega)).trans (HW.out.block i (by omega))⟩
  have hz1s : W0.heap.size < W1.heap.size := (Array.getElem?_eq_some_iff.1 hS1).1
  rw [hs2, hW1]
  clear hs2 hW1 hk1 o0 o1 o2 o3 o10 o11 o12 o13 o14 o15 hZ HL
  go_wp2
  go_loopw [15] (fun ii wq => ∃ (j : Nat) (A' : Option Addr) (c' : Nat), j ≤ s.l.length ∧ ii = .int .i64 j ∧ Hid (Below w.heap.size w wq) ∧ Hid (wq.heap[w.heap.size]? = some (.cells b.arr 73 (0, 0))) ∧ Hid (wq.cell? ⟨w.heap.size + 1, 1, none⟩ = some (.int .i64 (i : Int))) ∧ Hid (wq.heap[w.heap.size + 1 + 1]? = some (.cells Try.zeroCells73 73 (0, 0))) ∧ Hid (wq.heap[W0.heap.size]? = some (.cells (({ s2 with cr := s.cr + gainOf (fun c => c.over) (s.l.take j) } : Sv).arr (.slice A' s.l.length c')) 36 (0, 0))) ∧ Hid (Cyb b0 c0 W0.heap.size wq (.slice A' s.l.length c') (woken s.l (fun c => c.over) j)) ∧ s.l.length ≤ c' ∧ c' ≤ maxLen) (fun ii _ => s.l.length - (intOf ii).toNat)
  case atStart =>
    refine ⟨0, VA, vc, by omega, rfl, HW1, hB1, hO1, hZ1, ?_, ?_, hvc, hvm⟩
    · rw [show ({ s2 with cr := s.cr + gainOf (fun c => c.over) (s.l.take 0) } : Sv) = s2 from by rw [← HS2.out]; show Sv.mk _ _ _ _ (s.cr + 0) _ _ = _; rw [Int.add_zero]]
      exact hS1
    · rw [woken_zero]; exact HL1.out
  case round =>
    obtain ⟨j, A', c', hj, rfl, HW2, HB2, HO2, HZ2, HS3, HL2, hc1, hc2⟩ := hrel
    have hzs : W0.heap.size < wr.heap.size := (Array.getElem?_eq_some_iff.1 HS3.out).1
    obtain ⟨m0, m1, m2, m3, m4, m5, m6⟩ := scells HS3.out
    by_cases hlt : j < s.l.length
    case neg =>
      obtain rfl : j = s.l.length := by omega
      have dlt : decide ((s.l.length : Int) < (s.l.length : Int)) = false := by simp
      rw [woken_all] at HL2
      rw [List.take_length] at HS3
      obtain ⟨s9, hs9⟩ : ∃ s9, ({ s2 with cr := s.cr + gainOf (fun c => c.over) s.l, l := s.l.map (fun c => c.over) } : Sv) = s9 := ⟨_, rfl⟩
      have hS1 : wr.heap[W0.heap.size]? = some (.cells (s9.arr (.slice A' s.l.length c')) 36 (0, 0)) := by rw [← hs9]; exact HS3.out
      have HPUT : Hid (∀ v', b.put i ({ b.s i with st := 3, cr := (b.s i).cr + gainOf (fun c => c.over) (b.s i).l, l := (b.s i).l.map (fun c => c.over) } : Sv) v' = b.put i s9 v') := fun v' => by rw [HS.out, ← hs9, ← HS2.out]
      have HRES : Hid (s9.l = s.l.map (fun c => c.over)) := by
        show _ = _
        rw [← hs9]
      have hb2 : (b.put i s9 (.slice A' s.l.length c')).arr.all (·.oneCell') = true := (HON.out.put i s9 rfl).arr
      have hB1 := HB2.out
      have hZ1 := HZ2.out
      have hO1 := HO2.out
      have hz10 : w.heap.size < wr.heap.size := by omega
      have hz12 : w.heap.size + 1 + 1 < wr.heap.size := by omega
      have hz1s : W0.heap.size < wr.heap.size := hzs
      obtain ⟨W1, hW1⟩ : ∃ W1, wr = W1 := ⟨_, rfl⟩
      rw [hW1] at hB1 hZ1 hO1 hS1 HW2 hz10 hz12 hz1s HL2 m0 m1 m2 m3 m4 m5 m6 ⊢
      have HW1 := HW2
      clear hW1 hs9 hlt hj HB2 HZ2 HO2 HS3
      go_upto_region 93 with fail
      have e9 := boxed_self hB1
      rw [e9]
      clear e9 m0 m1 m2 m3 m4 m5 m6
      go_wp2_with (((with_reducible_and_instances (show wpList _ _ _ (Oper.mk _ (Op.load 36 _ ) _ _ _ _ :: _) _ _)); refine stop_here ?_))
      refine ⟨?_⟩
      refine wl_load (cs := s9.arr (.slice A' s.l.length c')) (fr := (0, 0)) (g := W0.heap.size) Try.underlying36 rfl info7s rfl rfl rfl (boxed_old (by omega) hS1) (by rfl) ?_
      go_wp2_with (((with_reducible_and_instances (show wpList _ _ _ (Oper.mk _ (Op.store 36 _ _ ) _ _ _ _ :: _) _ _)); refine stop_here ?_))
      refine ⟨?_⟩
      refine wpList_store_mid rfl _ _ _ rfl (w.heap.size) (2 + i * 7) (s9.arr (.slice A' s.l.length c')) rfl rfl (Bk.there (by omega) hi) info7s (Sv.arr_one rfl) ?_
      rw [Bk.store]
      go_wp2_with (((with_reducible_and_instances (show wpList _ _ _ (Oper.mk _ (Op.load 73 _ ) _ _ _ _ :: _) _ _)); refine stop_here ?_))
      refine ⟨?_⟩
      refine wl_load (cs := (b.put i s9 (.slice A' s.l.length c')).arr) (fr := (0, 0)) (g := w.heap.size) Try.underlying73 rfl Bk.info rfl rfl rfl (boxed_at (by omega)) (Bk.arr_size _) ?_
      go_wp2_with (((with_reducible_and_instances (show wpList _ _ _ (Oper.mk _ (Op.store 73 _ _ ) _ _ _ _ :: _) _ _)); refine stop_here ?_))
      refine ⟨?_⟩
      refine wl_store (g := w.heap.size + 1 + 1) Bk.info rfl rfl rfl rfl (boxed_old (by omega) hZ1) Bk.zero_size (Bk.arr_size _) hb2 ?_
      go_wp2_with (fail)
      refine bodyPost_ret (results_row_tmp rfl _ _ (w.heap.size + 1 + 1) 73 _ (0, 0) _ rfl (boxed_at (by rw [boxed_size]; omega)) Try.underlying73 rfl (by rw [Bk.arr_size]; exact Bk.info)) rfl ?_
      exact ⟨.slice A' s.l.length c', by rw [HPUT.out]; rfl, by rw [HS.out]; exact (HL2.out.kept (by simp) fun i _ h9 => (boxed_block_other (by omega)).trans (boxed_block_other (by omega))).parted (by omega), boxed_below (boxed_below HW1.out (Nat.le_refl _)) (by omega)⟩
    obtain ⟨z, hz⟩ : ∃ z, s.l[j]? = some z := ⟨s.l[j], List.getElem?_eq_getElem hlt⟩
    have huz := HU.out z (List.mem_of_getElem? hz)
    obtain ⟨bb, cc, hap, hcc, hcys⟩ := HL2.out
    have hat := woken_at (f := fun c => c.over) hz
    obtain ⟨gg, oo, cap, hv, hjl, _, _, hbg, hgc, hr⟩ := hcys.at_ hat
    rw [woken_len] at hv hjl
    injection hv with hA _ hcap'
    subst hA hcap'
    have dlt : decide ((j : Int) < (s.l.length : Int)) = true := by simpa using hlt
    have k0 : (0 : Int) ≤ (j : Int) := by omega
    have k1 : (j : Int) < (s.l.length : Int) := by omega
    have HZ := Lib.hid hz
    have HY := Lib.hid hcys
    have HX := Lib.hid hap
    have HAT2 := Lib.hid hat
    have HRC := Lib.hid hr
    obtain ⟨n, q, f, a, u, t, x, g⟩ := z
    obtain ⟨⟨hu0, hu1⟩, ht0, ht1⟩ := huz
    dsimp only at hu0 hu1 ht0 ht1
    have q0 : wr.cell? ⟨gg, oo + j * 8, none⟩ = some (.int .i64 n) := hr 0 _ rfl
    have q1 : wr.cell? ⟨gg, oo + j * 8 + 1, none⟩ = some (.int .i64 q) := hr 1 _ rfl
    have p2 : wr.cell? ⟨gg, oo + j * 8 + 2, none⟩ = some (.int .u8 f) := hr 2 _ rfl
    have q3 : wr.cell? ⟨gg, oo + j * 8 + 3, none⟩ = some (.int .i64 a) := hr 3 _ rfl
    have q4 : wr.cell? ⟨gg, oo + j * 8 + 4, none⟩ = some (.int .i64 u) := hr 4 _ rfl
    have q5 : wr.cell? ⟨gg, oo + j * 8 + 5, none⟩ = some (.int .i64 t) := hr 5 _ rfl
    have q6 : wr.cell? ⟨gg, oo + j * 8 + 6, none⟩ = some (.int .i64 x) := hr 6 _ rfl
    have q7 : wr.cell? ⟨gg, oo + j * 8 + 7, none⟩ = some (.bool g) := hr 7 _ rfl
    clear hz hat hr hap hcys HL2
    by_cases hw : f = 2
    case neg =>
      have hsame : Cv.over ⟨n, q, f, a, u, t, x, g⟩ = ⟨n, q, f, a, u, t, x, g⟩ := over_no hw
      have d2 : (f == 2) = false := by simpa using hw
      have hg := gain_next (f := fun c => c.over) HZ.out s.cr
      rw [hsame, show Cy.gain (s.cr + gainOf (fun c => c.over) (s.l.take j)) ⟨n, q, f, a, u, t, x, g⟩ ⟨n, q, f, a, u, t, x, g⟩ = s.cr + gainOf (fun c => c.over) (s.l.take j) from if_neg (fun h => by have h1 := h.1; have h2 := h.2; dsimp only at h1 h2; omega)] at hg
      have HG := Lib.hid hg
      clear hg
      have HSM := Lib.hid hsame
      clear hsame hw
      go_wp2
      go_roundw
      case rel => exact ⟨j + 1, _, c', by omega, by go_num, HW2, HB2, HO2, HZ2, by rw [HG.out]; exact HS3, by rw [woken_same (f := fun c => c.over) HZ.out HSM.out]; exact ⟨bb, cc, HX.out, hcc, HY.out⟩, hc1, hc2⟩
      case measure => simp [intOf]; omega
    obtain rfl := hw
    have hg := gain_next (f := fun c => c.over) HZ.out s.cr
    have hset := woken_next (f := fun c => c.over) HZ.out
    rw [over_yes] at hg hset
    have hbd := gain_bd (f := fun c => c.over) (l := s.l) (fun c hc => by rw [over_u]; exact (HU.out c hc).1) j
    obtain ⟨CR, hCR⟩ : ∃ CR, s.cr + gainOf (fun c => c.over) (s.l.take j) = CR := ⟨_, rfl⟩
    rw [hCR] at hg HS3 m4
    have HG := Lib.hid hg
    have hcrb : -1000000000000000000 ≤ CR ∧ CR ≤ 1000000000000000000 := by rw [← hCR]; omega
    have HCH : Hid (∀ w2 : World, Cys w2 0 w2.heap.size (.slice (some ⟨gg, oo, none⟩) s.l.length c') (woken s.l (fun c => c.over) j) → Calls Try.prog 47 #[.agg (({ s2 with cr := CR } : Sv).arr (.slice (some ⟨gg, oo, none⟩) s.l.length c')), .int .i64 j, .agg #[.int .i64 n, .int .i64 q, .int .u8 8, .int .i64 a, .int .i64 u, .int .i64 t, .int .i64 0, .bool g]] w2 fun e w' => ∃ v', e = .returned (.agg (({ s2 with cr := s.cr + gainOf (fun c => c.over) (s.l.take (j + 1)) } : Sv).arr v')) ∧ Cys w' w2.heap.size w'.heap.size v' (woken s.l (fun c => c.over) (j + 1)) ∧ Below w2.heap.size w2 w') := fun w2 hq => by
      have h9 := refchange_s (s := { s2 with cr := CR, l := woken s.l (fun c => c.over) j }) (k := j) (c := ⟨n, q, 8, a, u, t, 0, g⟩) (c0 := ⟨n, q, 2, a, u, t, x, g⟩) hq HAT2.out (by rw [woken_len]; omega) hcrb ⟨by dsimp only; omega, by dsimp only; omega⟩
      dsimp only at h9
      rw [hset, ← HG.out] at h9
      exact h9
    clear hg hset hCR hbd hcrb
    go_wp2_with (((with_reducible_and_instances (show wpList _ _ _ (Oper.mk _ (Op.load 36 _ ) _ _ _ _ :: _) _ _)); refine stop_here ?_))
    refine ⟨?_⟩
    refine wl_load (cs := ({ s2 with cr := CR } : Sv).arr (.slice (some ⟨gg, oo, none⟩) s.l.length c')) (fr := (0, 0)) (g := W0.heap.size) Try.underlying36 rfl info7s rfl rfl rfl (alloc_old (by omega) HS3.out) (by rfl) ?_
    go_wp2_with (first | ((with_reducible_and_instances (show wpList _ _ _ (Oper.mk _ (Op.load 69 _) _ _ _ _ :: _) _ _)); refine wl_load Try.underlying69 rfl info8r rfl rfl rfl (by (repeat (first | assumption | (with_reducible refine alloc_at ?_; (focus (first | omega | (simp; done) | (simp; omega)))) | (with_reducible refine boxed_at ?_; (focus (first | omega | (simp; done) | (simp; omega)))) | (with_reducible refine alloc_old ?_ ?_; (focus (first | omega | (simp; done) | (simp; omega)))) | (with_reducible refine boxed_old ?_ ?_; (focus (first | omega | (simp; done) | (simp; omega)))) | (with_reducible refine drew_old ?_)))) (by rfl) ?_))
    refine (HCH.out _ ((HY.out.kept fun i _ h9 => alloc_block_old (by omega)).more (Nat.zero_le _) (by simp; omega))).mono ?_
    rintro e w3 ⟨v3, rfl, hc3, hb3⟩
    obtain ⟨A3, c3, hv3, hc31, hc32, _⟩ := id hc3
    rw [woken_len] at hv3 hc31
    subst hv3
    have hS5 : w3.heap[W0.heap.size]? = some (.cells (({ s2 with cr := CR } : Sv).arr (.slice (some ⟨gg, oo, none⟩) s.l.length c')) 36 (0, 0)) := below_block hb3 (alloc_old (by omega) HS3.out)
    have hkk : ∀ i, i < wr.heap.size → w3.heap[i]? = wr.heap[i]? := fun i h9 => (hb3.block i (by rw [World.size_alloc]; omega)).trans (alloc_block_old h9)
    have HB5 : Hid (w3.heap[w.heap.size]? = some (.cells b.arr 73 (0, 0))) := (hkk _ (by omega)).trans HB2.out
    have HO5 : Hid (w3.cell? ⟨w.heap.size + 1, 1, none⟩ = some (.int .i64 (i : Int))) := (World.cell?_of_block (a := ⟨w.heap.size + 1, 1, none⟩) (hkk (w.heap.size + 1) (by omega))).trans HO2.out
    have HZ5 : Hid (w3.heap[w.heap.size + 1 + 1]? = some (.cells Try.zeroCells73 73 (0, 0))) := (hkk _ (by omega)).trans HZ2.out
    have HW5 : Hid (Below w.heap.size w w3) := (HW2.out.alloc HW2.out.size _).trans (hb3.mono (by have := HW2.out.size; simp; omega))
    have hz35 : wr.heap.size + 1 ≤ w3.heap.size := by have := hb3.size; rw [World.size_alloc] at this; exact this
    have HC3 : Hid (Cys w3 (wr.heap.size + 1) w3.heap.size (.slice A3 s.l.length c3) (woken s.l (fun c => c.over) (j + 1))) := by have := hc3; rw [World.size_alloc] at this; exact this
    clear hb3 hc3 hkk q0 q1 p2 q3 q4 q5 q6 q7 m0 m1 m2 m3 m4 m5 m6
    go_wp2_with (((with_reducible_and_instances (show wpList _ _ _ (Oper.mk _ (Op.store 36 _ _ ) _ _ _ _ :: _) _ _)); refine stop_here ?_))
    refine ⟨?_⟩
    refine wl_store (cs := ({ s2 with cr := CR } : Sv).arr (.slice (some ⟨gg, oo, none⟩) s.l.length c')) (cs' := ({ s2 with cr := s.cr + gainOf (fun c => c.over) (s.l.take (j + 1)) } : Sv).arr (.slice A3 s.l.length c3)) (g := W0.heap.size) info7s rfl rfl rfl rfl hS5 (by rfl) (by rfl) (Sv.arr_one rfl) ?_
    go_wp2
    go_roundw
    case rel =>
      refine ⟨j + 1, A3, c3, by omega, by go_num, boxed_below HW5.out (by have := HW2.out.size; omega), boxed_old (by omega) HB5.out, ?_, boxed_old (by omega) HZ5.out, boxed_at (by omega), ?_, hc31, hc32⟩
      · exact (World.cell?_of_block (a := ⟨w.heap.size + 1, 1, none⟩) (boxed_block_other (show w.heap.size + 1 ≠ W0.heap.size by omega))).trans HO5.out
      · exact ⟨wr.heap.size + 1, w3.heap.size, .inr (by omega), by simp, HC3.out.kept fun i h9 _ => boxed_block_other (by omega)⟩
    case measure => simp [intOf]; omega
set_option maxHeartbeats 8000000 in
theorem step_card_one {w : World} {b : Bk} {i : Nat} (hi : i < 32) (hone : b.One) (hst : (b.s i).st = 1) {b0 c0 : Nat} (hc0 : c0 ≤ w.heap.size) (hl : Cys w b0 c0 (b.v i) (b.s i).l) (hlen : (b.s i).l.length ≤ 100000) (hcr : -100000000000 ≤ (b.s i).cr ∧ (b.s i).cr ≤ 100000000000) (hu : ∀ c ∈ (b.s i).l, (-1000000000000 ≤ c.u ∧ c.u ≤ 1000000000000) ∧ 0 ≤ c.t ∧ c.t ≤ 1000) :
    Calls Try.prog 32 #[.agg b.arr, .agg #[.int .u8 8, .int .i64 (i : Int), .int .i64 0, .int .i64 0, .int .i64 0, .int .u8 0, .int .i64 0, .int .i64 0, .bool false, .bool false, .int .u8 0, .int .i64 0, .int .i64 0, .int .i64 0, .int .i64 0, .int .u8 0]] w fun e w' => ∃ v', e = .returned (.tuple #[.agg (b.put i ({ b.s i with l := (b.s i).l.map (fun c => c.card) } : Sv) v').arr, .int .i64 0]) ∧ (Cys w' b0 c0 v' ((b.s i).l.map (fun c => c.card)) ∨ Cys w' w.heap.size w'.heap.size v' ((b.s i).l.map (fun c => c.card))) ∧ Below w.heap.size w w' := by
  obtain ⟨v0, hv0⟩ : ∃ v0, b.v i = v0 := ⟨_, rfl⟩
  rw [hv0] at hl
  have hvf := hl
  obtain ⟨VA, vc, hvv, hvc, hvm, _⟩ := hvf
  have HL0 := Lib.hid hl
  have HV0 := Lib.hid hv0
  have HVV := Lib.hid hvv
  clear hl hv0 hvv
  obtain ⟨s, hs⟩ : ∃ s, b.s i = s := ⟨_, rfl⟩
  obtain ⟨v, hv⟩ : ∃ v, b.v i = v := ⟨_, rfl⟩
  rw [hs] at hst hlen hcr hu HL0 HVV hvc
  have hv1 : v.oneCell' = true := by rw [← hv]; exact hone.2 i hi
  have HON := Lib.hid hone
  have HS := Lib.hid hs
  have HV := Lib.hid hv
  have hi0 : (0 : Int) ≤ (i : Int) := by omega
  have hi1 : (i : Int) < 32 := by omega
  have HRG : Hid (∀ X : World, X.heap[w.heap.size]? = some (.cells b.arr 73 (0, 0)) → X.rangeAt w.heap.size (2 + i * 7) (s.arr v).toList) := fun X hX => by
    have := Bk.range hX hi
    rw [hs, hv] at this
    exact this
  clear hs hv hone
  go_enter Try.func32, Try.ntmps32
  go_upto_region 30 with fail
  obtain ⟨W0, hW0⟩ : ∃ W0, ((w.alloc (.cells b.arr 73)).alloc (.cells #[.int .u8 8, .int .i64 (i : Int), .int .i64 0, .int .i64 0, .int .i64 0, .int .u8 0, .int .i64 0, .int .i64 0, .bool false, .bool false, .int .u8 0, .int .i64 0, .int .i64 0, .int .i64 0, .int .i64 0, .int .u8 0] 61)).alloc (.cells Try.zeroCells73 73) = W0 := ⟨_, rfl⟩
  have hB : W0.heap[w.heap.size]? = some (.cells b.arr 73 (0, 0)) := by rw [← hW0]; exact alloc_old (by simp; omega) (alloc_old (by simp) (alloc_at rfl))
  have hO : W0.heap[w.heap.size + 1]? = some (.cells #[.int .u8 8, .int .i64 (i : Int), .int .i64 0, .int .i64 0, .int .i64 0, .int .u8 0, .int .i64 0, .int .i64 0, .bool false, .bool false, .int .u8 0, .int .i64 0, .int .i64 0, .int .i64 0, .int .i64 0, .int .u8 0] 61 (0, 0)) := by rw [← hW0]; exact alloc_old (by simp) (alloc_at (by simp))
  have hZ : W0.heap[w.heap.size + 1 + 1]? = some (.cells Try.zeroCells73 73 (0, 0)) := by rw [← hW0]; exact alloc_at (by simp)
  have hW : Below w.heap.size w W0 := by rw [← hW0]; exact (((Below.refl _ w).alloc (Nat.le_refl _) _).alloc (by simp) _).alloc (by simp; omega) _
  have hz2 : w.heap.size + 1 + 1 < W0.heap.size := (Array.getElem?_eq_some_iff.1 hZ).1
  have hz1 : w.heap.size + 1 < W0.heap.size := by omega
  have hz0 : w.heap.size < W0.heap.size := by omega
  rw [hW0]
  clear hW0
  obtain ⟨o0, o1, o2, o3, o10, o11, o12, o13, o14, o15⟩ := ocells hO
  have HW := Lib.hid hW
  have HB := Lib.hid hB
  have e9 := boxed_self hB
  rw [e9]
  clear e9 hW hB hO
  have HU := Lib.hid hu
  obtain ⟨hcr0, hcr1⟩ := hcr
  have hvf : v = .slice VA s.l.length vc := by rw [← HV.out, HV0.out]; exact HVV.out
  have hl : Cys w b0 c0 v s.l := by rw [← HV.out, HV0.out]; exact HL0.out
  have HL := Lib.hid hl
  clear HL0 HVV hl hu
  subst hvf
  have d0 : (s.st == 0) = false := by rw [hst]; decide
  have n0 : (s.st != 0) = true := by rw [hst]; decide
  have d1 : (s.st == 1) = true := by rw [hst]; decide
  have n1 : (s.st != 1) = false := by rw [hst]; decide
  have d2 : (s.st == 2) = false := by rw [hst]; decide
  have n2 : (s.st != 2) = true := by rw [hst]; decide
  have d3 : (s.st == 3) = false := by rw [hst]; decide
  have n3 : (s.st != 3) = true := by rw [hst]; decide
  clear hst
  go_upto_region 88 with (first | ((with_reducible_and_instances (show wpList _ _ _ (Oper.mk _ (Op.load 36 _ ) _ _ _ _ :: _) _ _)); refine wpList_load_mid rfl _ _ rfl w.heap.size (2 + i * 7) rfl (s.arr (.slice VA s.l.length vc)).toList _ (HRG.out _ (boxed_at hz0)) Try.underlying36 rfl info7s ?_; rw [Array.toArray_toList]) | ((with_reducible_and_instances (show wpList _ _ _ (Oper.mk _ (Op.store 36 _ _ ) _ _ _ _ :: _) _ _)); refine wl_store info7s rfl rfl rfl rfl (by (repeat (first | assumption | (with_reducible refine alloc_at ?_; (focus (first | omega | (simp; done) | (simp; omega)))) | (with_reducible refine boxed_at ?_; (focus (first | omega | (simp; done) | (simp; omega)))) | (with_reducible refine alloc_old ?_ ?_; (focus (first | omega | (simp; done) | (simp; omega)))) | (with_reducible refine boxed_old ?_ ?_; (focus (first | omega | (simp; done) | (simp; omega)))) | (with_reducible refine drew_old ?_)))) (by rfl) (by rfl) (Sv.arr_one rfl) ?_))
  obtain ⟨s2, hs2⟩ : ∃ s2, (s : Sv) = s2 := ⟨_, rfl⟩
  have HS2 := Lib.hid hs2
  obtain ⟨W1, hW1⟩ : ∃ W1, boxed ((boxed W0 w.heap.size b.arr 73).alloc (.cells #[.int .u8 0, .int .i64 0, .int .i64 0, .int .i64 0, .int .i64 0, .bool false, .slice none 0 0] 36)) W0.heap.size (s.arr (.slice VA s.l.length vc)) 36 = W1 := ⟨_, rfl⟩
  have hB1 : W1.heap[w.heap.size]? = some (.cells b.arr 73 (0, 0)) := by rw [← hW1]; exact boxed_old (by omega) (alloc_old (by simp; omega) (boxed_at hz0))
  have hS1 : W1.heap[W0.heap.size]? = some (.cells (s2.arr (.slice VA s.l.length vc)) 36 (0, 0)) := by rw [← hs2, ← hW1]; exact boxed_at (by simp)
  have hZ1 : W1.heap[w.heap.size + 1 + 1]? = some (.cells Try.zeroCells73 73 (0, 0)) := by rw [← hW1]; exact boxed_old (by omega) (alloc_old (by simp; omega) (boxed_old (by omega) hZ))
  have hk1 : ∀ i, i < W0.heap.size → i ≠ w.heap.size → W1.heap[i]? = W0.heap[i]? := fun i h1 h2 => by
    rw [← hW1, boxed_block_other (by omega), alloc_block_old (by rw [boxed_size]; omega), boxed_block_other (by omega)]
  have hO1 : W1.cell? ⟨w.heap.size + 1, 1, none⟩ = some (.int .i64 (i : Int)) := (World.cell?_of_block (a := ⟨w.heap.size + 1, 1, none⟩) (hk1 (w.heap.size + 1) (by omega) (by omega))).trans o1
  have HW1 : Hid (Below w.heap.size w W1) := by
    show Below _ _ _
    rw [← hW1]; exact boxed_below ((boxed_below HW.out (Nat.le_refl _)).alloc (by simp; omega) _) (by omega)
  have HL1 : Hid (Cyb b0 c0 W0.heap.size W1 (.slice VA s.l.length vc) s.l) := ⟨b0, c0, .inl ⟨Nat.le_refl _, Nat.le_refl _⟩, by have := HW1.out.size; omega, HL.out.kept fun i _ h2 => (hk1 i (by omega) (by omega)).trans (HW.out.block i (by omega))⟩
  have hz1s : W0.heap.size < W1.heap.size := (Array.getElem?_eq_some_iff.1 hS1).1
  rw [hW1]
  clear hs2 hW1 hk1 o0 o1 o2 o3 o10 o11 o12 o13 o14 o15 hZ HL
  go_wp2
  go_loopw [17] (fun ii wq => ∃ (j : Nat) (A' : Option Addr) (c' : Nat), j ≤ s.l.length ∧ ii = .int .i64 j ∧ Hid (Below w.heap.size w wq) ∧ Hid (wq.heap[w.heap.size]? = some (.cells b.arr 73 (0, 0))) ∧ Hid (wq.cell? ⟨w.heap.size + 1, 1, none⟩ = some (.int .i64 (i : Int))) ∧ Hid (wq.heap[w.heap.size + 1 + 1]? = some (.cells Try.zeroCells73 73 (0, 0))) ∧ Hid (wq.heap[W0.heap.size]? = some (.cells (({ s2 with cr := s.cr } : Sv).arr (.slice A' s.l.length c')) 36 (0, 0))) ∧ Hid (Cyb b0 c0 W0.heap.size wq (.slice A' s.l.length c') (woken s.l (fun c => c.card) j)) ∧ s.l.length ≤ c' ∧ c' ≤ maxLen) (fun ii _ => s.l.length - (intOf ii).toNat)
  case atStart =>
    refine ⟨0, VA, vc, by omega, rfl, HW1, hB1, hO1, hZ1, ?_, ?_, hvc, hvm⟩
    · rw [show ({ s2 with cr := s.cr } : Sv) = s2 from by rw [← HS2.out]]
      exact hS1
    · rw [woken_zero]; exact HL1.out
  case round =>
    obtain ⟨j, A', c', hj, rfl, HW2, HB2, HO2, HZ2, HS3, HL2, hc1, hc2⟩ := hrel
    have hzs : W0.heap.size < wr.heap.size := (Array.getElem?_eq_some_iff.1 HS3.out).1
    obtain ⟨m0, m1, m2, m3, m4, m5, m6⟩ := scells HS3.out
    by_cases hlt : j < s.l.length
    case neg =>
      obtain rfl : j = s.l.length := by omega
      have dlt : decide ((s.l.length : Int) < (s.l.length : Int)) = false := by simp
      rw [woken_all] at HL2
      obtain ⟨s9, hs9⟩ : ∃ s9, ({ s2 with cr := s.cr, l := s.l.map (fun c => c.card) } : Sv) = s9 := ⟨_, rfl⟩
      have hS1 : wr.heap[W0.heap.size]? = some (.cells (s9.arr (.slice A' s.l.length c')) 36 (0, 0)) := by rw [← hs9]; exact HS3.out
      have HPUT : Hid (∀ v', b.put i ({ b.s i with l := (b.s i).l.map (fun c => c.card) } : Sv) v' = b.put i s9 v') := fun v' => by rw [HS.out, ← hs9, ← HS2.out]
      have HRES : Hid (s9.l = s.l.map (fun c => c.card)) := by
        show _ = _
        rw [← hs9]
      have hb2 : (b.put i s9 (.slice A' s.l.length c')).arr.all (·.oneCell') = true := (HON.out.put i s9 rfl).arr
      have hB1 := HB2.out
      have hZ1 := HZ2.out
      have hO1 := HO2.out
      have hz10 : w.heap.size < wr.heap.size := by omega
      have hz12 : w.heap.size + 1 + 1 < wr.heap.size := by omega
      have hz1s : W0.heap.size < wr.heap.size := hzs
      obtain ⟨W1, hW1⟩ : ∃ W1, wr = W1 := ⟨_, rfl⟩
      rw [hW1] at hB1 hZ1 hO1 hS1 HW2 hz10 hz12 hz1s HL2 m0 m1 m2 m3 m4 m5 m6 ⊢
      have HW1 := HW2
      clear hW1 hs9 hlt hj HB2 HZ2 HO2 HS3
      go_upto_region 93 with fail
      have e9 := boxed_self hB1
      rw [e9]
      clear e9 m0 m1 m2 m3 m4 m5 m6
      go_wp2_with (((with_reducible_and_instances (show wpList _ _ _ (Oper.mk _ (Op.load 36 _ ) _ _ _ _ :: _) _ _)); refine stop_here ?_))
      refine ⟨?_⟩
      refine wl_load (cs := s9.arr (.slice A' s.l.length c')) (fr := (0, 0)) (g := W0.heap.size) Try.underlying36 rfl info7s rfl rfl rfl (boxed_old (by omega) hS1) (by rfl) ?_
      go_wp2_with (((with_reducible_and_instances (show wpList _ _ _ (Oper.mk _ (Op.store 36 _ _ ) _ _ _ _ :: _) _ _)); refine stop_here ?_))
      refine ⟨?_⟩
      refine wpList_store_mid rfl _ _ _ rfl (w.heap.size) (2 + i * 7) (s9.arr (.slice A' s.l.length c')) rfl rfl (Bk.there (by omega) hi) info7s (Sv.arr_one rfl) ?_
      rw [Bk.store]
      go_wp2_with (((with_reducible_and_instances (show wpList _ _ _ (Oper.mk _ (Op.load 73 _ ) _ _ _ _ :: _) _ _)); refine stop_here ?_))
      refine ⟨?_⟩
      refine wl_load (cs := (b.put i s9 (.slice A' s.l.length c')).arr) (fr := (0, 0)) (g := w.heap.size) Try.underlying73 rfl Bk.info rfl rfl rfl (boxed_at (by omega)) (Bk.arr_size _) ?_
      go_wp2_with (((with_reducible_and_instances (show wpList _ _ _ (Oper.mk _ (Op.store 73 _ _ ) _ _ _ _ :: _) _ _)); refine stop_here ?_))
      refine ⟨?_⟩
      refine wl_store (g := w.heap.size + 1 + 1) Bk.info rfl rfl rfl rfl (boxed_old (by omega) hZ1) Bk.zero_size (Bk.arr_size _) hb2 ?_
      go_wp2_with (fail)
      refine bodyPost_ret (results_row_tmp rfl _ _ (w.heap.size + 1 + 1) 73 _ (0, 0) _ rfl (boxed_at (by rw [boxed_size]; omega)) Try.underlying73 rfl (by rw [Bk.arr_size]; exact Bk.info)) rfl ?_
      exact ⟨.slice A' s.l.length c', by rw [HPUT.out]; rfl, by rw [HS.out]; exact (HL2.out.kept (by simp) fun i _ h9 => (boxed_block_other (by omega)).trans (boxed_block_other (by omega))).parted (by omega), boxed_below (boxed_below HW1.out (Nat.le_refl _)) (by omega)⟩
    obtain ⟨z, hz⟩ : ∃ z, s.l[j]? = some z := ⟨s.l[j], List.getElem?_eq_getElem hlt⟩
    have huz := HU.out z (List.mem_of_getElem? hz)
    obtain ⟨bb, cc, hap, hcc, hcys⟩ := HL2.out
    have hat := woken_at (f := fun c => c.card) hz
    obtain ⟨gg, oo, cap, hv, hjl, _, _, hbg, hgc, hr⟩ := hcys.at_ hat
    rw [woken_len] at hv hjl
    injection hv with hA _ hcap'
    subst hA hcap'
    have dlt : decide ((j : Int) < (s.l.length : Int)) = true := by simpa using hlt
    have k0 : (0 : Int) ≤ (j : Int) := by omega
    have k1 : (j : Int) < (s.l.length : Int) := by omega
    have HZ := Lib.hid hz
    have HY := Lib.hid hcys
    have HX := Lib.hid hap
    have HAT2 := Lib.hid hat
    have HRC := Lib.hid hr
    obtain ⟨n, q, f, a, u, t, x, g⟩ := z
    obtain ⟨⟨hu0, hu1⟩, ht0, ht1⟩ := huz
    dsimp only at hu0 hu1 ht0 ht1
    have q0 : wr.cell? ⟨gg, oo + j * 8, none⟩ = some (.int .i64 n) := hr 0 _ rfl
    have q1 : wr.cell? ⟨gg, oo + j * 8 + 1, none⟩ = some (.int .i64 q) := hr 1 _ rfl
    have p2 : wr.cell? ⟨gg, oo + j * 8 + 2, none⟩ = some (.int .u8 f) := hr 2 _ rfl
    have q3 : wr.cell? ⟨gg, oo + j * 8 + 3, none⟩ = some (.int .i64 a) := hr 3 _ rfl
    have q4 : wr.cell? ⟨gg, oo + j * 8 + 4, none⟩ = some (.int .i64 u) := hr 4 _ rfl
    have q5 : wr.cell? ⟨gg, oo + j * 8 + 5, none⟩ = some (.int .i64 t) := hr 5 _ rfl
    have q6 : wr.cell? ⟨gg, oo + j * 8 + 6, none⟩ = some (.int .i64 x) := hr 6 _ rfl
    have q7 : wr.cell? ⟨gg, oo + j * 8 + 7, none⟩ = some (.bool g) := hr 7 _ rfl
    clear hz hat hr hap hcys HL2
    by_cases hw : f = 2
    case neg =>
      have hsame : Cv.card ⟨n, q, f, a, u, t, x, g⟩ = ⟨n, q, f, a, u, t, x, g⟩ := card_no hw
      have d2 : (f == 2) = false := by simpa using hw
      have HSM := Lib.hid hsame
      clear hsame hw
      go_wp2
      go_roundw
      case rel => exact ⟨j + 1, _, c', by omega, by go_num, HW2, HB2, HO2, HZ2, HS3, by rw [woken_same (f := fun c => c.card) HZ.out HSM.out]; exact ⟨bb, cc, HX.out, hcc, HY.out⟩, hc1, hc2⟩
      case measure => simp [intOf]; omega
    obtain rfl := hw
    have hcrx : -100000000000 ≤ s2.cr ∧ s2.cr ≤ 100000000000 := by rw [← HS2.out]; exact ⟨hcr0, hcr1⟩
    have hcrx0 := hcrx.1
    have hcrx1 := hcrx.2
    rw [show ({ s2 with cr := s.cr } : Sv) = s2 from by rw [← HS2.out]] at HS3
    have hset := woken_next (f := fun c => c.card) HZ.out
    rw [card_yes] at hset
    have HCH : Hid (∀ w2 : World, Cys w2 0 w2.heap.size (.slice (some ⟨gg, oo, none⟩) s.l.length c') (woken s.l (fun c => c.card) j) → Calls Try.prog 47 #[.agg (s2.arr (.slice (some ⟨gg, oo, none⟩) s.l.length c')), .int .i64 j, .agg #[.int .i64 n, .int .i64 q, .int .u8 1, .int .i64 a, .int .i64 u, .int .i64 (t + 1), .int .i64 0, .bool g]] w2 fun e w' => ∃ v', e = .returned (.agg (s2.arr v')) ∧ Cys w' w2.heap.size w'.heap.size v' (woken s.l (fun c => c.card) (j + 1)) ∧ Below w2.heap.size w2 w') := fun w2 hq => by
      have h9 := refchange_s (s := { s2 with l := woken s.l (fun c => c.card) j }) (k := j) (c := ⟨n, q, 1, a, u, t + 1, 0, g⟩) (c0 := ⟨n, q, 2, a, u, t, x, g⟩) hq HAT2.out (by rw [woken_len]; omega) ⟨by dsimp only; omega, by dsimp only; omega⟩ ⟨by dsimp only; omega, by dsimp only; omega⟩
      rw [show Cy.gain ({ s2 with l := woken s.l (fun c => c.card) j } : Sv).cr ⟨n, q, 2, a, u, t, x, g⟩ ⟨n, q, 1, a, u, t + 1, 0, g⟩ = s2.cr from if_neg (fun h => by have := h.1; dsimp only at this; omega)] at h9
      dsimp only at h9
      rw [hset] at h9
      exact h9
    have ht2 : -9223372036854775808 ≤ t := by omega
    have ht3 : t < 9223372036854775807 := by omega
    clear hset
    go_wp2
    have HS0 : Hid (wr.drew.heap[W0.heap.size]? = some (.cells (s2.arr (.slice (some ⟨gg, oo, none⟩) s.l.length c')) 36 (0, 0)) ∧ wr.drew.rangeAt gg (oo + j * 8) (⟨n, q, 2, a, u, t, x, g⟩ : Cv).cs) := ⟨HS3.out, HRC.out⟩
    refine laneT_start (ord := [0, 1, 2, 3, 4, 5, 6, 7, 8, 9]) (t := 9) (S := fun w' => w'.heap[W0.heap.size]? = some (.cells (s2.arr (.slice (some ⟨gg, oo, none⟩) s.l.length c')) 36 (0, 0)) ∧ w'.rangeAt gg (oo + j * 8) (⟨n, q, 2, a, u, t, x, g⟩ : Cv).cs) rfl (by kernel_rfl) ?_
    refine laneT_take (v := .agg (s2.arr (.slice (some ⟨gg, oo, none⟩) s.l.length c'))) rfl (by kernel_rfl) (by kernel_rfl) (by rfl) (fun W hSw => exec_load rfl rfl (run_loadAt_row W W0.heap.size 36 36 _ (0, 0) _ hSw.1 Try.underlying36 rfl info7s)) (by exact HS0.out) ?_
    simp only [Act.put, List.setIfInBounds_toArray, List.set_cons_zero, List.set_cons_succ]
    iterate 5 (refine laneT_take (v := ?_) rfl (by kernel_rfl) (by kernel_rfl) (by rfl) ?_ (by exact HS0.out) ?_; rotate_left; (focus (intro W hSw; obtain ⟨hSw, hSc⟩ := hSw; obtain ⟨s0, s1, s2, s3, s4, s5, s6⟩ := scells hSw; go_simp; try (with_reducible rfl))); simp only [Act.put, List.setIfInBounds_toArray, List.set_cons_zero, List.set_cons_succ])
    refine laneT_take (v := .agg #[.int .i64 n, .int .i64 q, .int .u8 2, .int .i64 a, .int .i64 u, .int .i64 t, .int .i64 x, .bool g]) rfl (by kernel_rfl) (by kernel_rfl) (by rfl) (fun W hSw => exec_load rfl rfl (run_loadAt_mid W gg (oo + j * 8) 69 _ _ hSw.2 Try.underlying69 rfl info8r)) (by exact HS0.out) ?_
    simp only [Act.put, List.setIfInBounds_toArray, List.set_cons_zero, List.set_cons_succ]
    refine laneT_alone rfl (by kernel_rfl) (by rfl) (fun K hK => ?_)
    go_simp
    refine (refagain_any _ _ _ _ _ _ _ _ _ ht2 ht3).mono ?_
    rintro e w2 ⟨rfl, hb⟩
    have hb2 : Below wr.heap.size wr w2 := (Below.refl _ wr).drew.trans hb
    have hS2 : w2.heap[W0.heap.size]? = some (.cells (s2.arr (.slice (some ⟨gg, oo, none⟩) s.l.length c')) 36 (0, 0)) ∧ w2.rangeAt gg (oo + j * 8) (⟨n, q, 2, a, u, t, x, g⟩ : Cv).cs := ⟨below_block hb2 HS3.out, fun i v9 h9 => (World.cell?_of_block (a := ⟨gg, oo + j * 8 + i, none⟩) (hb2.block gg (by omega))).trans (HRC.out i v9 h9)⟩
    refine hK _ _ (fun _ => hS2) ?_
    clear hK K
    have HBx := Lib.hid hb2
    have HSx := Lib.hid hS2
    have hz2 : wr.heap.size ≤ w2.heap.size := hb2.size
    have HY2 : Hid (Cys w2 0 w2.heap.size (.slice (some ⟨gg, oo, none⟩) s.l.length c') (woken s.l (fun c => c.card) j)) := ((HY.out.kept fun i _ hi => hb2.block i (by omega)).more (Nat.zero_le _) (by omega))
    clear hb hb2 hS2
    refine laneT_alone rfl (by kernel_rfl) (by rfl) (fun K hK => ?_)
    go_simp
    refine (HCH.out _ HY2.out).mono ?_
    rintro e w3 ⟨v3, rfl, hc3, hb3⟩
    have hS3 := below_block hb3 HSx.out.1
    have hS3r : w3.rangeAt gg (oo + j * 8) (⟨n, q, 2, a, u, t, x, g⟩ : Cv).cs := fun i v9 h9 => (World.cell?_of_block (a := ⟨gg, oo + j * 8 + i, none⟩) (hb3.block gg (by omega))).trans (HSx.out.2 i v9 h9)
    refine hK _ _ (fun _ => ⟨hS3, hS3r⟩) ?_
    clear hK K
    have hz3' : w2.heap.size ≤ w3.heap.size := hb3.size
    obtain ⟨A3, c3, hv3, hc31, hc32, _⟩ := id hc3
    rw [woken_len] at hv3 hc31
    subst hv3
    have HC3 := Lib.hid hc3
    have HB3 : Hid (Below wr.heap.size wr w3) := HBx.out.trans (hb3.mono hz2)
    have hS3b : W0.heap.size < w3.heap.size := by omega
    clear hS3r hb3 hc3
    refine laneT_alone rfl (by kernel_rfl) (by rfl) (fun K hK => ?_)
    refine wp_store_row _ _ _ rfl W0.heap.size _ rfl rfl _ _ hS3 (by exact info7s) rfl (Sv.arr_one rfl) ?_
    rw [row_boxed hS3]
    refine hK _ _ (fun h => absurd rfl h) ?_
    clear hK K
    refine laneT_end (by kernel_rfl) ?_
    go_wp2
    go_roundw
    case rel =>
      refine ⟨j + 1, A3, c3, by omega, by go_num, boxed_below (HW2.out.trans (HB3.out.mono HW2.out.size)) (by have := HW2.out.size; omega), boxed_old (by omega) ((HB3.out.block _ (by omega)).trans HB2.out), ?_, boxed_old (by omega) ((HB3.out.block _ (by omega)).trans HZ2.out), by rw [show ({ s2 with cr := s.cr } : Sv) = s2 from by rw [← HS2.out]]; exact boxed_at hS3b, ⟨w2.heap.size, w3.heap.size, .inr (by omega), by simp, ?_⟩, hc31, hc32⟩
      · exact (World.cell?_of_block (a := ⟨w.heap.size + 1, 1, none⟩) ((boxed_block_other (show w.heap.size + 1 ≠ W0.heap.size by omega)).trans (HB3.out.block (w.heap.size + 1) (by omega)))).trans HO2.out
      · exact HC3.out.kept fun i hi _ => boxed_block_other (by omega)
    case measure => simp [intOf]; omega
set_option maxHeartbeats 8000000 in
theorem step_card_two {w : World} {b : Bk} {i : Nat} (hi : i < 32) (hone : b.One) (hst : (b.s i).st = 2) {b0 c0 : Nat} (hc0 : c0 ≤ w.heap.size) (hl : Cys w b0 c0 (b.v i) (b.s i).l) (hlen : (b.s i).l.length ≤ 100000) (hcr : -100000000000 ≤ (b.s i).cr ∧ (b.s i).cr ≤ 100000000000) (hu : ∀ c ∈ (b.s i).l, (-1000000000000 ≤ c.u ∧ c.u ≤ 1000000000000) ∧ 0 ≤ c.t ∧ c.t ≤ 1000) :
    Calls Try.prog 32 #[.agg b.arr, .agg #[.int .u8 8, .int .i64 (i : Int), .int .i64 0, .int .i64 0, .int .i64 0, .int .u8 0, .int .i64 0, .int .i64 0, .bool false, .bool false, .int .u8 0, .int .i64 0, .int .i64 0, .int .i64 0, .int .i64 0, .int .u8 0]] w fun e w' => ∃ v', e = .returned (.tuple #[.agg (b.put i ({ b.s i with l := (b.s i).l.map (fun c => c.card) } : Sv) v').arr, .int .i64 0]) ∧ (Cys w' b0 c0 v' ((b.s i).l.map (fun c => c.card)) ∨ Cys w' w.heap.size w'.heap.size v' ((b.s i).l.map (fun c => c.card))) ∧ Below w.heap.size w w' := by
  obtain ⟨v0, hv0⟩ : ∃ v0, b.v i = v0 := ⟨_, rfl⟩
  rw [hv0] at hl
  have hvf := hl
  obtain ⟨VA, vc, hvv, hvc, hvm, _⟩ := hvf
  have HL0 := Lib.hid hl
  have HV0 := Lib.hid hv0
  have HVV := Lib.hid hvv
  clear hl hv0 hvv
  obtain ⟨s, hs⟩ : ∃ s, b.s i = s := ⟨_, rfl⟩
  obtain ⟨v, hv⟩ : ∃ v, b.v i = v := ⟨_, rfl⟩
  rw [hs] at hst hlen hcr hu HL0 HVV hvc
  have hv1 : v.oneCell' = true := by rw [← hv]; exact hone.2 i hi
  have HON := Lib.hid hone
  have HS := Lib.hid hs
  have HV := Lib.hid hv
  have hi0 : (0 : Int) ≤ (i : Int) := by omega
  have hi1 : (i : Int) < 32 := by omega
  have HRG : Hid (∀ X : World, X.heap[w.heap.size]? = some (.cells b.arr 73 (0, 0)) → X.rangeAt w.heap.size (2 + i * 7) (s.arr v).toList) := fun X hX => by
    have := Bk.range hX hi
    rw [hs, hv] at this
    exact this
  clear hs hv hone
  go_enter Try.func32, Try.ntmps32
  go_upto_region 30 with fail
  obtain ⟨W0, hW0⟩ : ∃ W0, ((w.alloc (.cells b.arr 73)).alloc (.cells #[.int .u8 8, .int .i64 (i : Int), .int .i64 0, .int .i64 0, .int .i64 0, .int .u8 0, .int .i64 0, .int .i64 0, .bool false, .bool false, .int .u8 0, .int .i64 0, .int .i64 0, .int .i64 0, .int .i64 0, .int .u8 0] 61)).alloc (.cells Try.zeroCells73 73) = W0 := ⟨_, rfl⟩
  have hB : W0.heap[w.heap.size]? = some (.cells b.arr 73 (0, 0)) := by rw [← hW0]; exact alloc_old (by simp; omega) (alloc_old (by simp) (alloc_at rfl))
  have hO : W0.heap[w.heap.size + 1]? = some (.cells #[.int .u8 8, .int .i64 (i : Int), .int .i64 0, .int .i64 0, .int .i64 0, .int .u8 0, .int .i64 0, .int .i64 0, .bool false, .bool false, .int .u8 0, .int .i64 0, .int .i64 0, .int .i64 0, .int .i64 0, .int .u8 0] 61 (0, 0)) := by rw [← hW0]; exact alloc_old (by simp) (alloc_at (by simp))
  have hZ : W0.heap[w.heap.size + 1 + 1]? = some (.cells Try.zeroCells73 73 (0, 0)) := by rw [← hW0]; exact alloc_at (by simp)
  have hW : Below w.heap.size w W0 := by rw [← hW0]; exact (((Below.refl _ w).alloc (Nat.le_refl _) _).alloc (by simp) _).alloc (by simp; omega) _
  have hz2 : w.heap.size + 1 + 1 < W0.heap.size := (Array.getElem?_eq_some_iff.1 hZ).1
  have hz1 : w.heap.size + 1 < W0.heap.size := by omega
  have hz0 : w.heap.size < W0.heap.size := by omega
  rw [hW0]
  clear hW0
  obtain ⟨o0, o1, o2, o3, o10, o11, o12, o13, o14, o15⟩ := ocells hO
  have HW := Lib.hid hW
  have HB := Lib.hid hB
  have e9 := boxed_self hB
  rw [e9]
  clear e9 hW hB hO
  have HU := Lib.hid hu
  obtain ⟨hcr0, hcr1⟩ := hcr
  have hvf : v = .slice VA s.l.length vc := by rw [← HV.out, HV0.out]; exact HVV.out
  have hl : Cys w b0 c0 v s.l := by rw [← HV.out, HV0.out]; exact HL0.out
  have HL := Lib.hid hl
  clear HL0 HVV hl hu
  subst hvf
  have d0 : (s.st == 0) = false := by rw [hst]; decide
  have n0 : (s.st != 0) = true := by rw [hst]; decide
  have d1 : (s.st == 1) = false := by rw [hst]; decide
  have n1 : (s.st != 1) = true := by rw [hst]; decide
  have d2 : (s.st == 2) = true := by rw [hst]; decide
  have n2 : (s.st != 2) = false := by rw [hst]; decide
  have d3 : (s.st == 3) = false := by rw [hst]; decide
  have n3 : (s.st != 3) = true := by rw [hst]; decide
  clear hst
  go_upto_region 88 with (first | ((with_reducible_and_instances (show wpList _ _ _ (Oper.mk _ (Op.load 36 _ ) _ _ _ _ :: _) _ _)); refine wpList_load_mid rfl _ _ rfl w.heap.size (2 + i * 7) rfl (s.arr (.slice VA s.l.length vc)).toList _ (HRG.out _ (boxed_at hz0)) Try.underlying36 rfl info7s ?_; rw [Array.toArray_toList]) | ((with_reducible_and_instances (show wpList _ _ _ (Oper.mk _ (Op.store 36 _ _ ) _ _ _ _ :: _) _ _)); refine wl_store info7s rfl rfl rfl rfl (by (repeat (first | assumption | (with_reducible refine alloc_at ?_; (focus (first | omega | (simp; done) | (simp; omega)))) | (with_reducible refine boxed_at ?_; (focus (first | omega | (simp; done) | (simp; omega)))) | (with_reducible refine alloc_old ?_ ?_; (focus (first | omega | (simp; done) | (simp; omega)))) | (with_reducible refine boxed_old ?_ ?_; (focus (first | omega | (simp; done) | (simp; omega)))) | (with_reducible refine drew_old ?_)))) (by rfl) (by rfl) (Sv.arr_one rfl) ?_))
  obtain ⟨s2, hs2⟩ : ∃ s2, (s : Sv) = s2 := ⟨_, rfl⟩
  have HS2 := Lib.hid hs2
  obtain ⟨W1, hW1⟩ : ∃ W1, boxed ((boxed W0 w.heap.size b.arr 73).alloc (.cells #[.int .u8 0, .int .i64 0, .int .i64 0, .int .i64 0, .int .i64 0, .bool false, .slice none 0 0] 36)) W0.heap.size (s.arr (.slice VA s.l.length vc)) 36 = W1 := ⟨_, rfl⟩
  have hB1 : W1.heap[w.heap.size]? = some (.cells b.arr 73 (0, 0)) := by rw [← hW1]; exact boxed_old (by omega) (alloc_old (by simp; omega) (boxed_at hz0))
  have hS1 : W1.heap[W0.heap.size]? = some (.cells (s2.arr (.slice VA s.l.length vc)) 36 (0, 0)) := by rw [← hs2, ← hW1]; exact boxed_at (by simp)
  have hZ1 : W1.heap[w.heap.size + 1 + 1]? = some (.cells Try.zeroCells73 73 (0, 0)) := by rw [← hW1]; exact boxed_old (by omega) (alloc_old (by simp; omega) (boxed_old (by omega) hZ))
  have hk1 : ∀ i, i < W0.heap.size → i ≠ w.heap.size → W1.heap[i]? = W0.heap[i]? := fun i h1 h2 => by
    rw [← hW1, boxed_block_other (by omega), alloc_block_old (by rw [boxed_size]; omega), boxed_block_other (by omega)]
  have hO1 : W1.cell? ⟨w.heap.size + 1, 1, none⟩ = some (.int .i64 (i : Int)) := (World.cell?_of_block (a := ⟨w.heap.size + 1, 1, none⟩) (hk1 (w.heap.size + 1) (by omega) (by omega))).trans o1
  have HW1 : Hid (Below w.heap.size w W1) := by
    show Below _ _ _
    rw [← hW1]; exact boxed_below ((boxed_below HW.out (Nat.le_refl _)).alloc (by simp; omega) _) (by omega)
  have HL1 : Hid (Cyb b0 c0 W0.heap.size W1 (.slice VA s.l.length vc) s.l) := ⟨b0, c0, .inl ⟨Nat.le_refl _, Nat.le_refl _⟩, by have := HW1.out.size; omega, HL.out.kept fun i _ h2 => (hk1 i (by omega) (by omega)).trans (HW.out.block i (by omega))⟩
  have hz1s : W0.heap.size < W1.heap.size := (Array.getElem?_eq_some_iff.1 hS1).1
  rw [hW1]
  clear hs2 hW1 hk1 o0 o1 o2 o3 o10 o11 o12 o13 o14 o15 hZ HL
  go_wp2
  go_loopw [17] (fun ii wq => ∃ (j : Nat) (A' : Option Addr) (c' : Nat), j ≤ s.l.length ∧ ii = .int .i64 j ∧ Hid (Below w.heap.size w wq) ∧ Hid (wq.heap[w.heap.size]? = some (.cells b.arr 73 (0, 0))) ∧ Hid (wq.cell? ⟨w.heap.size + 1, 1, none⟩ = some (.int .i64 (i : Int))) ∧ Hid (wq.heap[w.heap.size + 1 + 1]? = some (.cells Try.zeroCells73 73 (0, 0))) ∧ Hid (wq.heap[W0.heap.size]? = some (.cells (({ s2 with cr := s.cr } : Sv).arr (.slice A' s.l.length c')) 36 (0, 0))) ∧ Hid (Cyb b0 c0 W0.heap.size wq (.slice A' s.l.length c') (woken s.l (fun c => c.card) j)) ∧ s.l.length ≤ c' ∧ c' ≤ maxLen) (fun ii _ => s.l.length - (intOf ii).toNat)
  case atStart =>
    refine ⟨0, VA, vc, by omega, rfl, HW1, hB1, hO1, hZ1, ?_, ?_, hvc, hvm⟩
    · rw [show ({ s2 with cr := s.cr } : Sv) = s2 from by rw [← HS2.out]]
      exact hS1
    · rw [woken_zero]; exact HL1.out
  case round =>
    obtain ⟨j, A', c', hj, rfl, HW2, HB2, HO2, HZ2, HS3, HL2, hc1, hc2⟩ := hrel
    have hzs : W0.heap.size < wr.heap.size := (Array.getElem?_eq_some_iff.1 HS3.out).1
    obtain ⟨m0, m1, m2, m3, m4, m5, m6⟩ := scells HS3.out
    by_cases hlt : j < s.l.length
    case neg =>
      obtain rfl : j = s.l.length := by omega
      have dlt : decide ((s.l.length : Int) < (s.l.length : Int)) = false := by simp
      rw [woken_all] at HL2
      obtain ⟨s9, hs9⟩ : ∃ s9, ({ s2 with cr := s.cr, l := s.l.map (fun c => c.card) } : Sv) = s9 := ⟨_, rfl⟩
      have hS1 : wr.heap[W0.heap.size]? = some (.cells (s9.arr (.slice A' s.l.length c')) 36 (0, 0)) := by rw [← hs9]; exact HS3.out
      have HPUT : Hid (∀ v', b.put i ({ b.s i with l := (b.s i).l.map (fun c => c.card) } : Sv) v' = b.put i s9 v') := fun v' => by rw [HS.out, ← hs9, ← HS2.out]
      have HRES : Hid (s9.l = s.l.map (fun c => c.card)) := by
        show _ = _
        rw [← hs9]
      have hb2 : (b.put i s9 (.slice A' s.l.length c')).arr.all (·.oneCell') = true := (HON.out.put i s9 rfl).arr
      have hB1 := HB2.out
      have hZ1 := HZ2.out
      have hO1 := HO2.out
      have hz10 : w.heap.size < wr.heap.size := by omega
      have hz12 : w.heap.size + 1 + 1 < wr.heap.size := by omega
      have hz1s : W0.heap.size < wr.heap.size := hzs
      obtain ⟨W1, hW1⟩ : ∃ W1, wr = W1 := ⟨_, rfl⟩
      rw [hW1] at hB1 hZ1 hO1 hS1 HW2 hz10 hz12 hz1s HL2 m0 m1 m2 m3 m4 m5 m6 ⊢
      have HW1 := HW2
      clear hW1 hs9 hlt hj HB2 HZ2 HO2 HS3
      go_upto_region 93 with fail
      have e9 := boxed_self hB1
      rw [e9]
      clear e9 m0 m1 m2 m3 m4 m5 m6
      go_wp2_with (((with_reducible_and_instances (show wpList _ _ _ (Oper.mk _ (Op.load 36 _ ) _ _ _ _ :: _) _ _)); refine stop_here ?_))
      refine ⟨?_⟩
      refine wl_load (cs := s9.arr (.slice A' s.l.length c')) (fr := (0, 0)) (g := W0.heap.size) Try.underlying36 rfl info7s rfl rfl rfl (boxed_old (by omega) hS1) (by rfl) ?_
      go_wp2_with (((with_reducible_and_instances (show wpList _ _ _ (Oper.mk _ (Op.store 36 _ _ ) _ _ _ _ :: _) _ _)); refine stop_here ?_))
      refine ⟨?_⟩
      refine wpList_store_mid rfl _ _ _ rfl (w.heap.size) (2 + i * 7) (s9.arr (.slice A' s.l.length c')) rfl rfl (Bk.there (by omega) hi) info7s (Sv.arr_one rfl) ?_
      rw [Bk.store]
      go_wp2_with (((with_reducible_and_instances (show wpList _ _ _ (Oper.mk _ (Op.load 73 _ ) _ _ _ _ :: _) _ _)); refine stop_here ?_))
      refine ⟨?_⟩
      refine wl_load (cs := (b.put i s9 (.slice A' s.l.length c')).arr) (fr := (0, 0)) (g := w.heap.size) Try.underlying73 rfl Bk.info rfl rfl rfl (boxed_at (by omega)) (Bk.arr_size _) ?_
      go_wp2_with (((with_reducible_and_instances (show wpList _ _ _ (Oper.mk _ (Op.store 73 _ _ ) _ _ _ _ :: _) _ _)); refine stop_here ?_))
      refine ⟨?_⟩
      refine wl_store (g := w.heap.size + 1 + 1) Bk.info rfl rfl rfl rfl (boxed_old (by omega) hZ1) Bk.zero_size (Bk.arr_size _) hb2 ?_
      go_wp2_with (fail)
      refine bodyPost_ret (results_row_tmp rfl _ _ (w.heap.size + 1 + 1) 73 _ (0, 0) _ rfl (boxed_at (by rw [boxed_size]; omega)) Try.underlying73 rfl (by rw [Bk.arr_size]; exact Bk.info)) rfl ?_
      exact ⟨.slice A' s.l.length c', by rw [HPUT.out]; rfl, by rw [HS.out]; exact (HL2.out.kept (by simp) fun i _ h9 => (boxed_block_other (by omega)).trans (boxed_block_other (by omega))).parted (by omega), boxed_below (boxed_below HW1.out (Nat.le_refl _)) (by omega)⟩
    obtain ⟨z, hz⟩ : ∃ z, s.l[j]? = some z := ⟨s.l[j], List.getElem?_eq_getElem hlt⟩
    have huz := HU.out z (List.mem_of_getElem? hz)
    obtain ⟨bb, cc, hap, hcc, hcys⟩ := HL2.out
    have hat := woken_at (f := fun c => c.card) hz
    obtain ⟨gg, oo, cap, hv, hjl, _, _, hbg, hgc, hr⟩ := hcys.at_ hat
    rw [woken_len] at hv hjl
    injection hv with hA _ hcap'
    subst hA hcap'
    have dlt : decide ((j : Int) < (s.l.length : Int)) = true := by simpa using hlt
    have k0 : (0 : Int) ≤ (j : Int) := by omega
    have k1 : (j : Int) < (s.l.length : Int) := by omega
    have HZ := Lib.hid hz
    have HY := Lib.hid hcys
    have HX := Lib.hid hap
    have HAT2 := Lib.hid hat
    have HRC := Lib.hid hr
    obtain ⟨n, q, f, a, u, t, x, g⟩ := z
    obtain ⟨⟨hu0, hu1⟩, ht0, ht1⟩ := huz
    dsimp only at hu0 hu1 ht0 ht1
    have q0 : wr.cell? ⟨gg, oo + j * 8, none⟩ = some (.int .i64 n) := hr 0 _ rfl
    have q1 : wr.cell? ⟨gg, oo + j * 8 + 1, none⟩ = some (.int .i64 q) := hr 1 _ rfl
    have p2 : wr.cell? ⟨gg, oo + j * 8 + 2, none⟩ = some (.int .u8 f) := hr 2 _ rfl
    have q3 : wr.cell? ⟨gg, oo + j * 8 + 3, none⟩ = some (.int .i64 a) := hr 3 _ rfl
    have q4 : wr.cell? ⟨gg, oo + j * 8 + 4, none⟩ = some (.int .i64 u) := hr 4 _ rfl
    have q5 : wr.cell? ⟨gg, oo + j * 8 + 5, none⟩ = some (.int .i64 t) := hr 5 _ rfl
    have q6 : wr.cell? ⟨gg, oo + j * 8 + 6, none⟩ = some (.int .i64 x) := hr 6 _ rfl
    have q7 : wr.cell? ⟨gg, oo + j * 8 + 7, none⟩ = some (.bool g) := hr 7 _ rfl
    clear hz hat hr hap hcys HL2
    by_cases hw : f = 2
    case neg =>
      have hsame : Cv.card ⟨n, q, f, a, u, t, x, g⟩ = ⟨n, q, f, a, u, t, x, g⟩ := card_no hw
      have d2 : (f == 2) = false := by simpa using hw
      have HSM := Lib.hid hsame
      clear hsame hw
      go_wp2
      go_roundw
      case rel => exact ⟨j + 1, _, c', by omega, by go_num, HW2, HB2, HO2, HZ2, HS3, by rw [woken_same (f := fun c => c.card) HZ.out HSM.out]; exact ⟨bb, cc, HX.out, hcc, HY.out⟩, hc1, hc2⟩
      case measure => simp [intOf]; omega
    obtain rfl := hw
    have hcrx : -100000000000 ≤ s2.cr ∧ s2.cr ≤ 100000000000 := by rw [← HS2.out]; exact ⟨hcr0, hcr1⟩
    have hcrx0 := hcrx.1
    have hcrx1 := hcrx.2
    rw [show ({ s2 with cr := s.cr } : Sv) = s2 from by rw [← HS2.out]] at HS3
    have hset := woken_next (f := fun c => c.card) HZ.out
    rw [card_yes] at hset
    have HCH : Hid (∀ w2 : World, Cys w2 0 w2.heap.size (.slice (some ⟨gg, oo, none⟩) s.l.length c') (woken s.l (fun c => c.card) j) → Calls Try.prog 47 #[.agg (s2.arr (.slice (some ⟨gg, oo, none⟩) s.l.length c')), .int .i64 j, .agg #[.int .i64 n, .int .i64 q, .int .u8 1, .int .i64 a, .int .i64 u, .int .i64 (t + 1), .int .i64 0, .bool g]] w2 fun e w' => ∃ v', e = .returned (.agg (s2.arr v')) ∧ Cys w' w2.heap.size w'.heap.size v' (woken s.l (fun c => c.card) (j + 1)) ∧ Below w2.heap.size w2 w') := fun w2 hq => by
      have h9 := refchange_s (s := { s2 with l := woken s.l (fun c => c.card) j }) (k := j) (c := ⟨n, q, 1, a, u, t + 1, 0, g⟩) (c0 := ⟨n, q, 2, a, u, t, x, g⟩) hq HAT2.out (by rw [woken_len]; omega) ⟨by dsimp only; omega, by dsimp only; omega⟩ ⟨by dsimp only; omega, by dsimp only; omega⟩
      rw [show Cy.gain ({ s2 with l := woken s.l (fun c => c.card) j } : Sv).cr ⟨n, q, 2, a, u, t, x, g⟩ ⟨n, q, 1, a, u, t + 1, 0, g⟩ = s2.cr from if_neg (fun h => by have := h.1; dsimp only at this; omega)] at h9
      dsimp only at h9
      rw [hset] at h9
      exact h9
    have ht2 : -9223372036854775808 ≤ t := by omega
    have ht3 : t < 9223372036854775807 := by omega
    clear hset
    go_wp2
    have HS0 : Hid (wr.drew.heap[W0.heap.size]? = some (.cells (s2.arr (.slice (some ⟨gg, oo, none⟩) s.l.length c')) 36 (0, 0)) ∧ wr.drew.rangeAt gg (oo + j * 8) (⟨n, q, 2, a, u, t, x, g⟩ : Cv).cs) := ⟨HS3.out, HRC.out⟩
    refine laneT_start (ord := [0, 1, 2, 3, 4, 5, 6, 7, 8, 9]) (t := 9) (S := fun w' => w'.heap[W0.heap.size]? = some (.cells (s2.arr (.slice (some ⟨gg, oo, none⟩) s.l.length c')) 36 (0, 0)) ∧ w'.rangeAt gg (oo + j * 8) (⟨n, q, 2, a, u, t, x, g⟩ : Cv).cs) rfl (by kernel_rfl) ?_
    refine laneT_take (v := .agg (s2.arr (.slice (some ⟨gg, oo, none⟩) s.l.length c'))) rfl (by kernel_rfl) (by kernel_rfl) (by rfl) (fun W hSw => exec_load rfl rfl (run_loadAt_row W W0.heap.size 36 36 _ (0, 0) _ hSw.1 Try.underlying36 rfl info7s)) (by exact HS0.out) ?_
    simp only [Act.put, List.setIfInBounds_toArray, List.set_cons_zero, List.set_cons_succ]
    iterate 5 (refine laneT_take (v := ?_) rfl (by kernel_rfl) (by kernel_rfl) (by rfl) ?_ (by exact HS0.out) ?_; rotate_left; (focus (intro W hSw; obtain ⟨hSw, hSc⟩ := hSw; obtain ⟨s0, s1, s2, s3, s4, s5, s6⟩ := scells hSw; go_simp; try (with_reducible rfl))); simp only [Act.put, List.setIfInBounds_toArray, List.set_cons_zero, List.set_cons_succ])
    refine laneT_take (v := .agg #[.int .i64 n, .int .i64 q, .int .u8 2, .int .i64 a, .int .i64 u, .int .i64 t, .int .i64 x, .bool g]) rfl (by kernel_rfl) (by kernel_rfl) (by rfl) (fun W hSw => exec_load rfl rfl (run_loadAt_mid W gg (oo + j * 8) 69 _ _ hSw.2 Try.underlying69 rfl info8r)) (by exact HS0.out) ?_
    simp only [Act.put, List.setIfInBounds_toArray, List.set_cons_zero, List.set_cons_succ]
    refine laneT_alone rfl (by kernel_rfl) (by rfl) (fun K hK => ?_)
    go_simp
    refine (refagain_any _ _ _ _ _ _ _ _ _ ht2 ht3).mono ?_
    rintro e w2 ⟨rfl, hb⟩
    have hb2 : Below wr.heap.size wr w2 := (Below.refl _ wr).drew.trans hb
    have hS2 : w2.heap[W0.heap.size]? = some (.cells (s2.arr (.slice (some ⟨gg, oo, none⟩) s.l.length c')) 36 (0, 0)) ∧ w2.rangeAt gg (oo + j * 8) (⟨n, q, 2, a, u, t, x, g⟩ : Cv).cs := ⟨below_block hb2 HS3.out, fun i v9 h9 => (World.cell?_of_block (a := ⟨gg, oo + j * 8 + i, none⟩) (hb2.block gg (by omega))).trans (HRC.out i v9 h9)⟩
    refine hK _ _ (fun _ => hS2) ?_
    clear hK K
    have HBx := Lib.hid hb2
    have HSx := Lib.hid hS2
    have hz2 : wr.heap.size ≤ w2.heap.size := hb2.size
    have HY2 : Hid (Cys w2 0 w2.heap.size (.slice (some ⟨gg, oo, none⟩) s.l.length c') (woken s.l (fun c => c.card) j)) := ((HY.out.kept fun i _ hi => hb2.block i (by omega)).more (Nat.zero_le _) (by omega))
    clear hb hb2 hS2
    refine laneT_alone rfl (by kernel_rfl) (by rfl) (fun K hK => ?_)
    go_simp
    refine (HCH.out _ HY2.out).mono ?_
    rintro e w3 ⟨v3, rfl, hc3, hb3⟩
    have hS3 := below_block hb3 HSx.out.1
    have hS3r : w3.rangeAt gg (oo + j * 8) (⟨n, q, 2, a, u, t, x, g⟩ : Cv).cs := fun i v9 h9 => (World.cell?_of_block (a := ⟨gg, oo + j * 8 + i, none⟩) (hb3.block gg (by omega))).trans (HSx.out.2 i v9 h9)
    refine hK _ _ (fun _ => ⟨hS3, hS3r⟩) ?_
    clear hK K
    have hz3' : w2.heap.size ≤ w3.heap.size := hb3.size
    obtain ⟨A3, c3, hv3, hc31, hc32, _⟩ := id hc3
    rw [woken_len] at hv3 hc31
    subst hv3
    have HC3 := Lib.hid hc3
    have HB3 : Hid (Below wr.heap.size wr w3) := HBx.out.trans (hb3.mono hz2)
    have hS3b : W0.heap.size < w3.heap.size := by omega
    clear hS3r hb3 hc3
    refine laneT_alone rfl (by kernel_rfl) (by rfl) (fun K hK => ?_)
    refine wp_store_row _ _ _ rfl W0.heap.size _ rfl rfl _ _ hS3 (by exact info7s) rfl (Sv.arr_one rfl) ?_
    rw [row_boxed hS3]
    refine hK _ _ (fun h => absurd rfl h) ?_
    clear hK K
    refine laneT_end (by kernel_rfl) ?_
    go_wp2
    go_roundw
    case rel =>
      refine ⟨j + 1, A3, c3, by omega, by go_num, boxed_below (HW2.out.trans (HB3.out.mono HW2.out.size)) (by have := HW2.out.size; omega), boxed_old (by omega) ((HB3.out.block _ (by omega)).trans HB2.out), ?_, boxed_old (by omega) ((HB3.out.block _ (by omega)).trans HZ2.out), by rw [show ({ s2 with cr := s.cr } : Sv) = s2 from by rw [← HS2.out]]; exact boxed_at hS3b, ⟨w2.heap.size, w3.heap.size, .inr (by omega), by simp, ?_⟩, hc31, hc32⟩
      · exact (World.cell?_of_block (a := ⟨w.heap.size + 1, 1, none⟩) ((boxed_block_other (show w.heap.size + 1 ≠ W0.heap.size by omega)).trans (HB3.out.block (w.heap.size + 1) (by omega)))).trans HO2.out
      · exact HC3.out.kept fun i hi _ => boxed_block_other (by omega)
    case measure => simp [intOf]; omega
end Go.Proofs.Ytnbfkdcpghkglaa
