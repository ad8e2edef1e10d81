/-
  What is given back by a change of plans is taken from the next cycles, to the last unit. No conditions.
-/
import Derived.Test.YtcgglphphdpplaaAvFirst
import Derived.Test.YtcgglphphdpplaaAvPlan
import Derived.Test.YtcgglphphdpplaaRow
import Derived.Test.YtcgglphphdpplaaAvChange
import Derived.Lib.Hide
namespace Go.Proofs.Ytcgglphphdpplaa
set_option maxRecDepth 100000
open Go.ChangeShapes Go.WideShapes Go.ChangeAt Go.RowKit

theorem region_frame {P : Program} {c : Code} {Q : Exit → Act → World → Prop} {a : Act} {w : World} (Facts : Nat → Option Addr → Nat → World → Prop) (fr : Nat → Option Addr → Nat → Act)
    (h : c.wp P (fun e a' w' => e = .normal ∧ ∃ Z A1 c1, a' = fr Z A1 c1 ∧ Facts Z A1 c1 w') a w) (hk : ∀ Z A1 c1 w', Facts Z A1 c1 w' → Q .normal (fr Z A1 c1) w') : c.wp P Q a w :=
  wp_mono h (by rintro e a' w' ⟨rfl, Z, A1, c1, rfl, hf⟩; exact hk _ _ _ _ hf)
theorem acells {w : World} {b : Nat} {ty : TypeId} {fr : Nat × Nat} {a : Av} {v : Value} (h : w.heap[b]? = some (.cells (a.arr v) ty fr)) : w.cell? ⟨b, 0, none⟩ = some (.int .u8 a.st) ∧ w.cell? ⟨b, 1, none⟩ = some (.int .i64 a.pl) ∧ w.cell? ⟨b, 2, none⟩ = some (.int .i64 a.an) ∧ w.cell? ⟨b, 3, none⟩ = some (.int .i64 a.ix) ∧ w.cell? ⟨b, 4, none⟩ = some (.int .i64 a.ct) ∧ w.cell? ⟨b, 5, none⟩ = some (.int .i64 a.cr) ∧ w.cell? ⟨b, 6, none⟩ = some (.bool a.sk) ∧ w.cell? ⟨b, 7, none⟩ = some (v) ∧ w.cell? ⟨b, 8, none⟩ = some (.int .i64 a.dn) ∧ w.cell? ⟨b, 9, none⟩ = some (.int .i64 a.un) ∧ w.cell? ⟨b, 10, none⟩ = some (.int .i64 a.rf) ∧ w.cell? ⟨b, 11, none⟩ = some (.int .i64 a.sp) ∧ w.cell? ⟨b, 12, none⟩ = some (.int .i64 a.pd) := by
  refine ⟨?_, ?_, ?_, ?_, ?_, ?_, ?_, ?_, ?_, ?_, ?_, ?_, ?_⟩
  all_goals
    rw [cell_of_row _ _ _ _ _ _ h]
    rfl
/-- Only new memory has been written. -/
def Grew (a b : World) : Prop := Below a.heap.size a b
/-- What cycles behind the first one amount to. -/
def csum : List Cv → Int
  | [] => 0
  | c :: r => (if 0 < c.n then c.a else 0) + csum r
theorem csum_cons (c : Cv) (r : List Cv) : csum (c :: r) = (if 0 < c.n then c.a else 0) + csum r := rfl
theorem csum_append (a b : List Cv) : csum (a ++ b) = csum a + csum b := by
  induction a with
  | nil => simp [csum]
  | cons c r ih => rw [List.cons_append, csum_cons, csum_cons, ih]; omega
theorem csum_next {l : List Cv} {j : Nat} {c : Cv} (h : l[j]? = some c) : csum (l.take (j + 1)) = csum (l.take j) + (if 0 < c.n then c.a else 0) := by
  have hj := (List.getElem?_eq_some_iff.1 h).1
  have hc : l[j] = c := (List.getElem?_eq_some_iff.1 h).2
  rw [List.take_succ_eq_append_getElem hj, hc, csum_append]
  simp [csum]
theorem csum_bd {l : List Cv} (h : ∀ c ∈ l, c.Fit) (j : Nat) : -(l.length * 1000000000000) ≤ csum (l.take j) ∧ csum (l.take j) ≤ l.length * 1000000000000 := by
  induction l generalizing j with
  | nil => simp [csum]
  | cons c r ih =>
    cases j with
    | zero => simp [csum]; omega
    | succ j =>
      have h1 := ih (fun c hc => h c (List.mem_cons_of_mem _ hc)) j
      have h2 := h c List.mem_cons_self
      have := h2.a0
      have := h2.a1
      rw [List.take_succ_cons, List.length_cons, csum_cons]
      split <;> omega
/-- A period more: its amount, and what is left of the credit, are its price and what was there. -/
theorem credit_step {a : Av} {q : Pv} {d : Int} (hst : a.st = 1) (hsk : a.sk = false) (hct : 0 < a.ct) (hg : q.g = false) : csum (a.born q d false).l = csum a.l + q.a - a.cr + (a.born q d false).cr ∧ 0 ≤ (a.born q d false).cr ∧ (a.born q d false).sk = false := by
  by_cases h : q.a - a.cr < 0
  · rw [Av.born_over (by omega) hsk h, cbegin_yes rfl, hg]
    show csum a.l = csum a.l + q.a - a.cr + -(q.a - a.cr) ∧ 0 ≤ -(q.a - a.cr) ∧ a.sk = false
    exact ⟨by omega, by omega, hsk⟩
  · rw [Av.born_pay (by omega) hsk h, hg]
    by_cases h0 : q.a - a.cr = 0
    · rw [cbegin_yes h0]
      show csum a.l = csum a.l + q.a - a.cr + 0 ∧ (0 : Int) ≤ 0 ∧ a.sk = false
      exact ⟨by omega, by omega, hsk⟩
    · rw [cbegin_no h0]
      show csum (a.l ++ [⟨a.ct, d, 1, q.a - a.cr, a.cr, 1, 0, false⟩]) = csum a.l + q.a - a.cr + 0 ∧ (0 : Int) ≤ 0 ∧ a.sk = false
      rw [csum_append]
      refine ⟨?_, by omega, hsk⟩
      rw [csum_cons, if_pos hct]
      show csum a.l + (q.a - a.cr + 0) = _
      omega
theorem Av.Fine.changed {a : Av} {m : Nat} (h : a.Fine m) (n an cr : Int) (h0 : -100000000000 ≤ cr) (h1 : cr ≤ 100000000000) : (a.changed n an cr).Fine (m + 1) :=
  ⟨h.calm, ⟨h.fit.d0, by have := h.fit.d1; show a.dn ≤ ((m + 1 : Nat) : Int); omega, h.fit.n0, by have := h.fit.n1; show a.un ≤ ((m + 1 : Nat) : Int); omega, h.fit.r0, by have := h.fit.r1; show a.rf ≤ ((m + 1 : Nat) : Int); omega, h.fit.s0, by have := h.fit.s1; show a.sp ≤ ((m + 1 : Nat) : Int); omega, by show _ ≤ cr; omega, by show cr ≤ _; omega, by have := h.fit.p0; show _ ≤ a.pd; omega, by have := h.fit.p1; show a.pd ≤ _; omega⟩, by have := h.len; show a.l.length ≤ m + 1; omega, by have := h.ct; show 0 ≤ a.ct ∧ a.ct ≤ ((m + 1 : Nat) : Int); omega, h0, h1⟩
/-- The first period. -/
theorem Dv.prod_bd (a b : Int) (h0 : 0 ≤ a) (h1 : a < 65536) (h2 : 0 ≤ b) (h3 : b ≤ 100) : 0 ≤ a * b ∧ a * b ≤ 6553600 := by
  have h4 := Int.mul_nonneg h0 h2
  have h5 : a * b ≤ 65536 * 100 := Int.mul_le_mul (by omega) h3 h2 (by omega)
  omega
theorem first_one {N : Int → Int} {p : Pv} {an : Int} (hl : p.l = false) (hg : p.g = false) (ha : 0 ≤ p.a) : (Av.runs N p 1 1 (Av.opened 0 an)).st = 1 ∧ (Av.runs N p 1 1 (Av.opened 0 an)).pl = 0 ∧ (Av.runs N p 1 1 (Av.opened 0 an)).an = an ∧ (Av.runs N p 1 1 (Av.opened 0 an)).ix = 1 ∧ (Av.runs N p 1 1 (Av.opened 0 an)).ct = 1 ∧ (Av.runs N p 1 1 (Av.opened 0 an)).cr = 0 ∧ (Av.runs N p 1 1 (Av.opened 0 an)).sk = false ∧ csum (Av.runs N p 1 1 (Av.opened 0 an)).l = 0 := by
  rw [Av.runs_next, hl]
  show (Av.born _ _ _ false).st = 1 ∧ (Av.born _ _ _ false).pl = 0 ∧ (Av.born _ _ _ false).an = an ∧ (Av.born _ _ _ false).ix = 1 ∧ (Av.born _ _ _ false).ct = 1 ∧ (Av.born _ _ _ false).cr = 0 ∧ (Av.born _ _ _ false).sk = false ∧ csum (Av.born _ _ _ false).l = 0
  rw [Av.born_pay (by show (1 : Int) ≠ 2; decide) rfl (by show ¬ p.a - 0 < 0; omega), hg]
  by_cases h0 : p.a - (Av.opened 0 an).cr = 0
  · rw [cbegin_yes h0]
    exact ⟨rfl, rfl, rfl, rfl, rfl, rfl, rfl, rfl⟩
  · rw [cbegin_no h0]
    exact ⟨rfl, rfl, rfl, rfl, rfl, rfl, rfl, rfl⟩
/-- The subscription behind so many periods of the other plan. -/
structure Course (K F q cr0 : Int) (j : Nat) (E : Av) : Prop where
  st : E.st = 1
  sk : E.sk = false
  ct : E.ct = (j : Int) + 1
  ix : E.ix = j
  an : E.an = F + K
  sum : csum E.l + cr0 = (j : Int) * q + E.cr
  pos : 1 ≤ j → 0 ≤ E.cr
  fine : E.Fine (2 + j)
theorem course_next {K F q cr0 d : Int} {j : Nat} {E : Av} {Q : Pv} (h : Course K F q cr0 j E) (ha : Q.a = q) (hg : Q.g = false) (h0 : 0 ≤ q) (h1 : q ≤ 100000000000) : Course K F q cr0 (j + 1) (Av.born { E with ix := E.ix + 1 } Q d false) := by
  obtain ⟨s1, s2, s3⟩ := credit_step (a := { E with ix := E.ix + 1 }) (q := Q) (d := d) h.st h.sk (by show 0 < E.ct; rw [h.ct]; omega) hg
  obtain ⟨b1, b2, b3, b4, b5⟩ := Av.born_same (a := { E with ix := E.ix + 1 }) (p := Q) (d := d) (mi := false)
  have hs := h.sum
  refine ⟨b1.trans h.st, s3, b5.trans (by show E.ct + 1 = _; rw [h.ct]; omega), b4.trans (by show E.ix + 1 = _; rw [h.ix]; omega), b3.trans h.an, ?_, fun _ => s2, ?_⟩
  · rw [s1]
    show csum E.l + Q.a - E.cr + _ + cr0 = _
    rw [ha, show ((j + 1 : Nat) : Int) * q = (j : Int) * q + q by rw [Int.natCast_add, Int.add_mul]; simp]
    omega
  · rw [show 2 + (j + 1) = 2 + j + 1 by omega]
    exact (h.fine.ix (E.ix + 1)).born (by rw [ha]; exact ⟨h0, h1⟩)
/-- A list that lies apart from two blocks. -/
def Cyx (B : Nat) (w : World) (v : Value) (l : List Cv) : Prop := ∃ b c, (c ≤ B ∨ B + 1 + 1 ≤ b) ∧ c ≤ w.heap.size ∧ Cys w b c v l
set_option maxHeartbeats 8000000 in
theorem accountCredits_walk (a0 : Int) (w0 : (Lit.int .u16 a0).wf = true) (a1 : Int) (w1 : (Lit.int .u16 a1).wf = true) (a2 : Int) (w2 : (Lit.int .u8 a2).wf = true) (a3 : Int) (w3 : (Lit.int .u8 a3).wf = true) (a4 : Int) (w4 : (Lit.int .u16 a4).wf = true) (w : World) :
    Calls Try.prog 6 #[.int .u16 a0, .int .u16 a1, .int .u8 a2, .int .u8 a3, .int .u16 a4] w fun e w' => e = .returned (.bool true) ∧ Below w.heap.size w w' := by
  obtain ⟨h00, h01⟩ := wf_u16 w0
  obtain ⟨h10, h11⟩ := wf_u16 w1
  obtain ⟨h20, h21⟩ := wf_u8 w2
  obtain ⟨h30, h31⟩ := wf_u8 w3
  obtain ⟨h40, h41⟩ := wf_u16 w4
  go_enter Try.func6, Try.ntmps6
  go_wp2_with (fail)
  refine (acawake_any _).mono ?_
  rintro e w2 ⟨rfl, hb1⟩
  have HW2 := Lib.hid hb1
  clear hb1
  have e60 : a2.tmod 60 = a2 % 60 := Int.tmod_eq_emod_of_nonneg (by omega)
  go_wp2_with (first | ((with_reducible_and_instances (show wpList _ _ _ (Oper.mk _ (Op.load 26 _) _ _ _ _ :: _) _ _)); refine wl_load Try.underlying26 rfl info6p rfl rfl rfl (by (repeat (first | assumption | (with_reducible refine alloc_at ?_; (focus (first | omega | (simp; done) | (simp; omega)))) | (with_reducible refine boxed_at ?_; (focus (first | omega | (simp; done) | (simp; omega)))) | (with_reducible refine alloc_old ?_ ?_; (focus (first | omega | (simp; done) | (simp; omega)))) | (with_reducible refine boxed_old ?_ ?_; (focus (first | omega | (simp; done) | (simp; omega)))) | (with_reducible refine drew_old ?_)))) (by rfl) ?_) | ((with_reducible_and_instances (show wpList _ _ _ (Oper.mk _ (Op.store 26 _ _) _ _ _ _ :: _) _ _)); refine wl_store info6p rfl rfl rfl rfl (by (repeat (first | assumption | (with_reducible refine alloc_at ?_; (focus (first | omega | (simp; done) | (simp; omega)))) | (with_reducible refine boxed_at ?_; (focus (first | omega | (simp; done) | (simp; omega)))) | (with_reducible refine alloc_old ?_ ?_; (focus (first | omega | (simp; done) | (simp; omega)))) | (with_reducible refine boxed_old ?_ ?_; (focus (first | omega | (simp; done) | (simp; omega)))) | (with_reducible refine drew_old ?_)))) (by rfl) (by rfl) (by first | exact Cv.arr_one _ | exact Nv.arr_one _ | exact Av.arr_one rfl | exact Pv.arr_one _ | simp [Value.oneCell']) ?_))
  obtain ⟨K, hK⟩ : ∃ K, 2 + a2 % 60 = K := ⟨_, rfl⟩
  have hK0 : 2 ≤ K := by omega
  have hK1 : K ≤ 61 := by omega
  obtain ⟨P, hP⟩ : ∃ P, (⟨a0, 0, K, 0, false, false⟩ : Pv) = P := ⟨_, rfl⟩
  obtain ⟨Q, hQ⟩ : ∃ Q, (⟨a1, 0, K, 0, false, false⟩ : Pv) = Q := ⟨_, rfl⟩
  have hPa : (#[.int .i64 a0, .int .u8 0, .int .i64 K, .int .i64 0, .bool false, .bool false] : Array Value) = P.arr := by rw [← hP]; rfl
  have hQa : (#[.int .i64 a1, .int .u8 0, .int .i64 K, .int .i64 0, .bool false, .bool false] : Array Value) = Q.arr := by rw [← hQ]; rfl
  obtain ⟨F, hF⟩ : ∃ F, 700000 + a4 = F := ⟨_, rfl⟩
  have hF0 : 700000 ≤ F := by omega
  have hF1 : F ≤ 765535 := by omega
  rw [hK, hPa, hQa, hF]
  have hP0 : (0 ≤ P.a ∧ P.a ≤ 65535) ∧ (0 ≤ P.u ∧ P.u ≤ 3) ∧ (1 ≤ P.e ∧ P.e ≤ 61) ∧ (0 ≤ P.t ∧ P.t ≤ 10) := by
    rw [← hP]; refine ⟨⟨?_, ?_⟩, ⟨?_, ?_⟩, ⟨?_, ?_⟩, ⟨?_, ?_⟩⟩ <;> dsimp only <;> omega
  have HPP := Lib.hid hP
  have HQQ := Lib.hid hQ
  have HP0 := Lib.hid hP0
  have HK := Lib.hid hK
  have HF := Lib.hid hF
  have HW20 := HW2.out.size
  obtain ⟨W0, hWW⟩ : ∃ W0, boxed ((w2.alloc (.cells P.arr 26)).alloc (.cells #[.int .i64 0, .int .u8 0, .int .i64 0, .int .i64 0, .bool false, .bool false] 26)) (w2.heap.size + 1) Q.arr 26 = W0 := ⟨_, rfl⟩
  have hT : W0.heap[w2.heap.size]? = some (.cells P.arr 26 (0, 0)) := by rw [← hWW]; exact boxed_old (by omega) (alloc_old (by simp) (alloc_at rfl))
  have hTQ : W0.heap[w2.heap.size + 1]? = some (.cells Q.arr 26 (0, 0)) := by rw [← hWW]; exact boxed_at (by simp)
  have hW0 : Below w.heap.size w W0 := by rw [← hWW]; exact boxed_below ((HW2.out.alloc HW2.out.size _).alloc (by simp; omega) _) (by omega)
  have hT0 : w.heap.size ≤ w2.heap.size := HW2.out.size
  have hT1 : w2.heap.size < W0.heap.size := by rw [← hWW]; simp; omega
  have hT2 : w2.heap.size + 1 < W0.heap.size := by rw [← hWW]; simp
  rw [hWW]
  clear hWW hPa hQa hP hQ hP0 hF hK HW2 HW20
  obtain ⟨T, hTT⟩ : ∃ T, w2.heap.size = T := ⟨_, rfl⟩
  rw [hTT] at hT hTQ hT0 hT1 hT2 ⊢
  have HT := Lib.hid hT
  have HTQ := Lib.hid hTQ
  have HW0 := Lib.hid hW0
  have HW00 : Hid (Below W0.heap.size W0 W0) := Below.refl _ W0
  clear hTT hT hTQ hW0
  have hpu := HP0.out.2.1
  have hpe := HP0.out.2.2.1
  have hpt := HP0.out.2.2.2
  obtain ⟨k, d, hAt⟩ := Cal.at_of (F + P.t) (by omega) (by omega)
  obtain ⟨c, hCn⟩ := Cal.cnt_of (u := P.u) (e := P.e) (day := F) hAt hpe.1 (by omega) (by omega)
  have hc0 := hCn.nn
  have hc1 : c ≤ 1000 := by
    by_cases h : 1 ≤ c
    · have := hCn.le hAt hpe.1 h; omega
    · omega
  have HAT := Lib.hid hAt
  have HCN := Lib.hid hCn
  clear hAt hCn
  obtain ⟨x, hx⟩ : ∃ x, Av.runs (Cal.vN P.u (F + P.t) k d P.e) P c c.toNat (Av.opened 0 (F + P.t)) = x := ⟨_, rfl⟩
  have HX := Lib.hid hx
  clear hx
  have HS0 : Hid ((fun w' : World => w'.heap[T]? = some (.cells P.arr 26 (0, 0))) W0.drew) := HT.out
  apply region_frame (fun Z A1 c1 w' => Hid (Grew W0 w') ∧ Hid ((fun w' : World => w'.heap[T]? = some (.cells P.arr 26 (0, 0))) w') ∧ Hid (w'.heap[Z]? = some (.cells (x.arr (.slice A1 x.l.length c1)) 33 (0, 0))) ∧ Hid (Cys w' (T + 1) w'.heap.size (.slice A1 x.l.length c1) x.l) ∧ T < Z ∧ Z < w'.heap.size)
  · refine lane_start (ord := [0, 1, 3, 4, 2, 5, 6, 7, 8, 9, 10, 11]) (S := (fun w' : World => w'.heap[T]? = some (.cells P.arr 26 (0, 0)))) rfl (by kernel_rfl) (by exact HS0.out) (fun _ => ?_)
    refine lane_take (v := .agg P.arr) rfl (by kernel_rfl) (by kernel_rfl) (by rfl) (fun W hSw => exec_load rfl rfl (run_loadAt_row W T 26 26 _ (0, 0) _ hSw Try.underlying26 rfl info6p)) (by exact HS0.out) ?_
    simp only [Act.put, List.setIfInBounds_toArray, List.set_cons_zero, List.set_cons_succ]
    (refine lane_take (v := ?_) rfl (by kernel_rfl) (by kernel_rfl) (by rfl) ?_ (by exact HS0.out) ?_; rotate_left; (focus (intro W hSw; go_simp; try (with_reducible rfl))); simp only [Act.put, List.setIfInBounds_toArray, List.set_cons_zero, List.set_cons_succ])
    refine lane_take (v := .agg P.arr) rfl (by kernel_rfl) (by kernel_rfl) (by rfl) (fun W hSw => exec_load rfl rfl (run_loadAt_row W T 26 26 _ (0, 0) _ hSw Try.underlying26 rfl info6p)) (by exact HS0.out) ?_
    simp only [Act.put, List.setIfInBounds_toArray, List.set_cons_zero, List.set_cons_succ]
    (refine lane_take (v := ?_) rfl (by kernel_rfl) (by kernel_rfl) (by rfl) ?_ (by exact HS0.out) ?_; rotate_left; (focus (intro W hSw; go_simp; try (with_reducible rfl))); simp only [Act.put, List.setIfInBounds_toArray, List.set_cons_zero, List.set_cons_succ])
    refine lane_two (i := 2) (j := 9) (ordI := [5, 6, 7, 8, 9, 10, 11]) (ordJ := [2, 5, 6, 7, 8, 10, 11]) rfl rfl (by kernel_rfl) rfl (by rfl) (by rfl) (fun K hK => ?_) (fun K hK => ?_)
    · go_simp
      refine (open_any (p := P) 0 F (by have := HP0.out.2.2.2; omega)).mono ?_
      rintro e W1 ⟨rfl, hb⟩
      have hb0 : Below W0.heap.size W0 W1 := (Below.refl _ W0).drew.trans hb
      have HS1 : Hid ((fun w' : World => w'.heap[T]? = some (.cells P.arr 26 (0, 0))) W1) := (hb0.block T hT1).trans HT.out
      have HW1 : Hid (Below W0.heap.size W0 W1) := HW00.out.trans (hb0.mono HW00.out.size)
      have hz1 : W0.heap.size ≤ W1.heap.size := hb0.size
      clear hb hb0
      refine hK _ _ HS1.out (fun _ => ?_)
      clear hK K
      refine lane_two (i := 5) (j := 9) (ordI := [6, 7, 8, 9, 10, 11]) (ordJ := [5, 6, 7, 8, 10, 11]) rfl rfl (by kernel_rfl) rfl (by rfl) (by rfl) (fun K hK => ?_) (fun K hK => ?_)
      · go_simp
        refine (daycalm_any (a := Av.opened 0 (F + P.t)) (p := P) (m := 0) (y := F) (c := c) (k := k) (d := d) Cys.nil (Av.opened_fine _ _) (by omega) (by show (1 : Int) ≠ 3; decide) HAT.out HP0.out.2.1 ⟨HP0.out.2.2.1.1, by have := HP0.out.2.2.1.2; omega⟩ ⟨by show (0 : Int) ≤ 0; omega, by show (0 : Int) ≤ 100000; omega⟩ (by show c ≤ 0 + 10000; omega) HCN.out ⟨HP0.out.1.1, by have := HP0.out.1.2; omega⟩).mono ?_
        rw [show (c - (Av.opened 0 (F + P.t)).ix).toNat = c.toNat from by show (c - 0).toNat = _; rw [Int.sub_zero]]
        rw [show (Av.opened 0 (F + P.t)).an = F + P.t from rfl]
        rw [HX.out]
        rintro e W3 ⟨v1, rfl, ho3, hb3⟩
        obtain ⟨A1, c1, rfl, _, _⟩ := ho3.form
        have HS3 : Hid ((fun w' : World => w'.heap[T]? = some (.cells P.arr 26 (0, 0))) W3) := (hb3.block T (by omega)).trans HS1.out
        have HW3 : Hid (Below W0.heap.size W0 W3) := HW1.out.trans (hb3.mono HW1.out.size)
        have HC3 : Hid (Cys W3 W1.heap.size W3.heap.size (.slice A1 x.l.length c1) x.l) := ho3.cys
        have hz3 : W1.heap.size ≤ W3.heap.size := hb3.size
        clear hb3 ho3 HS1 HW1
        refine hK _ _ HS3.out (fun _ => ?_)
        clear hK K
        (refine lane_take (v := ?_) rfl (by kernel_rfl) (by kernel_rfl) (by rfl) ?_ (by exact HS3.out) ?_; rotate_left; (focus (intro W hSw; go_simp; try (with_reducible rfl))); simp only [Act.put, List.setIfInBounds_toArray, List.set_cons_zero, List.set_cons_succ])
        (refine lane_take (v := ?_) rfl (by kernel_rfl) (by kernel_rfl) (by rfl) ?_ (by exact HS3.out) ?_; rotate_left; (focus (intro W hSw; go_simp; try (with_reducible rfl))); simp only [Act.put, List.setIfInBounds_toArray, List.set_cons_zero, List.set_cons_succ])
        (refine lane_take (v := ?_) rfl (by kernel_rfl) (by kernel_rfl) (by rfl) ?_ (by exact HS3.out) ?_; rotate_left; (focus (intro W hSw; go_simp; try (with_reducible rfl))); simp only [Act.put, List.setIfInBounds_toArray, List.set_cons_zero, List.set_cons_succ])
        refine lane_alone rfl (by kernel_rfl) (by rfl) (fun K hK => ?_)
        go_simp
        have HZ : Hid ((W3.alloc (.cells #[.int .u8 0, .int .i64 0, .int .i64 0, .int .i64 0, .int .i64 0, .int .i64 0, .bool false, .slice none 0 0, .int .i64 0, .int .i64 0, .int .i64 0, .int .i64 0, .int .i64 0] 33)).heap[W3.heap.size]? = some (.cells #[.int .u8 0, .int .i64 0, .int .i64 0, .int .i64 0, .int .i64 0, .int .i64 0, .bool false, .slice none 0 0, .int .i64 0, .int .i64 0, .int .i64 0, .int .i64 0, .int .i64 0] 33 (0, 0))) := alloc_at rfl
        have HS4 : Hid ((fun w' : World => w'.heap[T]? = some (.cells P.arr 26 (0, 0))) (W3.alloc (.cells #[.int .u8 0, .int .i64 0, .int .i64 0, .int .i64 0, .int .i64 0, .int .i64 0, .bool false, .slice none 0 0, .int .i64 0, .int .i64 0, .int .i64 0, .int .i64 0, .int .i64 0] 33))) := alloc_old (by omega) HS3.out
        have HW4 : Hid (Below W0.heap.size W0 (W3.alloc (.cells #[.int .u8 0, .int .i64 0, .int .i64 0, .int .i64 0, .int .i64 0, .int .i64 0, .bool false, .slice none 0 0, .int .i64 0, .int .i64 0, .int .i64 0, .int .i64 0, .int .i64 0] 33))) := HW3.out.alloc HW3.out.size _
        have HC4 : Hid (Cys (W3.alloc (.cells #[.int .u8 0, .int .i64 0, .int .i64 0, .int .i64 0, .int .i64 0, .int .i64 0, .bool false, .slice none 0 0, .int .i64 0, .int .i64 0, .int .i64 0, .int .i64 0, .int .i64 0] 33)) W1.heap.size W3.heap.size (.slice A1 x.l.length c1) x.l) := HC3.out.below ((Below.refl _ W3).alloc (Nat.le_refl _) _)
        have hzz : W3.heap.size < (W3.alloc (.cells #[.int .u8 0, .int .i64 0, .int .i64 0, .int .i64 0, .int .i64 0, .int .i64 0, .bool false, .slice none 0 0, .int .i64 0, .int .i64 0, .int .i64 0, .int .i64 0, .int .i64 0] 33)).heap.size := by simp
        refine hK _ _ HS4.out (fun _ => ?_)
        clear hK K
        refine lane_alone rfl (by kernel_rfl) (by rfl) (fun K hK => ?_)
        refine wp_store_row _ _ _ rfl W3.heap.size _ rfl rfl _ _ HZ.out (by exact info13) rfl (Av.arr_one rfl) ?_
        rw [row_boxed HZ.out]
        refine hK _ _ ((boxed_block_other (by omega)).trans HS4.out) (fun _ => ?_)
        clear hK K
        have hS5 : (fun w' : World => w'.heap[T]? = some (.cells P.arr 26 (0, 0))) (boxed (W3.alloc (.cells #[.int .u8 0, .int .i64 0, .int .i64 0, .int .i64 0, .int .i64 0, .int .i64 0, .bool false, .slice none 0 0, .int .i64 0, .int .i64 0, .int .i64 0, .int .i64 0, .int .i64 0] 33)) W3.heap.size (x.arr (.slice A1 x.l.length c1)) 33) := (boxed_block_other (by omega)).trans HS4.out
        have hZ5 : (boxed (W3.alloc (.cells #[.int .u8 0, .int .i64 0, .int .i64 0, .int .i64 0, .int .i64 0, .int .i64 0, .bool false, .slice none 0 0, .int .i64 0, .int .i64 0, .int .i64 0, .int .i64 0, .int .i64 0] 33)) W3.heap.size (x.arr (.slice A1 x.l.length c1)) 33).heap[W3.heap.size]? = some (.cells (x.arr (.slice A1 x.l.length c1)) 33 (0, 0)) := boxed_at hzz
        have hW5 : Below W0.heap.size W0 (boxed (W3.alloc (.cells #[.int .u8 0, .int .i64 0, .int .i64 0, .int .i64 0, .int .i64 0, .int .i64 0, .bool false, .slice none 0 0, .int .i64 0, .int .i64 0, .int .i64 0, .int .i64 0, .int .i64 0] 33)) W3.heap.size (x.arr (.slice A1 x.l.length c1)) 33) := boxed_below HW4.out (by omega)
        have hC5 : Cys (boxed (W3.alloc (.cells #[.int .u8 0, .int .i64 0, .int .i64 0, .int .i64 0, .int .i64 0, .int .i64 0, .bool false, .slice none 0 0, .int .i64 0, .int .i64 0, .int .i64 0, .int .i64 0, .int .i64 0] 33)) W3.heap.size (x.arr (.slice A1 x.l.length c1)) 33) (T + 1) (boxed (W3.alloc (.cells #[.int .u8 0, .int .i64 0, .int .i64 0, .int .i64 0, .int .i64 0, .int .i64 0, .bool false, .slice none 0 0, .int .i64 0, .int .i64 0, .int .i64 0, .int .i64 0, .int .i64 0] 33)) W3.heap.size (x.arr (.slice A1 x.l.length c1)) 33).heap.size (.slice A1 x.l.length c1) x.l := (HC4.out.boxed (.inr (Nat.le_refl _))).more (by omega) (by simp only [boxed_size]; omega)
        have hzz5 : W3.heap.size < (boxed (W3.alloc (.cells #[.int .u8 0, .int .i64 0, .int .i64 0, .int .i64 0, .int .i64 0, .int .i64 0, .bool false, .slice none 0 0, .int .i64 0, .int .i64 0, .int .i64 0, .int .i64 0, .int .i64 0] 33)) W3.heap.size (x.arr (.slice A1 x.l.length c1)) 33).heap.size := by simp only [boxed_size]; exact hzz
        have hZT : T < W3.heap.size := by omega
        obtain ⟨W5, hW5e⟩ : ∃ W5, boxed (W3.alloc (.cells #[.int .u8 0, .int .i64 0, .int .i64 0, .int .i64 0, .int .i64 0, .int .i64 0, .bool false, .slice none 0 0, .int .i64 0, .int .i64 0, .int .i64 0, .int .i64 0, .int .i64 0] 33)) W3.heap.size (x.arr (.slice A1 x.l.length c1)) 33 = W5 := ⟨_, rfl⟩
        rw [hW5e] at hS5 hZ5 hW5 hC5 hzz5 ⊢
        obtain ⟨Z, hZe⟩ : ∃ Z, W3.heap.size = Z := ⟨_, rfl⟩
        rw [hZe] at hZ5 hzz5 hZT ⊢
        have HS5 := Lib.hid hS5
        have HZ5 := Lib.hid hZ5
        have HW5 := Lib.hid hW5
        have HC5 := Lib.hid hC5
        clear hW5e hZe hS5 hZ5 hW5 hC5 HZ HS4 HW4 HC4 hzz
        refine lane_alone rfl (by kernel_rfl) (by rfl) (fun K hK => ?_)
        go_simp
        refine hK _ _ HS5.out (fun _ => ?_)
        clear hK K
        refine lane_end (by kernel_rfl) ?_
        exact ⟨rfl, _, _, _, rfl, HW5, HS5, HZ5, HC5, hZT, hzz5⟩
      · go_simp
        have hZ2 : (W1.alloc (.cells #[.int .u8 0, .int .i64 0, .int .i64 0, .int .i64 0, .int .i64 0, .int .i64 0, .bool false, .slice none 0 0, .int .i64 0, .int .i64 0, .int .i64 0, .int .i64 0, .int .i64 0] 33)).heap[W1.heap.size]? = some (.cells #[.int .u8 0, .int .i64 0, .int .i64 0, .int .i64 0, .int .i64 0, .int .i64 0, .bool false, .slice none 0 0, .int .i64 0, .int .i64 0, .int .i64 0, .int .i64 0, .int .i64 0] 33 (0, 0)) := alloc_at rfl
        have HS2 : Hid ((fun w' : World => w'.heap[T]? = some (.cells P.arr 26 (0, 0))) (W1.alloc (.cells #[.int .u8 0, .int .i64 0, .int .i64 0, .int .i64 0, .int .i64 0, .int .i64 0, .bool false, .slice none 0 0, .int .i64 0, .int .i64 0, .int .i64 0, .int .i64 0, .int .i64 0] 33))) := alloc_old (by omega) HS1.out
        have HW2 : Hid (Below W0.heap.size W0 (W1.alloc (.cells #[.int .u8 0, .int .i64 0, .int .i64 0, .int .i64 0, .int .i64 0, .int .i64 0, .bool false, .slice none 0 0, .int .i64 0, .int .i64 0, .int .i64 0, .int .i64 0, .int .i64 0] 33))) := HW1.out.alloc HW1.out.size _
        have hz2 : (W1.alloc (.cells #[.int .u8 0, .int .i64 0, .int .i64 0, .int .i64 0, .int .i64 0, .int .i64 0, .bool false, .slice none 0 0, .int .i64 0, .int .i64 0, .int .i64 0, .int .i64 0, .int .i64 0] 33)).heap.size = W1.heap.size + 1 := by simp
        refine hK _ _ HS2.out (fun _ => ?_)
        clear hK K
        refine lane_alone rfl (by kernel_rfl) (by rfl) (fun K hK => ?_)
        go_simp
        refine (daycalm_any (a := Av.opened 0 (F + P.t)) (p := P) (m := 0) (y := F) (c := c) (k := k) (d := d) Cys.nil (Av.opened_fine _ _) (by omega) (by show (1 : Int) ≠ 3; decide) HAT.out HP0.out.2.1 ⟨HP0.out.2.2.1.1, by have := HP0.out.2.2.1.2; omega⟩ ⟨by show (0 : Int) ≤ 0; omega, by show (0 : Int) ≤ 100000; omega⟩ (by show c ≤ 0 + 10000; omega) HCN.out ⟨HP0.out.1.1, by have := HP0.out.1.2; omega⟩).mono ?_
        rw [show (c - (Av.opened 0 (F + P.t)).ix).toNat = c.toNat from by show (c - 0).toNat = _; rw [Int.sub_zero]]
        rw [show (Av.opened 0 (F + P.t)).an = F + P.t from rfl]
        rw [HX.out]
        rintro e W4 ⟨v1, rfl, ho3, hb3⟩
        obtain ⟨A1, c1, rfl, _, _⟩ := ho3.form
        have HS4 : Hid ((fun w' : World => w'.heap[T]? = some (.cells P.arr 26 (0, 0))) W4) := (hb3.block T (by omega)).trans HS2.out
        have HS3 := HS4
        have HW4 : Hid (Below W0.heap.size W0 W4) := HW2.out.trans (hb3.mono HW2.out.size)
        have HC4 : Hid (Cys W4 (W1.alloc (.cells #[.int .u8 0, .int .i64 0, .int .i64 0, .int .i64 0, .int .i64 0, .int .i64 0, .bool false, .slice none 0 0, .int .i64 0, .int .i64 0, .int .i64 0, .int .i64 0, .int .i64 0] 33)).heap.size W4.heap.size (.slice A1 x.l.length c1) x.l) := ho3.cys
        have hz3 : (W1.alloc (.cells #[.int .u8 0, .int .i64 0, .int .i64 0, .int .i64 0, .int .i64 0, .int .i64 0, .bool false, .slice none 0 0, .int .i64 0, .int .i64 0, .int .i64 0, .int .i64 0, .int .i64 0] 33)).heap.size ≤ W4.heap.size := hb3.size
        have HZ : Hid (W4.heap[W1.heap.size]? = some (.cells #[.int .u8 0, .int .i64 0, .int .i64 0, .int .i64 0, .int .i64 0, .int .i64 0, .bool false, .slice none 0 0, .int .i64 0, .int .i64 0, .int .i64 0, .int .i64 0, .int .i64 0] 33 (0, 0))) := (hb3.block _ (by omega)).trans hZ2
        have hzz : W1.heap.size < W4.heap.size := by omega
        clear hb3 ho3 HS2 HW2 hZ2
        refine hK _ _ HS4.out (fun _ => ?_)
        clear hK K
        (refine lane_take (v := ?_) rfl (by kernel_rfl) (by kernel_rfl) (by rfl) ?_ (by exact HS3.out) ?_; rotate_left; (focus (intro W hSw; go_simp; try (with_reducible rfl))); simp only [Act.put, List.setIfInBounds_toArray, List.set_cons_zero, List.set_cons_succ])
        (refine lane_take (v := ?_) rfl (by kernel_rfl) (by kernel_rfl) (by rfl) ?_ (by exact HS3.out) ?_; rotate_left; (focus (intro W hSw; go_simp; try (with_reducible rfl))); simp only [Act.put, List.setIfInBounds_toArray, List.set_cons_zero, List.set_cons_succ])
        (refine lane_take (v := ?_) rfl (by kernel_rfl) (by kernel_rfl) (by rfl) ?_ (by exact HS3.out) ?_; rotate_left; (focus (intro W hSw; go_simp; try (with_reducible rfl))); simp only [Act.put, List.setIfInBounds_toArray, List.set_cons_zero, List.set_cons_succ])
        refine lane_alone rfl (by kernel_rfl) (by rfl) (fun K hK => ?_)
        refine wp_store_row _ _ _ rfl W1.heap.size _ rfl rfl _ _ HZ.out (by exact info13) rfl (Av.arr_one rfl) ?_
        rw [row_boxed HZ.out]
        refine hK _ _ ((boxed_block_other (by omega)).trans HS4.out) (fun _ => ?_)
        clear hK K
        have hS5 : (fun w' : World => w'.heap[T]? = some (.cells P.arr 26 (0, 0))) (boxed W4 W1.heap.size (x.arr (.slice A1 x.l.length c1)) 33) := (boxed_block_other (by omega)).trans HS4.out
        have hZ5 : (boxed W4 W1.heap.size (x.arr (.slice A1 x.l.length c1)) 33).heap[W1.heap.size]? = some (.cells (x.arr (.slice A1 x.l.length c1)) 33 (0, 0)) := boxed_at hzz
        have hW5 : Below W0.heap.size W0 (boxed W4 W1.heap.size (x.arr (.slice A1 x.l.length c1)) 33) := boxed_below HW4.out (by omega)
        have hC5 : Cys (boxed W4 W1.heap.size (x.arr (.slice A1 x.l.length c1)) 33) (T + 1) (boxed W4 W1.heap.size (x.arr (.slice A1 x.l.length c1)) 33).heap.size (.slice A1 x.l.length c1) x.l := (HC4.out.boxed (.inl (by omega))).more (by omega) (by simp only [boxed_size]; omega)
        have hzz5 : W1.heap.size < (boxed W4 W1.heap.size (x.arr (.slice A1 x.l.length c1)) 33).heap.size := by simp only [boxed_size]; exact hzz
        have hZT : T < W1.heap.size := by omega
        obtain ⟨W5, hW5e⟩ : ∃ W5, boxed W4 W1.heap.size (x.arr (.slice A1 x.l.length c1)) 33 = W5 := ⟨_, rfl⟩
        rw [hW5e] at hS5 hZ5 hW5 hC5 hzz5 ⊢
        obtain ⟨Z, hZe⟩ : ∃ Z, W1.heap.size = Z := ⟨_, rfl⟩
        rw [hZe] at hZ5 hzz5 hZT ⊢
        have HS5 := Lib.hid hS5
        have HZ5 := Lib.hid hZ5
        have HW5 := Lib.hid hW5
        have HC5 := Lib.hid hC5
        clear hW5e hZe hS5 hZ5 hW5 hC5 HZ HS4 HW4 HC4 hzz
        refine lane_alone rfl (by kernel_rfl) (by rfl) (fun K hK => ?_)
        go_simp
        refine hK _ _ HS5.out (fun _ => ?_)
        clear hK K
        refine lane_end (by kernel_rfl) ?_
        exact ⟨rfl, _, _, _, rfl, HW5, HS5, HZ5, HC5, hZT, hzz5⟩
    · go_simp
      have hZ0 : (W0.alloc (.cells #[.int .u8 0, .int .i64 0, .int .i64 0, .int .i64 0, .int .i64 0, .int .i64 0, .bool false, .slice none 0 0, .int .i64 0, .int .i64 0, .int .i64 0, .int .i64 0, .int .i64 0] 33)).heap[W0.heap.size]? = some (.cells #[.int .u8 0, .int .i64 0, .int .i64 0, .int .i64 0, .int .i64 0, .int .i64 0, .bool false, .slice none 0 0, .int .i64 0, .int .i64 0, .int .i64 0, .int .i64 0, .int .i64 0] 33 (0, 0)) := alloc_at rfl
      have hT00 : (W0.alloc (.cells #[.int .u8 0, .int .i64 0, .int .i64 0, .int .i64 0, .int .i64 0, .int .i64 0, .bool false, .slice none 0 0, .int .i64 0, .int .i64 0, .int .i64 0, .int .i64 0, .int .i64 0] 33)).heap[T]? = some (.cells P.arr 26 (0, 0)) := alloc_old hT1 HT.out
      have hZ1 : ((W0.alloc (.cells #[.int .u8 0, .int .i64 0, .int .i64 0, .int .i64 0, .int .i64 0, .int .i64 0, .bool false, .slice none 0 0, .int .i64 0, .int .i64 0, .int .i64 0, .int .i64 0, .int .i64 0] 33)).drew).heap[W0.heap.size]? = some (.cells #[.int .u8 0, .int .i64 0, .int .i64 0, .int .i64 0, .int .i64 0, .int .i64 0, .bool false, .slice none 0 0, .int .i64 0, .int .i64 0, .int .i64 0, .int .i64 0, .int .i64 0] 33 (0, 0)) := hZ0
      have HS1 : Hid ((fun w' : World => w'.heap[T]? = some (.cells P.arr 26 (0, 0))) ((W0.alloc (.cells #[.int .u8 0, .int .i64 0, .int .i64 0, .int .i64 0, .int .i64 0, .int .i64 0, .bool false, .slice none 0 0, .int .i64 0, .int .i64 0, .int .i64 0, .int .i64 0, .int .i64 0] 33)).drew)) := hT00
      have HW1 : Hid (Below W0.heap.size W0 ((W0.alloc (.cells #[.int .u8 0, .int .i64 0, .int .i64 0, .int .i64 0, .int .i64 0, .int .i64 0, .bool false, .slice none 0 0, .int .i64 0, .int .i64 0, .int .i64 0, .int .i64 0, .int .i64 0] 33)).drew)) := (HW00.out.alloc HW00.out.size _).drew
      have hz1 : ((W0.alloc (.cells #[.int .u8 0, .int .i64 0, .int .i64 0, .int .i64 0, .int .i64 0, .int .i64 0, .bool false, .slice none 0 0, .int .i64 0, .int .i64 0, .int .i64 0, .int .i64 0, .int .i64 0] 33)).drew).heap.size = W0.heap.size + 1 := by show (W0.alloc _).heap.size = _; rw [World.size_alloc]
      clear hZ0 hT00
      refine hK _ _ HS1.out (fun _ => ?_)
      clear hK K
      refine lane_alone rfl (by kernel_rfl) (by rfl) (fun K hK => ?_)
      go_simp
      refine (open_any (p := P) 0 F (by have := HP0.out.2.2.2; omega)).mono ?_
      rintro e W2 ⟨rfl, hb⟩
      have hZ2 : W2.heap[W0.heap.size]? = some (.cells #[.int .u8 0, .int .i64 0, .int .i64 0, .int .i64 0, .int .i64 0, .int .i64 0, .bool false, .slice none 0 0, .int .i64 0, .int .i64 0, .int .i64 0, .int .i64 0, .int .i64 0] 33 (0, 0)) := (hb.block _ (by omega)).trans hZ1
      have HS2 : Hid ((fun w' : World => w'.heap[T]? = some (.cells P.arr 26 (0, 0))) W2) := (hb.block T (by omega)).trans HS1.out
      have HW2 : Hid (Below W0.heap.size W0 W2) := HW1.out.trans (hb.mono HW1.out.size)
      have hz2 : W0.heap.size + 1 ≤ W2.heap.size := by have := hb.size; omega
      clear hb hZ1 HS1 HW1
      refine hK _ _ HS2.out (fun _ => ?_)
      clear hK K
      refine lane_alone rfl (by kernel_rfl) (by rfl) (fun K hK => ?_)
      go_simp
      refine (daycalm_any (a := Av.opened 0 (F + P.t)) (p := P) (m := 0) (y := F) (c := c) (k := k) (d := d) Cys.nil (Av.opened_fine _ _) (by omega) (by show (1 : Int) ≠ 3; decide) HAT.out HP0.out.2.1 ⟨HP0.out.2.2.1.1, by have := HP0.out.2.2.1.2; omega⟩ ⟨by show (0 : Int) ≤ 0; omega, by show (0 : Int) ≤ 100000; omega⟩ (by show c ≤ 0 + 10000; omega) HCN.out ⟨HP0.out.1.1, by have := HP0.out.1.2; omega⟩).mono ?_
      rw [show (c - (Av.opened 0 (F + P.t)).ix).toNat = c.toNat from by show (c - 0).toNat = _; rw [Int.sub_zero]]
      rw [show (Av.opened 0 (F + P.t)).an = F + P.t from rfl]
      rw [HX.out]
      rintro e W4 ⟨v1, rfl, ho3, hb3⟩
      obtain ⟨A1, c1, rfl, _, _⟩ := ho3.form
      have HS4 : Hid ((fun w' : World => w'.heap[T]? = some (.cells P.arr 26 (0, 0))) W4) := (hb3.block T (by omega)).trans HS2.out
      have HS3 := HS4
      have HW4 : Hid (Below W0.heap.size W0 W4) := HW2.out.trans (hb3.mono HW2.out.size)
      have HC4 : Hid (Cys W4 W2.heap.size W4.heap.size (.slice A1 x.l.length c1) x.l) := ho3.cys
      have hz3 : W2.heap.size ≤ W4.heap.size := hb3.size
      have HZ : Hid (W4.heap[W0.heap.size]? = some (.cells #[.int .u8 0, .int .i64 0, .int .i64 0, .int .i64 0, .int .i64 0, .int .i64 0, .bool false, .slice none 0 0, .int .i64 0, .int .i64 0, .int .i64 0, .int .i64 0, .int .i64 0] 33 (0, 0))) := (hb3.block _ (by omega)).trans hZ2
      have hzz : W0.heap.size < W4.heap.size := by omega
      clear hb3 ho3 HS2 HW2 hZ2
      refine hK _ _ HS4.out (fun _ => ?_)
      clear hK K
      (refine lane_take (v := ?_) rfl (by kernel_rfl) (by kernel_rfl) (by rfl) ?_ (by exact HS3.out) ?_; rotate_left; (focus (intro W hSw; go_simp; try (with_reducible rfl))); simp only [Act.put, List.setIfInBounds_toArray, List.set_cons_zero, List.set_cons_succ])
      (refine lane_take (v := ?_) rfl (by kernel_rfl) (by kernel_rfl) (by rfl) ?_ (by exact HS3.out) ?_; rotate_left; (focus (intro W hSw; go_simp; try (with_reducible rfl))); simp only [Act.put, List.setIfInBounds_toArray, List.set_cons_zero, List.set_cons_succ])
      (refine lane_take (v := ?_) rfl (by kernel_rfl) (by kernel_rfl) (by rfl) ?_ (by exact HS3.out) ?_; rotate_left; (focus (intro W hSw; go_simp; try (with_reducible rfl))); simp only [Act.put, List.setIfInBounds_toArray, List.set_cons_zero, List.set_cons_succ])
      refine lane_alone rfl (by kernel_rfl) (by rfl) (fun K hK => ?_)
      refine wp_store_row _ _ _ rfl W0.heap.size _ rfl rfl _ _ HZ.out (by exact info13) rfl (Av.arr_one rfl) ?_
      rw [row_boxed HZ.out]
      refine hK _ _ ((boxed_block_other (by omega)).trans HS4.out) (fun _ => ?_)
      clear hK K
      have hS5 : (fun w' : World => w'.heap[T]? = some (.cells P.arr 26 (0, 0))) (boxed W4 W0.heap.size (x.arr (.slice A1 x.l.length c1)) 33) := (boxed_block_other (by omega)).trans HS4.out
      have hZ5 : (boxed W4 W0.heap.size (x.arr (.slice A1 x.l.length c1)) 33).heap[W0.heap.size]? = some (.cells (x.arr (.slice A1 x.l.length c1)) 33 (0, 0)) := boxed_at hzz
      have hW5 : Below W0.heap.size W0 (boxed W4 W0.heap.size (x.arr (.slice A1 x.l.length c1)) 33) := boxed_below HW4.out (by omega)
      have hC5 : Cys (boxed W4 W0.heap.size (x.arr (.slice A1 x.l.length c1)) 33) (T + 1) (boxed W4 W0.heap.size (x.arr (.slice A1 x.l.length c1)) 33).heap.size (.slice A1 x.l.length c1) x.l := (HC4.out.boxed (.inl (by omega))).more (by omega) (by simp only [boxed_size]; omega)
      have hzz5 : W0.heap.size < (boxed W4 W0.heap.size (x.arr (.slice A1 x.l.length c1)) 33).heap.size := by simp only [boxed_size]; exact hzz
      have hZT : T < W0.heap.size := by omega
      obtain ⟨W5, hW5e⟩ : ∃ W5, boxed W4 W0.heap.size (x.arr (.slice A1 x.l.length c1)) 33 = W5 := ⟨_, rfl⟩
      rw [hW5e] at hS5 hZ5 hW5 hC5 hzz5 ⊢
      obtain ⟨Z, hZe⟩ : ∃ Z, W0.heap.size = Z := ⟨_, rfl⟩
      rw [hZe] at hZ5 hzz5 hZT ⊢
      have HS5 := Lib.hid hS5
      have HZ5 := Lib.hid hZ5
      have HW5 := Lib.hid hW5
      have HC5 := Lib.hid hC5
      clear hW5e hZe hS5 hZ5 hW5 hC5 HZ HS4 HW4 HC4 hzz
      refine lane_alone rfl (by kernel_rfl) (by rfl) (fun K hK => ?_)
      go_simp
      refine hK _ _ HS5.out (fun _ => ?_)
      clear hK K
      refine lane_end (by kernel_rfl) ?_
      exact ⟨rfl, _, _, _, rfl, HW5, HS5, HZ5, HC5, hZT, hzz5⟩
  · intro Z A1 c1 W5 ⟨HW5, HS5, HZ5, HC5, hZT, hzz5⟩
    have hPa : P.a = a0 := by rw [← HPP.out]
    have hPu : P.u = 0 := by rw [← HPP.out]
    have hPe : P.e = K := by rw [← HPP.out]
    have hPl : P.l = false := by rw [← HPP.out]
    have hPg : P.g = false := by rw [← HPP.out]
    have hPt : P.t = 0 := by rw [← HPP.out]
    have hQa : Q.a = a1 := by rw [← HQQ.out]
    have hQu : Q.u = 0 := by rw [← HQQ.out]
    have hQe : Q.e = K := by rw [← HQQ.out]
    have hQl : Q.l = false := by rw [← HQQ.out]
    have hQg : Q.g = false := by rw [← HQQ.out]
    rw [hPt, Int.add_zero] at HAT HCN HX
    have hcl := HCN.out.le HAT.out HP0.out.2.2.1.1
    have hcp := HCN.out.pos HAT.out (Int.le_refl _)
    obtain rfl : c = 1 := by have := hcl hcp; omega
    have hst1 : ∀ e : Int, Cal.stp 0 e = e := fun e => by unfold Cal.stp; simp
    have hvn : ∀ a k d n : Int, Cal.vN 0 a k d K n = a + n * K := fun a k d n => by rw [Cal.vN_days (by decide), hst1]
    obtain ⟨x1, x2, x3, x4, x5, x6, x7, x8⟩ := first_one (N := Cal.vN P.u F k d P.e) (p := P) (an := F) hPl hPg (by omega)
    have hxf := Av.Fine.runs (p := P) (N := Cal.vN P.u F k d P.e) (c := 1) ⟨HP0.out.1.1, by have := HP0.out.1.2; omega⟩ 1 0 _ (Av.opened_fine 0 F)
    have hX := HX.out
    rw [show (1 : Int).toNat = 1 from rfl] at hX
    rw [hX] at x1 x2 x3 x4 x5 x6 x7 x8 hxf
    have X1 := Lib.hid x1
    have X2 := Lib.hid x2
    have X3 := Lib.hid x3
    have X4 := Lib.hid x4
    have X5 := Lib.hid x5
    have X6 := Lib.hid x6
    have X7 := Lib.hid x7
    have X8 := Lib.hid x8
    have HXF := Lib.hid hxf
    -- the day in between
    obtain ⟨r, hr⟩ : ∃ r, a3 % (K - 1) = r := ⟨_, rfl⟩
    have hr0 : 0 ≤ r := by rw [← hr]; exact Int.emod_nonneg _ (by omega)
    have hr1 : r < K - 1 := by rw [← hr]; exact Int.emod_lt_of_pos _ (by omega)
    have er : a3.tmod (K - 1) = r := by rw [Int.tmod_eq_emod_of_nonneg (by omega), hr]
    have ek : (K - 1 == 0) = false := by rw [beq_eq_false_iff_ne]; omega
    have ek1 : wrap64 (K - 1) = K - 1 := by unfold wrap64; omega
    obtain ⟨n, hn⟩ : ∃ n, 1 + r = n := ⟨_, rfl⟩
    have hn0 : 1 ≤ n := by omega
    have hn1 : n < K := by omega
    have hcn2 : Cal.Cnt 0 F k d K (F + n) 1 := by
      have := Cal.Cnt.days (u := 0) (a := F) (k := k) (d := d) (e := K) (day := F + n) (by omega) (by omega) (by omega) (by decide)
      rw [hst1, show F + n - F = n by omega, Int.ediv_eq_zero_of_lt (by omega) hn1] at this
      exact this
    have HCN2 := Lib.hid hcn2
    have hok : Cal.okN 0 F k K 1 = true := by rw [Cal.okN_days (by decide), hst1]; omega
    have HOK := Lib.hid hok
    have HVN := Lib.hid hvn
    have HST := Lib.hid hst1
    have hT5 : W5.heap[T]? = some (.cells P.arr 26 (0, 0)) := HS5.out
    have hQ5 : W5.heap[T + 1]? = some (.cells Q.arr 26 (0, 0)) := ((show Below W0.heap.size W0 W5 from HW5.out).block (T + 1) hT2).trans HTQ.out
    have hZ5 := HZ5.out
    have HW5g : Hid (Below W0.heap.size W0 W5) := HW5
    clear HW5
    have HW5 := HW5g
    clear HW5g
    have HW5' : Hid (Below w.heap.size w W5) := HW0.out.trans (HW5.out.mono HW0.out.size)
    have HC5' : Hid (Cys W5 0 W5.heap.size (.slice A1 x.l.length c1) x.l) := HC5.out.more (Nat.zero_le _) (Nat.le_refl _)
    have hlen := HXF.out.len
    have hz51 : T + 1 < W5.heap.size := by have := HW5.out.size; omega
    have eY : wrap64 (F + n) = F + n := by unfold wrap64; omega
    have HR := Lib.hid hr
    have HNN := Lib.hid hn
    have HPA := Lib.hid hPa
    have HPU := Lib.hid hPu
    have HPE := Lib.hid hPe
    have HQA := Lib.hid hQa
    have HQU := Lib.hid hQu
    have HQE := Lib.hid hQe
    have HQL := Lib.hid hQl
    have HQG := Lib.hid hQg
    clear hPa hPu hPe hPl hPg hPt hQa hQu hQe hQl hQg hcl hcp hst1 hvn x1 x2 x3 x4 x5 x6 x7 x8 hxf hX hcn2 hok HW5 HC5 HS5 HZ5 hr HX
    go_wp2_with (first | ((with_reducible_and_instances (show wpList _ _ _ (Oper.mk _ (Op.load 33 _) _ _ _ _ :: _) _ _)); refine wl_load Try.underlying33 rfl info13 rfl rfl rfl (by (repeat (first | assumption | (with_reducible refine alloc_at ?_; (focus (first | omega | (simp; done) | (simp; omega)))) | (with_reducible refine boxed_at ?_; (focus (first | omega | (simp; done) | (simp; omega)))) | (with_reducible refine alloc_old ?_ ?_; (focus (first | omega | (simp; done) | (simp; omega)))) | (with_reducible refine boxed_old ?_ ?_; (focus (first | omega | (simp; done) | (simp; omega)))) | (with_reducible refine drew_old ?_)))) (by rfl) ?_) | ((with_reducible_and_instances (show wpList _ _ _ (Oper.mk _ (Op.load 26 _) _ _ _ _ :: _) _ _)); refine wl_load Try.underlying26 rfl info6p rfl rfl rfl (by (repeat (first | assumption | (with_reducible refine alloc_at ?_; (focus (first | omega | (simp; done) | (simp; omega)))) | (with_reducible refine boxed_at ?_; (focus (first | omega | (simp; done) | (simp; omega)))) | (with_reducible refine alloc_old ?_ ?_; (focus (first | omega | (simp; done) | (simp; omega)))) | (with_reducible refine boxed_old ?_ ?_; (focus (first | omega | (simp; done) | (simp; omega)))) | (with_reducible refine drew_old ?_)))) (by rfl) ?_) | ((with_reducible_and_instances (show wpList _ _ _ (Oper.mk _ (Op.store 33 _ _) _ _ _ _ :: _) _ _)); refine wl_store info13 rfl rfl rfl rfl (by (repeat (first | assumption | (with_reducible refine alloc_at ?_; (focus (first | omega | (simp; done) | (simp; omega)))) | (with_reducible refine boxed_at ?_; (focus (first | omega | (simp; done) | (simp; omega)))) | (with_reducible refine alloc_old ?_ ?_; (focus (first | omega | (simp; done) | (simp; omega)))) | (with_reducible refine boxed_old ?_ ?_; (focus (first | omega | (simp; done) | (simp; omega)))) | (with_reducible refine drew_old ?_)))) (by rfl) (by rfl) (by first | exact Cv.arr_one _ | exact Nv.arr_one _ | exact Av.arr_one rfl | exact Pv.arr_one _ | simp [Value.oneCell']) ?_))
    clear er ek ek1 hn
    refine (daycalm_any (a := x) (p := P) (m := 1) (y := F + n) (c := 1) (k := k) (d := d) HC5'.out HXF.out (by omega) (by rw [X1.out]; decide) (by rw [X3.out]; exact HAT.out) HP0.out.2.1 ⟨HP0.out.2.2.1.1, by have := HP0.out.2.2.1.2; omega⟩ (by rw [X4.out]; omega) (by rw [X4.out]; omega) (by rw [X3.out, HPU.out, HPE.out]; exact HCN2.out) ⟨HP0.out.1.1, by have := HP0.out.1.2; omega⟩).mono ?_
    rw [show Av.runs (Cal.vN P.u x.an k d P.e) P 1 (1 - x.ix).toNat x = x from by rw [X4.out]; rfl]
    rintro e w6 ⟨v6, rfl, ho6, hb6⟩
    have hT6 : w6.heap[T]? = some (.cells P.arr 26 (0, 0)) := below_block hb6 hT5
    have hQ6 : w6.heap[T + 1]? = some (.cells Q.arr 26 (0, 0)) := below_block hb6 hQ5
    have HW6 : Hid (Below w.heap.size w w6) := HW5'.out.trans (hb6.mono HW5'.out.size)
    obtain ⟨A6, c6, rfl, _, _⟩ := ho6.form
    have HC6 : Hid (Cys w6 0 w6.heap.size (.slice A6 x.l.length c6) x.l) := ho6.cys.more (Nat.zero_le _) (Nat.le_refl _)
    have hz6 : T + 1 < w6.heap.size := (Array.getElem?_eq_some_iff.1 hQ6).1
    have hz60 : T < w6.heap.size := by omega
    clear hb6 ho6 hT5 hQ5 hZ5 HC5'
    go_wp2_with (first | ((with_reducible_and_instances (show wpList _ _ _ (Oper.mk _ (Op.load 33 _) _ _ _ _ :: _) _ _)); refine wl_load Try.underlying33 rfl info13 rfl rfl rfl (by (repeat (first | assumption | (with_reducible refine alloc_at ?_; (focus (first | omega | (simp; done) | (simp; omega)))) | (with_reducible refine boxed_at ?_; (focus (first | omega | (simp; done) | (simp; omega)))) | (with_reducible refine alloc_old ?_ ?_; (focus (first | omega | (simp; done) | (simp; omega)))) | (with_reducible refine boxed_old ?_ ?_; (focus (first | omega | (simp; done) | (simp; omega)))) | (with_reducible refine drew_old ?_)))) (by rfl) ?_) | ((with_reducible_and_instances (show wpList _ _ _ (Oper.mk _ (Op.load 26 _) _ _ _ _ :: _) _ _)); refine wl_load Try.underlying26 rfl info6p rfl rfl rfl (by (repeat (first | assumption | (with_reducible refine alloc_at ?_; (focus (first | omega | (simp; done) | (simp; omega)))) | (with_reducible refine boxed_at ?_; (focus (first | omega | (simp; done) | (simp; omega)))) | (with_reducible refine alloc_old ?_ ?_; (focus (first | omega | (simp; done) | (simp; omega)))) | (with_reducible refine boxed_old ?_ ?_; (focus (first | omega | (simp; done) | (simp; omega)))) | (with_reducible refine drew_old ?_)))) (by rfl) ?_) | ((with_reducible_and_instances (show wpList _ _ _ (Oper.mk _ (Op.store 33 _ _) _ _ _ _ :: _) _ _)); refine wl_store info13 rfl rfl rfl rfl (by (repeat (first | assumption | (with_reducible refine alloc_at ?_; (focus (first | omega | (simp; done) | (simp; omega)))) | (with_reducible refine boxed_at ?_; (focus (first | omega | (simp; done) | (simp; omega)))) | (with_reducible refine alloc_old ?_ ?_; (focus (first | omega | (simp; done) | (simp; omega)))) | (with_reducible refine boxed_old ?_ ?_; (focus (first | omega | (simp; done) | (simp; omega)))) | (with_reducible refine drew_old ?_)))) (by rfl) (by rfl) (by first | exact Cv.arr_one _ | exact Nv.arr_one _ | exact Av.arr_one rfl | exact Pv.arr_one _ | simp [Value.oneCell']) ?_))
    refine (change_go (a := x) (p := P) (q := Q) (k := k) (d := d) (c := 1) 1 (F + n) X1.out (by rw [X2.out]; decide) (by rw [X4.out]; decide) ((HC6.out.below ((Below.refl _ w6).alloc (Nat.le_refl _) _)).more (Nat.le_refl _) (by simp)) (by omega) (by rw [X3.out]; exact HAT.out) HP0.out.2.1 ⟨HP0.out.2.2.1.1, by have := HP0.out.2.2.1.2; omega⟩ ⟨by omega, by omega⟩ (by rw [X3.out]; omega) (by rw [X3.out, HPU.out, HPE.out]; exact HCN2.out) (by rw [X3.out, HPU.out, HPE.out]; exact HOK.out) ⟨HP0.out.1.1, by have := HP0.out.1.2; omega⟩ (by rw [HQA.out]; omega) (by rw [X6.out]; omega)).mono ?_
    rw [X3.out, HPU.out, HPE.out, HVN.out, HVN.out, X6.out, HPA.out, HQA.out, show F + 1 * K - (F + n) = K - n by omega, show F + 1 * K - (F + (1 - 1) * K) = K by omega, show F + 1 * K = F + K by omega]
    obtain ⟨R0, hR0⟩ : ∃ R0, a0 * (K - n) / K = R0 := ⟨_, rfl⟩
    obtain ⟨R1, hR1⟩ : ∃ R1, a1 * (K - n) / K = R1 := ⟨_, rfl⟩
    have hb0 := Dv.part_bd (show 0 ≤ a0 by omega) (show 0 ≤ K - n by omega) (show K - n ≤ K by omega) (by omega)
    have hb1 := Dv.part_bd (show 0 ≤ a1 by omega) (show 0 ≤ K - n by omega) (show K - n ≤ K by omega) (by omega)
    rw [hR0] at hb0
    rw [hR1] at hb1
    rw [hR0, hR1]
    obtain ⟨cr0, hcr0⟩ : ∃ cr0, 0 + R0 - R1 = cr0 := ⟨_, rfl⟩
    rw [hcr0]
    have hcra : -65535 ≤ cr0 := by omega
    have hcrb : cr0 ≤ 65535 := by omega
    obtain ⟨z, hz⟩ : ∃ z, x.changed 1 (F + K) cr0 = z := ⟨_, rfl⟩
    rw [hz]
    have hzf : z.Fine 2 := by rw [← hz]; exact HXF.out.changed 1 (F + K) cr0 (by omega) (by omega)
    have z1 : z.st = 1 := by rw [← hz]; exact X1.out
    have z2 : z.pl = 1 := by rw [← hz]; rfl
    have z3 : z.an = F + K := by rw [← hz]; rfl
    have z4 : z.ix = 0 := by rw [← hz]; rfl
    have z5 : z.ct = 1 := by rw [← hz]; exact X5.out
    have z6 : z.cr = cr0 := by rw [← hz]; rfl
    have z7 : z.sk = false := by rw [← hz]; exact X7.out
    have z8 : csum z.l = 0 := by rw [← hz]; exact X8.out
    rintro e w7 ⟨v7, rfl, ho7, hb7⟩
    have hT7 : w7.heap[T]? = some (.cells P.arr 26 (0, 0)) := below_block hb7 (alloc_old hz60 hT6)
    have hQ7 : w7.heap[T + 1]? = some (.cells Q.arr 26 (0, 0)) := below_block hb7 (alloc_old hz6 hQ6)
    have HW7 : Hid (Below w.heap.size w w7) := (HW6.out.alloc HW6.out.size _).trans (hb7.mono (by have := HW6.out.size; simp; omega))
    obtain ⟨A7, c7, rfl, _, _⟩ := ho7.form
    have HC7 : Hid (Cys w7 0 w7.heap.size (.slice A7 z.l.length c7) z.l) := ho7.cys.more (Nat.zero_le _) (Nat.le_refl _)
    have hz7 : T + 1 < w7.heap.size := (Array.getElem?_eq_some_iff.1 hQ7).1
    have hmul0 := Dv.prod_bd a0 (K - n) h00 h01 (by omega) (by omega)
    have hmul1 := Dv.prod_bd a1 (K - n) h10 h11 (by omega) (by omega)
    obtain ⟨m0, hm0⟩ : ∃ m0, a0 * (K - n) = m0 := ⟨_, rfl⟩
    obtain ⟨m1, hm1⟩ : ∃ m1, a1 * (K - n) = m1 := ⟨_, rfl⟩
    rw [hm0] at hmul0 hR0
    rw [hm1] at hmul1 hR1
    have ew0 : wrap64 m0 = m0 := by unfold wrap64; omega
    have ew1 : wrap64 m1 = m1 := by unfold wrap64; omega
    have et0 : m0.tdiv K = R0 := by rw [Int.tdiv_eq_ediv_of_nonneg (by omega), hR0]
    have et1 : m1.tdiv K = R1 := by rw [Int.tdiv_eq_ediv_of_nonneg (by omega), hR1]
    have eK0 : (K == 0) = false := by rw [beq_eq_false_iff_ne]; omega
    have ew2 : wrap64 (K - n) = K - n := by unfold wrap64; omega
    have ewr0 : wrap64 R0 = R0 := by unfold wrap64; omega
    have ewr1 : wrap64 R1 = R1 := by unfold wrap64; omega
    have ewc : wrap64 (R0 - R1) = cr0 := by unfold wrap64; omega
    have ewk : wrap64 (F + K) = F + K := by unfold wrap64; omega
    have Z6 := Lib.hid z6
    have Z8 := Lib.hid z8
    have HZF := Lib.hid hzf
    have Z1 := Lib.hid z1
    have Z2 := Lib.hid z2
    have Z3 := Lib.hid z3
    have Z4 := Lib.hid z4
    have Z7 := Lib.hid z7
    have Z5 := Lib.hid z5
    clear hR0 hR1 hb0 hb1 hcr0 hz hzf z1 z5 z7 z8 hb7 ho7 hT6 hQ6 HC6 hmul0 hmul1 hT7 z6 z2 z3 z4
    have dz6 : (z.cr != cr0) = false := by rw [Z6.out]; simp
    have dz3 : (z.an != F + K) = false := by rw [Z3.out]; simp
    have dz4 : (z.ix != 0) = false := by rw [Z4.out]; rfl
    have dz2 : (z.pl != 1) = false := by rw [Z2.out]; rfl
    have hlz := HZF.out.len
    go_wp2_with (first | ((with_reducible_and_instances (show wpList _ _ _ (Oper.mk _ (Op.load 33 _) _ _ _ _ :: _) _ _)); refine wl_load Try.underlying33 rfl info13 rfl rfl rfl (by (repeat (first | assumption | (with_reducible refine alloc_at ?_; (focus (first | omega | (simp; done) | (simp; omega)))) | (with_reducible refine boxed_at ?_; (focus (first | omega | (simp; done) | (simp; omega)))) | (with_reducible refine alloc_old ?_ ?_; (focus (first | omega | (simp; done) | (simp; omega)))) | (with_reducible refine boxed_old ?_ ?_; (focus (first | omega | (simp; done) | (simp; omega)))) | (with_reducible refine drew_old ?_)))) (by rfl) ?_) | ((with_reducible_and_instances (show wpList _ _ _ (Oper.mk _ (Op.load 26 _) _ _ _ _ :: _) _ _)); refine wl_load Try.underlying26 rfl info6p rfl rfl rfl (by (repeat (first | assumption | (with_reducible refine alloc_at ?_; (focus (first | omega | (simp; done) | (simp; omega)))) | (with_reducible refine boxed_at ?_; (focus (first | omega | (simp; done) | (simp; omega)))) | (with_reducible refine alloc_old ?_ ?_; (focus (first | omega | (simp; done) | (simp; omega)))) | (with_reducible refine boxed_old ?_ ?_; (focus (first | omega | (simp; done) | (simp; omega)))) | (with_reducible refine drew_old ?_)))) (by rfl) ?_) | ((with_reducible_and_instances (show wpList _ _ _ (Oper.mk _ (Op.store 33 _ _) _ _ _ _ :: _) _ _)); refine wl_store info13 rfl rfl rfl rfl (by (repeat (first | assumption | (with_reducible refine alloc_at ?_; (focus (first | omega | (simp; done) | (simp; omega)))) | (with_reducible refine boxed_at ?_; (focus (first | omega | (simp; done) | (simp; omega)))) | (with_reducible refine alloc_old ?_ ?_; (focus (first | omega | (simp; done) | (simp; omega)))) | (with_reducible refine boxed_old ?_ ?_; (focus (first | omega | (simp; done) | (simp; omega)))) | (with_reducible refine drew_old ?_)))) (by rfl) (by rfl) (by first | exact Cv.arr_one _ | exact Nv.arr_one _ | exact Av.arr_one rfl | exact Pv.arr_one _ | simp [Value.oneCell']) ?_))
    go_quiet (fail)
    go_wp2_with (first | ((with_reducible_and_instances (show wpList _ _ _ (Oper.mk _ (Op.load 33 _) _ _ _ _ :: _) _ _)); refine wl_load Try.underlying33 rfl info13 rfl rfl rfl (by (repeat (first | assumption | (with_reducible refine alloc_at ?_; (focus (first | omega | (simp; done) | (simp; omega)))) | (with_reducible refine boxed_at ?_; (focus (first | omega | (simp; done) | (simp; omega)))) | (with_reducible refine alloc_old ?_ ?_; (focus (first | omega | (simp; done) | (simp; omega)))) | (with_reducible refine boxed_old ?_ ?_; (focus (first | omega | (simp; done) | (simp; omega)))) | (with_reducible refine drew_old ?_)))) (by rfl) ?_) | ((with_reducible_and_instances (show wpList _ _ _ (Oper.mk _ (Op.load 26 _) _ _ _ _ :: _) _ _)); refine wl_load Try.underlying26 rfl info6p rfl rfl rfl (by (repeat (first | assumption | (with_reducible refine alloc_at ?_; (focus (first | omega | (simp; done) | (simp; omega)))) | (with_reducible refine boxed_at ?_; (focus (first | omega | (simp; done) | (simp; omega)))) | (with_reducible refine alloc_old ?_ ?_; (focus (first | omega | (simp; done) | (simp; omega)))) | (with_reducible refine boxed_old ?_ ?_; (focus (first | omega | (simp; done) | (simp; omega)))) | (with_reducible refine drew_old ?_)))) (by rfl) ?_) | ((with_reducible_and_instances (show wpList _ _ _ (Oper.mk _ (Op.store 33 _ _) _ _ _ _ :: _) _ _)); refine wl_store info13 rfl rfl rfl rfl (by (repeat (first | assumption | (with_reducible refine alloc_at ?_; (focus (first | omega | (simp; done) | (simp; omega)))) | (with_reducible refine boxed_at ?_; (focus (first | omega | (simp; done) | (simp; omega)))) | (with_reducible refine alloc_old ?_ ?_; (focus (first | omega | (simp; done) | (simp; omega)))) | (with_reducible refine boxed_old ?_ ?_; (focus (first | omega | (simp; done) | (simp; omega)))) | (with_reducible refine drew_old ?_)))) (by rfl) (by rfl) (by first | exact Cv.arr_one _ | exact Nv.arr_one _ | exact Av.arr_one rfl | exact Pv.arr_one _ | simp [Value.oneCell']) ?_))
    obtain ⟨k2, d2, hAt2⟩ := Cal.at_of (F + K) (by omega) (by omega)
    have HAT2 := Lib.hid hAt2
    clear hAt2 dz6 dz3 dz4 dz2 ew0 ew1 et0 et1 ew2 ewr0 ewr1 ewc hm0 hm1
    go_loopw [26] (fun i wq => ∃ (j : Nat) (E : Av) (v' : Value), j ≤ 5 ∧ i = .int .i64 j ∧ Hid (Course K F a1 cr0 j E) ∧ Hid (Below w.heap.size w wq) ∧ Hid (wq.heap[T + 1]? = some (.cells Q.arr 26 (0, 0))) ∧ Hid (wq.heap[w7.heap.size + 1]? = some (.cells (E.arr v') 33 (0, 0))) ∧ Hid (Cyx w7.heap.size wq v' E.l)) (fun i _ => 5 - (intOf i).toNat)
    case atStart =>
      have hw7 := HW7.out.size
      refine ⟨0, z, _, by omega, rfl, ?_, boxed_below ((Below.drewN' (HW7.out.alloc HW7.out.size _) _).alloc (by simp; omega) _) (by omega), boxed_old (by omega) (alloc_old (by simp; omega) (alloc_old (by omega) hQ7)), boxed_at (by simp), ?_⟩
      · exact ⟨Z1.out, Z7.out, by rw [Z5.out]; rfl, by rw [Z4.out]; rfl, Z3.out, by rw [Z8.out, Z6.out]; simp, fun h => absurd h (by omega), HZF.out⟩
      · refine ⟨0, w7.heap.size, .inl (Nat.le_refl _), by simp; omega, (HC7.out.kept fun i _ h2 => ?_)⟩
        rw [boxed_block_other (by omega), alloc_block_old (by simp; omega)]
        exact alloc_block_old h2
    case round =>
      clear Z1 Z5 Z6 Z7 Z8 HZF hQ7 HC7
      obtain ⟨j, E, v', hj, rfl, HE, HW, HQ, HEB, HEC⟩ := hrel
      have hzr : w7.heap.size + 1 < wr.heap.size := (Array.getElem?_eq_some_iff.1 HEB.out).1
      have hzq : T + 1 < wr.heap.size := by omega
      obtain ⟨b5, c5, hap5, hcc5, hcys5⟩ := HEC.out
      have HCY5 := Lib.hid hcys5
      obtain ⟨AE, cE, hvE, _⟩ := hcys5
      subst hvE
      by_cases hlt : j < 5
      case pos =>
        have dlt : decide ((j : Int) < 5) = true := by simp; omega
        have hE5 := HEB.out
        have hQ5 := HQ.out
        obtain ⟨J, hJ⟩ : ∃ J, (j : Int) * K = J := ⟨_, rfl⟩
        have hJ0 : 0 ≤ J := by rw [← hJ]; exact Int.mul_nonneg (by omega) (by omega)
        have hJ1 : J ≤ 305 := by
          have : (j : Int) * K ≤ 5 * 61 := Int.mul_le_mul (by omega) hK1 (by omega) (by omega)
          omega
        have hcn : Cal.Cnt 0 (F + K) k2 d2 K (F + K + J) ((j : Int) + 1) := by
          have := Cal.Cnt.days (u := 0) (a := F + K) (k := k2) (d := d2) (e := K) (day := F + K + J) (by omega) (by omega) (by omega) (by decide)
          rw [HST.out, show F + K + J - (F + K) = J by omega, ← hJ, Int.mul_ediv_cancel _ (by omega), hJ] at this
          exact this
        have HCNJ := Lib.hid hcn
        have ewj : wrap64 ((j : Int) * K) = J := by rw [hJ]; unfold wrap64; omega
        have ewy : wrap64 (F + K + J) = F + K + J := by unfold wrap64; omega
        obtain ⟨c1', c2', c3', c4', c5', c6', c7', c8'⟩ := HE.out
        have C1 := Lib.hid c1'
        have C4 := Lib.hid c4'
        have C5 := Lib.hid c5'
        have C8 := Lib.hid c8'
        have hel := c8'.len
        clear hcn hJ c1' c2' c3' c4' c5' c6' c7' c8'
        go_wp2_with (first | ((with_reducible_and_instances (show wpList _ _ _ (Oper.mk _ (Op.load 33 _) _ _ _ _ :: _) _ _)); refine wl_load Try.underlying33 rfl info13 rfl rfl rfl (by (repeat (first | assumption | (with_reducible refine alloc_at ?_; (focus (first | omega | (simp; done) | (simp; omega)))) | (with_reducible refine boxed_at ?_; (focus (first | omega | (simp; done) | (simp; omega)))) | (with_reducible refine alloc_old ?_ ?_; (focus (first | omega | (simp; done) | (simp; omega)))) | (with_reducible refine boxed_old ?_ ?_; (focus (first | omega | (simp; done) | (simp; omega)))) | (with_reducible refine drew_old ?_)))) (by rfl) ?_) | ((with_reducible_and_instances (show wpList _ _ _ (Oper.mk _ (Op.load 26 _) _ _ _ _ :: _) _ _)); refine wl_load Try.underlying26 rfl info6p rfl rfl rfl (by (repeat (first | assumption | (with_reducible refine alloc_at ?_; (focus (first | omega | (simp; done) | (simp; omega)))) | (with_reducible refine boxed_at ?_; (focus (first | omega | (simp; done) | (simp; omega)))) | (with_reducible refine alloc_old ?_ ?_; (focus (first | omega | (simp; done) | (simp; omega)))) | (with_reducible refine boxed_old ?_ ?_; (focus (first | omega | (simp; done) | (simp; omega)))) | (with_reducible refine drew_old ?_)))) (by rfl) ?_) | ((with_reducible_and_instances (show wpList _ _ _ (Oper.mk _ (Op.store 33 _ _) _ _ _ _ :: _) _ _)); refine wl_store info13 rfl rfl rfl rfl (by (repeat (first | assumption | (with_reducible refine alloc_at ?_; (focus (first | omega | (simp; done) | (simp; omega)))) | (with_reducible refine boxed_at ?_; (focus (first | omega | (simp; done) | (simp; omega)))) | (with_reducible refine alloc_old ?_ ?_; (focus (first | omega | (simp; done) | (simp; omega)))) | (with_reducible refine boxed_old ?_ ?_; (focus (first | omega | (simp; done) | (simp; omega)))) | (with_reducible refine drew_old ?_)))) (by rfl) (by rfl) (by first | exact Cv.arr_one _ | exact Nv.arr_one _ | exact Av.arr_one rfl | exact Pv.arr_one _ | simp [Value.oneCell']) ?_))
        refine (daycalm_any (a := E) (p := Q) (m := 2 + j) (y := F + K + J) (c := (j : Int) + 1) (k := k2) (d := d2) (HCY5.out.more (Nat.zero_le _) hcc5) C8.out (by omega) (by rw [C1.out]; decide) (by rw [C5.out]; exact HAT2.out) (by rw [HQU.out]; omega) (by rw [HQE.out]; omega) (by rw [C4.out]; omega) (by rw [C4.out]; omega) (by rw [C5.out, HQU.out, HQE.out]; exact HCNJ.out) (by rw [HQA.out]; omega)).mono ?_
        have hrun : Av.runs (Cal.vN Q.u E.an k2 d2 Q.e) Q ((j : Int) + 1) ((j : Int) + 1 - E.ix).toNat E = Av.born { E with ix := E.ix + 1 } Q (Cal.vN Q.u E.an k2 d2 Q.e E.ix) false := by
          have e1 : ((j : Int) + 1 - E.ix).toNat = 1 := by rw [C4.out]; omega
          rw [e1, Av.runs_next, HQL.out]
          rfl
        obtain ⟨E2, hE2⟩ : ∃ E2, Av.born { E with ix := E.ix + 1 } Q (Cal.vN Q.u E.an k2 d2 Q.e E.ix) false = E2 := ⟨_, rfl⟩
        rw [hrun, hE2]
        have hco : Course K F a1 cr0 (j + 1) E2 := by rw [← hE2]; exact course_next HE.out HQA.out HQG.out h10 (by omega)
        have HCO := Lib.hid hco
        clear hrun hE2 hco
        rintro e w8 ⟨v8, rfl, ho8, hb8⟩
        have hQ8 : Hid (w8.heap[T + 1]? = some (.cells Q.arr 26 (0, 0))) := (hb8.block _ hzq).trans hQ5
        have hE8 : w8.heap[w7.heap.size + 1]? = some (.cells (E.arr (.slice AE E.l.length cE)) 33 (0, 0)) := (hb8.block _ hzr).trans hE5
        have HW8 : Hid (Below w.heap.size w w8) := HW.out.trans (hb8.mono HW.out.size)
        have hz8 : wr.heap.size ≤ w8.heap.size := hb8.size
        obtain ⟨A8, c8, rfl, _, _⟩ := ho8.form
        have HC8 : Hid (Cys w8 wr.heap.size w8.heap.size (.slice A8 E2.l.length c8) E2.l) := ho8.cys
        clear hb8 ho8 hE5 hQ5 hel
        go_wp2_with (first | ((with_reducible_and_instances (show wpList _ _ _ (Oper.mk _ (Op.load 33 _) _ _ _ _ :: _) _ _)); refine wl_load Try.underlying33 rfl info13 rfl rfl rfl (by (repeat (first | assumption | (with_reducible refine alloc_at ?_; (focus (first | omega | (simp; done) | (simp; omega)))) | (with_reducible refine boxed_at ?_; (focus (first | omega | (simp; done) | (simp; omega)))) | (with_reducible refine alloc_old ?_ ?_; (focus (first | omega | (simp; done) | (simp; omega)))) | (with_reducible refine boxed_old ?_ ?_; (focus (first | omega | (simp; done) | (simp; omega)))) | (with_reducible refine drew_old ?_)))) (by rfl) ?_) | ((with_reducible_and_instances (show wpList _ _ _ (Oper.mk _ (Op.load 26 _) _ _ _ _ :: _) _ _)); refine wl_load Try.underlying26 rfl info6p rfl rfl rfl (by (repeat (first | assumption | (with_reducible refine alloc_at ?_; (focus (first | omega | (simp; done) | (simp; omega)))) | (with_reducible refine boxed_at ?_; (focus (first | omega | (simp; done) | (simp; omega)))) | (with_reducible refine alloc_old ?_ ?_; (focus (first | omega | (simp; done) | (simp; omega)))) | (with_reducible refine boxed_old ?_ ?_; (focus (first | omega | (simp; done) | (simp; omega)))) | (with_reducible refine drew_old ?_)))) (by rfl) ?_) | ((with_reducible_and_instances (show wpList _ _ _ (Oper.mk _ (Op.store 33 _ _) _ _ _ _ :: _) _ _)); refine wl_store info13 rfl rfl rfl rfl (by (repeat (first | assumption | (with_reducible refine alloc_at ?_; (focus (first | omega | (simp; done) | (simp; omega)))) | (with_reducible refine boxed_at ?_; (focus (first | omega | (simp; done) | (simp; omega)))) | (with_reducible refine alloc_old ?_ ?_; (focus (first | omega | (simp; done) | (simp; omega)))) | (with_reducible refine boxed_old ?_ ?_; (focus (first | omega | (simp; done) | (simp; omega)))) | (with_reducible refine drew_old ?_)))) (by rfl) (by rfl) (by first | exact Cv.arr_one _ | exact Nv.arr_one _ | exact Av.arr_one rfl | exact Pv.arr_one _ | simp [Value.oneCell']) ?_))
        refine ⟨⟨j + 1, E2, _, by omega, by go_num, HCO, boxed_below (HW8.out.alloc HW8.out.size _) (by have := HW7.out.size; omega), boxed_old (by omega) (alloc_old (by omega) hQ8.out), boxed_at (by simp; omega), ?_⟩, by simp [intOf]; omega⟩
        refine ⟨wr.heap.size, w8.heap.size, .inr (by omega), by simp, HC8.out.kept fun i h1 h2 => ?_⟩
        rw [boxed_block_other (by omega), alloc_block_old h2]
      case neg =>
        obtain rfl : j = 5 := by omega
        have dlt : decide (((5 : Nat) : Int) < 5) = false := by decide
        have hE5 := HEB.out
        clear hlt hj
        obtain ⟨m0', m1', m2', m3', m4', m5', m6', m7', _⟩ := acells hE5
        clear m0' m1' m2' m3' m4' m5' m6'
        go_wp2_with (fail)
        obtain ⟨W6, rfl⟩ : ∃ q, q = wr := ⟨wr, rfl⟩
        obtain ⟨_, _, _, _, _, c6', c7', c8'⟩ := HE.out
        have hlen2 := c8'.len
        have hfit : ∀ c ∈ E.l, c.Fit := fun c hc => (c8'.calm c hc).fit
        have HFIT := Lib.hid hfit
        have C6 := Lib.hid c6'
        have C7 := Lib.hid (c7' (by omega))
        have hcrb := c8'.c1
        clear c6' c7' c8' hfit m7' dlt
        go_loopw [24, 29] (fun sm i wq => ∃ j : Nat, j ≤ E.l.length ∧ i = .int .i64 j ∧ sm = .int .i64 (csum (E.l.take j)) ∧ Hid (Below W6.heap.size W6 wq)) (fun sm i _ => E.l.length - (intOf i).toNat)
        case atStart => exact ⟨0, by omega, rfl, rfl, Below.refl _ _⟩
        case round =>
          obtain ⟨j, hj, rfl, rfl, HB⟩ := hrel
          have hbd := csum_bd HFIT.out j
          have n7 : wr.cell? ⟨w7.heap.size + 1, 7, none⟩ = some (.slice AE E.l.length cE) := (World.cell?_of_block (a := ⟨w7.heap.size + 1, 7, none⟩) (HB.out.block (w7.heap.size + 1) hzr)).trans (acells HEB.out).2.2.2.2.2.2.2.1
          have n5 : wr.cell? ⟨w7.heap.size + 1, 5, none⟩ = some (.int .i64 E.cr) := (World.cell?_of_block (a := ⟨w7.heap.size + 1, 5, none⟩) (HB.out.block (w7.heap.size + 1) hzr)).trans (acells HEB.out).2.2.2.2.2.1
          by_cases hlt : j < E.l.length
          case neg =>
            obtain rfl : j = E.l.length := by omega
            have dlt : decide ((E.l.length : Int) < (E.l.length : Int)) = false := by simp
            rw [List.take_length] at hbd
            obtain ⟨S, hS⟩ : ∃ S, csum E.l = S := ⟨_, rfl⟩
            obtain ⟨CR, hCR⟩ : ∃ CR, E.cr = CR := ⟨_, rfl⟩
            have hs6 : S + cr0 = 5 * a1 + CR := by have := C6.out; rw [hS, hCR] at this; exact this
            have hs7 : 0 ≤ CR := by have := C7.out; rw [hCR] at this; exact this
            rw [hS] at hbd
            rw [hCR] at n5 hcrb
            rw [List.take_length, hS]
            have x1 : wrap64 (S + cr0) = S + cr0 := by unfold wrap64; omega
            have x2 : wrap64 (5 * a1) = 5 * a1 := by unfold wrap64; omega
            have x3 : wrap64 (5 * a1 + CR) = 5 * a1 + CR := by unfold wrap64; omega
            have x4 : (S + cr0 == 5 * a1 + CR) = true := by rw [beq_iff_eq]; exact hs6
            have x5 : decide (CR ≥ 0) = true := by simpa using hs7
            have x6 : decide (0 ≤ CR) = true := by simpa using hs7
            clear hs6 hs7 hS hCR hbd
            go_wp2
            go_ret
            exact ⟨rfl, HW.out.trans (HB.out.mono HW.out.size)⟩
          case pos =>
            have dlt : decide ((j : Int) < (E.l.length : Int)) = true := by simpa using hlt
            obtain ⟨q, hq⟩ : ∃ q, E.l[j]? = some q := ⟨E.l[j], List.getElem?_eq_getElem hlt⟩
            obtain ⟨g, o, cap, hv, y1, y2, y3, _, hgl, hr⟩ := HCY5.out.at_ hq
            injection hv with hv1 hvl hv3
            clear hvl y1 y2 y3
            subst hv1 hv3
            have k0 : (0 : Int) ≤ (j : Int) := by omega
            have k1 : (j : Int) < (E.l.length : Int) := by omega
            have q0 : wr.cell? ⟨g, o + j * 8, none⟩ = some (.int .i64 q.n) := (World.cell?_of_block (a := ⟨g, o + j * 8, none⟩) (HB.out.block g (by omega))).trans (hr 0 _ rfl)
            have q3 : wr.cell? ⟨g, o + j * 8 + 3, none⟩ = some (.int .i64 q.a) := (World.cell?_of_block (a := ⟨g, o + j * 8 + 3, none⟩) (HB.out.block g (by omega))).trans (hr 3 _ rfl)
            have hnx := csum_next hq
            have hbd2 := csum_bd HFIT.out (j + 1)
            by_cases hn : 0 < q.n
            · have dn : decide (q.n > 0) = true := by simpa using hn
              have dn' : decide (0 < q.n) = true := by simpa using hn
              rw [if_pos hn] at hnx
              have hw9 : wrap64 (csum (E.l.take j) + q.a) = csum (E.l.take (j + 1)) := by rw [← hnx]; unfold wrap64; omega
              clear hr hq hn hnx hbd hbd2
              go_wp2
              exact ⟨⟨j + 1, by omega, by go_num, by first | rfl | rw [hw9], HB⟩, by simp [intOf]; omega⟩
            · have dn : decide (q.n > 0) = false := by simpa using hn
              have dn' : decide (0 < q.n) = false := by simpa using hn
              rw [if_neg hn, Int.add_zero] at hnx
              clear hr hq hn hbd hbd2
              go_wp2
              exact ⟨⟨j + 1, by omega, by go_num, by rw [hnx], HB⟩, by simp [intOf]; omega⟩
end Go.Proofs.Ytcgglphphdpplaa
