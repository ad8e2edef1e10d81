/-
  A day that comes: package account's Day. No conditions but the sizes.
-/
import Derived.Test.YtblikgbcakgdnaaGreatBr14
set_option linter.unusedSimpArgs false
set_option linter.unusedVariables false
namespace Go.Proofs.YtblikgbcakgdnaaGreat
set_option maxRecDepth 20000
open Go.ChangeShapes Go.WideShapes Go.ChangeAt Go.RowKit

/-- So many periods begin. -/
def Av.runs (N : Int → Int) (p : Pv) (c : Int) : Nat → Av → Av
  | 0, a => a
  | f + 1, a => Av.runs N p c f (Av.born { a with ix := a.ix + 1 } p (N a.ix) (p.l && decide (a.ix + 1 < c)))
/-- A day has come, up to which c periods have begun. -/
def Av.day (N : Int → Int) (p : Pv) (c y : Int) (a : Av) : Av :=
  if a.st = 3 then a.each (fun z => (fun z => Cv.wake z y) z) else Av.runs N p c (c - a.ix).toNat (a.each (fun z => (fun z => Cv.wake z y) z))
section
variable {a : Av} {c : Cv} {p : Pv} {d : Int} {mi : Bool}
theorem Av.with_same (a : Av) (c : Cv) : (a.with_ c).st = a.st ∧ (a.with_ c).pl = a.pl ∧ (a.with_ c).an = a.an ∧ (a.with_ c).ix = a.ix ∧ (a.with_ c).ct = a.ct ∧ (a.with_ c).sk = a.sk := by
  unfold Av.with_
  repeat' split
  all_goals exact ⟨rfl, rfl, rfl, rfl, rfl, rfl⟩
theorem Av.fold_same : ∀ (l : List Cv) (a : Av), (l.foldl Av.with_ a).st = a.st ∧ (l.foldl Av.with_ a).pl = a.pl ∧ (l.foldl Av.with_ a).an = a.an ∧ (l.foldl Av.with_ a).ix = a.ix ∧ (l.foldl Av.with_ a).ct = a.ct ∧ (l.foldl Av.with_ a).sk = a.sk
  | [], a => ⟨rfl, rfl, rfl, rfl, rfl, rfl⟩
  | c :: r, a => by
    obtain ⟨h1, h2, h3, h4, h5, h6⟩ := Av.fold_same r (a.with_ c)
    obtain ⟨g1, g2, g3, g4, g5, g6⟩ := a.with_same c
    exact ⟨h1.trans g1, h2.trans g2, h3.trans g3, h4.trans g4, h5.trans g5, h6.trans g6⟩
theorem Av.each_same (a : Av) (f : Cv → Cv) : (a.each f).st = a.st ∧ (a.each f).pl = a.pl ∧ (a.each f).an = a.an ∧ (a.each f).ix = a.ix ∧ (a.each f).ct = a.ct ∧ (a.each f).sk = a.sk := Av.fold_same _ _
theorem Av.with_cr (h : c.p < 8 ∨ c.p = 10) : (a.with_ c).cr = a.cr := by
  unfold Av.with_
  split
  · rfl
  split
  · rfl
  split
  · omega
  split
  · omega
  split <;> rfl
theorem Cy.begin_p {n d a u : Int} {g : Bool} : (Cy.begin_ n d a u g).p < 8 := by
  unfold Cy.begin_ Cy.paid
  split
  · dsimp only; split <;> omega
  · dsimp only; omega
theorem Av.born_len : (a.born p d mi).l.length ≤ a.l.length + 1 := by
  unfold Av.born
  repeat' split
  all_goals exact Av.with_len _ _
theorem Av.born_same : (a.born p d mi).st = a.st ∧ (a.born p d mi).pl = a.pl ∧ (a.born p d mi).an = a.an ∧ (a.born p d mi).ix = a.ix ∧ (a.born p d mi).ct = a.ct + 1 := by
  unfold Av.born
  repeat' split
  all_goals exact ⟨(Av.with_same _ _).1, (Av.with_same _ _).2.1, (Av.with_same _ _).2.2.1, (Av.with_same _ _).2.2.2.1, (Av.with_same _ _).2.2.2.2.1⟩
theorem Av.born_cr (hp : 0 ≤ p.a) (h0 : -100000000000 ≤ a.cr) (h1 : a.cr ≤ 100000000000) : -100000000000 ≤ (a.born p d mi).cr ∧ (a.born p d mi).cr ≤ 100000000000 := by
  unfold Av.born
  split
  · rw [Av.with_cr (.inr rfl)]; exact ⟨h0, h1⟩
  split
  · rw [Av.with_cr (.inr rfl)]; exact ⟨h0, h1⟩
  split
  · rw [Av.with_cr (.inl Cy.begin_p)]; dsimp only; omega
  · rw [Av.with_cr (.inl Cy.begin_p)]; dsimp only; omega
theorem Av.born_fit {m : Nat} (hf : a.Fit m) (hp : 0 ≤ p.a ∧ p.a ≤ 100000000000) (h0 : -100000000000 ≤ a.cr) (h1 : a.cr ≤ 100000000000) : (a.born p d mi).Fit (m + 1) := by
  obtain ⟨f0, f1, f2, f3, f4, f5, f6, f7, f8, f9, f10, f11⟩ := hf
  unfold Av.born
  split
  · exact Av.Fit.with_ ⟨f0, f1, f2, f3, f4, f5, f6, f7, f8, f9, f10, f11⟩ (by constructor <;> dsimp only <;> omega)
  split
  · exact Av.Fit.with_ ⟨f0, f1, f2, f3, f4, f5, f6, f7, f8, f9, f10, f11⟩ (by constructor <;> dsimp only <;> omega)
  split
  · exact Av.Fit.with_ ⟨f0, f1, f2, f3, f4, f5, f6, f7, (by dsimp only; omega), (by dsimp only; omega), f10, f11⟩ (Cy.begin_fit (by omega) (by omega) (by omega) (by omega))
  · exact Av.Fit.with_ ⟨f0, f1, f2, f3, f4, f5, f6, f7, (by dsimp only; omega), (by dsimp only; omega), f10, f11⟩ (Cy.begin_fit (by omega) (by omega) (by omega) (by omega))
theorem wake_fit {z : Cv} {y : Int} (h : z.Fit) (ht : z.t ≤ 999) : (z.wake y).Fit := by
  obtain ⟨h0, h1, h2, h3, h4, h5⟩ := h
  unfold Cv.wake Cv.card
  split
  · constructor <;> assumption
  split
  · constructor <;> dsimp only <;> omega
  · constructor <;> assumption
end
def boolOf : Value → Bool | .bool b => b | _ => false
/-- What is answered by OK, with a list in new blocks. -/
def News (w : World) (a : Av) (e : Ending) (w' : World) : Prop := ∃ v', e = .returned (.tuple #[.agg (a.arr v'), .int .i64 0]) ∧ Own w' w.heap.size v' a.l ∧ Below w.heap.size w w'
set_option maxHeartbeats 8000000 in
theorem day_any {w : World} {v : Value} {a : Av} {p : Pv} {m : Nat} {y c k d : Int} (h : Cys w 0 w.heap.size v a.l) (hs : a.l.length ≤ 10000) (hf : a.Fit m) (hm : m ≤ 10000) (hc : ∀ z ∈ a.l, z.Fit ∧ z.t ≤ 999) (hct : 0 ≤ a.ct ∧ a.ct ≤ 1000000)
    (hAt : Cal.At a.an k d) (hU : 0 ≤ p.u ∧ p.u ≤ 3) (hE : 1 ≤ p.e ∧ p.e ≤ 1000) (hix : 0 ≤ a.ix ∧ a.ix ≤ 100000) (hcc : c ≤ a.ix + 10000) (hcn : Cal.Cnt p.u a.an k d p.e y c) (hp : 0 ≤ p.a ∧ p.a ≤ 100000000000) (hcr : -100000000000 ≤ (a.each (fun z => (fun z => Cv.wake z y) z)).cr ∧ (a.each (fun z => (fun z => Cv.wake z y) z)).cr ≤ 100000000000) :
    Calls Tryz.prog 58 #[.agg (a.arr v), .agg p.arr, .int .i64 y] w (News w (Av.day (Cal.vN p.u a.an k d p.e) p c y a)) := by
  have H := Lib.hid h
  have HF := Lib.hid hf
  have HC := Lib.hid hc
  have HAT := Lib.hid hAt
  have HCN := Lib.hid hcn
  obtain ⟨e0, he0⟩ : ∃ e0, a.each (fun z => (fun z => Cv.wake z y) z) = e0 := ⟨_, rfl⟩
  have hsame := a.each_same (fun z => (fun z => Cv.wake z y) z)
  have hpl := Av.part_len { a with l := a.l.map (fun z => (fun z => Cv.wake z y) z) } a.l.length
  have hpf := Av.part_fit (a := { a with l := a.l.map (fun z => (fun z => Cv.wake z y) z) }) (m := m) ⟨hf.d0, hf.d1, hf.n0, hf.n1, hf.r0, hf.r1, hf.s0, hf.s1, hf.c0, hf.c1, hf.p0, hf.p1⟩ (fun z hz => by obtain ⟨q, hq, rfl⟩ := List.mem_map.1 hz; exact wake_fit (hc q hq).1 (hc q hq).2) a.l.length
  have hpe : Av.part { a with l := a.l.map (fun z => (fun z => Cv.wake z y) z) } a.l.length = e0 := by
    have := Av.part_all { a with l := a.l.map (fun z => (fun z => Cv.wake z y) z) }
    dsimp only at this
    rw [List.length_map] at this
    rw [this, ← he0]; rfl
  rw [hpe] at hpl hpf
  rw [he0] at hcr hsame
  have hday : Av.day (Cal.vN p.u a.an k d p.e) p c y a = if a.st = 3 then e0 else Av.runs (Cal.vN p.u a.an k d p.e) p c (c - a.ix).toNat e0 := by unfold Av.day; rw [he0]
  obtain ⟨R, hR⟩ : ∃ R, (if a.st = 3 then e0 else Av.runs (Cal.vN p.u a.an k d p.e) p c (c - a.ix).toNat e0) = R := ⟨_, rfl⟩
  rw [hday, hR]
  have HR := Lib.hid hR
  have HE0 := Lib.hid he0
  have HPF := Lib.hid hpf
  obtain ⟨hs1, _, hs3, hs4, hs5, _⟩ := hsame
  obtain ⟨hct0, hct1⟩ := hct
  obtain ⟨hix0, hix1⟩ := hix
  obtain ⟨hcr0, hcr1⟩ := hcr
  have HU := Lib.hid hU
  have HE := Lib.hid hE
  have HP := Lib.hid hp
  have hst : (e0.st == 3) = decide (a.st = 3) := by rw [hs1]; by_cases e : a.st = 3 <;> simp [e]
  have hy : (e0.ix : Int) = a.ix := hs4
  have HS1 := Lib.hid hs1
  have HS3 := Lib.hid hs3
  have HS4 := Lib.hid hs4
  have HS5 := Lib.hid hs5
  clear h hf hc hAt hcn he0 hpf hpe hday hU hE hp hR hs1 hs3 hs4 hs5 hy
  go_enter Tryz.func58, Tryz.ntmps58
  go_wp2_with (first | ((with_reducible_and_instances (show wpList _ _ _ (Oper.mk _ (Op.load 32 _) _ _ _ _ :: _) _ _)); refine wl_load Tryz.underlying32 rfl info13 rfl rfl rfl (by (repeat (first | assumption | (with_reducible refine alloc_at ?_; (focus (first | omega | (simp; done) | (simp; omega)))) | (with_reducible refine boxed_at ?_; (focus (first | omega | (simp; done) | (simp; omega)))) | (with_reducible refine alloc_old ?_ ?_; (focus (first | omega | (simp; done) | (simp; omega)))) | (with_reducible refine boxed_old ?_ ?_; (focus (first | omega | (simp; done) | (simp; omega)))) | (with_reducible refine drew_old ?_)))) (by rfl) ?_))
  refine (each_day (a := a) (m := m) (y := y) (T := w.heap.size + 1 + 1) (alloc_old (by simp) (alloc_at (by simp))) ((H.out.below (((((Below.refl _ w).alloc (Nat.le_refl _) _).alloc (by simp) _).alloc (by simp; omega) _).alloc (by simp; omega) _)).more (Nat.le_refl _) (by simp; omega)) (by omega) HF.out (by omega) (fun z hz => (HC.out z hz).1) (fun z hz => wake_fit (HC.out z hz).1 (HC.out z hz).2)).mono ?_
  rw [show a.each (fun z => (fun z => Cv.wake z y) z) = e0 from HE0.out]
  rintro e w1 ⟨v1, rfl, ho1, hb1⟩
  have hW1 : Below w.heap.size w w1 := (((((Below.refl _ w).alloc (Nat.le_refl _) _).alloc (by simp) _).alloc (by simp; omega) _).alloc (by simp; omega) _).trans (hb1.mono (by simp; omega))
  have hP1 : w1.heap[w.heap.size]? = some (.cells (a.arr v) 32 (0, 0)) := below_block hb1 (alloc_old (by simp; omega) (alloc_old (by simp; omega) (alloc_old (by simp) (alloc_at rfl))))
  have hQ1 : w1.heap[w.heap.size + 1]? = some (.cells p.arr 44 (0, 0)) := below_block hb1 (alloc_old (by simp) (alloc_old (by simp) (alloc_at (by simp))))
  have hY1 : w1.heap[w.heap.size + 1 + 1]? = some (.cells #[.int .i64 y] 3 (0, 0)) := below_block hb1 (alloc_old (by simp) (alloc_at (by simp)))
  have hZ1 : w1.heap[w.heap.size + 1 + 1 + 1]? = some (.cells #[.int .u8 0, .int .i64 0, .int .i64 0, .int .i64 0, .int .i64 0, .int .i64 0, .bool false, .slice none 0 0, .int .i64 0, .int .i64 0, .int .i64 0, .int .i64 0, .int .i64 0] 32 (0, 0)) := below_block hb1 (alloc_at (by simp))
  have hO1 : Own w1 (w.heap.size + 1 + 1 + 1 + 1) v1 e0.l := by have := ho1; simp only [World.size_alloc] at this; exact this
  obtain ⟨A1, c1, rfl, _, _⟩ := hO1.form
  have hz1 : w.heap.size + 1 + 1 + 1 < w1.heap.size := (Array.getElem?_eq_some_iff.1 hZ1).1
  have hz10 : w.heap.size < w1.heap.size := by omega
  have hz12 : w.heap.size + 1 + 1 < w1.heap.size := by omega
  have HW1 := Lib.hid hW1
  have HO1 := Lib.hid hO1
  have e := boxed_self hP1
  rw [e]
  clear e hP1 ho1 hb1 hW1 hO1 H HC
  have hY2 : w1.cell? ⟨w.heap.size + 1 + 1, 0, none⟩ = some (.int .i64 y) := cell_of_row _ _ _ _ _ _ hY1
  by_cases h3 : a.st = 3
  · have hst3 : (e0.st == 3) = true := by rw [hst]; simpa using h3
    have hRe : e0 = R := by rw [← HR.out, if_pos h3]
    have HRE := Lib.hid hRe
    clear hRe hst h3
    go_wp2_with (first | ((with_reducible_and_instances (show wpList _ _ _ (Oper.mk _ (Op.load 32 _) _ _ _ _ :: _) _ _)); refine wl_load Tryz.underlying32 rfl info13 rfl rfl rfl (by (repeat (first | assumption | (with_reducible refine alloc_at ?_; (focus (first | omega | (simp; done) | (simp; omega)))) | (with_reducible refine boxed_at ?_; (focus (first | omega | (simp; done) | (simp; omega)))) | (with_reducible refine alloc_old ?_ ?_; (focus (first | omega | (simp; done) | (simp; omega)))) | (with_reducible refine boxed_old ?_ ?_; (focus (first | omega | (simp; done) | (simp; omega)))) | (with_reducible refine drew_old ?_)))) (by rfl) ?_) | ((with_reducible_and_instances (show wpList _ _ _ (Oper.mk _ (Op.store 32 _ _) _ _ _ _ :: _) _ _)); refine wl_store info13 rfl rfl rfl rfl (by (repeat (first | assumption | (with_reducible refine alloc_at ?_; (focus (first | omega | (simp; done) | (simp; omega)))) | (with_reducible refine boxed_at ?_; (focus (first | omega | (simp; done) | (simp; omega)))) | (with_reducible refine alloc_old ?_ ?_; (focus (first | omega | (simp; done) | (simp; omega)))) | (with_reducible refine boxed_old ?_ ?_; (focus (first | omega | (simp; done) | (simp; omega)))) | (with_reducible refine drew_old ?_)))) (by rfl) (by rfl) (by first | exact Cv.arr_one _ | exact Nv.arr_one _ | exact Av.arr_one rfl | simp [Value.oneCell']) ?_))
    refine bodyPost_ret (results_row_tmp rfl _ _ (w.heap.size + 1 + 1 + 1) 32 _ (0, 0) _ rfl (boxed_at (by simp only [boxed_size]; omega)) Tryz.underlying32 rfl (by exact info13)) rfl ?_
    rw [← HRE.out]
    exact ⟨_, rfl, ((HO1.out.boxed (by omega)).boxed (by omega)).more (by omega), boxed_below (boxed_below HW1.out (Nat.le_refl _)) (by omega)⟩
  · have hst3 : (e0.st == 3) = false := by rw [hst]; simpa using h3
    have hRe : Av.runs (Cal.vN p.u a.an k d p.e) p c (c - a.ix).toNat e0 = R := by rw [← HR.out, if_neg h3]
    have HRE := Lib.hid hRe
    clear hRe hst h3
    go_wp2_with (first | ((with_reducible_and_instances (show wpList _ _ _ (Oper.mk _ (Op.load 32 _) _ _ _ _ :: _) _ _)); refine wl_load Tryz.underlying32 rfl info13 rfl rfl rfl (by (repeat (first | assumption | (with_reducible refine alloc_at ?_; (focus (first | omega | (simp; done) | (simp; omega)))) | (with_reducible refine boxed_at ?_; (focus (first | omega | (simp; done) | (simp; omega)))) | (with_reducible refine alloc_old ?_ ?_; (focus (first | omega | (simp; done) | (simp; omega)))) | (with_reducible refine boxed_old ?_ ?_; (focus (first | omega | (simp; done) | (simp; omega)))) | (with_reducible refine drew_old ?_)))) (by rfl) ?_) | ((with_reducible_and_instances (show wpList _ _ _ (Oper.mk _ (Op.load 44 _) _ _ _ _ :: _) _ _)); refine wl_load Tryz.underlying44 rfl info6p rfl rfl rfl (by (repeat (first | assumption | (with_reducible refine alloc_at ?_; (focus (first | omega | (simp; done) | (simp; omega)))) | (with_reducible refine boxed_at ?_; (focus (first | omega | (simp; done) | (simp; omega)))) | (with_reducible refine alloc_old ?_ ?_; (focus (first | omega | (simp; done) | (simp; omega)))) | (with_reducible refine boxed_old ?_ ?_; (focus (first | omega | (simp; done) | (simp; omega)))) | (with_reducible refine drew_old ?_)))) (by rfl) ?_) | ((with_reducible_and_instances (show wpList _ _ _ (Oper.mk _ (Op.store 32 _ _) _ _ _ _ :: _) _ _)); refine wl_store info13 rfl rfl rfl rfl (by (repeat (first | assumption | (with_reducible refine alloc_at ?_; (focus (first | omega | (simp; done) | (simp; omega)))) | (with_reducible refine boxed_at ?_; (focus (first | omega | (simp; done) | (simp; omega)))) | (with_reducible refine alloc_old ?_ ?_; (focus (first | omega | (simp; done) | (simp; omega)))) | (with_reducible refine boxed_old ?_ ?_; (focus (first | omega | (simp; done) | (simp; omega)))) | (with_reducible refine drew_old ?_)))) (by rfl) (by rfl) (by first | exact Cv.arr_one _ | exact Nv.arr_one _ | exact Av.arr_one rfl | simp [Value.oneCell']) ?_))
    have hux := HU.out
    have hex := HE.out
    refine (begun_any (a := e0) (p := p) (y := y) (c := c) (k := k) (d := d) (by rw [HS3.out]; exact HAT.out) hux hex (by rw [HS4.out]; omega) (by rw [HS3.out]; exact HCN.out)).mono ?_
    rw [HS3.out]
    rintro e w2 ⟨⟨dv, rfl, hdv⟩, hb2⟩
    have hW2 : Below w.heap.size w w2 := (boxed_below HW1.out (Nat.le_refl _)).trans (hb2.mono (by simp; omega))
    have hP2 : w2.heap[w.heap.size]? = some (.cells (e0.arr (.slice A1 e0.l.length c1)) 32 (0, 0)) := below_block hb2 (boxed_at hz10)
    have hQ2 : w2.heap[w.heap.size + 1]? = some (.cells p.arr 44 (0, 0)) := below_block hb2 (boxed_old (by omega) hQ1)
    have hY3 : w2.heap[w.heap.size + 1 + 1]? = some (.cells #[.int .i64 y] 3 (0, 0)) := below_block hb2 (boxed_old (by omega) hY1)
    have hZ2 : w2.heap[w.heap.size + 1 + 1 + 1]? = some (.cells #[.int .u8 0, .int .i64 0, .int .i64 0, .int .i64 0, .int .i64 0, .int .i64 0, .bool false, .slice none 0 0, .int .i64 0, .int .i64 0, .int .i64 0, .int .i64 0, .int .i64 0] 32 (0, 0)) := below_block hb2 (boxed_old (by omega) hZ1)
    have hO2 : Own w2 (w.heap.size + 1 + 1 + 1 + 1) (.slice A1 e0.l.length c1) e0.l := (HO1.out.boxed (by omega)).below hb2
    have HDV := Lib.hid hdv
    have HW2 := Lib.hid hW2
    have HP2 := Lib.hid hP2
    have HQ2 := Lib.hid hQ2
    have HY3 := Lib.hid hY3
    have HZ2 := Lib.hid hZ2
    have HO2 := Lib.hid hO2
    clear hdv hb2 hW2 hP2 hQ2 hY3 hZ2 hO2 HW1 HO1 hQ1 hY1 hZ1 hY2 hux hex
    go_wp2
    go_loopw [8, 9] (fun dd bb wq => ∃ (r M : Nat) (x : Av) (v' : Value) (dv : Int), dd = .int .i64 dv ∧ bb = .bool (decide (x.ix < c)) ∧ Hid ((c - x.ix).toNat = r ∧ Av.runs (Cal.vN p.u a.an k d p.e) p c r x = R) ∧ Hid (x.ix < c → dv = Cal.vN p.u a.an k d p.e x.ix) ∧ Hid (Below w.heap.size w wq) ∧ Hid (wq.heap[w.heap.size]? = some (.cells (x.arr v') 32 (0, 0))) ∧ Hid (wq.heap[w.heap.size + 1]? = some (.cells p.arr 44 (0, 0))) ∧ Hid (wq.heap[w.heap.size + 1 + 1]? = some (.cells #[.int .i64 y] 3 (0, 0))) ∧ Hid (wq.heap[w.heap.size + 1 + 1 + 1]? = some (.cells #[.int .u8 0, .int .i64 0, .int .i64 0, .int .i64 0, .int .i64 0, .int .i64 0, .bool false, .slice none 0 0, .int .i64 0, .int .i64 0, .int .i64 0, .int .i64 0, .int .i64 0] 32 (0, 0))) ∧ Hid (Own wq (w.heap.size + 1 + 1 + 1 + 1) v' x.l) ∧ Hid (x.an = a.an ∧ x.Fit M ∧ M + r ≤ 50000 ∧ 0 ≤ x.ct ∧ x.ct + r ≤ 10000000 ∧ (-100000000000 ≤ x.cr ∧ x.cr ≤ 100000000000) ∧ 0 ≤ x.ix ∧ x.ix ≤ 200000 ∧ x.l.length + r ≤ 50000)) (fun dd bb _ => if boolOf bb = true then (y + 1 - intOf dd).toNat + 1 else 0)
    case atStart =>
      have hse := HS4.out
      refine ⟨(c - a.ix).toNat, m + a.l.length, e0, _, dv, rfl, rfl, ⟨by rw [hse], HRE.out⟩, HDV.out, HW2.out, HP2.out, HQ2.out, HY3.out, HZ2.out, HO2.out, HS3.out, HPF.out, by omega, by rw [HS5.out]; omega, by rw [HS5.out]; omega, ⟨hcr0, hcr1⟩, by omega, by omega, by omega⟩
    case round =>
      clear HDV HW2 HP2 HQ2 HY3 HZ2 HO2 HRE hst3 HPF HS3 HS4 HS5 HS1 HE0 HR
      obtain ⟨r, M, x, v', dv, rfl, rfl, HRR, HDV, HW, HP1, HQ, HY, HZ, HO, HX⟩ := hrel
      obtain ⟨hxan, hxf, hxm, hxc0, hxc1, ⟨hxr0, hxr1⟩, hxi0, hxi1, hxl⟩ := HX.out
      have HXF := Lib.hid hxf
      have HXA := Lib.hid hxan
      have hz1 : w.heap.size + 1 + 1 + 1 < wr.heap.size := (Array.getElem?_eq_some_iff.1 HZ.out).1
      have hz10 : w.heap.size < wr.heap.size := by omega
      have hz12 : w.heap.size + 1 + 1 < wr.heap.size := by omega
      have hz11 : w.heap.size + 1 < wr.heap.size := by omega
      obtain ⟨A', c', rfl, _, _⟩ := HO.out.form
      have hQ1 := HQ.out
      have hY1 := HY.out
      have hZ1 := HZ.out
      have e := boxed_self HP1.out
      rw [e]
      clear e hxf hxan
      by_cases hlt : x.ix < c
      case neg =>
        have dlt : decide (x.ix < c) = false := by simpa using hlt
        have hr0 : r = 0 := by have := HRR.out.1; omega
        have hRx : x = R := by have := HRR.out.2; rw [hr0] at this; exact this
        have HRX := Lib.hid hRx
        clear hRx HP1 HX
        go_wp2_with (first | ((with_reducible_and_instances (show wpList _ _ _ (Oper.mk _ (Op.load 32 _) _ _ _ _ :: _) _ _)); refine wl_load Tryz.underlying32 rfl info13 rfl rfl rfl (by (repeat (first | assumption | (with_reducible refine alloc_at ?_; (focus (first | omega | (simp; done) | (simp; omega)))) | (with_reducible refine boxed_at ?_; (focus (first | omega | (simp; done) | (simp; omega)))) | (with_reducible refine alloc_old ?_ ?_; (focus (first | omega | (simp; done) | (simp; omega)))) | (with_reducible refine boxed_old ?_ ?_; (focus (first | omega | (simp; done) | (simp; omega)))) | (with_reducible refine drew_old ?_)))) (by rfl) ?_) | ((with_reducible_and_instances (show wpList _ _ _ (Oper.mk _ (Op.store 32 _ _) _ _ _ _ :: _) _ _)); refine wl_store info13 rfl rfl rfl rfl (by (repeat (first | assumption | (with_reducible refine alloc_at ?_; (focus (first | omega | (simp; done) | (simp; omega)))) | (with_reducible refine boxed_at ?_; (focus (first | omega | (simp; done) | (simp; omega)))) | (with_reducible refine alloc_old ?_ ?_; (focus (first | omega | (simp; done) | (simp; omega)))) | (with_reducible refine boxed_old ?_ ?_; (focus (first | omega | (simp; done) | (simp; omega)))) | (with_reducible refine drew_old ?_)))) (by rfl) (by rfl) (by first | exact Cv.arr_one _ | exact Nv.arr_one _ | exact Av.arr_one rfl | simp [Value.oneCell']) ?_))
        refine bodyPost_ret (results_row_tmp rfl _ _ (w.heap.size + 1 + 1 + 1) 32 _ (0, 0) _ rfl (boxed_at (by simp only [boxed_size]; omega)) Tryz.underlying32 rfl (by exact info13)) rfl ?_
        rw [← HRX.out]
        exact ⟨_, rfl, ((HO.out.boxed (by omega)).boxed (by omega)).more (by omega), boxed_below (boxed_below HW.out (Nat.le_refl _)) (by omega)⟩
      case pos =>
        have dlt : decide (x.ix < c) = true := by simpa using hlt
        have hdv := HDV.out hlt
        have HLT := Lib.hid hlt
        have hdy := (HCN.out.all x.ix hxi0 hlt).2
        have ewi : wrap64 (x.ix + 1) = x.ix + 1 := by unfold wrap64; omega
        obtain ⟨x1, hx1⟩ : ∃ x1, ({ x with ix := x.ix + 1 } : Av) = x1 := ⟨_, rfl⟩
        have hx1i : x1.ix = x.ix + 1 := by rw [← hx1]
        have hx1a : x1.an = a.an := by rw [← hx1]; exact HXA.out
        have hx1l : x1.l = x.l := by rw [← hx1]
        have hx1c : x1.ct = x.ct := by rw [← hx1]
        have hx1r : x1.cr = x.cr := by rw [← hx1]
        have hx1f : x1.Fit M := by rw [← hx1]; exact ⟨HXF.out.d0, HXF.out.d1, HXF.out.n0, HXF.out.n1, HXF.out.r0, HXF.out.r1, HXF.out.s0, HXF.out.s1, HXF.out.c0, HXF.out.c1, HXF.out.p0, HXF.out.p1⟩
        obtain ⟨r', rfl⟩ : ∃ r', r = r' + 1 := ⟨r - 1, by have := HRR.out.1; omega⟩
        have hrun : Av.runs (Cal.vN p.u a.an k d p.e) p c r' (Av.born x1 p dv (p.l && decide (x1.ix < c))) = R := by
          have := HRR.out.2
          rw [hdv, hx1i, ← hx1]
          exact this
        have hr' : (c - x1.ix).toNat = r' := by have := HRR.out.1; omega
        have HRUN := Lib.hid hrun
        have HR' := Lib.hid hr'
        have HX1I := Lib.hid hx1i
        have HX1A := Lib.hid hx1a
        have HX1L := Lib.hid hx1l
        have HX1C := Lib.hid hx1c
        have HX1R := Lib.hid hx1r
        have HX1F := Lib.hid hx1f
        have HX1 := Lib.hid hx1
        have HDY : Hid (dv ≤ y ∧ dv = Cal.vN p.u a.an k d p.e x.ix) := ⟨by rw [hdv]; exact hdy, hdv⟩
        have hY2 : wr.cell? ⟨w.heap.size + 1 + 1, 0, none⟩ = some (.int .i64 y) := cell_of_row _ _ _ _ _ _ hY1
        clear hdv hdy hrun hr' hx1i hx1a hx1l hx1c hx1r hx1f hx1 HRR HDV HX HP1
        go_wp2_with (first | ((with_reducible_and_instances (show wpList _ _ _ (Oper.mk _ (Op.load 32 _) _ _ _ _ :: _) _ _)); refine wl_load Tryz.underlying32 rfl info13 rfl rfl rfl (by (repeat (first | assumption | (with_reducible refine alloc_at ?_; (focus (first | omega | (simp; done) | (simp; omega)))) | (with_reducible refine boxed_at ?_; (focus (first | omega | (simp; done) | (simp; omega)))) | (with_reducible refine alloc_old ?_ ?_; (focus (first | omega | (simp; done) | (simp; omega)))) | (with_reducible refine boxed_old ?_ ?_; (focus (first | omega | (simp; done) | (simp; omega)))) | (with_reducible refine drew_old ?_)))) (by rfl) ?_) | ((with_reducible_and_instances (show wpList _ _ _ (Oper.mk _ (Op.load 44 _) _ _ _ _ :: _) _ _)); refine wl_load Tryz.underlying44 rfl info6p rfl rfl rfl (by (repeat (first | assumption | (with_reducible refine alloc_at ?_; (focus (first | omega | (simp; done) | (simp; omega)))) | (with_reducible refine boxed_at ?_; (focus (first | omega | (simp; done) | (simp; omega)))) | (with_reducible refine alloc_old ?_ ?_; (focus (first | omega | (simp; done) | (simp; omega)))) | (with_reducible refine boxed_old ?_ ?_; (focus (first | omega | (simp; done) | (simp; omega)))) | (with_reducible refine drew_old ?_)))) (by rfl) ?_) | ((with_reducible_and_instances (show wpList _ _ _ (Oper.mk _ (Op.store 32 _ _) _ _ _ _ :: _) _ _)); refine wl_store info13 rfl rfl rfl rfl (by (repeat (first | assumption | (with_reducible refine alloc_at ?_; (focus (first | omega | (simp; done) | (simp; omega)))) | (with_reducible refine boxed_at ?_; (focus (first | omega | (simp; done) | (simp; omega)))) | (with_reducible refine alloc_old ?_ ?_; (focus (first | omega | (simp; done) | (simp; omega)))) | (with_reducible refine boxed_old ?_ ?_; (focus (first | omega | (simp; done) | (simp; omega)))) | (with_reducible refine drew_old ?_)))) (by rfl) (by rfl) (by first | exact Cv.arr_one _ | exact Nv.arr_one _ | exact Av.arr_one rfl | simp [Value.oneCell']) ?_))
        rw [HX1.out]
        refine (begun_any (a := x1) (p := p) (y := y) (c := c) (k := k) (d := d) (by rw [HX1A.out]; exact HAT.out) HU.out HE.out (by rw [HX1I.out]; omega) (by rw [HX1A.out]; exact HCN.out)).mono ?_
        rw [HX1A.out]
        rintro e w2 ⟨⟨dv2, rfl, hdv2⟩, hb2⟩
        have HDV2 := Lib.hid hdv2
        have hW2 : Below w.heap.size w w2 := (boxed_below HW.out (Nat.le_refl _)).trans (hb2.mono (by simp; have := HW.out.size; omega))
        have hP2 : w2.heap[w.heap.size]? = some (.cells (x1.arr (.slice A' x.l.length c')) 32 (0, 0)) := below_block hb2 (boxed_at hz10)
        have hQ2 : w2.heap[w.heap.size + 1]? = some (.cells p.arr 44 (0, 0)) := below_block hb2 (boxed_old (by omega) hQ1)
        have hY3 : w2.heap[w.heap.size + 1 + 1]? = some (.cells #[.int .i64 y] 3 (0, 0)) := below_block hb2 (boxed_old (by omega) hY1)
        have hZ2 : w2.heap[w.heap.size + 1 + 1 + 1]? = some (.cells #[.int .u8 0, .int .i64 0, .int .i64 0, .int .i64 0, .int .i64 0, .int .i64 0, .bool false, .slice none 0 0, .int .i64 0, .int .i64 0, .int .i64 0, .int .i64 0, .int .i64 0] 32 (0, 0)) := below_block hb2 (boxed_old (by omega) hZ1)
        have hO2 : Own w2 (w.heap.size + 1 + 1 + 1 + 1) (.slice A' x.l.length c') x.l := (HO.out.boxed (by omega)).below hb2
        have hzz : w.heap.size + 1 + 1 + 1 < w2.heap.size := (Array.getElem?_eq_some_iff.1 hZ2).1
        have hz20 : w.heap.size < w2.heap.size := by omega
        have hz21 : w.heap.size + 1 < w2.heap.size := by omega
        have HW2 := Lib.hid hW2
        have HO2 := Lib.hid hO2
        have HQ2 := Lib.hid hQ2
        have HY3 := Lib.hid hY3
        have HZ2 := Lib.hid hZ2
        have HP2 := Lib.hid hP2
        have hqc := pcells hQ2
        obtain ⟨_, _, _, _, _, q5⟩ := hqc
        have hbegin : ∀ mi : Bool, Hid (∀ (X : World), Own X (w.heap.size + 1 + 1 + 1 + 1) (.slice A' x.l.length c') x.l → w.heap.size + 1 + 1 + 1 + 1 ≤ X.heap.size → Calls Tryz.prog 89 #[.agg (x1.arr (.slice A' x.l.length c')), .agg p.arr, .int .i64 dv, .bool mi] X (Bears X (w.heap.size + 1 + 1 + 1 + 1) (x1.born p dv mi))) := fun mi X hX hXs => by
          rw [← HX1L.out] at hX ⊢
          exact begin_any (m := M) dv mi hX hXs (by rw [HX1L.out]; omega) HX1F.out (by omega) (by rw [HX1C.out]; omega) HP.out (by rw [HX1R.out]; omega)
        have hmi : ∀ b : Bool, p.l = b → Hid (Av.runs (Cal.vN p.u a.an k d p.e) p c r' (Av.born x1 p dv (b && decide (x1.ix < c))) = R) := fun b hb => by rw [← hb]; exact HRUN.out
        clear hdv2 hb2 hW2 hO2 hP2 hQ2 hY3 hZ2 HO HW HZ HY HQ hQ1 hY1 hZ1 hY2
        have e := boxed_self HP2.out
        have hQ1 := HQ2.out
        rw [e]
        clear e
        cases hpl' : p.l
        all_goals
          have HMI := hmi _ hpl'
          rw [hpl'] at q5
          clear hmi hpl'
          go_wp2_with (first | ((with_reducible_and_instances (show wpList _ _ _ (Oper.mk _ (Op.load 32 _) _ _ _ _ :: _) _ _)); refine wl_load Tryz.underlying32 rfl info13 rfl rfl rfl (by (repeat (first | assumption | (with_reducible refine alloc_at ?_; (focus (first | omega | (simp; done) | (simp; omega)))) | (with_reducible refine boxed_at ?_; (focus (first | omega | (simp; done) | (simp; omega)))) | (with_reducible refine alloc_old ?_ ?_; (focus (first | omega | (simp; done) | (simp; omega)))) | (with_reducible refine boxed_old ?_ ?_; (focus (first | omega | (simp; done) | (simp; omega)))) | (with_reducible refine drew_old ?_)))) (by rfl) ?_) | ((with_reducible_and_instances (show wpList _ _ _ (Oper.mk _ (Op.load 44 _) _ _ _ _ :: _) _ _)); refine wl_load Tryz.underlying44 rfl info6p rfl rfl rfl (by (repeat (first | assumption | (with_reducible refine alloc_at ?_; (focus (first | omega | (simp; done) | (simp; omega)))) | (with_reducible refine boxed_at ?_; (focus (first | omega | (simp; done) | (simp; omega)))) | (with_reducible refine alloc_old ?_ ?_; (focus (first | omega | (simp; done) | (simp; omega)))) | (with_reducible refine boxed_old ?_ ?_; (focus (first | omega | (simp; done) | (simp; omega)))) | (with_reducible refine drew_old ?_)))) (by rfl) ?_) | ((with_reducible_and_instances (show wpList _ _ _ (Oper.mk _ (Op.store 32 _ _) _ _ _ _ :: _) _ _)); refine wl_store info13 rfl rfl rfl rfl (by (repeat (first | assumption | (with_reducible refine alloc_at ?_; (focus (first | omega | (simp; done) | (simp; omega)))) | (with_reducible refine boxed_at ?_; (focus (first | omega | (simp; done) | (simp; omega)))) | (with_reducible refine alloc_old ?_ ?_; (focus (first | omega | (simp; done) | (simp; omega)))) | (with_reducible refine boxed_old ?_ ?_; (focus (first | omega | (simp; done) | (simp; omega)))) | (with_reducible refine drew_old ?_)))) (by rfl) (by rfl) (by first | exact Cv.arr_one _ | exact Nv.arr_one _ | exact Av.arr_one rfl | simp [Value.oneCell']) ?_))
          refine ((hbegin _).out _ (HO2.out.boxed (by omega)) (by simp; omega)).mono ?_
          simp only [Bool.false_and, Bool.true_and] at HMI
          rintro e w3 ⟨v3, rfl, ho3, hb3⟩
          have hP3 : w3.heap[w.heap.size]? = some (.cells (x1.arr (.slice A' x.l.length c')) 32 (0, 0)) := (hb3.block _ (by omega)).trans (boxed_at hz20)
          have hQ3 : Hid (w3.heap[w.heap.size + 1]? = some (.cells p.arr 44 (0, 0))) := (hb3.block _ (by omega)).trans (boxed_old (by omega) HQ2.out)
          have hY4 : Hid (w3.heap[w.heap.size + 1 + 1]? = some (.cells #[.int .i64 y] 3 (0, 0))) := (hb3.block _ (by omega)).trans (boxed_old (by omega) HY3.out)
          have hZ3 : Hid (w3.heap[w.heap.size + 1 + 1 + 1]? = some (.cells #[.int .u8 0, .int .i64 0, .int .i64 0, .int .i64 0, .int .i64 0, .int .i64 0, .bool false, .slice none 0 0, .int .i64 0, .int .i64 0, .int .i64 0, .int .i64 0, .int .i64 0] 32 (0, 0))) := (hb3.block _ (by omega)).trans (boxed_old (by omega) HZ2.out)
          have HW3 : Hid (Below w.heap.size w w3) := (boxed_below HW2.out (Nat.le_refl _)).trans (hb3.mono (by omega))
          have hz30 : w.heap.size < w3.heap.size := (Array.getElem?_eq_some_iff.1 hP3).1
          obtain ⟨A3, c3, rfl, _, _⟩ := ho3.form
          have HO3 := Lib.hid ho3
          have e := boxed_self hP3
          rw [e]
          clear e hP3 ho3 hb3 hQ1 q5
          go_wp2_with (first | ((with_reducible_and_instances (show wpList _ _ _ (Oper.mk _ (Op.load 32 _) _ _ _ _ :: _) _ _)); refine wl_load Tryz.underlying32 rfl info13 rfl rfl rfl (by (repeat (first | assumption | (with_reducible refine alloc_at ?_; (focus (first | omega | (simp; done) | (simp; omega)))) | (with_reducible refine boxed_at ?_; (focus (first | omega | (simp; done) | (simp; omega)))) | (with_reducible refine alloc_old ?_ ?_; (focus (first | omega | (simp; done) | (simp; omega)))) | (with_reducible refine boxed_old ?_ ?_; (focus (first | omega | (simp; done) | (simp; omega)))) | (with_reducible refine drew_old ?_)))) (by rfl) ?_) | ((with_reducible_and_instances (show wpList _ _ _ (Oper.mk _ (Op.load 44 _) _ _ _ _ :: _) _ _)); refine wl_load Tryz.underlying44 rfl info6p rfl rfl rfl (by (repeat (first | assumption | (with_reducible refine alloc_at ?_; (focus (first | omega | (simp; done) | (simp; omega)))) | (with_reducible refine boxed_at ?_; (focus (first | omega | (simp; done) | (simp; omega)))) | (with_reducible refine alloc_old ?_ ?_; (focus (first | omega | (simp; done) | (simp; omega)))) | (with_reducible refine boxed_old ?_ ?_; (focus (first | omega | (simp; done) | (simp; omega)))) | (with_reducible refine drew_old ?_)))) (by rfl) ?_) | ((with_reducible_and_instances (show wpList _ _ _ (Oper.mk _ (Op.store 32 _ _) _ _ _ _ :: _) _ _)); refine wl_store info13 rfl rfl rfl rfl (by (repeat (first | assumption | (with_reducible refine alloc_at ?_; (focus (first | omega | (simp; done) | (simp; omega)))) | (with_reducible refine boxed_at ?_; (focus (first | omega | (simp; done) | (simp; omega)))) | (with_reducible refine alloc_old ?_ ?_; (focus (first | omega | (simp; done) | (simp; omega)))) | (with_reducible refine boxed_old ?_ ?_; (focus (first | omega | (simp; done) | (simp; omega)))) | (with_reducible refine drew_old ?_)))) (by rfl) (by rfl) (by first | exact Cv.arr_one _ | exact Nv.arr_one _ | exact Av.arr_one rfl | simp [Value.oneCell']) ?_))
          go_roundw
          case rel =>
            have hbx := HX1I.out
            have hbc := HX1C.out
            have hbl := HX1L.out
            refine ⟨r', M + 1, _, _, dv2, rfl, by rw [Av.born_same.2.2.2.1], ⟨by rw [Av.born_same.2.2.2.1]; exact HR'.out, HMI.out⟩, by rw [Av.born_same.2.2.2.1]; exact HDV2.out, boxed_below HW3.out (Nat.le_refl _), boxed_at hz30, boxed_old (by omega) hQ3.out, boxed_old (by omega) hY4.out, boxed_old (by omega) hZ3.out, HO3.out.boxed (by omega), ?_⟩
            refine ⟨by rw [Av.born_same.2.2.1]; exact HX1A.out, Av.born_fit HX1F.out HP.out (by rw [HX1R.out]; exact hxr0) (by rw [HX1R.out]; exact hxr1), by omega, by rw [Av.born_same.2.2.2.2]; omega, by rw [Av.born_same.2.2.2.2]; omega, Av.born_cr HP.out.1 (by rw [HX1R.out]; exact hxr0) (by rw [HX1R.out]; exact hxr1), by rw [Av.born_same.2.2.2.1]; omega, by rw [Av.born_same.2.2.2.1]; omega, ?_⟩
            refine Nat.le_trans (Nat.add_le_add_right Av.born_len r') ?_
            rw [hbl]; omega
          case measure =>
            have hbx := HX1I.out
            by_cases h2 : x1.ix < c
            · have h3 := HDV2.out h2
              have h4 := Cal.vN_lt (u := p.u) (n := x.ix) (m := x1.ix) HAT.out HE.out.1 (by omega)
              have h5 := HDY.out.1
              have h6 := HDY.out.2
              simp [intOf, boolOf, h2, HLT.out]
              omega
            · simp [boolOf, h2, HLT.out]
end Go.Proofs.YtblikgbcakgdnaaGreat
