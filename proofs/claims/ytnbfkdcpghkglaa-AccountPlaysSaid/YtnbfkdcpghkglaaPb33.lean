/-
  A slice of law 13's acts that comes in: what it reads as. No conditions.
-/
import Derived.Deep.Slices
import Derived.Deep.MidRow
import Derived.Lib.SmallJoins
import Derived.Test.YtnbfkdcpghkglaaPb03
import Derived.Test.YtnbfkdcpghkglaaPb32
set_option linter.unusedSimpArgs false
set_option linter.unusedVariables false
namespace Go.Proofs.Ytnbfkdcpghkglaa
set_option maxRecDepth 20000
open Go.ChangeShapes Go.WideShapes Go.RowKit Go.Deep

/-- An act, by its bytes. -/
structure Ac3 where
  k : Int
  a : Int
  b : Int
def Ac3.cs (p : Ac3) : List Value := [.int .u8 p.k, .int .u8 p.a, .int .u8 p.b]
/-- An act as it may come in. -/
def Ac3.Wf (p : Ac3) : Prop := (0 ≤ p.k ∧ p.k < 256) ∧ (0 ≤ p.a ∧ p.a < 256) ∧ (0 ≤ p.b ∧ p.b < 256)
theorem cells_Ac3 {H : Type} {enc : TypeId × Value → H} {W : World} {n : Nat} {cs : List Value} {x : DataW H × List MemPlace} (hl : cs.length = 3) (h : DataW.trod enc Try.prog W 0 (fun _ => true) true n 43 cs = some x) :
    ∃ p : Ac3, cs = p.cs ∧ p.Wf := by
  obtain ⟨xs, k, hk, hxy, _, hxl, hff⟩ := DataW.trod_struct Try.underlying43 h
  match xs, hxl, cs, hl with
  | [y0, y1, y2], _, [v0, v1, v2], _ =>
    have t0 : DataW.trod enc Try.prog W 0 (fun _ => true) true k 5 [v0] = some y0 := hff 0 _ rfl
    have t1 : DataW.trod enc Try.prog W 0 (fun _ => true) true k 5 [v1] = some y1 := hff 1 _ rfl
    have t2 : DataW.trod enc Try.prog W 0 (fun _ => true) true k 5 [v2] = some y2 := hff 2 _ rfl
    obtain ⟨k, e0, _, w0⟩ := DataW.trod_int Try.underlying5 t0
    obtain ⟨a, e1, _, w1⟩ := DataW.trod_int Try.underlying5 t1
    obtain ⟨b, e2, _, w2⟩ := DataW.trod_int Try.underlying5 t2
    injection e0 with e0; injection e1 with e1; injection e2 with e2
    subst e0 e1 e2
    exact ⟨⟨k, a, b⟩, rfl, wf_u8 w0, wf_u8 w1, wf_u8 w2⟩
/-- A slice of acts whose address is A reads as the acts l: in a block below B. -/
def RdAc3 (w : World) (B : Nat) (A : Option Addr) (l : List Ac3) : Prop :=
  ∀ (j : Nat) (p : Ac3), l[j]? = some p → ∃ b o, A = some ⟨b, o, none⟩ ∧ b < B ∧ w.rangeAt b (o + j * 3) p.cs
theorem RdAc3.kept {w w' : World} {B : Nat} {A : Option Addr} {l : List Ac3} (h : RdAc3 w B A l) (hk : ∀ i, i < B → w'.heap[i]? = w.heap[i]?) : RdAc3 w' B A l := fun j p hl => by
  obtain ⟨b, o, h1, h2, h3⟩ := h j p hl
  exact ⟨b, o, h1, h2, fun i v hv => (World.cell?_of_block (a := ⟨b, o + j * 3 + i, none⟩) (hk b h2)).trans (h3 i v hv)⟩
theorem open_Ac3 {H : Type} {enc : TypeId × Value → H} {W : World} {base : Nat} {v : Value} {d : DataW H} {ps : List MemPlace}
    (hval : Value.okWide Try.prog W .any base 23 v) (hd : DataW.Trod enc Try.prog W 0 (fun _ => true) true 23 v d ps) :
    ∃ A c l, v = .slice A (List.length l) c ∧ l.length ≤ c ∧ c ≤ maxLen ∧ RdAc3 W W.heap.size A l ∧ ∀ p ∈ l, Ac3.Wf p := by
  obtain ⟨a0, n0, c0, rfl⟩ := okWide_slice Try.underlying23 hval
  obtain ⟨fuel, hf⟩ := hd
  rcases open_slice Try.underlying23 hf with ⟨hcs, _⟩ | ⟨a, len, cap, m, n, D, Pl, hcs, _, hl, hm, hmm, _, hx⟩
  · simp [Value.cells] at hcs
    obtain ⟨rfl, rfl, rfl⟩ := hcs
    exact ⟨none, 0, [], rfl, by simp, by simp, fun j l h => by simp at h, by simp⟩
  · simp [Value.cells] at hcs
    obtain ⟨rfl, rfl, rfl⟩ := hcs
    simp only [if_true] at hmm
    have ce : Try.prog.cellsOf 43 = 3 := by kernel_rfl
    have each : ∀ i, i < n0 → ∃ y : Ac3, y.Wf ∧ ∀ (j : Nat) (v : Value), y.cs[j]? = some v → W.cell? (a.add (i * 3 + j)) = some v := by
      intro i hi
      obtain ⟨cs', h1, h2⟩ := hx i (by omega)
      rw [ce] at h1
      obtain ⟨_, hlen, hcell⟩ := World.cells?_some h1
      obtain ⟨p, rfl, hw⟩ := cells_Ac3 hlen h2
      exact ⟨p, hw, fun j v hv => by
        have hj : j < 3 := by
          have := (List.getElem?_eq_some_iff.1 hv).1
          rwa [hlen] at this
        have q := hcell j hj
        rw [add_add] at q
        exact q.trans hv⟩
    haveI : Inhabited Ac3 := ⟨⟨0, 0, 0⟩⟩
    obtain ⟨y, hy⟩ := choose_lt each
    have hlen : ((List.range n0).map y).length = n0 := by simp
    refine ⟨some a, c0, (List.range n0).map y, by rw [hlen], by rw [hlen]; exact hl, hm, fun j x hj => ?_, fun x hx' => ?_⟩
    · obtain ⟨hj1, hj2⟩ := List.getElem?_eq_some_iff.1 hj
      rw [hlen] at hj1
      have hj3 : y j = x := by simpa using hj2
      obtain ⟨_, h1⟩ := hy j hj1
      have hz := (hy 0 (by omega)).2 0 _ rfl
      rw [Nat.zero_mul, ad_zero] at hz
      have hsp := World.cell?_spot hz
      obtain ⟨b, o, sp⟩ := a
      have hsp' : sp = none := hsp
      subst hsp'
      rw [hj3] at h1
      refine ⟨b, o, rfl, World.block_lt_of_cell? W _ hz, fun i v hv => ?_⟩
      have q := h1 i v hv
      rw [add_plain] at q
      rw [Nat.add_assoc]; exact q
    · simp only [List.mem_map, List.mem_range] at hx'
      obtain ⟨r, hr', rfl⟩ := hx'
      exact (hy r hr').1
end Go.Proofs.Ytnbfkdcpghkglaa
/-
  A region that draws its order and stores what it has read, and goes on behind that: a lane up to an operation t for which all that are taken wait, in a class S of worlds; from t on in another class S2. No conditions but those that each law names.
-/
namespace Go.Proofs.Ytnbfkdcpghkglaa
open Go.RowKit

section
variable {P : Program} {md : Region.Mode} {ops : Array Oper} {S S2 : World → Prop} {Q : Exit → Act → World → Prop} {t : Nat}
/-- The walk of what is left, t among it: from t on in the class S2. -/
def wpEndU (P : Program) (md : Region.Mode) (ops : Array Oper) (Q : Exit → Act → World → Prop) (S S2 : World → Prop) (t : Nat) : Nat → Array Bool → Act → World → Prop
  | 0, came, a, w => Region.ready md ops came = [] ∧ Q .normal a w
  | n + 1, came, a, w => (Region.ready md ops came = [] → Q .normal a w) ∧
    ∀ i ∈ Region.ready md ops came, wpOp P ops Q i (fun b u => (i ≠ t → S u ∧ wpEndU P md ops Q S S2 t n (came.setIfInBounds i true) b u) ∧ (i = t → S2 u ∧ wpAnyH P md ops Q S2 n (came.setIfInBounds i true) b u)) a w
theorem any_of_endU (n : Nat) : ∀ (came : Array Bool) (a : Act) (w : World), wpEndU P md ops Q S S2 t n came a w → wpAny P md ops Q n came a w := by
  induction n with
  | zero => exact fun _ _ _ h => h
  | succ n ih => exact fun came a w h => ⟨h.1, fun i hi => wpOp_mono (fun b u hu => by
      rcases Decidable.em (i = t) with e | e
      · exact wpAny_of_held _ _ _ _ (hu.2 e).2
      · exact ih _ b u (hu.1 e).2) (h.2 i hi)⟩
/-- An operation that may come up, other than t, may be taken first. -/
theorem endU_first {i : Nat} {oi : Oper} {v : Value} (hi : ops[i]? = some oi) (hsel : ∀ (j : Nat) (o : Oper) cs b, ops[j]? = some o → o.op ≠ .select cs b)
    (hQ : ∀ c a w, Q (.panic c) (a.put oi.dst v) w → Q (.panic c) a w) (hlast : ∀ o, ops[t]? = some o → i ≠ t → ∃ e ∈ o.after, Region.binds md e = true ∧ e.on = i) (hit : i ≠ t) (n : Nat) : ∀ (came : Array Bool) (a : Act) (w : World),
      (∀ j oj, ops[j]? = some oj → j ≠ i → came.getD j true = false → (∀ e ∈ oj.after, Region.binds md e = true → e.on ≠ i) → oi.apart ops oj = true) →
      i ∈ Region.ready md ops came → YieldsIf P ops S oi v a → S w → wpEndU P md ops Q S S2 t n (came.setIfInBounds i true) (a.put oi.dst v) w → wpEndU P md ops Q S S2 t (n + 1) came a w := by
  induction n with
  | zero =>
    intro came a w _ hr hy hS H
    constructor
    · intro h; rw [h] at hr; cases hr
    · intro j hj
      rcases Decidable.em (j = i) with rfl | hne
      · exact hy.wpOp hi hS ⟨fun _ => ⟨hS, H⟩, fun e => absurd e hit⟩
      · have hj2 := ready_mono hj hne
        rw [H.1] at hj2; cases hj2
  | succ n ih =>
    intro came a w hfree hr hy hS H
    constructor
    · intro h; rw [h] at hr; cases hr
    · intro j hj
      rcases Decidable.em (j = i) with rfl | hne
      · exact hy.wpOp hi hS ⟨fun _ => ⟨hS, H⟩, fun e => absurd e hit⟩
      · obtain ⟨hun, oj, hoj, hdone⟩ := mem_ready.1 hj
        have hno := ready_free hr hdone
        have hjt : j ≠ t := by
          rintro rfl
          obtain ⟨e, he, hb, ho⟩ := hlast oj hoj hit
          exact hno e he hb ho
        refine wpOp_mono ?_ (wpOp_putIf hoj (hfree j oj hoj hne hun hno) (fun cs b => hsel i oi cs b hi) (fun cs b => hsel j oj cs b hoj) hQ hy (H.2 j (ready_mono hj hne)))
        rintro b u ⟨hyu, hSu, _⟩
        obtain ⟨hS1, Hu⟩ := hSu hjt
        refine ⟨fun _ => ⟨hS1, ih _ b u (fun k ok hk hki hku hkn => hfree k ok hk hki ?_ hkn) (ready_mono hr (Ne.symm hne)) hyu hS1 (by rw [Array.setIfInBounds_comm _ _ hne]; exact Hu)⟩, fun e => absurd e hjt⟩
        rcases Decidable.em (j = k) with rfl | hjk
        · exact hun
        · rwa [getD_set_ne true hjk] at hku
end
section
variable {P : Program} {l : List Oper} {S S2 : World → Prop} {Q : Exit → Act → World → Prop} {t : Nat}
def LaneU (P : Program) (l : List Oper) (S S2 : World → Prop) (Q : Exit → Act → World → Prop) (t : Nat) (done ord : List Nat) (a : Act) (w : World) : Prop := wpEndU P .any l.toArray Q S S2 t ord.length (cameUp l done) a w
def uWaits (l : List Oper) (t i : Nat) : Bool := match l[t]? with
  | some o => o.after.toList.any fun e => Region.binds .any e && e.on == i
  | none => true
theorem uWaits_spec {i : Nat} (h : uWaits l t i = true) : ∀ o, l.toArray[t]? = some o → i ≠ t → ∃ e ∈ o.after, Region.binds .any e = true ∧ e.on = i := by
  intro o ho _
  have ho' : l[t]? = some o := by simpa using ho
  unfold uWaits at h
  simp only [ho', List.any_eq_true, Bool.and_eq_true, beq_iff_eq] at h
  obtain ⟨e, he, hb, hon⟩ := h
  exact ⟨e, by simpa using he, hb, hon⟩
theorem laneU_start {id : Nat} {a : Act} {w : World} (ord : List Nat) (t : Nat) (hlen : ord.length = l.length) (hm : P.follows .mixedOrders = true) (h : LaneU P l S S2 (NoPanic Q) t [] ord a w.drew) : (Code.region id l.toArray true).wp P Q a w :=
  wp_region_noPanic (wp_region_any hm (any_of_endU _ _ _ _ (by
    unfold LaneU at h
    rw [hlen] at h
    simpa [cameUp] using h)))
theorem laneU_take {i : Nat} {o : Oper} {done ord : List Nat} {a : Act} {w : World} {v : Value} (ho : l[i]? = some o) (hf : laneFree l done i = true) (hs : (Region.noSelect l.toArray && uWaits l t i && !(i == t)) = true) (hw : Region.wanted o (yielded l.toArray a.tmps) = true)
    (hv : ∀ w, S w → (execOp a.eval o).run P w = .ok (.value v) w) (hS : S w) (h : LaneU P l S S2 (NoPanic Q) t (i :: done) ord (a.put o.dst v) w) : LaneU P l S S2 (NoPanic Q) t done (i :: ord) a w := by
  unfold laneFree at hf
  simp only [Bool.and_eq_true, Bool.not_eq_true', beq_eq_false_iff_ne] at hf hs
  exact endU_first (by simpa using ho) (Region.noSelect_spec hs.1.1) (fun _ _ _ h => h) (uWaits_spec hs.1.2) hs.2 _ _ _ _ (Region.free_spec (by simpa using ho) hf.1) (by simpa using hf.2) (.inl ⟨hw, hv⟩) hS h
/-- One that comes up alone, ahead of t. -/
theorem laneU_alone {i : Nat} {o : Oper} {done ord : List Nat} {a : Act} {w : World} (ho : l[i]? = some o) (hr : (laneAlone l done i && !(i == t)) = true) (hw : Region.wanted o (yielded l.toArray a.tmps) = true)
    (h : ∀ K : Act → World → Prop, (∀ a' w', S w' → LaneU P l S S2 (NoPanic Q) t (i :: done) ord a' w' → K a' w') → o.wp P a w K (NoPanic Q)) : LaneU P l S S2 (NoPanic Q) t done (i :: ord) a w := by
  unfold laneAlone at hr
  simp only [Bool.and_eq_true, Bool.not_eq_true', beq_eq_false_iff_ne, beq_iff_eq] at hr
  have hready : Region.ready .any l.toArray (cameUp l done) = [i] := hr.1
  refine ⟨fun h0 => (by rw [hready] at h0; cases h0), fun j hj => ?_⟩
  rw [hready] at hj
  obtain rfl : j = i := by simpa using hj
  unfold wpOp
  have h2 : l.toArray[j]? = some o := by simpa using ho
  simp only [h2, hw, if_true]
  exact .inl (h _ fun a' w' hS hn => ⟨fun _ => ⟨hS, hn⟩, fun e => absurd e hr.2⟩)
/-- t itself. -/
theorem laneU_last {o : Oper} {done ord : List Nat} {a : Act} {w : World} (ho : l[t]? = some o) (hr : laneAlone l done t = true) (hw : Region.wanted o (yielded l.toArray a.tmps) = true)
    (h : ∀ K : Act → World → Prop, (∀ a' w', S2 w' → (S2 w' → Lane P l S2 (NoPanic Q) (t :: done) ord a' w') → K a' w') → o.wp P a w K (NoPanic Q)) : LaneU P l S S2 (NoPanic Q) t done (t :: ord) a w := by
  unfold laneAlone at hr
  have hready : Region.ready .any l.toArray (cameUp l done) = [t] := by simpa using hr
  refine ⟨fun h0 => (by rw [hready] at h0; cases h0), fun j hj => ?_⟩
  rw [hready] at hj
  obtain rfl : j = t := by simpa using hj
  unfold wpOp
  have h2 : l.toArray[j]? = some o := by simpa using ho
  simp only [h2, hw, if_true]
  exact .inl (h _ fun a' w' hS hn => ⟨fun e => absurd rfl e, fun _ => ⟨hS, hn hS⟩⟩)
/-- One that t does not wait for, and t, may come up: each is walked. -/
theorem laneU_pair {i : Nat} {oi ot : Oper} {done ord1 ord2 : List Nat} {a : Act} {w : World} (hoi : l[i]? = some oi) (hot : l[t]? = some ot) (hr : (Region.ready .any l.toArray (cameUp l done) == [i, t] && !(i == t)) = true) (hlen : ord1.length = ord2.length)
    (hwi : Region.wanted oi (yielded l.toArray a.tmps) = true) (hwt : Region.wanted ot (yielded l.toArray a.tmps) = true)
    (hi : ∀ K : Act → World → Prop, (∀ a' w', S w' → LaneU P l S S2 (NoPanic Q) t (i :: done) ord1 a' w' → K a' w') → oi.wp P a w K (NoPanic Q))
    (ht : ∀ K : Act → World → Prop, (∀ a' w', S2 w' → (S2 w' → Lane P l S2 (NoPanic Q) (t :: done) ord2 a' w') → K a' w') → ot.wp P a w K (NoPanic Q)) : LaneU P l S S2 (NoPanic Q) t done (i :: ord1) a w := by
  simp only [Bool.and_eq_true, Bool.not_eq_true', beq_eq_false_iff_ne, beq_iff_eq] at hr
  refine ⟨fun h0 => (by rw [hr.1] at h0; cases h0), fun j hj => ?_⟩
  rw [hr.1] at hj
  unfold wpOp
  rcases List.mem_cons.1 hj with rfl | hj
  · have h2 : l.toArray[j]? = some oi := by simpa using hoi
    simp only [h2, hwi, if_true]
    exact .inl (hi _ fun a' w' hS hn => ⟨fun _ => ⟨hS, hn⟩, fun e => absurd e hr.2⟩)
  · obtain rfl : j = t := by simpa using hj
    have h2 : l.toArray[j]? = some ot := by simpa using hot
    simp only [h2, hwt, if_true]
    refine .inl (ht _ fun a' w' hS hn => ⟨fun e => absurd rfl e, fun _ => ⟨hS, ?_⟩⟩)
    have := hn hS
    unfold Lane at this
    rw [← hlen] at this
    exact this
end
end Go.Proofs.Ytnbfkdcpghkglaa
/-
  AccountPlays: whatever is done to it, a subscription is as it should be. No conditions.
-/
namespace Go.Proofs.Ytnbfkdcpghkglaa
set_option maxRecDepth 100000
open Go.ChangeShapes Go.WideShapes Go.ChangeAt Go.RowKit

/-- The law's two plans. -/
def twoOf (a b : Int) (k : Nat) : Pv := if k = 0 then Pv.of a else Pv.of b
theorem twoOf_ok (a b : Int) : ∀ k, k < 2 → (twoOf a b k).Ok ∧ (twoOf a b k).e ≤ 12 := by
  have one : ∀ n, (Pv.of n).Ok ∧ (Pv.of n).e ≤ 12 := fun n => by
    obtain ⟨h1, h2, h3, h4⟩ := Pv.of_bd n
    exact ⟨⟨h2, by omega, by omega⟩, by omega⟩
  intro k hk
  unfold twoOf
  split
  · exact one a
  · exact one b
theorem Tw.built (ps : Nat → Pv) : Try.prog.built 27 [(0, .agg (ps 0).arr), (1, .agg (ps 1).arr)] = some (Tw.arr ps) := by
  rw [Tw.arr_row]
  unfold Tw.row
  kernel_rfl
set_option maxHeartbeats 4000000 in
theorem plans_any (a b : Int) (ha : 0 ≤ a ∧ a < 256) (hb : 0 ≤ b ∧ b < 256) (w : World) : Calls Try.prog 8 #[.int .u8 a, .int .u8 b] w fun e w' => e = .returned (.agg (Tw.arr (twoOf a b))) ∧ Below w.heap.size w w' := by
  go_enter Try.func8, Try.ntmps8
  go_wp2_with fail
  refine (plan12_any a ha.1 ha.2 _).mono ?_
  rintro e w1 ⟨rfl, hb1⟩
  have hz1 : w1.heap[w.heap.size]? = some (.cells #[.int .i64 0, .int .u8 0, .int .i64 0, .int .i64 0, .bool false, .bool false, .int .i64 0, .int .u8 0, .int .i64 0, .int .i64 0, .bool false, .bool false] 27 (0, 0)) := below_block hb1 (alloc_at rfl)
  have hW1 : Below w.heap.size w w1 := ((Below.refl _ w).alloc (Nat.le_refl _) _).trans (hb1.mono (by simp))
  clear hb1
  go_wp2_with fail
  refine (plan12_any b hb.1 hb.2 _).mono ?_
  rintro e w2 ⟨rfl, hb2⟩
  have hz2 : w2.heap[w.heap.size]? = some (.cells #[.int .i64 0, .int .u8 0, .int .i64 0, .int .i64 0, .bool false, .bool false, .int .i64 0, .int .u8 0, .int .i64 0, .int .i64 0, .bool false, .bool false] 27 (0, 0)) := below_block hb2 hz1
  have hW2 : Below w.heap.size w w2 := hW1.trans (hb2.mono hW1.size)
  have hlt : w.heap.size < w2.heap.size := (Array.getElem?_eq_some_iff.1 hz2).1
  clear hb2 hz1 hW1
  go_wp2_with (((with_reducible_and_instances (show wpList _ _ _ (Oper.mk _ (Op.build 27 _) _ _ _ _ :: _) _ _)); refine stop_here ?_))
  refine ⟨?_⟩
  refine wpList_buildTo rfl 27 _ rfl _ rfl _ (Eq.trans (congrArg (Program.built _ _) (by simp [Act.eval]; exact ⟨rfl, rfl⟩)) (Tw.built (twoOf a b))) ?_
  go_wp2_with (((with_reducible_and_instances (show wpList _ _ _ (Oper.mk _ (Op.store 27 _ _) _ _ _ _ :: _) _ _)); refine stop_here ?_))
  refine ⟨?_⟩
  refine wl_store (g := w.heap.size) Tw.info rfl rfl rfl rfl hz2 rfl (Tw.arr_size _) (Tw.arr_one _) ?_
  go_wp2_with fail
  refine bodyPost_ret (results_cell_row rfl _ _ w.heap.size 27 _ (0, 0) _ rfl (boxed_at hlt) Try.underlying27 rfl (by rw [Tw.arr_size]; exact Tw.info)) rfl ?_
  exact ⟨rfl, boxed_below hW2 (Nat.le_refl _)⟩
theorem info3a : (Try.prog.info? 43).map (·.size) = some 3 := by kernel_rfl
theorem Tw.range_all {w : World} {B : Nat} {ps : Nat → Pv} {t : TypeId} {fr : Nat × Nat} (h : w.heap[B]? = some (.cells (Tw.arr ps) t fr)) : w.rangeAt B 0 (Tw.arr ps).toList := by
  intro j u hu
  rw [cell_of_row _ _ _ _ _ _ h, Nat.zero_add, ← Array.getElem?_toList]
  exact hu
theorem Tw.info_all {ps : Nat → Pv} : (Try.prog.info? 27).map (·.size) = some (Tw.arr ps).toList.length := by rw [Array.length_toList, Tw.arr_size]; exact Tw.info
theorem Rel.drewn {ps : Nat → Pv} {i lo hi : Nat} {w : World} {b : Wd} (h : Rel ps i lo hi w b) : Rel ps i lo hi w.drew b := ⟨h.p, h.a, h.td, h.va, h.vs, h.ca.imp (fun h => h.kept fun _ _ _ => rfl) (fun h => h.kept fun _ _ _ => rfl), h.cs.imp (fun h => h.kept fun _ _ _ => rfl) (fun h => h.kept fun _ _ _ => rfl), h.lo_le, h.hi_le⟩
/-- What is stored into the block between its lists does not touch them. -/
theorem Rel.boxed {ps : Nat → Pv} {i D : Nat} {w : World} {b : Wd} {cs : Array Value} {t : TypeId} (h : Rel ps i D (D + 1) w b) : Rel ps i D (D + 1) (Go.Proofs.Ytnbfkdcpghkglaa.boxed w D cs t) b :=
  ⟨h.p, h.a, h.td, h.va, h.vs, h.ca.boxed (Nat.le_refl _) (by omega), h.cs.boxed (Nat.le_refl _) (by omega), by simp only [boxed_size]; exact h.lo_le, by simp only [boxed_size]; exact h.hi_le⟩
set_option maxHeartbeats 8000000 in
theorem accountPlays_walk (a0 : Int) (w0 : (Lit.int .u8 a0).wf = true) (a1 : Int) (w1 : (Lit.int .u8 a1).wf = true) (a2 : Int) (w2 : (Lit.int .u16 a2).wf = true) (A3 : Option Addr) (c3 : Nat) (l : List Ac3) {w : World} (r3 : RdAc3 w w.heap.size A3 l) (w3 : ∀ p ∈ l, Ac3.Wf p) :
    Calls Try.prog 3 #[.int .u8 a0, .int .u8 a1, .int .u16 a2, .slice A3 l.length c3] w fun e w' => e = .returned (.bool true) ∧ Below w.heap.size w w' := by
  obtain ⟨h00, h01⟩ := wf_u8 w0
  obtain ⟨h10, h11⟩ := wf_u8 w1
  obtain ⟨h20, h21⟩ := wf_u16 w2
  have HRD := Lib.hid r3
  have HWF := Lib.hid w3
  obtain ⟨n, hn⟩ : ∃ n, l.length = n := ⟨_, rfl⟩
  rw [hn]
  have HN := Lib.hid hn
  clear r3 w3 hn
  go_enter Try.func3, Try.ntmps3
  go_wp2_with fail
  refine (acawake_any _).mono ?_
  rintro e w1 ⟨rfl, hb1⟩
  have HW1 := Lib.hid hb1
  clear hb1
  by_cases hlong : 50 < n
  · have d1 : decide (50 < (n : Int)) = true := by simp; omega
    have d2 : decide ((n : Int) > 50) = true := by simp; omega
    go_wp2_with fail
    refine (acawake_any _).mono ?_
    rintro e w2 ⟨rfl, hb2⟩
    go_wp2_with fail
    go_ret
    exact ⟨rfl, HW1.out.trans (hb2.mono HW1.out.size)⟩
  have d1 : decide (50 < (n : Int)) = false := by simp; omega
  have d2 : decide ((n : Int) > 50) = false := by simp; omega
  go_wp2_with fail
  refine (plans_any a0 a1 ⟨h00, by omega⟩ ⟨h10, by omega⟩ _).mono ?_
  rintro e w2 ⟨rfl, hb2⟩
  have HW2 : Hid (Below w.heap.size w w2) := HW1.out.trans (hb2.mono HW1.out.size)
  have HPS := Lib.hid (twoOf_ok a0 a1)
  have HT0 : Hid (0 ≤ (twoOf a0 a1 0).t ∧ (twoOf a0 a1 0).t ≤ 1000) := by show _ ∧ _; have := (Pv.of_bd a0).2.2.2; unfold twoOf; rw [if_pos rfl]; omega
  clear hb2 HW1
  generalize twoOf a0 a1 = ps at HPS HT0 ⊢
  go_wp2_with (((with_reducible_and_instances (show wpList _ _ _ (Oper.mk _ (Op.store 27 _ _) _ _ _ _ :: _) _ _)); refine stop_here ?_))
  refine ⟨?_⟩
  refine wl_store (g := w2.heap.size) Tw.info rfl rfl rfl rfl (alloc_at rfl) rfl (Tw.arr_size _) (Tw.arr_one _) ?_
  obtain ⟨W3, hW3⟩ : ∃ W3, boxed (w2.alloc (.cells #[.int .i64 0, .int .u8 0, .int .i64 0, .int .i64 0, .bool false, .bool false, .int .i64 0, .int .u8 0, .int .i64 0, .int .i64 0, .bool false, .bool false] 27)) w2.heap.size (Tw.arr ps) 27 = W3 := ⟨_, rfl⟩
  have p3 : W3.heap[w2.heap.size]? = some (.cells (Tw.arr ps) 27 (0, 0)) := by rw [← hW3]; exact boxed_at (by simp)
  have HW3 : Hid (Below w.heap.size w W3) := by rw [← hW3]; exact boxed_below (HW2.out.alloc HW2.out.size _) HW2.out.size
  rw [hW3]
  clear hW3
  obtain ⟨T, hT⟩ : ∃ T, w2.heap.size = T := ⟨_, rfl⟩
  rw [hT] at p3 ⊢
  clear hT HW2 w2
  have ew : wrap64 (700000 + a2) = 700000 + a2 := by unfold wrap64; omega
  go_wp2_with (((with_reducible_and_instances (show wpList _ _ _ (Oper.mk _ (Op.load 27 _) _ _ _ _ :: _) _ _)); refine stop_here ?_))
  refine ⟨?_⟩
  refine wl_load (cs := Tw.arr ps) (fr := (0, 0)) (g := T) Try.underlying27 rfl Tw.info rfl rfl rfl p3 (Tw.arr_size _) ?_
  go_wp2_with fail
  clear ew
  refine (begin_rel (HPS.out 0 (by omega)).1 HT0.out ⟨by omega, by omega⟩).mono ?_
  rintro e w4 ⟨wd0, rfl, hrel0, hb4⟩
  have p4 : w4.heap[T]? = some (.cells (Tw.arr ps) 27 (0, 0)) := below_block hb4 p3
  have HW4 : Hid (Below w.heap.size w w4) := HW3.out.trans (hb4.mono HW3.out.size)
  have hrel1 := hrel0 ((w4.alloc (.cells #[.int .u8 0, .int .i64 0, .int .i64 0, .int .i64 0, .int .i64 0, .int .i64 0, .bool false, .slice none 0 0, .int .i64 0, .int .i64 0, .int .i64 0, .int .i64 0, .int .i64 0, .int .u8 0, .int .i64 0, .int .i64 0, .int .i64 0, .int .i64 0, .bool false, .slice none 0 0, .int .i64 0, .int .i64 0] 38))) w4.heap.size (w4.heap.size + 1) ((Below.refl _ w4).alloc (Nat.le_refl _) _) rfl (by simp)
  have HREL1 : Hid (Rel ps 0 w4.heap.size (w4.heap.size + 1) (boxed (w4.alloc (.cells #[.int .u8 0, .int .i64 0, .int .i64 0, .int .i64 0, .int .i64 0, .int .i64 0, .bool false, .slice none 0 0, .int .i64 0, .int .i64 0, .int .i64 0, .int .i64 0, .int .i64 0, .int .u8 0, .int .i64 0, .int .i64 0, .int .i64 0, .int .i64 0, .bool false, .slice none 0 0, .int .i64 0, .int .i64 0] 38)) w4.heap.size wd0.arr 38) wd0) := hrel1.boxed
  have hone := Wd.arr_one hrel1.va hrel1.vs
  clear hrel0 hb4 p3 HW3 hrel1
  go_wp2_with (((with_reducible_and_instances (show wpList _ _ _ (Oper.mk _ (Op.store 38 _ _) _ _ _ _ :: _) _ _)); refine stop_here ?_))
  refine ⟨?_⟩
  refine wl_store (g := w4.heap.size) Wd.info rfl rfl rfl rfl (alloc_at rfl) rfl (Wd.arr_size _) hone ?_
  have hD0 : w.heap.size ≤ w4.heap.size := HW4.out.size
  have hT4 : T < w4.heap.size := (Array.getElem?_eq_some_iff.1 p4).1
  have p5 : (boxed (w4.alloc (.cells #[.int .u8 0, .int .i64 0, .int .i64 0, .int .i64 0, .int .i64 0, .int .i64 0, .bool false, .slice none 0 0, .int .i64 0, .int .i64 0, .int .i64 0, .int .i64 0, .int .i64 0, .int .u8 0, .int .i64 0, .int .i64 0, .int .i64 0, .int .i64 0, .bool false, .slice none 0 0, .int .i64 0, .int .i64 0] 38)) w4.heap.size wd0.arr 38).heap[T]? = some (.cells (Tw.arr ps) 27 (0, 0)) := boxed_old (by omega) (alloc_old hT4 p4)
  have q5 : (boxed (w4.alloc (.cells #[.int .u8 0, .int .i64 0, .int .i64 0, .int .i64 0, .int .i64 0, .int .i64 0, .bool false, .slice none 0 0, .int .i64 0, .int .i64 0, .int .i64 0, .int .i64 0, .int .i64 0, .int .u8 0, .int .i64 0, .int .i64 0, .int .i64 0, .int .i64 0, .bool false, .slice none 0 0, .int .i64 0, .int .i64 0] 38)) w4.heap.size wd0.arr 38).heap[w4.heap.size]? = some (.cells wd0.arr 38 (0, 0)) := boxed_at (by simp)
  have HW5 : Hid (Below w.heap.size w (boxed (w4.alloc (.cells #[.int .u8 0, .int .i64 0, .int .i64 0, .int .i64 0, .int .i64 0, .int .i64 0, .bool false, .slice none 0 0, .int .i64 0, .int .i64 0, .int .i64 0, .int .i64 0, .int .i64 0, .int .u8 0, .int .i64 0, .int .i64 0, .int .i64 0, .int .i64 0, .bool false, .slice none 0 0, .int .i64 0, .int .i64 0] 38)) w4.heap.size wd0.arr 38)) := boxed_below (HW4.out.alloc HW4.out.size _) HW4.out.size
  have hz5 : w4.heap.size < (boxed (w4.alloc (.cells #[.int .u8 0, .int .i64 0, .int .i64 0, .int .i64 0, .int .i64 0, .int .i64 0, .bool false, .slice none 0 0, .int .i64 0, .int .i64 0, .int .i64 0, .int .i64 0, .int .i64 0, .int .u8 0, .int .i64 0, .int .i64 0, .int .i64 0, .int .i64 0, .bool false, .slice none 0 0, .int .i64 0, .int .i64 0] 38)) w4.heap.size wd0.arr 38).heap.size := by simp
  have HREL5 : Hid (Rel ps 0 w4.heap.size (w4.heap.size + 1) (boxed (w4.alloc (.cells #[.int .u8 0, .int .i64 0, .int .i64 0, .int .i64 0, .int .i64 0, .int .i64 0, .bool false, .slice none 0 0, .int .i64 0, .int .i64 0, .int .i64 0, .int .i64 0, .int .i64 0, .int .u8 0, .int .i64 0, .int .i64 0, .int .i64 0, .int .i64 0, .bool false, .slice none 0 0, .int .i64 0, .int .i64 0] 38)) w4.heap.size wd0.arr 38) wd0) := HREL1.out
  obtain ⟨W5, hW5⟩ : ∃ W5, boxed (w4.alloc (.cells #[.int .u8 0, .int .i64 0, .int .i64 0, .int .i64 0, .int .i64 0, .int .i64 0, .bool false, .slice none 0 0, .int .i64 0, .int .i64 0, .int .i64 0, .int .i64 0, .int .i64 0, .int .u8 0, .int .i64 0, .int .i64 0, .int .i64 0, .int .i64 0, .bool false, .slice none 0 0, .int .i64 0, .int .i64 0] 38)) w4.heap.size wd0.arr 38 = W5 := ⟨_, rfl⟩
  rw [hW5] at p5 q5 HW5 hz5 HREL5 ⊢
  obtain ⟨D, hD⟩ : ∃ D, w4.heap.size = D := ⟨_, rfl⟩
  rw [hD] at q5 hz5 HREL5 hT4 hD0 ⊢
  have HP5 := Lib.hid p5
  have HD5 := Lib.hid q5
  clear hW5 hD p4 HW4 HREL1 hone p5 q5 w4
  go_wp2_with fail
  go_loopw [11, 12] (fun ok i wq => ∃ (j : Nat) (wd : Wd), j ≤ n ∧ ok = .bool true ∧ i = .int .i64 j ∧ Hid (Below w.heap.size w wq) ∧ Hid (wq.heap[T]? = some (.cells (Tw.arr ps) 27 (0, 0))) ∧ Hid (wq.heap[D]? = some (.cells wd.arr 38 (0, 0))) ∧ Hid (Rel ps j D (D + 1) wq wd)) (fun _ i _ => n - (intOf i).toNat)
  case atStart => exact ⟨0, wd0, by omega, rfl, rfl, HW5, HP5, HD5, HREL5⟩
  case round =>
    clear HW5 HP5 HD5 HREL5
    obtain ⟨j, wd, hj, rfl, rfl, HW, HP, HD, HREL⟩ := hrel
    by_cases hlt : j < n
    case pos =>
      have dlt : decide ((j : Int) < (n : Int)) = true := by simp; omega
      have hln := HN.out
      obtain ⟨⟨K, A, C⟩, hact⟩ : ∃ p, l[j]? = some p := ⟨_, List.getElem?_eq_getElem (by omega)⟩
      obtain ⟨ab, ao, hA3, hab, hrd⟩ := HRD.out j _ hact
      subst hA3
      obtain ⟨⟨hk0, hk1⟩, ⟨hq0, hq1⟩, ⟨hc0, hc1⟩⟩ := HWF.out _ (List.mem_of_getElem? hact)
      dsimp only at hk0 hk1 hq0 hq1 hc0 hc1
      have hrd2 : wr.rangeAt ab (ao + j * 3) (Ac3.cs ⟨K, A, C⟩) := fun i v hv => (World.cell?_of_block (a := ⟨ab, ao + j * 3 + i, none⟩) (HW.out.block _ hab)).trans (hrd i v hv)
      have hpt := HP.out
      have hpd := HD.out
      have HY : Hid ((fun w' : World => w'.heap[T]? = some (.cells (Tw.arr ps) 27 (0, 0)) ∧ w'.heap[D]? = some (.cells wd.arr 38 (0, 0)) ∧ w'.rangeAt ab (ao + j * 3) (Ac3.cs ⟨K, A, C⟩)) wr.drew) := ⟨hpt, hpd, hrd2⟩
      have HRD2 := Lib.hid hrd2
      have hjI : (j : Int) < (n : Int) := by omega
      have hjJ : (0 : Int) ≤ (j : Int) := by omega
      have hzr : D < wr.heap.size := (Array.getElem?_eq_some_iff.1 hpd).1
      clear hact hrd hrd2
      go_upto_region 10 with fail
      refine laneU_start (ord := [0, 1, 2, 3, 4, 5, 6, 7, 8, 9, 10, 11]) (t := 10) (S := (fun w' : World => w'.heap[T]? = some (.cells (Tw.arr ps) 27 (0, 0)) ∧ w'.heap[D]? = some (.cells wd.arr 38 (0, 0)) ∧ w'.rangeAt ab (ao + j * 3) (Ac3.cs ⟨K, A, C⟩))) (S2 := fun _ => True) rfl (by kernel_rfl) ?_
      refine laneU_take (v := .agg wd.arr) rfl (by kernel_rfl) (by kernel_rfl) (by rfl) (fun W hSw => exec_load rfl rfl (by
        have h9 := run_loadAt_mid (P := Try.prog) W (D) (0) 38 _ _ (Wd.range_all hSw.2.1) Try.underlying38 rfl (Wd.info_all (b := wd))
        rw [Array.toArray_toList] at h9
        exact h9)) (by exact HY.out) ?_
      simp only [Act.put, List.setIfInBounds_toArray, List.set_cons_zero, List.set_cons_succ]
      refine laneU_take (v := .agg (Tw.arr ps)) rfl (by kernel_rfl) (by kernel_rfl) (by rfl) (fun W hSw => exec_load rfl rfl (by
        have h9 := run_loadAt_mid (P := Try.prog) W (T) (0) 27 _ _ (Tw.range_all hSw.1) Try.underlying27 rfl Tw.info_all
        rw [Array.toArray_toList] at h9
        exact h9)) (by exact HY.out) ?_
      simp only [Act.put, List.setIfInBounds_toArray, List.set_cons_zero, List.set_cons_succ]
      iterate 3 (refine laneU_take (v := ?_) rfl (by kernel_rfl) (by kernel_rfl) (by rfl) ?_ (by exact HY.out) ?_; rotate_left; (focus (intro W hSw; go_simp; try (with_reducible rfl))); simp only [Act.put, List.setIfInBounds_toArray, List.set_cons_zero, List.set_cons_succ])
      refine laneU_take (v := .agg #[.int .u8 K, .int .u8 A, .int .u8 C]) rfl (by kernel_rfl) (by kernel_rfl) (by rfl) (fun W hSw => exec_load rfl rfl (by
        have h9 := run_loadAt_mid (P := Try.prog) W ab (ao + j * 3) 43 _ _ hSw.2.2 Try.underlying43 rfl info3a
        exact h9)) (by exact HY.out) ?_
      simp only [Act.put, List.setIfInBounds_toArray, List.set_cons_zero, List.set_cons_succ]
      refine laneU_alone rfl (by kernel_rfl) (by rfl) (fun KK hK => ?_)
      go_simp
      refine (rel_any (w := wr.drew) HPS.out HREL.out.drewn hk0 hq0 hq1 hc0 (by omega)).mono ?_
      rintro e w8 ⟨wd', rfl, hrel8, hb8⟩
      have hb8 : Below wr.heap.size wr w8 := (Below.refl _ wr).drew.trans hb8
      have hpt8 : w8.heap[T]? = some (.cells (Tw.arr ps) 27 (0, 0)) := below_block hb8 hpt
      have hpd8 : w8.heap[D]? = some (.cells wd.arr 38 (0, 0)) := below_block hb8 hpd
      have hrd8 : w8.rangeAt ab (ao + j * 3) (Ac3.cs ⟨K, A, C⟩) := fun i v hv => (World.cell?_of_block (a := ⟨ab, ao + j * 3 + i, none⟩) (hb8.block ab (by have := HW.out.size; omega))).trans (HRD2.out i v hv)
      have HW8 : Hid (Below w.heap.size w w8) := HW.out.trans (hb8.mono HW.out.size)
      have HREL8 := Lib.hid hrel8
      have HY8 : Hid ((fun w' : World => w'.heap[T]? = some (.cells (Tw.arr ps) 27 (0, 0)) ∧ w'.heap[D]? = some (.cells wd.arr 38 (0, 0)) ∧ w'.rangeAt ab (ao + j * 3) (Ac3.cs ⟨K, A, C⟩)) w8) := ⟨hpt8, hpd8, hrd8⟩
      have hz8 : wr.heap.size ≤ w8.heap.size := hb8.size
      refine hK _ _ HY8.out ?_
      clear hK KK HY hb8 hrel8
      iterate 2 (refine laneU_take (v := ?_) rfl (by kernel_rfl) (by kernel_rfl) (by rfl) ?_ (by exact HY8.out) ?_; rotate_left; (focus (intro W hSw; go_simp; try (with_reducible rfl))); simp only [Act.put, List.setIfInBounds_toArray, List.set_cons_zero, List.set_cons_succ])
      refine laneU_pair (i := 9) (ord1 := [10, 11]) (ord2 := [9, 11]) rfl rfl (by kernel_rfl) rfl (by rfl) (by rfl) (fun KK hK => ?_) (fun KK hK => ?_)
      · go_simp
        refine hK _ _ HY8.out ?_
        clear hK KK
        refine laneU_last rfl (by kernel_rfl) (by rfl) (fun KK hK => ?_)
        refine wp_store_row 38 _ _ rfl D wd'.arr rfl rfl 38 _ hpd8 (by rw [Wd.arr_size]; exact Wd.info) (by rw [Wd.arr_size, Wd.arr_size]) (Wd.arr_one HREL8.out.va HREL8.out.vs) ?_
        rw [row_boxed hpd8]
        refine hK _ _ trivial (fun _ => ?_)
        clear hK KK
        refine lane_alone rfl (by kernel_rfl) (by rfl) (fun KK hK => ?_)
        go_simp
        refine hK _ _ trivial (fun _ => ?_)
        clear hK KK
        refine lane_end (by kernel_rfl) ?_
        go_wp2_with fail
        go_roundw
        case rel => exact ⟨j + 1, wd', by omega, rfl, by go_num, boxed_below HW8.out (by have := HREL8.out.lo_le; have := HW8.out.size; omega), boxed_old (by omega) hpt8, boxed_at (by omega), HREL8.out.boxed⟩
        case measure => simp [intOf]; omega
      · refine wp_store_row 38 _ _ rfl D wd'.arr rfl rfl 38 _ hpd8 (by rw [Wd.arr_size]; exact Wd.info) (by rw [Wd.arr_size, Wd.arr_size]) (Wd.arr_one HREL8.out.va HREL8.out.vs) ?_
        rw [row_boxed hpd8]
        refine hK _ _ trivial (fun _ => ?_)
        clear hK KK
        refine lane_alone rfl (by kernel_rfl) (by rfl) (fun KK hK => ?_)
        go_simp
        refine hK _ _ trivial (fun _ => ?_)
        clear hK KK
        refine lane_alone rfl (by kernel_rfl) (by rfl) (fun KK hK => ?_)
        go_simp
        refine hK _ _ trivial (fun _ => ?_)
        clear hK KK
        refine lane_end (by kernel_rfl) ?_
        go_wp2_with fail
        go_roundw
        case rel => exact ⟨j + 1, wd', by omega, rfl, by go_num, boxed_below HW8.out (by have := HREL8.out.lo_le; have := HW8.out.size; omega), boxed_old (by omega) hpt8, boxed_at (by omega), HREL8.out.boxed⟩
        case measure => simp [intOf]; omega
    case neg =>
      obtain rfl : j = n := by omega
      have dlt : decide ((j : Int) < (j : Int)) = false := by simp
      go_wp2_with fail
      go_ret
      exact ⟨rfl, HW.out⟩
end Go.Proofs.Ytnbfkdcpghkglaa
