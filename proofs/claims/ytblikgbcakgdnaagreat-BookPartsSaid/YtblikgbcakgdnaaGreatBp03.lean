/-
  A cycle by its fields: how it begins, what it asks, what becomes of it; and the contracts of what package cycle calls within. No conditions but those that each law names.
-/
import Derived.Lib.Hide
import Derived.WalkKit
import Derived.OrdersHeld
import Derived.Deep.RegionHeld3
import Derived.Test.YtblikgbcakgdnaaGreatBp02
set_option linter.unusedSimpArgs false
set_option linter.unusedVariables false
namespace Go.Proofs.YtblikgbcakgdnaaGreat
set_option maxRecDepth 20000
open Go.ChangeShapes Go.WideShapes Go.ChangeAt Go.RowKit

theorem info8 : (Tryz.prog.info? 112).map (·.size) = some 8 := by kernel_rfl
theorem info8r : (Tryz.prog.info? 90).map (·.size) = some 8 := by kernel_rfl
def Nv.arr (n : Nv) : Array Value := #[.int .u8 n.k, .int .i64 n.s, .int .i64 n.c, .int .i64 n.t, .int .i64 n.a, .int .u8 n.v]
theorem Nv.arr_one (n : Nv) : n.arr.all (·.oneCell') = true := by cases n; simp [Nv.arr, Value.oneCell']
/-- A cycle, by its fields: its number, its day, its phase, its amount, its credit, its try, its next day; is something sent? -/
structure Cv where
  n : Int
  d : Int
  p : Int
  a : Int
  u : Int
  t : Int
  x : Int
  g : Bool
instance cvEq (x y : Cv) : Decidable (x = y) := decidable_of_iff (x.n = y.n ∧ x.d = y.d ∧ x.p = y.p ∧ x.a = y.a ∧ x.u = y.u ∧ x.t = y.t ∧ x.x = y.x ∧ x.g = y.g) (by cases x; cases y; simp)
def Cv.arr (c : Cv) : Array Value := #[.int .i64 c.n, .int .i64 c.d, .int .u8 c.p, .int .i64 c.a, .int .i64 c.u, .int .i64 c.t, .int .i64 c.x, .bool c.g]
theorem Cv.arr_one (c : Cv) : c.arr.all (·.oneCell') = true := by cases c; simp [Cv.arr, Value.oneCell']
def Cv.val (c : Cv) : Value := .agg c.arr
def Cv.to (c : Cv) (p : Int) : Cv := { c with p := p }
namespace Cy
def paid (g : Bool) : Int := if g then 3 else 7
def begin_ (n d a u : Int) (g : Bool) : Cv := if a = 0 then ⟨n, d, paid g, a, u, 0, 0, g⟩ else ⟨n, d, 1, a, u, 1, 0, g⟩
def delay (t : Int) : Int := if t = 1 then 1 else if t = 2 then 3 else 7
def kind (p : Int) : Int := if p = 1 then 1 else if p = 3 then 3 else if p = 4 then 5 else if p = 5 then 4 else if p = 6 then 2 else 0
end Cy
def Cv.back (c : Cv) : Cv := if c.a = 0 then c.to 9 else c.to 6
def Cv.charged (c : Cv) (v today : Int) (o : Bool) : Cv :=
  if v = 1 then (if o then c.back else c.to (Cy.paid c.g)) else if v = 2 ∧ o = false ∧ c.t < 4 then { c with p := 2, x := today + Cy.delay c.t } else c.to 8
def Cv.allocated (c : Cv) (v : Int) (o : Bool) : Cv := if v = 1 then (if o then c.to 5 else c.to 4) else c.back
def Cv.shipped (c : Cv) (v : Int) : Cv := if v = 1 then c.to 7 else c.to 5
/-- What a cycle asks. -/
def Cv.ask (s : Int) (c : Cv) : Nv := if Cy.kind c.p = 0 then Nv.zero else ⟨Cy.kind c.p, s, c.n, if c.p = 1 then c.t else 0, if c.p = 1 ∨ c.p = 6 then c.a else 0, 0⟩
/-- Is it the answer to what it asks? -/
def Cv.Heard (s : Int) (c : Cv) (m : Nv) : Prop := Cy.kind c.p ≠ 0 ∧ m.v ≠ 0 ∧ ({ m with v := 0 } : Nv) = c.ask s
instance Cv.heardDec (s : Int) (c : Cv) (m : Nv) : Decidable (c.Heard s m) := by unfold Cv.Heard; infer_instance
/-- What becomes of it. -/
def Cv.next (c : Cv) (v today : Int) (o : Bool) : Cv := if c.p = 1 then c.charged v today o else if c.p = 3 then c.allocated v o else if c.p = 4 then c.shipped v else if c.p = 5 then c.back else c.to 9
def Cv.hear (s : Int) (c : Cv) (m : Nv) (today : Int) (o : Bool) : Cv := if c.Heard s m then c.next m.v today o else c
def Cv.card (c : Cv) : Cv := if c.p = 2 then { c with p := 1, x := 0, t := c.t + 1 } else c
def Cv.over (c : Cv) : Cv := if c.p = 2 then { c with p := 8, x := 0 } else c
def Cv.wake (c : Cv) (today : Int) : Cv := if today < c.x then c else c.card

set_option maxHeartbeats 400000 in
theorem paid_any (g : Bool) (w : World) : Calls Tryz.prog 125 #[.bool g] w fun e w' => e = .returned (.int .u8 (Cy.paid g)) ∧ w = w' := by
  cases g
  all_goals
    go_enter Tryz.func125, Tryz.ntmps125
    go_wp2
    go_ret
    exact ⟨rfl, rfl⟩
set_option maxHeartbeats 400000 in
theorem cyended_any (n d p a u t x : Int) (g : Bool) (w : World) : Calls Tryz.prog 123 #[.agg #[.int .i64 n, .int .i64 d, .int .u8 p, .int .i64 a, .int .i64 u, .int .i64 t, .int .i64 x, .bool g]] w fun e w' => e = .returned (.bool (decide (7 ≤ p))) ∧ Below w.heap.size w w' := by
  go_enter Tryz.func123, Tryz.ntmps123
  go_wp2
  go_ret
  exact ⟨by simp, by go_grown⟩
set_option maxHeartbeats 400000 in
theorem refended_any (p : Int) (w : World) : Calls Tryz.prog 33 #[.int .u8 p] w fun e w' => e = .returned (.bool (decide (7 ≤ p))) ∧ w = w' := by
  go_enter Tryz.func33, Tryz.ntmps33
  go_wp2
  go_ret
  exact ⟨by simp, rfl⟩
/-- How it begins. -/
theorem cbegin_yes {n d a u : Int} {g : Bool} (h : a = 0) : Cy.begin_ n d a u g = ⟨n, d, Cy.paid g, a, u, 0, 0, g⟩ := if_pos h
theorem cbegin_no {n d a u : Int} {g : Bool} (h : a ≠ 0) : Cy.begin_ n d a u g = ⟨n, d, 1, a, u, 1, 0, g⟩ := if_neg h
set_option maxHeartbeats 400000 in
theorem cybegin_any (n d a u : Int) (g : Bool) (w : World) : Calls Tryz.prog 111 #[.int .i64 n, .int .i64 d, .int .i64 a, .int .i64 u, .bool g] w fun e w' => e = .returned (Cy.begin_ n d a u g).val ∧ Below w.heap.size w w' := by
  by_cases h : a = 0
  · have h1 : (a == 0) = true := by simpa using h
    rw [cbegin_yes h]
    clear h
    cases g
    all_goals
      go_enter Tryz.func111, Tryz.ntmps111
      go_wp2_with (go_at_call 125; refine (paid_any _ _).mono ?_; rintro e w' ⟨rfl, rfl⟩)
      first
        | (refine bodyPost_ret (v := .agg #[.int .i64 n, .int .i64 d, .int .u8 3, .int .i64 a, .int .i64 u, .int .i64 0, .int .i64 0, .bool true]) ?_ rfl ⟨rfl, by go_grown⟩; (simp [results, Tryz.results111, go_sem, Cy.paid]; done))
        | (refine bodyPost_ret (v := .agg #[.int .i64 n, .int .i64 d, .int .u8 7, .int .i64 a, .int .i64 u, .int .i64 0, .int .i64 0, .bool false]) ?_ rfl ⟨rfl, by go_grown⟩; simp [results, Tryz.results111, go_sem, Cy.paid])
  · have h1 : (a == 0) = false := by simpa using h
    rw [cbegin_no h]
    clear h
    go_enter Tryz.func111, Tryz.ntmps111
    go_wp2
    refine bodyPost_ret (v := .agg #[.int .i64 n, .int .i64 d, .int .u8 1, .int .i64 a, .int .i64 u, .int .i64 1, .int .i64 0, .bool g]) ?_ rfl ⟨rfl, by go_grown⟩
    simp [results, Tryz.results111, go_sem]
set_option maxHeartbeats 400000 in
theorem refbegin_any (n d a u : Int) (g : Bool) (w : World) (ha : 0 ≤ a) : Calls Tryz.prog 68 #[.int .i64 n, .int .i64 d, .int .i64 a, .int .i64 u, .bool g] w fun e w' => e = .returned (Cy.begin_ n d a u g).val ∧ Below w.heap.size w w' := by
  by_cases h : a = 0
  · have h1 : decide (a > 0) = false := by simp; omega
    have h2 : decide (0 < a) = false := by simp; omega
    rw [cbegin_yes h]
    clear h ha
    cases g
    all_goals
      go_enter Tryz.func68, Tryz.ntmps68
      go_wp2
      first
        | (refine bodyPost_ret (v := .agg #[.int .i64 n, .int .i64 d, .int .u8 3, .int .i64 a, .int .i64 u, .int .i64 0, .int .i64 0, .bool true]) ?_ rfl ⟨rfl, by go_grown⟩; (simp [results, Tryz.results68, go_sem]; done))
        | (refine bodyPost_ret (v := .agg #[.int .i64 n, .int .i64 d, .int .u8 7, .int .i64 a, .int .i64 u, .int .i64 0, .int .i64 0, .bool false]) ?_ rfl ⟨rfl, by go_grown⟩; simp [results, Tryz.results68, go_sem])
  · have h1 : decide (a > 0) = true := by simp; omega
    have h2 : decide (0 < a) = true := by simp; omega
    rw [cbegin_no h]
    clear h ha
    go_enter Tryz.func68, Tryz.ntmps68
    go_wp2
    refine bodyPost_ret (v := .agg #[.int .i64 n, .int .i64 d, .int .u8 1, .int .i64 a, .int .i64 u, .int .i64 1, .int .i64 0, .bool g]) ?_ rfl ⟨rfl, by go_grown⟩
    simp [results, Tryz.results68, go_sem]
set_option maxHeartbeats 400000 in
theorem cypass_any (n d : Int) (w : World) : Calls Tryz.prog 109 #[.int .i64 n, .int .i64 d] w fun e w' => e = .returned (.agg #[.int .i64 n, .int .i64 d, .int .u8 10, .int .i64 0, .int .i64 0, .int .i64 0, .int .i64 0, .bool false]) ∧ Below w.heap.size w w' := by
  go_enter Tryz.func109, Tryz.ntmps109
  go_wp2
  refine bodyPost_ret (v := .agg #[.int .i64 n, .int .i64 d, .int .u8 10, .int .i64 0, .int .i64 0, .int .i64 0, .int .i64 0, .bool false]) ?_ rfl ⟨rfl, by go_grown⟩
  simp [results, Tryz.results109, go_sem]
/-- Another card, the end, another day. -/
theorem card_yes {n d a u t x : Int} {g : Bool} : Cv.card ⟨n, d, 2, a, u, t, x, g⟩ = ⟨n, d, 1, a, u, t + 1, 0, g⟩ := rfl
theorem card_no {n d p a u t x : Int} {g : Bool} (h : p ≠ 2) : Cv.card ⟨n, d, p, a, u, t, x, g⟩ = ⟨n, d, p, a, u, t, x, g⟩ := if_neg h
set_option maxHeartbeats 400000 in
theorem cycard_any (n d p a u t x : Int) (g : Bool) (w : World) (h0 : -9223372036854775808 ≤ t) (h1 : t < 9223372036854775807) : Calls Tryz.prog 97 #[.agg #[.int .i64 n, .int .i64 d, .int .u8 p, .int .i64 a, .int .i64 u, .int .i64 t, .int .i64 x, .bool g]] w fun e w' => e = .returned (Cv.card ⟨n, d, p, a, u, t, x, g⟩).val ∧ Below w.heap.size w w' := by
  by_cases h : p = 2
  · subst h
    rw [card_yes]
    have e1 : wrap64 (t + 1) = t + 1 := by unfold wrap64; omega
    have E1 := Lib.hid e1
    clear e1
    go_enter Tryz.func97, Tryz.ntmps97
    go_wp2
    refine bodyPost_ret (v := .agg #[.int .i64 n, .int .i64 d, .int .u8 1, .int .i64 a, .int .i64 u, .int .i64 (t + 1), .int .i64 0, .bool g]) ?_ rfl ⟨rfl, by go_grown⟩
    simp [results, Tryz.results97, go_sem]
  · have h2 : (p == 2) = false := by simpa using h
    have h3 : (p != 2) = true := by simpa using h
    rw [card_no h]
    clear h
    go_enter Tryz.func97, Tryz.ntmps97
    go_wp2
    refine bodyPost_ret (v := .agg #[.int .i64 n, .int .i64 d, .int .u8 p, .int .i64 a, .int .i64 u, .int .i64 t, .int .i64 x, .bool g]) ?_ rfl ⟨rfl, by go_grown⟩
    simp [results, Tryz.results97, go_sem]
set_option maxHeartbeats 400000 in
theorem cywake_any (n d p a u t x : Int) (g : Bool) (y : Int) (w : World) (h0 : -9223372036854775808 ≤ t) (h1 : t < 9223372036854775807) : Calls Tryz.prog 87 #[.agg #[.int .i64 n, .int .i64 d, .int .u8 p, .int .i64 a, .int .i64 u, .int .i64 t, .int .i64 x, .bool g], .int .i64 y] w fun e w' => e = .returned (Cv.wake ⟨n, d, p, a, u, t, x, g⟩ y).val ∧ Below w.heap.size w w' := by
  by_cases h : y < x
  · rw [show Cv.wake ⟨n, d, p, a, u, t, x, g⟩ y = ⟨n, d, p, a, u, t, x, g⟩ from if_pos h]
    go_enter Tryz.func87, Tryz.ntmps87
    go_wp2
    refine bodyPost_ret (v := .agg #[.int .i64 n, .int .i64 d, .int .u8 p, .int .i64 a, .int .i64 u, .int .i64 t, .int .i64 x, .bool g]) ?_ rfl ⟨rfl, by go_grown⟩
    simp [results, Tryz.results87, go_sem]
  · rw [show Cv.wake ⟨n, d, p, a, u, t, x, g⟩ y = Cv.card ⟨n, d, p, a, u, t, x, g⟩ from if_neg h]
    have h2 : decide (y < x) = false := by simpa using h
    have H0 := Lib.hid h0
    have H1 := Lib.hid h1
    obtain ⟨c, hc⟩ : ∃ c, Cv.card ⟨n, d, p, a, u, t, x, g⟩ = c := ⟨_, rfl⟩
    rw [hc]
    have HC := Lib.hid hc
    clear h hc h0 h1
    obtain ⟨n', d', p', a', u', t', x', g'⟩ := c
    go_enter Tryz.func87, Tryz.ntmps87
    go_wp2_with (fail)
    refine (cycard_any _ _ _ _ _ _ _ _ _ H0.out H1.out).mono ?_
    rw [HC.out]
    dsimp only [Cv.val, Cv.arr]
    rintro e w1 ⟨rfl, hb⟩
    obtain ⟨hw, z0, z1, e1⟩ := two_of hb
    rw [e1]
    have HW := Lib.hid hw
    clear e1 hb hw
    go_wp2
    refine bodyPost_ret (v := .agg #[.int .i64 n', .int .i64 d', .int .u8 p', .int .i64 a', .int .i64 u', .int .i64 t', .int .i64 x', .bool g']) ?_ rfl ⟨rfl, boxed_below (boxed_below HW.out (Nat.le_refl _)) (by omega)⟩
    simp [results, Tryz.results87, go_sem, z1]
end Go.Proofs.YtblikgbcakgdnaaGreat
/-
  A region that draws its order, walked in one order that is named ('ord'), where calls come up alone: between them each operation yields one value in every world of a class S (or its guard is false, and it is skipped); at a call no other operation may come up, and behind it S is shown anew. No conditions but those that each law names.
-/
namespace Go.Proofs.YtblikgbcakgdnaaGreat
open Go.RowKit

section
variable {P : Program} {l : List Oper} {S : World → Prop} {Q : Exit → Act → World → Prop}

/-- Which operations have come up: those of 'done'. -/
def cameUp (l : List Oper) (done : List Nat) : Array Bool := done.foldr (fun i b => b.setIfInBounds i true) (Array.replicate l.toArray.size false)

/-- The walk from here on: 'done' have come up, 'ord' are left, in this order. -/
def Lane (P : Program) (l : List Oper) (S : World → Prop) (Q : Exit → Act → World → Prop) (done ord : List Nat) (a : Act) (w : World) : Prop :=
  wpAnyH P .any l.toArray Q S ord.length (cameUp l done) a w

def laneFree (l : List Oper) (done : List Nat) (i : Nat) : Bool := Region.free .any l.toArray (cameUp l done) i && (Region.ready .any l.toArray (cameUp l done)).contains i
def laneAlone (l : List Oper) (done : List Nat) (i : Nat) : Bool := Region.ready .any l.toArray (cameUp l done) == [i]

/-- The beginning. -/
theorem lane_start {id : Nat} {a : Act} {w : World} (ord : List Nat) (hlen : ord.length = l.length) (hm : P.follows .mixedOrders = true) (hS : S w.drew) (h : S w.drew → Lane P l S (NoPanic Q) [] ord a w.drew) : (Code.region id l.toArray true).wp P Q a w :=
  wp_region_noPanic (wp_region_held_drew hm hS fun hS' => by
    have := h hS'
    unfold Lane at this
    rw [hlen] at this
    simpa [cameUp] using this)
/-- The end. -/
theorem lane_end {done : List Nat} {a : Act} {w : World} (hr : (Region.ready .any l.toArray (cameUp l done)).isEmpty = true) (h : Q .normal a w) : Lane P l S (NoPanic Q) done [] a w :=
  wpAnyH_done (by simpa using hr) (NoPanic.normal h) _
/-- An operation whose guard is false. -/
theorem lane_skip {i : Nat} {o : Oper} {done ord : List Nat} {a : Act} {w : World} (ho : l[i]? = some o) (hf : laneFree l done i = true) (hs : Region.noSelect l.toArray = true) (hw : Region.wanted o (yielded l.toArray a.tmps) = false) (hS : S w)
    (h : Lane P l S (NoPanic Q) (i :: done) ord (a.put o.dst undef) w) : Lane P l S (NoPanic Q) done (i :: ord) a w := by
  unfold laneFree at hf
  rw [Bool.and_eq_true] at hf
  exact wpAnyH_take (by simpa using ho) hs hf.1 hf.2 (fun _ _ _ h => h) (.inr ⟨hw, rfl⟩) hS h
/-- An operation that yields one value in every world of the class. -/
theorem lane_take {i : Nat} {o : Oper} {done ord : List Nat} {a : Act} {w : World} {v : Value} (ho : l[i]? = some o) (hf : laneFree l done i = true) (hs : Region.noSelect l.toArray = true) (hw : Region.wanted o (yielded l.toArray a.tmps) = true)
    (hv : ∀ w, S w → (execOp a.eval o).run P w = .ok (.value v) w) (hS : S w)
    (h : Lane P l S (NoPanic Q) (i :: done) ord (a.put o.dst v) w) : Lane P l S (NoPanic Q) done (i :: ord) a w := by
  unfold laneFree at hf
  rw [Bool.and_eq_true] at hf
  exact wpAnyH_take (by simpa using ho) hs hf.1 hf.2 (fun _ _ _ h => h) (.inl ⟨hw, hv⟩) hS h
/-- An operation that comes up alone: whatever it does; behind it S is shown anew. -/
theorem lane_alone {i : Nat} {o : Oper} {done ord : List Nat} {a : Act} {w : World} (ho : l[i]? = some o) (hr : laneAlone l done i = true) (hw : Region.wanted o (yielded l.toArray a.tmps) = true)
    (h : ∀ K : Act → World → Prop, (∀ a' w', S w' → (S w' → Lane P l S (NoPanic Q) (i :: done) ord a' w') → K a' w') → o.wp P a w K (NoPanic Q)) : Lane P l S (NoPanic Q) done (i :: ord) a w := by
  unfold laneAlone at hr
  refine wpAnyH_all (rs := [i]) (by simpa using hr) (by simp) fun j hj => ?_
  obtain rfl : j = i := by simpa using hj
  unfold wpOp
  have h2 : l.toArray[j]? = some o := by simpa using ho
  simp only [h2, hw, if_true]
  exact .inl (h _ fun a' w' hS hn => ⟨hS, hn hS⟩)
theorem held_mono {md : Region.Mode} {ops : Array Oper} {S' : World → Prop} (hS : ∀ w, S' w → S w) : ∀ (fuel : Nat) (listed : Array Bool) (a : Act) (w : World), wpAnyH P md ops Q S' fuel listed a w → wpAnyH P md ops Q S fuel listed a w
  | 0, _, _, _, h => h
  | fuel + 1, _, _, _, h => ⟨h.1, fun i hi => wpOp_mono (fun a' w' h' => ⟨hS _ h'.1, held_mono hS fuel _ a' w' h'.2⟩) (h.2 i hi)⟩
/-- From here on a narrower class: for what has come up meanwhile. -/
theorem lane_into {S' : World → Prop} {done ord : List Nat} {a : Act} {w : World} (hS : ∀ w, S' w → S w) (hw : S' w) (h : S' w → Lane P l S' (NoPanic Q) done ord a w) : Lane P l S (NoPanic Q) done ord a w :=
  held_mono hS _ _ _ _ (h hw)
/-- Two operations may come up: each is walked. -/
theorem lane_two {i j : Nat} {oi oj : Oper} {done ordI ordJ : List Nat} {a : Act} {w : World} (hoi : l[i]? = some oi) (hoj : l[j]? = some oj) (hr : (Region.ready .any l.toArray (cameUp l done) == [i, j]) = true) (hlen : ordI.length = ordJ.length)
    (hwi : Region.wanted oi (yielded l.toArray a.tmps) = true) (hwj : Region.wanted oj (yielded l.toArray a.tmps) = true)
    (hi : ∀ K : Act → World → Prop, (∀ a' w', S w' → (S w' → Lane P l S (NoPanic Q) (i :: done) ordI a' w') → K a' w') → oi.wp P a w K (NoPanic Q))
    (hj : ∀ K : Act → World → Prop, (∀ a' w', S w' → (S w' → Lane P l S (NoPanic Q) (j :: done) ordJ a' w') → K a' w') → oj.wp P a w K (NoPanic Q)) : Lane P l S (NoPanic Q) done (i :: ordI) a w := by
  refine wpAnyH_all (rs := [i, j]) (by simpa using hr) (by simp) fun k hk => ?_
  unfold wpOp
  rcases List.mem_cons.1 hk with rfl | hk
  · have h2 : l.toArray[k]? = some oi := by simpa using hoi
    simp only [h2, hwi, if_true]
    exact .inl (hi _ fun a' w' hS hn => ⟨hS, hn hS⟩)
  · obtain rfl : k = j := by simpa using hk
    have h2 : l.toArray[k]? = some oj := by simpa using hoj
    simp only [h2, hwj, if_true]
    refine .inl (hj _ fun a' w' hS hn => ⟨hS, ?_⟩)
    have := hn hS
    unfold Lane at this
    rw [← hlen] at this
    exact this
/-- An operation by its run: it yields a value, or none. -/
theorem wp_of_value {o : Oper} {a : Act} {w w' : World} {K : Act → World → Prop} {v : Value} (hr : (execOp a.eval o).run P w = .ok (.value v) w') (h : K (a.put o.dst v) w') : o.wp P a w K Q := by
  unfold Oper.wp; rw [hr]; exact h
theorem exec_load {o : Oper} {a : Act} {w : World} {t : TypeId} {x : Operand} {xv v : Value} (ho : o.op = .load t x) (hx : a.eval x = xv) (hr : (Instr.loadAt t xv).run P w = .ok v w) : (execOp a.eval o).run P w = .ok (.value v) w := by
  unfold execOp; simp only [ho, hx, Sem.run_bind, hr, Result.andThen_ok, Sem.run_pure]
theorem exec_append {o : Oper} {a : Act} {w w' : World} {t u : TypeId} {s x : Operand} {sv xv v : Value} (ho : o.op = .call { callee := .builtin .append, args := #[s, x], argTypes := #[t, u] }) (hs : a.eval s = sv) (hx : a.eval x = xv) (hr : (Builtin.append_ #[t, u] o.type #[sv, xv]).run P w = .ok v w') : (execOp a.eval o).run P w = .ok (.value v) w' := by
  unfold execOp; simp only [ho, resolve, invoke, builtin, Sem.run_bind, Sem.run_pure, Result.andThen_ok, List.map_toArray, List.map_cons, List.map_nil, hs, hx, hr]
end
end Go.Proofs.YtblikgbcakgdnaaGreat
