/-
  A cycle by its fields: how it begins, what it asks, what becomes of it; and the contracts of what package cycle calls within. No conditions but those that each law names.
-/
import Derived.Lib.Hide
import Derived.Test.YtkdajjbhmmgbkaaBa02
set_option linter.unusedSimpArgs false
set_option linter.unusedVariables false
namespace Go.Proofs.Ytkdajjbhmmgbkaa
set_option maxRecDepth 20000
open Go.ChangeShapes Go.WideShapes Go.ChangeAt Go.RowKit

theorem info8 : (Try.prog.info? 46).map (·.size) = some 8 := by kernel_rfl
theorem info8r : (Try.prog.info? 69).map (·.size) = some 8 := by kernel_rfl
theorem info6 : (Try.prog.info? 59).map (·.size) = some 6 := by kernel_rfl
def Nv.arr (n : Nv) : Array Value := #[.int .u8 n.k, .int .i64 n.s, .int .i64 n.c, .int .i64 n.t, .int .i64 n.a, .int .u8 n.v]
theorem Nv.arr_one (n : Nv) : n.arr.all (·.oneCell') = true := by cases n; simp [Nv.arr, Value.oneCell']
/-- A cycle, by its fields: its number, its day, its phase, its amount, its credit, its try, its next day; is something sent? -/
structure Cv where
  n : Int
  d : Int
  p : Int
  a : Int
  u : Int
  t : Int
  x : Int
  g : Bool
instance cvEq (x y : Cv) : Decidable (x = y) := decidable_of_iff (x.n = y.n ∧ x.d = y.d ∧ x.p = y.p ∧ x.a = y.a ∧ x.u = y.u ∧ x.t = y.t ∧ x.x = y.x ∧ x.g = y.g) (by cases x; cases y; simp)
def Cv.arr (c : Cv) : Array Value := #[.int .i64 c.n, .int .i64 c.d, .int .u8 c.p, .int .i64 c.a, .int .i64 c.u, .int .i64 c.t, .int .i64 c.x, .bool c.g]
theorem Cv.arr_one (c : Cv) : c.arr.all (·.oneCell') = true := by cases c; simp [Cv.arr, Value.oneCell']
def Cv.val (c : Cv) : Value := .agg c.arr
def Cv.to (c : Cv) (p : Int) : Cv := { c with p := p }
namespace Cy
def paid (g : Bool) : Int := if g then 3 else 7
def begin_ (n d a u : Int) (g : Bool) : Cv := if a = 0 then ⟨n, d, paid g, a, u, 0, 0, g⟩ else ⟨n, d, 1, a, u, 1, 0, g⟩
def delay (t : Int) : Int := if t = 1 then 1 else if t = 2 then 3 else 7
def kind (p : Int) : Int := if p = 1 then 1 else if p = 3 then 3 else if p = 4 then 5 else if p = 5 then 4 else if p = 6 then 2 else 0
end Cy
def Cv.back (c : Cv) : Cv := if c.a = 0 then c.to 9 else c.to 6
def Cv.charged (c : Cv) (v today : Int) (o : Bool) : Cv :=
  if v = 1 then (if o then c.back else c.to (Cy.paid c.g)) else if v = 2 ∧ o = false ∧ c.t < 4 then { c with p := 2, x := today + Cy.delay c.t } else c.to 8
def Cv.allocated (c : Cv) (v : Int) (o : Bool) : Cv := if v = 1 then (if o then c.to 5 else c.to 4) else c.back
def Cv.shipped (c : Cv) (v : Int) : Cv := if v = 1 then c.to 7 else c.to 5
/-- What a cycle asks. -/
def Cv.ask (s : Int) (c : Cv) : Nv := if Cy.kind c.p = 0 then Nv.zero else ⟨Cy.kind c.p, s, c.n, if c.p = 1 then c.t else 0, if c.p = 1 ∨ c.p = 6 then c.a else 0, 0⟩
/-- Is it the answer to what it asks? -/
def Cv.Heard (s : Int) (c : Cv) (m : Nv) : Prop := Cy.kind c.p ≠ 0 ∧ m.v ≠ 0 ∧ ({ m with v := 0 } : Nv) = c.ask s
instance Cv.heardDec (s : Int) (c : Cv) (m : Nv) : Decidable (c.Heard s m) := by unfold Cv.Heard; infer_instance
/-- What becomes of it. -/
def Cv.next (c : Cv) (v today : Int) (o : Bool) : Cv := if c.p = 1 then c.charged v today o else if c.p = 3 then c.allocated v o else if c.p = 4 then c.shipped v else if c.p = 5 then c.back else c.to 9
def Cv.hear (s : Int) (c : Cv) (m : Nv) (today : Int) (o : Bool) : Cv := if c.Heard s m then c.next m.v today o else c
def Cv.card (c : Cv) : Cv := if c.p = 2 then { c with p := 1, x := 0, t := c.t + 1 } else c
def Cv.over (c : Cv) : Cv := if c.p = 2 then { c with p := 8, x := 0 } else c
def Cv.wake (c : Cv) (today : Int) : Cv := if today < c.x then c else c.card

set_option maxHeartbeats 400000 in
theorem paid_any (g : Bool) (w : World) : Calls Try.prog 100 #[.bool g] w fun e w' => e = .returned (.int .u8 (Cy.paid g)) ∧ w = w' := by
  cases g
  all_goals
    go_enter Try.func100, Try.ntmps100
    go_wp2
    go_ret
    exact ⟨rfl, rfl⟩
set_option maxHeartbeats 400000 in
theorem cyto_any (n d p a u t x : Int) (g : Bool) (q : Int) (w : World) : Calls Try.prog 90 #[.agg #[.int .i64 n, .int .i64 d, .int .u8 p, .int .i64 a, .int .i64 u, .int .i64 t, .int .i64 x, .bool g], .int .u8 q] w fun e w' => e = .returned (Cv.to ⟨n, d, p, a, u, t, x, g⟩ q).val ∧ Below w.heap.size w w' := by
  go_enter Try.func90, Try.ntmps90
  go_wp2
  refine bodyPost_ret (v := .agg #[.int .i64 n, .int .i64 d, .int .u8 q, .int .i64 a, .int .i64 u, .int .i64 t, .int .i64 x, .bool g]) ?_ rfl ⟨rfl, by go_grown⟩
  simp [results, Try.results90, go_sem]

theorem cyto_is (n d p a u t x : Int) (g : Bool) (q : Int) (w : World) : Calls Try.prog 90 #[.agg #[.int .i64 n, .int .i64 d, .int .u8 p, .int .i64 a, .int .i64 u, .int .i64 t, .int .i64 x, .bool g], .int .u8 q] w fun e w' => e = .returned (.agg #[.int .i64 n, .int .i64 d, .int .u8 q, .int .i64 a, .int .i64 u, .int .i64 t, .int .i64 x, .bool g]) ∧ Below w.heap.size w w' := cyto_any n d p a u t x g q w
set_option maxHeartbeats 400000 in
theorem cyback_any (n d p a u t x : Int) (g : Bool) (w : World) : Calls Try.prog 89 #[.agg #[.int .i64 n, .int .i64 d, .int .u8 p, .int .i64 a, .int .i64 u, .int .i64 t, .int .i64 x, .bool g]] w fun e w' => e = .returned (.agg #[.int .i64 n, .int .i64 d, .int .u8 (if a = 0 then 9 else 6), .int .i64 a, .int .i64 u, .int .i64 t, .int .i64 x, .bool g]) ∧ Below w.heap.size w w' := by
  by_cases h : a = 0
  · have h1 : (a == 0) = true := by simpa using h
    rw [if_pos h]
    clear h
    go_enter Try.func89, Try.ntmps89
    go_wp2_with (fail)
    refine (cyto_is _ _ _ _ _ _ _ _ _ _).mono ?_
    rintro e w1 ⟨rfl, hb⟩
    obtain ⟨hw, z0, z1, e1⟩ := two_of hb
    rw [e1]
    have HW := Lib.hid hw
    clear e1 hb hw
    go_wp2
    refine bodyPost_ret (v := .agg #[.int .i64 n, .int .i64 d, .int .u8 9, .int .i64 a, .int .i64 u, .int .i64 t, .int .i64 x, .bool g]) ?_ rfl ⟨rfl, boxed_below (boxed_below HW.out (Nat.le_refl _)) (by omega)⟩
    simp [results, Try.results89, go_sem, z1]
  · have h1 : (a == 0) = false := by simpa using h
    rw [if_neg h]
    clear h
    go_enter Try.func89, Try.ntmps89
    go_wp2_with (fail)
    refine (cyto_is _ _ _ _ _ _ _ _ _ _).mono ?_
    rintro e w1 ⟨rfl, hb⟩
    obtain ⟨hw, z0, z1, e1⟩ := two_of hb
    rw [e1]
    have HW := Lib.hid hw
    clear e1 hb hw
    go_wp2
    refine bodyPost_ret (v := .agg #[.int .i64 n, .int .i64 d, .int .u8 6, .int .i64 a, .int .i64 u, .int .i64 t, .int .i64 x, .bool g]) ?_ rfl ⟨rfl, boxed_below (boxed_below HW.out (Nat.le_refl _)) (by omega)⟩
    simp [results, Try.results89, go_sem, z1]
set_option maxHeartbeats 400000 in
theorem delay_any (t : Int) (w : World) : Calls Try.prog 106 #[.int .i64 t] w fun e w' => e = .returned (.int .i64 (Cy.delay t)) ∧ w = w' := by
  by_cases h : t = 1
  · subst h
    go_enter Try.func106, Try.ntmps106
    go_wp2
    go_ret
    exact ⟨rfl, rfl⟩
  by_cases h2 : t = 2
  · subst h2
    go_enter Try.func106, Try.ntmps106
    go_wp2
    go_ret
    exact ⟨rfl, rfl⟩
  · have h3 : (t == 1) = false := by simpa using h
    have h4 : (t == 2) = false := by simpa using h2
    rw [show Cy.delay t = 7 by unfold Cy.delay; rw [if_neg h, if_neg h2]]
    clear h h2
    go_enter Try.func106, Try.ntmps106
    go_wp2
    go_ret
    exact ⟨rfl, rfl⟩
set_option maxHeartbeats 400000 in
theorem cyended_any (n d p a u t x : Int) (g : Bool) (w : World) : Calls Try.prog 98 #[.agg #[.int .i64 n, .int .i64 d, .int .u8 p, .int .i64 a, .int .i64 u, .int .i64 t, .int .i64 x, .bool g]] w fun e w' => e = .returned (.bool (decide (7 ≤ p))) ∧ Below w.heap.size w w' := by
  go_enter Try.func98, Try.ntmps98
  go_wp2
  go_ret
  exact ⟨by simp, by go_grown⟩
set_option maxHeartbeats 400000 in
theorem refended_any (p : Int) (w : World) : Calls Try.prog 62 #[.int .u8 p] w fun e w' => e = .returned (.bool (decide (7 ≤ p))) ∧ w = w' := by
  go_enter Try.func62, Try.ntmps62
  go_wp2
  go_ret
  exact ⟨by simp, rfl⟩
/-- How it begins. -/
theorem cbegin_yes {n d a u : Int} {g : Bool} (h : a = 0) : Cy.begin_ n d a u g = ⟨n, d, Cy.paid g, a, u, 0, 0, g⟩ := if_pos h
theorem cbegin_no {n d a u : Int} {g : Bool} (h : a ≠ 0) : Cy.begin_ n d a u g = ⟨n, d, 1, a, u, 1, 0, g⟩ := if_neg h
set_option maxHeartbeats 400000 in
theorem cybegin_any (n d a u : Int) (g : Bool) (w : World) : Calls Try.prog 76 #[.int .i64 n, .int .i64 d, .int .i64 a, .int .i64 u, .bool g] w fun e w' => e = .returned (Cy.begin_ n d a u g).val ∧ Below w.heap.size w w' := by
  by_cases h : a = 0
  · have h1 : (a == 0) = true := by simpa using h
    rw [cbegin_yes h]
    clear h
    cases g
    all_goals
      go_enter Try.func76, Try.ntmps76
      go_wp2_with (go_at_call 100; refine (paid_any _ _).mono ?_; rintro e w' ⟨rfl, rfl⟩)
      first
        | (refine bodyPost_ret (v := .agg #[.int .i64 n, .int .i64 d, .int .u8 3, .int .i64 a, .int .i64 u, .int .i64 0, .int .i64 0, .bool true]) ?_ rfl ⟨rfl, by go_grown⟩; (simp [results, Try.results76, go_sem, Cy.paid]; done))
        | (refine bodyPost_ret (v := .agg #[.int .i64 n, .int .i64 d, .int .u8 7, .int .i64 a, .int .i64 u, .int .i64 0, .int .i64 0, .bool false]) ?_ rfl ⟨rfl, by go_grown⟩; simp [results, Try.results76, go_sem, Cy.paid])
  · have h1 : (a == 0) = false := by simpa using h
    rw [cbegin_no h]
    clear h
    go_enter Try.func76, Try.ntmps76
    go_wp2
    refine bodyPost_ret (v := .agg #[.int .i64 n, .int .i64 d, .int .u8 1, .int .i64 a, .int .i64 u, .int .i64 1, .int .i64 0, .bool g]) ?_ rfl ⟨rfl, by go_grown⟩
    simp [results, Try.results76, go_sem]
set_option maxHeartbeats 400000 in
theorem refbegin_any (n d a u : Int) (g : Bool) (w : World) (ha : 0 ≤ a) : Calls Try.prog 50 #[.int .i64 n, .int .i64 d, .int .i64 a, .int .i64 u, .bool g] w fun e w' => e = .returned (Cy.begin_ n d a u g).val ∧ Below w.heap.size w w' := by
  by_cases h : a = 0
  · have h1 : decide (a > 0) = false := by simp; omega
    have h2 : decide (0 < a) = false := by simp; omega
    rw [cbegin_yes h]
    clear h ha
    cases g
    all_goals
      go_enter Try.func50, Try.ntmps50
      go_wp2
      first
        | (refine bodyPost_ret (v := .agg #[.int .i64 n, .int .i64 d, .int .u8 3, .int .i64 a, .int .i64 u, .int .i64 0, .int .i64 0, .bool true]) ?_ rfl ⟨rfl, by go_grown⟩; (simp [results, Try.results50, go_sem]; done))
        | (refine bodyPost_ret (v := .agg #[.int .i64 n, .int .i64 d, .int .u8 7, .int .i64 a, .int .i64 u, .int .i64 0, .int .i64 0, .bool false]) ?_ rfl ⟨rfl, by go_grown⟩; simp [results, Try.results50, go_sem])
  · have h1 : decide (a > 0) = true := by simp; omega
    have h2 : decide (0 < a) = true := by simp; omega
    rw [cbegin_no h]
    clear h ha
    go_enter Try.func50, Try.ntmps50
    go_wp2
    refine bodyPost_ret (v := .agg #[.int .i64 n, .int .i64 d, .int .u8 1, .int .i64 a, .int .i64 u, .int .i64 1, .int .i64 0, .bool g]) ?_ rfl ⟨rfl, by go_grown⟩
    simp [results, Try.results50, go_sem]
set_option maxHeartbeats 400000 in
theorem cypass_any (n d : Int) (w : World) : Calls Try.prog 74 #[.int .i64 n, .int .i64 d] w fun e w' => e = .returned (.agg #[.int .i64 n, .int .i64 d, .int .u8 10, .int .i64 0, .int .i64 0, .int .i64 0, .int .i64 0, .bool false]) ∧ Below w.heap.size w w' := by
  go_enter Try.func74, Try.ntmps74
  go_wp2
  refine bodyPost_ret (v := .agg #[.int .i64 n, .int .i64 d, .int .u8 10, .int .i64 0, .int .i64 0, .int .i64 0, .int .i64 0, .bool false]) ?_ rfl ⟨rfl, by go_grown⟩
  simp [results, Try.results74, go_sem]
/-- Another card, the end, another day. -/
theorem card_yes {n d a u t x : Int} {g : Bool} : Cv.card ⟨n, d, 2, a, u, t, x, g⟩ = ⟨n, d, 1, a, u, t + 1, 0, g⟩ := rfl
theorem card_no {n d p a u t x : Int} {g : Bool} (h : p ≠ 2) : Cv.card ⟨n, d, p, a, u, t, x, g⟩ = ⟨n, d, p, a, u, t, x, g⟩ := if_neg h
theorem over_yes {n d a u t x : Int} {g : Bool} : Cv.over ⟨n, d, 2, a, u, t, x, g⟩ = ⟨n, d, 8, a, u, t, 0, g⟩ := rfl
theorem over_no {n d p a u t x : Int} {g : Bool} (h : p ≠ 2) : Cv.over ⟨n, d, p, a, u, t, x, g⟩ = ⟨n, d, p, a, u, t, x, g⟩ := if_neg h
set_option maxHeartbeats 400000 in
theorem cycard_any (n d p a u t x : Int) (g : Bool) (w : World) (h0 : -9223372036854775808 ≤ t) (h1 : t < 9223372036854775807) : Calls Try.prog 53 #[.agg #[.int .i64 n, .int .i64 d, .int .u8 p, .int .i64 a, .int .i64 u, .int .i64 t, .int .i64 x, .bool g]] w fun e w' => e = .returned (Cv.card ⟨n, d, p, a, u, t, x, g⟩).val ∧ Below w.heap.size w w' := by
  by_cases h : p = 2
  · subst h
    rw [card_yes]
    have e1 : wrap64 (t + 1) = t + 1 := by unfold wrap64; omega
    have E1 := Lib.hid e1
    clear e1
    go_enter Try.func53, Try.ntmps53
    go_wp2
    refine bodyPost_ret (v := .agg #[.int .i64 n, .int .i64 d, .int .u8 1, .int .i64 a, .int .i64 u, .int .i64 (t + 1), .int .i64 0, .bool g]) ?_ rfl ⟨rfl, by go_grown⟩
    simp [results, Try.results53, go_sem]
  · have h2 : (p == 2) = false := by simpa using h
    have h3 : (p != 2) = true := by simpa using h
    rw [card_no h]
    clear h
    go_enter Try.func53, Try.ntmps53
    go_wp2
    refine bodyPost_ret (v := .agg #[.int .i64 n, .int .i64 d, .int .u8 p, .int .i64 a, .int .i64 u, .int .i64 t, .int .i64 x, .bool g]) ?_ rfl ⟨rfl, by go_grown⟩
    simp [results, Try.results53, go_sem]
set_option maxHeartbeats 400000 in
theorem cyover_any (n d p a u t x : Int) (g : Bool) (w : World) : Calls Try.prog 54 #[.agg #[.int .i64 n, .int .i64 d, .int .u8 p, .int .i64 a, .int .i64 u, .int .i64 t, .int .i64 x, .bool g]] w fun e w' => e = .returned (Cv.over ⟨n, d, p, a, u, t, x, g⟩).val ∧ Below w.heap.size w w' := by
  by_cases h : p = 2
  · subst h
    rw [over_yes]
    go_enter Try.func54, Try.ntmps54
    go_wp2
    refine bodyPost_ret (v := .agg #[.int .i64 n, .int .i64 d, .int .u8 8, .int .i64 a, .int .i64 u, .int .i64 t, .int .i64 0, .bool g]) ?_ rfl ⟨rfl, by go_grown⟩
    simp [results, Try.results54, go_sem]
  · have h2 : (p == 2) = false := by simpa using h
    have h3 : (p != 2) = true := by simpa using h
    rw [over_no h]
    clear h
    go_enter Try.func54, Try.ntmps54
    go_wp2
    refine bodyPost_ret (v := .agg #[.int .i64 n, .int .i64 d, .int .u8 p, .int .i64 a, .int .i64 u, .int .i64 t, .int .i64 x, .bool g]) ?_ rfl ⟨rfl, by go_grown⟩
    simp [results, Try.results54, go_sem]
set_option maxHeartbeats 400000 in
theorem cywake_any (n d p a u t x : Int) (g : Bool) (y : Int) (w : World) (h0 : -9223372036854775808 ≤ t) (h1 : t < 9223372036854775807) : Calls Try.prog 44 #[.agg #[.int .i64 n, .int .i64 d, .int .u8 p, .int .i64 a, .int .i64 u, .int .i64 t, .int .i64 x, .bool g], .int .i64 y] w fun e w' => e = .returned (Cv.wake ⟨n, d, p, a, u, t, x, g⟩ y).val ∧ Below w.heap.size w w' := by
  by_cases h : y < x
  · rw [show Cv.wake ⟨n, d, p, a, u, t, x, g⟩ y = ⟨n, d, p, a, u, t, x, g⟩ from if_pos h]
    go_enter Try.func44, Try.ntmps44
    go_wp2
    refine bodyPost_ret (v := .agg #[.int .i64 n, .int .i64 d, .int .u8 p, .int .i64 a, .int .i64 u, .int .i64 t, .int .i64 x, .bool g]) ?_ rfl ⟨rfl, by go_grown⟩
    simp [results, Try.results44, go_sem]
  · rw [show Cv.wake ⟨n, d, p, a, u, t, x, g⟩ y = Cv.card ⟨n, d, p, a, u, t, x, g⟩ from if_neg h]
    have h2 : decide (y < x) = false := by simpa using h
    have H0 := Lib.hid h0
    have H1 := Lib.hid h1
    obtain ⟨c, hc⟩ : ∃ c, Cv.card ⟨n, d, p, a, u, t, x, g⟩ = c := ⟨_, rfl⟩
    rw [hc]
    have HC := Lib.hid hc
    clear h hc h0 h1
    obtain ⟨n', d', p', a', u', t', x', g'⟩ := c
    go_enter Try.func44, Try.ntmps44
    go_wp2_with (fail)
    refine (cycard_any _ _ _ _ _ _ _ _ _ H0.out H1.out).mono ?_
    rw [HC.out]
    dsimp only [Cv.val, Cv.arr]
    rintro e w1 ⟨rfl, hb⟩
    obtain ⟨hw, z0, z1, e1⟩ := two_of hb
    rw [e1]
    have HW := Lib.hid hw
    clear e1 hb hw
    go_wp2
    refine bodyPost_ret (v := .agg #[.int .i64 n', .int .i64 d', .int .u8 p', .int .i64 a', .int .i64 u', .int .i64 t', .int .i64 x', .bool g']) ?_ rfl ⟨rfl, boxed_below (boxed_below HW.out (Nat.le_refl _)) (by omega)⟩
    simp [results, Try.results44, go_sem, z1]
end Go.Proofs.Ytkdajjbhmmgbkaa
