/-
  Numbers out of any box by their bounds, and plan.Get over any box: what is told, and what is left. No conditions.
-/
import Derived.Test.YtblikgbcakgdnaaGreatBr25
import Derived.Test.YtblikgbcakgdnaaGreatBr37
set_option linter.unusedSimpArgs false
set_option linter.unusedVariables false
namespace Go.Proofs.YtblikgbcakgdnaaGreat
set_option maxRecDepth 20000
open Go.ChangeShapes Go.WideShapes Go.ChangeAt Go.RowKit

/-- Six numbers out of a box. -/
def Gets (b : List (Int × Int)) (l : List Int) (f : Int) (ns : List Int) (l' : List Int) (f' : Int) : Prop :=
  match b, ns with
  | [], [] => l' = l ∧ f' = f
  | (lo, hi) :: b, n :: ns => ∃ l1 f1, Pk.Step lo hi l f n l1 f1 ∧ Gets b l1 f1 ns l' f'
  | _, _ => False
theorem Gets.mem {b : List (Int × Int)} : ∀ {l : List Int} {f : Int} {ns l' : List Int} {f' : Int}, Gets b l f ns l' f' → ∀ x ∈ l', x ∈ l := by
  induction b with
  | nil => intro l f ns l' f' h; cases ns with
    | nil => rw [h.1]; exact fun _ h => h
    | cons => exact h.elim
  | cons x b ih => intro l f ns l' f' h; cases ns with
    | nil => exact h.elim
    | cons n ns =>
      obtain ⟨l1, f1, h1, h2⟩ := h
      exact fun x hx => h1.mem x (ih h2 x hx)
/-- Numbers within their bounds. -/
def In (b : List (Int × Int)) (ns : List Int) : Prop :=
  match b, ns with
  | [], [] => True
  | (lo, hi) :: b, n :: ns => (lo ≤ n ∧ n ≤ hi) ∧ In b ns
  | _, _ => False
theorem Gets.ok {b : List (Int × Int)} : ∀ {l : List Int} {f : Int} {ns l' : List Int}, Gets b l f ns l' 0 → (∀ x ∈ l, 0 ≤ x) → f = 0 ∧ In b ns ∧ l = Pk.encs ns ++ l' := by
  induction b with
  | nil => intro l f ns l' h _; cases ns with
    | nil => obtain ⟨rfl, h2⟩ := h; exact ⟨h2.symm, trivial, rfl⟩
    | cons => exact h.elim
  | cons x b ih => intro l f ns l' h h0; cases ns with
    | nil => exact h.elim
    | cons n ns =>
      obtain ⟨l1, f1, h1, h2⟩ := h
      obtain ⟨rfl, hin, hl⟩ := ih h2 (fun x hx => h0 x (h1.mem x hx))
      obtain ⟨rfl, q0, q1, e⟩ := h1.ok h0
      exact ⟨rfl, ⟨⟨q0, q1⟩, hin⟩, by rw [e, hl, Pk.encs_cons, List.append_assoc]⟩
/-- The bounds of a plan's numbers. -/
def pBounds : List (Int × Int) := [(0, 1073741824), (0, 3), (1, 1000), (0, 1000), (0, 1), (0, 1)]
/-- What plan.Get tells of a box. -/
def Pv.val (p : Pv) : Value := .agg #[.int .i64 p.a, .int .u8 p.u, .int .i64 p.e, .int .i64 p.t, .bool p.g, .bool p.l]
def Pv.bytes (p : Pv) : List Int := Pn.bytes p.a p.u p.e p.t p.g p.l
def Pv.Bok (p : Pv) : Prop := (0 ≤ p.a ∧ p.a ≤ 1073741824) ∧ (0 ≤ p.u ∧ p.u ≤ 3) ∧ (1 ≤ p.e ∧ p.e ≤ 1000) ∧ (0 ≤ p.t ∧ p.t ≤ 1000)
def Pv.Got (l : List Int) (f : Int) (p : Pv) (l' : List Int) (f' : Int) : Prop := ∃ a u e t g q : Int, Gets pBounds l f [a, u, e, t, g, q] l' f' ∧ p = if f' = 0 then ⟨a, u, e, t, g == 1, q == 1⟩ else Pv.zero
theorem one_of {g : Int} (h0 : 0 ≤ g) (h1 : g ≤ 1) : Pn.one (g == 1) = g := by
  have : g = 0 ∨ g = 1 := by omega
  rcases this with rfl | rfl <;> rfl
theorem Pv.Got.ok {l l' : List Int} {f : Int} {p : Pv} (h : Pv.Got l f p l' 0) (h0 : ∀ x ∈ l, 0 ≤ x) : f = 0 ∧ p.Bok ∧ l = p.bytes ++ l' := by
  obtain ⟨a, u, e, t, g, q, hg, rfl⟩ := h
  rw [if_pos rfl]
  obtain ⟨ef, hi, hl⟩ := hg.ok h0
  obtain ⟨a1, a2, a3, a4, a5, a6, _⟩ := hi
  refine ⟨ef, ⟨a1, a2, a3, a4⟩, ?_⟩
  unfold Pv.bytes
  rw [Pn.bytes_eq]
  dsimp only
  rw [one_of a5.1 a5.2, one_of a6.1 a6.2]
  exact hl
theorem Pv.Got.mem {l l' : List Int} {f f' : Int} {p : Pv} (h : Pv.Got l f p l' f') : ∀ x ∈ l', x ∈ l := by
  obtain ⟨a, u, e, t, g, q, h, _⟩ := h; exact h.mem
set_option maxHeartbeats 4000000 in
theorem plgetA_any (w : World) (b : Nat) (l : List Int) (f : Int) (h : GB w b l f) :
    Calls Tryz.prog 45 #[.pointer (some ⟨b, 0, none⟩)] w (fun x w' => ∃ p l' f', x = .returned (Pv.val p) ∧ Pv.Got l f p l' f' ∧ w.grownBy w' (some b) ∧ GB w' b l' f') := by
  have hbl := h.lt
  have H := Lib.hid h
  clear h
  go_enter Tryz.func45, Tryz.ntmps45
  have HB : Hid (Below w.heap.size w (w.alloc (Obj.cells #[.int .i64 0, .int .u8 0, .int .i64 0, .int .i64 0, .bool false, .bool false] 44))) := (Below.refl _ w).alloc (Nat.le_refl _) _
  have HZ : Hid ((w.alloc (Obj.cells #[.int .i64 0, .int .u8 0, .int .i64 0, .int .i64 0, .bool false, .bool false] 44)).heap[w.heap.size]? = some (Obj.cells #[.int .i64 0, .int .u8 0, .int .i64 0, .int .i64 0, .bool false, .bool false] 44)) := alloc_block
  have HS : Hid (w.heap.size < (w.alloc (Obj.cells #[.int .i64 0, .int .u8 0, .int .i64 0, .int .i64 0, .bool false, .bool false] 44)).heap.size) := by show w.heap.size < (w.alloc (Obj.cells #[.int .i64 0, .int .u8 0, .int .i64 0, .int .i64 0, .bool false, .bool false] 44)).heap.size; simp
  have HG0 := Lib.hid (H.out.more HB.out)
  go_wp2_with (fail)
  generalize w.alloc (Obj.cells #[.int .i64 0, .int .u8 0, .int .i64 0, .int .i64 0, .bool false, .bool false] 44) = W at *
  refine (get_any _ _ _ _ _ _ HG0.out).mono ?_
  rintro x w1 ⟨n1, l1, f1, rfl, hs1, hg1, hb1⟩
  obtain ⟨r1, t1⟩ := hs1.range (by omega) (by omega)
  have HS1 := Lib.hid hs1
  have HG1 := Lib.hid hb1
  have HW1 : Hid (W.grownBy w1 (some b)) := Lib.hid (hg1)
  clear hs1 hg1 hb1
  go_wp2_with (fail)
  refine (get_any _ _ _ _ _ _ HG1.out).mono ?_
  rintro x w2 ⟨n2, l2, f2, rfl, hs2, hg2, hb2⟩
  obtain ⟨r2, t2⟩ := hs2.range (by omega) (by omega)
  have HS2 := Lib.hid hs2
  have HG2 := Lib.hid hb2
  have HW2 : Hid (W.grownBy w2 (some b)) := Lib.hid (HW1.out.trans hg2)
  clear hs2 hg2 hb2
  have hwu2 : IntKind.u8.wrap n2 = n2 := by simp [IntKind.wrap, IntKind.bits, IntKind.signed]; omega
  go_wp2_with (fail)
  refine (get_any _ _ _ _ _ _ HG2.out).mono ?_
  rintro x w3 ⟨n3, l3, f3, rfl, hs3, hg3, hb3⟩
  obtain ⟨r3, t3⟩ := hs3.range (by omega) (by omega)
  have HS3 := Lib.hid hs3
  have HG3 := Lib.hid hb3
  have HW3 : Hid (W.grownBy w3 (some b)) := Lib.hid (HW2.out.trans hg3)
  clear hs3 hg3 hb3
  go_wp2_with (fail)
  refine (get_any _ _ _ _ _ _ HG3.out).mono ?_
  rintro x w4 ⟨n4, l4, f4, rfl, hs4, hg4, hb4⟩
  obtain ⟨r4, t4⟩ := hs4.range (by omega) (by omega)
  have HS4 := Lib.hid hs4
  have HG4 := Lib.hid hb4
  have HW4 : Hid (W.grownBy w4 (some b)) := Lib.hid (HW3.out.trans hg4)
  clear hs4 hg4 hb4
  go_wp2_with (fail)
  refine (flag_any _ _ _ _ HG4.out).mono ?_
  rintro x w5 ⟨n5, l5, f5, rfl, hs5, hg5, hb5⟩
  have HS5 := Lib.hid hs5
  have HG5 := Lib.hid hb5
  have HW5 : Hid (W.grownBy w5 (some b)) := Lib.hid (HW4.out.trans hg5)
  clear hs5 hg5 hb5
  go_wp2_with (fail)
  refine (flag_any _ _ _ _ HG5.out).mono ?_
  rintro x w6 ⟨n6, l6, f6, rfl, hs6, hg6, hb6⟩
  have HS6 := Lib.hid hs6
  have HG6 := Lib.hid hb6
  have HW6 : Hid (W.grownBy w6 (some b)) := Lib.hid (HW5.out.trans hg6)
  clear hs6 hg6 hb6
  have hz6 : w6.heap[w.heap.size]? = some (Obj.cells #[.int .i64 0, .int .u8 0, .int .i64 0, .int .i64 0, .bool false, .bool false] 44) := (HW6.out.block _ HS.out (by intro e; injection e; omega)).trans HZ.out
  have hs6 : w.heap.size < w6.heap.size := Nat.lt_of_lt_of_le HS.out HW6.out.size
  have HQ := Lib.hid (boxed_self hz6)
  rw [HQ.out]
  go_wp2_with (fail)
  have hk : ∀ (cs : Array Value) i, i ≤ b → ((boxed w6 w.heap.size cs 44).alloc (Obj.cells #[.int .i64 n1, .int .u8 n2, .int .i64 n3, .int .i64 n4, .bool (n5 == 1), .bool (n6 == 1)] 44)).heap[i]? = w6.heap[i]? := fun cs i hi => by
    rw [alloc_block_old (by rw [boxed_size]; omega), boxed_block_other (by omega)]
  obtain ⟨A, c, hx, hgr⟩ := HG6.out
  refine (fault_box _ b _ f6 (hx.kept (hk _ b (Nat.le_refl _)))).mono ?_
  rintro x w7 ⟨rfl, rfl⟩
  have HK := Lib.hid hk
  have hgw : w.grownBy w6 (some b) := (below_grown HB.out (some b)).trans HW6.out
  have HGW := Lib.hid hgw
  clear hk hgw hx hgr HQ
  have HT : Hid (Gets pBounds l f [n1, n2, n3, n4, n5, n6] l6 f6) := Lib.hid ⟨l1, f1, HS1.out, l2, f2, HS2.out, l3, f3, HS3.out, l4, f4, HS4.out, l5, f5, HS5.out, l6, f6, HS6.out, rfl, rfl⟩
  clear HS1 HS2 HS3 HS4 HS5 HS6
  by_cases d : f6 = 0
  · subst d
    go_wp2
    refine bodyPost_ret (v := .agg #[.int .i64 n1, .int .u8 n2, .int .i64 n3, .int .i64 n4, .bool (n5 == 1), .bool (n6 == 1)]) ?_ rfl ⟨⟨n1, n2, n3, n4, n5 == 1, n6 == 1⟩, l6, 0, rfl, ⟨n1, n2, n3, n4, n5, n6, HT.out, rfl⟩, ⟨HGW.out.os, HGW.out.tape, HGW.out.output, ?_, fun i hi hne => ?_⟩, HG6.out.kept fun i hi => HK.out _ i hi⟩
    · have hc : ((boxed w6 w.heap.size #[.int .i64 n1, .int .u8 n2, .int .i64 n3, .int .i64 n4, .bool (n5 == 1), .bool (n6 == 1)] 44).alloc (Obj.cells #[.int .i64 n1, .int .u8 n2, .int .i64 n3, .int .i64 n4, .bool (n5 == 1), .bool (n6 == 1)] 44)).heap[w.heap.size]? = some (.cells #[.int .i64 n1, .int .u8 n2, .int .i64 n3, .int .i64 n4, .bool (n5 == 1), .bool (n6 == 1)] 44 (0, 0)) := by rw [alloc_block_old (by rw [boxed_size]; exact hs6), boxed_block hs6]
      simp [results, Tryz.results45, go_sem, cell_of_row _ _ _ _ _ _ hc]
    · rw [World.size_alloc, boxed_size]; have := HGW.out.size; omega
    · rw [alloc_block_old (by rw [boxed_size]; omega), boxed_block_other (by omega)]; exact HGW.out.block i hi hne
  · have z : (f6 != 0) = true := by simpa using d
    have HD := Lib.hid d
    clear d
    go_wp2
    refine bodyPost_ret (v := .agg #[.int .i64 0, .int .u8 0, .int .i64 0, .int .i64 0, .bool false, .bool false]) ?_ rfl ⟨Pv.zero, l6, f6, rfl, ⟨n1, n2, n3, n4, n5, n6, HT.out, by rw [if_neg HD.out]⟩, ⟨HGW.out.os, HGW.out.tape, HGW.out.output, ?_, fun i hi hne => ?_⟩, HG6.out.kept fun i hi => HK.out _ i hi⟩
    · have hc : ((boxed w6 w.heap.size #[.int .i64 0, .int .u8 0, .int .i64 0, .int .i64 0, .bool false, .bool false] 44).alloc (Obj.cells #[.int .i64 n1, .int .u8 n2, .int .i64 n3, .int .i64 n4, .bool (n5 == 1), .bool (n6 == 1)] 44)).heap[w.heap.size]? = some (.cells #[.int .i64 0, .int .u8 0, .int .i64 0, .int .i64 0, .bool false, .bool false] 44 (0, 0)) := by rw [alloc_block_old (by rw [boxed_size]; exact hs6), boxed_block hs6]
      simp [results, Tryz.results45, go_sem, cell_of_row _ _ _ _ _ _ hc]
    · rw [World.size_alloc, boxed_size]; have := HGW.out.size; omega
    · rw [alloc_block_old (by rw [boxed_size]; omega), boxed_block_other (by omega)]; exact HGW.out.block i hi hne

end Go.Proofs.YtblikgbcakgdnaaGreat
