/-
  Contracts of plan.Put and plan.Get: a plan into a box, and out of it. No conditions but the sizes.
-/
import Derived.Test.YtambppcnmggocaaPkPut
import Derived.Test.YtambppcnmggocaaPkGet
import Derived.Test.YtambppcnmggocaaLane
import Derived.Test.YtambppcnmggocaaPlanRow
namespace Go.Proofs.Ytambppcnmggocaa
set_option maxRecDepth 20000
open Go.ChangeShapes Go.WideShapes Go.ChangeAt Go.RowKit

theorem Put.of_below {w w1 w' : World} {R b : Nat} {l : List Int} (h : Put w1 R b l w') (hb : Below w.heap.size w w1) (hR : R ≤ w.heap.size) : Put w R b l w' :=
  ⟨h.box, (hb.mono hR).trans h.below, fun i cs t g1 g2 hi => by
    have e := hb.block i (Array.getElem?_eq_some_iff.1 hi).1
    exact (h.rest i cs t g1 g2 (e.trans hi)).trans e⟩
namespace Pn
def one (b : Bool) : Int := if b = true then 1 else 0
theorem one_ok (b : Bool) : 0 ≤ one b ∧ one b ≤ 1 := by cases b <;> simp [one]
/-- A plan's bytes. -/
def bytes (a u e t : Int) (g l : Bool) : List Int := Pk.encs [a, u, e, t] ++ Pk.enc (Pk.zig (one g)) ++ Pk.enc (Pk.zig (one l))
theorem bytes_eq (a u e t : Int) (g l : Bool) : bytes a u e t g l = Pk.encs [a, u, e, t, one g, one l] := by
  unfold bytes; simp [Pk.encs_cons, Pk.encs_nil]
/-- The cells of a plan, in a block. -/
def At (B : Nat) (a u e t : Int) (g l : Bool) (w : World) : Prop :=
  w.cell? ⟨B, 0, none⟩ = some (.int .i64 a) ∧ w.cell? ⟨B, 1, none⟩ = some (.int .u8 u) ∧ w.cell? ⟨B, 2, none⟩ = some (.int .i64 e) ∧ w.cell? ⟨B, 3, none⟩ = some (.int .i64 t) ∧ w.cell? ⟨B, 4, none⟩ = some (.bool g) ∧ w.cell? ⟨B, 5, none⟩ = some (.bool l)
theorem At.of {B : Nat} {a u e t : Int} {g l : Bool} {w : World} {ty : TypeId} (h : w.heap[B]? = some (.cells #[.int .i64 a, .int .u8 u, .int .i64 e, .int .i64 t, .bool g, .bool l] ty (0, 0))) : At B a u e t g l w := by
  refine ⟨?_, ?_, ?_, ?_, ?_, ?_⟩ <;> (rw [cell_of_row _ _ _ _ _ _ h]; rfl)
end Pn

set_option maxHeartbeats 4000000 in
theorem plput_any (w : World) (R b : Nat) (ls : List Int) (a u e t : Int) (g l : Bool) (h : PB w R b ls) (hl : ls.length ≤ 90000) (wa : -9223372036854775808 ≤ a ∧ a ≤ 9223372036854775807) (wu : 0 ≤ u ∧ u < 256) (we : -9223372036854775808 ≤ e ∧ e ≤ 9223372036854775807) (wt : -9223372036854775808 ≤ t ∧ t ≤ 9223372036854775807) :
    Calls Try.prog 40 #[.pointer (some ⟨b, 0, none⟩), .agg #[.int .i64 a, .int .u8 u, .int .i64 e, .int .i64 t, .bool g, .bool l]] w fun x w' => x = .returned (.tuple #[]) ∧ Put w R b (ls ++ Pn.bytes a u e t g l) w' := by
  have hR : R ≤ w.heap.size := by have := h.lt; omega
  have H := Lib.hid h
  have WI : Hid (I64 [a, u, e, t]) := Lib.hid (fun n hn => by
    simp only [List.mem_cons, List.not_mem_nil, or_false] at hn
    rcases hn with rfl | rfl | rfl | rfl
    · exact wa
    · omega
    · exact we
    · exact wt)
  have hln : (Pk.encs [a, u, e, t]).length ≤ 44 := Pk.encs_len [a, u, e, t] WI.out
  have hlg : (Pk.enc (Pk.zig (Pn.one g))).length ≤ 11 := Pk.enc_eleven (Pk.zig_lt _ (by have := Pn.one_ok g; omega) (by have := Pn.one_ok g; omega))
  obtain ⟨wu0, wu1⟩ := wu
  have hwu : IntKind.i64.wrap u = u := by simp only [IntKind.wrap_i64]; omega
  clear h wa we wt
  go_enter Try.func40, Try.ntmps40
  go_wp2
  refine lane_start (ord := [0, 1, 2, 3, 4, 5, 6, 7, 8, 9, 12, 13, 15, 16, 10, 11, 14, 17]) (S := fun w' => Pn.At w.heap.size a u e t g l w') rfl (by kernel_rfl) (Pn.At.of (ty := 23) alloc_block) (fun hHeld => ?_)
  repeat (first
    | (refine lane_take (v := ?_) rfl (by kernel_rfl) (by kernel_rfl) (by rfl) ?_ (by assumption) ?_; rotate_left; (focus (intro w hSw; obtain ⟨s0, s1, s2, s3, s4, s5⟩ := hSw; (try dsimp only at s0 s1 s2 s3 s4 s5); go_simp; try (with_reducible rfl))); simp only [Act.put, List.setIfInBounds_toArray, List.set_cons_zero, List.set_cons_succ]))
  refine lane_alone rfl (by kernel_rfl) (by rfl) (fun K hK => ?_)
  go_simp
  have hb1 : Below w.heap.size w (((w.alloc (Obj.cells #[.int .i64 a, .int .u8 u, .int .i64 e, .int .i64 t, .bool g, .bool l] 23)).alloc (Obj.cells #[.int .i64 a, .int .i64 u, .int .i64 e, .int .i64 t] 2)).drew) := (((Below.refl _ w).alloc (Nat.le_refl _) _).alloc (by simp) _).drew
  have hz : (((w.alloc (Obj.cells #[.int .i64 a, .int .u8 u, .int .i64 e, .int .i64 t, .bool g, .bool l] 23)).alloc (Obj.cells #[.int .i64 a, .int .i64 u, .int .i64 e, .int .i64 t] 2)).drew).heap.size = w.heap.size + 2 := by simp
  have hp1 : (((w.alloc (Obj.cells #[.int .i64 a, .int .u8 u, .int .i64 e, .int .i64 t, .bool g, .bool l] 23)).alloc (Obj.cells #[.int .i64 a, .int .i64 u, .int .i64 e, .int .i64 t] 2)).drew).heap[w.heap.size]? = some (Obj.cells #[.int .i64 a, .int .u8 u, .int .i64 e, .int .i64 t, .bool g, .bool l] 23) := (alloc_block_old (by simp)).trans alloc_block
  have hn1 : (((w.alloc (Obj.cells #[.int .i64 a, .int .u8 u, .int .i64 e, .int .i64 t, .bool g, .bool l] 23)).alloc (Obj.cells #[.int .i64 a, .int .i64 u, .int .i64 e, .int .i64 t] 2)).drew).heap[w.heap.size + 1]? = some (Obj.cells #[.int .i64 a, .int .i64 u, .int .i64 e, .int .i64 t] 2) := by have := alloc_block (w := w.alloc (Obj.cells #[.int .i64 a, .int .u8 u, .int .i64 e, .int .i64 t, .bool g, .bool l] 23)) (o := (Obj.cells #[.int .i64 a, .int .i64 u, .int .i64 e, .int .i64 t] 2)); rw [World.size_alloc] at this; exact this
  have hs1 : Src (((w.alloc (Obj.cells #[.int .i64 a, .int .u8 u, .int .i64 e, .int .i64 t, .bool g, .bool l] 23)).alloc (Obj.cells #[.int .i64 a, .int .i64 u, .int .i64 e, .int .i64 t] 2)).drew) R (some ⟨w.heap.size + 1, 0, none⟩) [a, u, e, t] := fun _ => ⟨_, rfl, .inr ⟨_, hn1⟩, fun j v hj => by
    rw [ad_head, cell_of_row _ _ _ _ _ (0, 0) hn1]
    rcases j with _ | _ | _ | _ | j <;> simp at hj ⊢ <;> exact hj⟩
  generalize ((w.alloc (Obj.cells #[.int .i64 a, .int .u8 u, .int .i64 e, .int .i64 t, .bool g, .bool l] 23)).alloc (Obj.cells #[.int .i64 a, .int .i64 u, .int .i64 e, .int .i64 t] 2)).drew = w1 at *
  have hpb := H.out.below hb1
  refine hK _ _ (Pn.At.of hp1) (fun hHeld => ?_)
  clear hK K
  refine lane_alone rfl (by kernel_rfl) (by rfl) (fun K hK => ?_)
  go_simp
  refine (put_any w1 R b ls _ 4 [a, u, e, t] hpb hs1 (by omega) (by simp) WI.out).mono ?_
  rintro x w2 ⟨rfl, hp2⟩
  have hq2 := (hp2.rest _ _ _ (by decide) (by decide) hp1).trans hp1
  refine hK _ _ (Pn.At.of hq2) (fun hHeld => ?_)
  clear hK K
  refine lane_alone rfl (by kernel_rfl) (by rfl) (fun K hK => ?_)
  go_simp
  refine (flag_put w2 R b _ g hp2.box (by rw [List.length_append]; omega)).mono ?_
  rintro x w3 ⟨rfl, hp3⟩
  have hq3 := (hp3.rest _ _ _ (by decide) (by decide) hq2).trans hq2
  refine hK _ _ (Pn.At.of hq3) (fun hHeld => ?_)
  clear hK K
  refine lane_alone rfl (by kernel_rfl) (by rfl) (fun K hK => ?_)
  go_simp
  refine (flag_put w3 R b _ l hp3.box (by unfold Pn.one at hlg; simp only [List.length_append]; omega)).mono ?_
  rintro x w4 ⟨rfl, hp4⟩
  have hq4 := (hp4.rest _ _ _ (by decide) (by decide) hq3).trans hq3
  refine hK _ _ (Pn.At.of hq4) (fun hHeld => ?_)
  refine lane_end (by kernel_rfl) ?_
  go_wp2
  go_end0
  refine ⟨rfl, ?_⟩
  have := (((hp2.trans hp3).trans hp4).of_below hb1 hR)
  rw [Pn.bytes, ← List.append_assoc, ← List.append_assoc]
  exact this

/-- What Get tells, and the box behind it. -/
def Told6 (w : World) (b : Nat) (a u e t : Int) (g l : Bool) (r : List Int) (f : Int) (x : Ending) (w' : World) : Prop :=
  x = .returned (.agg #[.int .i64 a, .int .u8 u, .int .i64 e, .int .i64 t, .bool g, .bool l]) ∧ w.grownBy w' (some b) ∧ GB w' b r f
theorem enc_take (n : Int) (r : List Int) : (Pk.enc (Pk.zig n) ++ r).drop (Pk.enc (Pk.zig n)).length = r := List.drop_left
theorem GB.more {w w' : World} {b : Nat} {l : List Int} {f : Int} (h : GB w b l f) (hb : Below w.heap.size w w') : GB w' b l f := h.kept fun i hi => hb.block i (by have := h.lt; omega)
theorem flag_get (w : World) (b : Nat) (on : Bool) (r : List Int) (h : GB w b (Pk.enc (Pk.zig (Pn.one on)) ++ r) 0) :
    Calls Try.prog 52 #[.pointer (some ⟨b, 0, none⟩)] w (GotF w b on r) := by
  have := flag_ok w b _ (Pn.one on) _ h (Pk.dec_zig _ _ (by have := Pn.one_ok on; omega) (by have := Pn.one_ok on; omega)) (Pn.one_ok on).1 (Pn.one_ok on).2
  rw [enc_take] at this
  rwa [show (Pn.one on == 1) = on by cases on <;> rfl] at this
theorem num_get (w : World) (b : Nat) (n lo hi : Int) (r : List Int) (h : GB w b (Pk.enc (Pk.zig n) ++ r) 0) (n0 : -9223372036854775808 ≤ n) (n1 : n ≤ 9223372036854775807) (h0 : lo ≤ n) (h1 : n ≤ hi) :
    Calls Try.prog 41 #[.pointer (some ⟨b, 0, none⟩), .int .i64 lo, .int .i64 hi] w (Got w b n r 0) := by
  have := get_ok w b _ lo hi n _ h (Pk.dec_zig _ _ n0 n1) h0 h1
  rwa [enc_take] at this

set_option maxHeartbeats 4000000 in
theorem plget_any (w : World) (b : Nat) (a u e t : Int) (g l : Bool) (r : List Int) (h : GB w b (Pn.bytes a u e t g l ++ r) 0) (a0 : 0 ≤ a) (a1 : a ≤ 1073741824) (u0 : 0 ≤ u) (u1 : u ≤ 3) (e0 : 1 ≤ e) (e1 : e ≤ 1000) (t0 : 0 ≤ t) (t1 : t ≤ 1000) :
    Calls Try.prog 42 #[.pointer (some ⟨b, 0, none⟩)] w (Told6 w b a u e t g l r 0) := by
  have hbl := h.lt
  have hb0 : Pn.bytes a u e t g l ++ r = Pk.enc (Pk.zig a) ++ (Pk.enc (Pk.zig u) ++ (Pk.enc (Pk.zig e) ++ (Pk.enc (Pk.zig t) ++ (Pk.enc (Pk.zig (Pn.one g)) ++ (Pk.enc (Pk.zig (Pn.one l)) ++ r))))) := by
    unfold Pn.bytes; simp [Pk.encs_cons, Pk.encs_nil]
  rw [hb0] at h
  have H := Lib.hid h
  clear h hb0
  go_enter Try.func42, Try.ntmps42
  have hwu : IntKind.u8.wrap u = u := by simp [IntKind.wrap, IntKind.bits, IntKind.signed]; omega
  have HB : Hid (Below w.heap.size w (w.alloc (Obj.cells #[.int .i64 0, .int .u8 0, .int .i64 0, .int .i64 0, .bool false, .bool false] 23))) := (Below.refl _ w).alloc (Nat.le_refl _) _
  have HZ : Hid ((w.alloc (Obj.cells #[.int .i64 0, .int .u8 0, .int .i64 0, .int .i64 0, .bool false, .bool false] 23)).heap[w.heap.size]? = some (Obj.cells #[.int .i64 0, .int .u8 0, .int .i64 0, .int .i64 0, .bool false, .bool false] 23)) := alloc_block
  have HS : Hid (w.heap.size < (w.alloc (Obj.cells #[.int .i64 0, .int .u8 0, .int .i64 0, .int .i64 0, .bool false, .bool false] 23)).heap.size) := by show w.heap.size < (w.alloc (Obj.cells #[.int .i64 0, .int .u8 0, .int .i64 0, .int .i64 0, .bool false, .bool false] 23)).heap.size; simp
  have HG0 := Lib.hid (H.out.more HB.out)
  go_wp2_with (fail)
  generalize w.alloc (Obj.cells #[.int .i64 0, .int .u8 0, .int .i64 0, .int .i64 0, .bool false, .bool false] 23) = W at *
  refine (num_get _ b a _ _ _ HG0.out (by omega) (by omega) (by omega) (by omega)).mono ?_
  rintro x w1 ⟨rfl, hg1, hb1⟩
  have HG1 := Lib.hid hb1
  have HW1 : Hid (W.grownBy w1 (some b)) := Lib.hid hg1
  clear hg1 hb1
  go_wp2_with (fail)
  refine (num_get _ b u _ _ _ HG1.out (by omega) (by omega) (by omega) (by omega)).mono ?_
  rintro x w2 ⟨rfl, hg2, hb2⟩
  have HG2 := Lib.hid hb2
  have HW2 : Hid (W.grownBy w2 (some b)) := Lib.hid (HW1.out.trans hg2)
  clear hg2 hb2
  go_wp2_with (fail)
  refine (num_get _ b e _ _ _ HG2.out (by omega) (by omega) (by omega) (by omega)).mono ?_
  rintro x w3 ⟨rfl, hg3, hb3⟩
  have HG3 := Lib.hid hb3
  have HW3 : Hid (W.grownBy w3 (some b)) := Lib.hid (HW2.out.trans hg3)
  clear hg3 hb3
  go_wp2_with (fail)
  refine (num_get _ b t _ _ _ HG3.out (by omega) (by omega) (by omega) (by omega)).mono ?_
  rintro x w4 ⟨rfl, hg4, hb4⟩
  have HG4 := Lib.hid hb4
  have HW4 : Hid (W.grownBy w4 (some b)) := Lib.hid (HW3.out.trans hg4)
  clear hg4 hb4
  go_wp2_with (fail)
  refine (flag_get _ b g _ HG4.out).mono ?_
  rintro x w5 ⟨rfl, hg5, hb5⟩
  have HG5 := Lib.hid hb5
  have HW5 : Hid (W.grownBy w5 (some b)) := Lib.hid (HW4.out.trans hg5)
  clear hg5 hb5
  go_wp2_with (fail)
  refine (flag_get _ b l _ HG5.out).mono ?_
  rintro x w6 ⟨rfl, hg6, hb6⟩
  have HG6 := Lib.hid hb6
  have HW6 : Hid (W.grownBy w6 (some b)) := Lib.hid (HW5.out.trans hg6)
  clear hg6 hb6
  have hz6 : w6.heap[w.heap.size]? = some (Obj.cells #[.int .i64 0, .int .u8 0, .int .i64 0, .int .i64 0, .bool false, .bool false] 23) := (HW6.out.block _ HS.out (by intro e; injection e; omega)).trans HZ.out
  have hs6 : w.heap.size < w6.heap.size := Nat.lt_of_lt_of_le HS.out HW6.out.size
  have HQ := Lib.hid (boxed_self hz6)
  rw [HQ.out]
  go_wp2_with (fail)
  have hk : ∀ (cs : Array Value) i, i ≤ b → ((boxed w6 w.heap.size cs 23).alloc (Obj.cells #[.int .i64 a, .int .u8 u, .int .i64 e, .int .i64 t, .bool g, .bool l] 23)).heap[i]? = w6.heap[i]? := fun cs i hi => by
    rw [alloc_block_old (by rw [boxed_size]; omega), boxed_block_other (by omega)]
  obtain ⟨A, c, hx, hgr⟩ := HG6.out
  refine (fault_box _ b _ 0 (hx.kept (hk _ b (Nat.le_refl _)))).mono ?_
  rintro x w7 ⟨rfl, rfl⟩
  have HK := Lib.hid hk
  have hgw : w.grownBy w6 (some b) := (below_grown HB.out (some b)).trans HW6.out
  have HGW := Lib.hid hgw
  clear hk hgw hx hgr HQ
  go_wp2
  refine bodyPost_ret (v := .agg #[.int .i64 a, .int .u8 u, .int .i64 e, .int .i64 t, .bool g, .bool l]) ?_ rfl ⟨rfl, ⟨HGW.out.os, HGW.out.tape, HGW.out.output, ?_, fun i hi hne => ?_⟩, HG6.out.kept fun i hi => HK.out _ i hi⟩
  · obtain ⟨c0, c1, c2, c3, c4, c5⟩ := Pn.At.of (B := w.heap.size) (w := (boxed w6 w.heap.size #[.int .i64 a, .int .u8 u, .int .i64 e, .int .i64 t, .bool g, .bool l] 23).alloc (Obj.cells #[.int .i64 a, .int .u8 u, .int .i64 e, .int .i64 t, .bool g, .bool l] 23)) (ty := 23) (by rw [alloc_block_old (by rw [boxed_size]; exact hs6), boxed_block hs6])
    simp [results, Try.results42, go_sem, c0, c1, c2, c3, c4, c5]
  · rw [World.size_alloc, boxed_size]; have := HGW.out.size; omega
  · rw [alloc_block_old (by rw [boxed_size]; omega), boxed_block_other (by omega)]; exact HGW.out.block i hi hne
end Go.Proofs.Ytambppcnmggocaa
