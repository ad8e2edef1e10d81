/-
  Contracts of plan.Put and plan.Get: a plan into a box, and out of it. No conditions but the sizes.
-/
import Derived.Test.YtblikgbcakgdnaaGreatBp03
import Derived.Test.YtblikgbcakgdnaaGreatBp05
import Derived.Test.YtblikgbcakgdnaaGreatBp40
set_option linter.unusedSimpArgs false
set_option linter.unusedVariables false
namespace Go.Proofs.YtblikgbcakgdnaaGreat
set_option maxRecDepth 20000
open Go.ChangeShapes Go.WideShapes Go.ChangeAt Go.RowKit

theorem Put.of_below {w w1 w' : World} {R b : Nat} {l : List Int} (h : Put w1 R b l w') (hb : Below w.heap.size w w1) (hR : R ≤ w.heap.size) : Put w R b l w' :=
  ⟨h.box, (hb.mono hR).trans h.below, fun i cs t g1 g2 hi => by
    have e := hb.block i (Array.getElem?_eq_some_iff.1 hi).1
    exact (h.rest i cs t g1 g2 (e.trans hi)).trans e⟩
namespace Pn
def one (b : Bool) : Int := if b = true then 1 else 0
theorem one_ok (b : Bool) : 0 ≤ one b ∧ one b ≤ 1 := by cases b <;> simp [one]
/-- A plan's bytes. -/
def bytes (a u e t : Int) (g l : Bool) : List Int := Pk.encs [a, u, e, t] ++ Pk.enc (Pk.zig (one g)) ++ Pk.enc (Pk.zig (one l))
theorem bytes_eq (a u e t : Int) (g l : Bool) : bytes a u e t g l = Pk.encs [a, u, e, t, one g, one l] := by
  unfold bytes; simp [Pk.encs_cons, Pk.encs_nil]
end Pn

set_option maxHeartbeats 4000000 in
theorem plput_any (w : World) (R b : Nat) (ls : List Int) (a u e t : Int) (g l : Bool) (h : PB w R b ls) (hl : ls.length ≤ 790000) (wa : -9223372036854775808 ≤ a ∧ a ≤ 9223372036854775807) (wu : 0 ≤ u ∧ u < 256) (we : -9223372036854775808 ≤ e ∧ e ≤ 9223372036854775807) (wt : -9223372036854775808 ≤ t ∧ t ≤ 9223372036854775807) :
    Calls Tryz.prog 41 #[.pointer (some ⟨b, 0, none⟩), .agg #[.int .i64 a, .int .u8 u, .int .i64 e, .int .i64 t, .bool g, .bool l]] w fun x w' => x = .returned (.tuple #[]) ∧ Put w R b (ls ++ Pn.bytes a u e t g l) w' := by
  have hR : R ≤ w.heap.size := by have := h.lt; omega
  have H := Lib.hid h
  have WI : Hid (I64 [a, u, e, t]) := Lib.hid (fun n hn => by
    simp only [List.mem_cons, List.not_mem_nil, or_false] at hn
    rcases hn with rfl | rfl | rfl | rfl
    · exact wa
    · omega
    · exact we
    · exact wt)
  have hln : (Pk.encs [a, u, e, t]).length ≤ 44 := Pk.encs_len [a, u, e, t] WI.out
  have hlg : (Pk.enc (Pk.zig (Pn.one g))).length ≤ 11 := Pk.enc_eleven (Pk.zig_lt _ (by have := Pn.one_ok g; omega) (by have := Pn.one_ok g; omega))
  obtain ⟨wu0, wu1⟩ := wu
  have hwu : IntKind.i64.wrap u = u := by simp only [IntKind.wrap_i64]; omega
  clear h wa we wt
  go_enter Tryz.func41, Tryz.ntmps41
  go_wp2
  refine lane_start (ord := [0, 1, 2, 3, 4, 5, 6, 7, 8, 9, 12, 13, 15, 16, 10, 11, 14, 17]) (S := fun w' => Pn.At w.heap.size a u e t g l w') rfl (by kernel_rfl) (Pn.At.of (ty := 44) alloc_block) (fun hHeld => ?_)
  repeat (first
    | (refine lane_take (v := ?_) rfl (by kernel_rfl) (by kernel_rfl) (by rfl) ?_ (by assumption) ?_; rotate_left; (focus (intro w hSw; obtain ⟨s0, s1, s2, s3, s4, s5⟩ := hSw; (try dsimp only at s0 s1 s2 s3 s4 s5); go_simp; try (with_reducible rfl))); simp only [Act.put, List.setIfInBounds_toArray, List.set_cons_zero, List.set_cons_succ]))
  refine lane_alone rfl (by kernel_rfl) (by rfl) (fun K hK => ?_)
  go_simp
  have hb1 : Below w.heap.size w (((w.alloc (Obj.cells #[.int .i64 a, .int .u8 u, .int .i64 e, .int .i64 t, .bool g, .bool l] 44)).alloc (Obj.cells #[.int .i64 a, .int .i64 u, .int .i64 e, .int .i64 t] 2)).drew) := (((Below.refl _ w).alloc (Nat.le_refl _) _).alloc (by simp) _).drew
  have hz : (((w.alloc (Obj.cells #[.int .i64 a, .int .u8 u, .int .i64 e, .int .i64 t, .bool g, .bool l] 44)).alloc (Obj.cells #[.int .i64 a, .int .i64 u, .int .i64 e, .int .i64 t] 2)).drew).heap.size = w.heap.size + 2 := by simp
  have hp1 : (((w.alloc (Obj.cells #[.int .i64 a, .int .u8 u, .int .i64 e, .int .i64 t, .bool g, .bool l] 44)).alloc (Obj.cells #[.int .i64 a, .int .i64 u, .int .i64 e, .int .i64 t] 2)).drew).heap[w.heap.size]? = some (Obj.cells #[.int .i64 a, .int .u8 u, .int .i64 e, .int .i64 t, .bool g, .bool l] 44) := (alloc_block_old (by simp)).trans alloc_block
  have hn1 : (((w.alloc (Obj.cells #[.int .i64 a, .int .u8 u, .int .i64 e, .int .i64 t, .bool g, .bool l] 44)).alloc (Obj.cells #[.int .i64 a, .int .i64 u, .int .i64 e, .int .i64 t] 2)).drew).heap[w.heap.size + 1]? = some (Obj.cells #[.int .i64 a, .int .i64 u, .int .i64 e, .int .i64 t] 2) := by have := alloc_block (w := w.alloc (Obj.cells #[.int .i64 a, .int .u8 u, .int .i64 e, .int .i64 t, .bool g, .bool l] 44)) (o := (Obj.cells #[.int .i64 a, .int .i64 u, .int .i64 e, .int .i64 t] 2)); rw [World.size_alloc] at this; exact this
  have hs1 : Src (((w.alloc (Obj.cells #[.int .i64 a, .int .u8 u, .int .i64 e, .int .i64 t, .bool g, .bool l] 44)).alloc (Obj.cells #[.int .i64 a, .int .i64 u, .int .i64 e, .int .i64 t] 2)).drew) R (some ⟨w.heap.size + 1, 0, none⟩) [a, u, e, t] := fun _ => ⟨_, rfl, .inr ⟨_, hn1⟩, fun j v hj => by
    rw [ad_head, cell_of_row _ _ _ _ _ (0, 0) hn1]
    rcases j with _ | _ | _ | _ | j <;> simp at hj ⊢ <;> exact hj⟩
  generalize ((w.alloc (Obj.cells #[.int .i64 a, .int .u8 u, .int .i64 e, .int .i64 t, .bool g, .bool l] 44)).alloc (Obj.cells #[.int .i64 a, .int .i64 u, .int .i64 e, .int .i64 t] 2)).drew = w1 at *
  have hpb := H.out.below hb1
  refine hK _ _ (Pn.At.of hp1) (fun hHeld => ?_)
  clear hK K
  refine lane_alone rfl (by kernel_rfl) (by rfl) (fun K hK => ?_)
  go_simp
  refine (put_any w1 R b ls _ 4 [a, u, e, t] hpb hs1 (by omega) (by simp) WI.out).mono ?_
  rintro x w2 ⟨rfl, hp2⟩
  have hq2 := (hp2.rest _ _ _ (by decide) (by decide) hp1).trans hp1
  refine hK _ _ (Pn.At.of hq2) (fun hHeld => ?_)
  clear hK K
  refine lane_alone rfl (by kernel_rfl) (by rfl) (fun K hK => ?_)
  go_simp
  refine (flag_put w2 R b _ g hp2.box (by rw [List.length_append]; omega)).mono ?_
  rintro x w3 ⟨rfl, hp3⟩
  have hq3 := (hp3.rest _ _ _ (by decide) (by decide) hq2).trans hq2
  refine hK _ _ (Pn.At.of hq3) (fun hHeld => ?_)
  clear hK K
  refine lane_alone rfl (by kernel_rfl) (by rfl) (fun K hK => ?_)
  go_simp
  refine (flag_put w3 R b _ l hp3.box (by unfold Pn.one at hlg; simp only [List.length_append]; omega)).mono ?_
  rintro x w4 ⟨rfl, hp4⟩
  have hq4 := (hp4.rest _ _ _ (by decide) (by decide) hq3).trans hq3
  refine hK _ _ (Pn.At.of hq4) (fun hHeld => ?_)
  refine lane_end (by kernel_rfl) ?_
  go_wp2
  go_end0
  refine ⟨rfl, ?_⟩
  have := (((hp2.trans hp3).trans hp4).of_below hb1 hR)
  rw [Pn.bytes, ← List.append_assoc, ← List.append_assoc]
  exact this

/-- What Get tells, and the box behind it. -/
def Told6 (w : World) (b : Nat) (a u e t : Int) (g l : Bool) (r : List Int) (f : Int) (x : Ending) (w' : World) : Prop :=
  x = .returned (.agg #[.int .i64 a, .int .u8 u, .int .i64 e, .int .i64 t, .bool g, .bool l]) ∧ w.grownBy w' (some b) ∧ GB w' b r f
theorem GB.more {w w' : World} {b : Nat} {l : List Int} {f : Int} (h : GB w b l f) (hb : Below w.heap.size w w') : GB w' b l f := h.kept fun i hi => hb.block i (by have := h.lt; omega)
end Go.Proofs.YtblikgbcakgdnaaGreat
