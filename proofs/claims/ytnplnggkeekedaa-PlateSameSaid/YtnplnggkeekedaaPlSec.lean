/-
  Two sectors, compared as values. No conditions.
-/
import Derived.Test.YtnplnggkeekedaaPlLive
import Derived.DeepKeys
namespace Go.Proofs.Ytnplnggkeekedaa
open Go.ChangeShapes Go.WideShapes Go.ChangeAt Go.RowKit

theorem mapM_all {α β : Type} {f : α → Option β} {g : α → β} : ∀ {l : List α}, (∀ a ∈ l, f a = some (g a)) → l.mapM f = some (l.map g)
  | [], _ => rfl
  | a :: r, h => by
    rw [List.mapM_cons, h a (by simp), mapM_all fun b hb => h b (by simp [hb])]; rfl
theorem lits_one (d : Nat) (x : Int) (hx : 0 ≤ x ∧ x < 256) : (Try.prog).keyLits (d + 1) 5 [.int .u8 x] = some [.int .u8 x] := by
  have hw : (Lit.int .u8 x).wf = true := by
    have h1 : IntKind.u8.min = 0 := rfl
    have h2 : IntKind.u8.max = 255 := rfl
    simp only [Lit.wf, Bool.and_eq_true, decide_eq_true_eq]; omega
  unfold Program.keyLits
  simp [Try.underlying5, hw]
theorem flat_one (s : List Int) : s.flatMap (fun x => [Lit.int .u8 x]) = s.map (Lit.int .u8) := by
  induction s with
  | nil => rfl
  | cons x r ih => rw [List.flatMap_cons, ih]; rfl
theorem cells5 : (Try.prog).cellsOf 5 = 1 := by kernel_rfl
theorem cells63 : (Try.prog).cellsOf 63 = 64 := by kernel_rfl
theorem lits_sec {s : List Int} (h : Pl.Sec s) : (Try.prog).keyLits 2 63 (cl .u8 s) = some (s.map (Lit.int .u8)) := by
  unfold Program.keyLits
  simp only [Try.underlying63, cells5, cells63]
  rw [if_pos (by rw [cl_length]; exact h.1), mapM_all (g := fun i => [Lit.int .u8 (s.getD i 0)]) fun i hi => ?_]
  · have e : (List.range 64).map (fun i => [Lit.int .u8 (s.getD i 0)]) = s.map (fun x => [Lit.int .u8 x]) := by
      apply List.ext_getElem?
      intro i
      rw [List.getElem?_map, List.getElem?_map]
      by_cases hi : i < 64
      · rw [List.getElem?_range hi, List.getElem?_eq_getElem (by rw [h.1]; exact hi)]
        simp [List.getD, List.getElem?_eq_getElem (show i < s.length by rw [h.1]; exact hi)]
      · rw [List.getElem?_eq_none (by simp; omega), List.getElem?_eq_none (by rw [h.1]; omega)]; rfl
    rw [e]
    simp only [List.flatten_eq_flatMap, List.flatMap_map, Option.map_some, id, flat_one]
  · have hi' : i < s.length := by rw [h.1]; simpa using hi
    have e : ((cl .u8 s).drop (i * 1)).take 1 = [.int .u8 s[i]] := by
      rw [Nat.mul_one, List.drop_eq_getElem_cons (by rw [cl_length]; exact hi')]
      simp [cl]
    rw [e, lits_one 0 _ (h.2 _ (List.getElem_mem hi'))]
    simp [List.getD, List.getElem?_eq_getElem hi']
theorem formed_sec {s : List Int} (h : Pl.Sec s) : (sv s).formed Try.prog 63 = true := by
  unfold Value.formed sv
  simp [Try.underlying63, cells63, arr_size, h.1]
theorem run_equal_sec {s t : List Int} (hs : Pl.Sec s) (ht : Pl.Sec t) (w : World) : (Op.equal 63 (sv s) (sv t)).run Try.prog w = .ok (decide (s = t)) w := by
  obtain ⟨r, hr, hiff⟩ := run_equalIn_deep (P := Try.prog) 9998 2 63 (by kernel_rfl) w 2 2 (sv s) (sv t) _ _ (formed_sec hs) (formed_sec ht) (lits_sec hs) (lits_sec ht)
  have e : r = decide (s = t) := by
    rw [Bool.eq_iff_iff, hiff, decide_eq_true_iff]
    constructor
    · intro h
      exact (List.map_inj_right (f := Lit.int .u8) (fun a b hab => by injection hab)).1 h
    · rintro rfl; rfl
  rw [← e]
  exact hr
theorem exec_neq_sec {o : Oper} {a : Act} {x y : Operand} {ty : TypeId} {s t : List Int} (ho : o.op = .binOp .neq 63 x y ty) (hx : a.eval x = sv s) (hy : a.eval y = sv t) (hs : Pl.Sec s) (ht : Pl.Sec t) (w : World) :
    (execOp a.eval o).run Try.prog w = .ok (.value (.bool (!decide (s = t)))) w := by
  have he := run_equal_sec hs ht w
  unfold execOp
  simp only [ho, hx, hy]
  unfold sv at he ⊢
  simp [eqGuard, binOp, he]
end Go.Proofs.Ytnplnggkeekedaa
