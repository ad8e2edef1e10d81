/-
  Words for the laws of plates: 64 new bytes, a head laid over bytes. No program, no memory of its own; no conditions.
-/
import Derived.Test.YtlbodpffkdfllaaPlLive
import Derived.Test.YtlbodpffkdfllaaRow
namespace Go.Proofs.Ytlbodpffkdfllaa
open Go.ChangeShapes Go.WideShapes Go.ChangeAt Go.RowKit

theorem boxed_at' {w : World} {c c' : Array Value} {t t' : TypeId} {b : Nat} (h : b = w.heap.size) : boxed (w.alloc (.cells c t)) b c' t' = w.alloc (.cells c' t') := by subst h; exact boxed_new _ _ _ _ _
theorem zero5 : (Try.prog.info? 5).map (fun i => (i.zero, i.size, i.bytes)) = some (some (.int .u8 0), 1, 1) := by kernel_rfl
theorem made64 : madeCells (Value.int .u8 0).cells (64 * 1) = arr Pl.zs := by kernel_rfl
/-- 'make([]byte, 64)'. -/
theorem wpList_make64 {w : World} {ops : Array Oper} {rest : List Oper} {o : Oper} {a : Act} {Q : Exit → Act → World → Prop} (hg : o.guard = none) (l c : Operand) (ho : o.op = .makeSlice 31 l c) (hl : a.eval l = .int .i64 64) (hc : a.eval c = .int .i64 64)
    (h : wpList Try.prog ops Q rest (a.put o.dst (.slice (some ⟨w.heap.size, 0, none⟩) 64 64)) (w.alloc (.cells (arr Pl.zs) 5))) : wpList Try.prog ops Q (o :: rest) a w := by
  refine wpList_plain hg fun K hK => ?_
  obtain ⟨i, hi, hz0, hz1, hz2⟩ := info_parts zero5
  have hr := run_makeSlice (P := Try.prog) w 31 5 i _ Try.underlying31 hi hz0 .i64 .i64 64 64 (by omega) (by omega) (by rw [hz1]; decide) (by rw [hz2]; decide) (by omega)
  rw [hz1, show (64 : Int).toNat = 64 from rfl, made64] at hr
  unfold Oper.wp execOp
  simp only [ho, hl, hc, Sem.run_bind, hr, Result.andThen_ok]
  exact hK _ _ h

/-- Over the head one byte more. -/
theorem headed_succ {k : Nat} {l s : List Int} (h : k < l.length) (h2 : k < s.length) : (arr (headed k l s)).setIfInBounds k (.int .u8 l[k]) = arr (headed (k + 1) l s) := by
  apply Array.ext'
  rw [Array.toList_setIfInBounds, arr_list, arr_list]
  unfold headed
  rw [List.take_succ_eq_append_getElem h, cl_append, cl_append, cl_append]
  have h3 : (cl .u8 (l.take k)).length = k := by rw [cl_length, List.length_take]; omega
  have h4 : cl .u8 (s.drop k) = .int .u8 s[k] :: cl .u8 (s.drop (k + 1)) := by rw [List.drop_eq_getElem_cons h2]; rfl
  rw [List.set_append, if_neg (by omega), h3, Nat.sub_self, h4, List.set_cons_zero, List.append_assoc]
  rfl
theorem headed_zero (l s : List Int) : headed 0 l s = s := by simp [headed]

theorem bytesOk_of_wf {l : List Int} (h : ∀ x ∈ l, (Lit.int .u8 x).wf = true) : BytesOk l := fun x hx => wf_u8 (h x hx)
end Go.Proofs.Ytlbodpffkdfllaa
