/-
  append onto a row of the call's own, whatever the source: nil, or numbers anywhere. No conditions but the sizes.
-/
import Derived.Test.YtlldkcelkgnalaaMem
import Derived.Maps.AppendAt
import Derived.OwnWalk
import Derived.WalkSpells
namespace Go.Proofs.Ytlldkcelkgnalaa
open Go.ChangeShapes Go.WideShapes Go.ChangeAt Go.RowKit

theorem u8info : (Try.prog.info? 5).map (fun i => (i.zero, i.size, i.bytes)) = some (some (.int .u8 0), 1, 1) := by kernel_rfl

theorem run_append_none {w : World} {base n c : Nat} {v : Value} {l : List Int} (hown : w.ownsRow base 5 1 v n (cl .u8 l)) :
    (Builtin.append_ #[22, 22] 22 #[v, .slice none 0 c]).run Try.prog w = .ok v w := by
  obtain ⟨i, hi, _, _, _⟩ := info_parts u8info
  rcases hown.2 with ⟨rfl, rfl⟩ | ⟨g, cap, cur, rfl, _, _, hnc, _⟩
  · simp [Builtin.append_, run_underlying Try.underlying22, sizeOf, typeInfo, hi, Builtin.lenOf, Builtin.firstCells]
  · simp [Builtin.append_, run_underlying Try.underlying22, sizeOf, typeInfo, hi, Builtin.lenOf, Builtin.firstCells, hnc, storeCells]

/-- What an append leaves. -/
structure Grew (w : World) (base : Nat) (v : Value) (l : List Int) (v' : Value) (w' : World) : Prop where
  own : w'.ownsRow base 5 1 v' l.length (cl .u8 l)
  grown : w.grownBy w' v.ownBlock
  at_ : v'.ownBlock = v.ownBlock ∨ ∀ i, v'.ownBlock = some i → w.heap.size ≤ i

theorem Grew.refl {w : World} {base : Nat} {v : Value} {l : List Int} (h : w.ownsRow base 5 1 v l.length (cl .u8 l)) : Grew w base v l v w := ⟨h, grown_refl _ _, .inl rfl⟩
theorem Grew.trans {w w1 w2 : World} {base : Nat} {v v1 v2 : Value} {l1 l2 : List Int} (h : Grew w base v l1 v1 w1) (k : Grew w1 base v1 l2 v2 w2) : Grew w base v l2 v2 w2 := by
  refine ⟨k.own, ⟨k.grown.os.trans h.grown.os, k.grown.tape.trans h.grown.tape, k.grown.output.trans h.grown.output, Nat.le_trans h.grown.size k.grown.size, fun i hi hne => ?_⟩, ?_⟩
  · refine (k.grown.block i (Nat.lt_of_lt_of_le hi h.grown.size) fun e => ?_).trans (h.grown.block i hi hne)
    rcases h.at_ with h1 | h1
    · exact hne (e.trans h1)
    · have := h1 i e.symm; omega
  · rcases k.at_ with k1 | k1
    · rcases h.at_ with h1 | h1
      · exact .inl (k1.trans h1)
      · exact .inr fun i hi => h1 i (k1 ▸ hi)
    · exact .inr fun i hi => Nat.le_trans h.grown.size (k1 i hi)
theorem Grew.drewN {w w1 : World} {base : Nat} {v v1 : Value} {l : List Int} (h : Grew w base v l v1 w1) (n : Nat) : Grew w base v l v1 (w1.drewN n) := ⟨h.own, grown_drewN h.grown n, h.at_⟩
theorem Grew.below {w w' : World} {base : Nat} {v v' : Value} {l0 l : List Int} (ho : w.ownsRow base 5 1 v l0.length (cl .u8 l0)) (h : Grew w base v l v' w') (hb : base ≤ w.heap.size) : Below base w w' :=
  ⟨h.grown.os, h.grown.tape, h.grown.output, h.grown.size, fun i hi => h.grown.block i (by omega) fun e => by have := (ho.lt i e.symm).1; omega⟩
/-- A new block of the walk's own, then an append: as one step. -/
theorem Grew.of_alloc {w w' : World} {base : Nat} {v v' : Value} {l : List Int} {o : Obj} (h : Grew (w.alloc o) base v l v' w') : Grew w base v l v' w' := by
  refine ⟨h.own, ⟨h.grown.os, h.grown.tape, h.grown.output, ?_, fun i hi hne => ?_⟩, ?_⟩
  · have := h.grown.size; rw [World.size_alloc] at this; omega
  · exact (h.grown.block i (by rw [World.size_alloc]; omega) hne).trans (alloc_block_old hi)
  · rcases h.at_ with h1 | h1
    · exact .inl h1
    · exact .inr fun i hi => by have := h1 i hi; rw [World.size_alloc] at this; omega

set_option maxRecDepth 20000 in
theorem run_append_rd {w : World} {base : Nat} {v : Value} {l news : List Int} {B : Nat} {A : Option Addr} {c : Nat} (hown : w.ownsRow base 5 1 v l.length (cl .u8 l)) (hr : Rd w .u8 B A news)
    (hs : l.length + news.length ≤ 1000000) (hbase : base ≤ w.heap.size) :
    ∃ v' w', (Builtin.append_ #[22, 22] 22 #[v, .slice A news.length c]).run Try.prog w = .ok v' w' ∧ Grew w base v (l ++ news) v' w' := by
  rcases A with _ | a
  · have hn : news = [] := by
      rcases news with _ | ⟨x, r⟩
      · rfl
      · obtain ⟨a, e, _⟩ := hr (by simp); cases e
    subst hn
    exact ⟨v, w, run_append_none hown, by rw [List.append_nil]; exact Grew.refl hown⟩
  · obtain ⟨i, hi, hz, hsz, hby⟩ := info_parts u8info
    obtain ⟨v', w', hrun, h2, h3, _, h5⟩ := run_append_own_at (P := Try.prog) w base 22 22 5 i (.int .u8 0) 1 1 Try.underlying22 hi hz hsz hby rfl (by decide) v l.length (cl .u8 l) hown
      a news.length c (cl .u8 news) (by rw [cl_length, Nat.mul_one]) (fun j u hu => by
        obtain ⟨x, hx, rfl⟩ := cl_at hu
        obtain ⟨a', e, _, hc⟩ := hr (fun e => by subst e; simp at hx)
        injection e with e
        subst e
        exact hc j x hx) (cl_one _ _) (by unfold maxLen; omega) (by omega) hbase
    refine ⟨v', w', hrun, ?_, h3, ?_⟩
    · rw [← cl_append] at h2
      rw [List.length_append]
      exact h2
    · rcases h5 with h5 | h5
      · exact .inl h5
      · exact .inr fun k hk => by rw [h5] at hk; injection hk with hk; omega

/-- At the operation, for the walk. -/
theorem wpList_append_rd {w : World} {ops : Array Oper} {rest : List Oper} {o : Oper} {a : Act} {Q : Exit → Act → World → Prop} (hgd : o.guard = none) (s x : Operand)
    (ho : o.op = .call { callee := .builtin .append, args := #[s, x], argTypes := #[22, 22] }) (hty : o.type = 22)
    (base : Nat) (v : Value) (l news : List Int) (B : Nat) (A : Option Addr) (c : Nat) (hsv : a.eval s = v) (hx : a.eval x = .slice A news.length c) (hown : w.ownsRow base 5 1 v l.length (cl .u8 l)) (hr : Rd w .u8 B A news)
    (hs : l.length + news.length ≤ 1000000) (hbase : base ≤ w.heap.size)
    (h : ∀ v' w', Grew w base v (l ++ news) v' w' → wpList Try.prog ops Q rest (a.put o.dst v') w') : wpList Try.prog ops Q (o :: rest) a w := by
  refine wpList_plain hgd fun K hK => ?_
  obtain ⟨v', w', hrun, hg⟩ := run_append_rd (c := c) hown hr hs hbase
  unfold Oper.wp execOp
  simp only [ho, resolve, invoke, builtin, Sem.run_bind, Sem.run_pure, Result.andThen_ok, List.map_toArray, List.map_cons, List.map_nil, hsv, hx, hty, hrun]
  exact hK _ _ (h v' w' hg)

/-- One new number, in a block of its own. -/
theorem rd_one (w : World) (x : Int) (t : TypeId) : Rd (w.alloc (.cells #[.int .u8 x] t)) .u8 (w.heap.size + 1) (some ⟨w.heap.size, 0, none⟩) [x] := fun _ =>
  ⟨_, rfl, by simp, fun j u hu => cell_one_new w (.int .u8 x) t j (.int .u8 u) (by
    match j, hu with
    | 0, hu => simp at hu; subst hu; rfl)⟩
end Go.Proofs.Ytlldkcelkgnalaa
