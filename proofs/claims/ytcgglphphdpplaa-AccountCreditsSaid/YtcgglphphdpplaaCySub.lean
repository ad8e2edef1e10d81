/-
  A subscription's lists: the document's own 'with' and 'change'. No conditions but the sizes.
-/
import Derived.Test.YtcgglphphdpplaaCys
import Derived.Test.YtcgglphphdpplaaBox3
namespace Go.Proofs.Ytcgglphphdpplaa
set_option maxRecDepth 20000
open Go.ChangeShapes Go.WideShapes Go.ChangeAt Go.RowKit

/-- All of a list behind a row of the call's own: at the operation, for the walk. -/
theorem wpList_append_cys {T E : TypeId} (ty : CyTy T E) {w : World} {ops : Array Oper} {rest : List Oper} {o : Oper} {a : Act} {Q : Exit → Act → World → Prop} (hgd : o.guard = none) (s x : Operand)
    (ho : o.op = .call { callee := .builtin .append, args := #[s, x], argTypes := #[T, T] }) {base b B : Nat} {v0 v : Value} {l0 l : List Cv} (hsv : a.eval s = v0) (hx : a.eval x = v)
    (how : w.ownsRow base E 8 v0 l0.length (ccs l0)) (h : Cys w b B v l) (hs : l0.length + l.length ≤ 100000000) (hb : base ≤ w.heap.size)
    (hk : ∀ v' w', w'.ownsRow base E 8 v' (l0 ++ l).length (ccs (l0 ++ l)) → w.grownBy w' v0.ownBlock → (v'.ownBlock = v0.ownBlock ∨ v'.ownBlock = some w.heap.size) → wpList Try.prog ops Q rest (a.put o.dst v') w') : wpList Try.prog ops Q (o :: rest) a w := by
  refine wpList_plain hgd fun K hK => ?_
  obtain ⟨v', w', hrun, h1, h2, h3⟩ := run_append_cys ty (q := o.type) how h hs hb
  unfold Oper.wp execOp
  simp only [ho, resolve, invoke, builtin, Sem.run_bind, Sem.run_pure, Result.andThen_ok, List.map_toArray, List.map_cons, List.map_nil, hsv, hx, hrun]
  exact hK _ _ (hk v' w' h1 h2 h3)
theorem grown_none {w w' : World} (h : w.grownBy w' none) : Below w.heap.size w w' := ⟨h.os, h.tape, h.output, h.size, fun i hi => h.block i hi (by simp)⟩
theorem setCells_below {w w1 : World} {g o : Nat} {vs : List Value} {b : Nat} (h : Below b w w1) (hg : b ≤ g) : Below b w (w1.setCells g o vs) := by
  induction vs generalizing w1 o with
  | nil => exact h
  | cons v r ih => exact ih (Below.setCell (p := ⟨g, o, none⟩) h hg v)
/-- A row of the call's own in which one cycle is stored anew: what it reads as. -/
theorem set_reads {w : World} {g : Nat} {l : List Cv} {k : Nat} {c : Cv} {cs : List Value} (hcs : c.cs = cs) (hr : w.rangeAt g 0 (ccs l)) (ht : w.there g (k * 8) 8) (hk : k < l.length) : (w.setCells g (k * 8) cs).rangeAt g 0 (ccs (l.set k c)) := by
  have hl : cs.length = 8 := by rw [← hcs]; exact c.cs_len
  have h1 := World.rangeAt_setCells_same w g (k * 8) cs (by rw [hl]; exact ht)
  intro j u hu
  obtain ⟨q, hq, hqu⟩ := ccs_of hu
  have hj : j = j / 8 * 8 + j % 8 := by omega
  have hm : j % 8 < 8 := by omega
  rw [Nat.zero_add]
  generalize j / 8 = J at *
  generalize j % 8 = I at *
  subst hj
  by_cases he : J = k
  · rw [he, List.getElem?_set_self (by omega)] at hq
    injection hq with hq
    rw [← hq, hcs] at hqu
    rw [he]
    exact h1 I u hqu
  · rw [List.getElem?_set_ne (by omega)] at hq
    have h5 : w.rangeAt g (J * 8) q.cs := fun i v hv => by
      have := hr _ v (ccs_at hq hv)
      rw [Nat.zero_add] at this
      exact this
    have h6 := World.rangeAt_setCells_apart h5 g (k * 8) cs (by rw [Cv.cs_len, hl]; omega)
    exact h6 I u hqu
theorem Cys.set {w : World} {base : Nat} {E : TypeId} {g cap : Nat} {l : List Cv} {k : Nat} {c : Cv} {cs : List Value} (hcs : c.cs = cs) (h : w.ownsRow base E 8 (.slice (some ⟨g, 0, none⟩) l.length cap) l.length (ccs l)) (hk : k < l.length) :
    w.there g (k * 8) 8 ∧ Cys (w.setCells g (k * 8) cs) base (w.setCells g (k * 8) cs).heap.size (.slice (some ⟨g, 0, none⟩) l.length cap) (l.set k c) := by
  have hz : w.heap.size ≤ (w.setCells g (k * 8) cs).heap.size := (setCells_below (Below.refl 0 w) (Nat.zero_le g)).size
  rcases h.2 with ⟨hv, _⟩ | ⟨g', cap', cur, hv, hb, hg, h1, h2, h3, h4⟩
  · injection hv with e; cases e
  injection hv with e1 e2 e3
  injection e1 with e1
  injection e1 with e1
  subst e1 e3
  have hr : w.rangeAt g 0 (ccs l) := fun j u hu => by
    rw [cell_of_row _ _ _ _ _ _ hg, Nat.zero_add, ← Array.getElem?_toList]
    rw [← h4, List.getElem?_take] at hu
    split at hu
    · exact hu
    · cases hu
  have ht : w.there g (k * 8) 8 := fun j hj => ⟨by rw [cell_of_row _ _ _ _ _ _ hg, Array.getElem?_eq_getElem (by rw [h3]; have : (k + 1) * 8 ≤ cap * 8 := Nat.mul_le_mul_right 8 (by omega); omega)]; rfl, by unfold World.frozen?; rw [hg]; simp⟩
  exact ⟨ht, some ⟨g, 0, none⟩, cap, by rw [List.length_set], by rw [List.length_set]; exact h1, h2, fun _ => ⟨g, 0, rfl, ⟨hb, Nat.lt_of_lt_of_le (Array.getElem?_eq_some_iff.1 hg).1 hz⟩, set_reads hcs hr ht hk⟩, fun e => by cases e⟩
/-- What the copy of a list leaves, behind one box. -/
theorem with_row {w w1 : World} {cs : Array Value} {t : TypeId} {E : TypeId} {v1 : Value} {l : List Cv} {k : Nat} (hk : k < l.length) (ho : w1.ownsRow (w.heap.size + 1) E 8 v1 l.length (ccs l)) (hg : (w.alloc (.cells cs t)).grownBy w1 none) :
    ∃ g cap, v1 = .slice (some ⟨g, 0, none⟩) l.length cap ∧ w.heap.size < g ∧ l.length ≤ cap ∧ cap ≤ maxLen ∧ w1.heap[w.heap.size]? = some (.cells cs t (0, 0)) ∧ Below w.heap.size w w1 := by
  have hb := grown_none hg
  rcases ho.2 with ⟨_, hn⟩ | ⟨g, cap, cur, hv, hbg, _, h1, h2, _⟩
  · omega
  · exact ⟨g, cap, hv, by omega, h1, h2, below_block hb (alloc_at rfl), ((Below.refl _ w).alloc (Nat.le_refl _) _).trans (hb.mono (by simp))⟩
set_option maxHeartbeats 1000000 in
theorem refwith_any {w : World} {v : Value} {l : List Cv} {k : Nat} (n d p a u t x : Int) (g : Bool) (h : Cys w 0 w.heap.size v l) (hk : k < l.length) (hs : l.length ≤ 1000000) :
    Calls Try.prog 68 #[v, .int .i64 k, .agg #[.int .i64 n, .int .i64 d, .int .u8 p, .int .i64 a, .int .i64 u, .int .i64 t, .int .i64 x, .bool g]] w fun e w' => ∃ v', e = .returned v' ∧ Cys w' w.heap.size w'.heap.size v' (l.set k ⟨n, d, p, a, u, t, x, g⟩) ∧ Below w.heap.size w w' := by
  have H := Lib.hid h
  clear h
  have k0 : (0 : Int) ≤ (k : Int) := by omega
  have k1 : (k : Int) < (l.length : Int) := by omega
  go_enter Try.func68, Try.ntmps68
  go_wp2_with (first | (at_builtin; refine wpList_append_cys cytyr rfl _ _ rfl (l0 := []) (base := w.heap.size + 1) rfl rfl (World.ownsRow_nil _ _ _ _) ((H.out.below ((Below.refl _ w).alloc (Nat.le_refl _) _))) (by simp; omega) (by simp) ?_; intro v1 w1 ho1 hg1 _; rw [List.nil_append] at ho1; obtain ⟨gg, cap, rfl, hgg, hcap, hcm, hbox, hbl⟩ := with_row (k := k) (l := l) hk ho1 hg1; obtain ⟨c0, c1, c2, c3, c4, c5, c6, c7⟩ := cells8 hbox; have HO := Lib.hid ho1; have HBL := Lib.hid hbl; clear ho1 hg1 hbox hbl) | ((with_reducible_and_instances (show wpList _ _ _ (Oper.mk _ (Op.store 97 _ _) _ _ _ _ :: _) _ _)); refine wpList_store_mid rfl _ _ _ rfl gg (k * 8) (#[.int .i64 n, .int .i64 d, .int .u8 p, .int .i64 a, .int .i64 u, .int .i64 t, .int .i64 x, .bool g]) rfl rfl (Cys.set (c := ⟨n, d, p, a, u, t, x, g⟩) rfl HO.out hk).1 info8r (by simp [Value.oneCell']) ?_))
  go_ret
  exact ⟨_, rfl, (Cys.set (c := ⟨n, d, p, a, u, t, x, g⟩) rfl HO.out hk).2.more (by omega) (Nat.le_refl _), setCells_below HBL.out (by omega)⟩
end Go.Proofs.Ytcgglphphdpplaa
