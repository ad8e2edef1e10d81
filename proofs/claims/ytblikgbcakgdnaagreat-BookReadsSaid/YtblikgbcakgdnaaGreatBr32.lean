/-
  Lists of notices in memory: a slice that reads as notices, nil let in; one notice more, one loaded. No conditions but the sizes.
-/
import Derived.Deep.MidRow
import Derived.Maps.AppendAt
import Derived.WalkSpells
import Derived.Test.YtblikgbcakgdnaaGreatBr03
import Derived.Test.YtblikgbcakgdnaaGreatBr04
import Derived.Test.YtblikgbcakgdnaaGreatBr17
import Derived.Test.YtblikgbcakgdnaaGreatBr20
import Derived.Test.YtblikgbcakgdnaaGreatBr21
import Derived.Test.YtblikgbcakgdnaaGreatBr31
set_option linter.unusedSimpArgs false
set_option linter.unusedVariables false
namespace Go.Proofs.YtblikgbcakgdnaaGreat
set_option maxRecDepth 20000
open Go.ChangeShapes Go.WideShapes Go.ChangeAt Go.RowKit

/-- The types of a list of cycles. -/
structure NyTy (T E : TypeId) : Prop where
  row : Tryz.prog.underlying T = some (.slice E)
  one : ∃ d, Tryz.prog.underlying E = some d ∧ d.isRow = true
  info : (Tryz.prog.info? E).map (fun i => (i.zero, i.size, i.bytes)) = some (some (.agg #[.int .u8 0, .int .i64 0, .int .i64 0, .int .i64 0, .int .i64 0, .int .u8 0]), 6, 48)
theorem NyTy.size {T E : TypeId} (h : NyTy T E) : (Tryz.prog.info? E).map (·.size) = some 6 := by
  obtain ⟨i, hi, _, hs, _⟩ := info_parts h.info
  rw [hi]; exact congrArg some hs
theorem nyty : NyTy 52 46 := ⟨Tryz.underlying52, ⟨_, Tryz.underlying46, rfl⟩, by kernel_rfl⟩
/-- A cycle's cells, and those of cycles one behind the other. -/
theorem Nv.cs_len (c : Nv) : c.cs.length = 6 := rfl
theorem Nv.cs_one (c : Nv) : ∀ u ∈ c.cs, u.oneCell' = true := by
  intro u hu
  simp only [Nv.cs, List.mem_cons, List.not_mem_nil, or_false] at hu
  rcases hu with rfl | rfl | rfl | rfl | rfl | rfl <;> rfl
def ncs (l : List Nv) : List Value := l.flatMap Nv.cs
theorem ncs_nil : ncs [] = [] := rfl
theorem ncs_cons (c : Nv) (l : List Nv) : ncs (c :: l) = c.cs ++ ncs l := by unfold ncs; rw [List.flatMap_cons]
theorem ncs_append (a b : List Nv) : ncs (a ++ b) = ncs a ++ ncs b := by unfold ncs; rw [List.flatMap_append]
theorem ncs_one (c : Nv) : ncs [c] = c.cs := by rw [ncs_cons, ncs_nil, List.append_nil]
theorem ncs_len (l : List Nv) : (ncs l).length = l.length * 6 := by
  induction l with
  | nil => rfl
  | cons c r ih => rw [ncs_cons, List.length_append, ih, Nv.cs_len, List.length_cons]; omega
theorem ncs_cell (l : List Nv) : ∀ u ∈ ncs l, u.oneCell' = true := by
  intro u hu
  obtain ⟨c, _, hc⟩ := List.mem_flatMap.1 hu
  exact c.cs_one u hc
theorem ncs_at {l : List Nv} {k : Nat} {c : Nv} (h : l[k]? = some c) {i : Nat} {v : Value} (hv : c.cs[i]? = some v) : (ncs l)[k * 6 + i]? = some v := by
  induction l generalizing k with
  | nil => simp at h
  | cons q r ih =>
    have hi : i < 6 := by have := (List.getElem?_eq_some_iff.1 hv).1; rwa [Nv.cs_len] at this
    rw [ncs_cons]
    rcases k with _ | k
    · simp at h; subst h
      rw [List.getElem?_append_left (by rw [Nv.cs_len]; omega)]
      simpa using hv
    · rw [List.getElem?_append_right (by rw [Nv.cs_len]; omega), Nv.cs_len, show (k + 1) * 6 + i - 6 = k * 6 + i by omega]
      exact ih (by simpa using h)
/-- A slice reads as these cycles, in a block from b on, below block B. -/
def Nvs (w : World) (b B : Nat) (v : Value) (l : List Nv) : Prop :=
  ∃ A c, v = .slice A l.length c ∧ l.length ≤ c ∧ c ≤ maxLen ∧ (l ≠ [] → ∃ g o, A = some ⟨g, o, none⟩ ∧ (b ≤ g ∧ g < B) ∧ w.rangeAt g o (ncs l)) ∧ (A = none → c = 0)
section
variable {w w' : World} {b b' B B' base : Nat} {v : Value} {l : List Nv} {T E : TypeId}
theorem Nvs.nil : Nvs w b B (.slice none 0 0) [] := ⟨none, 0, rfl, Nat.le_refl _, by unfold maxLen; omega, fun h => absurd rfl h, fun _ => rfl⟩
theorem Nvs.kept (h : Nvs w b B v l) (hk : ∀ i, b ≤ i → i < B → w'.heap[i]? = w.heap[i]?) : Nvs w' b B v l := by
  obtain ⟨A, c, hv, h1, h2, h3, h4⟩ := h
  refine ⟨A, c, hv, h1, h2, fun hl => ?_, h4⟩
  obtain ⟨g, o, hA, hg, hr⟩ := h3 hl
  exact ⟨g, o, hA, hg, fun j u hu => (World.cell?_of_block (a := ⟨g, o + j, none⟩) (hk g hg.1 hg.2)).trans (hr j u hu)⟩
theorem Nvs.below (h : Nvs w b B v l) (hb : Below B w w') : Nvs w' b B v l := h.kept fun i _ hi => hb.block i hi
theorem Nvs.more (h : Nvs w b B v l) (hb : b' ≤ b) (hB : B ≤ B') : Nvs w b' B' v l := by
  obtain ⟨A, c, hv, h1, h2, h3, h4⟩ := h
  refine ⟨A, c, hv, h1, h2, fun hl => ?_, h4⟩
  obtain ⟨g, o, hA, hg, hr⟩ := h3 hl
  exact ⟨g, o, hA, ⟨by omega, by omega⟩, hr⟩
/-- One of them: where it lies. -/
theorem Nvs.at_ (h : Nvs w b B v l) {k : Nat} {c : Nv} (hc : l[k]? = some c) : ∃ g o cap, v = .slice (some ⟨g, o, none⟩) l.length cap ∧ k < l.length ∧ l.length ≤ cap ∧ cap ≤ maxLen ∧ b ≤ g ∧ g < B ∧ w.rangeAt g (o + k * 6) c.cs := by
  obtain ⟨A, cap, hv, h1, h2, h3, _⟩ := h
  obtain ⟨g, o, rfl, hg, hr⟩ := h3 (fun e => by subst e; simp at hc)
  refine ⟨g, o, cap, hv, (List.getElem?_eq_some_iff.1 hc).1, h1, h2, hg.1, hg.2, fun j u hu => ?_⟩
  rw [Nat.add_assoc]
  exact hr _ u (ncs_at hc hu)
/-- A row of the call's own. -/
theorem Nvs.own (h : w.ownsRow base E 6 v l.length (ncs l)) : Nvs w base w.heap.size v l := by
  rcases h.2 with ⟨hv, hn⟩ | ⟨g, cap, cur, hv, hb, hg, h1, h2, h3, h4⟩
  · obtain rfl := List.eq_nil_of_length_eq_zero hn
    subst hv
    exact Nvs.nil
  · refine ⟨_, cap, hv, h1, h2, fun _ => ⟨g, 0, rfl, ⟨hb, (Array.getElem?_eq_some_iff.1 hg).1⟩, fun j u hu => ?_⟩, fun e => by cases e⟩
    rw [cell_of_row _ _ _ _ _ _ hg, Nat.zero_add, ← Array.getElem?_toList]
    rw [← h4] at hu
    rw [List.getElem?_take] at hu
    split at hu
    · exact hu
    · cases hu
/-- All of a list behind a row of the call's own. -/
theorem run_append_nvs (ty : NyTy T E) {q : TypeId} {l0 : List Nv} {v0 : Value} (ho : w.ownsRow base E 6 v0 l0.length (ncs l0)) (h : Nvs w b B v l) (hs : l0.length + l.length ≤ 100000000) (hb : base ≤ w.heap.size) :
    ∃ v' w', (Builtin.append_ #[T, T] q #[v0, v]).run Tryz.prog w = .ok v' w' ∧ w'.ownsRow base E 6 v' (l0 ++ l).length (ncs (l0 ++ l)) ∧ w.grownBy w' v0.ownBlock ∧ (v'.ownBlock = v0.ownBlock ∨ v'.ownBlock = some w.heap.size) := by
  obtain ⟨i, hi, hz, hsz, hby⟩ := info_parts ty.info
  obtain ⟨A, c, rfl, h1, h2, h3, h4⟩ := h
  rcases A with _ | a
  · have hl : l = [] := by
      rcases l with _ | ⟨x, r⟩
      · rfl
      · obtain ⟨g, o, e, _⟩ := h3 (by simp); cases e
    subst hl
    refine ⟨v0, w, ?_, by rw [List.append_nil]; exact ho, grown_refl _ _, .inl rfl⟩
    rcases ho.2 with ⟨rfl, hn⟩ | ⟨g, cap, cur, rfl, _, _, hnc, _⟩
    · simp [Builtin.append_, run_underlying ty.row, sizeOf, typeInfo, hi, Builtin.lenOf, Builtin.firstCells]
    · simp [Builtin.append_, run_underlying ty.row, sizeOf, typeInfo, hi, Builtin.lenOf, Builtin.firstCells, hnc, storeCells]
  · have hcells : ∀ j u, (ncs l)[j]? = some u → w.cell? (a.add j) = some u := fun j u hu => by
      obtain ⟨g, o, e, _, hr⟩ := h3 (fun e => by subst e; simp [ncs_nil] at hu)
      injection e with e
      subst e
      have := hr j u hu
      unfold Addr.add
      split
      · subst_vars; simpa using this
      · exact this
    obtain ⟨v', w', hrun, g1, g2, _, g4⟩ := run_append_own_at (P := Tryz.prog) w base T q E i _ 6 48 ty.row hi hz hsz hby rfl (by decide) v0 l0.length (ncs l0) ho a l.length c (ncs l) (ncs_len l) hcells (ncs_cell l) (by unfold maxLen; omega) (by omega) hb
    refine ⟨v', w', hrun, ?_, g2, g4⟩
    rw [List.length_append, ncs_append]
    exact g1
end
/-- One new notice, in a block of its own. -/
theorem nvs_one (w : World) (c : Nv) (t : TypeId) : Nvs (w.alloc (.cells c.arr t)) w.heap.size (w.heap.size + 1) (.slice (some ⟨w.heap.size, 0, none⟩) 1 1) [c] := by
  refine ⟨some ⟨w.heap.size, 0, none⟩, 1, rfl, Nat.le_refl _, by unfold maxLen; omega, fun _ => ⟨w.heap.size, 0, rfl, ⟨Nat.le_refl _, by omega⟩, fun j u hu => ?_⟩, fun e => by cases e⟩
  rw [cell_of_row _ _ _ _ _ _ alloc_block, Nat.zero_add, ← Array.getElem?_toList]
  rw [ncs_one] at hu
  exact hu
/-- All of a list behind a row of the call's own: at the operation, for the walk. -/
theorem wpList_append_nvs {T E : TypeId} (ty : NyTy T E) {w : World} {ops : Array Oper} {rest : List Oper} {o : Oper} {a : Act} {Q : Exit → Act → World → Prop} (hgd : o.guard = none) (s x : Operand)
    (ho : o.op = .call { callee := .builtin .append, args := #[s, x], argTypes := #[T, T] }) {base b B : Nat} {v0 v : Value} {l0 l : List Nv} (hsv : a.eval s = v0) (hx : a.eval x = v)
    (how : w.ownsRow base E 6 v0 l0.length (ncs l0)) (h : Nvs w b B v l) (hs : l0.length + l.length ≤ 100000000) (hb : base ≤ w.heap.size)
    (hk : ∀ v' w', w'.ownsRow base E 6 v' (l0 ++ l).length (ncs (l0 ++ l)) → w.grownBy w' v0.ownBlock → (v'.ownBlock = v0.ownBlock ∨ v'.ownBlock = some w.heap.size) → wpList Tryz.prog ops Q rest (a.put o.dst v') w') : wpList Tryz.prog ops Q (o :: rest) a w := by
  refine wpList_plain hgd fun K hK => ?_
  obtain ⟨v', w', hrun, h1, h2, h3⟩ := run_append_nvs ty (q := o.type) how h hs hb
  unfold Oper.wp execOp
  simp only [ho, resolve, invoke, builtin, Sem.run_bind, Sem.run_pure, Result.andThen_ok, List.map_toArray, List.map_cons, List.map_nil, hsv, hx, hrun]
  exact hK _ _ (hk v' w' h1 h2 h3)
end Go.Proofs.YtblikgbcakgdnaaGreat
/-
  What a subscription's cycles ask: package account's Asks. No conditions but the sizes.
-/
namespace Go.Proofs.YtblikgbcakgdnaaGreat
set_option maxRecDepth 100000
open Go.ChangeShapes Go.WideShapes Go.ChangeAt Go.RowKit

/-- What a list of cycles asks. -/
def asksOf (s : Int) : List Cv → List Nv
  | [] => []
  | c :: r => (if c.asks = true then [c.ask s] else []) ++ asksOf s r
theorem asksOf_append (s : Int) (a b : List Cv) : asksOf s (a ++ b) = asksOf s a ++ asksOf s b := by
  induction a with
  | nil => rfl
  | cons c r ih => rw [List.cons_append]; show _ ++ asksOf s (r ++ b) = _; rw [ih, ← List.append_assoc]; rfl
theorem asksOf_next {s : Int} {l : List Cv} {j : Nat} {c : Cv} (h : l[j]? = some c) : asksOf s (l.take (j + 1)) = asksOf s (l.take j) ++ (if c.asks = true then [c.ask s] else []) := by
  have hj := (List.getElem?_eq_some_iff.1 h).1
  have hc : l[j] = c := (List.getElem?_eq_some_iff.1 h).2
  rw [List.take_succ_eq_append_getElem hj, hc, asksOf_append]
  show _ ++ ((if c.asks = true then [c.ask s] else []) ++ []) = _
  rw [List.append_nil]
theorem asksOf_len (s : Int) (l : List Cv) : (asksOf s l).length ≤ l.length := by
  induction l with
  | nil => exact Nat.le_refl _
  | cons c r ih =>
    show ((if c.asks = true then [c.ask s] else []) ++ asksOf s r).length ≤ _
    rw [List.length_append, List.length_cons]
    split <;> simp <;> omega
theorem asksOf_mem {s : Int} {l : List Cv} {n : Nv} (h : n ∈ asksOf s l) : ∃ c ∈ l, c.asks = true ∧ n = c.ask s := by
  induction l with
  | nil => cases h
  | cons c r ih =>
    rcases List.mem_append.1 h with h | h
    · split at h
      · rename_i h1
        exact ⟨c, List.mem_cons_self, h1, List.mem_singleton.1 h⟩
      · cases h
    · obtain ⟨c', h1, h2⟩ := ih h
      exact ⟨c', List.mem_cons_of_mem _ h1, h2⟩
set_option maxHeartbeats 8000000 in
theorem asks_any {w : World} {v : Value} {a : Av} (s : Int) (h : Cys w 0 w.heap.size v a.l) (hs : a.l.length ≤ 100000) :
    Calls Tryz.prog 22 #[.int .i64 s, .agg (a.arr v)] w fun e w' => ∃ v', e = .returned v' ∧ w'.ownsRow w.heap.size 46 6 v' (asksOf s a.l).length (ncs (asksOf s a.l)) ∧ Below w.heap.size w w' := by
  obtain ⟨A, cap, rfl, hcap, hcm, _⟩ := id h
  have H := Lib.hid h
  clear h
  go_enter Tryz.func22, Tryz.ntmps22
  go_wp2
  go_loopw [5, 13] (fun sl i wq => ∃ (j : Nat) (v' : Value), j ≤ a.l.length ∧ i = .int .i64 j ∧ sl = v' ∧ Hid (Below w.heap.size w wq) ∧ Hid (wq.ownsRow (w.heap.size + 1) 46 6 v' (asksOf s (a.l.take j)).length (ncs (asksOf s (a.l.take j))))) (fun _ i _ => a.l.length - (intOf i).toNat)
  case atStart => exact ⟨0, _, by omega, rfl, rfl, (Below.refl _ w).alloc (Nat.le_refl _) _, World.ownsRow_nil _ _ _ _⟩
  case round =>
    obtain ⟨j, v', hj, rfl, rfl, HW, HO⟩ := hrel
    have hzw := HW.out.size
    by_cases hlt : j < a.l.length
    case neg =>
      obtain rfl : j = a.l.length := by omega
      have dlt : decide ((a.l.length : Int) < (a.l.length : Int)) = false := by simp
      have HOx := HO
      rw [List.take_length] at HOx
      clear HO
      obtain ⟨An, cn, hvn, _⟩ := own_form HOx.out
      subst hvn
      go_wp2
      go_ret
      exact ⟨_, rfl, ⟨HOx.out.1, HOx.out.2.elim .inl fun ⟨g, cap, cur, h1, h2, h3⟩ => .inr ⟨g, cap, cur, h1, by omega, h3⟩⟩, HW.out⟩
    case pos =>
      have dlt : decide ((j : Int) < (a.l.length : Int)) = true := by simpa using hlt
      obtain ⟨z, hz⟩ : ∃ z, a.l[j]? = some z := ⟨a.l[j], List.getElem?_eq_getElem hlt⟩
      obtain ⟨g, o, cap', hv, y1, y2, y3, _, hgl, hr⟩ := H.out.at_ hz
      injection hv with hv1 hvl hv3
      clear hvl y1 y2 y3
      subst hv1 hv3
      have k0 : (0 : Int) ≤ (j : Int) := by omega
      have k1 : (j : Int) < (a.l.length : Int) := by omega
      have hnx := asksOf_next (s := s) hz
      have hbl := asksOf_len s (a.l.take j)
      rw [List.length_take] at hbl
      obtain ⟨M, hM⟩ : ∃ M, asksOf s (a.l.take j) = M := ⟨_, rfl⟩
      rw [hM] at HO hnx hbl
      have HNX := Lib.hid hnx
      obtain ⟨An, cn, hvn, _⟩ := own_form HO.out
      subst hvn
      obtain ⟨n, d, p, a', u, t, x, gd⟩ := z
      have q : ∀ k v9, (⟨n, d, p, a', u, t, x, gd⟩ : Cv).cs[k]? = some v9 → wr.cell? ⟨g, o + j * 8 + k, none⟩ = some v9 := fun k v9 h9 => (World.cell?_of_block (a := ⟨g, o + j * 8 + k, none⟩) (HW.out.block g hgl)).trans (hr k v9 h9)
      have q0 : wr.cell? ⟨g, o + j * 8, none⟩ = some (.int .i64 n) := q 0 _ rfl
      have q1 : wr.cell? ⟨g, o + j * 8 + 1, none⟩ = some (.int .i64 d) := q 1 _ rfl
      have q2 : wr.cell? ⟨g, o + j * 8 + 2, none⟩ = some (.int .u8 p) := q 2 _ rfl
      have q3 : wr.cell? ⟨g, o + j * 8 + 3, none⟩ = some (.int .i64 a') := q 3 _ rfl
      have q4 : wr.cell? ⟨g, o + j * 8 + 4, none⟩ = some (.int .i64 u) := q 4 _ rfl
      have q5 : wr.cell? ⟨g, o + j * 8 + 5, none⟩ = some (.int .i64 t) := q 5 _ rfl
      have q6 : wr.cell? ⟨g, o + j * 8 + 6, none⟩ = some (.int .i64 x) := q 6 _ rfl
      have q7 : wr.cell? ⟨g, o + j * 8 + 7, none⟩ = some (.bool gd) := q 7 _ rfl
      obtain ⟨b, hb⟩ : ∃ b, Cv.asks ⟨n, d, p, a', u, t, x, gd⟩ = b := ⟨_, rfl⟩
      obtain ⟨q9, hq9⟩ : ∃ q9, Cv.ask s ⟨n, d, p, a', u, t, x, gd⟩ = q9 := ⟨_, rfl⟩
      have HB := Lib.hid hb
      have HQ := Lib.hid hq9
      rw [hb, hq9] at HNX
      clear hr q hz hb hq9 hnx hM
      obtain ⟨K9, S9, C9, T9, M9, V9⟩ := q9
      go_wp2_with (fail)
      refine (cyasks_any _ _ _ _ _ _ _ _ _ _).mono ?_
      rw [HB.out, HQ.out]
      rintro e w1 ⟨rfl, hb1⟩
      have hs1 := hb1.size
      rw [World.size_alloc] at hs1
      have HO1 : Hid (w1.ownsRow (w.heap.size + 1) 46 6 (.slice An M.length cn) M.length (ncs M)) := own_kept HO.out fun i hi => (hb1.block i (by rw [World.size_alloc]; have := (HO.out.lt i hi).2; omega)).trans (alloc_block_old (HO.out.lt i hi).2)
      have HW1 : Hid (Below w.heap.size w w1) := (HW.out.alloc HW.out.size _).trans (hb1.mono (by rw [World.size_alloc]; omega))
      clear hb1 q0 q1 q2 q3 q4 q5 q6 q7 HO HW
      dsimp only [Nv.arr]
      cases b
      · have HNE : Hid (asksOf s (a.l.take (j + 1)) = M) := by
          show _ = _
          rw [HNX.out]; simp
        clear HNX
        go_wp2
        go_roundw
        case rel => exact ⟨j + 1, _, by omega, by go_num, rfl, HW1.out.alloc (by omega) _, by rw [HNE.out]; exact own_kept HO1.out fun i hi => alloc_block_old (HO1.out.lt i hi).2⟩
        case measure => simp [intOf]; omega
      · have HNE : Hid (asksOf s (a.l.take (j + 1)) = M ++ [⟨K9, S9, C9, T9, M9, V9⟩]) := by
          show _ = _
          rw [HNX.out]; simp
        clear HNX
        go_wp2_with (at_builtin; refine stop_here ?_)
        refine ⟨?_⟩
        refine wpList_append_nvs nyty rfl _ _ rfl (l0 := M) (l := [⟨K9, S9, C9, T9, M9, V9⟩]) (base := w.heap.size + 1) (b := w1.heap.size + 1) (B := w1.heap.size + 1 + 1) rfl rfl (own_kept HO1.out fun i hi => ?_) ?_ (by rw [List.length_singleton]; omega) (by simp; omega) ?_
        · rw [alloc_block_old (by rw [World.size_alloc]; have := (HO1.out.lt i hi).2; omega), alloc_block_old (HO1.out.lt i hi).2]
        · have h9 := nvs_one (w1.alloc (.cells (⟨K9, S9, C9, T9, M9, V9⟩ : Nv).arr 46)) ⟨K9, S9, C9, T9, M9, V9⟩ 46
          rw [World.size_alloc] at h9
          exact h9
        intro v5 w5 ho5 hg5 hat5
        obtain ⟨L, hL⟩ : ∃ L, M ++ [⟨K9, S9, C9, T9, M9, V9⟩] = L := ⟨_, rfl⟩
        rw [hL] at ho5 HNE
        clear hL
        obtain ⟨A5, c5, hv5, _, _⟩ := own_form ho5
        subst hv5
        have HO5 := Lib.hid ho5
        have HW5 : Hid (Below w.heap.size w w5) := by
          have hq := HW1.out
          refine ⟨hg5.os.trans hq.os, hg5.tape.trans hq.tape, hg5.output.trans hq.output, by have := hg5.size; simp only [World.size_alloc] at this; omega, fun i hi => ?_⟩
          rw [hg5.block i (by simp only [World.size_alloc]; omega) (fun e => by have := (HO1.out.lt _ e.symm).1; omega), alloc_block_old (by rw [World.size_alloc]; omega), alloc_block_old (by omega)]
          exact hq.block i hi
        clear hg5 hat5 ho5
        go_wp2
        go_roundw
        case rel => exact ⟨j + 1, _, by omega, by go_num, rfl, HW5, by rw [HNE.out]; exact HO5.out⟩
        case measure => simp [intOf]; omega
end Go.Proofs.YtblikgbcakgdnaaGreat
/-
  A subscription of the document's as it stands on a day: what it keeps, whatever is done, and the contracts that hold of it. No conditions but those that each law names.
-/
namespace Go.Proofs.YtblikgbcakgdnaaGreat
set_option linter.unusedVariables false
set_option linter.unusedSimpArgs false
set_option maxRecDepth 100000
open Go.ChangeShapes Go.WideShapes Go.ChangeAt Go.RowKit

/-- A plan as it may be. -/
structure Pv.Ok (p : Pv) : Prop where
  u : 0 ≤ p.u ∧ p.u ≤ 3
  e : 1 ≤ p.e ∧ p.e ≤ 1000
  a : 0 ≤ p.a ∧ p.a ≤ 1100000000
/-- A subscription of the document's as it stands on a day, of a plan: its money is below M, its cycles are at most L. -/
structure Sta (M L : Int) (p : Pv) (y : Int) (s : Sv) : Prop where
  ok : SOk M s
  len : (s.l.length : Int) ≤ L
  ex : ∃ k d c, Cal.At s.an k d ∧ Cal.Cnt p.u s.an k d p.e y c ∧ (s.st ≠ 3 → s.ix = c) ∧ s.ix ≤ c ∧ c ≤ L
theorem Sta.more {M M' L L' : Int} {p : Pv} {y : Int} {s : Sv} (h : Sta M L p y s) (hm : M ≤ M') (hl : L ≤ L') : Sta M' L' p y s := by
  obtain ⟨k, d, c, h1, h2, h3, h4, h5⟩ := h.ex
  exact ⟨h.ok.more hm, Int.le_trans h.len hl, k, d, c, h1, h2, h3, h4, Int.le_trans h5 hl⟩
/-- What a day makes of it, on both sides. -/
structure DayOk (M L : Int) (p : Pv) (y : Int) (s s' : Sv) : Prop where
  sta : Sta M L p y s'
  pl : s'.pl = s.pl
  st : s'.st = s.st
  calls : ∀ (W : World) (v : Value), Cys W 0 W.heap.size v (opn s.l) → Calls Tryz.prog 58 #[.agg (s.tell.arr v), .agg p.arr, .int .i64 y] W (News W s'.tell)
  comes : ∀ (ps : List Pv) (pk : Nat), s.pl = (pk : Int) → ps[pk]? = some p → Comes ps y s s'
  day : ∃ k d, Cal.At s.an k d ∧ (0 ≤ p.u ∧ p.u ≤ 3) ∧ (1 ≤ p.e ∧ p.e ≤ 1000) ∧ (0 ≤ p.a ∧ p.a ≤ 100000000000) ∧ (0 ≤ s.ix ∧ s.ix ≤ 15000) ∧ s.l.length ≤ 500000 ∧ (-100000000000 ≤ s.cr ∧ s.cr ≤ 100000000000) ∧ (∀ c ∈ s.l, (-1000000000000 ≤ c.u ∧ c.u ≤ 1000000000000) ∧ 0 ≤ c.t ∧ c.t ≤ 1000) ∧ s' = Sv.day (Cal.nth s.an k d p.u p.e) p y s
theorem SOk.us {M : Int} {s : Sv} (h : SOk M s) (hM : M ≤ 100000000000) : ∀ c ∈ s.l, (-1000000000000 ≤ c.u ∧ c.u ≤ 1000000000000) ∧ 0 ≤ c.t ∧ c.t ≤ 1000 := by
  intro c hc
  have g := h.cs c hc
  have := g.u0; have := g.u1; have := g.t0; have := g.t1
  exact ⟨⟨by omega, by omega⟩, by omega, by omega⟩
theorem COk.fit {M : Int} {c : Cv} (g : COk M c) (hM : M ≤ 100000000000) : c.Fit := by
  have := g.t0; have := g.t1; have := g.a0; have := g.a1; have := g.u0; have := g.u1
  exact ⟨by omega, by omega, by omega, by omega, by omega, by omega⟩
theorem Cal.nth_bd {a k d u e i v : Int} (h : Cal.At a k d) (he : 1 ≤ e) (hi : 0 ≤ i) (hv : Cal.nth a k d u e i = some v) : -10000000 ≤ v ∧ v ≤ 10000000 := by
  unfold Cal.nth at hv
  split at hv
  · rename_i ho
    injection hv with hv
    have := Cal.vN_bd (u := u) h he hi ho
    omega
  · cases hv
/-- A day has come: what it makes of it, by how many periods have begun. -/
theorem Sta.day_of {M L : Int} {p : Pv} {y y' : Int} {s : Sv} (h : Sta M L p y s) (hp : p.Ok) (hy : y ≤ y') (h0 : 0 ≤ y') (h1 : y' ≤ 3652058) (hM : M ≤ 100000000000) (hyy : y' - y ≤ 4000) (hL : L + (y' - y) ≤ 9000) : ∃ s' k d c c', DayOk M (L + (y' - y)) p y' s s' ∧ Cal.At s.an k d ∧ Cal.Cnt p.u s.an k d p.e y c ∧ Cal.Cnt p.u s.an k d p.e y' c' ∧ c ≤ c' ∧ (s.st ≠ 3 → s.ix = c) ∧ s'.tell = Av.day (Cal.vN p.u s.an k d p.e) p c' y' s.tell ∧ s'.an = s.an := by
  obtain ⟨k, d, c, hAt, hcn, hix, hic, hcL⟩ := h.ex
  obtain ⟨c', hcn'⟩ := Cal.cnt_of (u := p.u) hAt hp.e.1 h0 h1
  obtain ⟨f1, f2⟩ := hcn.far hcn' hAt hp.e.1 hy
  have hbd : s.st ≠ 3 → s.ix ≤ c' ∧ c' - s.ix ≤ 4000 := fun h3 => by have := hix h3; omega
  obtain ⟨i1, i2, i3, i4, i5, i6⟩ := day_ix (p := p) hcn' hp.e.1 h.ok.ix0 hbd
  have ht := tell_day (p := p) (s := s) rfl rfl hcn' hp.e.1 h.ok.ix0 hbd
  obtain ⟨s', hs'⟩ : ∃ s', Sv.day (Cal.nth s.an k d p.u p.e) p y' s = s' := ⟨_, rfl⟩
  have hok : SOk M s' := by rw [← hs']; exact h.ok.day hp.a (fun i v hi hv => Cal.nth_bd hAt hp.e.1 hi hv) y'
  have hs3 : s.st = 3 → s'.ix = s.ix := fun h3 => by rw [← hs']; unfold Sv.day; dsimp only; rw [if_pos h3]
  have hcom : Comes [] y' s s' → True := fun _ => trivial
  have hcr := h.ok.cr
  have hlen := h.len
  have hix0 := h.ok.ix0
  have hix1 := h.ok.ix1
  have hu := h.ok.us hM
  rw [hs'] at i1 i2 i3 i4 i5 i6 ht
  have hsta : Sta M (L + (y' - y)) p y' s' := by
    refine ⟨hok, ?_, k, d, c', by rw [i5]; exact hAt, by rw [i5]; exact hcn', fun h3 => i1 (by rw [← i4]; exact h3), ?_, by omega⟩
    · by_cases h3 : s.st = 3
      · rw [if_pos h3] at i3; omega
      · rw [if_neg h3] at i3
        have := hix h3
        omega
    · by_cases h3 : s.st = 3
      · rw [hs3 h3]; omega
      · rw [i1 h3]; exact Int.le_refl _
  refine ⟨s', k, d, c, c', ⟨hsta, i6, i4, fun W v hv => ?_, fun ps pk hpl hpk => ⟨⟨p, pk, k, d, hpl, hpk, hAt, hp.u, hp.e, by have := hp.a; omega, hs'.symm⟩, by omega, by omega, by omega, hu⟩, k, d, hAt, hp.u, hp.e, by have := hp.a; omega, by omega, by omega, by omega, hu, hs'.symm⟩, hAt, hcn, hcn', by omega, hix, ht, i5⟩
  · rw [ht]
    have ol := opn_len s.l
    have hcr2 : ((Sv.tell s).each (fun z => (fun z => Cv.wake z y') z)).cr = s.cr := by
      have e := tell_each_open s (fun c => c.wake y') (fun c _ hc => wake_ends y' c hc) (fun c _ hc => wake_open y' c hc)
      have e2 := congrArg Av.cr e
      exact e2.symm
    exact day_any (m := s.l.length + 1) (a := s.tell) hv (by show (opn s.l).length ≤ 10000; omega) (h.ok.fit hM) (by omega) (h.ok.fits hM) (by show 0 ≤ (s.l.length : Int) ∧ (s.l.length : Int) ≤ 1000000; omega) hAt hp.u hp.e (by show 0 ≤ s.ix ∧ s.ix ≤ 100000; omega) (by show c' ≤ s.ix + 10000; omega) hcn' (by have := hp.a; omega) (by rw [hcr2]; omega)
theorem Sta.day {M L : Int} {p : Pv} {y y' : Int} {s : Sv} (h : Sta M L p y s) (hp : p.Ok) (hy : y ≤ y') (h0 : 0 ≤ y') (h1 : y' ≤ 3652058) (hM : M ≤ 100000000000) (hyy : y' - y ≤ 4000) (hL : L + (y' - y) ≤ 9000) : ∃ s', DayOk M (L + (y' - y)) p y' s s' := by
  obtain ⟨s', _, _, _, _, D, _⟩ := h.day_of hp hy h0 h1 hM hyy hL
  exact ⟨s', D⟩
theorem Sta.state {M L : Int} {p : Pv} {y : Int} {s : Sv} (h : Sta M L p y s) (x : Int) (hx : x = 1 ∨ x = 2) (h3 : s.st ≠ 3) : Sta M L p y { s with st := x } := by
  obtain ⟨k, d, c, h1, h2, h4, h5, h6⟩ := h.ex
  exact ⟨h.ok.state x (by omega), h.len, k, d, c, h1, h2, fun _ => h4 h3, h5, h6⟩
theorem Sta.skips {M L : Int} {p : Pv} {y : Int} {s : Sv} (h : Sta M L p y s) (x : Bool) : Sta M L p y { s with sk := x } := by
  obtain ⟨k, d, c, h1, h2, h4, h5, h6⟩ := h.ex
  exact ⟨h.ok.skips x, h.len, k, d, c, h1, h2, h4, h5, h6⟩
theorem Sta.cancelled {M L : Int} {p : Pv} {y : Int} {s : Sv} (h : Sta M L p y s) : Sta M L p y { s with st := 3, cr := s.cr + gainOf (fun c => c.over) s.l, l := s.l.map (fun c => c.over) } := by
  obtain ⟨k, d, c, h1, h2, h4, h5, h6⟩ := h.ex
  exact ⟨h.ok.cancelled.1, by show ((s.l.map (fun c => c.over)).length : Int) ≤ L; rw [List.length_map]; exact h.len, k, d, c, h1, h2, fun g => absurd rfl g, h5, h6⟩
theorem Sta.carded {M L : Int} {p : Pv} {y : Int} {s : Sv} (h : Sta M L p y s) : Sta M L p y { s with l := s.l.map (fun c => c.card) } := by
  obtain ⟨k, d, c, h1, h2, h4, h5, h6⟩ := h.ex
  exact ⟨h.ok.carded.1, by show ((s.l.map (fun c => c.card)).length : Int) ≤ L; rw [List.length_map]; exact h.len, k, d, c, h1, h2, h4, h5, h6⟩
theorem Sta.heard {M L : Int} {p : Pv} {y : Int} {s : Sv} (h : Sta M L p y s) {m : Nat} {c z : Cv} (hm : s.l[m]? = some c) (hc : c.p < 7) (hz : COk M z) (hu : z.u = c.u) (hn : z.n = c.n) : Sta M L p y { s with cr := Cy.gain s.cr c z, l := s.l.set m z } := by
  obtain ⟨k, d, c', h1, h2, h4, h5, h6⟩ := h.ex
  exact ⟨(h.ok.heard hm hc hz hu hn).1, by show ((s.l.set m z).length : Int) ≤ L; rw [List.length_set]; exact h.len, k, d, c', h1, h2, h4, h5, h6⟩
/-- What is asked, and by which cycle. -/
theorem SOk.asked {M : Int} {s : Sv} (h : SOk M s) {i : Int} {q : Nat} {nv : Nv} (hq : (asksOf i (opn s.l))[q]? = some nv) : ∃ (m : Nat) (c : Cv), s.l[m]? = some c ∧ c.p < 7 ∧ nv = c.ask i ∧ nv.s = i ∧ nv.c = (m : Int) ∧ nv.v = 0 ∧ ∀ V : Int, V ≠ 0 → c.Heard i ⟨nv.k, nv.s, nv.c, nv.t, nv.a, V⟩ := by
  obtain ⟨c, hc, hk, rfl⟩ := asksOf_mem (List.mem_of_getElem? hq)
  obtain ⟨h1, h2⟩ := opn_mem hc
  obtain ⟨m, hm⟩ := List.getElem?_of_mem h1
  have hn := h.num m c hm
  have hk2 : Cy.kind c.p ≠ 0 := by unfold Cv.asks at hk; simpa using hk
  have e : c.ask i = ⟨Cy.kind c.p, i, c.n, if c.p = 1 then c.t else 0, if c.p = 1 ∨ c.p = 6 then c.a else 0, 0⟩ := if_neg hk2
  refine ⟨m, c, hm, h2, rfl, by rw [e], by rw [e]; exact hn, by rw [e], fun V hV => ⟨hk2, hV, by rw [e]⟩⟩
theorem part_bd {a l d : Int} (ha : 0 ≤ a) (h0 : 0 ≤ l) (h1 : l ≤ d) (h2 : 1 ≤ d) : 0 ≤ a * l / d ∧ a * l / d ≤ a := by
  refine ⟨Int.ediv_nonneg (Int.mul_nonneg ha h0) (by omega), ?_⟩
  exact Int.ediv_le_of_le_mul (by omega) (Int.mul_le_mul_of_nonneg_left h1 ha)
/-- Another plan ahead of its first period. -/
theorem Sta.change_free {M L : Int} {p q : Pv} {y : Int} {s : Sv} (h : Sta M L p y s) (n : Int) (hay : y < s.an) (hL : 0 ≤ L) : Sta (M + 1100000000) L q y { s with pl := n, ix := 0 } := by
  obtain ⟨k, d, c, h1, h2, h4, h5, h6⟩ := h.ex
  have e : ({ s with pl := n, ix := 0 } : Sv) = { s with pl := n, an := s.an, ix := 0, cr := s.cr + 0 } := by rw [Int.add_zero]
  exact ⟨by rw [e]; exact h.ok.changed n s.an (by omega), h.len, k, d, 0, h1, Cal.Cnt.before h1 hay, fun _ => rfl, Int.le_refl _, hL⟩
/-- Another plan within a period: what is given back, and taken. -/
theorem Sta.change_go {M L : Int} {p q : Pv} {y : Int} {s : Sv} (h : Sta M L p y s) (hp : p.Ok) (hq : q.Ok) (n : Int) (hst : s.st = 1) (hay : s.an ≤ y) (hL : 0 ≤ L) {k d : Int} (hAt : Cal.At s.an k d) (hcn : Cal.Cnt p.u s.an k d p.e y s.ix) (hok : Cal.okN p.u s.an k p.e s.ix = true) : Sta (M + 1100000000) L q y { s with cr := s.cr + (p.a * (Cal.vN p.u s.an k d p.e s.ix - y) / (Cal.vN p.u s.an k d p.e s.ix - Cal.vN p.u s.an k d p.e (s.ix - 1)) - q.a * (Cal.vN p.u s.an k d p.e s.ix - y) / (Cal.vN p.u s.an k d p.e s.ix - Cal.vN p.u s.an k d p.e (s.ix - 1))), an := Cal.vN p.u s.an k d p.e s.ix, pl := n, ix := 0 } := by
  have hpos := hcn.pos hAt hay
  have h1 := hcn.out hok
  obtain ⟨_, h2⟩ := hcn.all (s.ix - 1) (by omega) (by omega)
  have hp2 := hp.a
  have hq2 := hq.a
  obtain ⟨v1, hv1⟩ : ∃ v1, Cal.vN p.u s.an k d p.e s.ix = v1 := ⟨_, rfl⟩
  obtain ⟨v0, hv0⟩ : ∃ v0, Cal.vN p.u s.an k d p.e (s.ix - 1) = v0 := ⟨_, rfl⟩
  have hbd := Cal.vN_bd (u := p.u) hAt hp.e.1 (n := s.ix) (by omega) hok
  rw [hv1] at h1 hbd
  rw [hv0] at h2
  rw [hv1, hv0]
  clear hv1 hv0
  obtain ⟨b1, b2⟩ := part_bd (a := p.a) (l := v1 - y) (d := v1 - v0) hp2.1 (by omega) (by omega) (by omega)
  obtain ⟨b3, b4⟩ := part_bd (a := q.a) (l := v1 - y) (d := v1 - v0) hq2.1 (by omega) (by omega) (by omega)
  obtain ⟨k', d', hAt'⟩ := Cal.at_of v1 hbd.1 hbd.2
  exact ⟨h.ok.changed n v1 (by omega), h.len, k', d', 0, hAt', Cal.Cnt.before hAt' h1, fun _ => rfl, Int.le_refl _, hL⟩
end Go.Proofs.YtblikgbcakgdnaaGreat
