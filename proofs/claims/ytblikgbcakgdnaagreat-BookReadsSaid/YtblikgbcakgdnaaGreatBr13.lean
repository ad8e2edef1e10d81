/-
  Plans in memory; the first day of the next period: package account's 'begun'. No conditions but those that each law names.
-/
import Derived.Laws.ResultCell
import Derived.Deep.MidRow
import Derived.Maps.AppendAt
import Derived.WalkSpells
import Derived.Deep.CutRange
import Derived.Test.YtblikgbcakgdnaaGreatBr03
import Derived.Test.YtblikgbcakgdnaaGreatBr04
import Derived.Test.YtblikgbcakgdnaaGreatBr06
import Derived.Test.YtblikgbcakgdnaaGreatBr09
import Derived.Test.YtblikgbcakgdnaaGreatBr12
set_option linter.unusedSimpArgs false
set_option linter.unusedVariables false
namespace Go.Proofs.YtblikgbcakgdnaaGreat
set_option maxRecDepth 20000
open Go.ChangeShapes Go.WideShapes Go.ChangeAt Go.RowKit

def Pv.arr (p : Pv) : Array Value := #[.int .i64 p.a, .int .u8 p.u, .int .i64 p.e, .int .i64 p.t, .bool p.g, .bool p.l]
theorem Pv.arr_size (p : Pv) : p.arr.size = 6 := rfl
theorem Pv.arr_one (p : Pv) : p.arr.all (·.oneCell') = true := by simp [Pv.arr, Value.oneCell']
theorem info6p : (Tryz.prog.info? 44).map (·.size) = some 6 := by kernel_rfl
theorem Pv.at0 (p : Pv) : p.arr[0]? = some (.int .i64 p.a) := rfl
theorem Pv.at1 (p : Pv) : p.arr[1]? = some (.int .u8 p.u) := rfl
theorem Pv.at2 (p : Pv) : p.arr[2]? = some (.int .i64 p.e) := rfl
theorem Pv.at3 (p : Pv) : p.arr[3]? = some (.int .i64 p.t) := rfl
theorem Pv.at4 (p : Pv) : p.arr[4]? = some (.bool p.g) := rfl
theorem Pv.at5 (p : Pv) : p.arr[5]? = some (.bool p.l) := rfl
theorem Pv.set0 (p : Pv) (x : Int) : p.arr.setIfInBounds 0 (.int .i64 x) = ({ p with a := x } : Pv).arr := rfl
theorem Pv.set1 (p : Pv) (x : Int) : p.arr.setIfInBounds 1 (.int .u8 x) = ({ p with u := x } : Pv).arr := rfl
theorem Pv.set2 (p : Pv) (x : Int) : p.arr.setIfInBounds 2 (.int .i64 x) = ({ p with e := x } : Pv).arr := rfl
theorem Pv.set3 (p : Pv) (x : Int) : p.arr.setIfInBounds 3 (.int .i64 x) = ({ p with t := x } : Pv).arr := rfl
theorem Pv.set4 (p : Pv) (x : Bool) : p.arr.setIfInBounds 4 (.bool x) = ({ p with g := x } : Pv).arr := rfl
theorem Pv.set5 (p : Pv) (x : Bool) : p.arr.setIfInBounds 5 (.bool x) = ({ p with l := x } : Pv).arr := rfl
attribute [simp, go_sem] Pv.arr_size Pv.at0 Pv.set0 Pv.at1 Pv.set1 Pv.at2 Pv.set2 Pv.at3 Pv.set3 Pv.at4 Pv.set4 Pv.at5 Pv.set5
theorem run_loadAt_row {P : Program} (w : World) (g : Nat) (t ty : TypeId) (cs : Array Value) (fr : Nat × Nat) (d : TypeDesc) (hg : w.heap[g]? = some (.cells cs t fr))
    (hu : P.underlying ty = some d) (hd : (match d with | .struct _ | .array _ _ => true | _ => false) = true) (hi : (P.info? ty).map (·.size) = some cs.size) : (Instr.loadAt ty (.pointer (some ⟨g, 0, none⟩))).run P w = .ok (.agg cs) w := by
  simp only [Instr.loadAt, Instr.sureAddr, Sem.run_bind, Sem.run_pure, Result.andThen_ok, run_loadVar_row w g t ty cs fr d hg hu hd hi]
/-- When the next period begins, if it has. -/
def Begun (a : Av) (N : Int → Int) (c : Int) (w : World) (e : Ending) (w' : World) : Prop := (∃ x, e = .returned (.tuple #[.int .i64 x, .bool (decide (a.ix < c))]) ∧ (a.ix < c → x = N a.ix)) ∧ Below w.heap.size w w'
set_option maxHeartbeats 1000000 in
theorem begun_any {w : World} {v : Value} {a : Av} {p : Pv} {y c k d : Int} (hAt : Cal.At a.an k d) (hU : 0 ≤ p.u ∧ p.u ≤ 3) (hE : 1 ≤ p.e ∧ p.e ≤ 1000) (hix : 0 ≤ a.ix ∧ a.ix ≤ 3652058) (hc : Cal.Cnt p.u a.an k d p.e y c) :
    Calls Tryz.prog 88 #[.agg (a.arr v), .agg p.arr, .int .i64 y] w (Begun a (Cal.vN p.u a.an k d p.e) c w) := by
  have HAT := Lib.hid hAt
  have HC := Lib.hid hc
  obtain ⟨hu0, hu1⟩ := hU
  obtain ⟨he0, he1⟩ := hE
  obtain ⟨hi0, hi1⟩ := hix
  clear hAt hc
  cases ho : Cal.okN p.u a.an k p.e a.ix
  · have hd : decide (a.ix < c) = false := by
      have : ¬ a.ix < c := fun h => by have := (HC.out.all a.ix hi0 h).1; rw [ho] at this; cases this
      simpa using this
    have HD := Lib.hid hd
    have HO := Lib.hid ho
    clear hd ho
    go_enter Tryz.func88, Tryz.ntmps88
    go_wp2_with (fail)
    refine (nth_long _ _ _ _ _ _ _ HAT.out hu0 hu1 he0 he1 hi0 hi1 HO.out).mono ?_
    rintro e w1 ⟨rfl, hb⟩
    have HB := Lib.hid (((Below.refl _ w).alloc (Nat.le_refl _) (.cells (a.arr v) 32)).alloc (by simp) (.cells p.arr 44) |>.trans (hb.mono (by simp; omega)))
    clear hb
    go_wp2
    go_ret2
    exact ⟨⟨0, by rw [HD.out]; rfl, fun h => by have := HD.out; simp at this; omega⟩, HB.out⟩
  · obtain ⟨x, hx⟩ : ∃ x, Cal.vN p.u a.an k d p.e a.ix = x := ⟨_, rfl⟩
    have hd : decide (x ≤ y) = decide (a.ix < c) := by
      rw [decide_eq_decide]
      constructor
      · intro h
        by_cases h2 : a.ix < c
        · exact h2
        · exfalso
          have h3 : a.ix = c ∨ c < a.ix := by omega
          rcases h3 with h3 | h3
          · have := HC.out.out (by rw [← h3]; exact ho); rw [← h3, hx] at this; omega
          · have h5 := Cal.okN_le (u := p.u) he0 (show c ≤ a.ix by omega) ho
            have := HC.out.out h5
            have h6 := Cal.vN_lt (u := p.u) HAT.out he0 h3
            rw [hx] at h6; omega
      · intro h
        have := (HC.out.all a.ix hi0 h).2
        rw [hx] at this; exact this
    have HD := Lib.hid hd
    have HO := Lib.hid ho
    have HX := Lib.hid hx
    clear hd ho hx
    go_enter Tryz.func88, Tryz.ntmps88
    go_wp2_with (fail)
    refine (nth_yes _ _ _ _ _ _ _ HAT.out hu0 hu1 he0 he1 hi0 hi1 HO.out).mono ?_
    rw [HX.out]
    rintro e w1 ⟨rfl, hb⟩
    have HB := Lib.hid (((Below.refl _ w).alloc (Nat.le_refl _) (.cells (a.arr v) 32)).alloc (by simp) (.cells p.arr 44) |>.trans (hb.mono (by simp; omega)))
    clear hb
    go_wp2
    go_ret2
    exact ⟨⟨x, by rw [← HD.out]; rfl, fun _ => HX.out.symm⟩, HB.out⟩
end Go.Proofs.YtblikgbcakgdnaaGreat
/-
  Lists of plans in memory: a slice that reads as plans, nil let in; one copied, one loaded. No conditions but the sizes.
-/
namespace Go.Proofs.YtblikgbcakgdnaaGreat
set_option maxRecDepth 20000
open Go.ChangeShapes Go.WideShapes Go.ChangeAt Go.RowKit

/-- The types of a list of cycles. -/
structure PyTy (T E : TypeId) : Prop where
  row : Tryz.prog.underlying T = some (.slice E)
  one : ∃ d, Tryz.prog.underlying E = some d ∧ d.isRow = true
  info : (Tryz.prog.info? E).map (fun i => (i.zero, i.size, i.bytes)) = some (some (.agg #[.int .i64 0, .int .u8 0, .int .i64 0, .int .i64 0, .bool false, .bool false]), 6, 40)
theorem PyTy.size {T E : TypeId} (h : PyTy T E) : (Tryz.prog.info? E).map (·.size) = some 6 := by
  obtain ⟨i, hi, _, hs, _⟩ := info_parts h.info
  rw [hi]; exact congrArg some hs
theorem pyty : PyTy 27 44 := ⟨Tryz.underlying27, ⟨_, Tryz.underlying44, rfl⟩, by kernel_rfl⟩
/-- A cycle's cells, and those of cycles one behind the other. -/
def qcs (l : List Pv) : List Value := l.flatMap Pv.cs
theorem qcs_nil : qcs [] = [] := rfl
theorem qcs_cons (c : Pv) (l : List Pv) : qcs (c :: l) = c.cs ++ qcs l := by unfold qcs; rw [List.flatMap_cons]
theorem qcs_append (a b : List Pv) : qcs (a ++ b) = qcs a ++ qcs b := by unfold qcs; rw [List.flatMap_append]
theorem qcs_one (c : Pv) : qcs [c] = c.cs := by rw [qcs_cons, qcs_nil, List.append_nil]
theorem qcs_len (l : List Pv) : (qcs l).length = l.length * 6 := by
  induction l with
  | nil => rfl
  | cons c r ih => rw [qcs_cons, List.length_append, ih, Pv.cs_len, List.length_cons]; omega
theorem qcs_cell (l : List Pv) : ∀ u ∈ qcs l, u.oneCell' = true := by
  intro u hu
  obtain ⟨c, _, hc⟩ := List.mem_flatMap.1 hu
  exact c.cs_one u hc
theorem qcs_at {l : List Pv} {k : Nat} {c : Pv} (h : l[k]? = some c) {i : Nat} {v : Value} (hv : c.cs[i]? = some v) : (qcs l)[k * 6 + i]? = some v := by
  induction l generalizing k with
  | nil => simp at h
  | cons q r ih =>
    have hi : i < 6 := by have := (List.getElem?_eq_some_iff.1 hv).1; rwa [Pv.cs_len] at this
    rw [qcs_cons]
    rcases k with _ | k
    · simp at h; subst h
      rw [List.getElem?_append_left (by rw [Pv.cs_len]; omega)]
      simpa using hv
    · rw [List.getElem?_append_right (by rw [Pv.cs_len]; omega), Pv.cs_len, show (k + 1) * 6 + i - 6 = k * 6 + i by omega]
      exact ih (by simpa using h)
/-- A slice reads as these cycles, in a block from b on, below block B. -/
def Pys (w : World) (b B : Nat) (v : Value) (l : List Pv) : Prop :=
  ∃ A c, v = .slice A l.length c ∧ l.length ≤ c ∧ c ≤ maxLen ∧ (l ≠ [] → ∃ g o, A = some ⟨g, o, none⟩ ∧ (b ≤ g ∧ g < B) ∧ w.rangeAt g o (qcs l)) ∧ (A = none → c = 0)
section
variable {w w' : World} {b b' B B' base : Nat} {v : Value} {l : List Pv} {T E : TypeId}
theorem Pys.nil : Pys w b B (.slice none 0 0) [] := ⟨none, 0, rfl, Nat.le_refl _, by unfold maxLen; omega, fun h => absurd rfl h, fun _ => rfl⟩
theorem Pys.kept (h : Pys w b B v l) (hk : ∀ i, b ≤ i → i < B → w'.heap[i]? = w.heap[i]?) : Pys w' b B v l := by
  obtain ⟨A, c, hv, h1, h2, h3, h4⟩ := h
  refine ⟨A, c, hv, h1, h2, fun hl => ?_, h4⟩
  obtain ⟨g, o, hA, hg, hr⟩ := h3 hl
  exact ⟨g, o, hA, hg, fun j u hu => (World.cell?_of_block (a := ⟨g, o + j, none⟩) (hk g hg.1 hg.2)).trans (hr j u hu)⟩
theorem Pys.below (h : Pys w b B v l) (hb : Below B w w') : Pys w' b B v l := h.kept fun i _ hi => hb.block i hi
theorem Pys.more (h : Pys w b B v l) (hb : b' ≤ b) (hB : B ≤ B') : Pys w b' B' v l := by
  obtain ⟨A, c, hv, h1, h2, h3, h4⟩ := h
  refine ⟨A, c, hv, h1, h2, fun hl => ?_, h4⟩
  obtain ⟨g, o, hA, hg, hr⟩ := h3 hl
  exact ⟨g, o, hA, ⟨by omega, by omega⟩, hr⟩
/-- One of them: where it lies. -/
theorem Pys.at_ (h : Pys w b B v l) {k : Nat} {c : Pv} (hc : l[k]? = some c) : ∃ g o cap, v = .slice (some ⟨g, o, none⟩) l.length cap ∧ k < l.length ∧ l.length ≤ cap ∧ cap ≤ maxLen ∧ b ≤ g ∧ g < B ∧ w.rangeAt g (o + k * 6) c.cs := by
  obtain ⟨A, cap, hv, h1, h2, h3, _⟩ := h
  obtain ⟨g, o, rfl, hg, hr⟩ := h3 (fun e => by subst e; simp at hc)
  refine ⟨g, o, cap, hv, (List.getElem?_eq_some_iff.1 hc).1, h1, h2, hg.1, hg.2, fun j u hu => ?_⟩
  rw [Nat.add_assoc]
  exact hr _ u (qcs_at hc hu)
/-- A row of the call's own. -/
theorem Pys.own (h : w.ownsRow base E 6 v l.length (qcs l)) : Pys w base w.heap.size v l := by
  rcases h.2 with ⟨hv, hn⟩ | ⟨g, cap, cur, hv, hb, hg, h1, h2, h3, h4⟩
  · obtain rfl := List.eq_nil_of_length_eq_zero hn
    subst hv
    exact Pys.nil
  · refine ⟨_, cap, hv, h1, h2, fun _ => ⟨g, 0, rfl, ⟨hb, (Array.getElem?_eq_some_iff.1 hg).1⟩, fun j u hu => ?_⟩, fun e => by cases e⟩
    rw [cell_of_row _ _ _ _ _ _ hg, Nat.zero_add, ← Array.getElem?_toList]
    rw [← h4] at hu
    rw [List.getElem?_take] at hu
    split at hu
    · exact hu
    · cases hu
/-- All of a list behind a row of the call's own. -/
theorem run_append_pys (ty : PyTy T E) {q : TypeId} {l0 : List Pv} {v0 : Value} (ho : w.ownsRow base E 6 v0 l0.length (qcs l0)) (h : Pys w b B v l) (hs : l0.length + l.length ≤ 100000000) (hb : base ≤ w.heap.size) :
    ∃ v' w', (Builtin.append_ #[T, T] q #[v0, v]).run Tryz.prog w = .ok v' w' ∧ w'.ownsRow base E 6 v' (l0 ++ l).length (qcs (l0 ++ l)) ∧ w.grownBy w' v0.ownBlock ∧ (v'.ownBlock = v0.ownBlock ∨ v'.ownBlock = some w.heap.size) := by
  obtain ⟨i, hi, hz, hsz, hby⟩ := info_parts ty.info
  obtain ⟨A, c, rfl, h1, h2, h3, h4⟩ := h
  rcases A with _ | a
  · have hl : l = [] := by
      rcases l with _ | ⟨x, r⟩
      · rfl
      · obtain ⟨g, o, e, _⟩ := h3 (by simp); cases e
    subst hl
    refine ⟨v0, w, ?_, by rw [List.append_nil]; exact ho, grown_refl _ _, .inl rfl⟩
    rcases ho.2 with ⟨rfl, hn⟩ | ⟨g, cap, cur, rfl, _, _, hnc, _⟩
    · simp [Builtin.append_, run_underlying ty.row, sizeOf, typeInfo, hi, Builtin.lenOf, Builtin.firstCells]
    · simp [Builtin.append_, run_underlying ty.row, sizeOf, typeInfo, hi, Builtin.lenOf, Builtin.firstCells, hnc, storeCells]
  · have hcells : ∀ j u, (qcs l)[j]? = some u → w.cell? (a.add j) = some u := fun j u hu => by
      obtain ⟨g, o, e, _, hr⟩ := h3 (fun e => by subst e; simp [qcs_nil] at hu)
      injection e with e
      subst e
      have := hr j u hu
      unfold Addr.add
      split
      · subst_vars; simpa using this
      · exact this
    obtain ⟨v', w', hrun, g1, g2, _, g4⟩ := run_append_own_at (P := Tryz.prog) w base T q E i _ 6 40 ty.row hi hz hsz hby rfl (by decide) v0 l0.length (qcs l0) ho a l.length c (qcs l) (qcs_len l) hcells (qcs_cell l) (by unfold maxLen; omega) (by omega) hb
    refine ⟨v', w', hrun, ?_, g2, g4⟩
    rw [List.length_append, qcs_append]
    exact g1
end
theorem Lst.pys {w : World} {base : Nat} {v : Value} {l : List Pv} (h : Lst w base v l) : Pys w base w.heap.size v l := Pys.own h
theorem Pys.one {w : World} {b B : Nat} {v : Value} {l : List Pv} (h : Pys w b B v l) : v.oneCell' = true := by
  obtain ⟨A, c, rfl, _⟩ := h; rfl
theorem Lst.below {w w' : World} {b : Nat} {v : Value} {l : List Pv} (h : Lst w b v l) (hk : Below w.heap.size w w') : Lst w' b v l := own_kept h fun i hi => hk.block i (h.lt i hi).2
theorem Lst.more {w : World} {b b' : Nat} {v : Value} {l : List Pv} (h : Lst w b v l) (hb : b' ≤ b) : Lst w b' v l := ⟨h.1, h.2.elim .inl fun ⟨g, cap, cur, h1, h2, h3⟩ => .inr ⟨g, cap, cur, h1, by omega, h3⟩⟩
theorem Lst.boxed {w : World} {b n : Nat} {v : Value} {l : List Pv} {cs : Array Value} {t : TypeId} (h : Lst w b v l) (hn : n < b) : Lst (Go.Proofs.YtblikgbcakgdnaaGreat.boxed w n cs t) b v l := own_kept h fun i hi => boxed_block_other (by have := (h.lt i hi).1; omega)
theorem Pys.boxed {w : World} {b B n : Nat} {v : Value} {l : List Pv} {cs : Array Value} {t : TypeId} (h : Pys w b B v l) (hn : n < b ∨ B ≤ n) : Pys (Go.Proofs.YtblikgbcakgdnaaGreat.boxed w n cs t) b B v l := h.kept fun i h1 h2 => boxed_block_other (by omega)
/-- All of a list behind a row of the call's own: at the operation, for the walk. -/
theorem wpList_append_pys {T E : TypeId} (ty : PyTy T E) {w : World} {ops : Array Oper} {rest : List Oper} {o : Oper} {a : Act} {Q : Exit → Act → World → Prop} (hgd : o.guard = none) (s x : Operand)
    (ho : o.op = .call { callee := .builtin .append, args := #[s, x], argTypes := #[T, T] }) {base b B : Nat} {v0 v : Value} {l0 l : List Pv} (hsv : a.eval s = v0) (hx : a.eval x = v)
    (how : w.ownsRow base E 6 v0 l0.length (qcs l0)) (h : Pys w b B v l) (hs : l0.length + l.length ≤ 100000000) (hb : base ≤ w.heap.size)
    (hk : ∀ v' w', w'.ownsRow base E 6 v' (l0 ++ l).length (qcs (l0 ++ l)) → w.grownBy w' v0.ownBlock → (v'.ownBlock = v0.ownBlock ∨ v'.ownBlock = some w.heap.size) → wpList Tryz.prog ops Q rest (a.put o.dst v') w') : wpList Tryz.prog ops Q (o :: rest) a w := by
  refine wpList_plain hgd fun K hK => ?_
  obtain ⟨v', w', hrun, h1, h2, h3⟩ := run_append_pys ty (q := o.type) how h hs hb
  unfold Oper.wp execOp
  simp only [ho, resolve, invoke, builtin, Sem.run_bind, Sem.run_pure, Result.andThen_ok, List.map_toArray, List.map_cons, List.map_nil, hsv, hx, hrun]
  exact hK _ _ (hk v' w' h1 h2 h3)
set_option maxHeartbeats 1000000 in
theorem plclone_any {w : World} {v : Value} {l : List Pv} (h : Pys w 0 w.heap.size v l) (hs : l.length ≤ 1000000) :
    Calls Tryz.prog 54 #[v] w fun e w' => ∃ v', e = .returned v' ∧ Lst w' w.heap.size v' l ∧ Below w.heap.size w w' := by
  have H := Lib.hid h
  obtain ⟨A, c, rfl, h1, h2, h3, h4⟩ := h
  rcases A with _ | a
  · obtain rfl := h4 rfl
    obtain rfl : l = [] := List.eq_nil_of_length_eq_zero (by omega)
    clear h3 h4 H h1 h2
    have q := fun w => Lib.run_eql_slice_nil (P := Tryz.prog) w 27 44 none 0 0 0 0 Tryz.underlying27
    go_enter Tryz.func54, Tryz.ntmps54
    go_wp2
    go_ret
    exact ⟨_, rfl, World.ownsRow_nil _ _ _ _, Below.refl _ _⟩
  · clear h3 h4
    have q := fun w => Lib.run_eql_slice_nil (P := Tryz.prog) w 27 44 (some a) l.length c 0 0 Tryz.underlying27
    go_enter Tryz.func54, Tryz.ntmps54
    go_wp2_with (at_builtin; refine wpList_append_pys pyty rfl _ _ rfl (l0 := []) (base := w.heap.size) rfl rfl (World.ownsRow_made w #[] 0 (Nat.le_refl _) (by unfold maxLen; omega) rfl) (H.out.below ((Below.refl _ w).alloc (Nat.le_refl _) _)) (by simp; omega) (by simp) ?_; intro v1 w1 ho1 hg1 _; rw [List.nil_append] at ho1)
    go_ret
    exact ⟨_, rfl, ho1, ((Below.refl _ w).alloc (Nat.le_refl _) _).trans (grown_from (b := w.heap.size) hg1 (fun i hi => by injection hi with hi; subst hi; exact Nat.le_refl _) (by simp))⟩
/-- One of the plans, by its number. -/
theorem plget_yes {w : World} {v : Value} {b B k : Nat} {l : List Pv} {p : Pv} (h : Pys w b B v l) (hB : B ≤ w.heap.size) (hk : l[k]? = some p) : Calls Tryz.prog 57 #[v, .int .i64 (k : Int)] w fun x w' => x = .returned (.tuple #[.agg p.arr, .int .i64 0]) ∧ Below w.heap.size w w' := by
  obtain ⟨pa, pu, pe, pt, pg, pl⟩ := p
  obtain ⟨g, o, c, rfl, hkn, hnc, hcm, _, hgB, hr⟩ := h.at_ hk
  have hgw : g < w.heap.size := by omega
  obtain ⟨n, hn⟩ : ∃ n, l.length = n := ⟨_, rfl⟩
  rw [hn] at hkn hnc ⊢
  have c0 := hr 0 _ rfl
  have c1 := hr 1 _ rfl
  have c2 := hr 2 _ rfl
  have c3 := hr 3 _ rfl
  have c4 := hr 4 _ rfl
  have c5 := hr 5 _ rfl
  dsimp only at c0 c1 c2 c3 c4 c5
  rw [Nat.add_zero] at c0
  have d1 : decide ((k : Int) < 0) = false := by simp
  have d2 : decide ((n : Int) ≤ (k : Int)) = false := by simp; omega
  clear hr h hk hn
  go_enter Tryz.func57, Tryz.ntmps57
  go_wp2
  refine bodyPost_ret (v := .tuple #[.agg #[.int .i64 pa, .int .u8 pu, .int .i64 pe, .int .i64 pt, .bool pg, .bool pl], .int .i64 0]) ?_ rfl ⟨rfl, by go_grown⟩
  simp [results, Tryz.results57, go_sem]
end Go.Proofs.YtblikgbcakgdnaaGreat
/-
  A book copied: the same one, with lists of its own. No conditions but the sizes.
-/
namespace Go.Proofs.YtblikgbcakgdnaaGreat
set_option maxRecDepth 100000
open Go.ChangeShapes Go.WideShapes Go.ChangeAt Go.RowKit

/-- What a book reads as: its plans, its subscriptions' cycles; below a block. -/
structure KbM (w : World) (b0 c0 : Nat) (b : Kb) (ps : List Pv) : Prop where
  one : b.One
  ps : Pys w b0 c0 b.vp ps
  cs : ∀ k, k < 32 → Cys w b0 c0 (b.v k) (b.a k).l
theorem KbM.kept {w w' : World} {b0 c0 : Nat} {b : Kb} {ps : List Pv} (h : KbM w b0 c0 b ps) (hk : ∀ i, b0 ≤ i → i < c0 → w'.heap[i]? = w.heap[i]?) : KbM w' b0 c0 b ps := ⟨h.one, h.ps.kept hk, fun k hk2 => (h.cs k hk2).kept hk⟩
theorem KbM.below {w w' : World} {b0 c0 : Nat} {b : Kb} {ps : List Pv} (h : KbM w b0 c0 b ps) (hb : Below c0 w w') : KbM w' b0 c0 b ps := h.kept fun i _ hi => hb.block i hi
theorem KbM.more {w : World} {b0 c0 b1 c1 : Nat} {b : Kb} {ps : List Pv} (h : KbM w b0 c0 b ps) (hb : b1 ≤ b0) (hc : c0 ≤ c1) : KbM w b1 c1 b ps := ⟨h.one, h.ps.more hb hc, fun k hk => (h.cs k hk).more hb hc⟩
theorem KbM.boxed {w : World} {b0 c0 n : Nat} {b : Kb} {ps : List Pv} {cs : Array Value} {t : TypeId} (h : KbM w b0 c0 b ps) (hn : n < b0 ∨ c0 ≤ n) : KbM (Go.Proofs.YtblikgbcakgdnaaGreat.boxed w n cs t) b0 c0 b ps := h.kept fun i h1 h2 => boxed_block_other (by omega)
/-- The first ones' slices are others. -/
def Kb.mid (b : Kb) (vv : Nat → Value) (j : Nat) : Kb := { b with v := fun k => if k < j then vv k else b.v k }
theorem Kb.mid_zero (b : Kb) (vv : Nat → Value) : b.mid vv 0 = b := by
  unfold Kb.mid
  congr 1
theorem Kb.mid_next (b : Kb) (vv : Nat → Value) (j : Nat) (v' : Value) : (b.mid vv j).put j (b.a j) v' = b.mid (fun k => if k = j then v' else vv k) (j + 1) := by
  unfold Kb.mid Kb.put
  congr 1
  · funext k
    dsimp only
    by_cases h : k = j
    · rw [if_pos h, h]
    · rw [if_neg h]
  · funext k
    dsimp only
    by_cases h : k = j
    · rw [if_pos h, if_pos (by omega), if_pos h]
    · rw [if_neg h]
      by_cases h2 : k < j
      · rw [if_pos h2, if_pos (by omega), if_neg h]
      · rw [if_neg h2, if_neg (by omega)]
theorem Kb.one_of {w : World} {b : Kb} {b0 c0 : Nat} (hp : b.vp.oneCell' = true) (h : ∀ k, k < 32 → Cys w b0 c0 (b.v k) (b.a k).l) : b.One := ⟨hp, fun k hk => by obtain ⟨A, c, he, _⟩ := h k hk; rw [he]; rfl⟩
set_option maxHeartbeats 8000000 in
theorem copied_any {w : World} {b : Kb} {ps : List Pv} (h : KbM w 0 w.heap.size b ps) (hps : ps.length ≤ 1000) (hl : ∀ k, k < 32 → (b.a k).l.length ≤ 1000000) : Calls Tryz.prog 26 #[.agg b.arr] w fun e w' => ∃ vp vv, e = .returned (.agg ({ b with vp := vp, v := vv } : Kb).arr) ∧ Lst w' (w.heap.size + 1 + 1) vp ps ∧ (∀ k, k < 32 → Cys w' (w.heap.size + 1 + 1) w'.heap.size (vv k) (b.a k).l) ∧ Below w.heap.size w w' := by
  have H := Lib.hid h
  have HL := Lib.hid hl
  clear h hl
  go_enter Tryz.func26, Tryz.ntmps26
  go_wp2_with fail
  refine (plclone_any (l := ps) ((H.out.ps.below (((Below.refl _ w).alloc (Nat.le_refl _) _).alloc (by simp) _)).more (Nat.le_refl _) (by simp; omega)) (by omega)).mono ?_
  rintro e w1 ⟨vp, rfl, ho1, hb1⟩
  have hB1 : w1.heap[w.heap.size]? = some (.cells b.arr 35 (0, 0)) := below_block hb1 (alloc_old (by simp) (alloc_at rfl))
  have hZ1 : w1.heap[w.heap.size + 1]? = some (.cells Tryz.zeroCells35 35 (0, 0)) := below_block hb1 (alloc_at (by simp))
  have hW1 : Below w.heap.size w w1 := (((Below.refl _ w).alloc (Nat.le_refl _) _).alloc (by simp) _).trans (hb1.mono (by simp; omega))
  have hz1 : w.heap.size + 1 < w1.heap.size := (Array.getElem?_eq_some_iff.1 hZ1).1
  rw [World.size_alloc, World.size_alloc] at ho1
  have HO1 := Lib.hid ho1
  have HW1 := Lib.hid hW1
  have hz10 : w.heap.size < w1.heap.size := by omega
  clear hb1 ho1 hW1
  have eb := boxed_self hB1
  rw [eb]
  clear eb
  obtain ⟨vA, vc, hvf, _, _⟩ := HO1.out.form
  have HVF := Lib.hid hvf
  rw [hvf]
  clear hvf
  go_upto_region 2 with fail
  rw [← HVF.out]
  obtain ⟨b1, hb1⟩ : ∃ b1, ({ b with vp := vp } : Kb) = b1 := ⟨_, rfl⟩
  rw [hb1]
  obtain ⟨W2, hW2⟩ : ∃ W2, boxed w1 w.heap.size b1.arr 35 = W2 := ⟨_, rfl⟩
  have B2 : W2.heap[w.heap.size]? = some (.cells b1.arr 35 (0, 0)) := by rw [← hW2]; exact boxed_at hz10
  have Z2 : W2.heap[w.heap.size + 1]? = some (.cells Tryz.zeroCells35 35 (0, 0)) := by rw [← hW2]; exact boxed_old (by omega) hZ1
  have HW2 : Hid (Below w.heap.size w W2) := by rw [← hW2]; exact boxed_below HW1.out (Nat.le_refl _)
  have HO2 : Hid (Lst W2 (w.heap.size + 1 + 1) vp ps) := by rw [← hW2]; exact HO1.out.boxed (by omega)
  have ea : b1.a = b.a := by rw [← hb1]
  have ev : b1.v = b.v := by rw [← hb1]
  have ep : b1.vp = vp := by rw [← hb1]
  have et : b1.td = b.td := by rw [← hb1]
  have EA := Lib.hid ea
  have EV := Lib.hid ev
  have EP := Lib.hid ep
  have ET := Lib.hid et
  rw [hW2]
  clear hW2 hZ1 hz10 hz1 HW1 HO1 hB1 ea ev ep et hb1 w1
  go_wp2_with (((with_reducible_and_instances (show wpList _ _ _ (Oper.mk _ (Op.load 33 _) _ _ _ _ :: _) _ _)); refine stop_here ?_))
  refine ⟨?_⟩
  refine wpList_load_mid rfl _ _ rfl w.heap.size 2 rfl b1.subs.toList _ (Kb.range_subs B2) Tryz.underlying33 rfl Kb.infos_l ?_
  rw [Array.toArray_toList]
  go_wp2_with fail
  go_loopw [11] (fun ii wq => ∃ (j : Nat) (vv : Nat → Value), j ≤ 32 ∧ ii = .int .i64 j ∧ Hid (Below w.heap.size w wq) ∧ Hid (wq.heap[w.heap.size]? = some (.cells (b1.mid vv j).arr 35 (0, 0))) ∧ Hid (wq.heap[w.heap.size + 1]? = some (.cells Tryz.zeroCells35 35 (0, 0))) ∧ Hid (∀ k, k < j → Cys wq (w.heap.size + 1 + 1) wq.heap.size (vv k) (b.a k).l) ∧ Hid (Lst wq (w.heap.size + 1 + 1) vp ps)) (fun ii _ => 32 - (intOf ii).toNat)
  case atStart => exact ⟨0, b1.v, by omega, rfl, HW2, by rw [Kb.mid_zero]; exact B2, Z2, fun k hk => by omega, HO2⟩
  case round =>
    clear HW2 B2 Z2 HO2
    obtain ⟨j, vv, hj, rfl, HW, HB, HZ, HC, HO⟩ := hrel
    have hb := HB.out
    have hzz := HZ.out
    have hz : w.heap.size + 1 < wr.heap.size := (Array.getElem?_eq_some_iff.1 hzz).1
    have hz0 : w.heap.size < wr.heap.size := by omega
    by_cases hlt : j < 32
    case pos =>
      have dlt : decide ((j : Int) < 32) = true := by simp; omega
      have q := fun w => Kb.run_index b1 hlt w
      rw [EA.out, EV.out] at q
      have hln := HL.out j hlt
      have hcy := H.out.cs j hlt
      obtain ⟨a, ha⟩ : ∃ a, b.a j = a := ⟨_, rfl⟩
      obtain ⟨v, hv⟩ : ∃ v, b.v j = v := ⟨_, rfl⟩
      rw [ha, hv] at q hcy
      rw [ha] at hln
      have HCY := Lib.hid hcy
      have hv1 : v.oneCell' = true := by obtain ⟨A, c, he, _⟩ := hcy; rw [he]; rfl
      have HA := Lib.hid ha
      have HV := Lib.hid hv
      have hjI : (j : Int) < 32 := by omega
      have hjJ : (0 : Int) ≤ (j : Int) := by omega
      clear ha hv hcy
      go_wp2_with (((with_reducible_and_instances (show wpList _ _ _ (Oper.mk _ (Op.store 32 _ _) _ _ _ _ :: _) _ _)); refine stop_here ?_))
      refine ⟨?_⟩
      refine wl_store (g := wr.heap.size) info13 rfl rfl rfl rfl (alloc_at rfl) rfl rfl (Av.arr_one hv1) ?_
      go_wp2_with (((with_reducible_and_instances (show wpList _ _ _ (Oper.mk _ (Op.load 32 _) _ _ _ _ :: _) _ _)); refine stop_here ?_))
      refine ⟨?_⟩
      refine wl_load (cs := a.arr v) (fr := (0, 0)) (g := wr.heap.size) Tryz.underlying32 rfl info13 rfl rfl rfl (boxed_at (by simp)) rfl ?_
      go_wp2_with fail
      refine (copy_any (a := a) ((HCY.out.kept (w' := boxed (wr.alloc (.cells #[.int .u8 0, .int .i64 0, .int .i64 0, .int .i64 0, .int .i64 0, .int .i64 0, .bool false, .slice none 0 0, .int .i64 0, .int .i64 0, .int .i64 0, .int .i64 0, .int .i64 0] 32)) wr.heap.size (a.arr v) 32) fun i _ h2 => ?_).more (Nat.le_refl _) ?_) (by omega)).mono ?_
      · have := HW.out.size
        rw [boxed_block_other (by omega), alloc_block_old (by omega)]
        exact HW.out.block i h2
      · have := HW.out.size
        simp
        omega
      rintro e w3 ⟨v3, rfl, ho3, hb3⟩
      have hB3 : w3.heap[w.heap.size]? = some (.cells (b1.mid vv j).arr 35 (0, 0)) := below_block hb3 (boxed_old (by omega) (alloc_old (by omega) hb))
      have hZ3 : w3.heap[w.heap.size + 1]? = some (.cells Tryz.zeroCells35 35 (0, 0)) := below_block hb3 (boxed_old (by omega) (alloc_old (by omega) hzz))
      have hW3 : Below w.heap.size w w3 := (boxed_below (HW.out.alloc HW.out.size _) (by omega)).trans (hb3.mono (by simp; omega))
      have hs3 : wr.heap.size + 1 ≤ w3.heap.size := by have := hb3.size; simp at this; omega
      have hold : ∀ i, i < wr.heap.size → w3.heap[i]? = wr.heap[i]? := fun i hi => by
        rw [hb3.block i (by simp; omega), boxed_block_other (by omega), alloc_block_old hi]
      have HOLD := Lib.hid hold
      have HC3 : Hid (Cys w3 (w.heap.size + 1 + 1) w3.heap.size v3 a.l) := ho3.cys.more (by simp; omega) (Nat.le_refl _)
      have hv31 := ho3.one
      have HW3 := Lib.hid hW3
      have hz3 : w.heap.size < w3.heap.size := by omega
      clear hb3 ho3 hold hW3 q
      have eb := boxed_self hB3
      rw [eb]
      clear eb
      go_wp2_with (((with_reducible_and_instances (show wpList _ _ _ (Oper.mk _ (Op.store 32 _ _) _ _ _ _ :: _) _ _)); refine stop_here ?_))
      refine ⟨?_⟩
      refine wpList_store_mid rfl _ _ _ rfl w.heap.size (2 + j * 13) (a.arr v3) rfl rfl (Kb.there hz3 (by rw [Av.arr_size]; omega)) info13 (Av.arr_one hv31) ?_
      rw [Kb.store]
      have hnext := Kb.mid_next b1 vv j v3
      rw [EA.out, HA.out] at hnext
      rw [hnext]
      clear hnext
      go_wp2_with fail
      go_roundw
      case rel =>
        refine ⟨j + 1, fun k => if k = j then v3 else vv k, by omega, by go_num, boxed_below HW3.out (Nat.le_refl _), boxed_at hz3, boxed_old (by omega) hZ3, fun k hk => ?_, ?_⟩
        · by_cases e : k = j
          · subst e
            dsimp only
            rw [if_pos rfl, HA.out]
            exact (HC3.out.boxed (.inl (by omega))).more (Nat.le_refl _) (by simp)
          · dsimp only
            rw [if_neg e]
            refine ((HC.out k (by omega)).kept fun i h1 h2 => ?_).more (Nat.le_refl _) (by simp; omega)
            rw [boxed_block_other (by omega)]
            exact HOLD.out i h2
        · refine own_kept HO.out fun i hi => ?_
          have := HO.out.lt i hi
          rw [boxed_block_other (by omega)]
          exact HOLD.out i this.2
      case measure => simp [intOf]; omega
    case neg =>
      obtain rfl : j = 32 := by omega
      have dlt : decide (((32 : Nat) : Int) < 32) = false := by decide
      have hone : (b1.mid vv 32).One := Kb.one_of (w := wr) (b0 := w.heap.size + 1 + 1) (c0 := wr.heap.size) (by show b1.vp.oneCell' = true; rw [EP.out]; exact HO.out.pys.one) (fun k hk => by
        show Cys wr _ _ (if k < 32 then vv k else b1.v k) (b1.a k).l
        rw [if_pos hk, EA.out]
        exact HC.out k hk)
      have HONE := Lib.hid hone
      clear hlt hj hone
      go_wp2_with (((with_reducible_and_instances (show wpList _ _ _ (Oper.mk _ (Op.load 35 _) _ _ _ _ :: _) _ _)); refine stop_here ?_))
      refine ⟨?_⟩
      refine wl_load (cs := (b1.mid vv 32).arr) (fr := (0, 0)) (g := w.heap.size) Tryz.underlying35 rfl Kb.info rfl rfl rfl hb (Kb.arr_size _) ?_
      go_wp2_with (((with_reducible_and_instances (show wpList _ _ _ (Oper.mk _ (Op.store 35 _ _) _ _ _ _ :: _) _ _)); refine stop_here ?_))
      refine ⟨?_⟩
      refine wl_store (g := w.heap.size + 1) Kb.info rfl rfl rfl rfl hzz Kb.zero_size (Kb.arr_size _) HONE.out.arr ?_
      go_wp2_with fail
      refine bodyPost_ret (results_cell_row rfl _ _ (w.heap.size + 1) 35 _ (0, 0) _ rfl (boxed_at hz) Tryz.underlying35 rfl (by rw [Kb.arr_size]; exact Kb.info)) rfl ?_
      refine ⟨vp, (b1.mid vv 32).v, ?_, HO.out.boxed (by omega), fun k hk => ?_, boxed_below HW.out (by omega)⟩
      · have e : b1.mid vv 32 = ({ b with vp := vp, v := (b1.mid vv 32).v } : Kb) := by
          show Kb.mk b1.td b1.vp b1.a (b1.mid vv 32).v = Kb.mk b.td vp b.a (b1.mid vv 32).v
          rw [ET.out, EP.out, EA.out]
        rw [← e]
      · show Cys _ _ _ (if k < 32 then vv k else b1.v k) (b.a k).l
        rw [if_pos hk]
        exact ((HC.out k hk).boxed (.inl (by omega))).more (Nat.le_refl _) (by simp)
end Go.Proofs.YtblikgbcakgdnaaGreat
