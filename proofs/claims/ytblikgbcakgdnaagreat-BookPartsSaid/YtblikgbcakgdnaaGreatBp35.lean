/-
  What each act makes of a subscription, on both sides: no memory. No conditions but those that each law names.
-/
import Derived.Deep.MidRow
import Derived.Maps.AppendAt
import Derived.WalkSpells
import Derived.Test.YtblikgbcakgdnaaGreatBp04
import Derived.Test.YtblikgbcakgdnaaGreatBp05
import Derived.Test.YtblikgbcakgdnaaGreatBp25
import Derived.Test.YtblikgbcakgdnaaGreatBp34
set_option linter.unusedSimpArgs false
set_option linter.unusedVariables false
namespace Go.Proofs.YtblikgbcakgdnaaGreat
set_option linter.unusedVariables false
set_option linter.unusedSimpArgs false
set_option maxRecDepth 100000
open Go.ChangeShapes Go.WideShapes Go.ChangeAt Go.RowKit

/-- Cycles are numbered as they began. -/
def Num (l : List Cv) : Prop := ∀ (k : Nat) (c : Cv), l[k]? = some c → c.n = (k : Int)
theorem Num.pair {l : List Cv} (h : Num l) : l.Pairwise (fun a b => a.n < b.n) := by
  rw [List.pairwise_iff_getElem]
  intro i j hi hj hij
  have h1 := h i _ (List.getElem?_eq_getElem hi)
  have h2 := h j _ (List.getElem?_eq_getElem hj)
  omega
theorem Num.opn_pair {l : List Cv} (h : Num l) : (opn l).Pairwise (fun a b => a.n < b.n) := h.pair.filter _
/-- One of them is another one: by its number. -/
def onlyAt (m : Nat) (z c : Cv) : Cv := if c.n = (m : Int) then z else c
theorem Num.set_map {l : List Cv} (h : Num l) (m : Nat) (z : Cv) : l.set m z = l.map (onlyAt m z) := by
  apply List.ext_getElem?
  intro k
  rw [List.getElem?_set, List.getElem?_map]
  cases hk : l[k]? with
  | none =>
    have hlen := List.getElem?_eq_none_iff.1 hk
    by_cases e : m = k
    · rw [if_pos e, if_neg (by omega)]; rfl
    · rw [if_neg e]; rfl
  | some c =>
    have hlt := (List.getElem?_eq_some_iff.1 hk).1
    have hn := h k c hk
    show _ = some (onlyAt m z c)
    unfold onlyAt
    by_cases e : m = k
    · subst e; rw [if_pos rfl, if_pos hlt, if_pos hn]
    · rw [if_neg e, if_neg (by omega)]
/-- Where it lies among the open ones. -/
theorem Num.found {l : List Cv} (h : Num l) {m : Nat} {c : Cv} (hm : l[m]? = some c) (hc : c.p < 7) : ∃ j : Nat, (opn l)[j]? = some c ∧ Found (opn l) m j ∧ ∀ z : Cv, (opn l).set j z = (opn l).map (onlyAt m z) := by
  have hlt := (List.getElem?_eq_some_iff.1 hm).1
  have hget := (List.getElem?_eq_some_iff.1 hm).2
  have hl : l = l.take m ++ c :: l.drop (m + 1) := by rw [← hget, List.getElem_cons_drop, List.take_append_drop]
  have hcn := h m c hm
  have ho : opn l = opn (l.take m) ++ c :: opn (l.drop (m + 1)) := by
    have h9 : opn l = opn (l.take m ++ c :: l.drop (m + 1)) := congrArg opn hl
    rw [h9, opn_append, opn_cons_yes hc]
  have hj : (opn l)[(opn (l.take m)).length]? = some c := by rw [ho, List.getElem?_append_right (Nat.le_refl _), Nat.sub_self]; rfl
  have hp := h.opn_pair
  have one : ∀ (i : Nat) (q : Cv), (opn l)[i]? = some q → q.n = (m : Int) → i = (opn (l.take m)).length := by
    intro i q hi hq
    obtain ⟨hi1, hi2⟩ := List.getElem?_eq_some_iff.1 hi
    obtain ⟨hj1, hj2⟩ := List.getElem?_eq_some_iff.1 hj
    rw [List.pairwise_iff_getElem] at hp
    rcases Nat.lt_trichotomy i (opn (l.take m)).length with g | g | g
    · have := hp i _ hi1 hj1 g
      rw [hi2, hj2] at this
      omega
    · exact g
    · have := hp _ i hj1 hi1 g
      rw [hi2, hj2] at this
      omega
  refine ⟨_, hj, .inl ⟨_, c, rfl, hj, hcn, fun i' c' hi hc' hn => ?_⟩, fun z => ?_⟩
  · have := one i' c' hc' hn
    omega
  · apply List.ext_getElem?
    intro k
    rw [List.getElem?_set, List.getElem?_map]
    cases hk : (opn l)[k]? with
    | none =>
      have hlen := List.getElem?_eq_none_iff.1 hk
      by_cases e : (opn (l.take m)).length = k
      · rw [if_pos e, if_neg (by omega)]; rfl
      · rw [if_neg e]; rfl
    | some q =>
      have hlt := (List.getElem?_eq_some_iff.1 hk).1
      show _ = some (onlyAt m z q)
      unfold onlyAt
      by_cases e : (opn (l.take m)).length = k
      · rw [if_pos e, if_pos (by omega)]
        subst e
        rw [hj] at hk
        injection hk with hk
        subst hk
        rw [if_pos hcn]
      · rw [if_neg e]
        by_cases hq : q.n = (m : Int)
        · exact absurd (one k q hk hq).symm e
        · rw [if_neg hq]
theorem only_turns {l : List Cv} (h : Num l) {m : Nat} {c z : Cv} (hm : l[m]? = some c) (hc : c.p < 7) (hz : z.u = c.u) : Turns (onlyAt m z) l ∧ (z.n = c.n → ∀ q ∈ l, (onlyAt m z q).n = q.n) := by
  have at_ : ∀ q ∈ l, q.n = (m : Int) → q = c := by
    intro q hq hn
    obtain ⟨k, hk⟩ := List.getElem?_of_mem hq
    have := h k q hk
    have e : k = m := by omega
    subst e
    rw [hm] at hk
    injection hk with hk
    exact hk.symm
  refine ⟨⟨fun q hq hp => ?_, fun q hq => ?_⟩, fun hzn q hq => ?_⟩
  · unfold onlyAt
    by_cases e : q.n = (m : Int)
    · have := at_ q hq e
      subst this
      exact absurd hc hp
    · rw [if_neg e]
  · unfold onlyAt
    by_cases e : q.n = (m : Int)
    · have := at_ q hq e
      subst this
      rw [if_pos e, hz]
    · rw [if_neg e]
  · unfold onlyAt
    by_cases e : q.n = (m : Int)
    · have := at_ q hq e
      subst this
      rw [if_pos e, hzn]
    · rw [if_neg e]
theorem only_gain {l : List Cv} (h : Num l) {m : Nat} {c z : Cv} (hm : l[m]? = some c) (hc : c.p < 7) (cr : Int) : cr + gainOf (onlyAt m z) l = Cy.gain cr c z := by
  have hlt := (List.getElem?_eq_some_iff.1 hm).1
  have hcn := h m c hm
  have off : ∀ (r : List Cv), (∀ q ∈ r, q.n ≠ (m : Int)) → gainOf (onlyAt m z) r = 0 := by
    intro r hr
    refine gain_open fun q hq hp => ?_
    unfold onlyAt
    rw [if_neg (hr q hq)]
    exact hp
  have hget := (List.getElem?_eq_some_iff.1 hm).2
  have hl : l = l.take m ++ c :: l.drop (m + 1) := by rw [← hget, List.getElem_cons_drop, List.take_append_drop]
  have hzc : onlyAt m z c = z := if_pos hcn
  have e1 : gainOf (onlyAt m z) (l.take m) = 0 := off _ fun q hq hn => by
    obtain ⟨k, hk⟩ := List.getElem?_of_mem hq
    have hk1 : k < m := by have := (List.getElem?_eq_some_iff.1 hk).1; rw [List.length_take] at this; omega
    rw [List.getElem?_take_of_lt hk1] at hk
    have := h k q hk
    omega
  have e2 : gainOf (onlyAt m z) (l.drop (m + 1)) = 0 := off _ fun q hq hn => by
    obtain ⟨k, hk⟩ := List.getElem?_of_mem hq
    rw [List.getElem?_drop] at hk
    have := h (m + 1 + k) q hk
    omega
  have h9 : gainOf (onlyAt m z) l = gainOf (onlyAt m z) (l.take m ++ c :: l.drop (m + 1)) := congrArg (gainOf (onlyAt m z)) hl
  rw [h9, gain_append, gain_cons, e1, e2, hzc]
  unfold Cy.gain
  split <;> omega
/-- An answer is heard: what both sides make of it. -/
theorem SOk.heard {M : Int} {s : Sv} (h : SOk M s) {m : Nat} {c z : Cv} (hm : s.l[m]? = some c) (hc : c.p < 7) (hz : COk M z) (hu : z.u = c.u) (hn : z.n = c.n) : SOk M { s with cr := Cy.gain s.cr c z, l := s.l.set m z } ∧ ∃ j : Nat, (opn s.l)[j]? = some c ∧ Found (opn s.l) m j ∧ Sv.tell { s with cr := Cy.gain s.cr c z, l := s.l.set m z } = Av.settled { Sv.tell s with l := (opn s.l).set j z } := by
  have hN : Num s.l := h.num
  obtain ⟨ht, htn⟩ := only_turns hN hm hc hu
  obtain ⟨j, h1, h2, h3⟩ := hN.found hm hc
  rw [hN.set_map m z, ← only_gain hN hm hc]
  refine ⟨h.map ht (htn hn) (fun q hq => ?_) s.st h.st, j, h1, h2, ?_⟩
  · unfold onlyAt
    split
    · exact hz
    · exact h.cs q hq
  · rw [h3 z, gain_back]
    exact tell_each s (onlyAt m z) ht.ends
/-- It is cancelled. -/
theorem SOk.cancelled {M : Int} {s : Sv} (h : SOk M s) : SOk M { s with st := 3, cr := s.cr + gainOf (fun c => c.over) s.l, l := s.l.map (fun c => c.over) } ∧ Sv.tell { s with st := 3, cr := s.cr + gainOf (fun c => c.over) s.l, l := s.l.map (fun c => c.over) } = Av.each { Sv.tell s with st := 3 } (fun c => Cv.over c) := by
  have ends : ∀ c ∈ s.l, ¬ c.p < 7 → c.over = c := fun c _ hp => by
    unfold Cv.over
    rw [if_neg (by omega)]
  refine ⟨h.map ⟨ends, fun c _ => (over_same' c).1⟩ (fun c _ => (over_same' c).2) (fun c hc => (h.cs c hc).over) 3 (.inr (.inr rfl)), ?_⟩
  rw [gain_back]
  exact tell_each { s with st := 3 } (fun c => c.over) ends
/-- Another card. -/
theorem SOk.carded {M : Int} {s : Sv} (h : SOk M s) : SOk M { s with l := s.l.map (fun c => c.card) } ∧ Sv.tell { s with l := s.l.map (fun c => c.card) } = (Sv.tell s).each (fun c => Cv.card c) := by
  have ends : ∀ c ∈ s.l, ¬ c.p < 7 → c.card = c := fun c _ hp => by
    unfold Cv.card
    rw [if_neg (by omega)]
  have opens : ∀ c ∈ s.l, c.p < 7 → c.card.p < 7 := fun c _ hp => by
    unfold Cv.card
    split
    · show (1 : Int) < 7; omega
    · exact hp
  refine ⟨?_, tell_each_open s _ ends opens⟩
  have hg : gainOf (fun c => c.card) s.l = 0 := gain_open opens
  have := h.map (f := fun c => c.card) ⟨ends, fun c _ => (card_same c).1⟩ (fun c _ => (card_same c).2) (fun c hc => (h.cs c hc).card) s.st h.st
  rw [hg, Int.add_zero] at this
  exact this
theorem SOk.state {M : Int} {s : Sv} (h : SOk M s) (x : Int) (hx : x = 1 ∨ x = 2 ∨ x = 3) : SOk M { s with st := x } := ⟨hx, h.num, h.cs, h.po, h.ix0, h.ix1⟩
theorem SOk.skips {M : Int} {s : Sv} (h : SOk M s) (x : Bool) : SOk M { s with sk := x } := ⟨h.st, h.num, h.cs, h.po, h.ix0, h.ix1⟩
/-- Another plan: credit comes, and goes. -/
theorem SOk.changed {M : Int} {s : Sv} (h : SOk M s) (n an : Int) {x : Int} (hx : -1100000000 ≤ x ∧ x ≤ 1100000000) : SOk (M + 1100000000) { s with pl := n, an := an, ix := 0, cr := s.cr + x } := by
  refine ⟨h.st, h.num, fun c hc => (h.cs c hc).more (by omega), ?_, Int.le_refl _, by show (0 : Int) ≤ s.l.length; omega⟩
  have h1 := absI_add s.cr x
  have h2 := h.po
  have h3 : absI x ≤ 1100000000 := by unfold absI; split <;> omega
  show absI (s.cr + x) + sumA s.l ≤ M + 1100000000
  omega
theorem SOk.more {M M' : Int} {s : Sv} (h : SOk M s) (hm : M ≤ M') : SOk M' s := ⟨h.st, h.num, fun c hc => (h.cs c hc).more hm, Int.le_trans h.po hm, h.ix0, h.ix1⟩
end Go.Proofs.YtblikgbcakgdnaaGreat
/-
  Lists of notices in memory: a slice that reads as notices, nil let in; one notice more, one loaded. No conditions but the sizes.
-/
namespace Go.Proofs.YtblikgbcakgdnaaGreat
set_option maxRecDepth 20000
open Go.ChangeShapes Go.WideShapes Go.ChangeAt Go.RowKit

/-- The types of a list of cycles. -/
structure NyTy (T E : TypeId) : Prop where
  row : Tryz.prog.underlying T = some (.slice E)
  one : ∃ d, Tryz.prog.underlying E = some d ∧ d.isRow = true
  info : (Tryz.prog.info? E).map (fun i => (i.zero, i.size, i.bytes)) = some (some (.agg #[.int .u8 0, .int .i64 0, .int .i64 0, .int .i64 0, .int .i64 0, .int .u8 0]), 6, 48)
theorem NyTy.size {T E : TypeId} (h : NyTy T E) : (Tryz.prog.info? E).map (·.size) = some 6 := by
  obtain ⟨i, hi, _, hs, _⟩ := info_parts h.info
  rw [hi]; exact congrArg some hs
theorem nyty : NyTy 52 46 := ⟨Tryz.underlying52, ⟨_, Tryz.underlying46, rfl⟩, by kernel_rfl⟩
/-- A cycle's cells, and those of cycles one behind the other. -/
theorem Nv.cs_len (c : Nv) : c.cs.length = 6 := rfl
theorem Nv.cs_one (c : Nv) : ∀ u ∈ c.cs, u.oneCell' = true := by
  intro u hu
  simp only [Nv.cs, List.mem_cons, List.not_mem_nil, or_false] at hu
  rcases hu with rfl | rfl | rfl | rfl | rfl | rfl <;> rfl
def ncs (l : List Nv) : List Value := l.flatMap Nv.cs
theorem ncs_nil : ncs [] = [] := rfl
theorem ncs_cons (c : Nv) (l : List Nv) : ncs (c :: l) = c.cs ++ ncs l := by unfold ncs; rw [List.flatMap_cons]
theorem ncs_append (a b : List Nv) : ncs (a ++ b) = ncs a ++ ncs b := by unfold ncs; rw [List.flatMap_append]
theorem ncs_one (c : Nv) : ncs [c] = c.cs := by rw [ncs_cons, ncs_nil, List.append_nil]
theorem ncs_len (l : List Nv) : (ncs l).length = l.length * 6 := by
  induction l with
  | nil => rfl
  | cons c r ih => rw [ncs_cons, List.length_append, ih, Nv.cs_len, List.length_cons]; omega
theorem ncs_cell (l : List Nv) : ∀ u ∈ ncs l, u.oneCell' = true := by
  intro u hu
  obtain ⟨c, _, hc⟩ := List.mem_flatMap.1 hu
  exact c.cs_one u hc
theorem ncs_at {l : List Nv} {k : Nat} {c : Nv} (h : l[k]? = some c) {i : Nat} {v : Value} (hv : c.cs[i]? = some v) : (ncs l)[k * 6 + i]? = some v := by
  induction l generalizing k with
  | nil => simp at h
  | cons q r ih =>
    have hi : i < 6 := by have := (List.getElem?_eq_some_iff.1 hv).1; rwa [Nv.cs_len] at this
    rw [ncs_cons]
    rcases k with _ | k
    · simp at h; subst h
      rw [List.getElem?_append_left (by rw [Nv.cs_len]; omega)]
      simpa using hv
    · rw [List.getElem?_append_right (by rw [Nv.cs_len]; omega), Nv.cs_len, show (k + 1) * 6 + i - 6 = k * 6 + i by omega]
      exact ih (by simpa using h)
/-- A slice reads as these cycles, in a block from b on, below block B. -/
def Nvs (w : World) (b B : Nat) (v : Value) (l : List Nv) : Prop :=
  ∃ A c, v = .slice A l.length c ∧ l.length ≤ c ∧ c ≤ maxLen ∧ (l ≠ [] → ∃ g o, A = some ⟨g, o, none⟩ ∧ (b ≤ g ∧ g < B) ∧ w.rangeAt g o (ncs l)) ∧ (A = none → c = 0)
section
variable {w w' : World} {b b' B B' base : Nat} {v : Value} {l : List Nv} {T E : TypeId}
theorem Nvs.nil : Nvs w b B (.slice none 0 0) [] := ⟨none, 0, rfl, Nat.le_refl _, by unfold maxLen; omega, fun h => absurd rfl h, fun _ => rfl⟩
theorem Nvs.kept (h : Nvs w b B v l) (hk : ∀ i, b ≤ i → i < B → w'.heap[i]? = w.heap[i]?) : Nvs w' b B v l := by
  obtain ⟨A, c, hv, h1, h2, h3, h4⟩ := h
  refine ⟨A, c, hv, h1, h2, fun hl => ?_, h4⟩
  obtain ⟨g, o, hA, hg, hr⟩ := h3 hl
  exact ⟨g, o, hA, hg, fun j u hu => (World.cell?_of_block (a := ⟨g, o + j, none⟩) (hk g hg.1 hg.2)).trans (hr j u hu)⟩
theorem Nvs.below (h : Nvs w b B v l) (hb : Below B w w') : Nvs w' b B v l := h.kept fun i _ hi => hb.block i hi
theorem Nvs.more (h : Nvs w b B v l) (hb : b' ≤ b) (hB : B ≤ B') : Nvs w b' B' v l := by
  obtain ⟨A, c, hv, h1, h2, h3, h4⟩ := h
  refine ⟨A, c, hv, h1, h2, fun hl => ?_, h4⟩
  obtain ⟨g, o, hA, hg, hr⟩ := h3 hl
  exact ⟨g, o, hA, ⟨by omega, by omega⟩, hr⟩
/-- One of them: where it lies. -/
theorem Nvs.at_ (h : Nvs w b B v l) {k : Nat} {c : Nv} (hc : l[k]? = some c) : ∃ g o cap, v = .slice (some ⟨g, o, none⟩) l.length cap ∧ k < l.length ∧ l.length ≤ cap ∧ cap ≤ maxLen ∧ b ≤ g ∧ g < B ∧ w.rangeAt g (o + k * 6) c.cs := by
  obtain ⟨A, cap, hv, h1, h2, h3, _⟩ := h
  obtain ⟨g, o, rfl, hg, hr⟩ := h3 (fun e => by subst e; simp at hc)
  refine ⟨g, o, cap, hv, (List.getElem?_eq_some_iff.1 hc).1, h1, h2, hg.1, hg.2, fun j u hu => ?_⟩
  rw [Nat.add_assoc]
  exact hr _ u (ncs_at hc hu)
/-- A row of the call's own. -/
theorem Nvs.own (h : w.ownsRow base E 6 v l.length (ncs l)) : Nvs w base w.heap.size v l := by
  rcases h.2 with ⟨hv, hn⟩ | ⟨g, cap, cur, hv, hb, hg, h1, h2, h3, h4⟩
  · obtain rfl := List.eq_nil_of_length_eq_zero hn
    subst hv
    exact Nvs.nil
  · refine ⟨_, cap, hv, h1, h2, fun _ => ⟨g, 0, rfl, ⟨hb, (Array.getElem?_eq_some_iff.1 hg).1⟩, fun j u hu => ?_⟩, fun e => by cases e⟩
    rw [cell_of_row _ _ _ _ _ _ hg, Nat.zero_add, ← Array.getElem?_toList]
    rw [← h4] at hu
    rw [List.getElem?_take] at hu
    split at hu
    · exact hu
    · cases hu
/-- All of a list behind a row of the call's own. -/
theorem run_append_nvs (ty : NyTy T E) {q : TypeId} {l0 : List Nv} {v0 : Value} (ho : w.ownsRow base E 6 v0 l0.length (ncs l0)) (h : Nvs w b B v l) (hs : l0.length + l.length ≤ 100000000) (hb : base ≤ w.heap.size) :
    ∃ v' w', (Builtin.append_ #[T, T] q #[v0, v]).run Tryz.prog w = .ok v' w' ∧ w'.ownsRow base E 6 v' (l0 ++ l).length (ncs (l0 ++ l)) ∧ w.grownBy w' v0.ownBlock ∧ (v'.ownBlock = v0.ownBlock ∨ v'.ownBlock = some w.heap.size) := by
  obtain ⟨i, hi, hz, hsz, hby⟩ := info_parts ty.info
  obtain ⟨A, c, rfl, h1, h2, h3, h4⟩ := h
  rcases A with _ | a
  · have hl : l = [] := by
      rcases l with _ | ⟨x, r⟩
      · rfl
      · obtain ⟨g, o, e, _⟩ := h3 (by simp); cases e
    subst hl
    refine ⟨v0, w, ?_, by rw [List.append_nil]; exact ho, grown_refl _ _, .inl rfl⟩
    rcases ho.2 with ⟨rfl, hn⟩ | ⟨g, cap, cur, rfl, _, _, hnc, _⟩
    · simp [Builtin.append_, run_underlying ty.row, sizeOf, typeInfo, hi, Builtin.lenOf, Builtin.firstCells]
    · simp [Builtin.append_, run_underlying ty.row, sizeOf, typeInfo, hi, Builtin.lenOf, Builtin.firstCells, hnc, storeCells]
  · have hcells : ∀ j u, (ncs l)[j]? = some u → w.cell? (a.add j) = some u := fun j u hu => by
      obtain ⟨g, o, e, _, hr⟩ := h3 (fun e => by subst e; simp [ncs_nil] at hu)
      injection e with e
      subst e
      have := hr j u hu
      unfold Addr.add
      split
      · subst_vars; simpa using this
      · exact this
    obtain ⟨v', w', hrun, g1, g2, _, g4⟩ := run_append_own_at (P := Tryz.prog) w base T q E i _ 6 48 ty.row hi hz hsz hby rfl (by decide) v0 l0.length (ncs l0) ho a l.length c (ncs l) (ncs_len l) hcells (ncs_cell l) (by unfold maxLen; omega) (by omega) hb
    refine ⟨v', w', hrun, ?_, g2, g4⟩
    rw [List.length_append, ncs_append]
    exact g1
end
/-- One new notice, in a block of its own. -/
theorem nvs_one (w : World) (c : Nv) (t : TypeId) : Nvs (w.alloc (.cells c.arr t)) w.heap.size (w.heap.size + 1) (.slice (some ⟨w.heap.size, 0, none⟩) 1 1) [c] := by
  refine ⟨some ⟨w.heap.size, 0, none⟩, 1, rfl, Nat.le_refl _, by unfold maxLen; omega, fun _ => ⟨w.heap.size, 0, rfl, ⟨Nat.le_refl _, by omega⟩, fun j u hu => ?_⟩, fun e => by cases e⟩
  rw [cell_of_row _ _ _ _ _ _ alloc_block, Nat.zero_add, ← Array.getElem?_toList]
  rw [ncs_one] at hu
  exact hu
/-- All of a list behind a row of the call's own: at the operation, for the walk. -/
theorem wpList_append_nvs {T E : TypeId} (ty : NyTy T E) {w : World} {ops : Array Oper} {rest : List Oper} {o : Oper} {a : Act} {Q : Exit → Act → World → Prop} (hgd : o.guard = none) (s x : Operand)
    (ho : o.op = .call { callee := .builtin .append, args := #[s, x], argTypes := #[T, T] }) {base b B : Nat} {v0 v : Value} {l0 l : List Nv} (hsv : a.eval s = v0) (hx : a.eval x = v)
    (how : w.ownsRow base E 6 v0 l0.length (ncs l0)) (h : Nvs w b B v l) (hs : l0.length + l.length ≤ 100000000) (hb : base ≤ w.heap.size)
    (hk : ∀ v' w', w'.ownsRow base E 6 v' (l0 ++ l).length (ncs (l0 ++ l)) → w.grownBy w' v0.ownBlock → (v'.ownBlock = v0.ownBlock ∨ v'.ownBlock = some w.heap.size) → wpList Tryz.prog ops Q rest (a.put o.dst v') w') : wpList Tryz.prog ops Q (o :: rest) a w := by
  refine wpList_plain hgd fun K hK => ?_
  obtain ⟨v', w', hrun, h1, h2, h3⟩ := run_append_nvs ty (q := o.type) how h hs hb
  unfold Oper.wp execOp
  simp only [ho, resolve, invoke, builtin, Sem.run_bind, Sem.run_pure, Result.andThen_ok, List.map_toArray, List.map_cons, List.map_nil, hsv, hx, hrun]
  exact hK _ _ (hk v' w' h1 h2 h3)
end Go.Proofs.YtblikgbcakgdnaaGreat
