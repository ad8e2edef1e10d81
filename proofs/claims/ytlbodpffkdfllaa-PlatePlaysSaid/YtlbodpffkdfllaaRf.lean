/-
  The document's own plates: pure, and as values in memory: two slices whose sectors are blocks of their own, that nobody writes to any more. No conditions but those that each law names.
-/
import Derived.Test.YtlbodpffkdfllaaPlLive
namespace Go.Proofs.Ytlbodpffkdfllaa
open Go.ChangeShapes Go.WideShapes Go.ChangeAt Go.RowKit

namespace Rf
structure R where
  safe : List (List Int)
  wet : List (Int × List Int)
  left : Int
  spare : Int
  off : Bool
  acts : Int
def R.goes (r : R) : Bool := !(r.off || r.left == 0)
def R.act (r : R) : R := if r.goes then { r with left := if 0 < r.left then r.left - 1 else r.left, acts := r.acts + 1 } else { r with off := true }
def R.read (r : R) (i : Int) : List Int := Pl.now r.wet i (r.safe.getD i.toNat Pl.zs)
def R.keep (r : R) (n : Nat) : R := { r with safe := Pl.keep r.safe (r.wet.take n), wet := [] }
def R.flush (r : R) : R := if r.goes then r.act.keep r.wet.length else r.act
def R.flushE (r : R) : Int := if r.goes then 0 else 7
def R.fall (r : R) (x : Int) : R := { r.keep (min (max x 0) r.wet.length).toNat with off := false, left := -1, spare := 0 }
def R.bad (r : R) (i : Int) (b : List Int) : Prop := i < 0 ∨ (r.safe.length : Int) ≤ i ∨ 64 < b.length
def R.laid (r : R) (i : Int) (s : List Int) : R := { r with wet := r.wet ++ [(i, s)] }
def R.torn (r : R) (i : Int) (b : List Int) : List Int := headed (min 64 r.spare.toNat) (Pl.pad b) (r.read i)
instance (r : R) (i : Int) (b : List Int) : Decidable (r.bad i b) := by unfold R.bad; infer_instance
def R.put (r : R) (i : Int) (b : List Int) : R := if r.bad i b then r else if r.goes then r.act.laid i (Pl.pad b) else if r.off = false ∧ 0 < r.spare then r.act.laid i (r.torn i b) else r.act
def R.putE (r : R) (i : Int) (b : List Int) : Int := if r.bad i b then 1 else if r.goes then 0 else 7
def R.new (n : Int) : R := ⟨List.replicate n.toNat Pl.zs, [], -1, 0, false, 0⟩

structure Ok (r : R) : Prop where
  safe : ∀ s ∈ r.safe, Pl.Sec s
  wet : ∀ p ∈ r.wet, 0 ≤ p.1 ∧ p.1 < r.safe.length ∧ Pl.Sec p.2
  size : r.safe.length ≤ 1000 ∧ r.wet.length ≤ 1000
  left : -1 ≤ r.left ∧ r.left ≤ 1000
  acts : 0 ≤ r.acts ∧ r.acts ≤ 1000
  spare : -1000 ≤ r.spare ∧ r.spare ≤ 1000
theorem act_safe (r : R) : r.act.safe = r.safe := by unfold R.act; split <;> rfl
theorem act_wet (r : R) : r.act.wet = r.wet := by unfold R.act; split <;> rfl
theorem Ok.act {r : R} (h : Ok r) (ha : r.acts < 1000) : Ok r.act := by
  obtain ⟨h1, h2, h3, h4, h5, h6⟩ := h
  unfold R.act
  split
  · refine ⟨h1, h2, h3, ?_, by show 0 ≤ r.acts + 1 ∧ r.acts + 1 ≤ 1000; omega, h6⟩
    show -1 ≤ (if 0 < r.left then r.left - 1 else r.left) ∧ (if 0 < r.left then r.left - 1 else r.left) ≤ 1000
    split <;> omega
  · exact ⟨h1, h2, h3, h4, h5, h6⟩
theorem Ok.read {r : R} (h : Ok r) (i : Int) : Pl.Sec (r.read i) := by
  refine Pl.sec_now (fun p hp => (h.wet p hp).2.2) i ?_
  rw [List.getD_eq_getElem?_getD]
  cases e : r.safe[i.toNat]? with
  | none => exact Pl.sec_zs
  | some s => exact h.safe s (List.mem_of_getElem? e)
theorem Ok.keep {r : R} (h : Ok r) (n : Nat) : Ok (r.keep n) :=
  ⟨Pl.keep_ok h.safe fun p hp => (h.wet p (List.mem_of_mem_take hp)).2.2, fun p hp => (nomatch hp), ⟨by show (Pl.keep _ _).length ≤ _; rw [Pl.keep_length]; exact h.size.1, Nat.zero_le _⟩, h.left, h.acts, h.spare⟩
theorem Ok.laid {r : R} (h : Ok r) {i : Int} {s : List Int} (h0 : 0 ≤ i) (h1 : i < r.safe.length) (hs : Pl.Sec s) (hw : r.wet.length < 1000) : Ok (r.laid i s) :=
  ⟨h.safe, fun p hp => by
    rcases List.mem_append.1 hp with hp | hp
    · exact h.wet p hp
    · rw [List.mem_singleton] at hp; subst hp; exact ⟨h0, h1, hs⟩, ⟨h.size.1, by show (r.wet ++ [(i, s)]).length ≤ _; simp; omega⟩, h.left, h.acts, h.spare⟩
theorem ok_new {n : Int} (h : n ≤ 1000) : Ok (R.new n) := by
  refine ⟨fun s hs => ?_, fun p hp => (nomatch hp), ⟨by simp [R.new]; omega, Nat.zero_le _⟩, by simp [R.new], by simp [R.new], by simp [R.new]⟩
  simp only [R.new, List.mem_replicate] at hs
  rw [hs.2]; exact Pl.sec_zs

/-- A sector's slice; the cells of writes; a plate as a value. -/
def sl (b : Nat) : Value := .slice (some ⟨b, 0, none⟩) 64 64
def ys (l : List (Int × Nat)) : List Value := l.flatMap fun p => [.int .i64 p.1, sl p.2]
def rv (v1 v2 : Value) (r : R) : Value := .agg #[v1, v2, .int .i64 r.left, .int .i64 r.spare, .bool r.off, .int .i64 r.acts]
theorem ys_length (l : List (Int × Nat)) : (ys l).length = l.length * 2 := by
  unfold ys
  induction l with
  | nil => rfl
  | cons p t ih => rw [List.flatMap_cons, List.length_append, ih]; simp; omega
theorem ys_append (a b : List (Int × Nat)) : ys (a ++ b) = ys a ++ ys b := by simp [ys]
theorem ys_at {l : List (Int × Nat)} {j : Nat} {p : Int × Nat} (h : l[j]? = some p) : (ys l)[j * 2]? = some (.int .i64 p.1) ∧ (ys l)[j * 2 + 1]? = some (sl p.2) := by
  obtain ⟨hl, hp⟩ := List.getElem?_eq_some_iff.1 h
  have hs : l = l.take j ++ p :: l.drop (j + 1) := by rw [← hp, ← List.drop_eq_getElem_cons hl, List.take_append_drop]
  have ht : (l.take j).length = j := by rw [List.length_take]; omega
  have hy := ys_length (l.take j)
  rw [ht] at hy
  rw [hs, ys_append]
  constructor
  · rw [List.getElem?_append_right (by omega), hy, Nat.sub_self]; rfl
  · rw [List.getElem?_append_right (by omega), hy, show j * 2 + 1 - j * 2 = 1 by omega]; rfl
theorem ys_one (l : List (Int × Nat)) : ∀ u ∈ ys l, u.oneCell' = true := by
  intro u hu
  unfold ys at hu
  obtain ⟨p, _, hp⟩ := List.mem_flatMap.1 hu
  simp only [List.mem_cons, List.not_mem_nil, or_false] at hp
  rcases hp with rfl | rfl <;> rfl
theorem sls_one (l : List Nat) : ∀ u ∈ l.map sl, u.oneCell' = true := by
  intro u hu
  obtain ⟨p, _, rfl⟩ := List.mem_map.1 hu
  rfl

structure M (w : World) (G : Nat → Prop) (v1 v2 : Value) (r : R) (bs : List Nat) (ps : List (Int × Nat)) : Prop where
  own1 : w.ownsRow 0 31 1 v1 r.safe.length (bs.map sl)
  own2 : w.ownsRow 0 64 2 v2 r.wet.length (ys ps)
  g1 : ∀ i, v1.ownBlock = some i → G i
  g2 : ∀ i, v2.ownBlock = some i → G i
  safe : ∀ (j : Nat) b l, bs[j]? = some b → r.safe[j]? = some l → G b ∧ w.heap[b]? = some (.cells (arr l) 5 (0, 0))
  wet : ∀ (j : Nat) (p : Int × Nat) (q : Int × List Int), ps[j]? = some p → r.wet[j]? = some q → p.1 = q.1 ∧ G p.2 ∧ w.heap[p.2]? = some (.cells (arr q.2) 5 (0, 0))
  ok : Ok r
  lt : ∀ i, G i → i < w.heap.size
section
variable {w w' : World} {G G' : Nat → Prop} {v1 v2 : Value} {r : R} {bs : List Nat} {ps : List (Int × Nat)}
theorem M.len1 (h : M w G v1 v2 r bs ps) : bs.length = r.safe.length := by have := h.own1.1; rw [List.length_map] at this; omega
theorem M.len2 (h : M w G v1 v2 r bs ps) : ps.length = r.wet.length := by have := h.own2.1; rw [ys_length] at this; omega
theorem M.kept (h : M w G v1 v2 r bs ps) (hk : ∀ i, G i → w'.heap[i]? = w.heap[i]?) (hs : w.heap.size ≤ w'.heap.size) : M w' G v1 v2 r bs ps :=
  ⟨own_kept h.own1 fun i hi => hk i (h.g1 i hi), own_kept h.own2 fun i hi => hk i (h.g2 i hi), h.g1, h.g2, fun j b l h1 h2 => ⟨(h.safe j b l h1 h2).1, (hk b (h.safe j b l h1 h2).1).trans (h.safe j b l h1 h2).2⟩,
    fun j p q h1 h2 => ⟨(h.wet j p q h1 h2).1, (h.wet j p q h1 h2).2.1, (hk _ (h.wet j p q h1 h2).2.1).trans (h.wet j p q h1 h2).2.2⟩, h.ok, fun i hi => Nat.lt_of_lt_of_le (h.lt i hi) hs⟩
theorem M.below (h : M w G v1 v2 r bs ps) (hb : Below w.heap.size w w') : M w' G v1 v2 r bs ps := h.kept (fun i hi => hb.block i (h.lt i hi)) hb.size
theorem M.more (h : M w G v1 v2 r bs ps) (hG : ∀ i, G i → G' i) (hl : ∀ i, G' i → i < w.heap.size) : M w G' v1 v2 r bs ps :=
  ⟨h.own1, h.own2, fun i hi => hG i (h.g1 i hi), fun i hi => hG i (h.g2 i hi), fun j b l h1 h2 => ⟨hG b (h.safe j b l h1 h2).1, (h.safe j b l h1 h2).2⟩, fun j p q h1 h2 => ⟨(h.wet j p q h1 h2).1, hG _ (h.wet j p q h1 h2).2.1, (h.wet j p q h1 h2).2.2⟩, h.ok, hl⟩
/-- Only its numbers are others. -/
theorem M.nums (h : M w G v1 v2 r bs ps) {r' : R} (h1 : r'.safe = r.safe) (h2 : r'.wet = r.wet) (ho : Ok r') : M w G v1 v2 r' bs ps :=
  ⟨h1 ▸ h.own1, h2 ▸ h.own2, h.g1, h.g2, h1 ▸ h.safe, h2 ▸ h.wet, ho, h.lt⟩
end
/-- A plate's value, and all that it leads to. -/
def V (w : World) (G : Nat → Prop) (v : Value) (r : R) : Prop := ∃ v1 v2 bs ps, v = rv v1 v2 r ∧ M w G v1 v2 r bs ps
end Rf
end Go.Proofs.Ytlbodpffkdfllaa
