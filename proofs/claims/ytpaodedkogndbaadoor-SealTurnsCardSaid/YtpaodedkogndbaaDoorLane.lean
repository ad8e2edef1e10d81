/-
  A region that draws its order, walked in one order that is named ('ord'), where calls come up alone: between them each operation yields one value in every world of a class S (or its guard is false, and it is skipped); at a call no other operation may come up, and behind it S is shown anew. No conditions but those that each law names.
-/
import Derived.WalkKit
import Derived.OrdersHeld
import Derived.Deep.RegionHeld3
namespace Go.Proofs.YtpaodedkogndbaaDoor
open Go.RowKit

section
variable {P : Program} {l : List Oper} {S : World → Prop} {Q : Exit → Act → World → Prop}

/-- Which operations have come up: those of 'done'. -/
def cameUp (l : List Oper) (done : List Nat) : Array Bool := done.foldr (fun i b => b.setIfInBounds i true) (Array.replicate l.toArray.size false)

/-- The walk from here on: 'done' have come up, 'ord' are left, in this order. -/
def Lane (P : Program) (l : List Oper) (S : World → Prop) (Q : Exit → Act → World → Prop) (done ord : List Nat) (a : Act) (w : World) : Prop :=
  wpAnyH P .any l.toArray Q S ord.length (cameUp l done) a w

def laneFree (l : List Oper) (done : List Nat) (i : Nat) : Bool := Region.free .any l.toArray (cameUp l done) i && (Region.ready .any l.toArray (cameUp l done)).contains i
def laneAlone (l : List Oper) (done : List Nat) (i : Nat) : Bool := Region.ready .any l.toArray (cameUp l done) == [i]

/-- The beginning. -/
theorem lane_start {id : Nat} {a : Act} {w : World} (ord : List Nat) (hlen : ord.length = l.length) (hm : P.follows .mixedOrders = true) (hS : S w.drew) (h : S w.drew → Lane P l S (NoPanic Q) [] ord a w.drew) : (Code.region id l.toArray true).wp P Q a w :=
  wp_region_noPanic (wp_region_held_drew hm hS fun hS' => by
    have := h hS'
    unfold Lane at this
    rw [hlen] at this
    simpa [cameUp] using this)
/-- The end. -/
theorem lane_end {done : List Nat} {a : Act} {w : World} (hr : (Region.ready .any l.toArray (cameUp l done)).isEmpty = true) (h : Q .normal a w) : Lane P l S (NoPanic Q) done [] a w :=
  wpAnyH_done (by simpa using hr) (NoPanic.normal h) _
/-- An operation whose guard is false. -/
theorem lane_skip {i : Nat} {o : Oper} {done ord : List Nat} {a : Act} {w : World} (ho : l[i]? = some o) (hf : laneFree l done i = true) (hs : Region.noSelect l.toArray = true) (hw : Region.wanted o (yielded l.toArray a.tmps) = false) (hS : S w)
    (h : Lane P l S (NoPanic Q) (i :: done) ord (a.put o.dst undef) w) : Lane P l S (NoPanic Q) done (i :: ord) a w := by
  unfold laneFree at hf
  rw [Bool.and_eq_true] at hf
  exact wpAnyH_take (by simpa using ho) hs hf.1 hf.2 (fun _ _ _ h => h) (.inr ⟨hw, rfl⟩) hS h
/-- An operation that yields one value in every world of the class. -/
theorem lane_take {i : Nat} {o : Oper} {done ord : List Nat} {a : Act} {w : World} {v : Value} (ho : l[i]? = some o) (hf : laneFree l done i = true) (hs : Region.noSelect l.toArray = true) (hw : Region.wanted o (yielded l.toArray a.tmps) = true)
    (hv : ∀ w, S w → (execOp a.eval o).run P w = .ok (.value v) w) (hS : S w)
    (h : Lane P l S (NoPanic Q) (i :: done) ord (a.put o.dst v) w) : Lane P l S (NoPanic Q) done (i :: ord) a w := by
  unfold laneFree at hf
  rw [Bool.and_eq_true] at hf
  exact wpAnyH_take (by simpa using ho) hs hf.1 hf.2 (fun _ _ _ h => h) (.inl ⟨hw, hv⟩) hS h
/-- An operation that comes up alone: whatever it does; behind it S is shown anew. -/
theorem lane_alone {i : Nat} {o : Oper} {done ord : List Nat} {a : Act} {w : World} (ho : l[i]? = some o) (hr : laneAlone l done i = true) (hw : Region.wanted o (yielded l.toArray a.tmps) = true)
    (h : ∀ K : Act → World → Prop, (∀ a' w', S w' → (S w' → Lane P l S (NoPanic Q) (i :: done) ord a' w') → K a' w') → o.wp P a w K (NoPanic Q)) : Lane P l S (NoPanic Q) done (i :: ord) a w := by
  unfold laneAlone at hr
  refine wpAnyH_all (rs := [i]) (by simpa using hr) (by simp) fun j hj => ?_
  obtain rfl : j = i := by simpa using hj
  unfold wpOp
  have h2 : l.toArray[j]? = some o := by simpa using ho
  simp only [h2, hw, if_true]
  exact .inl (h _ fun a' w' hS hn => ⟨hS, hn hS⟩)
theorem held_mono {md : Region.Mode} {ops : Array Oper} {S' : World → Prop} (hS : ∀ w, S' w → S w) : ∀ (fuel : Nat) (listed : Array Bool) (a : Act) (w : World), wpAnyH P md ops Q S' fuel listed a w → wpAnyH P md ops Q S fuel listed a w
  | 0, _, _, _, h => h
  | fuel + 1, _, _, _, h => ⟨h.1, fun i hi => wpOp_mono (fun a' w' h' => ⟨hS _ h'.1, held_mono hS fuel _ a' w' h'.2⟩) (h.2 i hi)⟩
/-- From here on a narrower class: for what has come up meanwhile. -/
theorem lane_into {S' : World → Prop} {done ord : List Nat} {a : Act} {w : World} (hS : ∀ w, S' w → S w) (hw : S' w) (h : S' w → Lane P l S' (NoPanic Q) done ord a w) : Lane P l S (NoPanic Q) done ord a w :=
  held_mono hS _ _ _ _ (h hw)
end
end Go.Proofs.YtpaodedkogndbaaDoor
