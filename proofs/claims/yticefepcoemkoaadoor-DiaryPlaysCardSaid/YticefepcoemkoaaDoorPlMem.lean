/-
  Words for memory: a plate in its blocks ('PlC', 'PlB': which blocks are its own is said by F), and how it stays over steps that turn other blocks alone. No conditions but those that each law names.
-/
import Derived.Test.YticefepcoemkoaaDoorMaps
import Derived.Test.YticefepcoemkoaaDoorPl
import Derived.Test.YticefepcoemkoaaDoorApp
import Derived.Test.YticefepcoemkoaaDoorArr
namespace Go.Proofs.YticefepcoemkoaaDoor
set_option maxRecDepth 20000
open Go.ChangeShapes Go.WideShapes Go.ChangeAt Go.RowKit

/-- Nothing but F's blocks, and what is new, has turned. -/
structure Turn (F : Nat → Prop) (w w' : World) : Prop where
  os : w'.os = w.os
  tape : w'.tape = w.tape
  output : w'.output = w.output
  size : w.heap.size ≤ w'.heap.size
  block : ∀ i, i < w.heap.size → ¬ F i → w'.heap[i]? = w.heap[i]?
def grow (F : Nat → Prop) (w w' : World) : Nat → Prop := fun i => F i ∨ (w.heap.size ≤ i ∧ i < w'.heap.size)
theorem Turn.refl (F : Nat → Prop) (w : World) : Turn F w w := ⟨rfl, rfl, rfl, Nat.le_refl _, fun _ _ _ => rfl⟩
theorem Turn.trans {F F' : Nat → Prop} {w w1 w2 : World} (h : Turn F w w1) (k : Turn F' w1 w2) (hF : ∀ i, F' i → F i ∨ w.heap.size ≤ i) : Turn F w w2 :=
  ⟨k.os.trans h.os, k.tape.trans h.tape, k.output.trans h.output, Nat.le_trans h.size k.size, fun i hi hn => (k.block i (Nat.lt_of_lt_of_le hi h.size) fun hf => by
    rcases hF i hf with h' | h'
    · exact hn h'
    · omega).trans (h.block i hi hn)⟩
theorem Turn.next {F : Nat → Prop} {w w1 w2 : World} (h : Turn F w w1) (k : Turn (grow F w w1) w1 w2) : Turn F w w2 := h.trans k fun i hi => by
  rcases hi with h' | h'
  · exact .inl h'
  · exact .inr h'.1
theorem Turn.of_below {F : Nat → Prop} {w w' : World} (h : Below w.heap.size w w') : Turn F w w' := ⟨h.os, h.tape, h.output, h.size, fun i hi _ => h.block i hi⟩
theorem Turn.below {F : Nat → Prop} {w w' : World} (h : Turn F w w') {B : Nat} (hF : ∀ i, F i → B ≤ i) (hB : B ≤ w.heap.size) : Below B w w' :=
  ⟨h.os, h.tape, h.output, h.size, fun i hi => h.block i (by omega) fun hf => by have := hF i hf; omega⟩
theorem Turn.grown {F : Nat → Prop} {w w' : World} {row : Option Nat} (h : w.grownBy w' row) (hF : ∀ i, row = some i → F i) : Turn F w w' :=
  ⟨h.os, h.tape, h.output, h.size, fun i hi hn => h.block i hi fun e => hn (hF i e.symm)⟩
theorem Turn.drewN {F : Nat → Prop} {w w' : World} (h : Turn F w w') (n : Nat) : Turn F w (w'.drewN n) := ⟨h.os, h.tape, h.output, h.size, h.block⟩
theorem grow_same {F : Nat → Prop} {w w' : World} (h : w'.heap.size = w.heap.size) : grow F w w' = F := by
  funext i
  apply propext
  exact ⟨fun hi => by rcases hi with h' | h'; exact h'; omega, .inl⟩
theorem grow_grow {F : Nat → Prop} {w w1 w2 : World} (h1 : w.heap.size ≤ w1.heap.size) (h2 : w1.heap.size ≤ w2.heap.size) : grow (grow F w w1) w1 w2 = grow F w w2 := by
  funext i
  apply propext
  unfold grow
  constructor
  · rintro ((h | h) | h)
    · exact .inl h
    · exact .inr (by omega)
    · exact .inr (by omega)
  · rintro (h | h)
    · exact .inl (.inl h)
    · by_cases hi : i < w1.heap.size
      · exact .inl (.inr (by omega))
      · exact .inr (by omega)

/-- Writes as cells; a plate's own cells. -/
def wcl (l : List (Int × List Int)) : List Value := l.flatMap fun p => .int .i64 p.1 :: cl .u8 p.2
def pcl (st : Pl.St) (ms ml : Nat) (be : Int) (v : Value) : Array Value :=
  #[.int .i64 st.safe.length, .map (some ms), .int .i64 be, v, .map (some ml), .int .i64 st.acts, .bool st.off, .bool st.armed, .int .i64 st.left, .int .i64 st.spare]

structure PlC (w : World) (g : Nat) (F : Nat → Prop) (st : Pl.St) (m ms ml : Nat) (be : Int) (v : Value) (fs fl : Int → Option Value) (k : Nat) : Prop where
  blk : w.heap[g]? = some (.cells (pcl st ms ml be v) 50 (0, 0))
  mapS : MapF w ms k fs
  mapL : MapF w ml st.wet.length fl
  ne : ms ≠ ml
  own : w.ownsRow 0 81 65 v st.wet.length (wcl st.wet)
  safe : ∀ (j : Nat) s, st.safe[j]? = some s → (fs j).getD (sv Pl.zs) = sv s ∧ (be ≤ j → s = Pl.zs)
  last : ∀ j, (fl j = none → ∀ s, Pl.now st.wet j s = s) ∧ ∀ u, fl j = some u → ∃ (i : Nat) (p : Int × List Int), u = .int .i64 i ∧ st.wet[i]? = some p ∧ ∀ s, Pl.now st.wet j s = p.2
  be : 0 ≤ be ∧ be ≤ st.safe.length
  ok : Pl.Ok st
  sizes : k + st.wet.length ≤ m ∧ st.acts ≤ m ∧ m ≤ 100000
  foot : F g ∧ F ms ∧ F ml ∧ ∀ i, v.ownBlock = some i → F i
  lt : ∀ i, F i → i < w.heap.size
def PlB (w : World) (g : Nat) (F : Nat → Prop) (st : Pl.St) (m : Nat) : Prop := ∃ ms ml be v fs fl k, PlC w g F st m ms ml be v fs fl k

section
variable {w w' : World} {g : Nat} {F F' : Nat → Prop} {st : Pl.St} {m ms ml k : Nat} {be : Int} {v : Value} {fs fl : Int → Option Value}
theorem PlC.kept (h : PlC w g F st m ms ml be v fs fl k) (hk : ∀ i, F i → w'.heap[i]? = w.heap[i]?) (hs : w.heap.size ≤ w'.heap.size) : PlC w' g F st m ms ml be v fs fl k :=
  ⟨(hk g h.foot.1).trans h.blk, h.mapS.kept (hk _ h.foot.2.1), h.mapL.kept (hk _ h.foot.2.2.1), h.ne, own_kept h.own fun i hi => hk i (h.foot.2.2.2 i hi), h.safe, h.last, h.be, h.ok, h.sizes, h.foot, fun i hi => Nat.lt_of_lt_of_le (h.lt i hi) hs⟩
theorem PlC.more (h : PlC w g F st m ms ml be v fs fl k) (hF : ∀ i, F i → F' i) (hl : ∀ i, F' i → i < w.heap.size) : PlC w g F' st m ms ml be v fs fl k :=
  ⟨h.blk, h.mapS, h.mapL, h.ne, h.own, h.safe, h.last, h.be, h.ok, h.sizes, ⟨hF _ h.foot.1, hF _ h.foot.2.1, hF _ h.foot.2.2.1, fun i hi => hF _ (h.foot.2.2.2 i hi)⟩, hl⟩
theorem PlC.mono (h : PlC w g F st m ms ml be v fs fl k) {m' : Nat} (hm : m ≤ m') (hm' : m' ≤ 100000) : PlC w g F st m' ms ml be v fs fl k :=
  ⟨h.blk, h.mapS, h.mapL, h.ne, h.own, h.safe, h.last, h.be, h.ok, ⟨by have := h.sizes.1; omega, by have := h.sizes.2.1; omega, hm'⟩, h.foot, h.lt⟩
theorem PlC.msne (h : PlC w g F st m ms ml be v fs fl k) : ms ≠ g ∧ ml ≠ g := by
  obtain ⟨es, c, h1⟩ := h.mapS.isMap
  obtain ⟨es', c', h2⟩ := h.mapL.isMap
  have h3 := h.blk
  exact ⟨fun e => (by subst e; rw [h1] at h3; cases h3), fun e => (by subst e; rw [h2] at h3; cases h3)⟩
theorem PlC.ownne (h : PlC w g F st m ms ml be v fs fl k) {i : Nat} (hi : v.ownBlock = some i) : i ≠ g ∧ i ≠ ms ∧ i ≠ ml := by
  obtain ⟨es, c, h1⟩ := h.mapS.isMap
  obtain ⟨es', c', h2⟩ := h.mapL.isMap
  have h3 := h.blk
  rcases h.own.2 with ⟨hv, _⟩ | ⟨g', cap, cur, hv, _, hb, _⟩
  · subst hv; simp [Value.ownBlock] at hi
  · subst hv
    obtain rfl : g' = i := by simpa [Value.ownBlock] using hi
    refine ⟨fun e => ?_, fun e => ?_, fun e => ?_⟩
    · subst e; rw [hb] at h3; injection h3 with h3; injection h3 with _ h3 _; exact absurd h3 (by decide)
    · subst e; rw [h1] at hb; cases hb
    · subst e; rw [h2] at hb; cases hb
theorem PlC.glt (h : PlC w g F st m ms ml be v fs fl k) : g < w.heap.size := h.lt g h.foot.1
theorem PlC.boxed (h : PlC w g F st m ms ml be v fs fl k) : ∃ w0, w = boxed w0 g (pcl st ms ml be v) 50 ∧ g < w0.heap.size := ⟨w, boxed_self h.blk, h.glt⟩
theorem PlB.kept (h : PlB w g F st m) (hk : ∀ i, F i → w'.heap[i]? = w.heap[i]?) (hs : w.heap.size ≤ w'.heap.size) : PlB w' g F st m := by
  obtain ⟨ms, ml, be, v, fs, fl, k, h⟩ := h
  exact ⟨ms, ml, be, v, fs, fl, k, h.kept hk hs⟩
theorem PlB.more (h : PlB w g F st m) (hF : ∀ i, F i → F' i) (hl : ∀ i, F' i → i < w.heap.size) : PlB w g F' st m := by
  obtain ⟨ms, ml, be, v, fs, fl, k, h⟩ := h
  exact ⟨ms, ml, be, v, fs, fl, k, h.more hF hl⟩
theorem PlB.mono (h : PlB w g F st m) {m' : Nat} (hm : m ≤ m') (hm' : m' ≤ 100000) : PlB w g F st m' := by
  obtain ⟨ms, ml, be, v, fs, fl, k, h⟩ := h
  exact ⟨ms, ml, be, v, fs, fl, k, h.mono hm hm'⟩
theorem PlB.lt (h : PlB w g F st m) : ∀ i, F i → i < w.heap.size := by
  obtain ⟨ms, ml, be, v, fs, fl, k, h⟩ := h
  exact h.lt
theorem PlB.ok (h : PlB w g F st m) : Pl.Ok st := by
  obtain ⟨ms, ml, be, v, fs, fl, k, h⟩ := h
  exact h.ok
theorem PlB.below (h : PlB w g F st m) (hb : Below w.heap.size w w') : PlB w' g F st m := h.kept (fun i hi => hb.block i (h.lt i hi)) hb.size
/-- Only the plate's own cells have turned: one act's worth. -/
theorem PlC.cells {w0 : World} {st' : Pl.St} {m' : Nat} (h : PlC (Go.Proofs.YticefepcoemkoaaDoor.boxed w0 g (pcl st ms ml be v) 50) g F st m ms ml be v fs fl k) (hg : g < w0.heap.size) (h1 : st'.safe = st.safe) (h2 : st'.wet = st.wet) (h3 : Pl.Ok st') (h4 : m ≤ m') (h5 : m' ≤ 100000) (h6 : st'.acts ≤ m') :
    PlC (Go.Proofs.YticefepcoemkoaaDoor.boxed w0 g (pcl st' ms ml be v) 50) g F st' m' ms ml be v fs fl k := by
  have hs := h.sizes
  refine ⟨boxed_block hg, h.mapS.kept ?_, h2 ▸ h.mapL.kept ?_, h.ne, h2 ▸ own_kept h.own fun i hi => ?_, h1 ▸ h.safe, h2 ▸ h.last, h1 ▸ h.be, h3, ⟨by rw [h2]; omega, h6, h5⟩, h.foot, fun i hi => by have := h.lt i hi; rwa [boxed_size] at this ⊢⟩
  · rw [boxed_block_other h.msne.1, boxed_block_other h.msne.1]
  · rw [boxed_block_other h.msne.2, boxed_block_other h.msne.2]
  · rw [boxed_block_other (h.ownne hi).1, boxed_block_other (h.ownne hi).1]
theorem turn_boxed {w0 : World} {cs cs' : Array Value} {t t' : TypeId} (hF : F g) : Turn F (Go.Proofs.YticefepcoemkoaaDoor.boxed w0 g cs t) (Go.Proofs.YticefepcoemkoaaDoor.boxed w0 g cs' t') := Turn.grown grown_boxed fun i hi => by injection hi with hi; subst hi; exact hF
end

/-- What an act on a plate leaves. -/
def PlPost (w : World) (g : Nat) (F : Nat → Prop) (st : Pl.St) (m : Nat) (r : Value) (e : Ending) (w' : World) : Prop := e = .returned r ∧ PlB w' g (grow F w w') st m ∧ Turn F w w'

theorem psize_any (w : World) (g : Nat) (F : Nat → Prop) (st : Pl.St) (m : Nat) (h : PlB w g F st m) :
    Calls Tryd.prog 20 #[.pointer (some ⟨g, 0, none⟩)] w fun e w' => e = .returned (.int .i64 st.safe.length) ∧ w = w' := by
  obtain ⟨ms, ml, be, v, fs, fl, k, h⟩ := h
  obtain ⟨w0, rfl, hg⟩ := h.boxed
  clear h
  unfold pcl
  go_enter Tryd.func20, Tryd.ntmps20
  go_wp2
  go_ret
  exact ⟨rfl, rfl⟩
theorem wet_any (w : World) (g : Nat) (F : Nat → Prop) (st : Pl.St) (m : Nat) (h : PlB w g F st m) :
    Calls Tryd.prog 16 #[.pointer (some ⟨g, 0, none⟩)] w fun e w' => e = .returned (.int .i64 st.wet.length) ∧ w = w' := by
  obtain ⟨ms, ml, be, v, fs, fl, k, h⟩ := h
  obtain ⟨w0, rfl, hg⟩ := h.boxed
  obtain ⟨A, c, rfl, _, _⟩ := own_form h.own
  clear h
  unfold pcl
  go_enter Tryd.func16, Tryd.ntmps16
  go_wp2
  go_ret
  exact ⟨rfl, rfl⟩
theorem on_any (w : World) (g : Nat) (F : Nat → Prop) (st : Pl.St) (m : Nat) (h : PlB w g F st m) :
    Calls Tryd.prog 19 #[.pointer (some ⟨g, 0, none⟩)] w fun e w' => e = .returned (.bool (!st.off)) ∧ w = w' := by
  obtain ⟨ms, ml, be, v, fs, fl, k, h⟩ := h
  obtain ⟨w0, rfl, hg⟩ := h.boxed
  clear h
  unfold pcl
  go_enter Tryd.func19, Tryd.ntmps19
  go_wp2
  go_ret
  exact ⟨rfl, rfl⟩
theorem there_any (w : World) (g : Nat) (F : Nat → Prop) (st : Pl.St) (m : Nat) (i : Int) (h : PlB w g F st m) :
    Calls Tryd.prog 33 #[.pointer (some ⟨g, 0, none⟩), .int .i64 i] w fun e w' => e = .returned (.bool (st.there i)) ∧ w = w' := by
  have H := Lib.hid h
  clear h
  have HT : Hid (st.there i = (decide (0 ≤ i) && decide (i < st.safe.length))) := rfl
  by_cases h0 : 0 ≤ i
  · have d0 : decide (0 ≤ i) = true := by simpa using h0
    go_enter Tryd.func33, Tryd.ntmps33
    go_wp2_with (go_at_call 20; refine (psize_any _ _ _ _ _ H.out).mono ?_; rintro e w' ⟨rfl, rfl⟩)
    go_ret
    refine ⟨ret_bool ?_, rfl⟩
    rw [HT.out, d0]; rfl
  · have d0 : decide (0 ≤ i) = false := by simpa using h0
    go_enter Tryd.func33, Tryd.ntmps33
    go_wp2
    go_ret
    refine ⟨ret_bool ?_, rfl⟩
    rw [HT.out, d0]; rfl
end Go.Proofs.YticefepcoemkoaaDoor
