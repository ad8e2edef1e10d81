/-
  Slices that a call makes and hands back; a copy of bytes. No conditions but the sizes.
-/
import Derived.Test.YtlldkcelkgnalaaApp
import Derived.Lib.Hide
namespace Go.Proofs.Ytlldkcelkgnalaa
set_option maxRecDepth 20000
open Go.ChangeShapes Go.WideShapes Go.ChangeAt Go.RowKit

/-- A slice of the call's own is returned that reads as l; all else is as it was. -/
def Owned (w : World) (l : List Int) (e : Ending) (w' : World) : Prop :=
  ∃ A c, e = .returned (.slice A l.length c) ∧ w'.ownsRow w.heap.size 5 1 (.slice A l.length c) l.length (cl .u8 l) ∧ Below w.heap.size w w' ∧ l.length ≤ c ∧ c ≤ maxLen
theorem Owned.mk {w w' : World} {l : List Int} {v : Value} (h : w'.ownsRow w.heap.size 5 1 v l.length (cl .u8 l)) (hb : Below w.heap.size w w') : Owned w l (.returned v) w' := by
  obtain ⟨A, c, rfl, h1, h2⟩ := own_form h
  exact ⟨A, c, rfl, h, hb, h1, h2⟩

set_option maxHeartbeats 400000 in
theorem clone_any (A : Option Addr) (B c : Nat) (l : List Int) (w : World) (hr : Rd w .u8 B A l) (hB : B ≤ w.heap.size) (hl : l.length ≤ 900000) :
    Calls Try.prog 13 #[.slice A l.length c] w fun e w' => Owned w l e w' := by
  rcases A with _ | a
  · have hn : l = [] := by
      rcases l with _ | ⟨x, r⟩
      · rfl
      · obtain ⟨a, e, _⟩ := hr (by simp); cases e
    subst hn
    have q := fun w => Lib.run_eql_slice_nil (P := Try.prog) w 22 5 none 0 c 0 0 Try.underlying22
    go_enter Try.func13, Try.ntmps13
    go_wp2
    go_ret
    exact Owned.mk (World.ownsRow_nil _ _ _ _) (Below.refl _ _)
  · have q := fun w => Lib.run_eql_slice_nil (P := Try.prog) w 22 5 (some a) l.length c 0 0 Try.underlying22
    have HR := Lib.hid hr
    clear hr
    go_enter Try.func13, Try.ntmps13
    have hown : (w.alloc (.cells #[] 5)).ownsRow w.heap.size 5 1 (.slice (some ⟨w.heap.size, 0, none⟩) 0 0) ([] : List Int).length (cl .u8 []) := World.ownsRow_made w #[] 0 (Nat.le_refl _) (by unfold maxLen; omega) rfl
    have HO := Lib.hid hown
    clear hown
    go_wp2_with (at_builtin; refine wpList_append_rd rfl _ _ rfl rfl w.heap.size _ [] l B (some a) c rfl rfl HO.out (HR.out.below ((Below.refl _ _).alloc hB _)) (by simp; omega) (by simp) ?_; intro v' w1 hg)
    go_ret
    exact Owned.mk (by simpa using hg.own) (((Below.refl _ _).alloc (Nat.le_refl _) _).trans (hg.below (l0 := []) HO.out (by simp)))

/-- Returned is a slice that was grown by l. -/
def Grown1 (w : World) (base : Nat) (v : Value) (l : List Int) (e : Ending) (w' : World) : Prop := ∃ v', e = .returned v' ∧ Grew w base v l v' w'

theorem Grew.after {w w1 w2 : World} {base : Nat} {v v1 : Value} {l : List Int} (h : Grew w base v l v1 w1) (hb : Below w1.heap.size w1 w2) : Grew w base v l v1 w2 :=
  ⟨own_kept h.own fun i hi => hb.block i (h.own.lt i hi).2, ⟨hb.os.trans h.grown.os, hb.tape.trans h.grown.tape, hb.output.trans h.grown.output, Nat.le_trans h.grown.size hb.size,
    fun i hi hne => (hb.block i (Nat.lt_of_lt_of_le hi h.grown.size)).trans (h.grown.block i hi hne)⟩, h.at_⟩
theorem Grew.start (w : World) : Grew w w.heap.size (.slice none 0 0) [] (.slice none 0 0) w := Grew.refl (World.ownsRow_nil _ _ _ _)
theorem Grew.below0 {w w' : World} {v : Value} {l : List Int} (h : Grew w w.heap.size (.slice none 0 0) l v w') : Below w.heap.size w w' := h.below (l0 := []) (World.ownsRow_nil _ _ _ _) (Nat.le_refl _)
theorem Grew.owned {w w' : World} {v : Value} {l : List Int} (h : Grew w w.heap.size (.slice none 0 0) l v w') : Owned w l (.returned v) w' := Owned.mk h.own h.below0
theorem Owned.open_ {w w' : World} {l : List Int} {e : Ending} (h : Owned w l e w') :
    ∃ A n c, e = .returned (.slice A n c) ∧ Hid (l.length = n) ∧ Hid (w'.ownsRow w.heap.size 5 1 (.slice A n c) n (cl .u8 l)) ∧ Hid (Below w.heap.size w w') ∧ Hid (Rd w' .u8 w'.heap.size A l) ∧ n ≤ c ∧ c ≤ maxLen := by
  obtain ⟨A, c, rfl, ho, hb, h1, h2⟩ := h
  exact ⟨A, l.length, c, rfl, rfl, ho, hb, Rd.own ho, h1, h2⟩
theorem clone_len (A : Option Addr) (B c n : Nat) (l : List Int) (w : World) (hr : Rd w .u8 B A l) (hB : B ≤ w.heap.size) (hn : l.length = n) (hl : n ≤ 900000) :
    Calls Try.prog 13 #[.slice A n c] w fun e w' => Owned w l e w' := by subst hn; exact clone_any A B c l w hr hB hl
theorem own_lit (w : World) (cs : Array Value) (l : List Int) (t : TypeId) (h : cs.toList = cl .u8 l) (hm : l.length ≤ 1000) :
    (w.alloc (.cells cs t)).ownsRow w.heap.size t 1 (.slice (some ⟨w.heap.size, 0, none⟩) l.length l.length) l.length (cl .u8 l) := by
  have hs : cs.size = l.length := by rw [← Array.length_toList, h, cl_length]
  refine ⟨by rw [cl_length, Nat.mul_one], .inr ⟨w.heap.size, l.length, cs, rfl, Nat.le_refl _, alloc_block, Nat.le_refl _, by unfold maxLen; omega, by rw [hs, Nat.mul_one], ?_⟩⟩
  rw [h, Nat.mul_one, List.take_of_length_le (by rw [cl_length]; exact Nat.le_refl _)]
theorem Grew.open_ {w w' : World} {base : Nat} {v v' : Value} {l : List Int} (h : Grew w base v l v' w') (n : Nat) (hn : l.length = n) : ∃ A c, v' = .slice A n c ∧ n ≤ c ∧ c ≤ maxLen := by
  subst hn; exact own_form h.own
theorem Rd.own' {w : World} {base : Nat} {e : TypeId} {k : IntKind} {A : Option Addr} {n m c : Nat} {l : List Int} (h : w.ownsRow base e 1 (.slice A m c) n (cl k l)) (hm : n = m) : Rd w k w.heap.size A l := by
  subst hm; exact Rd.own h
theorem slice_len {A : Option Addr} {n m c : Nat} (h : n = m) : Value.slice A n c = .slice A m c := by rw [h]
/-- What lies behind a cut: at the very end of a row the address stays. -/
theorem Rd.cut {w : World} {k : IntKind} {B : Nat} {a : Addr} {l : List Int} (h : Rd w k B (some a) l) {c : Nat} (hc : l.length ≤ c) (q m : Nat) : Rd w k B (if c = q then some a else some (a.add q)) ((l.drop q).take m) := by
  by_cases e : c = q
  · have : (l.drop q).take m = [] := by rw [List.drop_of_length_le (by omega)]; simp
    rw [this]; exact Rd.none
  · rw [if_neg e]; exact (h.drop q).take m
/-- The same, whatever the address. -/
theorem Rd.cut' {w : World} {k : IntKind} {B : Nat} {A : Option Addr} {l : List Int} (h : Rd w k B A l) {c : Nat} (hc : l.length ≤ c) (q m : Nat) : Rd w k B (if c = q then A else A.map (·.add q)) ((l.drop q).take m) := by
  by_cases e : c = q
  · have : (l.drop q).take m = [] := by rw [List.drop_of_length_le (by omega)]; simp
    rw [this]; exact Rd.none
  · rw [if_neg e]; exact (h.drop q).take m
/-- A new slice, by the name of its length. -/
theorem Owned.open_n {w w' : World} {l : List Int} {e : Ending} (h : Owned w l e w') (n : Nat) (hn : l.length = n) :
    ∃ A c, e = .returned (.slice A n c) ∧ Hid (w'.ownsRow w.heap.size 5 1 (.slice A n c) n (cl .u8 l)) ∧ Hid (Below w.heap.size w w') ∧ Hid (Rd w' .u8 w'.heap.size A l) ∧ n ≤ c ∧ c ≤ maxLen := by
  subst hn
  obtain ⟨A, c, rfl, ho, hb, h1, h2⟩ := h
  exact ⟨A, c, rfl, ho, hb, Rd.own ho, h1, h2⟩
/-- A row of the call's own that isn't empty: its block. -/
theorem own_some {w : World} {base : Nat} {e : TypeId} {k : IntKind} {v : Value} {l : List Int} (h : w.ownsRow base e 1 v l.length (cl k l)) (n : Nat) (hn : l.length = n) (h0 : 0 < n) :
    ∃ g cap cur, v = .slice (some ⟨g, 0, none⟩) n cap ∧ base ≤ g ∧ w.heap[g]? = some (.cells cur e (0, 0)) ∧ n ≤ cap ∧ cap ≤ maxLen ∧ cur.size = cap ∧ cur.toList.take n = cl k l := by
  subst hn
  rcases h.2 with ⟨_, h1⟩ | ⟨g, cap, cur, rfl, hb, hg, h1, h2, h3, h4⟩
  · omega
  · exact ⟨g, cap, cur, rfl, hb, hg, h1, h2, by rw [h3, Nat.mul_one], by rw [Nat.mul_one] at h4; exact h4⟩

theorem cur_at {cur : Array Value} {N : Nat} {L : List Int} (h : cur.toList.take N = cl .u8 L) {j : Nat} {u : Int} (hu : L[j]? = some u) : cur[j]? = some (.int .u8 u) := by
  have e : (cl .u8 L)[j]? = some (.int .u8 u) := by unfold cl; rw [List.getElem?_map, hu]; rfl
  rw [← h, List.getElem?_take] at e
  split at e
  · rwa [Array.getElem?_toList] at e
  · cases e
/-- One number of a known block is another one. -/
theorem rd_set {w0 : World} {g k N : Nat} {cur : Array Value} {t : TypeId} {v : Int} {L : List Int} (hg : g < w0.heap.size) (h : cur.toList.take N = cl .u8 L) :
    Rd (boxed w0 g (cur.setIfInBounds k (.int .u8 v)) t) .u8 (boxed w0 g (cur.setIfInBounds k (.int .u8 v)) t).heap.size (some ⟨g, 0, none⟩) (L.set k v) := fun _ => by
  refine ⟨_, rfl, by rw [boxed_size]; exact hg, fun j u hu => ?_⟩
  rw [ad_head, boxed_cell hg, Array.getElem?_setIfInBounds]
  by_cases e : k = j
  · subst e
    have hlt : k < L.length := by
      rcases Nat.lt_or_ge k L.length with h' | h'
      · exact h'
      · rw [List.getElem?_eq_none (by rw [List.length_set]; exact h')] at hu; cases hu
    rw [List.getElem?_set_self hlt] at hu
    injection hu with hu
    have hc := cur_at h (List.getElem?_eq_getElem hlt)
    rw [if_pos rfl, if_pos (Array.getElem?_eq_some_iff.1 hc).1, hu]
  · rw [List.getElem?_set_ne e] at hu
    rw [if_neg e]
    exact cur_at h hu
end Go.Proofs.Ytlldkcelkgnalaa
