/-
  Slices that a call makes and hands back; a copy of bytes. No conditions but the sizes.
-/
import Derived.Test.YtpaodedkogndbaaDoorApp
import Derived.Lib.Hide
namespace Go.Proofs.YtpaodedkogndbaaDoor
open Go.ChangeShapes Go.WideShapes Go.ChangeAt Go.RowKit

/-- A slice of the call's own is returned that reads as l; all else is as it was. -/
def Owned (w : World) (l : List Int) (e : Ending) (w' : World) : Prop :=
  ∃ A c, e = .returned (.slice A l.length c) ∧ w'.ownsRow w.heap.size 5 1 (.slice A l.length c) l.length (cl .u8 l) ∧ Below w.heap.size w w' ∧ l.length ≤ c ∧ c ≤ maxLen
theorem Owned.mk {w w' : World} {l : List Int} {v : Value} (h : w'.ownsRow w.heap.size 5 1 v l.length (cl .u8 l)) (hb : Below w.heap.size w w') : Owned w l (.returned v) w' := by
  obtain ⟨A, c, rfl, h1, h2⟩ := own_form h
  exact ⟨A, c, rfl, h, hb, h1, h2⟩

set_option maxHeartbeats 400000 in
theorem clone_any (A : Option Addr) (B c : Nat) (l : List Int) (w : World) (hr : Rd w .u8 B A l) (hB : B ≤ w.heap.size) (hl : l.length ≤ 900000) :
    Calls Tryd.prog 21 #[.slice A l.length c] w fun e w' => Owned w l e w' := by
  rcases A with _ | a
  · have hn : l = [] := by
      rcases l with _ | ⟨x, r⟩
      · rfl
      · obtain ⟨a, e, _⟩ := hr (by simp); cases e
    subst hn
    have q := fun w => Lib.run_eql_slice_nil (P := Tryd.prog) w 22 5 none 0 c 0 0 Tryd.underlying22
    go_enter Tryd.func21, Tryd.ntmps21
    go_wp2
    go_ret
    exact Owned.mk (World.ownsRow_nil _ _ _ _) (Below.refl _ _)
  · have q := fun w => Lib.run_eql_slice_nil (P := Tryd.prog) w 22 5 (some a) l.length c 0 0 Tryd.underlying22
    have HR := Lib.hid hr
    clear hr
    go_enter Tryd.func21, Tryd.ntmps21
    have hown : (w.alloc (.cells #[] 5)).ownsRow w.heap.size 5 1 (.slice (some ⟨w.heap.size, 0, none⟩) 0 0) ([] : List Int).length (cl .u8 []) := World.ownsRow_made w #[] 0 (Nat.le_refl _) (by unfold maxLen; omega) rfl
    have HO := Lib.hid hown
    clear hown
    go_wp2_with (at_builtin; refine wpList_append_rd rfl _ _ rfl rfl w.heap.size _ [] l B (some a) c rfl rfl HO.out (HR.out.below ((Below.refl _ _).alloc hB _)) (by simp; omega) (by simp) ?_; intro v' w1 hg)
    go_ret
    exact Owned.mk (by simpa using hg.own) (((Below.refl _ _).alloc (Nat.le_refl _) _).trans (hg.below (l0 := []) HO.out (by simp)))

/-- Returned is a slice that was grown by l. -/
def Grown1 (w : World) (base : Nat) (v : Value) (l : List Int) (e : Ending) (w' : World) : Prop := ∃ v', e = .returned v' ∧ Grew w base v l v' w'

theorem Grew.after {w w1 w2 : World} {base : Nat} {v v1 : Value} {l : List Int} (h : Grew w base v l v1 w1) (hb : Below w1.heap.size w1 w2) : Grew w base v l v1 w2 :=
  ⟨own_kept h.own fun i hi => hb.block i (h.own.lt i hi).2, ⟨hb.os.trans h.grown.os, hb.tape.trans h.grown.tape, hb.output.trans h.grown.output, Nat.le_trans h.grown.size hb.size,
    fun i hi hne => (hb.block i (Nat.lt_of_lt_of_le hi h.grown.size)).trans (h.grown.block i hi hne)⟩, h.at_⟩
theorem Grew.start (w : World) : Grew w w.heap.size (.slice none 0 0) [] (.slice none 0 0) w := Grew.refl (World.ownsRow_nil _ _ _ _)
theorem Grew.below0 {w w' : World} {v : Value} {l : List Int} (h : Grew w w.heap.size (.slice none 0 0) l v w') : Below w.heap.size w w' := h.below (l0 := []) (World.ownsRow_nil _ _ _ _) (Nat.le_refl _)
theorem Grew.owned {w w' : World} {v : Value} {l : List Int} (h : Grew w w.heap.size (.slice none 0 0) l v w') : Owned w l (.returned v) w' := Owned.mk h.own h.below0
theorem Owned.open_ {w w' : World} {l : List Int} {e : Ending} (h : Owned w l e w') :
    ∃ A n c, e = .returned (.slice A n c) ∧ Hid (l.length = n) ∧ Hid (w'.ownsRow w.heap.size 5 1 (.slice A n c) n (cl .u8 l)) ∧ Hid (Below w.heap.size w w') ∧ Hid (Rd w' .u8 w'.heap.size A l) ∧ n ≤ c ∧ c ≤ maxLen := by
  obtain ⟨A, c, rfl, ho, hb, h1, h2⟩ := h
  exact ⟨A, l.length, c, rfl, rfl, ho, hb, Rd.own ho, h1, h2⟩
end Go.Proofs.YtpaodedkogndbaaDoor
