/-
  The contract of the laws' own look at the document's example, and words for the laws' walks. No conditions.
-/
import Derived.Test.YtbnbamakcbpaeaaPkPut
import Derived.Test.YtbnbamakcbpaeaaPkGet
namespace Go.Proofs.Ytbnbamakcbpaeaa
open Go.ChangeShapes Go.WideShapes Go.ChangeAt Go.RowKit

theorem Owned.open_ {w w' : World} {l : List Int} {e : Ending} (h : Owned w l e w') :
    ∃ A n c, e = .returned (.slice A n c) ∧ Hid (l.length = n) ∧ Hid (w'.ownsRow w.heap.size 5 1 (.slice A n c) n (cl .u8 l)) ∧ Hid (Below w.heap.size w w') ∧ Hid (Rd w' .u8 w'.heap.size A l) ∧ n ≤ c ∧ c ≤ maxLen := by
  obtain ⟨A, c, rfl, ho, hb, h1, h2⟩ := h
  exact ⟨A, l.length, c, rfl, rfl, ho, hb, Rd.own ho, h1, h2⟩
theorem conv_len (w : World) (A : Option Addr) (B c m : Nat) (l : List Int) (h : Rd w .u8 B A l) (hm : l.length = m) :
    (convert 27 9 (.slice A m c)).run Try.prog w = .ok (.string (bst l)) w := by subst hm; exact conv_any w A B c l h

theorem encs_first : Pk.encs [5, -1, 100] = [10, 1, 72, 3] := by
  have z0 : Pk.zig 5 = 10 := by decide
  have z1 : Pk.zig (-1) = 1 := by decide
  have z2 : Pk.zig 100 = 200 := by decide
  rw [Pk.encs_cons, Pk.encs_cons, Pk.encs_one, z0, z1, z2, Pk.enc_less (by omega), Pk.enc_less (by omega), Pk.enc_more (by omega), Pk.enc_less (by omega)]
  rfl
theorem bst_first : bst [10, 1, 72, 3] = ⟨#[10, 1, 72, 3]⟩ := by rw [bst_eq]; rfl

/-- What is put in a new box. -/
theorem put_new (w : World) (A : Option Addr) (B c m : Nat) (ns : List Int) (hr : Rd w .i64 B A ns) (hB : B ≤ w.heap.size) (hm : ns.length = m) (hn : ns.length ≤ 1000) (hi : I64 ns) :
    Calls Try.prog 12 #[.pointer (some ⟨w.heap.size, 0, none⟩), .slice A m c] (w.alloc (.cells #[.slice none 0 0, .int .i64 0] 51)) (fun e w' => e = .returned (.pointer (some ⟨w.heap.size, 0, none⟩)) ∧ PB w' w.heap.size w.heap.size (Pk.encs ns) ∧ Below w.heap.size w w') := by
  subst hm
  refine (put_any _ w.heap.size w.heap.size [] A c ns (pb_new w _ (Nat.le_refl _)) (Src.of_rd (hr.below ((Below.refl _ _).alloc hB _)) hB) (by simp) hn hi).mono fun e w' ⟨he, hp⟩ => ?_
  exact ⟨he, hp.box, ((Below.refl _ _).alloc (Nat.le_refl _) _).trans hp.below⟩

/-- Numbers in a literal, behind a new box. -/
theorem put_lit (w : World) (c m : Nat) (ns : List Int) (cs : Array Value) (hcs : cs.toList = cl .i64 ns) (hm : ns.length = m) (hn : ns.length ≤ 1000) (hi : I64 ns) :
    Calls Try.prog 12 #[.pointer (some ⟨w.heap.size, 0, none⟩), .slice (some ⟨w.heap.size + 1, 0, none⟩) m c] ((w.alloc (.cells #[.slice none 0 0, .int .i64 0] 51)).alloc (.cells cs 2))
      (fun e w' => e = .returned (.pointer (some ⟨w.heap.size, 0, none⟩)) ∧ PB w' w.heap.size w.heap.size (Pk.encs ns) ∧ Below w.heap.size w w') := by
  subst hm
  have hb : ((w.alloc (.cells #[.slice none 0 0, .int .i64 0] 51)).alloc (.cells cs 2)).heap[w.heap.size + 1]? = some (.cells cs 2) := by
    rw [← World.size_alloc w (.cells #[.slice none 0 0, .int .i64 0] 51)]; exact alloc_block
  refine (put_any _ w.heap.size w.heap.size [] _ c ns ((pb_new w _ (Nat.le_refl _)).alloc _) (fun _ => ⟨_, rfl, .inr ⟨cs, hb⟩, fun j u hu => ?_⟩) (by simp) hn hi).mono fun e w' ⟨he, hp⟩ => ?_
  · rw [ad_head, cell_of_row _ _ _ _ _ (0, 0) hb, ← Array.getElem?_toList, hcs]
    unfold cl; rw [List.getElem?_map, hu]; rfl
  · exact ⟨he, hp.box, (((Below.refl _ _).alloc (Nat.le_refl _) _).alloc (by simp) _).trans hp.below⟩

set_option maxHeartbeats 1000000 in
theorem awake_any (w : World) : Calls Try.prog 10 #[] w fun e w' => e = .returned (.bool true) ∧ Below w.heap.size w w' := by
  go_enter Try.func10, Try.ntmps10
  go_wp2_with (fail)
  refine (new_any _).mono ?_
  rintro e w1 ⟨rfl, rfl⟩
  go_wp2_with (fail)
  refine (put_lit w 3 3 [5, -1, 100] _ rfl rfl (by simp) (by unfold I64; simp)).mono ?_
  rintro e w2 ⟨rfl, hp, hb⟩
  have HB := Lib.hid hb
  have HP := Lib.hid hp
  clear hb hp
  go_wp2_with (fail)
  refine (done_put _ _ _ _ HP.out (by rw [encs_first]; simp)).mono ?_
  intro e w3 hO
  obtain ⟨A, n, c, rfl, HN, HO, HB2, HR, h1, h2⟩ := hO.open_
  have hcv := conv_len w3 A _ c n _ HR.out HN.out
  rw [encs_first, bst_first] at hcv
  go_wp2
  go_ret
  exact ⟨rfl, HB.out.trans (HB2.out.mono HB.out.size)⟩
end Go.Proofs.Ytbnbamakcbpaeaa
