/-
  How the law's world begins: a subscription of the first plan, on both sides. No conditions but the sizes.
-/
import Derived.Test.YtnbfkdcpghkglaaRows
import Derived.Below
import Derived.ChangeSame
import Derived.ProofKit
import Derived.JoinedOf
import Derived.JoinedAt
import Derived.OpenShut
import Derived.Carry
import Derived.ChangeSlices
import Derived.Test.YtnbfkdcpghkglaaPb03
import Derived.Test.YtnbfkdcpghkglaaPb31
set_option linter.unusedSimpArgs false
set_option linter.unusedVariables false
namespace Go.Proofs.Ytnbfkdcpghkglaa
set_option maxRecDepth 100000
open Go.ChangeShapes Go.WideShapes Go.ChangeAt Go.RowKit

/-- What lies in the blocks that 'begin' makes first. -/
structure BegS (B : Nat) (ps : Nat → Pv) (wd : Wd) (w' : World) : Prop where
  p : w'.heap[B]? = some (.cells (Tw.arr ps) 27 (0, 0))
  z : w'.heap[B + 1]? = some (.cells #[.int .u8 0, .int .i64 0, .int .i64 0, .int .i64 0, .int .i64 0, .int .i64 0, .bool false, .slice none 0 0, .int .i64 0, .int .i64 0, .int .i64 0, .int .i64 0, .int .i64 0, .int .u8 0, .int .i64 0, .int .i64 0, .int .i64 0, .int .i64 0, .bool false, .slice none 0 0, .int .i64 0, .int .i64 0] 38 (0, 0))
  d : w'.heap[B + 1 + 1]? = some (.cells wd.arr 38 (0, 0))
  lt : B + 1 + 1 < w'.heap.size
section
variable {B : Nat} {ps : Nat → Pv} {wd : Wd} {w w' : World}
theorem BegS.below (h : BegS B ps wd w) (hb : Below w.heap.size w w') : BegS B ps wd w' := ⟨below_block hb h.p, below_block hb h.z, below_block hb h.d, by have := hb.size; have := h.lt; omega⟩
theorem BegS.alloc {o : Obj} (h : BegS B ps wd w) : BegS B ps wd (w.alloc o) := ⟨alloc_old (by have := h.lt; omega) h.p, alloc_old (by have := h.lt; omega) h.z, alloc_old (by have := h.lt; omega) h.d, by have := h.lt; simp; omega⟩
theorem BegS.drew (h : BegS B ps wd w) : BegS B ps wd w.drew := ⟨h.p, h.z, h.d, h.lt⟩
theorem BegS.boxed {k : Nat} {cs : Array Value} {ty : TypeId} (h : BegS B ps wd w) (hk : B + 1 + 1 < k) : BegS B ps wd (Go.Proofs.Ytnbfkdcpghkglaa.boxed w k cs ty) := ⟨boxed_old (by omega) h.p, boxed_old (by omega) h.z, boxed_old (by omega) h.d, by simp only [boxed_size]; exact h.lt⟩
end
theorem region_frame4 {P : Program} {c : Code} {Q : Exit → Act → World → Prop} {a : Act} {w : World} (Facts : Nat → Option Addr → Nat → World → Prop) (fr : Nat → Option Addr → Nat → Act)
    (h : c.wp P (fun e a' w' => e = .normal ∧ ∃ Z A1 c1, a' = fr Z A1 c1 ∧ Facts Z A1 c1 w') a w) (hk : ∀ Z A1 c1 w', Facts Z A1 c1 w' → Q .normal (fr Z A1 c1) w') : c.wp P Q a w :=
  wp_mono h (by rintro e a' w' ⟨rfl, Z, A1, c1, rfl, hf⟩; exact hk _ _ _ _ hf)
/-- A subscription that has just been opened. -/
def Sv.fresh (an : Int) : Sv := ⟨1, 0, an, 0, 0, false, []⟩
theorem Sv.fresh_sta {p : Pv} {y an : Int} (h0 : 0 ≤ an) (h1 : an ≤ 3652058) (hy : y < an) : Sta 0 0 p y (Sv.fresh an) := by
  obtain ⟨k, d, hAt⟩ := Cal.at_of an h0 h1
  exact ⟨⟨.inl rfl, fun k c h => by simp [Sv.fresh] at h, fun c h => by simp [Sv.fresh] at h, by show absI 0 + 0 ≤ 0; decide, Int.le_refl _, Int.le_refl _⟩, Int.le_refl _, k, d, 0, hAt, Cal.Cnt.before hAt hy, fun _ => rfl, Int.le_refl _, Int.le_refl _⟩
set_option maxHeartbeats 8000000 in
theorem begin_rel {w : World} {ps : Nat → Pv} {td : Int} (hps : (ps 0).Ok) (ht : 0 ≤ (ps 0).t ∧ (ps 0).t ≤ 1000) (htd : 700000 ≤ td ∧ td ≤ 765535) : Calls Try.prog 9 #[.agg (Tw.arr ps), .int .i64 td] w fun e w' => ∃ b' : Wd, e = .returned (.tuple #[.agg b'.arr, .bool true]) ∧ (∀ (W : World) (lo hi : Nat), Below w'.heap.size w' W → lo = w'.heap.size → hi ≤ W.heap.size → Rel ps 0 lo hi W b') ∧ Below w.heap.size w w' := by
  obtain ⟨s', D⟩ := (Sv.fresh_sta (y := td - 1) (an := td + (ps 0).t) (p := ps 0) (by omega) (by omega) (by omega)).day (y' := td) hps (by omega) (by omega) (by omega) (by omega) (by omega) (by omega)
  obtain ⟨wd, hwd⟩ : ∃ wd : Wd, wd = ⟨Av.zero, .slice none 0 0, Sv.zero, .slice none 0 0, td, 0⟩ := ⟨_, rfl⟩
  have HB : Hid (Try.prog.built 38 [(2, .int .i64 td), (3, .int .i64 0)] = some wd.arr) := by rw [hwd]; exact Wd.new_built td 0
  have hone : wd.arr.all (·.oneCell') = true := by rw [hwd]; exact Wd.arr_one rfl rfl
  have HONE := Lib.hid hone
  have HWD := Lib.hid hwd
  clear hwd hone
  obtain ⟨ht0, ht1⟩ := ht
  obtain ⟨htd0, htd1⟩ := htd
  go_enter Try.func9, Try.ntmps9
  go_wp2_with (((with_reducible_and_instances (show wpList _ _ _ (Oper.mk _ (Op.build 38 _) _ _ _ _ :: _) _ _)); refine stop_here ?_))
  refine ⟨?_⟩
  refine wpList_buildTo rfl 38 _ rfl _ rfl _ (Eq.trans (congrArg (Program.built _ _) (by simp [Act.eval])) HB.out) ?_
  go_wp2_with (((with_reducible_and_instances (show wpList _ _ _ (Oper.mk _ (Op.store 38 _ _) _ _ _ _ :: _) _ _)); refine stop_here ?_))
  refine ⟨?_⟩
  refine wl_store (g := w.heap.size + 1 + 1) Wd.info rfl rfl rfl rfl (alloc_at (by simp)) rfl (Wd.arr_size _) HONE.out ?_
  obtain ⟨W0, hW0⟩ : ∃ W0, boxed (((w.alloc (.cells (Tw.arr ps) 27)).alloc (.cells #[.int .u8 0, .int .i64 0, .int .i64 0, .int .i64 0, .int .i64 0, .int .i64 0, .bool false, .slice none 0 0, .int .i64 0, .int .i64 0, .int .i64 0, .int .i64 0, .int .i64 0, .int .u8 0, .int .i64 0, .int .i64 0, .int .i64 0, .int .i64 0, .bool false, .slice none 0 0, .int .i64 0, .int .i64 0] 38)).alloc (.cells #[.int .u8 0, .int .i64 0, .int .i64 0, .int .i64 0, .int .i64 0, .int .i64 0, .bool false, .slice none 0 0, .int .i64 0, .int .i64 0, .int .i64 0, .int .i64 0, .int .i64 0, .int .u8 0, .int .i64 0, .int .i64 0, .int .i64 0, .int .i64 0, .bool false, .slice none 0 0, .int .i64 0, .int .i64 0] 38)) (w.heap.size + 1 + 1) wd.arr 38 = W0 := ⟨_, rfl⟩
  have hT : (BegS w.heap.size ps wd) W0 := by rw [← hW0]; exact ⟨boxed_old (by omega) (alloc_old (by simp; omega) (alloc_old (by simp) (alloc_at rfl))), boxed_old (by omega) (alloc_old (by simp) (alloc_at (by simp))), boxed_at (by simp), by simp⟩
  have hW : Below w.heap.size w W0 := by rw [← hW0]; exact boxed_below ((((Below.refl _ w).alloc (Nat.le_refl _) _).alloc (by simp) _).alloc (by simp; omega) _) (by omega)
  have HT := Lib.hid hT
  have HW0 := Lib.hid hW
  have hzT := hT.lt
  rw [hW0]
  clear hW0 hT hW HB
  go_upto_region 2 with fail
  obtain ⟨x, hx⟩ : ∃ x, s'.tell = x := ⟨_, rfl⟩
  have HDAY : Hid (∀ W, Calls Try.prog 19 #[.agg ((Av.opened 0 (td + (ps 0).t)).arr (.slice none 0 0)), .agg (ps 0).arr, .int .i64 td] W (News W x)) := fun W => by rw [← hx]; exact D.calls W (.slice none 0 0) Cys.nil
  have HX := Lib.hid hx
  clear hx
  have HS0 : Hid ((BegS w.heap.size ps wd) W0.drew) := HT.out.drew
  apply region_frame4 (fun Z A1 c1 w' => Hid (Below w.heap.size w w') ∧ Hid ((BegS w.heap.size ps wd) w') ∧ Hid (w'.heap[Z]? = some (.cells (x.arr (.slice A1 x.l.length c1)) 33 (0, 0))) ∧ Hid (Cys w' (w.heap.size + 1 + 1 + 1) w'.heap.size (.slice A1 x.l.length c1) x.l) ∧ w.heap.size + 1 + 1 < Z ∧ Z < w'.heap.size)
  · refine lane_start (ord := [0, 1, 2, 4, 5, 6, 3, 7, 8, 9, 10, 11, 12, 13]) (S := (BegS w.heap.size ps wd)) rfl (by kernel_rfl) (by exact HS0.out) (fun _ => ?_)
    (refine lane_take (v := ?_) rfl (by kernel_rfl) (by kernel_rfl) (by rfl) ?_ (by exact HS0.out) ?_; rotate_left; (focus (intro W hSw; go_simp; try (with_reducible rfl))); simp only [Act.put, List.setIfInBounds_toArray, List.set_cons_zero, List.set_cons_succ])
    refine lane_take (v := .agg (ps 0).arr) rfl (by kernel_rfl) (by kernel_rfl) (by rfl) (fun W hSw => exec_load rfl rfl (by
      have h9 := run_loadAt_mid (P := Try.prog) W (w.heap.size) (0 * 6) 26 _ _ (Tw.range hSw.p (k := 0) (by omega)) Try.underlying26 rfl info6p
      rw [Array.toArray_toList] at h9
      exact h9)) (by exact HS0.out) ?_
    simp only [Act.put, List.setIfInBounds_toArray, List.set_cons_zero, List.set_cons_succ]
    (refine lane_take (v := ?_) rfl (by kernel_rfl) (by kernel_rfl) (by rfl) ?_ (by exact HS0.out) ?_; rotate_left; (focus (intro W hSw; go_simp; try (with_reducible rfl))); simp only [Act.put, List.setIfInBounds_toArray, List.set_cons_zero, List.set_cons_succ])
    (refine lane_take (v := ?_) rfl (by kernel_rfl) (by kernel_rfl) (by rfl) ?_ (by exact HS0.out) ?_; rotate_left; (focus (intro W hSw; go_simp; try (with_reducible rfl))); simp only [Act.put, List.setIfInBounds_toArray, List.set_cons_zero, List.set_cons_succ])
    refine lane_take (v := .agg (ps 0).arr) rfl (by kernel_rfl) (by kernel_rfl) (by rfl) (fun W hSw => exec_load rfl rfl (by
      have h9 := run_loadAt_mid (P := Try.prog) W (w.heap.size) (0 * 6) 26 _ _ (Tw.range hSw.p (k := 0) (by omega)) Try.underlying26 rfl info6p
      rw [Array.toArray_toList] at h9
      exact h9)) (by exact HS0.out) ?_
    simp only [Act.put, List.setIfInBounds_toArray, List.set_cons_zero, List.set_cons_succ]
    (refine lane_take (v := ?_) rfl (by kernel_rfl) (by kernel_rfl) (by rfl) ?_ (by exact HS0.out) ?_; rotate_left; (focus (intro W hSw; go_simp; try (with_reducible rfl))); simp only [Act.put, List.setIfInBounds_toArray, List.set_cons_zero, List.set_cons_succ])
    refine lane_two (i := 3) (j := 11) (ordI := [7, 8, 9, 10, 11, 12, 13]) (ordJ := [3, 7, 8, 9, 10, 12, 13]) rfl rfl (by kernel_rfl) rfl (by rfl) (by rfl) (fun K hK => ?_) (fun K hK => ?_)
    · go_simp
      refine (open_any (p := ps 0) 0 td (by omega)).mono ?_
      rintro e W1 ⟨rfl, hb⟩
      have hb0 : Below W0.heap.size W0 W1 := (Below.refl _ W0).drew.trans hb
      have HS1 : Hid ((BegS w.heap.size ps wd) W1) := HT.out.below hb0
      have HW1 : Hid (Below w.heap.size w W1) := HW0.out.trans (hb0.mono HW0.out.size)
      have hz1 : W0.heap.size ≤ W1.heap.size := hb0.size
      clear hb hb0
      refine hK _ _ HS1.out (fun _ => ?_)
      clear hK K
      refine lane_two (i := 7) (j := 11) (ordI := [8, 9, 10, 11, 12, 13]) (ordJ := [7, 8, 9, 10, 12, 13]) rfl rfl (by kernel_rfl) rfl (by rfl) (by rfl) (fun K hK => ?_) (fun K hK => ?_)
      · go_simp
        refine (HDAY.out _).mono ?_
        rintro e W3 ⟨v1, rfl, ho3, hb3⟩
        obtain ⟨A1, c1, rfl, _, _⟩ := ho3.form
        have HS3 : Hid ((BegS w.heap.size ps wd) W3) := HS1.out.below hb3
        have HW3 : Hid (Below w.heap.size w W3) := HW1.out.trans (hb3.mono HW1.out.size)
        have HC3 : Hid (Cys W3 W1.heap.size W3.heap.size (.slice A1 x.l.length c1) x.l) := ho3.cys
        have hz3 : W1.heap.size ≤ W3.heap.size := hb3.size
        clear hb3 ho3 HS1 HW1
        refine hK _ _ HS3.out (fun _ => ?_)
        clear hK K
        (refine lane_take (v := ?_) rfl (by kernel_rfl) (by kernel_rfl) (by rfl) ?_ (by exact HS3.out) ?_; rotate_left; (focus (intro W hSw; go_simp; try (with_reducible rfl))); simp only [Act.put, List.setIfInBounds_toArray, List.set_cons_zero, List.set_cons_succ])
        (refine lane_take (v := ?_) rfl (by kernel_rfl) (by kernel_rfl) (by rfl) ?_ (by exact HS3.out) ?_; rotate_left; (focus (intro W hSw; go_simp; try (with_reducible rfl))); simp only [Act.put, List.setIfInBounds_toArray, List.set_cons_zero, List.set_cons_succ])
        (refine lane_take (v := ?_) rfl (by kernel_rfl) (by kernel_rfl) (by rfl) ?_ (by exact HS3.out) ?_; rotate_left; (focus (intro W hSw; go_simp; try (with_reducible rfl))); simp only [Act.put, List.setIfInBounds_toArray, List.set_cons_zero, List.set_cons_succ])
        refine lane_alone rfl (by kernel_rfl) (by rfl) (fun K hK => ?_)
        go_simp
        have HZ : Hid ((W3.alloc (.cells #[.int .u8 0, .int .i64 0, .int .i64 0, .int .i64 0, .int .i64 0, .int .i64 0, .bool false, .slice none 0 0, .int .i64 0, .int .i64 0, .int .i64 0, .int .i64 0, .int .i64 0] 33)).heap[W3.heap.size]? = some (.cells #[.int .u8 0, .int .i64 0, .int .i64 0, .int .i64 0, .int .i64 0, .int .i64 0, .bool false, .slice none 0 0, .int .i64 0, .int .i64 0, .int .i64 0, .int .i64 0, .int .i64 0] 33 (0, 0))) := alloc_at rfl
        have HS4 : Hid ((BegS w.heap.size ps wd) (W3.alloc (.cells #[.int .u8 0, .int .i64 0, .int .i64 0, .int .i64 0, .int .i64 0, .int .i64 0, .bool false, .slice none 0 0, .int .i64 0, .int .i64 0, .int .i64 0, .int .i64 0, .int .i64 0] 33))) := HS3.out.alloc
        have HW4 : Hid (Below w.heap.size w (W3.alloc (.cells #[.int .u8 0, .int .i64 0, .int .i64 0, .int .i64 0, .int .i64 0, .int .i64 0, .bool false, .slice none 0 0, .int .i64 0, .int .i64 0, .int .i64 0, .int .i64 0, .int .i64 0] 33))) := HW3.out.alloc HW3.out.size _
        have HC4 : Hid (Cys (W3.alloc (.cells #[.int .u8 0, .int .i64 0, .int .i64 0, .int .i64 0, .int .i64 0, .int .i64 0, .bool false, .slice none 0 0, .int .i64 0, .int .i64 0, .int .i64 0, .int .i64 0, .int .i64 0] 33)) W1.heap.size W3.heap.size (.slice A1 x.l.length c1) x.l) := HC3.out.below ((Below.refl _ W3).alloc (Nat.le_refl _) _)
        have hzz : W3.heap.size < (W3.alloc (.cells #[.int .u8 0, .int .i64 0, .int .i64 0, .int .i64 0, .int .i64 0, .int .i64 0, .bool false, .slice none 0 0, .int .i64 0, .int .i64 0, .int .i64 0, .int .i64 0, .int .i64 0] 33)).heap.size := by simp
        refine hK _ _ HS4.out (fun _ => ?_)
        clear hK K
        refine lane_alone rfl (by kernel_rfl) (by rfl) (fun K hK => ?_)
        refine wp_store_row _ _ _ rfl W3.heap.size _ rfl rfl _ _ HZ.out (by exact info13) rfl (Av.arr_one rfl) ?_
        rw [row_boxed HZ.out]
        refine hK _ _ (HS4.out.boxed (by omega)) (fun _ => ?_)
        clear hK K
        have hS5 : (BegS w.heap.size ps wd) (boxed (W3.alloc (.cells #[.int .u8 0, .int .i64 0, .int .i64 0, .int .i64 0, .int .i64 0, .int .i64 0, .bool false, .slice none 0 0, .int .i64 0, .int .i64 0, .int .i64 0, .int .i64 0, .int .i64 0] 33)) W3.heap.size (x.arr (.slice A1 x.l.length c1)) 33) := HS4.out.boxed (by omega)
        have hZ5 : (boxed (W3.alloc (.cells #[.int .u8 0, .int .i64 0, .int .i64 0, .int .i64 0, .int .i64 0, .int .i64 0, .bool false, .slice none 0 0, .int .i64 0, .int .i64 0, .int .i64 0, .int .i64 0, .int .i64 0] 33)) W3.heap.size (x.arr (.slice A1 x.l.length c1)) 33).heap[W3.heap.size]? = some (.cells (x.arr (.slice A1 x.l.length c1)) 33 (0, 0)) := boxed_at hzz
        have hW5 : Below w.heap.size w (boxed (W3.alloc (.cells #[.int .u8 0, .int .i64 0, .int .i64 0, .int .i64 0, .int .i64 0, .int .i64 0, .bool false, .slice none 0 0, .int .i64 0, .int .i64 0, .int .i64 0, .int .i64 0, .int .i64 0] 33)) W3.heap.size (x.arr (.slice A1 x.l.length c1)) 33) := boxed_below HW4.out (by omega)
        have hC5 : Cys (boxed (W3.alloc (.cells #[.int .u8 0, .int .i64 0, .int .i64 0, .int .i64 0, .int .i64 0, .int .i64 0, .bool false, .slice none 0 0, .int .i64 0, .int .i64 0, .int .i64 0, .int .i64 0, .int .i64 0] 33)) W3.heap.size (x.arr (.slice A1 x.l.length c1)) 33) (w.heap.size + 1 + 1 + 1) (boxed (W3.alloc (.cells #[.int .u8 0, .int .i64 0, .int .i64 0, .int .i64 0, .int .i64 0, .int .i64 0, .bool false, .slice none 0 0, .int .i64 0, .int .i64 0, .int .i64 0, .int .i64 0, .int .i64 0] 33)) W3.heap.size (x.arr (.slice A1 x.l.length c1)) 33).heap.size (.slice A1 x.l.length c1) x.l := (HC4.out.boxed (.inr (Nat.le_refl _))).more (by omega) (by simp only [boxed_size]; omega)
        have hzz5 : W3.heap.size < (boxed (W3.alloc (.cells #[.int .u8 0, .int .i64 0, .int .i64 0, .int .i64 0, .int .i64 0, .int .i64 0, .bool false, .slice none 0 0, .int .i64 0, .int .i64 0, .int .i64 0, .int .i64 0, .int .i64 0] 33)) W3.heap.size (x.arr (.slice A1 x.l.length c1)) 33).heap.size := by simp only [boxed_size]; exact hzz
        have hZT : w.heap.size + 1 + 1 < W3.heap.size := by omega
        obtain ⟨W5, hW5e⟩ : ∃ W5, boxed (W3.alloc (.cells #[.int .u8 0, .int .i64 0, .int .i64 0, .int .i64 0, .int .i64 0, .int .i64 0, .bool false, .slice none 0 0, .int .i64 0, .int .i64 0, .int .i64 0, .int .i64 0, .int .i64 0] 33)) W3.heap.size (x.arr (.slice A1 x.l.length c1)) 33 = W5 := ⟨_, rfl⟩
        rw [hW5e] at hS5 hZ5 hW5 hC5 hzz5 ⊢
        obtain ⟨Z, hZe⟩ : ∃ Z, W3.heap.size = Z := ⟨_, rfl⟩
        rw [hZe] at hZ5 hzz5 hZT ⊢
        have HS5 := Lib.hid hS5
        have HZ5 := Lib.hid hZ5
        have HW5 := Lib.hid hW5
        have HC5 := Lib.hid hC5
        clear hW5e hZe hS5 hZ5 hW5 hC5 HZ HS4 HW4 HC4 hzz
        refine lane_alone rfl (by kernel_rfl) (by rfl) (fun K hK => ?_)
        go_simp
        refine hK _ _ HS5.out (fun _ => ?_)
        clear hK K
        refine lane_end (by kernel_rfl) ?_
        exact ⟨rfl, _, _, _, rfl, HW5, HS5, HZ5, HC5, hZT, hzz5⟩
      · go_simp
        have hZ2 : (W1.alloc (.cells #[.int .u8 0, .int .i64 0, .int .i64 0, .int .i64 0, .int .i64 0, .int .i64 0, .bool false, .slice none 0 0, .int .i64 0, .int .i64 0, .int .i64 0, .int .i64 0, .int .i64 0] 33)).heap[W1.heap.size]? = some (.cells #[.int .u8 0, .int .i64 0, .int .i64 0, .int .i64 0, .int .i64 0, .int .i64 0, .bool false, .slice none 0 0, .int .i64 0, .int .i64 0, .int .i64 0, .int .i64 0, .int .i64 0] 33 (0, 0)) := alloc_at rfl
        have HS2 : Hid ((BegS w.heap.size ps wd) (W1.alloc (.cells #[.int .u8 0, .int .i64 0, .int .i64 0, .int .i64 0, .int .i64 0, .int .i64 0, .bool false, .slice none 0 0, .int .i64 0, .int .i64 0, .int .i64 0, .int .i64 0, .int .i64 0] 33))) := HS1.out.alloc
        have HW2 : Hid (Below w.heap.size w (W1.alloc (.cells #[.int .u8 0, .int .i64 0, .int .i64 0, .int .i64 0, .int .i64 0, .int .i64 0, .bool false, .slice none 0 0, .int .i64 0, .int .i64 0, .int .i64 0, .int .i64 0, .int .i64 0] 33))) := HW1.out.alloc HW1.out.size _
        have hz2 : (W1.alloc (.cells #[.int .u8 0, .int .i64 0, .int .i64 0, .int .i64 0, .int .i64 0, .int .i64 0, .bool false, .slice none 0 0, .int .i64 0, .int .i64 0, .int .i64 0, .int .i64 0, .int .i64 0] 33)).heap.size = W1.heap.size + 1 := by simp
        refine hK _ _ HS2.out (fun _ => ?_)
        clear hK K
        refine lane_alone rfl (by kernel_rfl) (by rfl) (fun K hK => ?_)
        go_simp
        refine (HDAY.out _).mono ?_
        rintro e W4 ⟨v1, rfl, ho3, hb3⟩
        obtain ⟨A1, c1, rfl, _, _⟩ := ho3.form
        have HS4 : Hid ((BegS w.heap.size ps wd) W4) := HS2.out.below hb3
        have HS3 := HS4
        have HW4 : Hid (Below w.heap.size w W4) := HW2.out.trans (hb3.mono HW2.out.size)
        have HC4 : Hid (Cys W4 (W1.alloc (.cells #[.int .u8 0, .int .i64 0, .int .i64 0, .int .i64 0, .int .i64 0, .int .i64 0, .bool false, .slice none 0 0, .int .i64 0, .int .i64 0, .int .i64 0, .int .i64 0, .int .i64 0] 33)).heap.size W4.heap.size (.slice A1 x.l.length c1) x.l) := ho3.cys
        have hz3 : (W1.alloc (.cells #[.int .u8 0, .int .i64 0, .int .i64 0, .int .i64 0, .int .i64 0, .int .i64 0, .bool false, .slice none 0 0, .int .i64 0, .int .i64 0, .int .i64 0, .int .i64 0, .int .i64 0] 33)).heap.size ≤ W4.heap.size := hb3.size
        have HZ : Hid (W4.heap[W1.heap.size]? = some (.cells #[.int .u8 0, .int .i64 0, .int .i64 0, .int .i64 0, .int .i64 0, .int .i64 0, .bool false, .slice none 0 0, .int .i64 0, .int .i64 0, .int .i64 0, .int .i64 0, .int .i64 0] 33 (0, 0))) := (hb3.block _ (by omega)).trans hZ2
        have hzz : W1.heap.size < W4.heap.size := by omega
        clear hb3 ho3 HS2 HW2 hZ2
        refine hK _ _ HS4.out (fun _ => ?_)
        clear hK K
        (refine lane_take (v := ?_) rfl (by kernel_rfl) (by kernel_rfl) (by rfl) ?_ (by exact HS3.out) ?_; rotate_left; (focus (intro W hSw; go_simp; try (with_reducible rfl))); simp only [Act.put, List.setIfInBounds_toArray, List.set_cons_zero, List.set_cons_succ])
        (refine lane_take (v := ?_) rfl (by kernel_rfl) (by kernel_rfl) (by rfl) ?_ (by exact HS3.out) ?_; rotate_left; (focus (intro W hSw; go_simp; try (with_reducible rfl))); simp only [Act.put, List.setIfInBounds_toArray, List.set_cons_zero, List.set_cons_succ])
        (refine lane_take (v := ?_) rfl (by kernel_rfl) (by kernel_rfl) (by rfl) ?_ (by exact HS3.out) ?_; rotate_left; (focus (intro W hSw; go_simp; try (with_reducible rfl))); simp only [Act.put, List.setIfInBounds_toArray, List.set_cons_zero, List.set_cons_succ])
        refine lane_alone rfl (by kernel_rfl) (by rfl) (fun K hK => ?_)
        refine wp_store_row _ _ _ rfl W1.heap.size _ rfl rfl _ _ HZ.out (by exact info13) rfl (Av.arr_one rfl) ?_
        rw [row_boxed HZ.out]
        refine hK _ _ (HS4.out.boxed (by omega)) (fun _ => ?_)
        clear hK K
        have hS5 : (BegS w.heap.size ps wd) (boxed W4 W1.heap.size (x.arr (.slice A1 x.l.length c1)) 33) := HS4.out.boxed (by omega)
        have hZ5 : (boxed W4 W1.heap.size (x.arr (.slice A1 x.l.length c1)) 33).heap[W1.heap.size]? = some (.cells (x.arr (.slice A1 x.l.length c1)) 33 (0, 0)) := boxed_at hzz
        have hW5 : Below w.heap.size w (boxed W4 W1.heap.size (x.arr (.slice A1 x.l.length c1)) 33) := boxed_below HW4.out (by omega)
        have hC5 : Cys (boxed W4 W1.heap.size (x.arr (.slice A1 x.l.length c1)) 33) (w.heap.size + 1 + 1 + 1) (boxed W4 W1.heap.size (x.arr (.slice A1 x.l.length c1)) 33).heap.size (.slice A1 x.l.length c1) x.l := (HC4.out.boxed (.inl (by omega))).more (by omega) (by simp only [boxed_size]; omega)
        have hzz5 : W1.heap.size < (boxed W4 W1.heap.size (x.arr (.slice A1 x.l.length c1)) 33).heap.size := by simp only [boxed_size]; exact hzz
        have hZT : w.heap.size + 1 + 1 < W1.heap.size := by omega
        obtain ⟨W5, hW5e⟩ : ∃ W5, boxed W4 W1.heap.size (x.arr (.slice A1 x.l.length c1)) 33 = W5 := ⟨_, rfl⟩
        rw [hW5e] at hS5 hZ5 hW5 hC5 hzz5 ⊢
        obtain ⟨Z, hZe⟩ : ∃ Z, W1.heap.size = Z := ⟨_, rfl⟩
        rw [hZe] at hZ5 hzz5 hZT ⊢
        have HS5 := Lib.hid hS5
        have HZ5 := Lib.hid hZ5
        have HW5 := Lib.hid hW5
        have HC5 := Lib.hid hC5
        clear hW5e hZe hS5 hZ5 hW5 hC5 HZ HS4 HW4 HC4 hzz
        refine lane_alone rfl (by kernel_rfl) (by rfl) (fun K hK => ?_)
        go_simp
        refine hK _ _ HS5.out (fun _ => ?_)
        clear hK K
        refine lane_end (by kernel_rfl) ?_
        exact ⟨rfl, _, _, _, rfl, HW5, HS5, HZ5, HC5, hZT, hzz5⟩
    · go_simp
      have hZ0 : (W0.alloc (.cells #[.int .u8 0, .int .i64 0, .int .i64 0, .int .i64 0, .int .i64 0, .int .i64 0, .bool false, .slice none 0 0, .int .i64 0, .int .i64 0, .int .i64 0, .int .i64 0, .int .i64 0] 33)).heap[W0.heap.size]? = some (.cells #[.int .u8 0, .int .i64 0, .int .i64 0, .int .i64 0, .int .i64 0, .int .i64 0, .bool false, .slice none 0 0, .int .i64 0, .int .i64 0, .int .i64 0, .int .i64 0, .int .i64 0] 33 (0, 0)) := alloc_at rfl
      have hZ1 : ((W0.alloc (.cells #[.int .u8 0, .int .i64 0, .int .i64 0, .int .i64 0, .int .i64 0, .int .i64 0, .bool false, .slice none 0 0, .int .i64 0, .int .i64 0, .int .i64 0, .int .i64 0, .int .i64 0] 33)).drew).heap[W0.heap.size]? = some (.cells #[.int .u8 0, .int .i64 0, .int .i64 0, .int .i64 0, .int .i64 0, .int .i64 0, .bool false, .slice none 0 0, .int .i64 0, .int .i64 0, .int .i64 0, .int .i64 0, .int .i64 0] 33 (0, 0)) := hZ0
      have HS1 : Hid ((BegS w.heap.size ps wd) ((W0.alloc (.cells #[.int .u8 0, .int .i64 0, .int .i64 0, .int .i64 0, .int .i64 0, .int .i64 0, .bool false, .slice none 0 0, .int .i64 0, .int .i64 0, .int .i64 0, .int .i64 0, .int .i64 0] 33)).drew)) := HT.out.alloc.drew
      have HW1 : Hid (Below w.heap.size w ((W0.alloc (.cells #[.int .u8 0, .int .i64 0, .int .i64 0, .int .i64 0, .int .i64 0, .int .i64 0, .bool false, .slice none 0 0, .int .i64 0, .int .i64 0, .int .i64 0, .int .i64 0, .int .i64 0] 33)).drew)) := (HW0.out.alloc HW0.out.size _).drew
      have hz1 : ((W0.alloc (.cells #[.int .u8 0, .int .i64 0, .int .i64 0, .int .i64 0, .int .i64 0, .int .i64 0, .bool false, .slice none 0 0, .int .i64 0, .int .i64 0, .int .i64 0, .int .i64 0, .int .i64 0] 33)).drew).heap.size = W0.heap.size + 1 := by show (W0.alloc _).heap.size = _; rw [World.size_alloc]
      clear hZ0
      refine hK _ _ HS1.out (fun _ => ?_)
      clear hK K
      refine lane_alone rfl (by kernel_rfl) (by rfl) (fun K hK => ?_)
      go_simp
      refine (open_any (p := ps 0) 0 td (by omega)).mono ?_
      rintro e W2 ⟨rfl, hb⟩
      have hZ2 : W2.heap[W0.heap.size]? = some (.cells #[.int .u8 0, .int .i64 0, .int .i64 0, .int .i64 0, .int .i64 0, .int .i64 0, .bool false, .slice none 0 0, .int .i64 0, .int .i64 0, .int .i64 0, .int .i64 0, .int .i64 0] 33 (0, 0)) := (hb.block _ (by omega)).trans hZ1
      have HS2 : Hid ((BegS w.heap.size ps wd) W2) := HS1.out.below hb
      have HW2 : Hid (Below w.heap.size w W2) := HW1.out.trans (hb.mono HW1.out.size)
      have hz2 : W0.heap.size + 1 ≤ W2.heap.size := by have := hb.size; omega
      clear hb hZ1 HS1 HW1
      refine hK _ _ HS2.out (fun _ => ?_)
      clear hK K
      refine lane_alone rfl (by kernel_rfl) (by rfl) (fun K hK => ?_)
      go_simp
      refine (HDAY.out _).mono ?_
      rintro e W4 ⟨v1, rfl, ho3, hb3⟩
      obtain ⟨A1, c1, rfl, _, _⟩ := ho3.form
      have HS4 : Hid ((BegS w.heap.size ps wd) W4) := HS2.out.below hb3
      have HS3 := HS4
      have HW4 : Hid (Below w.heap.size w W4) := HW2.out.trans (hb3.mono HW2.out.size)
      have HC4 : Hid (Cys W4 W2.heap.size W4.heap.size (.slice A1 x.l.length c1) x.l) := ho3.cys
      have hz3 : W2.heap.size ≤ W4.heap.size := hb3.size
      have HZ : Hid (W4.heap[W0.heap.size]? = some (.cells #[.int .u8 0, .int .i64 0, .int .i64 0, .int .i64 0, .int .i64 0, .int .i64 0, .bool false, .slice none 0 0, .int .i64 0, .int .i64 0, .int .i64 0, .int .i64 0, .int .i64 0] 33 (0, 0))) := (hb3.block _ (by omega)).trans hZ2
      have hzz : W0.heap.size < W4.heap.size := by omega
      clear hb3 ho3 HS2 HW2 hZ2
      refine hK _ _ HS4.out (fun _ => ?_)
      clear hK K
      (refine lane_take (v := ?_) rfl (by kernel_rfl) (by kernel_rfl) (by rfl) ?_ (by exact HS3.out) ?_; rotate_left; (focus (intro W hSw; go_simp; try (with_reducible rfl))); simp only [Act.put, List.setIfInBounds_toArray, List.set_cons_zero, List.set_cons_succ])
      (refine lane_take (v := ?_) rfl (by kernel_rfl) (by kernel_rfl) (by rfl) ?_ (by exact HS3.out) ?_; rotate_left; (focus (intro W hSw; go_simp; try (with_reducible rfl))); simp only [Act.put, List.setIfInBounds_toArray, List.set_cons_zero, List.set_cons_succ])
      (refine lane_take (v := ?_) rfl (by kernel_rfl) (by kernel_rfl) (by rfl) ?_ (by exact HS3.out) ?_; rotate_left; (focus (intro W hSw; go_simp; try (with_reducible rfl))); simp only [Act.put, List.setIfInBounds_toArray, List.set_cons_zero, List.set_cons_succ])
      refine lane_alone rfl (by kernel_rfl) (by rfl) (fun K hK => ?_)
      refine wp_store_row _ _ _ rfl W0.heap.size _ rfl rfl _ _ HZ.out (by exact info13) rfl (Av.arr_one rfl) ?_
      rw [row_boxed HZ.out]
      refine hK _ _ (HS4.out.boxed (by omega)) (fun _ => ?_)
      clear hK K
      have hS5 : (BegS w.heap.size ps wd) (boxed W4 W0.heap.size (x.arr (.slice A1 x.l.length c1)) 33) := HS4.out.boxed (by omega)
      have hZ5 : (boxed W4 W0.heap.size (x.arr (.slice A1 x.l.length c1)) 33).heap[W0.heap.size]? = some (.cells (x.arr (.slice A1 x.l.length c1)) 33 (0, 0)) := boxed_at hzz
      have hW5 : Below w.heap.size w (boxed W4 W0.heap.size (x.arr (.slice A1 x.l.length c1)) 33) := boxed_below HW4.out (by omega)
      have hC5 : Cys (boxed W4 W0.heap.size (x.arr (.slice A1 x.l.length c1)) 33) (w.heap.size + 1 + 1 + 1) (boxed W4 W0.heap.size (x.arr (.slice A1 x.l.length c1)) 33).heap.size (.slice A1 x.l.length c1) x.l := (HC4.out.boxed (.inl (by omega))).more (by omega) (by simp only [boxed_size]; omega)
      have hzz5 : W0.heap.size < (boxed W4 W0.heap.size (x.arr (.slice A1 x.l.length c1)) 33).heap.size := by simp only [boxed_size]; exact hzz
      have hZT : w.heap.size + 1 + 1 < W0.heap.size := by omega
      obtain ⟨W5, hW5e⟩ : ∃ W5, boxed W4 W0.heap.size (x.arr (.slice A1 x.l.length c1)) 33 = W5 := ⟨_, rfl⟩
      rw [hW5e] at hS5 hZ5 hW5 hC5 hzz5 ⊢
      obtain ⟨Z, hZe⟩ : ∃ Z, W0.heap.size = Z := ⟨_, rfl⟩
      rw [hZe] at hZ5 hzz5 hZT ⊢
      have HS5 := Lib.hid hS5
      have HZ5 := Lib.hid hZ5
      have HW5 := Lib.hid hW5
      have HC5 := Lib.hid hC5
      clear hW5e hZe hS5 hZ5 hW5 hC5 HZ HS4 HW4 HC4 hzz
      refine lane_alone rfl (by kernel_rfl) (by rfl) (fun K hK => ?_)
      go_simp
      refine hK _ _ HS5.out (fun _ => ?_)
      clear hK K
      refine lane_end (by kernel_rfl) ?_
      exact ⟨rfl, _, _, _, rfl, HW5, HS5, HZ5, HC5, hZT, hzz5⟩
  · intro Z A1 c1 W5 ⟨HW5, HS5, HZ5, HC5, hZT, hzz5⟩
    have hst := HS5.out
    have hd5 := hst.d
    have eb := boxed_self hd5
    rw [eb]
    clear eb hd5 hst
    have hlt5 := HS5.out.lt
    go_wp2_with (((with_reducible_and_instances (show wpList _ _ _ (Oper.mk _ (Op.load 33 _) _ _ _ _ :: _) _ _)); refine stop_here ?_))
    refine ⟨?_⟩
    refine wl_load (cs := x.arr (.slice A1 x.l.length c1)) (fr := (0, 0)) (g := Z) Try.underlying33 rfl info13 rfl rfl rfl (boxed_old (by omega) HZ5.out) rfl ?_
    go_wp2_with (((with_reducible_and_instances (show wpList _ _ _ (Oper.mk _ (Op.store 33 _ _) _ _ _ _ :: _) _ _)); refine stop_here ?_))
    refine ⟨?_⟩
    refine wpList_store_mid rfl _ _ _ rfl (w.heap.size + 1 + 1) 0 (x.arr (.slice A1 x.l.length c1)) rfl rfl (Wd.there (by omega) (by rw [Av.arr_size]; omega)) info13 (Av.arr_one rfl) ?_
    rw [Wd.store_a]
    obtain ⟨W6, hW6⟩ : ∃ W6, boxed W5 (w.heap.size + 1 + 1) ({ wd with a := x, va := .slice A1 x.l.length c1 } : Wd).arr 38 = W6 := ⟨_, rfl⟩
    have p6 : W6.heap[w.heap.size]? = some (.cells (Tw.arr ps) 27 (0, 0)) := by rw [← hW6]; exact boxed_old (by omega) HS5.out.p
    have z6 : W6.heap[w.heap.size + 1]? = some (.cells #[.int .u8 0, .int .i64 0, .int .i64 0, .int .i64 0, .int .i64 0, .int .i64 0, .bool false, .slice none 0 0, .int .i64 0, .int .i64 0, .int .i64 0, .int .i64 0, .int .i64 0, .int .u8 0, .int .i64 0, .int .i64 0, .int .i64 0, .int .i64 0, .bool false, .slice none 0 0, .int .i64 0, .int .i64 0] 38 (0, 0)) := by rw [← hW6]; exact boxed_old (by omega) HS5.out.z
    have d6 : W6.heap[w.heap.size + 1 + 1]? = some (.cells ({ wd with a := x, va := .slice A1 x.l.length c1 } : Wd).arr 38 (0, 0)) := by rw [← hW6]; exact boxed_at hlt5
    have hV6 : Below w.heap.size w W6 := by rw [← hW6]; exact boxed_below HW5.out (by omega)
    have c6 : Cys W6 (w.heap.size + 1 + 1 + 1) W6.heap.size (.slice A1 x.l.length c1) x.l := by rw [← hW6]; exact (HC5.out.boxed (.inl (by omega))).more (Nat.le_refl _) (by simp)
    rw [hW6]
    clear hW6 HZ5 HS5 HW5 HC5 hZT hzz5
    have t6 : W6.cell? ⟨w.heap.size, 3, none⟩ = some (.int .i64 (ps 0).t) := by have := Tw.range p6 (k := 0) (by omega) 3 _ rfl; simpa using this
    have WA : Hid (IntKind.i64.wrap (td + (ps 0).t) = td + (ps 0).t) := by show _ = _; rw [IntKind.wrap_i64]; omega
    go_wp2_with (((with_reducible_and_instances (show wpList _ _ _ (Oper.mk _ (Op.load 26 _) _ _ _ _ :: _) _ _)); refine stop_here ?_))
    refine ⟨?_⟩
    refine wpList_load_mid rfl _ _ rfl (w.heap.size) (0 * 6) rfl (ps 0).arr.toList _ (Tw.range p6 (k := 0) (by omega)) Try.underlying26 rfl info6p ?_
    rw [Array.toArray_toList]
    go_wp2_with fail
    refine (D.refd W6 (.slice none 0 0) 0 w.heap.size Cys.nil hV6.size).mono ?_
    rintro e W7 ⟨v', rfl, hcs, hb⟩
    have p7 : W7.heap[w.heap.size]? = some (.cells (Tw.arr ps) 27 (0, 0)) := below_block hb p6
    have z7 : W7.heap[w.heap.size + 1]? = some (.cells #[.int .u8 0, .int .i64 0, .int .i64 0, .int .i64 0, .int .i64 0, .int .i64 0, .bool false, .slice none 0 0, .int .i64 0, .int .i64 0, .int .i64 0, .int .i64 0, .int .i64 0, .int .u8 0, .int .i64 0, .int .i64 0, .int .i64 0, .int .i64 0, .bool false, .slice none 0 0, .int .i64 0, .int .i64 0] 38 (0, 0)) := below_block hb z6
    have d7 : W7.heap[w.heap.size + 1 + 1]? = some (.cells ({ wd with a := x, va := .slice A1 x.l.length c1 } : Wd).arr 38 (0, 0)) := below_block hb d6
    have hV7 : Below w.heap.size w W7 := hV6.trans (hb.mono hV6.size)
    have c7 : Cys W7 (w.heap.size + 1 + 1 + 1) W7.heap.size (.slice A1 x.l.length c1) x.l := (c6.below hb).more (Nat.le_refl _) hb.size
    have hlt7 : w.heap.size + 1 + 1 < W7.heap.size := (Array.getElem?_eq_some_iff.1 d7).1
    have s7 : Cys W7 0 w.heap.size v' s'.l ∨ Cys W7 (w.heap.size + 1 + 1 + 1) W7.heap.size v' s'.l := hcs.imp (fun h => h) (fun h => h.more (by have := (Array.getElem?_eq_some_iff.1 d6).1; omega) (Nat.le_refl _))
    have hv1 : v'.oneCell' = true := hcs.elim Cys.one Cys.one
    clear hb hcs p6 z6 d6 hV6 c6 t6 W6
    have eb := boxed_self d7
    rw [eb]
    clear eb
    go_wp2_with (((with_reducible_and_instances (show wpList _ _ _ (Oper.mk _ (Op.store 36 _ _) _ _ _ _ :: _) _ _)); refine stop_here ?_))
    refine ⟨?_⟩
    refine wpList_store_mid rfl _ _ _ rfl (w.heap.size + 1 + 1) 13 (s'.arr v') rfl rfl (Wd.there (by omega) (by rw [Sv.arr_size]; omega)) info7s (Sv.arr_one hv1) ?_
    rw [Wd.store_s]
    obtain ⟨W9, hW9⟩ : ∃ W9, boxed W7 (w.heap.size + 1 + 1) ({ wd with a := x, va := .slice A1 x.l.length c1, s := s', vs := v' } : Wd).arr 38 = W9 := ⟨_, rfl⟩
    have z9 : W9.heap[w.heap.size + 1]? = some (.cells #[.int .u8 0, .int .i64 0, .int .i64 0, .int .i64 0, .int .i64 0, .int .i64 0, .bool false, .slice none 0 0, .int .i64 0, .int .i64 0, .int .i64 0, .int .i64 0, .int .i64 0, .int .u8 0, .int .i64 0, .int .i64 0, .int .i64 0, .int .i64 0, .bool false, .slice none 0 0, .int .i64 0, .int .i64 0] 38 (0, 0)) := by rw [← hW9]; exact boxed_old (by omega) z7
    have y0 : W9.heap[w.heap.size + 1 + 1]? = some (.cells ({ wd with a := x, va := .slice A1 x.l.length c1, s := s', vs := v' } : Wd).arr 38 (0, 0)) := by rw [← hW9]; exact boxed_at hlt7
    have hV9 : Below w.heap.size w W9 := by rw [← hW9]; exact boxed_below hV7 (by omega)
    have c9 : Parted 0 w.heap.size (w.heap.size + 1 + 1 + 1) W9 (.slice A1 x.l.length c1) x.l := by rw [← hW9]; exact Parted.boxed (.inr c7) (by omega) (by omega)
    have s9 : Parted 0 w.heap.size (w.heap.size + 1 + 1 + 1) W9 v' s'.l := by rw [← hW9]; exact Parted.boxed s7 (by omega) (by omega)
    have hB9 : w.heap.size ≤ W9.heap.size := hV9.size
    rw [hW9]
    clear hW9 p7 z7 d7 hV7 c7 s7 hlt7 W7
    go_upto_region 5 with fail
    have HY := Lib.hid y0
    have HL9 := Lib.hid c9
    have HM9 := Lib.hid s9
    clear c9 s9
    have HTOLD : Hid (∀ (W : World) (va vs : Value), Cys W 0 W.heap.size va x.l → Cys W 0 W.heap.size vs s'.l → Calls Try.prog 23 #[.agg (x.arr va), .agg (s'.arr vs)] W fun e w' => e = .returned (.bool true) ∧ Below W.heap.size W w') := by rw [← HX.out]; exact D.sta.told (by omega) (by omega)
    refine laneT_start (ord := [0, 1, 2, 3, 4, 5, 6, 7, 8, 9, 10, 11]) (t := 11) (S := (fun w' : World => w'.heap[w.heap.size + 1 + 1]? = some (.cells ({ wd with a := x, va := .slice A1 x.l.length c1, s := s', vs := v' } : Wd).arr 38 (0, 0)))) rfl (by kernel_rfl) ?_
    refine laneT_take1 (v := .agg ({ wd with a := x, va := .slice A1 x.l.length c1, s := s', vs := v' } : Wd).arr) rfl (by kernel_rfl) (by kernel_rfl) (by rfl) (fun W hSw => exec_load rfl rfl (by
      have h9 := run_loadAt_mid (P := Try.prog) W (w.heap.size + 1 + 1) 0 38 _ _ (Wd.range_all hSw) Try.underlying38 rfl (Wd.info_all (b := ({ wd with a := x, va := .slice A1 x.l.length c1, s := s', vs := v' } : Wd)))
      rw [Array.toArray_toList] at h9
      exact h9)) (by exact HY.out) ?_
    simp only [Act.put, List.setIfInBounds_toArray, List.set_cons_zero, List.set_cons_succ]
    iterate 4 (refine laneT_take1 (v := ?_) rfl (by kernel_rfl) (by kernel_rfl) (by rfl) ?_ (by exact HY.out) ?_; rotate_left; (focus (intro W hSw; go_simp; try (with_reducible rfl))); simp only [Act.put, List.setIfInBounds_toArray, List.set_cons_zero, List.set_cons_succ])
    refine laneT_take1 (v := .agg (x.arr (.slice A1 x.l.length c1))) rfl (by kernel_rfl) (by kernel_rfl) (by rfl) (fun W hSw => exec_load rfl rfl (by
      have h9 := run_loadAt_mid (P := Try.prog) W (w.heap.size + 1 + 1) 0 33 _ _ (Wd.range_a hSw) Try.underlying33 rfl info13
      rw [Array.toArray_toList] at h9
      exact h9)) (by exact HY.out) ?_
    simp only [Act.put, List.setIfInBounds_toArray, List.set_cons_zero, List.set_cons_succ]
    iterate 1 (refine laneT_take1 (v := ?_) rfl (by kernel_rfl) (by kernel_rfl) (by rfl) ?_ (by exact HY.out) ?_; rotate_left; (focus (intro W hSw; go_simp; try (with_reducible rfl))); simp only [Act.put, List.setIfInBounds_toArray, List.set_cons_zero, List.set_cons_succ])
    refine laneT_take1 (v := .agg (s'.arr v')) rfl (by kernel_rfl) (by kernel_rfl) (by rfl) (fun W hSw => exec_load rfl rfl (by
      have h9 := run_loadAt_mid (P := Try.prog) W (w.heap.size + 1 + 1) 13 36 _ _ (Wd.range_s hSw) Try.underlying36 rfl info7s
      rw [Array.toArray_toList] at h9
      exact h9)) (by exact HY.out) ?_
    simp only [Act.put, List.setIfInBounds_toArray, List.set_cons_zero, List.set_cons_succ]
    refine laneT_alone rfl (by kernel_rfl) (by rfl) (fun KK hK => ?_)
    go_simp
    refine (HTOLD.out W9.drew _ _ ((HL9.out.whole hB9).kept fun _ _ _ => rfl) ((HM9.out.whole hB9).kept fun _ _ _ => rfl)).mono ?_
    rintro e wA ⟨rfl, hbA⟩
    have hbA : Below W9.heap.size W9 wA := (Below.refl _ W9).drew.trans hbA
    have yA : wA.heap[w.heap.size + 1 + 1]? = some (.cells ({ wd with a := x, va := .slice A1 x.l.length c1, s := s', vs := v' } : Wd).arr 38 (0, 0)) := below_block hbA y0
    have yA3 : wA.heap[w.heap.size + 1]? = some (.cells #[.int .u8 0, .int .i64 0, .int .i64 0, .int .i64 0, .int .i64 0, .int .i64 0, .bool false, .slice none 0 0, .int .i64 0, .int .i64 0, .int .i64 0, .int .i64 0, .int .i64 0, .int .u8 0, .int .i64 0, .int .i64 0, .int .i64 0, .int .i64 0, .bool false, .slice none 0 0, .int .i64 0, .int .i64 0] 38 (0, 0)) := below_block hbA z9
    have HYA := Lib.hid yA
    refine hK _ _ (fun _ => yA) ?_
    clear hK KK HY
    iterate 1 (refine laneT_take1 (v := ?_) rfl (by kernel_rfl) (by kernel_rfl) (by rfl) ?_ (by exact HYA.out) ?_; rotate_left; (focus (intro W hSw; go_simp; try (with_reducible rfl))); simp only [Act.put, List.setIfInBounds_toArray, List.set_cons_zero, List.set_cons_succ])
    refine laneT_alone rfl (by kernel_rfl) (by rfl) (fun KK hK => ?_)
    refine wp_store_row 38 _ _ rfl (w.heap.size + 1) ({ wd with a := x, va := .slice A1 x.l.length c1, s := s', vs := v' } : Wd).arr rfl rfl 38 _ yA3 (by rw [Wd.arr_size]; exact Wd.info) (by rw [Wd.arr_size]; rfl) (Wd.arr_one rfl hv1) ?_
    rw [row_boxed yA3]
    refine hK _ _ (fun _ => boxed_old (by omega) yA) ?_
    clear hK KK
    refine laneT_alone rfl (by kernel_rfl) (by rfl) (fun KK hK => ?_)
    go_simp
    refine hK _ _ (fun h => absurd rfl h) ?_
    clear hK KK
    refine laneT_end (by kernel_rfl) ?_
    have hz3 : w.heap.size + 1 < wA.heap.size := (Array.getElem?_eq_some_iff.1 yA3).1
    go_wp2_with fail
    refine bodyPost_ret (results_row_tmp rfl _ _ (w.heap.size + 1) 38 _ (0, 0) _ rfl (boxed_at hz3) Try.underlying38 rfl (by rw [Wd.arr_size]; exact Wd.info)) rfl ?_
    have hwe := HWD.out
    refine ⟨({ wd with a := x, va := .slice A1 x.l.length c1, s := s', vs := v' } : Wd), rfl, fun W9' lo hi hbW hlo hhi => ⟨⟨0, by omega, by rw [hwe]; rfl, by rw [D.pl]; rfl, ?_⟩, HX.out.symm, by rw [hwe]; show 700000 ≤ td ∧ td ≤ 765535 + 40 * ((0 : Nat) : Int); omega, rfl, hv1, ?_, ?_, by have := hbW.size; omega, hhi⟩, boxed_below (hV9.trans (hbA.mono hV9.size)) (by omega)⟩
    · rw [hwe]; exact D.sta.more (by omega) (by omega)
    · rw [hlo]; exact .inl ((((HL9.out.below hbA hB9).boxed (by omega) (by omega)).whole (by simp; omega)).below hbW)
    · rw [hlo]; exact .inl ((((HM9.out.below hbA hB9).boxed (by omega) (by omega)).whole (by simp; omega)).below hbW)
end Go.Proofs.Ytnbfkdcpghkglaa
/-
  The last step of a law's row: where the call returned true and made new blocks alone, the row's post holds. No conditions.
-/
namespace Go.Proofs.Ytnbfkdcpghkglaa
open Go.ChangeShapes Go.WideShapes Go.RowKit

theorem post_law {H : Type} {enc : TypeId × Value → H} {P : Program} {f : Func} {s : ChangeSpec} {W W' : World} {args : Array Value} {v : Value} {ds gs : List (DataW H)} {before pa : List MemPlace}
    (hW : DataW.Whole enc P f.params.toList s.vars false W args.toList ds gs before)
    (hres : ∀ (b : Nat) (sp : Nat → Bool) (hd : Bool), DataW.TrodAll enc P W' b sp hd f.resultTypes.toList (v.resultList f.resultTypes.size) (s.fn H (ds ++ gs)).results [])
    (hargs : ∀ sp : Nat → Bool, (∀ p ∈ before, sp p.block = true) → DataW.TrodAll enc P W' 0 sp true f.params.toList args.toList (s.fn H (ds ++ gs)).args pa)
    (hv : ∀ sp : Nat → Bool, DataW.TrodVars enc P W' sp s.vars (s.fn H (ds ++ gs)).vars []) (hps : before = pa) (hb : Below W.heap.size W W') :
    s.post enc P f false true false false W args v W' := by
  have hold : ∀ p ∈ before, (fun b => decide (b < W.heap.size)) p.block = true := fun p hp => by simpa using hW.lt p hp
  refine ⟨ds, gs, before, [], pa, [], hW, hres _ _ _, hargs _ hold, hv _, World.keptBut_mono (fun p hp => ⟨hp, Or.inr (Or.inl (hps ▸ hp))⟩) (hb.frame (· ∈ before)), fun h => by cases h⟩
end Go.Proofs.Ytnbfkdcpghkglaa
/-
  A slice of numbers that comes in, opened: what it reads as. And the last step of a law's row where arguments lie in memory: below the heap's old size nothing has turned. No conditions.
-/
namespace Go.Proofs.Ytnbfkdcpghkglaa
open Go.ChangeShapes Go.WideShapes Go.RowKit

theorem open_nums {H : Type} {enc : TypeId × Value → H} {P : Program} {W : World} {base : Nat} {t e : TypeId} {k : IntKind} {v : Value} {d : DataW H} {ps : List MemPlace} (ht : P.underlying t = some (.slice e)) (he : P.underlying e = some (.int k)) (hc : P.cellsOf e = 1)
    (hval : Value.okWide P W .any base t v) (hd : DataW.Trod enc P W 0 (fun _ => true) true t v d ps) :
    ∃ A c l, v = .slice A l.length c ∧ l.length ≤ c ∧ c ≤ maxLen ∧ Rd W k W.heap.size A l ∧ ∀ x ∈ l, (Lit.int k x).wf = true := by
  obtain ⟨a0, n0, c0, rfl⟩ := okWide_slice ht hval
  obtain ⟨fuel, hf⟩ := hd
  rcases open_ints ht he hc hf with ⟨hcs, _⟩ | ⟨a, len, cap, zs, hcs, _, hl, hm, hz, _, hcell, hw⟩
  · simp [Value.cells] at hcs
    obtain ⟨rfl, rfl, rfl⟩ := hcs
    exact ⟨none, 0, [], rfl, by simp, by simp, Rd.none, by simp⟩
  · simp [Value.cells] at hcs
    obtain ⟨rfl, rfl, rfl⟩ := hcs
    simp only [if_true] at hz
    have hlen : (zs.take n0).length = n0 := by simp; omega
    refine ⟨some a, c0, zs.take n0, by rw [hlen], by omega, hm, fun hne => ⟨a, rfl, ?_, fun j u hu => ?_⟩, fun x hx => hw x (List.mem_of_mem_take hx)⟩
    · have h0 : 0 < zs.length := by
        rcases zs with _ | ⟨x, r⟩
        · simp at hne
        · simp
      have := World.block_lt_of_cell? W _ (hcell 0 h0)
      rwa [ad_block] at this
    · rw [List.getElem?_take] at hu
      split at hu
      · obtain ⟨hj, hju⟩ := List.getElem?_eq_some_iff.1 hu
        rw [hcell j hj]
        simp [List.getD, hu]
      · cases hu

theorem post_law2 {H : Type} {enc : TypeId × Value → H} {P : Program} {f : Func} {s : ChangeSpec} {W W' : World} {args : Array Value} {v : Value} {ds gs : List (DataW H)} {before pa : List MemPlace}
    (hW : DataW.Whole enc P f.params.toList s.vars false W args.toList ds gs before)
    (hres : ∀ (b : Nat) (sp : Nat → Bool) (hd : Bool), DataW.TrodAll enc P W' b sp hd f.resultTypes.toList (v.resultList f.resultTypes.size) (s.fn H (ds ++ gs)).results [])
    (hargs : DataW.TrodAll enc P W' 0 (fun b => decide (b < W.heap.size)) true f.params.toList args.toList (s.fn H (ds ++ gs)).args pa)
    (hv : ∀ sp : Nat → Bool, DataW.TrodVars enc P W' sp s.vars (s.fn H (ds ++ gs)).vars []) (hps : before = pa) (hb : Below W.heap.size W W') :
    s.post enc P f false true false false W args v W' :=
  ⟨ds, gs, before, [], pa, [], hW, hres _ _ _, hargs, hv _, World.keptBut_mono (fun _ hp => ⟨hp, Or.inr (Or.inl (hps ▸ hp))⟩) (hb.frame (· ∈ before)), fun h => by cases h⟩

theorem wf_i64 {x : Int} (h : (Lit.int .i64 x).wf = true) : -9223372036854775808 ≤ x ∧ x ≤ 9223372036854775807 := by
  have h1 : IntKind.i64.min = -9223372036854775808 := rfl
  have h2 : IntKind.i64.max = 9223372036854775807 := rfl
  simp only [Lit.wf, Bool.and_eq_true, decide_eq_true_eq] at h
  omega
theorem wf_u8 {x : Int} (h : (Lit.int .u8 x).wf = true) : 0 ≤ x ∧ x < 256 := by
  have h1 : IntKind.u8.min = 0 := rfl
  have h2 : IntKind.u8.max = 255 := rfl
  simp only [Lit.wf, Bool.and_eq_true, decide_eq_true_eq] at h
  omega
theorem wf_u32 {x : Int} (h : (Lit.int .u32 x).wf = true) : 0 ≤ x ∧ x < 4294967296 := by
  have h1 : IntKind.u32.min = 0 := rfl
  have h2 : IntKind.u32.max = 4294967295 := rfl
  simp only [Lit.wf, Bool.and_eq_true, decide_eq_true_eq] at h
  omega
theorem wf_u16 {x : Int} (h : (Lit.int .u16 x).wf = true) : 0 ≤ x ∧ x < 65536 := by
  have h1 : IntKind.u16.min = 0 := rfl
  have h2 : IntKind.u16.max = 65535 := rfl
  simp only [Lit.wf, Bool.and_eq_true, decide_eq_true_eq] at h
  omega
end Go.Proofs.Ytnbfkdcpghkglaa
