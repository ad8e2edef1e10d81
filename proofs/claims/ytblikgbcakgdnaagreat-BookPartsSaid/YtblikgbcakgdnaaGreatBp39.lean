/-
  Book's example, and any order of the laws': what a step makes of it. No conditions but the sizes.
-/
import Derived.Deep.Slices
import Derived.Deep.MidRow
import Derived.Lib.SmallJoins
import Derived.Test.YtblikgbcakgdnaaGreatRows
import Derived.Laws.BitsAllLaws
import Derived.Laws.ShiftsVarLaws
import Derived.Outline
import Derived.Test.YtblikgbcakgdnaaGreatBp02
import Derived.Test.YtblikgbcakgdnaaGreatBp04
import Derived.Test.YtblikgbcakgdnaaGreatBp05
import Derived.Test.YtblikgbcakgdnaaGreatBp23
import Derived.Test.YtblikgbcakgdnaaGreatBp31
import Derived.Test.YtblikgbcakgdnaaGreatBp37
import Derived.Test.YtblikgbcakgdnaaGreatBp38
set_option linter.unusedSimpArgs false
set_option linter.unusedVariables false
namespace Go.Proofs.YtblikgbcakgdnaaGreat
set_option linter.unusedVariables false
set_option linter.unusedSimpArgs false
set_option maxRecDepth 100000
open Go.ChangeShapes Go.WideShapes Go.ChangeAt Go.RowKit

/-- What a step answers: an error, or a book in new blocks. -/
def Stepd (M L : Int) (W : World) (b : Kb) (o : Ov) (e : Ending) (w' : World) : Prop := ∃ (c : Kb) (x : Int), e = .returned (.tuple #[.agg c.arr, .int .i64 x]) ∧ c.One ∧ (x = 0 → ∃ ps', KbM w' W.heap.size w'.heap.size c ps' ∧ PBok (M + 1100000000) (L + 40) c.td c.a ps' ∧ Apart o b.td b.a c.td c.a) ∧ Below W.heap.size W w'
section
variable {M L : Int} {w : World} {b : Kb} {ps : List Pv} {o : Ov}
theorem PBok.congr {M L td : Int} {a a' : Nat → Av} {ps : List Pv} (h : PBok M L td a ps) (he : ∀ k, k < 32 → a' k = a k) : PBok M L td a' ps := ⟨h.day, h.len, h.pok, fun k hk => by rw [he k hk]; exact h.sub k hk, fun k h3 hk => by rw [he k hk]; exact h.low k h3 hk⟩
theorem new_km (td : Int) (w : World) (b0 c0 : Nat) : KbM w b0 c0 (Kb.new td) [] := ⟨Kb.new_one td, Pys.nil, fun _ _ => Cys.nil⟩
theorem asksK_first {a : Nat → Av} : ∀ n, (∀ k, 0 < k → k < n + 1 → (a k).l = []) → asksK a (n + 1) = asksOf 0 (a 0).l
  | 0, _ => by show [] ++ _ = _; rfl
  | n + 1, h => by
    show asksK a (n + 1) ++ asksOf _ (a (n + 1)).l = _
    rw [asksK_first n (fun k h0 hk => h k h0 (by omega)), h (n + 1) (by omega) (by omega)]
    exact List.append_nil _
end
/-- The example's plan, and its subscription. -/
def Pex : Pv := ⟨100, 0, 30, 0, false, false⟩
def Aex : Av := ⟨1, 0, 0, 1, 1, 0, false, [⟨0, 0, 1, 100, 0, 1, 0, false⟩], 0, 0, 0, 0, 0⟩
set_option maxHeartbeats 4000000 in
theorem dayex_any (W : World) : Calls Tryz.prog 58 #[.agg ((Av.opened 0 0).arr (.slice none 0 0)), .agg Pex.arr, .int .i64 0] W (News W Aex) := by
  obtain ⟨k, d, hAt⟩ := Cal.at_of 0 (by omega) (by omega)
  have hN : Cal.vN 0 0 k d 30 0 = 0 := Cal.vN_zero hAt
  have hC : Cal.Cnt 0 0 k d 30 0 1 := Cal.Cnt.days (u := 0) (by omega) (by omega) (by omega) (by omega)
  have hx : Av.runs (Cal.vN 0 0 k d 30) Pex 1 1 (Av.opened 0 0) = Aex := by
    rw [Av.runs_next]
    show Av.runs _ _ _ 0 (Av.born _ _ _ false) = _
    rw [Av.born_pay (by decide) rfl (by decide)]
    show Av.with_ _ (Cy.begin_ 0 (Cal.vN 0 0 k d 30 0) 100 0 false) = _
    rw [hN]; rfl
  have h := daycalm_any (w := W) (a := Av.opened 0 0) (p := Pex) (m := 0) (y := 0) (c := 1) (k := k) (d := d) Cys.nil (Av.opened_fine _ _) (by omega) (by decide) hAt ⟨by decide, by decide⟩ ⟨by decide, by decide⟩ ⟨by decide, by decide⟩ (by decide) hC ⟨by decide, by decide⟩
  rw [show Av.runs (Cal.vN Pex.u (Av.opened 0 0).an k d Pex.e) Pex 1 (1 - (Av.opened 0 0).ix).toNat (Av.opened 0 0) = Aex from hx] at h
  exact h
set_option maxHeartbeats 8000000 in
theorem bkawake_any (w : World) : Calls Tryz.prog 9 #[] w fun e w' => e = .returned (.bool true) ∧ Below w.heap.size w w' := by
  go_enter Tryz.func9, Tryz.ntmps9
  go_wp2_with fail
  refine (bknew_any 0 _).mono ?_
  rintro e w1 ⟨rfl, hb1⟩
  have HW1 := Lib.hid hb1
  clear hb1
  go_wp2_with (((with_reducible_and_instances (show wpList _ _ _ (Oper.mk _ (Op.store 35 _ _) _ _ _ _ :: _) _ _)); refine stop_here ?_))
  refine ⟨?_⟩
  refine wl_store (g := w1.heap.size) Kb.info rfl rfl rfl rfl (alloc_at rfl) Kb.zero_size (Kb.arr_size _) (Kb.new_one 0).arr ?_
  obtain ⟨U1, hU1⟩ : ∃ U1, boxed (w1.alloc (.cells Tryz.zeroCells35 35)) w1.heap.size (Kb.new 0).arr 35 = U1 := ⟨_, rfl⟩
  have fU1 : U1.heap[w1.heap.size]? = some (.cells (Kb.new 0).arr 35 (0, 0)) := by rw [← hU1]; exact boxed_at (by simp)
  have HU1 : Hid (Below w.heap.size w U1) := by rw [← hU1]; exact boxed_below (HW1.out.alloc HW1.out.size _) HW1.out.size
  rw [hU1]
  clear hU1
  generalize w1.heap.size = g1 at *
  clear HW1 w1
  go_wp2_with (((with_reducible_and_instances (show wpList _ _ _ (Oper.mk _ (Op.load 35 _) _ _ _ _ :: _) _ _)); refine stop_here ?_))
  refine ⟨?_⟩
  refine wl_load (cs := (Kb.new 0).arr) (fr := (0, 0)) (g := g1) Tryz.underlying35 rfl Kb.info rfl rfl rfl fU1 (Kb.arr_size _) ?_
  go_wp2_with fail
  refine (bkstep_def_yes (b := Kb.new 0) (ps := []) (o := ⟨1, 0, 0, 0, Pex, Nv.zero⟩) (by decide +kernel) rfl (new_km 0 _ _ _) (by simp) (fun k _ => by show ([] : List Cv).length ≤ _; simp) (by decide +kernel) (by simp)).mono ?_
  rintro e w2 ⟨c, hctd, hca, rfl, hkm, hb2⟩
  have HW2 : Hid (Below w.heap.size w w2) := HU1.out.trans (hb2.mono HU1.out.size)
  have HKM : Hid (KbM w2 0 w2.heap.size c [Pex]) := hkm.more (Nat.zero_le _) (Nat.le_refl _)
  have HCT : Hid (c.td = 0) := hctd
  have HCA : Hid (∀ k, k < 32 → c.a k = Av.zero) := hca
  clear hb2 hkm hctd hca fU1 HU1
  go_wp2_with (((with_reducible_and_instances (show wpList _ _ _ (Oper.mk _ (Op.store 35 _ _) _ _ _ _ :: _) _ _)); refine stop_here ?_))
  refine ⟨?_⟩
  refine wl_store (g := w2.heap.size) Kb.info rfl rfl rfl rfl (alloc_at rfl) Kb.zero_size (Kb.arr_size _) HKM.out.one.arr ?_
  obtain ⟨U2, hU2⟩ : ∃ U2, boxed (w2.alloc (.cells Tryz.zeroCells35 35)) w2.heap.size c.arr 35 = U2 := ⟨_, rfl⟩
  have fU2 : U2.heap[w2.heap.size]? = some (.cells c.arr 35 (0, 0)) := by rw [← hU2]; exact boxed_at (by simp)
  have HU2 : Hid (Below w.heap.size w U2) := by rw [← hU2]; exact boxed_below (HW2.out.alloc HW2.out.size _) HW2.out.size
  have HK2 : Hid (KbM U2 0 U2.heap.size c [Pex]) := by rw [← hU2]; exact ((HKM.out.below ((Below.refl _ w2).alloc (Nat.le_refl _) _)).boxed (.inr (Nat.le_refl _))).more (Nat.le_refl _) (by simp)
  rw [hU2]
  clear hU2 HKM
  generalize w2.heap.size = g2 at *
  clear HW2 w2
  go_wp2_with (((with_reducible_and_instances (show wpList _ _ _ (Oper.mk _ (Op.load 35 _) _ _ _ _ :: _) _ _)); refine stop_here ?_))
  refine ⟨?_⟩
  refine wl_load (cs := c.arr) (fr := (0, 0)) (g := g2) Tryz.underlying35 rfl Kb.info rfl rfl rfl fU2 (Kb.arr_size _) ?_
  go_wp2_with fail
  refine (bkstep_open (x := 0) (A' := Aex) (i := 0) (b := c) (ps := [Pex]) (o := ⟨2, 0, 0, 0, Pv.zero, Nv.zero⟩) (by decide +kernel) rfl HK2.out (by simp) (fun k hk => by rw [HCA.out k hk]; show ([] : List Cv).length ≤ _; simp) (by omega) rfl (Lib.hid fun W c' _ h1 h2 h3 => opened_yes (i := 0) (kn := 0) (P := Pex) (by omega) h3.ps rfl (by rw [h2, HCA.out 0 (by omega)]; rfl) (by rw [h1, HCT.out]; omega) ⟨by decide, by decide⟩ (by rw [h1, HCT.out]; decide) (Lib.hid fun W' => by rw [h1, HCT.out]; exact dayex_any W'))).mono ?_
  rintro e w3 h39
  obtain ⟨d, hdtd, hda, rfl, hkm, hb3⟩ := h39.2 rfl
  have HW3 : Hid (Below w.heap.size w w3) := HU2.out.trans (hb3.mono HU2.out.size)
  have HKM : Hid (KbM w3 0 w3.heap.size d [Pex]) := hkm.more (Nat.zero_le _) (Nat.le_refl _)
  have HD0 : Hid (d.a 0 = Aex) := hda 0 (by omega)
  have HDK : Hid (∀ k, 0 < k → k < 32 → d.a k = Av.zero) := fun k h0 hk => (hda k hk).trans ((if_neg (by omega)).trans (HCA.out k hk))
  clear hb3 hkm hdtd hda h39 HK2 HCA HCT fU2 HU2
  go_wp2_with (((with_reducible_and_instances (show wpList _ _ _ (Oper.mk _ (Op.store 35 _ _) _ _ _ _ :: _) _ _)); refine stop_here ?_))
  refine ⟨?_⟩
  refine wl_store (g := w3.heap.size) Kb.info rfl rfl rfl rfl (alloc_at rfl) Kb.zero_size (Kb.arr_size _) HKM.out.one.arr ?_
  obtain ⟨U3, hU3⟩ : ∃ U3, boxed (w3.alloc (.cells Tryz.zeroCells35 35)) w3.heap.size d.arr 35 = U3 := ⟨_, rfl⟩
  have fU3 : U3.heap[w3.heap.size]? = some (.cells d.arr 35 (0, 0)) := by rw [← hU3]; exact boxed_at (by simp)
  have HU3 : Hid (Below w.heap.size w U3) := by rw [← hU3]; exact boxed_below (HW3.out.alloc HW3.out.size _) HW3.out.size
  have HK3 : Hid (KbM U3 0 U3.heap.size d [Pex]) := by rw [← hU3]; exact ((HKM.out.below ((Below.refl _ w3).alloc (Nat.le_refl _) _)).boxed (.inr (Nat.le_refl _))).more (Nat.le_refl _) (by simp)
  rw [hU3]
  clear hU3 HKM
  generalize w3.heap.size = g3 at *
  clear HW3 w3
  go_wp2_with (((with_reducible_and_instances (show wpList _ _ _ (Oper.mk _ (Op.load 35 _) _ _ _ _ :: _) _ _)); refine stop_here ?_))
  refine ⟨?_⟩
  refine wl_load (cs := d.arr) (fr := (0, 0)) (g := g3) Tryz.underlying35 rfl Kb.info rfl rfl rfl fU3 (Kb.arr_size _) ?_
  go_wp2_with fail
  have hal : asksK d.a 32 = [⟨1, 0, 0, 1, 100, 0⟩] := by
    rw [asksK_first 31 (fun k h0 hk => by rw [HDK.out k h0 hk]; rfl), HD0.out]; rfl
  refine (bkasks_any HK3.out (fun k hk => by
    by_cases h0 : 0 < k
    · rw [HDK.out k h0 hk]; exact Nat.zero_le _
    · obtain rfl : k = 0 := by omega
      rw [HD0.out]; show 1 ≤ 100000; omega)).mono ?_
  rintro e w4 ⟨v4, rfl, ho4, hb4⟩
  rw [hal] at ho4
  obtain ⟨g, o, cap, rfl, _, hc1, hc2, _, hgl, hr⟩ := (Nvs.own ho4).at_ (k := 0) (c := ⟨1, 0, 0, 1, 100, 0⟩) rfl
  have k0 : w4.cell? ⟨g, o, none⟩ = some (.int .u8 1) := hr 0 _ rfl
  have k4 : w4.cell? ⟨g, o + 4, none⟩ = some (.int .i64 100) := hr 4 _ rfl
  have f4 : w4.heap[g3]? = some (.cells d.arr 35 (0, 0)) := below_block hb4 fU3
  have hg3 : g3 < w4.heap.size := (Array.getElem?_eq_some_iff.1 f4).1
  obtain ⟨A1, c1, hv, _⟩ := HK3.out.cs 0 (by omega)
  rw [HD0.out] at hv
  have hop : w4.cell? ⟨g3, 9, none⟩ = some (.slice A1 1 c1) := by
    have := Kb.cell (i := 0) (j := 7) (u := .slice A1 1 c1) f4 (by omega) (by omega) (by rw [HD0.out, hv]; rfl)
    exact this
  have HW4 : Hid (Below w.heap.size w w4) := HU3.out.trans (hb4.mono HU3.out.size)
  clear hb4 ho4 hr hal HK3 fU3 HU3 hv HD0 HDK
  go_wp2
  go_ret
  exact ⟨rfl, HW4.out⟩
end Go.Proofs.YtblikgbcakgdnaaGreat
/-
  A slice of paybookref12's acts that comes in: what it reads as. No conditions.
-/
namespace Go.Proofs.YtblikgbcakgdnaaGreat
set_option maxRecDepth 20000
open Go.ChangeShapes Go.WideShapes Go.RowKit Go.Deep

/-- An act, by its bytes. -/
structure Ac4 where
  k : Int
  a : Int
  b : Int
  c : Int
def Ac4.cs (p : Ac4) : List Value := [.int .u8 p.k, .int .u8 p.a, .int .u8 p.b, .int .u8 p.c]
/-- An act as it may come in. -/
def Ac4.Wf (p : Ac4) : Prop := (0 ≤ p.k ∧ p.k < 256) ∧ (0 ≤ p.a ∧ p.a < 256) ∧ (0 ≤ p.b ∧ p.b < 256) ∧ (0 ≤ p.c ∧ p.c < 256)
/-- A slice of acts whose address is A reads as the acts l: in a block below B. -/
def RdAc4 (w : World) (B : Nat) (A : Option Addr) (l : List Ac4) : Prop :=
  ∀ (j : Nat) (p : Ac4), l[j]? = some p → ∃ b o, A = some ⟨b, o, none⟩ ∧ b < B ∧ w.rangeAt b (o + j * 4) p.cs
theorem RdAc4.kept {w w' : World} {B : Nat} {A : Option Addr} {l : List Ac4} (h : RdAc4 w B A l) (hk : ∀ i, i < B → w'.heap[i]? = w.heap[i]?) : RdAc4 w' B A l := fun j p hl => by
  obtain ⟨b, o, h1, h2, h3⟩ := h j p hl
  exact ⟨b, o, h1, h2, fun i v hv => (World.cell?_of_block (a := ⟨b, o + j * 4 + i, none⟩) (hk b h2)).trans (h3 i v hv)⟩
end Go.Proofs.YtblikgbcakgdnaaGreat
/-
  What the laws of a book share: their loop over acts. No conditions but the sizes.
-/
namespace Go.Proofs.YtblikgbcakgdnaaGreat
set_option linter.unusedVariables false
set_option linter.unusedSimpArgs false
set_option maxRecDepth 100000
open Go.ChangeShapes Go.WideShapes Go.ChangeAt Go.RowKit

theorem Kb.range_all {w : World} {B : Nat} {b : Kb} {t : TypeId} {fr : Nat × Nat} (h : w.heap[B]? = some (.cells b.arr t fr)) : w.rangeAt B 0 b.arr.toList := by
  intro j u hu
  rw [cell_of_row _ _ _ _ _ _ h, Nat.zero_add, ← Array.getElem?_toList]
  exact hu
theorem Kb.info_all {b : Kb} : (Tryz.prog.info? 35).map (·.size) = some b.arr.toList.length := by rw [Array.length_toList, Kb.arr_size]; exact Kb.info
theorem PBok.more {M M' L L' td : Int} {a : Nat → Av} {ps : List Pv} (h : PBok M L td a ps) (hm : M ≤ M') (hl : L ≤ L') : PBok M' L' td a ps := ⟨h.day, h.len, h.pok, fun k hk => (h.sub k hk).imp id fun ⟨s, kp, P, g1, g2, g3, g4⟩ => ⟨s, kp, P, g1, g2, g3.more hm hl, g4⟩, h.low⟩
/-- A book that was stepped to, which stands in no block n. -/
def Came (M L : Int) (b : Kb) (o : Ov) (D n : Nat) (c : Kb) (x : Int) (w' : World) : Prop := x = 0 → ∃ ps' b0 c0, D + 1 ≤ b0 ∧ c0 ≤ w'.heap.size ∧ (n < b0 ∨ c0 ≤ n) ∧ KbM w' b0 c0 c ps' ∧ PBok (M + 1100000000) (L + 40) c.td c.a ps' ∧ Apart o b.td b.a c.td c.a
theorem Came.below {M L : Int} {b : Kb} {o : Ov} {D n : Nat} {c : Kb} {x : Int} {w w' : World} (h : Came M L b o D n c x w) (hb : Below w.heap.size w w') : Came M L b o D n c x w' := fun hx => by
  obtain ⟨ps', b0, c0, h1, h2, h3, h4, h5⟩ := h hx
  exact ⟨ps', b0, c0, h1, Nat.le_trans h2 hb.size, h3, h4.below (hb.mono h2), h5⟩
theorem Came.boxed {M L : Int} {b : Kb} {o : Ov} {D n : Nat} {c : Kb} {x : Int} {w : World} {cs : Array Value} {t : TypeId} (h : Came M L b o D n c x w) : x = 0 → ∃ ps', KbM (Go.Proofs.YtblikgbcakgdnaaGreat.boxed w n cs t) (D + 1) (Go.Proofs.YtblikgbcakgdnaaGreat.boxed w n cs t).heap.size c ps' ∧ PBok (M + 1100000000) (L + 40) c.td c.a ps' ∧ Apart o b.td b.a c.td c.a := fun hx => by
  obtain ⟨ps', b0, c0, h1, h2, h3, h4, h5, h6⟩ := h hx
  exact ⟨ps', (h4.boxed h3).more h1 (by rw [boxed_size]; exact h2), h5, h6⟩
theorem Stepd.came {M L : Int} {W w' : World} {b c : Kb} {o : Ov} {D n : Nat} {x : Int} (h : x = 0 → ∃ ps', KbM w' W.heap.size w'.heap.size c ps' ∧ PBok (M + 1100000000) (L + 40) c.td c.a ps' ∧ Apart o b.td b.a c.td c.a) (hD : D + 1 ≤ W.heap.size) (hn : n < W.heap.size ∨ w'.heap.size ≤ n) : Came M L b o D n c x w' := fun hx => by
  obtain ⟨ps', h1, h2, h3⟩ := h hx
  exact ⟨ps', _, _, hD, Nat.le_refl _, hn, h1, h2, h3⟩
end Go.Proofs.YtblikgbcakgdnaaGreat
/-
  The mathematics of numbers as bytes: a number's doubled word, its groups of six bits, and the way back. No conditions but those that each law names. Imports nothing of the program.
-/
namespace Go.Proofs.YtblikgbcakgdnaaGreat.Pk

/-- The doubled word of a number, and the number of a word. -/
def zig (n : Int) : Nat := if 0 ≤ n then (2 * n).toNat else (-2 * n - 1).toNat
def zag (u : Nat) : Int := if u % 2 = 1 then -((u / 2 : Nat) : Int) - 1 else ((u / 2 : Nat) : Int)
theorem zig_lt (n : Int) (h0 : -9223372036854775808 ≤ n) (h1 : n ≤ 9223372036854775807) : zig n < 18446744073709551616 := by unfold zig; split <;> omega
theorem zig_even {n : Int} (h : 0 ≤ n) : (zig n : Int) = 2 * n := by unfold zig; rw [if_pos h]; omega
theorem zig_odd {n : Int} (h : n < 0) : (zig n : Int) = -2 * n - 1 := by unfold zig; rw [if_neg (by omega)]; omega

/-- The bytes of a word. -/
def enc (u : Nat) : List Int := if u < 64 then [(u : Int)] else ((u : Int) % 64 + 64) :: enc (u / 64)
termination_by u
decreasing_by omega
theorem enc_less {u : Nat} (h : u < 64) : enc u = [(u : Int)] := by rw [enc, if_pos h]
theorem enc_more {u : Nat} (h : ¬ u < 64) : enc u = ((u : Int) % 64 + 64) :: enc (u / 64) := by rw [enc, if_neg h]
def encs (ns : List Int) : List Int := ns.flatMap fun n => enc (zig n)
theorem encs_nil : encs [] = [] := rfl
theorem encs_cons (n : Int) (r : List Int) : encs (n :: r) = enc (zig n) ++ encs r := by unfold encs; rw [List.flatMap_cons]
theorem encs_append (a b : List Int) : encs (a ++ b) = encs a ++ encs b := by unfold encs; rw [List.flatMap_append]
theorem encs_one (n : Int) : encs [n] = enc (zig n) := by rw [encs_cons, encs_nil, List.append_nil]

theorem enc_range (u : Nat) : ∀ x ∈ enc u, 0 ≤ x ∧ x < 128 := by
  induction u using Nat.strongRecOn with
  | _ u ih =>
    intro x hx
    by_cases h : u < 64
    · rw [enc_less h] at hx; simp at hx; omega
    · rw [enc_more h] at hx
      rcases List.mem_cons.1 hx with rfl | hx
      · omega
      · exact ih (u / 64) (by omega) x hx
theorem enc_len (m : Nat) : ∀ u, u < 64 ^ (m + 1) → (enc u).length ≤ m + 1 := by
  induction m with
  | zero => intro u h; rw [enc_less (by simpa using h)]; simp
  | succ m ih =>
    intro u h
    by_cases g : u < 64
    · rw [enc_less g]; simp
    · rw [enc_more g]
      have := ih (u / 64) (by rw [Nat.pow_succ] at h; omega)
      simp; omega
theorem enc_eleven {u : Nat} (h : u < 18446744073709551616) : (enc u).length ≤ 11 := enc_len 10 u (by
  have e : 64 ^ (10 + 1) = 73786976294838206464 := by decide
  rw [e]; omega)
theorem encs_len (ns : List Int) (h : ∀ n ∈ ns, -9223372036854775808 ≤ n ∧ n ≤ 9223372036854775807) : (encs ns).length ≤ 11 * ns.length := by
  induction ns with
  | nil => simp [encs_nil]
  | cons n r ih =>
    rw [encs_cons, List.length_append, List.length_cons]
    have := ih fun m hm => h m (by simp [hm])
    have := h n (by simp)
    have := enc_eleven (zig_lt n (by omega) (by omega))
    omega

/-- A byte that may not stand at a place. -/
def bad (i : Nat) (c : Int) : Bool := decide (0 < i ∧ c = 0 ∨ 128 ≤ c ∨ i = 10 ∧ 16 ≤ c)
/-- What is taken in by a byte. -/
def take1 (i u : Nat) (c : Int) : Nat := u + (c % 64).toNat * 64 ^ i
/-- The number with which bytes begin, how many it has, and the fault: from place i on, with u ahead. -/
def dec (i u : Nat) : List Int → Int × Nat × Int
  | [] => (0, 0, 5)
  | c :: r => if bad i c = true then (0, 0, 4) else if c < 64 then (zag (take1 i u c), i + 1, 0) else dec (i + 1) (take1 i u c) r
end Go.Proofs.YtblikgbcakgdnaaGreat.Pk
/-
  Contracts of the functions on a number's word: the doubled word, the way back, which byte may stand. No conditions but the numbers' own ranges.
-/
namespace Go.Proofs.YtblikgbcakgdnaaGreat
open Go.ChangeShapes Go.WideShapes Go.ChangeAt Go.RowKit

namespace Pk
theorem ones64u : BitVec.ofInt 64 18446744073709551615 = BitVec.allOnes 64 := by decide +kernel
theorem ofInt_nat {x : Int} (h0 : 0 ≤ x) (h1 : x < 18446744073709551616) : ((BitVec.ofInt 64 x).toNat : Int) = x := by
  obtain ⟨m, rfl⟩ := Int.eq_ofNat_of_zero_le h0
  rw [BitVec.ofInt_natCast, BitVec.toNat_ofNat, Nat.mod_eq_of_lt (by omega)]
theorem xor_ones_u {x : Int} (h0 : 0 ≤ x) (h1 : x < 18446744073709551616) : bits .xor .u64 x 18446744073709551615 = 18446744073709551615 - x := by
  show IntKind.u64.wrap ((BitVec.ofInt 64 x ^^^ BitVec.ofInt 64 18446744073709551615).toNat : Int) = _
  rw [ones64u, BitVec.xor_allOnes, BitVec.toNat_not, IntKind.wrap_u64]
  have := ofInt_nat h0 h1
  omega
theorem xor_none_u {x : Int} (h0 : 0 ≤ x) (h1 : x < 18446744073709551616) : bits .xor .u64 x 0 = x := by
  rw [u64_xor x 0 h0 h1 (by omega) (by omega)]; simp; omega
theorem zig_bits {n : Int} (h0 : 0 ≤ n) (h1 : n ≤ 9223372036854775807) : bits .xor .u64 (n * 2) (n / 9223372036854775808) = zig n := by
  rw [show n / 9223372036854775808 = 0 by omega, xor_none_u (by omega) (by omega), zig_even h0]; omega
theorem zig_bits' {n : Int} (h0 : n < 0) (h1 : -9223372036854775808 ≤ n) : bits .xor .u64 (IntKind.u64.wrap (IntKind.u64.wrap n * 2)) (IntKind.u64.wrap (n / 9223372036854775808)) = zig n := by
  simp only [IntKind.wrap_u64]
  rw [show n / 9223372036854775808 % 18446744073709551616 = 18446744073709551615 by omega, xor_ones_u (by omega) (by omega), zig_odd h0]
  omega
end Pk

set_option maxHeartbeats 400000 in
theorem unsigned_any (n : Int) (w : World) (h0 : -9223372036854775808 ≤ n) (h1 : n ≤ 9223372036854775807) :
    Calls Tryz.prog 103 #[.int .i64 n] w fun e w' => e = .returned (.int .u64 (Pk.zig n)) ∧ w = w' := by
  by_cases h : 0 ≤ n
  · go_enter Tryz.func103, Tryz.ntmps103
    go_wp2
    go_ret
    exact ⟨ret_int (Pk.zig_bits h h1), rfl⟩
  · go_enter Tryz.func103, Tryz.ntmps103
    go_wp2
    go_ret
    exact ⟨ret_int (Pk.zig_bits' (by omega) h0), rfl⟩
end Go.Proofs.YtblikgbcakgdnaaGreat
/-
  Words for memory: a box of numbers, and how it stays over steps that turn other blocks alone. No conditions but those that each law names.
-/
namespace Go.Proofs.YtblikgbcakgdnaaGreat
open Go.ChangeShapes Go.WideShapes Go.ChangeAt Go.RowKit

/-- A block that is known whole. -/
def Bx (w : World) (g : Nat) (v : Value) (f : Int) : Prop := w.heap[g]? = some (.cells #[v, .int .i64 f] 109 (0, 0))
section
variable {w w' : World} {g : Nat} {v : Value} {f : Int}
theorem Bx.lt (h : Bx w g v f) : g < w.heap.size := (Array.getElem?_eq_some_iff.1 h).1
theorem Bx.kept (h : Bx w g v f) (hk : w'.heap[g]? = w.heap[g]?) : Bx w' g v f := hk.trans h
theorem Bx.below {B : Nat} (h : Bx w g v f) (hb : Below B w w') (hg : g < B) : Bx w' g v f := h.kept (hb.block g hg)
theorem Bx.boxed (h : Bx w g v f) : ∃ w0, w = boxed w0 g #[v, .int .i64 f] 109 ∧ g < w0.heap.size := ⟨w, boxed_self h, h.lt⟩
theorem Bx.mk {w0 : World} (h : g < w0.heap.size) : Bx (Go.Proofs.YtblikgbcakgdnaaGreat.boxed w0 g #[v, .int .i64 f] 109) g v f := boxed_block h
end
/-- A box out of which is taken: what is left of it, and its fault. -/
def GB (w : World) (g : Nat) (l : List Int) (f : Int) : Prop :=
  ∃ A c, Bx w g (.slice A l.length c) f ∧ Rd w .u8 g A l ∧ l.length ≤ c ∧ c ≤ maxLen ∧ ∀ x ∈ l, 0 ≤ x ∧ x < 256
/-- A box into which is put: a row of its own, from R on. -/
def PB (w : World) (R g : Nat) (l : List Int) : Prop :=
  ∃ v, Bx w g v 0 ∧ w.ownsRow R 5 1 v l.length (cl .u8 l) ∧ R ≤ g ∧ ∀ x ∈ l, 0 ≤ x ∧ x < 256

theorem GB.kept {w w' : World} {g : Nat} {l : List Int} {f : Int} (h : GB w g l f) (hk : ∀ i, i ≤ g → w'.heap[i]? = w.heap[i]?) : GB w' g l f := by
  obtain ⟨A, c, hb, hr, h1, h2, h3⟩ := h
  exact ⟨A, c, hb.kept (hk g (Nat.le_refl _)), hr.kept fun i hi => hk i (by omega), h1, h2, h3⟩
theorem GB.below {w w' : World} {g B : Nat} {l : List Int} {f : Int} (h : GB w g l f) (hb : Below B w w') (hg : g < B) : GB w' g l f := h.kept fun i hi => hb.block i (by omega)
theorem GB.lt {w : World} {g : Nat} {l : List Int} {f : Int} (h : GB w g l f) : g < w.heap.size := by
  obtain ⟨_, _, hb, _⟩ := h
  exact hb.lt
theorem PB.lt {w : World} {R g : Nat} {l : List Int} (h : PB w R g l) : R ≤ g ∧ g < w.heap.size := by
  obtain ⟨_, hb, _, hR, _⟩ := h
  exact ⟨hR, hb.lt⟩
theorem PB.below {w w' : World} {R g : Nat} {l : List Int} (h : PB w R g l) (hb : Below w.heap.size w w') : PB w' R g l := by
  obtain ⟨v, hx, ho, hR, h3⟩ := h
  exact ⟨v, hx.below hb hx.lt, own_kept ho fun i hi => hb.block i (ho.lt i hi).2, hR, h3⟩
end Go.Proofs.YtblikgbcakgdnaaGreat
