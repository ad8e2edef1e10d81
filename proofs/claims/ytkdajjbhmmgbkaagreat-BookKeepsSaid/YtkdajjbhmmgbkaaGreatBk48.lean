/-
  Book's example, and any order of the laws': what a step makes of it. No conditions but the sizes.
-/
import Derived.Deep.Slices
import Derived.Deep.MidRow
import Derived.Lib.SmallJoins
import Derived.Test.YtkdajjbhmmgbkaaGreatBk04
import Derived.Test.YtkdajjbhmmgbkaaGreatBk05
import Derived.Test.YtkdajjbhmmgbkaaGreatBk23
import Derived.Test.YtkdajjbhmmgbkaaGreatBk36
import Derived.Test.YtkdajjbhmmgbkaaGreatBk44
import Derived.Test.YtkdajjbhmmgbkaaGreatBk47
set_option linter.unusedSimpArgs false
set_option linter.unusedVariables false
namespace Go.Proofs.YtkdajjbhmmgbkaaGreat
set_option linter.unusedVariables false
set_option linter.unusedSimpArgs false
set_option maxRecDepth 100000
open Go.ChangeShapes Go.WideShapes Go.ChangeAt Go.RowKit

/-- What a step answers: an error, or a book in new blocks. -/
def Stepd (M L : Int) (W : World) (b : Kb) (o : Ov) (e : Ending) (w' : World) : Prop := ∃ (c : Kb) (x : Int), e = .returned (.tuple #[.agg c.arr, .int .i64 x]) ∧ c.One ∧ (x = 0 → ∃ ps', KbM w' W.heap.size w'.heap.size c ps' ∧ PBok (M + 1100000000) (L + 40) c.td c.a ps' ∧ Apart o b.td b.a c.td c.a) ∧ Below W.heap.size W w'
section
variable {M L : Int} {w : World} {b : Kb} {ps : List Pv} {o : Ov}
theorem PBok.congr {M L td : Int} {a a' : Nat → Av} {ps : List Pv} (h : PBok M L td a ps) (he : ∀ k, k < 32 → a' k = a k) : PBok M L td a' ps := ⟨h.day, h.len, h.pok, fun k hk => by rw [he k hk]; exact h.sub k hk, fun k h3 hk => by rw [he k hk]; exact h.low k h3 hk⟩
theorem BStep.stepd : ∀ e w', BStep M L w b o e w' → Stepd M L w b o e w' := by
  rintro e w' (⟨x, hx, rfl, hb⟩ | ⟨td', a', ps', ⟨c, rfl, hca, rfl, hk, hb⟩, hp, hap⟩)
  · exact ⟨Kb.zero, x, rfl, Kb.zero_one, fun h => absurd h hx, hb⟩
  · refine ⟨c, 0, rfl, hk.one, fun _ => ⟨ps', hk, hp.congr hca, hap.1, fun hk9 => ⟨(hap.2 hk9).1, fun k hk hk2 => ?_⟩⟩, hb⟩
    rw [hca k hk]
    exact (hap.2 hk9).2 k hk hk2
/-- Any order of the laws', one that may not be among them. -/
theorem step_all (h : PBok M L b.td b.a ps) (hkm : KbM w 0 w.heap.size b ps) (hM : 0 ≤ M ∧ M ≤ 100000000000) (hL : 1 ≤ L ∧ L + 40 ≤ 9000) (htd : b.td + 40 ≤ 2000000) (hf : OForm o) : Calls Tryz.prog 14 #[.agg b.arr, .agg o.kb] w (Stepd M L w b o) := by
  by_cases hr : o.right = 0
  · exact (bok_any h hkm hM hL htd hf hr).mono BStep.stepd
  · exact (bkstep_wrong rfl hr).mono fun e w' ⟨he, hb⟩ => ⟨Kb.zero, o.right, he, Kb.zero_one, fun h => absurd h hr, hb⟩
theorem new_km (td : Int) (w : World) (b0 c0 : Nat) : KbM w b0 c0 (Kb.new td) [] := ⟨Kb.new_one td, Pys.nil, fun _ _ => Cys.nil⟩
theorem new_ok {td : Int} (h : 0 ≤ td ∧ td ≤ 2000000) : PBok 0 1 (Kb.new td).td (Kb.new td).a [] := ⟨h, by simp, fun P hP => (nomatch hP), fun _ _ => .inl rfl, fun _ _ _ => rfl⟩
theorem asksK_first {a : Nat → Av} : ∀ n, (∀ k, 0 < k → k < n + 1 → (a k).l = []) → asksK a (n + 1) = asksOf 0 (a 0).l
  | 0, _ => by show [] ++ _ = _; rfl
  | n + 1, h => by
    show asksK a (n + 1) ++ asksOf _ (a (n + 1)).l = _
    rw [asksK_first n (fun k h0 hk => h k h0 (by omega)), h (n + 1) (by omega) (by omega)]
    exact List.append_nil _
end
/-- The example's plan, and its subscription. -/
def Pex : Pv := ⟨100, 0, 30, 0, false, false⟩
def Aex : Av := ⟨1, 0, 0, 1, 1, 0, false, [⟨0, 0, 1, 100, 0, 1, 0, false⟩], 0, 0, 0, 0, 0⟩
set_option maxHeartbeats 4000000 in
theorem dayex_any (W : World) : Calls Tryz.prog 58 #[.agg ((Av.opened 0 0).arr (.slice none 0 0)), .agg Pex.arr, .int .i64 0] W (News W Aex) := by
  obtain ⟨k, d, hAt⟩ := Cal.at_of 0 (by omega) (by omega)
  have hN : Cal.vN 0 0 k d 30 0 = 0 := Cal.vN_zero hAt
  have hC : Cal.Cnt 0 0 k d 30 0 1 := Cal.Cnt.days (u := 0) (by omega) (by omega) (by omega) (by omega)
  have hx : Av.runs (Cal.vN 0 0 k d 30) Pex 1 1 (Av.opened 0 0) = Aex := by
    rw [Av.runs_next]
    show Av.runs _ _ _ 0 (Av.born _ _ _ false) = _
    rw [Av.born_pay (by decide) rfl (by decide)]
    show Av.with_ _ (Cy.begin_ 0 (Cal.vN 0 0 k d 30 0) 100 0 false) = _
    rw [hN]; rfl
  have h := daycalm_any (w := W) (a := Av.opened 0 0) (p := Pex) (m := 0) (y := 0) (c := 1) (k := k) (d := d) Cys.nil (Av.opened_fine _ _) (by omega) (by decide) hAt ⟨by decide, by decide⟩ ⟨by decide, by decide⟩ ⟨by decide, by decide⟩ (by decide) hC ⟨by decide, by decide⟩
  rw [show Av.runs (Cal.vN Pex.u (Av.opened 0 0).an k d Pex.e) Pex 1 (1 - (Av.opened 0 0).ix).toNat (Av.opened 0 0) = Aex from hx] at h
  exact h
set_option maxHeartbeats 8000000 in
theorem bkawake_any (w : World) : Calls Tryz.prog 9 #[] w fun e w' => e = .returned (.bool true) ∧ Below w.heap.size w w' := by
  go_enter Tryz.func9, Tryz.ntmps9
  go_wp2_with fail
  refine (bknew_any 0 _).mono ?_
  rintro e w1 ⟨rfl, hb1⟩
  have HW1 := Lib.hid hb1
  clear hb1
  go_wp2_with (((with_reducible_and_instances (show wpList _ _ _ (Oper.mk _ (Op.store 35 _ _) _ _ _ _ :: _) _ _)); refine stop_here ?_))
  refine ⟨?_⟩
  refine wl_store (g := w1.heap.size) Kb.info rfl rfl rfl rfl (alloc_at rfl) Kb.zero_size (Kb.arr_size _) (Kb.new_one 0).arr ?_
  obtain ⟨U1, hU1⟩ : ∃ U1, boxed (w1.alloc (.cells Tryz.zeroCells35 35)) w1.heap.size (Kb.new 0).arr 35 = U1 := ⟨_, rfl⟩
  have fU1 : U1.heap[w1.heap.size]? = some (.cells (Kb.new 0).arr 35 (0, 0)) := by rw [← hU1]; exact boxed_at (by simp)
  have HU1 : Hid (Below w.heap.size w U1) := by rw [← hU1]; exact boxed_below (HW1.out.alloc HW1.out.size _) HW1.out.size
  rw [hU1]
  clear hU1
  generalize w1.heap.size = g1 at *
  clear HW1 w1
  go_wp2_with (((with_reducible_and_instances (show wpList _ _ _ (Oper.mk _ (Op.load 35 _) _ _ _ _ :: _) _ _)); refine stop_here ?_))
  refine ⟨?_⟩
  refine wl_load (cs := (Kb.new 0).arr) (fr := (0, 0)) (g := g1) Tryz.underlying35 rfl Kb.info rfl rfl rfl fU1 (Kb.arr_size _) ?_
  go_wp2_with fail
  refine (bkstep_def_yes (b := Kb.new 0) (ps := []) (o := ⟨1, 0, 0, 0, Pex, Nv.zero⟩) (by decide +kernel) rfl (new_km 0 _ _ _) (by simp) (fun k _ => by show ([] : List Cv).length ≤ _; simp) (by decide +kernel) (by simp)).mono ?_
  rintro e w2 ⟨c, hctd, hca, rfl, hkm, hb2⟩
  have HW2 : Hid (Below w.heap.size w w2) := HU1.out.trans (hb2.mono HU1.out.size)
  have HKM : Hid (KbM w2 0 w2.heap.size c [Pex]) := hkm.more (Nat.zero_le _) (Nat.le_refl _)
  have HCT : Hid (c.td = 0) := hctd
  have HCA : Hid (∀ k, k < 32 → c.a k = Av.zero) := hca
  clear hb2 hkm hctd hca fU1 HU1
  go_wp2_with (((with_reducible_and_instances (show wpList _ _ _ (Oper.mk _ (Op.store 35 _ _) _ _ _ _ :: _) _ _)); refine stop_here ?_))
  refine ⟨?_⟩
  refine wl_store (g := w2.heap.size) Kb.info rfl rfl rfl rfl (alloc_at rfl) Kb.zero_size (Kb.arr_size _) HKM.out.one.arr ?_
  obtain ⟨U2, hU2⟩ : ∃ U2, boxed (w2.alloc (.cells Tryz.zeroCells35 35)) w2.heap.size c.arr 35 = U2 := ⟨_, rfl⟩
  have fU2 : U2.heap[w2.heap.size]? = some (.cells c.arr 35 (0, 0)) := by rw [← hU2]; exact boxed_at (by simp)
  have HU2 : Hid (Below w.heap.size w U2) := by rw [← hU2]; exact boxed_below (HW2.out.alloc HW2.out.size _) HW2.out.size
  have HK2 : Hid (KbM U2 0 U2.heap.size c [Pex]) := by rw [← hU2]; exact ((HKM.out.below ((Below.refl _ w2).alloc (Nat.le_refl _) _)).boxed (.inr (Nat.le_refl _))).more (Nat.le_refl _) (by simp)
  rw [hU2]
  clear hU2 HKM
  generalize w2.heap.size = g2 at *
  clear HW2 w2
  go_wp2_with (((with_reducible_and_instances (show wpList _ _ _ (Oper.mk _ (Op.load 35 _) _ _ _ _ :: _) _ _)); refine stop_here ?_))
  refine ⟨?_⟩
  refine wl_load (cs := c.arr) (fr := (0, 0)) (g := g2) Tryz.underlying35 rfl Kb.info rfl rfl rfl fU2 (Kb.arr_size _) ?_
  go_wp2_with fail
  refine (bkstep_open (x := 0) (A' := Aex) (i := 0) (b := c) (ps := [Pex]) (o := ⟨2, 0, 0, 0, Pv.zero, Nv.zero⟩) (by decide +kernel) rfl HK2.out (by simp) (fun k hk => by rw [HCA.out k hk]; show ([] : List Cv).length ≤ _; simp) (by omega) rfl (Lib.hid fun W c' _ h1 h2 h3 => opened_yes (i := 0) (kn := 0) (P := Pex) (by omega) h3.ps rfl (by rw [h2, HCA.out 0 (by omega)]; rfl) (by rw [h1, HCT.out]; omega) ⟨by decide, by decide⟩ (by rw [h1, HCT.out]; decide) (Lib.hid fun W' => by rw [h1, HCT.out]; exact dayex_any W'))).mono ?_
  rintro e w3 h39
  obtain ⟨d, hdtd, hda, rfl, hkm, hb3⟩ := h39.2 rfl
  have HW3 : Hid (Below w.heap.size w w3) := HU2.out.trans (hb3.mono HU2.out.size)
  have HKM : Hid (KbM w3 0 w3.heap.size d [Pex]) := hkm.more (Nat.zero_le _) (Nat.le_refl _)
  have HD0 : Hid (d.a 0 = Aex) := hda 0 (by omega)
  have HDK : Hid (∀ k, 0 < k → k < 32 → d.a k = Av.zero) := fun k h0 hk => (hda k hk).trans ((if_neg (by omega)).trans (HCA.out k hk))
  clear hb3 hkm hdtd hda h39 HK2 HCA HCT fU2 HU2
  go_wp2_with (((with_reducible_and_instances (show wpList _ _ _ (Oper.mk _ (Op.store 35 _ _) _ _ _ _ :: _) _ _)); refine stop_here ?_))
  refine ⟨?_⟩
  refine wl_store (g := w3.heap.size) Kb.info rfl rfl rfl rfl (alloc_at rfl) Kb.zero_size (Kb.arr_size _) HKM.out.one.arr ?_
  obtain ⟨U3, hU3⟩ : ∃ U3, boxed (w3.alloc (.cells Tryz.zeroCells35 35)) w3.heap.size d.arr 35 = U3 := ⟨_, rfl⟩
  have fU3 : U3.heap[w3.heap.size]? = some (.cells d.arr 35 (0, 0)) := by rw [← hU3]; exact boxed_at (by simp)
  have HU3 : Hid (Below w.heap.size w U3) := by rw [← hU3]; exact boxed_below (HW3.out.alloc HW3.out.size _) HW3.out.size
  have HK3 : Hid (KbM U3 0 U3.heap.size d [Pex]) := by rw [← hU3]; exact ((HKM.out.below ((Below.refl _ w3).alloc (Nat.le_refl _) _)).boxed (.inr (Nat.le_refl _))).more (Nat.le_refl _) (by simp)
  rw [hU3]
  clear hU3 HKM
  generalize w3.heap.size = g3 at *
  clear HW3 w3
  go_wp2_with (((with_reducible_and_instances (show wpList _ _ _ (Oper.mk _ (Op.load 35 _) _ _ _ _ :: _) _ _)); refine stop_here ?_))
  refine ⟨?_⟩
  refine wl_load (cs := d.arr) (fr := (0, 0)) (g := g3) Tryz.underlying35 rfl Kb.info rfl rfl rfl fU3 (Kb.arr_size _) ?_
  go_wp2_with fail
  have hal : asksK d.a 32 = [⟨1, 0, 0, 1, 100, 0⟩] := by
    rw [asksK_first 31 (fun k h0 hk => by rw [HDK.out k h0 hk]; rfl), HD0.out]; rfl
  refine (bkasks_any HK3.out (fun k hk => by
    by_cases h0 : 0 < k
    · rw [HDK.out k h0 hk]; exact Nat.zero_le _
    · obtain rfl : k = 0 := by omega
      rw [HD0.out]; show 1 ≤ 100000; omega)).mono ?_
  rintro e w4 ⟨v4, rfl, ho4, hb4⟩
  rw [hal] at ho4
  obtain ⟨g, o, cap, rfl, _, hc1, hc2, _, hgl, hr⟩ := (Nvs.own ho4).at_ (k := 0) (c := ⟨1, 0, 0, 1, 100, 0⟩) rfl
  have k0 : w4.cell? ⟨g, o, none⟩ = some (.int .u8 1) := hr 0 _ rfl
  have k4 : w4.cell? ⟨g, o + 4, none⟩ = some (.int .i64 100) := hr 4 _ rfl
  have f4 : w4.heap[g3]? = some (.cells d.arr 35 (0, 0)) := below_block hb4 fU3
  have hg3 : g3 < w4.heap.size := (Array.getElem?_eq_some_iff.1 f4).1
  obtain ⟨A1, c1, hv, _⟩ := HK3.out.cs 0 (by omega)
  rw [HD0.out] at hv
  have hop : w4.cell? ⟨g3, 9, none⟩ = some (.slice A1 1 c1) := by
    have := Kb.cell (i := 0) (j := 7) (u := .slice A1 1 c1) f4 (by omega) (by omega) (by rw [HD0.out, hv]; rfl)
    exact this
  have HW4 : Hid (Below w.heap.size w w4) := HU3.out.trans (hb4.mono HU3.out.size)
  clear hb4 ho4 hr hal HK3 fU3 HU3 hv HD0 HDK
  go_wp2
  go_ret
  exact ⟨rfl, HW4.out⟩
end Go.Proofs.YtkdajjbhmmgbkaaGreat
/-
  A slice of paybookref12's acts that comes in: what it reads as. No conditions.
-/
namespace Go.Proofs.YtkdajjbhmmgbkaaGreat
set_option maxRecDepth 20000
open Go.ChangeShapes Go.WideShapes Go.RowKit Go.Deep

/-- An act, by its bytes. -/
structure Ac4 where
  k : Int
  a : Int
  b : Int
  c : Int
def Ac4.cs (p : Ac4) : List Value := [.int .u8 p.k, .int .u8 p.a, .int .u8 p.b, .int .u8 p.c]
/-- An act as it may come in. -/
def Ac4.Wf (p : Ac4) : Prop := (0 ≤ p.k ∧ p.k < 256) ∧ (0 ≤ p.a ∧ p.a < 256) ∧ (0 ≤ p.b ∧ p.b < 256) ∧ (0 ≤ p.c ∧ p.c < 256)
theorem cells_Ac4 {H : Type} {enc : TypeId × Value → H} {W : World} {n : Nat} {cs : List Value} {x : DataW H × List MemPlace} (hl : cs.length = 4) (h : DataW.trod enc Tryz.prog W 0 (fun _ => true) true n 51 cs = some x) :
    ∃ p : Ac4, cs = p.cs ∧ p.Wf := by
  obtain ⟨xs, k, hk, hxy, _, hxl, hff⟩ := DataW.trod_struct Tryz.underlying51 h
  match xs, hxl, cs, hl with
  | [y0, y1, y2, y3], _, [v0, v1, v2, v3], _ =>
    have t0 : DataW.trod enc Tryz.prog W 0 (fun _ => true) true k 5 [v0] = some y0 := hff 0 _ rfl
    have t1 : DataW.trod enc Tryz.prog W 0 (fun _ => true) true k 5 [v1] = some y1 := hff 1 _ rfl
    have t2 : DataW.trod enc Tryz.prog W 0 (fun _ => true) true k 5 [v2] = some y2 := hff 2 _ rfl
    have t3 : DataW.trod enc Tryz.prog W 0 (fun _ => true) true k 5 [v3] = some y3 := hff 3 _ rfl
    obtain ⟨k, e0, _, w0⟩ := DataW.trod_int Tryz.underlying5 t0
    obtain ⟨a, e1, _, w1⟩ := DataW.trod_int Tryz.underlying5 t1
    obtain ⟨b, e2, _, w2⟩ := DataW.trod_int Tryz.underlying5 t2
    obtain ⟨c, e3, _, w3⟩ := DataW.trod_int Tryz.underlying5 t3
    injection e0 with e0; injection e1 with e1; injection e2 with e2; injection e3 with e3
    subst e0 e1 e2 e3
    exact ⟨⟨k, a, b, c⟩, rfl, wf_u8 w0, wf_u8 w1, wf_u8 w2, wf_u8 w3⟩
/-- A slice of acts whose address is A reads as the acts l: in a block below B. -/
def RdAc4 (w : World) (B : Nat) (A : Option Addr) (l : List Ac4) : Prop :=
  ∀ (j : Nat) (p : Ac4), l[j]? = some p → ∃ b o, A = some ⟨b, o, none⟩ ∧ b < B ∧ w.rangeAt b (o + j * 4) p.cs
theorem RdAc4.kept {w w' : World} {B : Nat} {A : Option Addr} {l : List Ac4} (h : RdAc4 w B A l) (hk : ∀ i, i < B → w'.heap[i]? = w.heap[i]?) : RdAc4 w' B A l := fun j p hl => by
  obtain ⟨b, o, h1, h2, h3⟩ := h j p hl
  exact ⟨b, o, h1, h2, fun i v hv => (World.cell?_of_block (a := ⟨b, o + j * 4 + i, none⟩) (hk b h2)).trans (h3 i v hv)⟩
theorem open_Ac4 {H : Type} {enc : TypeId × Value → H} {W : World} {base : Nat} {v : Value} {d : DataW H} {ps : List MemPlace}
    (hval : Value.okWide Tryz.prog W .any base 23 v) (hd : DataW.Trod enc Tryz.prog W 0 (fun _ => true) true 23 v d ps) :
    ∃ A c l, v = .slice A (List.length l) c ∧ l.length ≤ c ∧ c ≤ maxLen ∧ RdAc4 W W.heap.size A l ∧ ∀ p ∈ l, Ac4.Wf p := by
  obtain ⟨a0, n0, c0, rfl⟩ := okWide_slice Tryz.underlying23 hval
  obtain ⟨fuel, hf⟩ := hd
  rcases open_slice Tryz.underlying23 hf with ⟨hcs, _⟩ | ⟨a, len, cap, m, n, D, Pl, hcs, _, hl, hm, hmm, _, hx⟩
  · simp [Value.cells] at hcs
    obtain ⟨rfl, rfl, rfl⟩ := hcs
    exact ⟨none, 0, [], rfl, by simp, by simp, fun j l h => by simp at h, by simp⟩
  · simp [Value.cells] at hcs
    obtain ⟨rfl, rfl, rfl⟩ := hcs
    simp only [if_true] at hmm
    have ce : Tryz.prog.cellsOf 51 = 4 := by kernel_rfl
    have each : ∀ i, i < n0 → ∃ y : Ac4, y.Wf ∧ ∀ (j : Nat) (v : Value), y.cs[j]? = some v → W.cell? (a.add (i * 4 + j)) = some v := by
      intro i hi
      obtain ⟨cs', h1, h2⟩ := hx i (by omega)
      rw [ce] at h1
      obtain ⟨_, hlen, hcell⟩ := World.cells?_some h1
      obtain ⟨p, rfl, hw⟩ := cells_Ac4 hlen h2
      exact ⟨p, hw, fun j v hv => by
        have hj : j < 4 := by
          have := (List.getElem?_eq_some_iff.1 hv).1
          rwa [hlen] at this
        have q := hcell j hj
        rw [add_add] at q
        exact q.trans hv⟩
    haveI : Inhabited Ac4 := ⟨⟨0, 0, 0, 0⟩⟩
    obtain ⟨y, hy⟩ := choose_lt each
    have hlen : ((List.range n0).map y).length = n0 := by simp
    refine ⟨some a, c0, (List.range n0).map y, by rw [hlen], by rw [hlen]; exact hl, hm, fun j x hj => ?_, fun x hx' => ?_⟩
    · obtain ⟨hj1, hj2⟩ := List.getElem?_eq_some_iff.1 hj
      rw [hlen] at hj1
      have hj3 : y j = x := by simpa using hj2
      obtain ⟨_, h1⟩ := hy j hj1
      have hz := (hy 0 (by omega)).2 0 _ rfl
      rw [Nat.zero_mul, ad_zero] at hz
      have hsp := World.cell?_spot hz
      obtain ⟨b, o, sp⟩ := a
      have hsp' : sp = none := hsp
      subst hsp'
      rw [hj3] at h1
      refine ⟨b, o, rfl, World.block_lt_of_cell? W _ hz, fun i v hv => ?_⟩
      have q := h1 i v hv
      rw [add_plain] at q
      rw [Nat.add_assoc]; exact q
    · simp only [List.mem_map, List.mem_range] at hx'
      obtain ⟨r, hr', rfl⟩ := hx'
      exact (hy r hr').1
end Go.Proofs.YtkdajjbhmmgbkaaGreat
/-
  What the laws of a book share: their loop over acts. No conditions but the sizes.
-/
namespace Go.Proofs.YtkdajjbhmmgbkaaGreat
set_option linter.unusedVariables false
set_option linter.unusedSimpArgs false
set_option maxRecDepth 100000
open Go.ChangeShapes Go.WideShapes Go.ChangeAt Go.RowKit

theorem region_frame5 {P : Program} {cd : Code} {Q : Exit → Act → World → Prop} {a : Act} {w : World} (Facts : Nat → Kb → Int → Value → Ov → World → Prop) (fr : Nat → Kb → Int → Value → Ov → Act)
    (h : cd.wp P (fun e a' w' => e = .normal ∧ ∃ Z c x v o, a' = fr Z c x v o ∧ Facts Z c x v o w') a w) (hk : ∀ Z c x v o w', Facts Z c x v o w' → Q .normal (fr Z c x v o) w') : cd.wp P Q a w :=
  wp_mono h (by rintro e a' w' ⟨rfl, Z, c, x, v, o, rfl, hf⟩; exact hk _ _ _ _ _ _ hf)
theorem info4a : (Tryz.prog.info? 51).map (·.size) = some 4 := by kernel_rfl
theorem Kb.range_all {w : World} {B : Nat} {b : Kb} {t : TypeId} {fr : Nat × Nat} (h : w.heap[B]? = some (.cells b.arr t fr)) : w.rangeAt B 0 b.arr.toList := by
  intro j u hu
  rw [cell_of_row _ _ _ _ _ _ h, Nat.zero_add, ← Array.getElem?_toList]
  exact hu
theorem Kb.info_all {b : Kb} : (Tryz.prog.info? 35).map (·.size) = some b.arr.toList.length := by rw [Array.length_toList, Kb.arr_size]; exact Kb.info
theorem PBok.more {M M' L L' td : Int} {a : Nat → Av} {ps : List Pv} (h : PBok M L td a ps) (hm : M ≤ M') (hl : L ≤ L') : PBok M' L' td a ps := ⟨h.day, h.len, h.pok, fun k hk => (h.sub k hk).imp id fun ⟨s, kp, P, g1, g2, g3, g4⟩ => ⟨s, kp, P, g1, g2, g3.more hm hl, g4⟩, h.low⟩
/-- A book that was stepped to, which stands in no block n. -/
def Came (M L : Int) (b : Kb) (o : Ov) (D n : Nat) (c : Kb) (x : Int) (w' : World) : Prop := x = 0 → ∃ ps' b0 c0, D + 1 ≤ b0 ∧ c0 ≤ w'.heap.size ∧ (n < b0 ∨ c0 ≤ n) ∧ KbM w' b0 c0 c ps' ∧ PBok (M + 1100000000) (L + 40) c.td c.a ps' ∧ Apart o b.td b.a c.td c.a
theorem Came.below {M L : Int} {b : Kb} {o : Ov} {D n : Nat} {c : Kb} {x : Int} {w w' : World} (h : Came M L b o D n c x w) (hb : Below w.heap.size w w') : Came M L b o D n c x w' := fun hx => by
  obtain ⟨ps', b0, c0, h1, h2, h3, h4, h5⟩ := h hx
  exact ⟨ps', b0, c0, h1, Nat.le_trans h2 hb.size, h3, h4.below (hb.mono h2), h5⟩
theorem Came.boxed {M L : Int} {b : Kb} {o : Ov} {D n : Nat} {c : Kb} {x : Int} {w : World} {cs : Array Value} {t : TypeId} (h : Came M L b o D n c x w) : x = 0 → ∃ ps', KbM (Go.Proofs.YtkdajjbhmmgbkaaGreat.boxed w n cs t) (D + 1) (Go.Proofs.YtkdajjbhmmgbkaaGreat.boxed w n cs t).heap.size c ps' ∧ PBok (M + 1100000000) (L + 40) c.td c.a ps' ∧ Apart o b.td b.a c.td c.a := fun hx => by
  obtain ⟨ps', b0, c0, h1, h2, h3, h4, h5, h6⟩ := h hx
  exact ⟨ps', (h4.boxed h3).more h1 (by rw [boxed_size]; exact h2), h5, h6⟩
theorem Stepd.came {M L : Int} {W w' : World} {b c : Kb} {o : Ov} {D n : Nat} {x : Int} (h : x = 0 → ∃ ps', KbM w' W.heap.size w'.heap.size c ps' ∧ PBok (M + 1100000000) (L + 40) c.td c.a ps' ∧ Apart o b.td b.a c.td c.a) (hD : D + 1 ≤ W.heap.size) (hn : n < W.heap.size ∨ w'.heap.size ≤ n) : Came M L b o D n c x w' := fun hx => by
  obtain ⟨ps', h1, h2, h3⟩ := h hx
  exact ⟨ps', _, _, hD, Nat.le_refl _, hn, h1, h2, h3⟩
end Go.Proofs.YtkdajjbhmmgbkaaGreat
/-
  The mathematics of numbers as bytes: a number's doubled word, its groups of six bits, and the way back. No conditions but those that each law names. Imports nothing of the program.
-/
namespace Go.Proofs.YtkdajjbhmmgbkaaGreat.Pk

/-- The doubled word of a number, and the number of a word. -/
def zig (n : Int) : Nat := if 0 ≤ n then (2 * n).toNat else (-2 * n - 1).toNat
def zag (u : Nat) : Int := if u % 2 = 1 then -((u / 2 : Nat) : Int) - 1 else ((u / 2 : Nat) : Int)
theorem zig_lt (n : Int) (h0 : -9223372036854775808 ≤ n) (h1 : n ≤ 9223372036854775807) : zig n < 18446744073709551616 := by unfold zig; split <;> omega
theorem zig_even {n : Int} (h : 0 ≤ n) : (zig n : Int) = 2 * n := by unfold zig; rw [if_pos h]; omega
theorem zig_odd {n : Int} (h : n < 0) : (zig n : Int) = -2 * n - 1 := by unfold zig; rw [if_neg (by omega)]; omega

/-- The bytes of a word. -/
def enc (u : Nat) : List Int := if u < 64 then [(u : Int)] else ((u : Int) % 64 + 64) :: enc (u / 64)
termination_by u
decreasing_by omega
theorem enc_less {u : Nat} (h : u < 64) : enc u = [(u : Int)] := by rw [enc, if_pos h]
theorem enc_more {u : Nat} (h : ¬ u < 64) : enc u = ((u : Int) % 64 + 64) :: enc (u / 64) := by rw [enc, if_neg h]
def encs (ns : List Int) : List Int := ns.flatMap fun n => enc (zig n)
theorem encs_nil : encs [] = [] := rfl
theorem encs_cons (n : Int) (r : List Int) : encs (n :: r) = enc (zig n) ++ encs r := by unfold encs; rw [List.flatMap_cons]
theorem encs_append (a b : List Int) : encs (a ++ b) = encs a ++ encs b := by unfold encs; rw [List.flatMap_append]
theorem encs_one (n : Int) : encs [n] = enc (zig n) := by rw [encs_cons, encs_nil, List.append_nil]

theorem enc_range (u : Nat) : ∀ x ∈ enc u, 0 ≤ x ∧ x < 128 := by
  induction u using Nat.strongRecOn with
  | _ u ih =>
    intro x hx
    by_cases h : u < 64
    · rw [enc_less h] at hx; simp at hx; omega
    · rw [enc_more h] at hx
      rcases List.mem_cons.1 hx with rfl | hx
      · omega
      · exact ih (u / 64) (by omega) x hx
theorem enc_len (m : Nat) : ∀ u, u < 64 ^ (m + 1) → (enc u).length ≤ m + 1 := by
  induction m with
  | zero => intro u h; rw [enc_less (by simpa using h)]; simp
  | succ m ih =>
    intro u h
    by_cases g : u < 64
    · rw [enc_less g]; simp
    · rw [enc_more g]
      have := ih (u / 64) (by rw [Nat.pow_succ] at h; omega)
      simp; omega
theorem enc_eleven {u : Nat} (h : u < 18446744073709551616) : (enc u).length ≤ 11 := enc_len 10 u (by
  have e : 64 ^ (10 + 1) = 73786976294838206464 := by decide
  rw [e]; omega)
theorem encs_len (ns : List Int) (h : ∀ n ∈ ns, -9223372036854775808 ≤ n ∧ n ≤ 9223372036854775807) : (encs ns).length ≤ 11 * ns.length := by
  induction ns with
  | nil => simp [encs_nil]
  | cons n r ih =>
    rw [encs_cons, List.length_append, List.length_cons]
    have := ih fun m hm => h m (by simp [hm])
    have := h n (by simp)
    have := enc_eleven (zig_lt n (by omega) (by omega))
    omega

/-- A byte that may not stand at a place. -/
def bad (i : Nat) (c : Int) : Bool := decide (0 < i ∧ c = 0 ∨ 128 ≤ c ∨ i = 10 ∧ 16 ≤ c)
/-- What is taken in by a byte. -/
def take1 (i u : Nat) (c : Int) : Nat := u + (c % 64).toNat * 64 ^ i
/-- The number with which bytes begin, how many it has, and the fault: from place i on, with u ahead. -/
def dec (i u : Nat) : List Int → Int × Nat × Int
  | [] => (0, 0, 5)
  | c :: r => if bad i c = true then (0, 0, 4) else if c < 64 then (zag (take1 i u c), i + 1, 0) else dec (i + 1) (take1 i u c) r
end Go.Proofs.YtkdajjbhmmgbkaaGreat.Pk
