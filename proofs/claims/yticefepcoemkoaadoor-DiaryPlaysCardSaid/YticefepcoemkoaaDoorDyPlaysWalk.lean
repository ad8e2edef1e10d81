/-
  The walk of the law DiaryPlays. Condition: the table holds what the program's text lays.
-/
import Derived.Test.YticefepcoemkoaaDoorDyErrsWalk
import Derived.Deep.Slices
import Derived.Deep.MidRow
namespace Go.Proofs.YticefepcoemkoaaDoor
set_option maxRecDepth 20000
open Go.ChangeShapes Go.WideShapes Go.ChangeAt Go.RowKit

/-- An act on a diary. -/
structure Da where
  k : Int
  p : List Int
def Da.Wf (a : Da) : Prop := (0 ≤ a.k ∧ a.k < 256) ∧ ∀ x ∈ a.p, (Lit.int .u8 x).wf = true
/-- A slice of acts whose address is A reads as l: all in blocks below B. -/
def RdDas (w : World) (B : Nat) (A : Option Addr) (l : List Da) : Prop :=
  ∀ (j : Nat) (a : Da), l[j]? = some a → ∃ b o A' c', A = some ⟨b, o, none⟩ ∧ b < B ∧ w.cell? ⟨b, o + j * 2, none⟩ = some (.int .u8 a.k) ∧ w.cell? ⟨b, o + j * 2 + 1, none⟩ = some (.slice A' a.p.length c') ∧ a.p.length ≤ c' ∧ Rd w .u8 B A' a.p
theorem RdDas.kept {w w' : World} {B : Nat} {A : Option Addr} {l : List Da} (h : RdDas w B A l) (hk : ∀ i, i < B → w'.heap[i]? = w.heap[i]?) : RdDas w' B A l := fun j a hl => by
  obtain ⟨b, o, A', c', h1, h2, h3, h4, h6, h5⟩ := h j a hl
  have e : ∀ x, w'.cell? ⟨b, x, none⟩ = w.cell? ⟨b, x, none⟩ := fun x => World.cell?_of_block (hk b h2)
  exact ⟨b, o, A', c', h1, h2, (e _).trans h3, (e _).trans h4, h6, h5.kept hk⟩

theorem da_bytes {H : Type} {enc : TypeId × Value → H} {W : World} {n : Nat} {v : Value} {x : DataW H × List MemPlace} (h : DataW.trod enc Tryd.prog W 0 (fun _ => true) true n 31 [v] = some x) :
    ∃ A' c' l, v = .slice A' (List.length l) c' ∧ List.length l ≤ c' ∧ Rd W .u8 W.heap.size A' l ∧ ∀ y ∈ l, (Lit.int .u8 y).wf = true := by
  rcases open_ints Tryd.underlying31 Tryd.underlying5 (by kernel_rfl) h with ⟨hcs, _⟩ | ⟨a, len, cap, zs, hcs, _, hl, hm, hz, _, hcell, hw⟩
  · injection hcs with hv _
    exact ⟨none, 0, [], hv, by simp, Rd.none, by simp⟩
  · injection hcs with hv _
    simp only [if_true] at hz
    have hlen : (zs.take len).length = len := by simp; omega
    refine ⟨some a, cap, zs.take len, by rw [hlen]; exact hv, by rw [hlen]; exact hl, fun hne => ⟨a, rfl, ?_, fun j u hu => ?_⟩, fun y hy => hw y (List.mem_of_mem_take hy)⟩
    · have h0 : 0 < zs.length := by
        rcases zs with _ | ⟨x, r⟩
        · simp at hne
        · simp
      have := World.block_lt_of_cell? W _ (hcell 0 h0)
      rwa [ad_block] at this
    · rw [List.getElem?_take] at hu
      split at hu
      · obtain ⟨hj, hju⟩ := List.getElem?_eq_some_iff.1 hu
        rw [hcell j hj]
        simp [List.getD, hu]
      · cases hu

theorem open_das {H : Type} {enc : TypeId × Value → H} {W : World} {base : Nat} {v : Value} {d : DataW H} {ps : List MemPlace}
    (hval : Value.okWide Tryd.prog W .any base 22 v) (hd : DataW.Trod enc Tryd.prog W 0 (fun _ => true) true 22 v d ps) :
    ∃ A c l, v = .slice A (List.length l) c ∧ l.length ≤ c ∧ c ≤ maxLen ∧ RdDas W W.heap.size A l ∧ ∀ a ∈ l, Da.Wf a := by
  obtain ⟨a0, n0, c0, rfl⟩ := okWide_slice Tryd.underlying22 hval
  obtain ⟨fuel, hf⟩ := hd
  rcases Go.Deep.open_slice Tryd.underlying22 hf with ⟨hcs, _⟩ | ⟨a, len, cap, m, n, D, Pl, hcs, _, hl, hm, hmm, _, hx⟩
  · simp [Value.cells] at hcs
    obtain ⟨rfl, rfl, rfl⟩ := hcs
    exact ⟨none, 0, [], rfl, by simp, by simp, fun j l h => by simp at h, by simp⟩
  · simp [Value.cells] at hcs
    obtain ⟨rfl, rfl, rfl⟩ := hcs
    simp only [if_true] at hmm
    have ce : Tryd.prog.cellsOf 34 = 2 := by kernel_rfl
    have each : ∀ i, i < n0 → ∃ y : Da, y.Wf ∧ ∃ A' c', W.cell? (a.add (i * 2)) = some (.int .u8 y.k) ∧ W.cell? (a.add (i * 2 + 1)) = some (.slice A' y.p.length c') ∧ y.p.length ≤ c' ∧ Rd W .u8 W.heap.size A' y.p := by
      intro i hi
      obtain ⟨cs', h1, h2⟩ := hx i (by omega)
      rw [ce] at h1
      obtain ⟨_, hlen, hcell⟩ := World.cells?_some h1
      obtain ⟨xs, k, hk, hxy, _, hxl, hff⟩ := DataW.trod_struct Tryd.underlying34 h2
      match xs, hxl, cs', hlen with
      | [y0, y1], _, [v0, v1], _ =>
        have g0 := hff 0 _ rfl
        have g1 := hff 1 _ rfl
        have t0 : DataW.trod enc Tryd.prog W 0 (fun _ => true) true k 5 [v0] = some y0 := g0
        have t1 : DataW.trod enc Tryd.prog W 0 (fun _ => true) true k 31 [v1] = some y1 := g1
        obtain ⟨z0, e0, _, w0⟩ := DataW.trod_int Tryd.underlying5 t0
        obtain ⟨A', c', l, e1, hcl, hr, hw⟩ := da_bytes t1
        injection e0 with e0 _
        have q0 := hcell 0 (by omega)
        have q1 := hcell 1 (by omega)
        rw [Go.Deep.add_add] at q0 q1
        exact ⟨⟨z0, l⟩, ⟨wf_u8 w0, hw⟩, A', c', by simpa [e0] using q0, by simpa [e1] using q1, hcl, hr⟩
    haveI : Inhabited Da := ⟨⟨0, []⟩⟩
    obtain ⟨y, hy⟩ := Go.Deep.choose_lt each
    have hlen : ((List.range n0).map y).length = n0 := by simp
    refine ⟨some a, c0, (List.range n0).map y, by rw [hlen], by rw [hlen]; exact hl, hm, fun j x hj => ?_, fun x hx' => ?_⟩
    · obtain ⟨hj1, hj2⟩ := List.getElem?_eq_some_iff.1 hj
      rw [hlen] at hj1
      have hj3 : y j = x := by simpa using hj2
      obtain ⟨_, A', c', h1, h2, h5, h3⟩ := hy j hj1
      obtain ⟨_, _, _, hz, _⟩ := hy 0 (by omega)
      rw [Nat.zero_mul, ad_zero] at hz
      have hsp := World.cell?_spot hz
      obtain ⟨b, o, sp⟩ := a
      have hsp' : sp = none := hsp
      subst hsp'
      rw [add_plain] at h1 h2
      rw [hj3] at h1 h2 h3 h5
      exact ⟨b, o, A', c', rfl, World.block_lt_of_cell? W _ h1, h1, by rw [Nat.add_assoc]; exact h2, h5, h3⟩
    · simp only [List.mem_map, List.mem_range] at hx'
      obtain ⟨r, hr', rfl⟩ := hx'
      exact (hy r hr').1

/-- Have the acts few bytes? -/
theorem short_yes (w : World) (B n c : Nat) (A : Option Addr) (l : List Da) (hr : RdDas w B A l) (hn : l.length = n) (h : ∀ a ∈ l, a.p.length ≤ 150) (h30 : n ≤ 30) :
    Calls Tryd.prog 6 #[.slice A n c] w fun e w' => e = .returned (.bool true) ∧ w = w' := by
  have HR := Lib.hid hr
  have HN := Lib.hid hn
  have H := Lib.hid h
  clear hr hn h
  go_enter Tryd.func6, Tryd.ntmps6
  go_wp2
  go_loop [3] (fun t => ∃ j : Nat, j ≤ n ∧ t = .int .i64 j) (fun t => n - (intOf t).toNat)
  case atStart => exact ⟨0, by omega, rfl⟩
  case round =>
    obtain ⟨j, hj, rfl⟩ := hrel
    by_cases hlt : j < n
    · obtain ⟨a, ha⟩ : ∃ a, l[j]? = some a := ⟨l[j]'(by rw [HN.out]; exact hlt), List.getElem?_eq_getElem _⟩
      obtain ⟨b, o, A', c', rfl, hb, _, hc, _, _⟩ := HR.out j a ha
      have hp := H.out a (List.mem_of_getElem? ha)
      generalize a.p.length = q at *
      have d1 : decide ((j : Int) < (n : Int)) = true := by simp; omega
      have d2 : decide ((150 : Int) < (q : Int)) = false := by simp; omega
      clear ha
      go_wp2
      exact ⟨⟨j + 1, by omega, by go_num⟩, by simp [intOf]; omega⟩
    · obtain rfl : j = n := by omega
      have d1 : decide ((j : Int) < (j : Int)) = false := by simp
      have d2 : decide ((j : Int) ≤ 30) = true := by simp; omega
      go_wp2
      go_ret
      exact ⟨rfl, rfl⟩
theorem short_no (w : World) (B n c : Nat) (A : Option Addr) (l : List Da) (hr : RdDas w B A l) (hn : l.length = n) (h : ¬ ((∀ a ∈ l, a.p.length ≤ 150) ∧ n ≤ 30)) (hm : n ≤ maxLen) :
    Calls Tryd.prog 6 #[.slice A n c] w fun e w' => e = .returned (.bool false) ∧ w = w' := by
  have hm2 : (n : Int) ≤ 281474976710656 * 32768 - 1 := by unfold maxLen at hm; omega
  clear hm
  have HR := Lib.hid hr
  have HN := Lib.hid hn
  have H := Lib.hid h
  clear hr hn h
  go_enter Tryd.func6, Tryd.ntmps6
  go_wp2
  go_loop [3] (fun t => ∃ j : Nat, j ≤ n ∧ t = .int .i64 j ∧ Hid (∀ a ∈ l.take j, a.p.length ≤ 150)) (fun t => n - (intOf t).toNat)
  case atStart => exact ⟨0, by omega, rfl, Lib.hid (fun a ha => by simp at ha)⟩
  case round =>
    obtain ⟨j, hj, rfl, HJ⟩ := hrel
    by_cases hlt : j < n
    · obtain ⟨a, ha⟩ : ∃ a, l[j]? = some a := ⟨l[j]'(by rw [HN.out]; exact hlt), List.getElem?_eq_getElem _⟩
      have HA := Lib.hid ha
      obtain ⟨b, o, A', c', rfl, hb, _, hc, _, _⟩ := HR.out j a ha
      have d1 : decide ((j : Int) < (n : Int)) = true := by simp; omega
      obtain ⟨q, hq⟩ : ∃ q, a.p.length = q := ⟨_, rfl⟩
      have HQ := Lib.hid hq
      rw [hq] at hc
      clear ha hq
      by_cases hbig : 150 < q
      · have d2 : decide ((150 : Int) < (q : Int)) = true := by simp; omega
        go_wp2
        go_ret
        exact ⟨rfl, rfl⟩
      · have d2 : decide ((150 : Int) < (q : Int)) = false := by simp; omega
        have HJ2 : Hid (∀ x ∈ l.take (j + 1), x.p.length ≤ 150) := fun x hx => by
          rw [List.take_add_one, HA.out] at hx
          rcases List.mem_append.1 hx with hx | hx
          · exact HJ.out x hx
          · rw [Option.toList_some, List.mem_singleton] at hx; subst hx; rw [HQ.out]; omega
        go_wp2
        exact ⟨⟨j + 1, by omega, by go_num, HJ2⟩, by simp [intOf]; omega⟩
    · obtain rfl : j = n := by omega
      have d1 : decide ((j : Int) < (j : Int)) = false := by simp
      have h30 : 30 < j := by
        rcases Nat.lt_or_ge 30 j with h | h
        · exact h
        · exact absurd ⟨by have := HJ.out; rwa [List.take_of_length_le (by rw [HN.out]; exact Nat.le_refl _)] at this, h⟩ H.out
      have d2 : decide ((j : Int) ≤ 30) = false := by simp; omega
      go_wp2
      go_ret
      exact ⟨rfl, rfl⟩

/-- A row of slices, by its cells. -/
theorem row_at {w : World} {base n c j : Nat} {A : Option Addr} {vs : List Value} {I : Nat → Prop} {es : List (List Int)} {x : List Int} (ho : w.ownsRow base 31 1 (.slice A n c) n vs) (he : Ents w I vs es) (hn : es.length = n) (hx : es[j]? = some x) :
    ∃ q A' c', A = some ⟨q, 0, none⟩ ∧ n ≤ c ∧ base ≤ q ∧ q < w.heap.size ∧ w.cell? ⟨q, j, none⟩ = some (.slice A' x.length c') ∧ RdI w I A' x := by
  have hj := (List.getElem?_eq_some_iff.1 hx).1
  obtain ⟨A', c', hv, _, hr⟩ := he.at_ j x hx
  have hvl : vs.length = es.length := he.len
  obtain ⟨q, cap, cur, hs, h1, h2, h3, _, hc⟩ := own_at ho (j := j) (by omega) (by omega)
  injection hs with hA _ hc'
  subst hA hc'
  rw [List.getElem?_eq_getElem (by omega)] at hv
  injection hv with hv
  rw [hv] at hc
  exact ⟨q, A', c', rfl, h1, h2, h3, hc, hr⟩

set_option maxHeartbeats 4000000 in
theorem told_any {w0 : World} {M : Nat → Prop} {w : World} {d g m S n p1 p2 age : Nat} {fs : List Int} {es : List (List Int)} {lo : List Int} {f : Nat → List Int} {st : Pl.St} {N I E : Nat → Prop} (h : DyM w0 M w d g m S n p1 p2 age fs es lo f st N I E)
    (A1 A2 : Option Addr) (c1 n1 B1 c2 n2 base : Nat) (vs : List Value) (hr1 : Rd w .u8 B1 A1 fs) (hB1 : B1 ≤ w.heap.size) (hn1 : fs.length = n1) (ho : w.ownsRow base 31 1 (.slice A2 n2 c2) n2 vs) (hl : Ents w (fun i => i < B1) vs es) (hn2 : es.length = n2) :
    Calls Tryd.prog 11 #[.pointer (some ⟨d, 0, none⟩), .slice A1 n1 c1, .slice A2 n2 c2] w fun e w' => e = .returned (.bool true) ∧ Below w.heap.size w w' := by
  have hn5 : n2 ≤ 5000 := by rw [← hn2]; exact h.sizes.2.1
  have H := Lib.hid h
  have HR1 := Lib.hid hr1
  have HO := Lib.hid ho
  have HL := Lib.hid hl
  have HN1 := Lib.hid hn1
  have HN2 := Lib.hid hn2
  clear h hr1 ho hl hn1 hn2
  go_enter Tryd.func11, Tryd.ntmps11
  go_wp2_with (fail)
  refine (dy_entries H.out).mono ?_
  rintro e w1 ⟨Ag, cg, vg, rfl, hog, heg, hb1⟩
  rw [HN2.out] at hog ⊢
  have HB1 := Lib.hid hb1
  have HD1 := Lib.hid (H.out.below hb1)
  have HOG := Lib.hid hog
  have HEG := Lib.hid heg
  clear hog heg hb1
  go_wp2
  refine lane_start (ord := [0, 3, 4, 1, 2, 5, 6, 7, 8, 9, 10, 11, 12]) (S := fun w' => (convert 31 9 (.slice A1 n1 c1)).run Tryd.prog w' = .ok (.string (bst fs)) w') rfl (by kernel_rfl) (conv_len _ A1 B1 c1 n1 fs ((HR1.out.below (HB1.out.mono hB1)).kept fun _ _ => rfl) HN1.out) (fun hHeld => ?_)
  repeat (first
    | (refine lane_take (v := ?_) rfl (by kernel_rfl) (by kernel_rfl) (by rfl) ?_ (by assumption) ?_; rotate_left; (focus (intro w hSw; (try dsimp only at hSw); go_simp; try (with_reducible rfl))); simp only [Act.put, List.setIfInBounds_toArray, List.set_cons_zero, List.set_cons_succ]))
  refine lane_alone rfl (by kernel_rfl) (by rfl) (fun K hK => ?_)
  go_simp
  refine (dy_first (HD1.out.below ((Below.refl _ w1).drew))).mono ?_
  intro e w4 hO
  obtain ⟨A4, c4, rfl, HO4, HB4', HR4, _, _⟩ := hO.open_n n1 HN1.out
  have HB4 : Hid (Below w1.heap.size w1 w4) := ((Below.refl _ w1).drew).trans HB4'.out
  have HW4 : Hid (Below w.heap.size w w4) := HB1.out.trans (HB4.out.mono HB1.out.size)
  have hcv1 := conv_len w4 A1 B1 c1 n1 fs (HR1.out.below (HW4.out.mono hB1)) HN1.out
  have hcv4 := conv_len w4 A4 _ c4 n1 fs HR4.out HN1.out
  clear hO HO4 HB4' HR4
  refine hK _ _ hcv1 (fun hHeld => ?_)
  clear hK K
  refine lane_alone rfl (by kernel_rfl) (by rfl) (fun K hK => ?_)
  go_simp
  refine hK _ _ hcv1 (fun hHeld => ?_)
  clear hK K
  repeat (first
    | (refine lane_take (v := ?_) rfl (by kernel_rfl) (by kernel_rfl) (by rfl) ?_ (by assumption) ?_; rotate_left; (focus (intro w hSw; (try dsimp only at hSw); go_simp; try (with_reducible rfl))); simp only [Act.put, List.setIfInBounds_toArray, List.set_cons_zero, List.set_cons_succ]))
  refine lane_end (by kernel_rfl) ?_
  clear hcv1 hcv4 hHeld
  go_wp2
  go_loopw [8] (fun t wr => ∃ j : Nat, j ≤ n2 ∧ t = .int .i64 j ∧ Hid (Below w4.heap.size w4 wr)) (fun t _ => n2 - (intOf t).toNat)
  case atStart => exact ⟨0, by omega, rfl, Below.refl _ _⟩
  case round =>
    obtain ⟨j, hj, rfl, HW⟩ := hrel
    have h4 : w1.heap.size ≤ w4.heap.size := HB4.out.size
    have h14 : Below w1.heap.size w1 wr := HB4.out.trans (HW.out.mono h4)
    have hww : Below w.heap.size w wr := HW4.out.trans (HW.out.mono HW4.out.size)
    have HWW := Lib.hid hww
    by_cases hlt : j < n2
    · have d1 : decide ((j : Int) < (n2 : Int)) = true := by simp; omega
      obtain ⟨x, hx⟩ : ∃ x, es[j]? = some x := ⟨es[j]'(by rw [HN2.out]; exact hlt), List.getElem?_eq_getElem _⟩
      obtain ⟨qg, Ax, cx, rfl, hcg, _, hqg, hcellg, hrg⟩ := row_at HOG.out HEG.out HN2.out hx
      obtain ⟨ql, Ay, cy, rfl, hcl, _, hql, hcelll, hrl⟩ := row_at HO.out HL.out HN2.out hx
      have hg1 : wr.cell? ⟨qg, j, none⟩ = some (.slice Ax x.length cx) := (World.cell?_of_block (a := ⟨qg, j, none⟩) (h14.block _ hqg)).trans hcellg
      have hl1 : wr.cell? ⟨ql, j, none⟩ = some (.slice Ay x.length cy) := (World.cell?_of_block (a := ⟨ql, j, none⟩) (hww.block _ hql)).trans hcelll
      have hv1 := conv_len wr.drew Ax _ cx x.length x ((hrg.1.below h14).kept fun _ _ => rfl) rfl
      have hv2 := conv_len wr.drew Ay _ cy x.length x ((hrl.1.below hww).kept fun _ _ => rfl) rfl
      clear hcellg hcelll hrg hrl h14 hww hx
      generalize x.length = nx at *
      go_wp2
      refine lane_start (ord := [0, 1, 2, 3, 4, 5, 6, 7, 8, 9, 10]) (S := fun w' => w'.cell? ⟨qg, j, none⟩ = some (.slice Ax nx cx) ∧ w'.cell? ⟨ql, j, none⟩ = some (.slice Ay nx cy) ∧ (convert 31 9 (.slice Ax nx cx)).run Tryd.prog w' = .ok (.string (bst x)) w' ∧ (convert 31 9 (.slice Ay nx cy)).run Tryd.prog w' = .ok (.string (bst x)) w') rfl (by kernel_rfl) ⟨hg1, hl1, hv1, hv2⟩ (fun hHeld => ?_)
      repeat (first
        | (refine lane_take (v := ?_) rfl (by kernel_rfl) (by kernel_rfl) (by rfl) ?_ (by assumption) ?_; rotate_left; (focus (intro w hSw; obtain ⟨hS1, hS2, hS3, hS4⟩ := hSw; (try dsimp only at hS1 hS2 hS3 hS4); go_simp; try (with_reducible rfl))); simp only [Act.put, List.setIfInBounds_toArray, List.set_cons_zero, List.set_cons_succ]))
      refine lane_end (by kernel_rfl) ?_
      clear hHeld hg1 hl1 hv1 hv2
      have HW2 : Hid (Below w4.heap.size w4 wr.drew) := HW.out.drew
      go_wp2
      go_roundw
      case rel => exact ⟨j + 1, by omega, by go_num, HW2⟩
      case measure => simp [intOf]; omega
    · obtain rfl : j = n2 := by omega
      have d1 : decide ((j : Int) < (j : Int)) = false := by simp
      go_wp2
      go_ret
      exact ⟨rfl, HWW.out⟩

section
variable {w0 : World} {M : Nat → Prop} {w w' : World} {d g m S n p1 p2 age : Nat} {fs : List Int} {es : List (List Int)} {lo : List Int} {f : Nat → List Int} {st : Pl.St} {N I E : Nat → Prop}
theorem DyM.mono {m' : Nat} (h : DyM w0 M w d g m S n p1 p2 age fs es lo f st N I E) (hm : m ≤ m') (hm' : m' ≤ 40000) : DyM w0 M w d g m' S n p1 p2 age fs es lo f st N I E :=
  ⟨h.live.mono hm (by omega), h.sees, h.dry, h.lt, h.dic, h.own, h.mine, h.ent, h.apart, h.pure, hm'⟩
end

/-- A diary, and what the law has of it: what was at first, and the entries, in rows of its own. -/
structure Pst (w w1 wr : World) (g s nh jm d ag q n1 n2 c2 : Nat) (A1 A2 : Option Addr) (p1 p2 : Nat) (fs : List Int) (es : List (List Int)) (lo : List Int) (vs : List Value) (f : Nat → List Int) (st : Pl.St) (N I E : Nat → Prop) (es' : List (List Int)) : Prop where
  dy : DyM w1 (fun i => (Value.slice A2 n2 c2).ownBlock = some i) wr d g jm s nh p1 p2 ag fs es' lo f st N I E
  len : (Sl.log ag 0 (fs :: es')).length = q
  seat : Seat nh p1 p2
  old : Old ag lo
  rd : Rd wr .u8 w.heap.size A1 fs
  n1 : fs.length = n1
  row : wr.ownsRow w1.heap.size 31 1 (.slice A2 n2 c2) n2 vs
  ents : Ents wr (fun i => i < w.heap.size) vs es
  n2 : es.length = n2
def Pt (w w1 wr : World) (g s nh jm d ag q n1 n2 c2 : Nat) (A1 A2 : Option Addr) : Prop :=
  ∃ p1 p2 fs es lo vs f st N I E, Pst w w1 wr g s nh jm d ag q n1 n2 c2 A1 A2 p1 p2 fs es lo vs f st N I E es

section
variable {w w1 wr wx : World} {g s nh jm d ag q n1 n2 c2 : Nat} {A1 A2 : Option Addr} {p1 p2 : Nat} {fs : List Int} {es es' : List (List Int)} {lo : List Int} {vs : List Value} {f : Nat → List Int} {st : Pl.St} {N I E : Nat → Prop}
theorem Pst.below (h : Pst w w1 wr g s nh jm d ag q n1 n2 c2 A1 A2 p1 p2 fs es lo vs f st N I E es') (hw : w.heap.size ≤ w1.heap.size) (hb : Below wr.heap.size wr wx) : Pst w w1 wx g s nh jm d ag q n1 n2 c2 A1 A2 p1 p2 fs es lo vs f st N I E es' := by
  have hs := h.dy.live.old.size
  exact ⟨h.dy.below hb, h.len, h.seat, h.old, h.rd.below (hb.mono (by omega)), h.n1, own_kept h.row fun i hi => hb.block i (h.row.lt i hi).2, h.ents.kept (fun i hi _ => hb.block i (by omega)) hb.size, h.n2⟩
/-- Behind an act of the diary's own. -/
theorem Pst.act {jm' d' q' : Nat} {es2 : List (List Int)} {f' : Nat → List Int} {st' : Pl.St} {N' I' E' : Nat → Prop} (h : Pst w w1 wr g s nh jm d ag q n1 n2 c2 A1 A2 p1 p2 fs es lo vs f st N I E es') (hw : w.heap.size ≤ w1.heap.size)
    (hk : Kept w1 (fun i => (Value.slice A2 n2 c2).ownBlock = some i) wr wx) (hd : DyM w1 (fun i => (Value.slice A2 n2 c2).ownBlock = some i) wx d' g jm' s nh p1 p2 ag fs es2 lo f' st' N' I' E') (hq : (Sl.log ag 0 (fs :: es2)).length = q') :
    Pst w w1 wx g s nh jm' d' ag q' n1 n2 c2 A1 A2 p1 p2 fs es lo vs f' st' N' I' E' es2 := by
  have hs := h.dy.live.old.size
  exact ⟨hd, hq, h.seat, h.old, h.rd.kept fun i hi => hk.old i (by omega), h.n1, own_kept h.row fun i hi => hk.block i hi, h.ents.kept (fun i hi _ => hk.old i (by omega)) hk.size, h.n2⟩
theorem Pt.below (h : Pt w w1 wr g s nh jm d ag q n1 n2 c2 A1 A2) (hw : w.heap.size ≤ w1.heap.size) (hb : Below wr.heap.size wr wx) : Pt w w1 wx g s nh jm d ag q n1 n2 c2 A1 A2 := by
  obtain ⟨p1, p2, fs, es, lo, vs, f, st, N, I, E, h⟩ := h
  exact ⟨p1, p2, fs, es, lo, vs, f, st, N, I, E, h.below hw hb⟩
theorem Pt.mono {jm' : Nat} (h : Pt w w1 wr g s nh jm d ag q n1 n2 c2 A1 A2) (hm : jm ≤ jm') (hm' : jm' ≤ 40000) : Pt w w1 wr g s nh jm' d ag q n1 n2 c2 A1 A2 := by
  obtain ⟨p1, p2, fs, es, lo, vs, f, st, N, I, E, h⟩ := h
  exact ⟨p1, p2, fs, es, lo, vs, f, st, N, I, E, h.dy.mono hm hm', h.len, h.seat, h.old, h.rd, h.n1, h.row, h.ents, h.n2⟩
theorem Pt.old (h : Pt w w1 wr g s nh jm d ag q n1 n2 c2 A1 A2) : Below w1.heap.size w1 wr := by
  obtain ⟨p1, p2, fs, es, lo, vs, f, st, N, I, E, h⟩ := h
  exact h.dy.live.old
theorem Pt.le (h : Pt w w1 wr g s nh jm d ag q n1 n2 c2 A1 A2) : q ≤ nh * 64 ∧ n2 ≤ 5000 := by
  obtain ⟨p1, p2, fs, es, lo, vs, f, st, N, I, E, h⟩ := h
  exact ⟨by rw [← h.len]; exact h.dy.pure.len, by rw [← h.n2]; exact h.dy.sizes.2.1⟩
theorem pt_told (h : Pt w w1 wr g s nh jm d ag q n1 n2 c2 A1 A2) (hw : w.heap.size ≤ w1.heap.size) (c1 : Nat) :
    Calls Tryd.prog 11 #[.pointer (some ⟨d, 0, none⟩), .slice A1 n1 c1, .slice A2 n2 c2] wr fun e w' => e = .returned (.bool true) ∧ Below wr.heap.size wr w' := by
  obtain ⟨p1, p2, fs, es, lo, vs, f, st, N, I, E, h⟩ := h
  have hs := h.dy.live.old.size
  exact told_any h.dy A1 A2 c1 n1 w.heap.size c2 n2 _ vs h.rd (by omega) h.n1 h.row h.ents h.n2
theorem pt_age (h : Pt w w1 wr g s nh jm d ag q n1 n2 c2 A1 A2) (z : Int) (hz : z = ag) :
    Calls Tryd.prog 12 #[.pointer (some ⟨d, 0, none⟩)] wr fun e w' => e = .returned (.int .i64 z) ∧ wr = w' := by
  subst hz
  obtain ⟨p1, p2, fs, es, lo, vs, f, st, N, I, E, h⟩ := h
  exact dy_age h.dy
theorem pt_left (h : Pt w w1 wr g s nh jm d ag q n1 n2 c2 A1 A2) (z : Int) (hz : z = (nh : Int) * 64 - q) :
    Calls Tryd.prog 13 #[.pointer (some ⟨d, 0, none⟩)] wr fun e w' => e = .returned (.int .i64 z) ∧ Below wr.heap.size wr w' := by
  have hq := h.le
  obtain ⟨p1, p2, fs, es, lo, vs, f, st, N, I, E, h⟩ := h
  have := dy_left h.dy h.len
  rwa [show ((nh * 64 - q : Nat) : Int) = z by omega] at this
/-- It is opened anew. -/
theorem pt_open (h : Pt w w1 wr g s nh jm d ag q n1 n2 c2 A1 A2) (hw : w.heap.size ≤ w1.heap.size) (hn : s / 2 = nh) (ht : Lines w1) (hm : jm + 200 ≤ 40000) :
    Calls Tryd.prog 8 #[.pointer (some ⟨g, 0, none⟩)] wr fun e w' => ∃ d', e = .returned (.tuple #[.pointer (some ⟨d', 0, none⟩), .int .i64 0]) ∧ Pt w w1 w' g s nh (jm + 200) d' ag q n1 n2 c2 A1 A2 := by
  obtain ⟨p1, p2, fs, es, lo, vs, f, st, N, I, E, h⟩ := h
  refine (dy_open h.dy h.old h.seat hn ht hm).mono ?_
  rintro e w' ⟨d', he, hk, f', st', N', I', E', hd⟩
  exact ⟨d', he, p1, p2, fs, es, lo, vs, f', st', N', I', E', h.act hw hk hd h.len⟩
/-- It begins anew. -/
theorem pt_start (h : Pt w w1 wr g s nh jm d ag q n1 n2 c2 A1 A2) (hw : w.heap.size ≤ w1.heap.size) (A : Option Addr) (nb c : Nat) (b : List Int) (hr : Rd wr .u8 w.heap.size A b) (hb : BytesOk b) (hn : b.length = nb) (hb0 : nb ≤ 1000) (ha : ag + 1 < 1000000) (ht : Lines w1) (hm : jm + 600 ≤ 40000) :
    Calls Tryd.prog 10 #[.pointer (some ⟨d, 0, none⟩), .slice A nb c] wr fun e w' =>
      (16 + nb ≤ nh * 64 ∧ e = .returned (.int .i64 0) ∧ Pt w w1 w' g s nh (jm + 600) d (ag + 1) (16 + nb) nb 0 0 A none) ∨ (nh * 64 < 16 + nb ∧ e = .returned (.int .i64 3) ∧ Pt w w1 w' g s nh jm d ag q n1 n2 c2 A1 A2) := by
  obtain ⟨p1, p2, fs, es, lo, vs, f, st, N, I, E, h⟩ := h
  have hs := h.dy.live.old.size
  have hrk : RdK w1 (fun i => (Value.slice A2 n2 c2).ownBlock = some i) wr A b := ⟨hr.more (by omega), fun hne a e => .inr (by
    obtain ⟨a', e', h1, _⟩ := hr hne
    rw [e] at e'; injection e' with e'; subst e'
    omega)⟩
  refine (dy_start h.dy A nb c b hrk hb hn hb0 ha ht hm).mono ?_
  rintro e w' ⟨hk, ⟨h1, h2, f', st', N', I', E', hd⟩ | ⟨h1, h2, hd⟩⟩
  · refine .inl ⟨h1, h2, p2, p1, b, [], _, [], f', st', N', I', E', hd.less (fun i hi => by cases hi), by simp [Sl.log, Sl.closed_len, hn], ?_, ?_, hr.kept fun i hi => hk.old i (by omega), hn, World.ownsRow_nil _ _ _ _, Ents.nil _ _, rfl⟩
    · rcases h.seat with ⟨h3, h4⟩ | ⟨h3, h4⟩
      · exact .inr ⟨h4, h3⟩
      · exact .inl ⟨h4, h3⟩
    · exact .inr ⟨ag, fs, es, Nat.lt_succ_self _, rfl, h.dy.pure.bytes⟩
  · exact .inr ⟨h1, h2, p1, p2, fs, es, lo, vs, f, st, N, I, E, h.act hw hk hd h.len⟩
/-- One entry more: ahead of the law's own list. -/
theorem pt_add (h : Pt w w1 wr g s nh jm d ag q n1 n2 c2 A1 A2) (hw : w.heap.size ≤ w1.heap.size) (A : Option Addr) (nb c : Nat) (b : List Int) (hr : Rd wr .u8 w.heap.size A b) (hb : BytesOk b) (hn : b.length = nb) (hb0 : nb ≤ 1000) (ht : Lines w1) (hm : jm + 200 ≤ 40000) :
    Calls Tryd.prog 9 #[.pointer (some ⟨d, 0, none⟩), .slice A nb c] wr fun e w' =>
      (q + (16 + nb) ≤ nh * 64 ∧ e = .returned (.int .i64 0) ∧ Rd w' .u8 w.heap.size A b ∧ ∃ p1 p2 fs es lo vs f st N I E, Pst w w1 w' g s nh (jm + 200) d ag (q + (16 + nb)) n1 n2 c2 A1 A2 p1 p2 fs es lo vs f st N I E (es ++ [b])) ∨ (nh * 64 < q + (16 + nb) ∧ e = .returned (.int .i64 3) ∧ Pt w w1 w' g s nh jm d ag q n1 n2 c2 A1 A2) := by
  obtain ⟨p1, p2, fs, es, lo, vs, f, st, N, I, E, h⟩ := h
  have hs := h.dy.live.old.size
  have hrk : RdK w1 (fun i => (Value.slice A2 n2 c2).ownBlock = some i) wr A b := ⟨hr.more (by omega), fun hne a e => .inr (by
    obtain ⟨a', e', h1, _⟩ := hr hne
    rw [e] at e'; injection e' with e'; subst e'
    omega)⟩
  refine (dAdd_any w1 _ wr d g jm s nh p1 p2 ag fs es lo f st N I E A nb c b h.dy hrk hb hn hb0 ht hm).mono ?_
  rintro e w' ⟨hk, ⟨h1, h2, f', st', N', I', E', hd⟩ | ⟨h1, h2, N', hd⟩⟩
  · rw [h.len] at h1
    refine .inl ⟨h1, h2, hr.kept fun i hi => hk.old i (by omega), p1, p2, fs, es, lo, vs, f', st', N', I', E', h.act hw hk hd ?_⟩
    rw [← List.cons_append, Sl.log_snoc, List.length_append, h.len, Sl.closed_len, hn]
  · rw [h.len] at h1
    exact .inr ⟨h1, h2, p1, p2, fs, es, lo, vs, f, st, N', I, E, h.act hw hk hd h.len⟩
/-- The law's own list, with the entry. -/
theorem Pst.listed {A A3 : Option Addr} {nb c c3 : Nat} {b : List Int} (h : Pst w w1 wr g s nh jm d ag q n1 n2 c2 A1 A2 p1 p2 fs es lo vs f st N I E (es ++ [b])) (hw : w.heap.size ≤ w1.heap.size) (hr : Rd wr .u8 w.heap.size A b) (hn : b.length = nb) (hc : nb ≤ c)
    (hb : Below wr.heap.size wr wx) (ho : wx.ownsRow wr.heap.size 31 1 (.slice A3 (n2 + 1) c3) (n2 + 1) (vs ++ [.slice A nb c])) : Pt w w1 wx g s nh jm d ag q n1 (n2 + 1) c3 A1 A3 := by
  have hs := h.dy.live.old.size
  subst hn
  refine ⟨p1, p2, fs, es ++ [b], lo, _, f, st, _, I, E, (h.dy.more hb).less (fun i hi => .inr (ho.lt i hi)), h.len, h.seat, h.old, h.rd.below (hb.mono (by omega)), h.n1, own_base ho hs, ?_, by rw [List.length_append, h.n2]; rfl⟩
  refine (h.ents.kept (fun i hi _ => hb.block i (by omega)) hb.size).snoc hc ⟨(hr.below (hb.mono (by omega))).more (by have := hb.size; omega), fun hne a e => ?_⟩
  obtain ⟨a', e', h1, _⟩ := hr hne
  rw [e] at e'; injection e' with e'; subst e'
  exact h1
end

/-- 'append(nil, row...)': a row of the call's own. -/
theorem run_copy_row {w : World} {base n : Nat} {v : Value} {vs : List Value} (h : w.ownsRow base 31 1 v n vs) (h1 : ∀ u ∈ vs, u.oneCell' = true) (hn : n ≤ 5000) :
    ∃ A c w', (Builtin.append_ #[32, 32] 32 #[.slice none 0 0, v]).run Tryd.prog w = .ok (.slice A n c) w' ∧ w'.ownsRow w.heap.size 31 1 (.slice A n c) n vs ∧ Below w.heap.size w w' := by
  obtain ⟨i, hi, hz, hsize, hby⟩ := info_parts rowinfo2
  rcases h.2 with ⟨rfl, rfl⟩ | ⟨q, cap, cur, rfl, _⟩
  · have hx : vs = [] := List.eq_nil_of_length_eq_zero (by have := h.1; simpa using this)
    subst hx
    refine ⟨none, 0, w, ?_, World.ownsRow_nil _ _ _ _, Below.refl _ _⟩
    simp [Builtin.append_, run_underlying Tryd.underlying32, sizeOf, typeInfo, hi, Builtin.lenOf, Builtin.firstCells]
  · obtain ⟨v', w', hrun, h2, h3, _, _⟩ := run_append_own_at (P := Tryd.prog) (w := w) w.heap.size 32 32 31 i _ 1 24 Tryd.underlying32 hi hz hsize hby rfl (by decide) (.slice none 0 0) 0 [] (World.ownsRow_nil _ _ _ _) ⟨q, 0, none⟩ n cap vs h.1 (fun j u hu => h.cells (g := q) rfl j u hu) h1 (by unfold maxLen; omega) (by omega) (Nat.le_refl _)
    rw [Nat.zero_add, List.nil_append] at h2
    obtain ⟨A, c, rfl, _, _⟩ := own_form h2
    exact ⟨A, c, w', hrun, h2, ⟨h3.os, h3.tape, h3.output, h3.size, fun i hi => h3.block i hi (by simp [Value.ownBlock])⟩⟩
theorem wpList_copy_row {w : World} {ops : Array Oper} {rest : List Oper} {o : Oper} {a : Act} {Q : Exit → Act → World → Prop} (hgd : o.guard = none) (s x : Operand)
    (ho : o.op = .call { callee := .builtin .append, args := #[s, x], argTypes := #[32, 32] }) (hty : o.type = 32) (base n : Nat) (v : Value) (vs : List Value) (hs : a.eval s = .slice none 0 0) (hx : a.eval x = v)
    (h : w.ownsRow base 31 1 v n vs) (h1 : ∀ u ∈ vs, u.oneCell' = true) (hn : n ≤ 5000)
    (hK : ∀ A c w', w'.ownsRow w.heap.size 31 1 (.slice A n c) n vs → Below w.heap.size w w' → wpList Tryd.prog ops Q rest (a.put o.dst (.slice A n c)) w') : wpList Tryd.prog ops Q (o :: rest) a w := by
  refine wpList_plain hgd fun K hK' => ?_
  obtain ⟨A, c, w', hrun, h2, h3⟩ := run_copy_row h h1 hn
  unfold Oper.wp execOp
  simp only [ho, resolve, invoke, builtin, Sem.run_bind, Sem.run_pure, Result.andThen_ok, List.map_toArray, List.map_cons, List.map_nil, hs, hx, hty, hrun]
  exact hK' _ _ (hK A c w' h2 h3)
/-- One slice more. -/
theorem wpList_append_slice {w : World} {ops : Array Oper} {rest : List Oper} {o : Oper} {a : Act} {Q : Exit → Act → World → Prop} (hgd : o.guard = none) (s x : Operand)
    (ho : o.op = .call { callee := .builtin .append, args := #[s, x], argTypes := #[32, 32] })
    (base : Nat) (v : Value) (N : Nat) (vs : List Value) (u : Value) (hu : u.oneCell' = true) (ad : Addr) (hsv : a.eval s = v) (hx : a.eval x = .slice (some ad) 1 1) (hown : w.ownsRow base 31 1 v N vs)
    (hc : ∀ j y, [u][j]? = some y → w.cell? (ad.add j) = some y) (hN : N ≤ 5000) (hbase : base ≤ w.heap.size)
    (h : ∀ A c w', w'.ownsRow base 31 1 (.slice A (N + 1) c) (N + 1) (vs ++ [u]) → w.grownBy w' v.ownBlock → wpList Tryd.prog ops Q rest (a.put o.dst (.slice A (N + 1) c)) w') : wpList Tryd.prog ops Q (o :: rest) a w := by
  obtain ⟨it, hi0, hi1, hi2, hi3⟩ := info_parts rowinfo2
  refine wpList_append_own_at (P := Tryd.prog) w hgd s x 32 ho base 31 it _ 1 24 Tryd.underlying32 hi0 hi1 hi2 hi3 rfl (by decide) v N vs hsv hown ad 1 1 [u] hx rfl hc (fun y hy => by rw [List.mem_singleton] at hy; subst hy; exact hu) (by unfold maxLen; omega) (by omega) hbase (fun v' w' h1 h2 _ h4 => ?_)
  obtain ⟨A, c, rfl, _, _⟩ := own_form h1
  exact h A c w' h1 h2
theorem ents_one {w : World} {I : Nat → Prop} {vs : List Value} {es : List (List Int)} (h : Ents w I vs es) : ∀ u ∈ vs, u.oneCell' = true := by
  intro u hu
  obtain ⟨j, hj, rfl⟩ := List.getElem_of_mem hu
  obtain ⟨A, c, h1, _⟩ := h.at_ j (es[j]'(by rw [← h.len]; exact hj)) (List.getElem?_eq_getElem _)
  rw [List.getElem?_eq_getElem hj] at h1
  injection h1 with h1
  rw [h1]; rfl
theorem grown_under {a w : World} {row : Option Nat} (h : a.grownBy w row) {b : Nat} (hr : ∀ i, row = some i → b ≤ i) (hs : b ≤ a.heap.size) : Below b a w :=
  ⟨h.os, h.tape, h.output, h.size, fun i hi => h.block i (by omega) fun e => by have := hr i e.symm; omega⟩

theorem diaryPlays_no (x : Int) (A : Option Addr) (n c : Nat) (l : List Da) (w : World) (ht : Lines w) (hr : RdDas w w.heap.size A l) (hn : l.length = n) (hm : n ≤ maxLen) (h : ¬ ((∀ a ∈ l, a.p.length ≤ 150) ∧ n ≤ 30)) :
    Calls Tryd.prog 3 #[.int .u8 x, .slice A n c] w fun e w' => e = .returned (.bool true) ∧ Below w.heap.size w w' := by
  have HT := Lib.hid ht
  have HR := Lib.hid hr
  have HN := Lib.hid hn
  have HM := Lib.hid hm
  have H := Lib.hid h
  clear ht hr hn hm h
  go_enter Tryd.func3, Tryd.ntmps3
  go_wp2_with (fail)
  refine (awake_any _ HT.out).mono ?_
  rintro e w1 ⟨rfl, hb1⟩
  have HB1 := Lib.hid hb1
  clear hb1
  go_wp2_with (fail)
  refine (short_no w1 w.heap.size n c A l (HR.out.kept HB1.out.block) HN.out H.out HM.out).mono ?_
  rintro e w2 ⟨rfl, rfl⟩
  go_wp2_with (fail)
  refine (awake_any _ (HT.out.below HB1.out)).mono ?_
  rintro e w3 ⟨rfl, hb3⟩
  go_wp2
  go_ret
  exact ⟨rfl, HB1.out.trans (hb3.mono HB1.out.size)⟩
end Go.Proofs.YticefepcoemkoaaDoor
