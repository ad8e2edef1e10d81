/-
  The open cycle of a number: the closure of package account's Hear, and the search by it. No conditions but the sizes.
-/
import Derived.Test.YtblikgbcakgdnaaGreatBr16
import Derived.Test.YtblikgbcakgdnaaGreatBr19
set_option linter.unusedSimpArgs false
set_option linter.unusedVariables false
namespace Go.Proofs.YtblikgbcakgdnaaGreat
set_option maxRecDepth 20000
open Go.ChangeShapes Go.WideShapes Go.ChangeAt Go.RowKit

set_option maxHeartbeats 400000 in
theorem isno_any {w : World} {T : Nat} {K : Int} (n d p a u t x : Int) (g : Bool) (hT : w.cell? ⟨T, 2, none⟩ = some (.int .i64 K)) (hT2 : T < w.heap.size) :
    Calls Tryz.prog 91 #[.agg #[.int .i64 n, .int .i64 d, .int .u8 p, .int .i64 a, .int .i64 u, .int .i64 t, .int .i64 x, .bool g], .pointer (some ⟨T, 0, none⟩)] w fun e w' => e = .returned (.bool (n == K)) ∧ Below w.heap.size w w' := by
  go_enter Tryz.func91, Tryz.ntmps91
  go_wp2
  go_ret
  exact ⟨rfl, by go_grown⟩
/-- Where the cycle of a number stands; below 0: there is none. -/
def Found (l : List Cv) (K : Int) (j : Int) : Prop := (∃ (i : Nat) (c : Cv), j = i ∧ l[i]? = some c ∧ c.n = K ∧ ∀ (i' : Nat) (c' : Cv), i' < i → l[i']? = some c' → c'.n ≠ K) ∨ (j = -1 ∧ ∀ c ∈ l, c.n ≠ K)
set_option maxHeartbeats 1000000 in
theorem cyindex_any {w : World} {v : Value} {l : List Cv} {T : Nat} {K : Int} (h : Cys w 0 w.heap.size v l) (hs : l.length ≤ 100000) (hT : w.cell? ⟨T, 2, none⟩ = some (.int .i64 K)) (hT2 : T < w.heap.size) :
    Calls Tryz.prog 90 #[v, .func (.func 91) #[] #[.pointer (some ⟨T, 0, none⟩)]] w fun e w' => (∃ j, e = .returned (.int .i64 j) ∧ Found l K j) ∧ Below w.heap.size w w' := by
  obtain ⟨A, cap, rfl, hcap, hcm, _⟩ := id h
  have H := Lib.hid h
  have HT := Lib.hid hT
  clear h hT
  go_enter Tryz.func90, Tryz.ntmps90
  go_wp2
  go_loopw [8] (fun i wq => ∃ j : Nat, j ≤ l.length ∧ i = .int .i64 j ∧ Hid (Below w.heap.size w wq) ∧ Hid (∀ (i' : Nat) (c' : Cv), i' < j → l[i']? = some c' → c'.n ≠ K)) (fun i _ => l.length - (intOf i).toNat)
  case atStart => exact ⟨0, by omega, rfl, Below.refl _ _, fun i' _ h => by omega⟩
  case round =>
    obtain ⟨j, hj, rfl, HB, HN⟩ := hrel
    by_cases hlt : j < l.length
    case neg =>
      obtain rfl : j = l.length := by omega
      have dlt : decide ((l.length : Int) < (l.length : Int)) = false := by simp
      go_wp2
      go_ret
      exact ⟨⟨-1, rfl, .inr ⟨rfl, fun c hc => by
        obtain ⟨i, hi⟩ := List.getElem?_of_mem hc
        exact HN.out i c (List.getElem?_eq_some_iff.1 hi).1 hi⟩⟩, HB.out⟩
    case pos =>
      have dlt : decide ((j : Int) < (l.length : Int)) = true := by simpa using hlt
      obtain ⟨z, hz⟩ : ∃ z, l[j]? = some z := ⟨l[j], List.getElem?_eq_getElem hlt⟩
      obtain ⟨g, o, cap', hv, y1, y2, y3, _, hgl, hr⟩ := H.out.at_ hz
      injection hv with hv1 hvl hv3
      clear hvl y1 y2 y3
      subst hv1 hv3
      have k0 : (0 : Int) ≤ (j : Int) := by omega
      have hR1 : wr.rangeAt g (o + j * 8) z.cs := fun i q hq => (World.cell?_of_block (a := ⟨g, o + j * 8 + i, none⟩) (HB.out.block g hgl)).trans (hr i q hq)
      have HZ := Lib.hid hz
      have hsz := HB.out.size
      obtain ⟨n, d', p, a', u, tt, xx, gd⟩ := z
      have HR1 := Lib.hid hR1
      have hTr : wr.cell? ⟨T, 2, none⟩ = some (.int .i64 K) := (World.cell?_of_block (a := ⟨T, 2, none⟩) (HB.out.block T hT2)).trans HT.out
      have HTR := Lib.hid hTr
      clear hr hz hR1 hTr
      go_wp2_with (refine wpList_load_mid rfl _ _ rfl g (o + j * 8) rfl [.int .i64 n, .int .i64 d', .int .u8 p, .int .i64 a', .int .i64 u, .int .i64 tt, .int .i64 xx, .bool gd] _ HR1.out Tryz.underlying112 rfl info8 ?_)
      refine (isno_any n d' p a' u tt xx gd (K := K) (T := T) HTR.out (by omega)).mono ?_
      rintro e w2 ⟨rfl, hb2⟩
      have hB2 : Below w.heap.size w w2 := HB.out.trans (hb2.mono hsz)
      have HB2 := Lib.hid hB2
      clear hb2 hB2
      by_cases hK : n = K
      · have dK : (n == K) = true := by simpa using hK
        have HK := Lib.hid hK
        clear hK
        go_wp2
        go_ret
        exact ⟨⟨(j : Int), rfl, .inl ⟨j, _, rfl, HZ.out, HK.out, HN.out⟩⟩, HB2.out⟩
      · have dK : (n == K) = false := by simpa using hK
        have HK := Lib.hid hK
        clear hK
        go_wp2
        refine ⟨⟨j + 1, by omega, by go_num, HB2.out, fun i' c' h1 h2 => ?_⟩, by simp [intOf]; omega⟩
        by_cases h3 : i' = j
        · subst h3
          rw [HZ.out] at h2
          injection h2 with h2
          rw [← h2]; exact HK.out
        · exact HN.out i' c' (by omega) h2
set_option maxHeartbeats 1000000 in
theorem hear_none {w : World} {v : Value} {a : Av} (s y : Int) (K S C T M V : Int) (hv : Cys w 0 w.heap.size v a.l) (hs : a.l.length ≤ 100000) (hno : ∀ c ∈ a.l, c.n ≠ C) :
    Calls Tryz.prog 60 #[.int .i64 s, .agg (a.arr v), .agg #[.int .u8 K, .int .i64 S, .int .i64 C, .int .i64 T, .int .i64 M, .int .u8 V], .int .i64 y] w (Refused w 10) := by
  have H := Lib.hid hv
  have HNO := Lib.hid hno
  clear hv hno
  go_enter Tryz.func60, Tryz.ntmps60
  go_wp2_with (fail)
  refine (cyindex_any (l := a.l) (T := w.heap.size + 1) (K := C) ((H.out.below ((((Below.refl _ w).alloc (Nat.le_refl _) _).alloc (by simp) _).alloc (by simp; omega) _)).more (Nat.le_refl _) (by simp <;> omega)) hs ?_ (by simp <;> omega)).mono ?_
  · exact cell_of_row _ _ 2 _ _ _ (alloc_old (by simp) (alloc_at (by simp)))
  rintro e w1 ⟨⟨j, rfl, hj⟩, hb⟩
  obtain rfl : j = -1 := by
    rcases hj with ⟨i, c, _, hc, hn, _⟩ | ⟨h, _⟩
    · exact absurd hn (HNO.out c (List.mem_of_getElem? hc))
    · exact h
  have hZ : w1.heap[w.heap.size + 1 + 1]? = some (.cells #[.int .u8 0, .int .i64 0, .int .i64 0, .int .i64 0, .int .i64 0, .int .i64 0, .bool false, .slice none 0 0, .int .i64 0, .int .i64 0, .int .i64 0, .int .i64 0, .int .i64 0] 32 (0, 0)) := below_block hb (alloc_at (by simp))
  have hW : Below w.heap.size w w1 := ((((Below.refl _ w).alloc (Nat.le_refl _) _).alloc (by simp) _).alloc (by simp; omega) _).trans (hb.mono (by simp; omega))
  have hz : w.heap.size + 1 + 1 < w1.heap.size := (Array.getElem?_eq_some_iff.1 hZ).1
  have HW := Lib.hid hW
  clear hj hb hW H
  go_wp2_with (first | ((with_reducible_and_instances (show wpList _ _ _ (Oper.mk _ (Op.store 32 _ _) _ _ _ _ :: _) _ _)); refine wl_store info13 rfl rfl rfl rfl (by (repeat (first | assumption | (with_reducible refine alloc_at ?_; (focus (first | omega | (simp; done) | (simp; omega)))) | (with_reducible refine boxed_at ?_; (focus (first | omega | (simp; done) | (simp; omega)))) | (with_reducible refine alloc_old ?_ ?_; (focus (first | omega | (simp; done) | (simp; omega)))) | (with_reducible refine boxed_old ?_ ?_; (focus (first | omega | (simp; done) | (simp; omega)))) | (with_reducible refine drew_old ?_)))) (by rfl) (by rfl) (by first | exact Cv.arr_one _ | exact Nv.arr_one _ | exact Av.arr_one rfl | exact Pv.arr_one _ | simp [Value.oneCell']) ?_))
  refine bodyPost_ret (results_row_tmp rfl _ _ (w.heap.size + 1 + 1) 32 _ (0, 0) _ rfl (boxed_at (by omega)) Tryz.underlying32 rfl (by exact info13)) rfl ?_
  exact ⟨rfl, boxed_below HW.out (by omega)⟩
theorem region_frame1 {P : Program} {c : Code} {Q : Exit → Act → World → Prop} {a : Act} {w : World} (Facts : Nat → World → Prop) (fr : Nat → Act)
    (h : c.wp P (fun e a' w' => e = .normal ∧ ∃ Z, a' = fr Z ∧ Facts Z w') a w) (hk : ∀ Z w', Facts Z w' → Q .normal (fr Z) w') : c.wp P Q a w :=
  wp_mono h (by rintro e a' w' ⟨rfl, Z, rfl, hf⟩; exact hk _ _ hf)
set_option maxHeartbeats 4000000 in
theorem hear_some {w : World} {v : Value} {a : Av} {m j : Nat} (s y : Int) (n d p a' u t x : Int) (g : Bool) (K S C T M V : Int) (hv : Cys w 0 w.heap.size v a.l) (hs : a.l.length ≤ 100000) (hj : Found a.l C j) (hc : a.l[j]? = some ⟨n, d, p, a', u, t, x, g⟩) (hy0 : -4611686018427387904 ≤ y) (hy1 : y ≤ 4611686018427387904) (HF : Hid (a.Fit m)) (hm : m ≤ 100000) (hcf : ∀ c ∈ a.l, c.Fit) (hh : Cv.Fit (Cv.hear s ⟨n, d, p, a', u, t, x, g⟩ ⟨K, S, C, T, M, V⟩ y (a.st == 3))) :
    Calls Tryz.prog 60 #[.int .i64 s, .agg (a.arr v), .agg #[.int .u8 K, .int .i64 S, .int .i64 C, .int .i64 T, .int .i64 M, .int .u8 V], .int .i64 y] w (fun e w' => ((Cv.herr s ⟨n, d, p, a', u, t, x, g⟩ ⟨K, S, C, T, M, V⟩) = 0 → News w (Av.settled { a with l := a.l.set j (Cv.hear s ⟨n, d, p, a', u, t, x, g⟩ ⟨K, S, C, T, M, V⟩ y (a.st == 3)) }) e w') ∧ ((Cv.herr s ⟨n, d, p, a', u, t, x, g⟩ ⟨K, S, C, T, M, V⟩) ≠ 0 → Refused w (Cv.herr s ⟨n, d, p, a', u, t, x, g⟩ ⟨K, S, C, T, M, V⟩) e w')) := by
  obtain ⟨gg, oo, cap, rfl, _, _, _, _, hgl, hr⟩ := hv.at_ hc
  have H := Lib.hid hv
  have HC := Lib.hid hc
  have HJ := Lib.hid hj
  have HR := Lib.hid hr
  have hlt := (List.getElem?_eq_some_iff.1 hc).1
  have k0 : (0 : Int) ≤ (j : Int) := by omega
  have k1 : (j : Int) < (a.l.length : Int) := by omega
  have dj : decide ((j : Int) < 0) = false := by simp
  clear hv hc hj hr
  go_enter Tryz.func60, Tryz.ntmps60
  go_wp2_with (fail)
  refine (cyindex_any (l := a.l) (T := w.heap.size + 1) (K := C) ((H.out.below ((((Below.refl _ w).alloc (Nat.le_refl _) _).alloc (by simp) _).alloc (by simp; omega) _)).more (Nat.le_refl _) (by simp <;> omega)) hs ?_ (by simp <;> omega)).mono ?_
  · exact cell_of_row _ _ 2 _ _ _ (alloc_old (by simp) (alloc_at (by simp)))
  rintro e w1 ⟨⟨j', rfl, hj'⟩, hb⟩
  obtain rfl : j' = (j : Int) := by
    rcases HJ.out with ⟨i, c, e1, hc1, hn1, hm1⟩ | ⟨h, _⟩
    · rcases hj' with ⟨i2, c2, e2, hc2, hn2, hm2⟩ | ⟨_, h2⟩
      · have : i = i2 := by
          rcases Nat.lt_trichotomy i i2 with h | h | h
          · exact absurd hn1 (hm2 i c h hc1)
          · exact h
          · exact absurd hn2 (hm1 i2 c2 h hc2)
        omega
      · exact absurd hn1 (h2 c (List.mem_of_getElem? hc1))
    · omega
  have hA : w1.heap[w.heap.size]? = some (.cells (a.arr (.slice (some ⟨gg, oo, none⟩) a.l.length cap)) 32 (0, 0)) := below_block hb (alloc_old (by simp; omega) (alloc_old (by simp) (alloc_at rfl)))
  have hN : w1.heap[w.heap.size + 1]? = some (.cells #[.int .u8 K, .int .i64 S, .int .i64 C, .int .i64 T, .int .i64 M, .int .u8 V] 46 (0, 0)) := below_block hb (alloc_old (by simp) (alloc_at (by simp)))
  have hZ : w1.heap[w.heap.size + 1 + 1]? = some (.cells #[.int .u8 0, .int .i64 0, .int .i64 0, .int .i64 0, .int .i64 0, .int .i64 0, .bool false, .slice none 0 0, .int .i64 0, .int .i64 0, .int .i64 0, .int .i64 0, .int .i64 0] 32 (0, 0)) := below_block hb (alloc_at (by simp))
  have hW : Below w.heap.size w w1 := ((((Below.refl _ w).alloc (Nat.le_refl _) _).alloc (by simp) _).alloc (by simp; omega) _).trans (hb.mono (by simp; omega))
  have hz : w.heap.size + 1 + 1 < w1.heap.size := (Array.getElem?_eq_some_iff.1 hZ).1
  have hr1 : w1.rangeAt gg (oo + j * 8) [.int .i64 n, .int .i64 d, .int .u8 p, .int .i64 a', .int .i64 u, .int .i64 t, .int .i64 x, .bool g] := fun i q hq => (World.cell?_of_block (a := ⟨gg, oo + j * 8 + i, none⟩) (hW.block gg hgl)).trans (HR.out i q hq)
  have HKS : Hid (∀ W' : World, Below w1.heap.size w1 W' → (fun w' : World => w'.cell? ⟨w.heap.size, 0, none⟩ = some (.int .u8 a.st) ∧ w'.cell? ⟨w.heap.size, 7, none⟩ = some (.slice (some ⟨gg, oo, none⟩) a.l.length cap) ∧ w'.heap[w.heap.size + 1]? = some (.cells #[.int .u8 K, .int .i64 S, .int .i64 C, .int .i64 T, .int .i64 M, .int .u8 V] 46 (0, 0)) ∧ w'.rangeAt gg (oo + j * 8) [.int .i64 n, .int .i64 d, .int .u8 p, .int .i64 a', .int .i64 u, .int .i64 t, .int .i64 x, .bool g]) W') := Lib.hid (fun W' h => ⟨cell_of_row W' _ _ _ _ _ ((h.block _ (by omega)).trans hA), cell_of_row W' _ _ _ _ _ ((h.block _ (by omega)).trans hA), (h.block _ (by omega)).trans hN, fun i q hq => (World.cell?_of_block (a := ⟨gg, oo + j * 8 + i, none⟩) (h.block gg (by omega))).trans (hr1 i q hq)⟩)
  have HS0 : Hid ((fun w' : World => w'.cell? ⟨w.heap.size, 0, none⟩ = some (.int .u8 a.st) ∧ w'.cell? ⟨w.heap.size, 7, none⟩ = some (.slice (some ⟨gg, oo, none⟩) a.l.length cap) ∧ w'.heap[w.heap.size + 1]? = some (.cells #[.int .u8 K, .int .i64 S, .int .i64 C, .int .i64 T, .int .i64 M, .int .u8 V] 46 (0, 0)) ∧ w'.rangeAt gg (oo + j * 8) [.int .i64 n, .int .i64 d, .int .u8 p, .int .i64 a', .int .i64 u, .int .i64 t, .int .i64 x, .bool g]) w1.drew) := ⟨cell_of_row w1.drew _ _ _ _ _ hA, cell_of_row w1.drew _ _ _ _ _ hA, hN, (World.rangeAt_drew _ _ _ _).2 hr1⟩
  have HW := Lib.hid hW
  have HA := Lib.hid hA
  have HZ := Lib.hid hZ
  clear hj' hb hW hA hN hZ hr1
  go_wp2
  obtain ⟨Y, hY⟩ : ∃ Y, Y = w1.heap.size := ⟨_, rfl⟩
  apply region_frame1 (fun Z W => Hid (Below Y w1 W) ∧ Hid (W.heap[Z]? = some (.cells (Cv.hear s ⟨n, d, p, a', u, t, x, g⟩ ⟨K, S, C, T, M, V⟩ y (a.st == 3)).arr 112 (0, 0))) ∧ Y ≤ Z ∧ Z < W.heap.size)
  · refine lane_start (ord := [0, 1, 2, 3, 4, 5, 6, 7, 8, 9, 10, 11, 12, 13, 14, 15, 16, 17]) (S := (fun w' : World => w'.cell? ⟨w.heap.size, 0, none⟩ = some (.int .u8 a.st) ∧ w'.cell? ⟨w.heap.size, 7, none⟩ = some (.slice (some ⟨gg, oo, none⟩) a.l.length cap) ∧ w'.heap[w.heap.size + 1]? = some (.cells #[.int .u8 K, .int .i64 S, .int .i64 C, .int .i64 T, .int .i64 M, .int .u8 V] 46 (0, 0)) ∧ w'.rangeAt gg (oo + j * 8) [.int .i64 n, .int .i64 d, .int .u8 p, .int .i64 a', .int .i64 u, .int .i64 t, .int .i64 x, .bool g])) rfl (by kernel_rfl) (by exact HS0.out) (fun _ => ?_)
    iterate 5 (refine lane_take (v := ?_) rfl (by kernel_rfl) (by kernel_rfl) (by rfl) ?_ (by exact HS0.out) ?_; rotate_left; (focus (intro W hSw; obtain ⟨s0, s7, _, _⟩ := hSw; go_simp; try (with_reducible rfl))); simp only [Act.put, List.setIfInBounds_toArray, List.set_cons_zero, List.set_cons_succ])
    refine lane_take (v := .agg #[.int .i64 n, .int .i64 d, .int .u8 p, .int .i64 a', .int .i64 u, .int .i64 t, .int .i64 x, .bool g]) rfl (by kernel_rfl) (by kernel_rfl) (by rfl) (fun W hSw => exec_load rfl rfl (run_loadAt_mid W gg (oo + j * 8) 112 _ _ hSw.2.2.2 Tryz.underlying112 rfl info8)) (by exact HS0.out) ?_
    simp only [Act.put, List.setIfInBounds_toArray, List.set_cons_zero, List.set_cons_succ]
    refine lane_take (v := .agg #[.int .u8 K, .int .i64 S, .int .i64 C, .int .i64 T, .int .i64 M, .int .u8 V]) rfl (by kernel_rfl) (by kernel_rfl) (by rfl) (fun W hSw => exec_load rfl rfl (run_loadAt_row W (w.heap.size + 1) 46 46 _ (0, 0) _ hSw.2.2.1 Tryz.underlying46 rfl info6)) (by exact HS0.out) ?_
    simp only [Act.put, List.setIfInBounds_toArray, List.set_cons_zero, List.set_cons_succ]
    iterate 4 (refine lane_take (v := ?_) rfl (by kernel_rfl) (by kernel_rfl) (by rfl) ?_ (by exact HS0.out) ?_; rotate_left; (focus (intro W hSw; obtain ⟨s0, s7, _, _⟩ := hSw; go_simp; try (with_reducible rfl))); simp only [Act.put, List.setIfInBounds_toArray, List.set_cons_zero, List.set_cons_succ])
    refine lane_two (i := 11) (j := 15) (ordI := [12, 13, 14, 15, 16, 17]) (ordJ := [11, 12, 13, 14, 16, 17]) rfl rfl (by kernel_rfl) rfl (by rfl) (by rfl) (fun K' hK => ?_) (fun K' hK => ?_)
    · go_simp
      refine (cyhear_any s n d p a' u t x g K S C T M V y _ w1.drew hy0 hy1).mono ?_
      rintro e W1 ⟨rfl, hb⟩
      have HB : Hid (Below w1.heap.size w1 W1) := (Below.refl _ w1).drew.trans hb
      clear hb
      have hz1 : w1.heap.size ≤ W1.heap.size := HB.out.size
      have HK : Hid ((fun w' : World => w'.cell? ⟨w.heap.size, 0, none⟩ = some (.int .u8 a.st) ∧ w'.cell? ⟨w.heap.size, 7, none⟩ = some (.slice (some ⟨gg, oo, none⟩) a.l.length cap) ∧ w'.heap[w.heap.size + 1]? = some (.cells #[.int .u8 K, .int .i64 S, .int .i64 C, .int .i64 T, .int .i64 M, .int .u8 V] 46 (0, 0)) ∧ w'.rangeAt gg (oo + j * 8) [.int .i64 n, .int .i64 d, .int .u8 p, .int .i64 a', .int .i64 u, .int .i64 t, .int .i64 x, .bool g]) W1) := HKS.out W1 HB.out
      refine hK _ _ HK.out (fun _ => ?_)
      clear hK K'
      iterate 3 (refine lane_take (v := ?_) rfl (by kernel_rfl) (by kernel_rfl) (by rfl) ?_ (by exact HK.out) ?_; rotate_left; (focus (intro W hSw; go_simp; try (with_reducible rfl))); simp only [Act.put, List.setIfInBounds_toArray, List.set_cons_zero, List.set_cons_succ])
      refine lane_alone rfl (by kernel_rfl) (by rfl) (fun K' hK => ?_)
      go_simp
      have HZ4 : Hid ((W1.alloc (.cells #[.int .i64 0, .int .i64 0, .int .u8 0, .int .i64 0, .int .i64 0, .int .i64 0, .int .i64 0, .bool false] 112)).heap[W1.heap.size]? = some (.cells #[.int .i64 0, .int .i64 0, .int .u8 0, .int .i64 0, .int .i64 0, .int .i64 0, .int .i64 0, .bool false] 112 (0, 0))) := alloc_at rfl
      have HB4 : Hid (Below w1.heap.size w1 (W1.alloc (.cells #[.int .i64 0, .int .i64 0, .int .u8 0, .int .i64 0, .int .i64 0, .int .i64 0, .int .i64 0, .bool false] 112))) := HB.out.alloc hz1 _
      have hzz : W1.heap.size < (W1.alloc (.cells #[.int .i64 0, .int .i64 0, .int .u8 0, .int .i64 0, .int .i64 0, .int .i64 0, .int .i64 0, .bool false] 112)).heap.size := by simp
      refine hK _ _ (HKS.out _ HB4.out) (fun _ => ?_)
      clear hK K'
      refine lane_alone rfl (by kernel_rfl) (by rfl) (fun K' hK => ?_)
      refine wp_store_row _ _ _ rfl W1.heap.size _ rfl rfl _ _ HZ4.out (by exact info8) rfl (Cv.arr_one _) ?_
      rw [row_boxed HZ4.out]
      have HB5 : Hid (Below w1.heap.size w1 (boxed (W1.alloc (.cells #[.int .i64 0, .int .i64 0, .int .u8 0, .int .i64 0, .int .i64 0, .int .i64 0, .int .i64 0, .bool false] 112)) W1.heap.size (Cv.hear s ⟨n, d, p, a', u, t, x, g⟩ ⟨K, S, C, T, M, V⟩ y (a.st == 3)).arr 112)) := boxed_below HB4.out hz1
      have HK5 : Hid ((fun w' : World => w'.cell? ⟨w.heap.size, 0, none⟩ = some (.int .u8 a.st) ∧ w'.cell? ⟨w.heap.size, 7, none⟩ = some (.slice (some ⟨gg, oo, none⟩) a.l.length cap) ∧ w'.heap[w.heap.size + 1]? = some (.cells #[.int .u8 K, .int .i64 S, .int .i64 C, .int .i64 T, .int .i64 M, .int .u8 V] 46 (0, 0)) ∧ w'.rangeAt gg (oo + j * 8) [.int .i64 n, .int .i64 d, .int .u8 p, .int .i64 a', .int .i64 u, .int .i64 t, .int .i64 x, .bool g]) (boxed (W1.alloc (.cells #[.int .i64 0, .int .i64 0, .int .u8 0, .int .i64 0, .int .i64 0, .int .i64 0, .int .i64 0, .bool false] 112)) W1.heap.size (Cv.hear s ⟨n, d, p, a', u, t, x, g⟩ ⟨K, S, C, T, M, V⟩ y (a.st == 3)).arr 112)) := HKS.out _ HB5.out
      refine hK _ _ HK5.out (fun _ => ?_)
      clear hK K'
      have hZ9 : (boxed (W1.alloc (.cells #[.int .i64 0, .int .i64 0, .int .u8 0, .int .i64 0, .int .i64 0, .int .i64 0, .int .i64 0, .bool false] 112)) W1.heap.size (Cv.hear s ⟨n, d, p, a', u, t, x, g⟩ ⟨K, S, C, T, M, V⟩ y (a.st == 3)).arr 112).heap[W1.heap.size]? = some (.cells (Cv.hear s ⟨n, d, p, a', u, t, x, g⟩ ⟨K, S, C, T, M, V⟩ y (a.st == 3)).arr 112 (0, 0)) := boxed_at hzz
      have hB9 := HB5.out
      have hK9 := HKS.out _ hB9
      have hlt9 : W1.heap.size < (boxed (W1.alloc (.cells #[.int .i64 0, .int .i64 0, .int .u8 0, .int .i64 0, .int .i64 0, .int .i64 0, .int .i64 0, .bool false] 112)) W1.heap.size (Cv.hear s ⟨n, d, p, a', u, t, x, g⟩ ⟨K, S, C, T, M, V⟩ y (a.st == 3)).arr 112).heap.size := by simp only [boxed_size]; exact hzz
      obtain ⟨W9, hW9⟩ : ∃ W9, (boxed (W1.alloc (.cells #[.int .i64 0, .int .i64 0, .int .u8 0, .int .i64 0, .int .i64 0, .int .i64 0, .int .i64 0, .bool false] 112)) W1.heap.size (Cv.hear s ⟨n, d, p, a', u, t, x, g⟩ ⟨K, S, C, T, M, V⟩ y (a.st == 3)).arr 112) = W9 := ⟨_, rfl⟩
      rw [hW9] at hZ9 hB9 hK9 hlt9 ⊢
      obtain ⟨Z9, hZe⟩ : ∃ Z9, W1.heap.size = Z9 := ⟨_, rfl⟩
      have hle9 : Y ≤ Z9 := by rw [hY, ← hZe]; exact hz1
      have HZ9 := Lib.hid hZ9
      rw [← hY] at hB9
      have HB9 := Lib.hid hB9
      have HK9 := Lib.hid hK9
      clear hZ9 hB9 hK9
      rw [hZe] at HZ9 hlt9 ⊢
      clear hZe hW9
      refine lane_alone rfl (by kernel_rfl) (by rfl) (fun K' hK => ?_)
      go_simp
      refine hK _ _ HK9.out (fun _ => ?_)
      clear hK K'
      refine lane_end (by kernel_rfl) ?_
      exact ⟨rfl, _, rfl, HB9, HZ9, hle9, hlt9⟩
    · go_simp
      have HZ4 : Hid ((w1.drew.alloc (.cells #[.int .i64 0, .int .i64 0, .int .u8 0, .int .i64 0, .int .i64 0, .int .i64 0, .int .i64 0, .bool false] 112)).heap[w1.heap.size]? = some (.cells #[.int .i64 0, .int .i64 0, .int .u8 0, .int .i64 0, .int .i64 0, .int .i64 0, .int .i64 0, .bool false] 112 (0, 0))) := alloc_at rfl
      have HB4 : Hid (Below w1.heap.size w1 (w1.drew.alloc (.cells #[.int .i64 0, .int .i64 0, .int .u8 0, .int .i64 0, .int .i64 0, .int .i64 0, .int .i64 0, .bool false] 112))) := (Below.refl _ w1).drew.alloc (Nat.le_refl _) _
      have hzz : (w1.drew.alloc (.cells #[.int .i64 0, .int .i64 0, .int .u8 0, .int .i64 0, .int .i64 0, .int .i64 0, .int .i64 0, .bool false] 112)).heap.size = w1.heap.size + 1 := by simp
      refine hK _ _ (HKS.out _ HB4.out) (fun _ => ?_)
      clear hK K'
      refine lane_alone rfl (by kernel_rfl) (by rfl) (fun K' hK => ?_)
      go_simp
      refine (cyhear_any s n d p a' u t x g K S C T M V y _ (w1.drew.alloc (.cells #[.int .i64 0, .int .i64 0, .int .u8 0, .int .i64 0, .int .i64 0, .int .i64 0, .int .i64 0, .bool false] 112)) hy0 hy1).mono ?_
      rintro e W1 ⟨rfl, hb⟩
      have HZ5 : Hid (W1.heap[w1.heap.size]? = some (.cells #[.int .i64 0, .int .i64 0, .int .u8 0, .int .i64 0, .int .i64 0, .int .i64 0, .int .i64 0, .bool false] 112 (0, 0))) := (hb.block _ (by omega)).trans HZ4.out
      have HB5 : Hid (Below w1.heap.size w1 W1) := HB4.out.trans (hb.mono (by omega))
      have hz5 : w1.heap.size < W1.heap.size := by have := hb.size; omega
      have HK5 : Hid ((fun w' : World => w'.cell? ⟨w.heap.size, 0, none⟩ = some (.int .u8 a.st) ∧ w'.cell? ⟨w.heap.size, 7, none⟩ = some (.slice (some ⟨gg, oo, none⟩) a.l.length cap) ∧ w'.heap[w.heap.size + 1]? = some (.cells #[.int .u8 K, .int .i64 S, .int .i64 C, .int .i64 T, .int .i64 M, .int .u8 V] 46 (0, 0)) ∧ w'.rangeAt gg (oo + j * 8) [.int .i64 n, .int .i64 d, .int .u8 p, .int .i64 a', .int .i64 u, .int .i64 t, .int .i64 x, .bool g]) W1) := HKS.out W1 HB5.out
      clear hb HZ4 HB4 hzz
      refine hK _ _ HK5.out (fun _ => ?_)
      clear hK K'
      iterate 3 (refine lane_take (v := ?_) rfl (by kernel_rfl) (by kernel_rfl) (by rfl) ?_ (by exact HK5.out) ?_; rotate_left; (focus (intro W hSw; go_simp; try (with_reducible rfl))); simp only [Act.put, List.setIfInBounds_toArray, List.set_cons_zero, List.set_cons_succ])
      refine lane_alone rfl (by kernel_rfl) (by rfl) (fun K' hK => ?_)
      refine wp_store_row _ _ _ rfl w1.heap.size _ rfl rfl _ _ HZ5.out (by exact info8) rfl (Cv.arr_one _) ?_
      rw [row_boxed HZ5.out]
      have HB6 : Hid (Below w1.heap.size w1 (boxed W1 w1.heap.size (Cv.hear s ⟨n, d, p, a', u, t, x, g⟩ ⟨K, S, C, T, M, V⟩ y (a.st == 3)).arr 112)) := boxed_below HB5.out (Nat.le_refl _)
      have HK6 : Hid ((fun w' : World => w'.cell? ⟨w.heap.size, 0, none⟩ = some (.int .u8 a.st) ∧ w'.cell? ⟨w.heap.size, 7, none⟩ = some (.slice (some ⟨gg, oo, none⟩) a.l.length cap) ∧ w'.heap[w.heap.size + 1]? = some (.cells #[.int .u8 K, .int .i64 S, .int .i64 C, .int .i64 T, .int .i64 M, .int .u8 V] 46 (0, 0)) ∧ w'.rangeAt gg (oo + j * 8) [.int .i64 n, .int .i64 d, .int .u8 p, .int .i64 a', .int .i64 u, .int .i64 t, .int .i64 x, .bool g]) (boxed W1 w1.heap.size (Cv.hear s ⟨n, d, p, a', u, t, x, g⟩ ⟨K, S, C, T, M, V⟩ y (a.st == 3)).arr 112)) := HKS.out _ HB6.out
      refine hK _ _ HK6.out (fun _ => ?_)
      clear hK K'
      have hZ9 : (boxed W1 w1.heap.size (Cv.hear s ⟨n, d, p, a', u, t, x, g⟩ ⟨K, S, C, T, M, V⟩ y (a.st == 3)).arr 112).heap[w1.heap.size]? = some (.cells (Cv.hear s ⟨n, d, p, a', u, t, x, g⟩ ⟨K, S, C, T, M, V⟩ y (a.st == 3)).arr 112 (0, 0)) := boxed_at hz5
      have hB9 := HB6.out
      have hK9 := HKS.out _ hB9
      have hlt9 : w1.heap.size < (boxed W1 w1.heap.size (Cv.hear s ⟨n, d, p, a', u, t, x, g⟩ ⟨K, S, C, T, M, V⟩ y (a.st == 3)).arr 112).heap.size := by simp only [boxed_size]; exact hz5
      obtain ⟨W9, hW9⟩ : ∃ W9, (boxed W1 w1.heap.size (Cv.hear s ⟨n, d, p, a', u, t, x, g⟩ ⟨K, S, C, T, M, V⟩ y (a.st == 3)).arr 112) = W9 := ⟨_, rfl⟩
      rw [hW9] at hZ9 hB9 hK9 hlt9 ⊢
      obtain ⟨Z9, hZe⟩ : ∃ Z9, w1.heap.size = Z9 := ⟨_, rfl⟩
      have hle9 : Y ≤ Z9 := by rw [hY, ← hZe]; exact Nat.le_refl _
      have HZ9 := Lib.hid hZ9
      rw [← hY] at hB9
      have HB9 := Lib.hid hB9
      have HK9 := Lib.hid hK9
      clear hZ9 hB9 hK9
      rw [hZe] at HZ9 hlt9 ⊢
      clear hZe hW9
      refine lane_alone rfl (by kernel_rfl) (by rfl) (fun K' hK => ?_)
      go_simp
      refine hK _ _ HK9.out (fun _ => ?_)
      clear hK K'
      refine lane_end (by kernel_rfl) ?_
      exact ⟨rfl, _, rfl, HB9, HZ9, hle9, hlt9⟩
  · rintro Z W ⟨hB, hZZ, hY1, hZlt⟩
    have hA9 := (hB.out.block _ (by omega)).trans HA.out
    have hZ9 := (hB.out.block _ (by omega)).trans HZ.out
    have hW9 : Below w.heap.size w W := HW.out.trans (hB.out.mono (by omega))
    have hz9 : w.heap.size + 1 + 1 < W.heap.size := by have := hB.out.size; omega
    have HA9 := Lib.hid hA9
    have HZ9 := Lib.hid hZ9
    have HW9 := Lib.hid hW9
    have HZZ := Lib.hid hZZ.out
    clear hA9 hZ9 hW9 hZZ hB HKS HS0 HA HZ HW
    have HFH := Lib.hid hh
    have HCF := Lib.hid hcf
    clear hh hcf
    obtain ⟨q, hq⟩ : ∃ q, (Cv.herr s ⟨n, d, p, a', u, t, x, g⟩ ⟨K, S, C, T, M, V⟩) = q := ⟨_, rfl⟩
    obtain ⟨h', hh'⟩ : ∃ h' : Cv, (Cv.hear s ⟨n, d, p, a', u, t, x, g⟩ ⟨K, S, C, T, M, V⟩ y (a.st == 3)) = h' := ⟨_, rfl⟩
    simp only [hq, hh'] at HZZ HFH ⊢
    have HQ := Lib.hid hq
    have HH := Lib.hid hh'
    clear hq hh'
    by_cases he : q = 0
    · subst he
      have hA9 := HA9.out
      have HC9 : Hid (Cys (boxed W w.heap.size (a.arr (.slice (some ⟨gg, oo, none⟩) a.l.length cap)) 32) 0 (boxed W w.heap.size (a.arr (.slice (some ⟨gg, oo, none⟩) a.l.length cap)) 32).heap.size (.slice (some ⟨gg, oo, none⟩) a.l.length cap) a.l) := ((H.out.below HW9.out).boxed (.inr (Nat.le_refl _))).more (Nat.le_refl _) (by have := HW9.out.size; simp; omega)
      have e := boxed_self hA9
      rw [e]
      clear e H
      have hz90 : w.heap.size < W.heap.size := by omega
      go_wp2_with (first | ((with_reducible_and_instances (show wpList _ _ _ (Oper.mk _ (Op.store 32 _ _) _ _ _ _ :: _) _ _)); refine wl_store info13 rfl rfl rfl rfl (by (repeat (first | assumption | (with_reducible refine alloc_at ?_; (focus (first | omega | (simp; done) | (simp; omega)))) | (with_reducible refine boxed_at ?_; (focus (first | omega | (simp; done) | (simp; omega)))) | (with_reducible refine alloc_old ?_ ?_; (focus (first | omega | (simp; done) | (simp; omega)))) | (with_reducible refine boxed_old ?_ ?_; (focus (first | omega | (simp; done) | (simp; omega)))) | (with_reducible refine drew_old ?_)))) (by rfl) (by rfl) (by first | exact Cv.arr_one _ | exact Nv.arr_one _ | exact Av.arr_one rfl | exact Pv.arr_one _ | simp [Value.oneCell']) ?_))
      refine (copy_any (a := a) HC9.out (by omega)).mono ?_
      rintro e w2 ⟨v2, rfl, ho2, hb2⟩
      rw [boxed_size] at ho2
      have hP2 := below_block hb2 (boxed_at hz90)
      obtain ⟨g2, c2, rfl, _, _, hg2, hg3⟩ := ho2.some_ (by omega)
      have hZ2 := below_block hb2 (boxed_old (by omega) HZ9.out)
      have hZZ2 := below_block hb2 (boxed_old (show Z ≠ w.heap.size by omega) HZZ.out)
      have hW2 : Below w.heap.size w w2 := (boxed_below HW9.out (Nat.le_refl _)).trans (hb2.mono (by simp; omega))
      have hz2 : w.heap.size + 1 + 1 < w2.heap.size := (Array.getElem?_eq_some_iff.1 hZ2).1
      have hz20 : w.heap.size < w2.heap.size := by omega
      have hzz2 : Z < w2.heap.size := (Array.getElem?_eq_some_iff.1 hZZ2).1
      have HO2 := Lib.hid ho2
      have HW2 := Lib.hid hW2
      have e := boxed_self hP2
      rw [e]
      clear e hb2 ho2 hP2 hW2 HC9 HW9 HA9 hA9
      have HO3 : Hid (Own (boxed w2 w.heap.size (a.arr (.slice (some ⟨g2, 0, none⟩) a.l.length c2)) 32) W.heap.size (.slice (some ⟨g2, 0, none⟩) a.l.length c2) a.l) := Own.boxed HO2.out (by omega)
      have HST := Lib.hid (Own.set (c := h') rfl HO3.out hlt)
      go_wp2_with (first | ((with_reducible_and_instances (show wpList _ _ _ (Oper.mk _ (Op.store 112 _ _) _ _ _ _ :: _) _ _)); refine wpList_store_mid rfl _ _ _ rfl g2 (j * 8) h'.arr (by simp only [Act.eval]; first | rfl | (go_simp; done)) rfl HST.out.1 (by exact info8) (Cv.arr_one _) ?_; refine stop_here ?_) | ((with_reducible_and_instances (show wpList _ _ _ (Oper.mk _ (Op.store 32 _ _) _ _ _ _ :: _) _ _)); refine wl_store info13 rfl rfl rfl rfl (by (repeat (first | assumption | (with_reducible refine alloc_at ?_; (focus (first | omega | (simp; done) | (simp; omega)))) | (with_reducible refine boxed_at ?_; (focus (first | omega | (simp; done) | (simp; omega)))) | (with_reducible refine alloc_old ?_ ?_; (focus (first | omega | (simp; done) | (simp; omega)))) | (with_reducible refine boxed_old ?_ ?_; (focus (first | omega | (simp; done) | (simp; omega)))) | (with_reducible refine drew_old ?_)))) (by rfl) (by rfl) (by first | exact Cv.arr_one _ | exact Nv.arr_one _ | exact Av.arr_one rfl | exact Pv.arr_one _ | simp [Value.oneCell']) ?_) | ((with_reducible_and_instances (show wpList _ _ _ (Oper.mk _ (Op.load 112 _) _ _ _ _ :: _) _ _)); refine wl_load Tryz.underlying112 rfl info8 rfl rfl rfl (by (repeat (first | assumption | (with_reducible refine alloc_at ?_; (focus (first | omega | (simp; done) | (simp; omega)))) | (with_reducible refine boxed_at ?_; (focus (first | omega | (simp; done) | (simp; omega)))) | (with_reducible refine alloc_old ?_ ?_; (focus (first | omega | (simp; done) | (simp; omega)))) | (with_reducible refine boxed_old ?_ ?_; (focus (first | omega | (simp; done) | (simp; omega)))) | (with_reducible refine drew_old ?_)))) (by rfl) ?_))
      have hO4 := HST.out.2
      have hb4 : Below W.heap.size (boxed w2 w.heap.size (a.arr (.slice (some ⟨g2, 0, none⟩) a.l.length c2)) 32) ((boxed w2 w.heap.size (a.arr (.slice (some ⟨g2, 0, none⟩) a.l.length c2)) 32).setCells g2 (j * 8) h'.cs) := setCells_below (Below.refl _ _) (by omega)
      have hP4 := (hb4.block _ hz90).trans (boxed_at hz20)
      have hZ4 := (hb4.block _ hz9).trans (boxed_old (show w.heap.size + 1 + 1 ≠ w.heap.size by omega) hZ2)
      have hW4 : Below w.heap.size w ((boxed w2 w.heap.size (a.arr (.slice (some ⟨g2, 0, none⟩) a.l.length c2)) 32).setCells g2 (j * 8) h'.cs) := (boxed_below HW2.out (Nat.le_refl _)).trans (hb4.mono (by omega))
      clear hb4
      rw [show h'.arr.toList = h'.cs from rfl]
      obtain ⟨W4, hW4e⟩ : ∃ W4, ((boxed w2 w.heap.size (a.arr (.slice (some ⟨g2, 0, none⟩) a.l.length c2)) 32).setCells g2 (j * 8) h'.cs) = W4 := ⟨_, rfl⟩
      rw [hW4e] at hO4 hP4 hZ4 hW4 ⊢
      clear hW4e HST HO3 HO2 HW2 hZ2 hZZ2
      have hz4 : w.heap.size + 1 + 1 < W4.heap.size := (Array.getElem?_eq_some_iff.1 hZ4).1
      have hz40 : w.heap.size < W4.heap.size := by omega
      have HO4 := Lib.hid hO4
      have HW4 := Lib.hid hW4
      have e := boxed_self hP4
      rw [e]
      clear e hO4 hW4
      refine ⟨?_⟩
      go_wp2_with (first | ((with_reducible_and_instances (show wpList _ _ _ (Oper.mk _ (Op.store 32 _ _) _ _ _ _ :: _) _ _)); refine wl_store info13 rfl rfl rfl rfl (by (repeat (first | assumption | (with_reducible refine alloc_at ?_; (focus (first | omega | (simp; done) | (simp; omega)))) | (with_reducible refine boxed_at ?_; (focus (first | omega | (simp; done) | (simp; omega)))) | (with_reducible refine alloc_old ?_ ?_; (focus (first | omega | (simp; done) | (simp; omega)))) | (with_reducible refine boxed_old ?_ ?_; (focus (first | omega | (simp; done) | (simp; omega)))) | (with_reducible refine drew_old ?_)))) (by rfl) (by rfl) (by first | exact Cv.arr_one _ | exact Nv.arr_one _ | exact Av.arr_one rfl | exact Pv.arr_one _ | simp [Value.oneCell']) ?_))
      refine (settled_any (a := { a with l := a.l.set j h' }) (m := m) (((HO4.out.cys.boxed (.inl (by omega))).more (Nat.zero_le _) (by simp))) (by simp only [List.length_set]; exact hs) ⟨HF.out.d0, HF.out.d1, HF.out.n0, HF.out.n1, HF.out.r0, HF.out.r1, HF.out.s0, HF.out.s1, HF.out.c0, HF.out.c1, HF.out.p0, HF.out.p1⟩ hm ?_).mono ?_
      · intro c hc
        rcases List.mem_or_eq_of_mem_set hc with h | h
        · exact HCF.out c h
        · rw [h]; exact HFH.out
      rintro e w5 ⟨v5, rfl, ho5, hb5⟩
      rw [boxed_size] at ho5
      have hZ5 := below_block hb5 (boxed_old (show w.heap.size + 1 + 1 ≠ w.heap.size by omega) hZ4)
      have hz5 : w.heap.size + 1 + 1 < w5.heap.size := (Array.getElem?_eq_some_iff.1 hZ5).1
      have HW5 : Hid (Below w.heap.size w w5) := (boxed_below HW4.out (Nat.le_refl _)).trans (hb5.mono (by simp; omega))
      have HO5 : Hid (Own w5 (w.heap.size + 1 + 1 + 1) v5 _) := ho5.more (by omega)
      obtain ⟨A5, c5, rfl, _, _⟩ := ho5.form
      clear hb5 ho5 hP4 hZ4 HW4 HO4 HF HCF HFH
      go_wp2_with (first | ((with_reducible_and_instances (show wpList _ _ _ (Oper.mk _ (Op.store 32 _ _) _ _ _ _ :: _) _ _)); refine wl_store info13 rfl rfl rfl rfl (by (repeat (first | assumption | (with_reducible refine alloc_at ?_; (focus (first | omega | (simp; done) | (simp; omega)))) | (with_reducible refine boxed_at ?_; (focus (first | omega | (simp; done) | (simp; omega)))) | (with_reducible refine alloc_old ?_ ?_; (focus (first | omega | (simp; done) | (simp; omega)))) | (with_reducible refine boxed_old ?_ ?_; (focus (first | omega | (simp; done) | (simp; omega)))) | (with_reducible refine drew_old ?_)))) (by rfl) (by rfl) (by first | exact Cv.arr_one _ | exact Nv.arr_one _ | exact Av.arr_one rfl | exact Pv.arr_one _ | simp [Value.oneCell']) ?_))
      refine bodyPost_ret (results_row_tmp rfl _ _ (w.heap.size + 1 + 1) 32 _ (0, 0) _ rfl (boxed_at (by omega)) Tryz.underlying32 rfl (by exact info13)) rfl ?_
      refine ⟨fun _ => ?_, fun h => absurd HQ.out h⟩
      rw [HH.out]
      exact ⟨_, rfl, (Own.boxed HO5.out (by omega)).more (by omega), boxed_below HW5.out (by omega)⟩
    · have hbe : (q == 0) = false := by simpa using he
      have hW9 := HW9.out
      have hZ9 := HZ9.out
      go_wp2_with (first | ((with_reducible_and_instances (show wpList _ _ _ (Oper.mk _ (Op.store 32 _ _) _ _ _ _ :: _) _ _)); refine wl_store info13 rfl rfl rfl rfl (by (repeat (first | assumption | (with_reducible refine alloc_at ?_; (focus (first | omega | (simp; done) | (simp; omega)))) | (with_reducible refine boxed_at ?_; (focus (first | omega | (simp; done) | (simp; omega)))) | (with_reducible refine alloc_old ?_ ?_; (focus (first | omega | (simp; done) | (simp; omega)))) | (with_reducible refine boxed_old ?_ ?_; (focus (first | omega | (simp; done) | (simp; omega)))) | (with_reducible refine drew_old ?_)))) (by rfl) (by rfl) (by first | exact Cv.arr_one _ | exact Nv.arr_one _ | exact Av.arr_one rfl | exact Pv.arr_one _ | simp [Value.oneCell']) ?_))
      refine bodyPost_ret (results_row_tmp rfl _ _ (w.heap.size + 1 + 1) 32 _ (0, 0) _ rfl (boxed_at (by omega)) Tryz.underlying32 rfl (by exact info13)) rfl ?_
      refine ⟨fun h0 => absurd (HQ.out.symm.trans h0) he, fun _ => ⟨?_, boxed_below hW9 (by omega)⟩⟩
      rw [HQ.out]
      rfl
end Go.Proofs.YtblikgbcakgdnaaGreat
