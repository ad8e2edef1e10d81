/-
  A book as bytes: package book's Encode. No conditions but the sizes.
-/
import Derived.Test.YtblikgbcakgdnaaGreatBr39
set_option linter.unusedSimpArgs false
set_option linter.unusedVariables false
namespace Go.Proofs.YtblikgbcakgdnaaGreat
set_option linter.unusedVariables false
set_option linter.unusedSimpArgs false
set_option maxRecDepth 100000
open Go.ChangeShapes Go.WideShapes Go.ChangeAt Go.RowKit

theorem region_frame2b {P : Program} {cd : Code} {Q : Exit → Act → World → Prop} {a : Act} {w : World} (Facts : Nat → Nat → World → Prop) (fr : Nat → Nat → Act)
    (h : cd.wp P (fun e a' w' => e = .normal ∧ ∃ G Z, a' = fr G Z ∧ Facts G Z w') a w) (hk : ∀ G Z w', Facts G Z w' → Q .normal (fr G Z) w') : cd.wp P Q a w :=
  wp_mono h (by rintro e a' w' ⟨rfl, G, Z, rfl, hf⟩; exact hk _ _ _ hf)
theorem pln_take {l : List Pv} {k : Nat} {c : Pv} (h : l[k]? = some c) : (l.take (k + 1)).flatMap Kbe.pln = (l.take k).flatMap Kbe.pln ++ Kbe.pln c := by
  obtain ⟨hk, rfl⟩ := List.getElem?_eq_some_iff.1 h
  rw [List.take_succ_eq_append_getElem hk, List.flatMap_append, List.flatMap_singleton]
theorem pln_len : ∀ l : List Pv, (l.flatMap Kbe.pln).length = l.length * 6
  | [] => rfl
  | c :: r => by rw [List.flatMap_cons, List.length_append, pln_len r, List.length_cons]; show 6 + _ = _; omega
structure Kbe.PSm (p : Pv) : Prop where
  a : Kbe.Sm p.a
  u : 0 ≤ p.u ∧ p.u < 256
  e : Kbe.Sm p.e
  t : Kbe.Sm p.t
theorem Kbe.pln_sm {p : Pv} (h : Kbe.PSm p) : ∀ n ∈ Kbe.pln p, Kbe.Sm n := by
  intro n hn
  unfold Kbe.pln at hn
  simp only [List.mem_cons, List.not_mem_nil, or_false] at hn
  rcases hn with rfl | rfl | rfl | rfl | rfl | rfl
  · exact h.a
  · have := h.u; unfold Kbe.Sm; omega
  · exact h.e
  · exact h.t
  · exact Kbe.one_sm _
  · exact Kbe.one_sm _
theorem Kbe.acc_sm {a : Av} (h : Kbe.ASm a) (hl : a.l.length ≤ 100000) : ∀ n ∈ Kbe.acc a, Kbe.Sm n := by
  intro n hn
  unfold Kbe.acc at hn
  have hst := h.st
  split at hn
  · rw [List.mem_singleton] at hn; rw [hn]; unfold Kbe.Sm; omega
  rcases List.mem_append.1 hn with hn | hn
  · simp only [List.mem_cons, List.not_mem_nil, or_false] at hn
    rcases hn with rfl | rfl | rfl | rfl | rfl | rfl | rfl | rfl | rfl | rfl | rfl | rfl | rfl
    · unfold Kbe.Sm; omega
    · exact h.pl
    · exact h.an
    · exact h.ix
    · exact h.ct
    · exact h.cr
    · exact Kbe.one_sm _
    · exact h.dn
    · exact h.un
    · exact h.rf
    · exact h.sp
    · exact h.pd
    · unfold Kbe.Sm; omega
  · obtain ⟨z, hz, hm⟩ := List.mem_flatMap.1 hn
    exact Kbe.cyc_sm (h.cs z hz) n hm
theorem Kbe.subs_sm {a : Nat → Av} (h : ∀ k, k < 32 → Kbe.ASm (a k) ∧ (a k).l.length ≤ 100000) : ∀ m, m ≤ 32 → ∀ n ∈ Kbe.subs a m, Kbe.Sm n
  | 0, _ => fun n hn => by simp [Kbe.subs] at hn
  | m + 1, hm => fun n hn => by
    rcases List.mem_append.1 hn with hn | hn
    · exact Kbe.subs_sm h m (by omega) n hn
    · exact Kbe.acc_sm (h m (by omega)).1 (h m (by omega)).2 n hn
theorem Kbe.subs_mono {a : Nat → Av} : ∀ m n, m ≤ n → (Kbe.subs a m).length ≤ (Kbe.subs a n).length
  | m, 0, h => by rw [show m = 0 by omega]; exact Nat.le_refl _
  | m, n + 1, h => by
    by_cases e : m = n + 1
    · rw [e]; exact Nat.le_refl _
    · have := Kbe.subs_mono (a := a) m n (by omega)
      rw [Kbe.subs, List.length_append]; omega
/-- What a book's bytes are asked of: small numbers, and not too many. -/
structure Kbe.BSm (td : Int) (ps : List Pv) (a : Nat → Av) : Prop where
  day : Kbe.Sm td
  pok : ∀ p ∈ ps, Kbe.PSm p
  pl : ps.length ≤ 1000
  sub : ∀ k, k < 32 → Kbe.ASm (a k) ∧ (a k).l.length ≤ 100000
  len : (Kbe.book td ps a).length ≤ 7000000
theorem info6k : (Tryz.prog.info? 44).map (·.size) = some 6 := by kernel_rfl
theorem put_at8 (w : World) (R g : Nat) (l : List Int) (cs : Array Value) (ns : List Int) (m c B : Nat) (hb : w.heap[B]? = some (.cells cs 2 (0, 0))) (hc : cs.toList = cl .i64 ns) (hm : ns.length = m) (h : PB w R g l) (hl : l.length ≤ 80000000) (hn : ns.length ≤ 1000) (hi : I64 ns) :
    Calls Tryz.prog 40 #[.pointer (some ⟨g, 0, none⟩), .slice (some ⟨B, 0, none⟩) m c] w (PutP w R g (l ++ Pk.encs ns)) := by
  subst hm
  refine put_any _ R g l _ c ns h (fun _ => ⟨_, rfl, .inr ⟨_, hb⟩, fun j u hu => ?_⟩) hl hn hi
  rw [ad_head, cell_of_row _ _ _ _ _ (0, 0) hb, ← Array.getElem?_toList, hc]
  unfold cl; rw [List.getElem?_map, hu]; rfl
set_option maxHeartbeats 8000000 in
theorem encode_any {w : World} {b : Kb} {ps : List Pv} (h : KbM w 0 w.heap.size b ps) (hs : Kbe.BSm b.td ps b.a) : Calls Tryz.prog 17 #[.agg b.arr] w (Owned w (Pk.encs (Kbe.book b.td ps b.a))) := by
  have H := Lib.hid h
  have HS := Lib.hid hs
  obtain ⟨A, cc, hvp, hcc1, hcc2, _, _⟩ := h.ps
  have HVP := Lib.hid hvp
  clear h hs hvp
  obtain ⟨w0, hw0⟩ : ∃ w0, w.alloc (.cells b.arr 35) = w0 := ⟨_, rfl⟩
  have HB0 : Hid (Below w.heap.size w w0) := Lib.hid (by rw [← hw0]; exact (Below.refl _ w).alloc (Nat.le_refl _) _)
  have HK0 : Hid (w0.heap[w.heap.size]? = some (.cells b.arr 35 (0, 0))) := Lib.hid (by rw [← hw0]; exact alloc_block)
  have hz0 : w0.heap.size = w.heap.size + 1 := by rw [← hw0]; simp
  have HZ0 := Lib.hid hz0
  clear hz0
  go_enter Tryz.func17, Tryz.ntmps17
  go_upto_region 1 with fail
  clear hw0
  apply region_frame2b (fun G Z w' => w0.heap.size ≤ G ∧ PB w' w0.heap.size G (Pk.encs [b.td, (ps.length : Int)]) ∧ Below w0.heap.size w0 w')
  · obtain ⟨V0, hV0⟩ : ∃ V0, w0.drew = V0 := ⟨_, rfl⟩
    have hb0 : Below w0.heap.size w0 V0 := by rw [← hV0]; exact (Below.refl _ w0).drew
    have hs0 : V0.heap[w.heap.size]? = some (.cells b.arr 35 (0, 0)) := by rw [← hV0]; exact HK0.out
    have HZV : Hid (V0.heap.size = w0.heap.size) := Lib.hid (by rw [← hV0]; rfl)
    have hI2 : Hid (I64 [b.td, (ps.length : Int)]) := Lib.hid (Kbe.i64 fun n hn => by
      have h1 := HS.out.day
      have h2 := HS.out.pl
      simp only [List.mem_cons, List.not_mem_nil, or_false] at hn
      rcases hn with rfl | rfl
      · exact h1
      · unfold Kbe.Sm; omega)
    refine lane_start (ord := [1, 2, 3, 4, 5, 0, 6, 7, 8]) (S := fun w' => w'.heap[w.heap.size]? = some (.cells b.arr 35 (0, 0))) rfl (by kernel_rfl) (by exact HK0.out) (fun hHeld => ?_)
    rw [hV0]
    iterate 5 (refine lane_take (v := ?_) rfl (by kernel_rfl) (by kernel_rfl) (by rfl) ?_ (by exact hs0) ?_; rotate_left; (focus (intro W hSw; have c0 : W.cell? ⟨w.heap.size, 0, none⟩ = some (.int .i64 b.td) := (by rw [cell_of_row _ _ _ _ _ _ hSw]; exact Kb.at0 b); have c1 : W.cell? ⟨w.heap.size, 1, none⟩ = some (.slice A ps.length cc) := (by rw [cell_of_row _ _ _ _ _ _ hSw, Kb.at1 b, HVP.out]); go_simp; try (with_reducible rfl))); simp only [Act.put, List.setIfInBounds_toArray, List.set_cons_zero, List.set_cons_succ])
    clear hV0 hHeld
    refine lane_two (i := 0) (j := 6) (ordI := [6, 7, 8]) (ordJ := [0, 7, 8]) rfl rfl (by kernel_rfl) rfl (by rfl) (by rfl) (fun K' hK => ?_) (fun K' hK => ?_)
    · go_simp
      refine (new_any _).mono ?_
      rintro x w2 ⟨rfl, hw2⟩
      have hs2 : w2.heap[w.heap.size]? = some (.cells b.arr 35 (0, 0)) := by rw [hw2]; exact alloc_old (by have := HZV.out; have := HZ0.out; omega) hs0
      have hp2 : PB w2 w0.heap.size V0.heap.size [] := by rw [hw2]; exact pb_new _ _ (by have := HZV.out; have := HZ0.out; omega)
      have hb2 : Below w0.heap.size w0 w2 := by rw [hw2]; exact hb0.alloc (by have := HZV.out; have := HZ0.out; omega) _
      have hz2 : Hid (w2.heap.size = V0.heap.size + 1) := Lib.hid (by rw [hw2]; simp)
      obtain ⟨G, hG⟩ : ∃ G, V0.heap.size = G := ⟨_, rfl⟩
      rw [hG] at hp2 hz2 ⊢
      have HG := Lib.hid hG
      clear hG
      refine hK _ _ hs2 (fun hHeld => ?_)
      clear hK K' hw2
      (try simp only [Act.put, List.setIfInBounds_toArray, List.set_cons_zero, List.set_cons_succ])
      refine lane_alone rfl (by kernel_rfl) (by rfl) (fun K' hK => ?_)
      go_simp
      obtain ⟨w3, hw3⟩ : ∃ w3, w2.alloc (.cells #[.int .i64 b.td, .int .i64 (ps.length : Int)] 2) = w3 := ⟨_, rfl⟩
      rw [hw3]
      have hs3 : w3.heap[w.heap.size]? = some (.cells b.arr 35 (0, 0)) := by rw [← hw3]; exact alloc_old (by have := hz2.out; have := HG.out; have := HZV.out; have := HZ0.out; omega) hs2
      obtain ⟨Z, hZ⟩ : ∃ Z, w2.heap.size = Z := ⟨_, rfl⟩
      rw [hZ]
      have HZ := Lib.hid hZ
      clear hZ
      refine hK _ _ hs3 (fun hHeld => ?_)
      clear hK K'
      (try simp only [Act.put, List.setIfInBounds_toArray, List.set_cons_zero, List.set_cons_succ])
      refine lane_alone rfl (by kernel_rfl) (by rfl) (fun K' hK => ?_)
      go_simp
      rw [← hw3]
      refine (put_lit w2 w0.heap.size G [] [b.td, (ps.length : Int)] _ 2 2 Z HZ.out.symm rfl hp2 rfl (by simp) (by simp) hI2.out).mono ?_
      rintro x w4 ⟨rfl, hp4⟩
      have hs4 := hp4.at_ (by decide) (by decide) hs2
      refine hK _ _ hs4 (fun hHeld => ?_)
      clear hK K'
      (try simp only [Act.put, List.setIfInBounds_toArray, List.set_cons_zero, List.set_cons_succ])
      refine lane_take (v := ?_) rfl (by kernel_rfl) (by kernel_rfl) (by rfl) ?_ (by exact hs4) ?_
      rotate_left
      · intro W hSw
        go_simp
        try (with_reducible rfl)
      (try simp only [Act.put, List.setIfInBounds_toArray, List.set_cons_zero, List.set_cons_succ])
      refine lane_end (by kernel_rfl) ?_
      exact ⟨rfl, G, Z, rfl, by have := HG.out; have := HZV.out; have := HZ0.out; omega, by simpa using hp4.box, hb2.trans hp4.below⟩
    · go_simp
      obtain ⟨Z, hZ⟩ : ∃ Z, V0.heap.size = Z := ⟨_, rfl⟩
      obtain ⟨w2, hw2⟩ : ∃ w2, V0.alloc (.cells #[.int .i64 b.td, .int .i64 (ps.length : Int)] 2) = w2 := ⟨_, rfl⟩
      rw [hw2, hZ]
      have HZ := Lib.hid hZ
      clear hZ
      have hs2 : w2.heap[w.heap.size]? = some (.cells b.arr 35 (0, 0)) := by rw [← hw2]; exact alloc_old (by have := HZ.out; have := HZV.out; have := HZ0.out; omega) hs0
      have hb2 : Below w0.heap.size w0 w2 := by rw [← hw2]; exact hb0.alloc (by have := HZ.out; have := HZV.out; have := HZ0.out; omega) _
      have hz2 : Hid (w2.heap.size = Z + 1) := Lib.hid (by rw [← hw2, World.size_alloc, HZ.out])
      have hl2 : w2.heap[Z]? = some (.cells #[.int .i64 b.td, .int .i64 (ps.length : Int)] 2 (0, 0)) := by rw [← hw2, ← HZ.out]; exact alloc_block
      refine hK _ _ hs2 (fun hHeld => ?_)
      clear hK K' hw2
      (try simp only [Act.put, List.setIfInBounds_toArray, List.set_cons_zero, List.set_cons_succ])
      refine lane_alone rfl (by kernel_rfl) (by rfl) (fun K' hK => ?_)
      go_simp
      refine (new_any _).mono ?_
      rintro x w3 ⟨rfl, hw3⟩
      have hs3 : w3.heap[w.heap.size]? = some (.cells b.arr 35 (0, 0)) := by rw [hw3]; exact alloc_old (by have := HZ.out; have := hz2.out; have := HZV.out; have := HZ0.out; omega) hs2
      have hl3 : w3.heap[Z]? = some (.cells #[.int .i64 b.td, .int .i64 (ps.length : Int)] 2 (0, 0)) := by rw [hw3]; exact alloc_old (by have := HZ.out; have := hz2.out; have := HZV.out; have := HZ0.out; omega) hl2
      have hp3 : PB w3 w0.heap.size w2.heap.size [] := by rw [hw3]; exact pb_new _ _ (by have := HZ.out; have := hz2.out; have := HZV.out; have := HZ0.out; omega)
      have hb3 : Below w0.heap.size w0 w3 := by rw [hw3]; exact hb2.alloc (by have := HZ.out; have := hz2.out; have := HZV.out; have := HZ0.out; omega) _
      obtain ⟨G, hG⟩ : ∃ G, w2.heap.size = G := ⟨_, rfl⟩
      rw [hG] at hp3 ⊢
      have HG := Lib.hid hG
      clear hG
      refine hK _ _ hs3 (fun hHeld => ?_)
      clear hK K' hw3
      (try simp only [Act.put, List.setIfInBounds_toArray, List.set_cons_zero, List.set_cons_succ])
      refine lane_alone rfl (by kernel_rfl) (by rfl) (fun K' hK => ?_)
      go_simp
      refine (put_at8 w3 w0.heap.size G [] _ [b.td, (ps.length : Int)] 2 2 Z hl3 rfl rfl hp3 (by simp) (by simp) hI2.out).mono ?_
      rintro x w4 ⟨rfl, hp4⟩
      have hs4 := hp4.at_ (by decide) (by decide) hs3
      refine hK _ _ hs4 (fun hHeld => ?_)
      clear hK K'
      (try simp only [Act.put, List.setIfInBounds_toArray, List.set_cons_zero, List.set_cons_succ])
      refine lane_take (v := ?_) rfl (by kernel_rfl) (by kernel_rfl) (by rfl) ?_ (by exact hs4) ?_
      rotate_left
      · intro W hSw
        go_simp
        try (with_reducible rfl)
      (try simp only [Act.put, List.setIfInBounds_toArray, List.set_cons_zero, List.set_cons_succ])
      refine lane_end (by kernel_rfl) ?_
      exact ⟨rfl, G, Z, rfl, by have := HG.out; have := HZ.out; have := hz2.out; have := HZV.out; have := HZ0.out; omega, by simpa using hp4.box, hb3.trans hp4.below⟩
  rintro G Z w1 ⟨hGR, hpb, hbl⟩
  obtain ⟨R, hR⟩ : ∃ R, w0.heap.size = R := ⟨_, rfl⟩
  have hwR : w.heap.size < R := by have := HZ0.out; omega
  rw [hR] at hpb hbl hGR
  have HP := Lib.hid hpb
  have HB1 := Lib.hid hbl
  have hKB : ∀ V, Below R w0 V → V.heap[w.heap.size]? = some (.cells b.arr 35 (0, 0)) := fun V hV => (hV.block _ hwR).trans HK0.out
  have hKW : ∀ V, Below R w0 V → Below w.heap.size w V := fun V hV => HB0.out.trans (hV.mono (Nat.le_of_lt hwR))
  have HKB := Lib.hid hKB
  have HKW := Lib.hid hKW
  have HRS := Lib.hid hR
  clear hpb hbl hKB hKW hR
  obtain ⟨n, hn⟩ : ∃ n, ps.length = n := ⟨_, rfl⟩
  have HN := Lib.hid hn
  have hn1 : n ≤ 1000 := by rw [← hn]; exact HS.out.pl
  have hpre : ∀ k, ∀ m ∈ [b.td, (n : Int)] ++ (ps.take k).flatMap Kbe.pln, Kbe.Sm m := fun k m hm => by
    rcases List.mem_append.1 hm with hm | hm
    · have h1 := HS.out.day
      simp only [List.mem_cons, List.not_mem_nil, or_false] at hm
      rcases hm with rfl | rfl
      · exact h1
      · unfold Kbe.Sm; omega
    · obtain ⟨z, hz, hm⟩ := List.mem_flatMap.1 hm
      exact Kbe.pln_sm (HS.out.pok z (List.mem_of_mem_take hz)) m hm
  have HPRE := Lib.hid hpre
  rw [hn] at HP HVP hcc1 ⊢
  clear hn hpre
  obtain ⟨td, htd⟩ : ∃ td, b.td = td := ⟨_, rfl⟩
  have HTD := Lib.hid htd
  rw [htd] at HP HPRE ⊢
  clear htd
  have c1 : w1.cell? ⟨w.heap.size, 1, none⟩ = some (.slice A n cc) := by rw [cell_of_row _ _ _ _ _ _ (HKB.out _ HB1.out), Kb.at1 b, HVP.out]
  go_wp2_with fail
  clear c1
  go_loopw [19] (fun i wq => ∃ k : Nat, k ≤ n ∧ i = .int .i64 k ∧ Hid (PB wq R G (Pk.encs ([td, (n : Int)] ++ (ps.take k).flatMap Kbe.pln))) ∧ Hid (Below R w0 wq)) (fun i _ => n - (intOf i).toNat)
  case atStart => exact ⟨0, Nat.zero_le _, rfl, by simpa using HP, HB1⟩
  case round =>
    clear HP HB1
    obtain ⟨k, hk, rfl, HQ, HW⟩ := hrel
    by_cases hlt : k < n
    case neg =>
      obtain rfl : k = n := by omega
      have dlt : decide ((k : Int) < (k : Int)) = false := by simp
      obtain ⟨pre, hpre⟩ : ∃ pre, [td, (k : Int)] ++ ps.flatMap Kbe.pln = pre := ⟨_, rfl⟩
      have hq : PB wr R G (Pk.encs pre) := by
        have h9 := HQ.out
        rw [List.take_of_length_le (by rw [HN.out]; exact Nat.le_refl _), hpre] at h9
        exact h9
      have HPS : Hid (∀ m ∈ pre, Kbe.Sm m) := Lib.hid (by
        have h9 := HPRE.out k
        rw [List.take_of_length_le (by rw [HN.out]; exact Nat.le_refl _), hpre] at h9
        exact h9)
      have HBK : Hid (Kbe.book td ps b.a = pre ++ Kbe.subs b.a 32) := Lib.hid (by rw [← hpre]; unfold Kbe.book; rw [HN.out])
      have HLB : Hid (pre.length + (Kbe.subs b.a 32).length ≤ 7000000) := Lib.hid (by
        have h9 := HS.out.len
        rw [HTD.out, HBK.out, List.length_append] at h9
        exact h9)
      have HQ := Lib.hid hq
      clear hpre hq
      go_wp2_with (((with_reducible_and_instances (show wpList _ _ _ (Oper.mk _ (Op.load 33 _) _ _ _ _ :: _) _ _)); refine stop_here ?_))
      refine ⟨?_⟩
      refine wpList_load_mid rfl _ _ rfl w.heap.size 2 rfl b.subs.toList _ (Kb.range_subs (HKB.out _ HW.out)) Tryz.underlying33 rfl Kb.infos_l ?_
      rw [Array.toArray_toList]
      go_wp2_with fail
      go_loopw [29] (fun i wq => ∃ j : Nat, j ≤ 32 ∧ i = .int .i64 j ∧ Hid (PB wq R G (Pk.encs (pre ++ Kbe.subs b.a j))) ∧ Hid (Below R w0 wq)) (fun i _ => 32 - (intOf i).toNat)
      case atStart => exact ⟨0, by omega, rfl, by simpa [Kbe.subs] using HQ, HW⟩
      case round =>
        clear HQ HW dlt
        obtain ⟨j, hj, rfl, HQ, HW⟩ := hrel
        by_cases hlt : j < 32
        case neg =>
          obtain rfl : j = 32 := by omega
          have dlt : decide (((32 : Nat) : Int) < 32) = false := by decide
          go_wp2_with fail
          refine (done_put _ _ _ _ HQ.out ?_).mono ?_
          · have h9 := Kbe.encs_le (ns := pre ++ Kbe.subs b.a 32) fun m hm => by
              rcases List.mem_append.1 hm with hm | hm
              · exact HPS.out m hm
              · exact Kbe.subs_sm HS.out.sub 32 (Nat.le_refl _) m hm
            have := HLB.out
            rw [List.length_append] at h9
            omega
          intro x w5 hO
          obtain ⟨A5, n5, c5, rfl, HN5, HO5, HB5, _, h51, h52⟩ := hO.open_
          clear hO
          go_wp2
          go_ret
          have hz := (HKW.out _ HW.out).size
          rw [HTD.out, HBK.out]
          have hf := HN5.out
          subst hf
          exact ⟨A5, c5, rfl, ⟨HO5.out.1, HO5.out.2.elim .inl fun ⟨g, cap, cur, h1, h2, h3⟩ => .inr ⟨g, cap, cur, h1, Nat.le_trans hz h2, h3⟩⟩, (HKW.out _ HW.out).trans (HB5.out.mono hz), h51, h52⟩
        case pos =>
          have dlt : decide ((j : Int) < 32) = true := by simp; omega
          have q := fun w => Kb.run_index b hlt w
          obtain ⟨hsm, hln⟩ := HS.out.sub j hlt
          have hcy := H.out.cs j hlt
          have hM1 : Kbe.subs b.a (j + 1) = Kbe.subs b.a j ++ Kbe.acc (b.a j) := rfl
          have hmo := Kbe.subs_mono (a := b.a) (j + 1) 32 (by omega)
          have hlb : (Pk.encs (pre ++ Kbe.subs b.a j)).length + (Kbe.acc (b.a j)).length * 11 ≤ 77000000 := by
            have h9 := Kbe.encs_le (ns := pre ++ Kbe.subs b.a j) fun m hm => by
              rcases List.mem_append.1 hm with hm | hm
              · exact HPS.out m hm
              · exact Kbe.subs_sm HS.out.sub j hj m hm
            have := HLB.out
            rw [hM1, List.length_append] at hmo
            rw [List.length_append] at h9
            omega
          obtain ⟨M, hM⟩ : ∃ M, Kbe.subs b.a j = M := ⟨_, rfl⟩
          rw [hM] at HQ hM1 hlb
          have HM1 := Lib.hid hM1
          obtain ⟨a, ha⟩ : ∃ a, b.a j = a := ⟨_, rfl⟩
          obtain ⟨v, hv⟩ : ∃ v, b.v j = v := ⟨_, rfl⟩
          rw [ha, hv] at q hcy
          rw [ha] at hsm HM1 hlb
          have HSM := Lib.hid hsm
          have HLB2 := Lib.hid hlb
          have HCY := Lib.hid hcy
          have hv1 : v.oneCell' = true := by obtain ⟨A, c, he, _⟩ := hcy; rw [he]; rfl
          have hjI : (j : Int) < 32 := by omega
          have hjJ : (0 : Int) ≤ (j : Int) := by omega
          have hRr : R ≤ wr.heap.size := by have := HQ.out.lt; omega
          clear ha hv hcy hM hM1 hmo hlb hsm
          go_wp2_with (((with_reducible_and_instances (show wpList _ _ _ (Oper.mk _ (Op.store 32 _ _) _ _ _ _ :: _) _ _)); refine stop_here ?_))
          refine ⟨?_⟩
          refine wl_store (g := wr.heap.size) info13 rfl rfl rfl rfl (alloc_at rfl) rfl rfl (Av.arr_one hv1) ?_
          obtain ⟨W3, hW3⟩ : ∃ W3, boxed (wr.alloc (.cells #[.int .u8 0, .int .i64 0, .int .i64 0, .int .i64 0, .int .i64 0, .int .i64 0, .bool false, .slice none 0 0, .int .i64 0, .int .i64 0, .int .i64 0, .int .i64 0, .int .i64 0] 32)) wr.heap.size (a.arr v) 32 = W3 := ⟨_, rfl⟩
          have s2 : W3.heap[wr.heap.size]? = some (.cells (a.arr v) 32 (0, 0)) := by rw [← hW3]; exact boxed_at (by simp)
          have hb3 : Below wr.heap.size wr W3 := by rw [← hW3]; exact boxed_below ((Below.refl _ wr).alloc (Nat.le_refl _) _) (by omega)
          have HV3 : Hid (Below R w0 W3) := Lib.hid (HW.out.trans (hb3.mono hRr))
          have HQ3 := Lib.hid (HQ.out.below hb3)
          rw [hW3]
          obtain ⟨ab, hab⟩ : ∃ ab, wr.heap.size = ab := ⟨_, rfl⟩
          rw [hab] at s2 ⊢
          clear hW3 hab q HW HQ hRr hb3 wr
          go_wp2_with (((with_reducible_and_instances (show wpList _ _ _ (Oper.mk _ (Op.load 32 _) _ _ _ _ :: _) _ _)); refine stop_here ?_))
          refine ⟨?_⟩
          refine wl_load (cs := a.arr v) (fr := (0, 0)) (g := ab) Tryz.underlying32 rfl info13 rfl rfl rfl s2 rfl ?_
          go_wp2_with fail
          refine (putAccount_any W3 R G _ a v 0 HQ3.out ?_ (by have := HLB2.out; omega) HSM.out).mono ?_
          · exact ((HCY.out.kept fun i _ h2 => (HKW.out _ HV3.out).block i h2).more (Nat.le_refl _) (Nat.le_of_lt hwR))
          rintro x W4 ⟨rfl, hp4⟩
          have HQ4 : Hid (PB W4 R G (Pk.encs (pre ++ Kbe.subs b.a (j + 1)))) := Lib.hid (by
            have h9 := hp4.box
            rw [HM1.out]
            rw [← Pk.encs_append, List.append_assoc] at h9
            exact h9)
          have HW4 : Hid (Below R w0 W4) := Lib.hid (HV3.out.trans hp4.below)
          clear hp4 HQ3 HV3 s2
          go_wp2_with fail
          go_roundw
          case rel => exact ⟨j + 1, by omega, by go_num, HQ4, HW4⟩
          case measure => simp [intOf]; omega
    case pos =>
      have dlt : decide ((k : Int) < (n : Int)) = true := by simp; omega
      have hkJ : (k : Int) < (n : Int) := by omega
      have hk0 : (0 : Int) ≤ (k : Int) := by omega
      obtain ⟨p, hp⟩ : ∃ p, ps[k]? = some p := ⟨_, List.getElem?_eq_getElem (by rw [HN.out]; exact hlt)⟩
      obtain ⟨g2, o2, cap, hvg, _, _, _, _, hgR, hr⟩ := H.out.ps.at_ hp
      rw [HVP.out] at hvg
      injection hvg with hA2 hn2 hc2
      subst hA2
      clear hn2 hc2
      have HR2 : Hid (wr.rangeAt g2 (o2 + k * 6) p.cs) := Lib.hid fun i u hu => (World.cell?_of_block (a := ⟨g2, o2 + k * 6 + i, none⟩) ((HKW.out _ HW.out).block g2 hgR)).trans (hr i u hu)
      have HSP := Lib.hid (HS.out.pok p (List.mem_of_getElem? hp))
      have HFT := Lib.hid (pln_take hp)
      have hlb : (Pk.encs ([td, (n : Int)] ++ (ps.take k).flatMap Kbe.pln)).length ≤ (2 + k * 6) * 11 := by
        have h9 := Kbe.encs_le (HPRE.out k)
        have h8 : (ps.take k).length = k := by rw [List.length_take, HN.out, Nat.min_eq_left (by omega)]
        rw [List.length_append, pln_len, h8] at h9
        exact h9
      have hRr : R ≤ wr.heap.size := by have := HQ.out.lt; omega
      clear hp hr
      obtain ⟨pa, pu, pe, pt, pg, pl⟩ := p
      go_wp2_with (((with_reducible_and_instances (show wpList _ _ _ (Oper.mk _ (Op.load 44 _) _ _ _ _ :: _) _ _)); refine stop_here ?_))
      refine ⟨?_⟩
      refine wpList_load_mid rfl _ _ rfl g2 (o2 + k * 6) rfl [.int .i64 pa, .int .u8 pu, .int .i64 pe, .int .i64 pt, .bool pg, .bool pl] _ HR2.out Tryz.underlying44 rfl info6k ?_
      go_wp2_with fail
      refine (plput_any (wr.alloc (.cells #[.int .i64 pa, .int .u8 pu, .int .i64 pe, .int .i64 pt, .bool pg, .bool pl] 44)) R G _ pa pu pe pt pg pl (HQ.out.alloc _) (by omega) (by have := HSP.out.a; unfold Kbe.Sm at this; dsimp only at this; omega) HSP.out.u (by have := HSP.out.e; unfold Kbe.Sm at this; dsimp only at this; omega) (by have := HSP.out.t; unfold Kbe.Sm at this; dsimp only at this; omega)).mono ?_
      rintro x w8 ⟨rfl, hp8⟩
      have HQ8 : Hid (PB w8 R G (Pk.encs ([td, (n : Int)] ++ (ps.take (k + 1)).flatMap Kbe.pln))) := Lib.hid (by
        have h9 := hp8.box
        rw [Pn.bytes_eq, ← Pk.encs_append] at h9
        rw [HFT.out, ← List.append_assoc]
        exact h9)
      have HW8 : Hid (Below R w0 w8) := Lib.hid (HW.out.trans ((hp8.of_alloc hRr).below))
      clear hp8 HQ HW
      go_wp2_with fail
      go_roundw
      case rel => exact ⟨k + 1, by omega, by go_num, HQ8, HW8⟩
      case measure => simp [intOf]; omega
end Go.Proofs.YtblikgbcakgdnaaGreat
