/-
  A book's bytes; cycles and subscriptions put into a box. No conditions but the sizes.
-/
import Derived.Test.YtblikgbcakgdnaaGreatBr03
import Derived.Test.YtblikgbcakgdnaaGreatBr13
import Derived.Test.YtblikgbcakgdnaaGreatBr37
set_option linter.unusedSimpArgs false
set_option linter.unusedVariables false
namespace Go.Proofs.YtblikgbcakgdnaaGreat
set_option linter.unusedVariables false
set_option linter.unusedSimpArgs false
set_option maxRecDepth 100000
open Go.ChangeShapes Go.WideShapes Go.ChangeAt Go.RowKit

namespace Kbe
/-- A cycle's numbers; a subscription's; a book's. -/
def cyc (c : Cv) : List Int := [c.n, c.d, c.p, c.a, c.u, c.t, c.x, Pn.one c.g]
def acc (a : Av) : List Int := if a.st = 0 then [0] else [a.st, a.pl, a.an, a.ix, a.ct, a.cr, Pn.one a.sk, a.dn, a.un, a.rf, a.sp, a.pd, (a.l.length : Int)] ++ a.l.flatMap cyc
def pln (p : Pv) : List Int := [p.a, p.u, p.e, p.t, Pn.one p.g, Pn.one p.l]
def subs (a : Nat → Av) : Nat → List Int
  | 0 => []
  | n + 1 => subs a n ++ acc (a n)
def book (td : Int) (ps : List Pv) (a : Nat → Av) : List Int := [td, (ps.length : Int)] ++ ps.flatMap pln ++ subs a 32
/-- Numbers that an int64 holds, far from its ends. -/
def Sm (x : Int) : Prop := -9223372036854775808 ≤ x ∧ x ≤ 9223372036854775807
structure CSm (c : Cv) : Prop where
  n : Sm c.n
  d : Sm c.d
  p : 0 ≤ c.p ∧ c.p < 256
  a : Sm c.a
  u : Sm c.u
  t : Sm c.t
  x : Sm c.x
structure ASm (a : Av) : Prop where
  st : 0 ≤ a.st ∧ a.st < 256
  pl : Sm a.pl
  an : Sm a.an
  ix : Sm a.ix
  ct : Sm a.ct
  cr : Sm a.cr
  dn : Sm a.dn
  un : Sm a.un
  rf : Sm a.rf
  sp : Sm a.sp
  pd : Sm a.pd
  cs : ∀ c ∈ a.l, CSm c
theorem one_sm (b : Bool) : Sm (Pn.one b) := by have := Pn.one_ok b; unfold Sm; omega
theorem i64 {ns : List Int} (h : ∀ n ∈ ns, Sm n) : I64 ns := fun n hn => by have := h n hn; unfold Sm at this; omega
theorem cyc_sm {c : Cv} (h : CSm c) : ∀ n ∈ cyc c, Sm n := by
  intro n hn
  unfold cyc at hn
  simp only [List.mem_cons, List.not_mem_nil, or_false] at hn
  rcases hn with rfl | rfl | rfl | rfl | rfl | rfl | rfl | rfl
  · exact h.n
  · exact h.d
  · have := h.p; unfold Sm; omega
  · exact h.a
  · exact h.u
  · exact h.t
  · exact h.x
  · exact one_sm _
theorem encs_le {ns : List Int} (h : ∀ n ∈ ns, Sm n) : (Pk.encs ns).length ≤ ns.length * 11 := by
  have := Pk.encs_len ns (i64 h)
  omega
end Kbe
theorem info8k : (Tryz.prog.info? 112).map (·.size) = some 8 := by kernel_rfl
theorem encs_flag (l : List Int) (b : Bool) : Pk.encs l ++ Pk.enc (Pk.zig (if b = true then 1 else 0)) = Pk.encs (l ++ [Pn.one b]) := by rw [Pk.encs_append, Pk.encs_one]; rfl
/-- Numbers that a literal lays, put. -/
theorem put_lit (w : World) (R g : Nat) (l : List Int) (ns : List Int) (cs : Array Value) (m c B : Nat) (hB : B = w.heap.size) (hm : ns.length = m) (h : PB w R g l) (hcs : cs.toList = cl .i64 ns) (hl : l.length ≤ 80000000) (hn : ns.length ≤ 1000) (hi : I64 ns) :
    Calls Tryz.prog 40 #[.pointer (some ⟨g, 0, none⟩), .slice (some ⟨B, 0, none⟩) m c] (w.alloc (.cells cs 2)) (PutP w R g (l ++ Pk.encs ns)) := by
  subst hm
  subst hB
  have hR : R ≤ w.heap.size := by have := h.lt; omega
  have hs : Src (w.alloc (.cells cs 2)) R (some ⟨w.heap.size, 0, none⟩) ns := fun _ => ⟨_, rfl, .inr ⟨_, alloc_block⟩, lit_cells w cs .i64 ns _ (0, 0) hcs⟩
  refine (put_any _ R g l _ c ns (h.alloc _) hs hl hn hi).mono fun e w' ⟨he, hp⟩ => ⟨he, hp.of_alloc hR⟩
theorem ccell {W : World} {B : Nat} {c : Cv} (h : W.heap[B]? = some (.cells c.arr 112 (0, 0))) : W.cell? ⟨B, 0, none⟩ = some (.int .i64 c.n) ∧ W.cell? ⟨B, 1, none⟩ = some (.int .i64 c.d) ∧ W.cell? ⟨B, 2, none⟩ = some (.int .u8 c.p) ∧ W.cell? ⟨B, 3, none⟩ = some (.int .i64 c.a) ∧ W.cell? ⟨B, 4, none⟩ = some (.int .i64 c.u) ∧ W.cell? ⟨B, 5, none⟩ = some (.int .i64 c.t) ∧ W.cell? ⟨B, 6, none⟩ = some (.int .i64 c.x) ∧ W.cell? ⟨B, 7, none⟩ = some (.bool c.g) :=
  ⟨by rw [cell_of_row _ _ _ _ _ _ h]; rfl, by rw [cell_of_row _ _ _ _ _ _ h]; rfl, by rw [cell_of_row _ _ _ _ _ _ h]; rfl, by rw [cell_of_row _ _ _ _ _ _ h]; rfl, by rw [cell_of_row _ _ _ _ _ _ h]; rfl, by rw [cell_of_row _ _ _ _ _ _ h]; rfl, by rw [cell_of_row _ _ _ _ _ _ h]; rfl, by rw [cell_of_row _ _ _ _ _ _ h]; rfl⟩
set_option maxHeartbeats 4000000 in
theorem putCycle_any (w : World) (R g : Nat) (ls : List Int) (c : Cv) (h : PB w R g ls) (hl : ls.length ≤ 79000000) (hc : Kbe.CSm c) :
    Calls Tryz.prog 75 #[.pointer (some ⟨g, 0, none⟩), .agg c.arr] w fun x w' => x = .returned (.tuple #[]) ∧ Put w R g (ls ++ Pk.encs (Kbe.cyc c)) w' := by
  have hR : R ≤ w.heap.size := by have := h.lt; omega
  have H := Lib.hid h
  obtain ⟨cn, cd, cp, ca, cu, ct, cx, cg⟩ := c
  have HI : Hid (I64 [cn, cd, cp, ca, cu, ct, cx]) := Lib.hid (Kbe.i64 fun n hn => Kbe.cyc_sm hc n (show n ∈ [cn, cd, cp, ca, cu, ct, cx] ++ [Pn.one cg] from List.mem_append_left _ hn))
  have hln : (Pk.encs [cn, cd, cp, ca, cu, ct, cx]).length ≤ 77 := Pk.encs_len _ HI.out
  obtain ⟨hp0, hp1⟩ := hc.p
  dsimp only at hp0 hp1
  have hwp : IntKind.i64.wrap cp = cp := by simp only [IntKind.wrap_i64]; omega
  clear h hc
  go_enter Tryz.func75, Tryz.ntmps75
  go_wp2
  refine lane_start (ord := [0, 1, 2, 3, 4, 5, 6, 7, 8, 9, 10, 11, 12, 13, 14, 15, 18, 19, 16, 17, 20]) (S := fun w' => w'.heap[w.heap.size]? = some (.cells (Cv.arr ⟨cn, cd, cp, ca, cu, ct, cx, cg⟩) 112 (0, 0))) rfl (by kernel_rfl) (alloc_block (w := w)) (fun hHeld => ?_)
  iterate 18 (refine lane_take (v := ?_) rfl (by kernel_rfl) (by kernel_rfl) (by rfl) ?_ (by assumption) ?_; rotate_left; (focus (intro W hSw; obtain ⟨s0, s1, s2, s3, s4, s5, s6, s7⟩ := ccell hSw; (try dsimp only at s0 s1 s2 s3 s4 s5 s6 s7); go_simp; try (with_reducible rfl))); simp only [Act.put, List.setIfInBounds_toArray, List.set_cons_zero, List.set_cons_succ])
  refine lane_alone rfl (by kernel_rfl) (by rfl) (fun K hK => ?_)
  go_simp
  obtain ⟨w1, hw1⟩ : ∃ w1, (w.alloc (.cells (Cv.arr ⟨cn, cd, cp, ca, cu, ct, cx, cg⟩) 112)).drew = w1 := ⟨_, rfl⟩
  have hb1 : Below w.heap.size w w1 := by rw [← hw1]; exact ((Below.refl _ w).alloc (Nat.le_refl _) _).drew
  have hq1 : w1.heap[w.heap.size]? = some (.cells (Cv.arr ⟨cn, cd, cp, ca, cu, ct, cx, cg⟩) 112 (0, 0)) := by rw [← hw1]; exact alloc_block (w := w)
  have hz1 : w1.heap.size = w.heap.size + 1 := by rw [← hw1]; exact World.size_alloc ..
  obtain ⟨w2, hw2⟩ : ∃ w2, w1.alloc (.cells #[.int .i64 cn, .int .i64 cd, .int .i64 cp, .int .i64 ca, .int .i64 cu, .int .i64 ct, .int .i64 cx] 2) = w2 := ⟨_, rfl⟩
  have hw2' : ((w.alloc (.cells (Cv.arr ⟨cn, cd, cp, ca, cu, ct, cx, cg⟩) 112)).alloc (.cells #[.int .i64 cn, .int .i64 cd, .int .i64 cp, .int .i64 ca, .int .i64 cu, .int .i64 ct, .int .i64 cx] 2)).drew = w2 := by rw [← hw2, ← hw1]; rfl
  have hq2 : w2.heap[w.heap.size]? = some (.cells (Cv.arr ⟨cn, cd, cp, ca, cu, ct, cx, cg⟩) 112 (0, 0)) := by rw [← hw2]; exact alloc_old (by omega) hq1
  have hp1 := H.out.below hb1
  rw [hw2']
  refine hK _ _ hq2 (fun hHeld => ?_)
  clear hK K hw2'
  (try simp only [Act.put, List.setIfInBounds_toArray, List.set_cons_zero, List.set_cons_succ])
  refine lane_alone rfl (by kernel_rfl) (by rfl) (fun K hK => ?_)
  go_simp
  rw [← hw2]
  refine (put_lit w1 R g ls [cn, cd, cp, ca, cu, ct, cx] _ 7 7 _ hz1.symm rfl hp1 rfl (by omega) (by simp) HI.out).mono ?_
  rintro x w3 ⟨rfl, hp3⟩
  have hq3 := (hp3.rest _ _ _ (by decide) (by decide) hq1).trans hq1
  refine hK _ _ hq3 (fun hHeld => ?_)
  clear hK K
  (try simp only [Act.put, List.setIfInBounds_toArray, List.set_cons_zero, List.set_cons_succ])
  refine lane_alone rfl (by kernel_rfl) (by rfl) (fun K hK => ?_)
  go_simp
  refine (flag_put w3 R g _ cg hp3.box (by rw [List.length_append]; omega)).mono ?_
  rintro x w4 ⟨rfl, hp4⟩
  have hq4 := (hp4.rest _ _ _ (by decide) (by decide) hq3).trans hq3
  refine hK _ _ hq4 (fun hHeld => ?_)
  refine lane_end (by kernel_rfl) ?_
  go_wp2
  go_end0
  refine ⟨rfl, ?_⟩
  have := ((hp3.trans hp4).of_below hb1 hR)
  rw [List.append_assoc, encs_flag] at this
  exact this
theorem Put.at_ {w w1 : World} {R g n : Nat} {l : List Int} {cs : Array Value} {t : TypeId} (h : Put w R g l w1) (h1 : t ≠ 5) (h2 : t ≠ 109) (k : w.heap[n]? = some (.cells cs t (0, 0))) : w1.heap[n]? = some (.cells cs t (0, 0)) := (h.rest n cs t h1 h2 k).trans k
theorem acell {W : World} {B : Nat} {a : Av} {v : Value} (h : W.heap[B]? = some (.cells (a.arr v) 32 (0, 0))) : W.cell? ⟨B, 0, none⟩ = some (.int .u8 a.st) ∧ W.cell? ⟨B, 1, none⟩ = some (.int .i64 a.pl) ∧ W.cell? ⟨B, 2, none⟩ = some (.int .i64 a.an) ∧ W.cell? ⟨B, 3, none⟩ = some (.int .i64 a.ix) ∧ W.cell? ⟨B, 4, none⟩ = some (.int .i64 a.ct) ∧ W.cell? ⟨B, 5, none⟩ = some (.int .i64 a.cr) ∧ W.cell? ⟨B, 6, none⟩ = some (.bool a.sk) ∧ W.cell? ⟨B, 7, none⟩ = some v ∧ W.cell? ⟨B, 8, none⟩ = some (.int .i64 a.dn) ∧ W.cell? ⟨B, 9, none⟩ = some (.int .i64 a.un) ∧ W.cell? ⟨B, 10, none⟩ = some (.int .i64 a.rf) ∧ W.cell? ⟨B, 11, none⟩ = some (.int .i64 a.sp) ∧ W.cell? ⟨B, 12, none⟩ = some (.int .i64 a.pd) :=
  ⟨by rw [cell_of_row _ _ _ _ _ _ h]; rfl, by rw [cell_of_row _ _ _ _ _ _ h]; rfl, by rw [cell_of_row _ _ _ _ _ _ h]; rfl, by rw [cell_of_row _ _ _ _ _ _ h]; rfl, by rw [cell_of_row _ _ _ _ _ _ h]; rfl, by rw [cell_of_row _ _ _ _ _ _ h]; rfl, by rw [cell_of_row _ _ _ _ _ _ h]; rfl, by rw [cell_of_row _ _ _ _ _ _ h]; rfl, by rw [cell_of_row _ _ _ _ _ _ h]; rfl, by rw [cell_of_row _ _ _ _ _ _ h]; rfl, by rw [cell_of_row _ _ _ _ _ _ h]; rfl, by rw [cell_of_row _ _ _ _ _ _ h]; rfl, by rw [cell_of_row _ _ _ _ _ _ h]; rfl⟩
theorem flat_take {l : List Cv} {k : Nat} {c : Cv} (h : l[k]? = some c) : (l.take (k + 1)).flatMap Kbe.cyc = (l.take k).flatMap Kbe.cyc ++ Kbe.cyc c := by
  obtain ⟨hk, rfl⟩ := List.getElem?_eq_some_iff.1 h
  rw [List.take_succ_eq_append_getElem hk, List.flatMap_append, List.flatMap_singleton]
theorem flat_len : ∀ l : List Cv, (l.flatMap Kbe.cyc).length = l.length * 8
  | [] => rfl
  | c :: r => by rw [List.flatMap_cons, List.length_append, flat_len r, List.length_cons]; show 8 + _ = _; omega
set_option maxHeartbeats 8000000 in
theorem putAccount_any (w : World) (R g : Nat) (ls : List Int) (a : Av) (v : Value) (b0 : Nat) (h : PB w R g ls) (hcy : Cys w b0 R v a.l) (hl : ls.length + (Kbe.acc a).length * 11 ≤ 79000000) (hs : Kbe.ASm a) :
    Calls Tryz.prog 42 #[.pointer (some ⟨g, 0, none⟩), .agg (a.arr v)] w fun x w' => x = .returned (.tuple #[]) ∧ Put w R g (ls ++ Pk.encs (Kbe.acc a)) w' := by
  have hR : R ≤ w.heap.size := by have := h.lt; omega
  have H := Lib.hid h
  have HCY := Lib.hid hcy
  have HS := Lib.hid hs
  have hst := hs.st
  obtain ⟨h0, h1⟩ := hst
  have hv1 : v.oneCell' = true := by obtain ⟨A, c, he, _⟩ := hcy; rw [he]; rfl
  clear h hcy hs
  have hA0 : (w.alloc (.cells (a.arr v) 32)).heap[w.heap.size]? = some (.cells (a.arr v) 32 (0, 0)) := alloc_block
  obtain ⟨w0, hw0⟩ : ∃ w0, w.alloc (.cells (a.arr v) 32) = w0 := ⟨_, rfl⟩
  have hb0 : Below w.heap.size w w0 := by rw [← hw0]; exact (Below.refl _ w).alloc (Nat.le_refl _) _
  have hz0 : w0.heap.size = w.heap.size + 1 := by rw [← hw0]; simp
  have hp0 := H.out.below hb0
  have HB0 := Lib.hid hb0
  have HP0 := Lib.hid hp0
  rw [hw0] at hA0
  have HA0 := Lib.hid hA0
  clear hb0 hp0 hA0
  have hss : Kbe.Sm a.st := by unfold Kbe.Sm; omega
  go_enter Tryz.func42, Tryz.ntmps42
  obtain ⟨c0, _⟩ := acell HA0.out
  go_wp2_with fail
  clear hw0 c0
  refine (put_lit w0 R g ls [a.st] _ 1 1 _ hz0.symm rfl HP0.out rfl (by omega) (by simp) (Kbe.i64 fun n hn => by rw [List.mem_singleton] at hn; rw [hn]; exact hss)).mono ?_
  rintro x w1 ⟨rfl, hp1⟩
  have HP1 := Lib.hid hp1
  have HA1 := Lib.hid (hp1.at_ (by decide) (by decide) HA0.out)
  obtain ⟨c0, c1, c2, c3, c4, c5, c6, c7, c8, c9, c10, c11, c12⟩ := acell HA1.out
  clear hp1
  by_cases hst : a.st = 0
  · have d0 : (a.st == 0) = true := by simpa using hst
    have HST := Lib.hid hst
    clear hst
    go_wp2_with fail
    refine bodyPost_ret (v := .tuple #[]) (by simp [results, Tryz.results42]) rfl ⟨rfl, ?_⟩
    have := HP1.out.of_below HB0.out hR
    unfold Kbe.acc
    rw [if_pos HST.out]
    rw [HST.out] at this
    exact this
  have d0 : (a.st == 0) = false := by simpa using hst
  have hacc : Kbe.acc a = [a.st] ++ ([a.pl, a.an, a.ix, a.ct, a.cr] ++ [Pn.one a.sk] ++ [a.dn, a.un, a.rf, a.sp, a.pd] ++ [(a.l.length : Int)]) ++ a.l.flatMap Kbe.cyc := by unfold Kbe.acc; rw [if_neg hst]; simp
  have hal : (Kbe.acc a).length = 13 + a.l.length * 8 := by rw [hacc, List.length_append, flat_len]; simp
  rw [hal] at hl
  have HACC := Lib.hid hacc
  clear hst hacc hal
  go_wp2_with fail
  clear c0 c1 c2 c3 c4 c5 c6 c7 c8 c9 c10 c11 c12
  refine lane_start (ord := [0, 1, 2, 3, 4, 5, 6, 7, 8, 9, 10, 13, 14, 11, 12, 15]) (S := fun w' => w'.heap[w.heap.size]? = some (.cells (a.arr v) 32 (0, 0))) rfl (by kernel_rfl) (by exact HA1.out) (fun hHeld => ?_)
  iterate 13 (refine lane_take (v := ?_) rfl (by kernel_rfl) (by kernel_rfl) (by rfl) ?_ (by assumption) ?_; rotate_left; (focus (intro W hSw; obtain ⟨s0, s1, s2, s3, s4, s5, s6, s7, s8, s9, s10, s11, s12⟩ := acell hSw; go_simp; try (with_reducible rfl))); simp only [Act.put, List.setIfInBounds_toArray, List.set_cons_zero, List.set_cons_succ])
  refine lane_alone rfl (by kernel_rfl) (by rfl) (fun K hK => ?_)
  go_simp
  obtain ⟨w2, hw2⟩ : ∃ w2, w1.drew = w2 := ⟨_, rfl⟩
  have hb2 : Below w1.heap.size w1 w2 := by rw [← hw2]; exact (Below.refl _ w1).drew
  have hz2 : w2.heap.size = w1.heap.size := by rw [← hw2]; rfl
  obtain ⟨w3, hw3⟩ : ∃ w3, w2.alloc (.cells #[.int .i64 a.pl, .int .i64 a.an, .int .i64 a.ix, .int .i64 a.ct, .int .i64 a.cr] 2) = w3 := ⟨_, rfl⟩
  have hw3' : (w1.alloc (.cells #[.int .i64 a.pl, .int .i64 a.an, .int .i64 a.ix, .int .i64 a.ct, .int .i64 a.cr] 2)).drew = w3 := by rw [← hw3, ← hw2]; rfl
  have hz1 : w.heap.size < w1.heap.size := (Array.getElem?_eq_some_iff.1 HA1.out).1
  have ha2 : w2.heap[w.heap.size]? = some (.cells (a.arr v) 32 (0, 0)) := by rw [← hw2]; exact HA1.out
  have ha3 : w3.heap[w.heap.size]? = some (.cells (a.arr v) 32 (0, 0)) := by rw [← hw3]; exact alloc_old (by omega) ha2
  have hp2 := HP1.out.box.below hb2
  have hlen1 : (Pk.encs [a.st]).length ≤ 11 := Kbe.encs_le (ns := [a.st]) fun n hn => by rw [List.mem_singleton] at hn; rw [hn]; exact hss
  have hs5 : ∀ n ∈ [a.pl, a.an, a.ix, a.ct, a.cr], Kbe.Sm n := fun n hn => by
    simp only [List.mem_cons, List.not_mem_nil, or_false] at hn
    rcases hn with rfl | rfl | rfl | rfl | rfl
    · exact HS.out.pl
    · exact HS.out.an
    · exact HS.out.ix
    · exact HS.out.ct
    · exact HS.out.cr
  have hlen5 : (Pk.encs [a.pl, a.an, a.ix, a.ct, a.cr]).length ≤ 55 := Kbe.encs_le hs5
  rw [hw3']
  refine hK _ _ ha3 (fun hHeld => ?_)
  clear hK K hw3'
  (try simp only [Act.put, List.setIfInBounds_toArray, List.set_cons_zero, List.set_cons_succ])
  refine lane_alone rfl (by kernel_rfl) (by rfl) (fun K hK => ?_)
  go_simp
  rw [← hw3]
  refine (put_lit w2 R g _ [a.pl, a.an, a.ix, a.ct, a.cr] _ 5 5 _ hz2.symm rfl hp2 rfl (by rw [List.length_append]; omega) (by simp) (Kbe.i64 hs5)).mono ?_
  rintro x w4 ⟨rfl, hp4⟩
  have ha4 := hp4.at_ (by decide) (by decide) ha2
  refine hK _ _ ha4 (fun hHeld => ?_)
  clear hK K
  (try simp only [Act.put, List.setIfInBounds_toArray, List.set_cons_zero, List.set_cons_succ])
  refine lane_alone rfl (by kernel_rfl) (by rfl) (fun K hK => ?_)
  go_simp
  refine (flag_put w4 R g _ a.sk hp4.box (by simp only [List.length_append]; omega)).mono ?_
  rintro x w5 ⟨rfl, hp5⟩
  have ha5 := hp5.at_ (by decide) (by decide) ha4
  refine hK _ _ ha5 (fun hHeld => ?_)
  refine lane_end (by kernel_rfl) ?_
  have HP5 : Hid (Put w1 R g (ls ++ Pk.encs ([a.st] ++ [a.pl, a.an, a.ix, a.ct, a.cr] ++ [Pn.one a.sk])) w5) := Lib.hid (by
    have h9 := (hp4.trans hp5).of_below hb2 (by omega)
    simp only [List.append_assoc] at h9
    rw [encs_flag, ← Pk.encs_append] at h9
    simpa using h9)
  have HA5 := Lib.hid ha5
  clear hK K hp4 hp5 ha4 ha5 ha2 ha3 hp2 hb2 hw2 hw3
  obtain ⟨c0, c1, c2, c3, c4, c5, c6, c7, c8, c9, c10, c11, c12⟩ := acell HA5.out
  go_wp2_with fail
  have hs6 : ∀ n ∈ [a.dn, a.un, a.rf, a.sp, a.pd], Kbe.Sm n := fun n hn => by
    simp only [List.mem_cons, List.not_mem_nil, or_false] at hn
    rcases hn with rfl | rfl | rfl | rfl | rfl
    · exact HS.out.dn
    · exact HS.out.un
    · exact HS.out.rf
    · exact HS.out.sp
    · exact HS.out.pd
  have hs7 : ∀ n ∈ [a.st] ++ [a.pl, a.an, a.ix, a.ct, a.cr] ++ [Pn.one a.sk], Kbe.Sm n := fun n hn => by
    rcases List.mem_append.1 hn with hn | hn
    · rcases List.mem_append.1 hn with hn | hn
      · rw [List.mem_singleton] at hn; rw [hn]; exact hss
      · exact hs5 n hn
    · rw [List.mem_singleton] at hn; rw [hn]; exact Kbe.one_sm _
  have hlen7 : (Pk.encs ([a.st] ++ [a.pl, a.an, a.ix, a.ct, a.cr] ++ [Pn.one a.sk])).length ≤ 77 := Kbe.encs_le hs7
  have hlen6 : (Pk.encs [a.dn, a.un, a.rf, a.sp, a.pd]).length ≤ 55 := Kbe.encs_le hs6
  clear c0 c1 c2 c3 c4 c5 c6 c7 c8 c9 c10 c11 c12
  refine (put_lit w5 R g _ [a.dn, a.un, a.rf, a.sp, a.pd] _ 5 5 _ rfl rfl HP5.out.box rfl (by rw [List.length_append]; omega) (by simp) (Kbe.i64 hs6)).mono ?_
  rintro x w6 ⟨rfl, hp6⟩
  have HP6 := Lib.hid hp6
  have HA6 := Lib.hid (hp6.at_ (by decide) (by decide) HA5.out)
  clear hp6
  obtain ⟨c0, c1, c2, c3, c4, c5, c6, c7, c8, c9, c10, c11, c12⟩ := acell HA6.out
  obtain ⟨A, cc, hva, hcc1, hcc2, hcyr, _⟩ := HCY.out
  subst hva
  have hcn : Kbe.Sm (a.l.length : Int) := by unfold Kbe.Sm; omega
  go_wp2_with fail
  clear c0 c1 c2 c3 c4 c5 c6 c7 c8 c9 c10 c11 c12
  refine (put_lit w6 R g _ [(a.l.length : Int)] _ 1 1 _ rfl rfl HP6.out.box rfl (by simp only [List.length_append] at hlen7 ⊢; omega) (by simp) (Kbe.i64 fun n hn => by rw [List.mem_singleton] at hn; rw [hn]; exact hcn)).mono ?_
  rintro x w7 ⟨rfl, hp7⟩
  obtain ⟨pre, hpre⟩ : ∃ pre, [a.st] ++ ([a.pl, a.an, a.ix, a.ct, a.cr] ++ [Pn.one a.sk] ++ [a.dn, a.un, a.rf, a.sp, a.pd] ++ [(a.l.length : Int)]) = pre := ⟨_, rfl⟩
  have hacc : Kbe.acc a = pre ++ a.l.flatMap Kbe.cyc := by rw [← hpre]; exact HACC.out
  have hpl : pre.length = 13 := by rw [← hpre]; rfl
  have hps : ∀ n ∈ pre, Kbe.Sm n := fun n hn => by
    rw [← hpre] at hn
    rcases List.mem_append.1 hn with hn | hn
    · exact hs7 n (List.mem_append_left _ (List.mem_append_left _ hn))
    rcases List.mem_append.1 hn with hn | hn
    · rcases List.mem_append.1 hn with hn | hn
      · exact hs7 n (by rw [List.append_assoc]; exact List.mem_append_right _ hn)
      · exact hs6 n hn
    · rw [List.mem_singleton] at hn; rw [hn]; exact hcn
  have HQ : Hid (Put w R g (ls ++ Pk.encs pre) w7) := Lib.hid (by
    have h9 := (HP1.out.trans ((HP5.out.trans HP6.out).trans hp7)).of_below HB0.out hR
    rw [← hpre]
    simp only [List.append_assoc, ← Pk.encs_append] at h9 ⊢
    exact h9)
  have HA7 := Lib.hid (hp7.at_ (by decide) (by decide) HA6.out)
  have HACC := Lib.hid hacc
  have HPS := Lib.hid hps
  obtain ⟨_, _, _, _, _, _, _, c7, _⟩ := acell HA7.out
  clear hpre hacc hps hp7 HP1 HP5 HP6 HA0 HA1 HA5 HA6 HB0 hs5 hs6 hs7 hlen1 hlen5 hlen6 hlen7
  go_wp2_with fail
  clear c7
  obtain ⟨n, hn⟩ : ∃ n, a.l.length = n := ⟨_, rfl⟩
  have HN := Lib.hid hn
  rw [hn] at hl hcc1 ⊢
  clear hn
  go_loopw [58] (fun i wq => ∃ k : Nat, k ≤ n ∧ i = .int .i64 k ∧ Hid (Put w R g (ls ++ Pk.encs (pre ++ (a.l.take k).flatMap Kbe.cyc)) wq)) (fun i _ => n - (intOf i).toNat)
  case atStart => exact ⟨0, Nat.zero_le _, rfl, by simpa using HQ⟩
  case round =>
    clear HQ
    obtain ⟨k, hk, rfl, HQ⟩ := hrel
    by_cases hlt : k < n
    case neg =>
      obtain rfl : k = n := by omega
      have dlt : decide ((k : Int) < (k : Int)) = false := by simp
      go_wp2_with fail
      go_end0
      refine ⟨rfl, ?_⟩
      have h9 := HQ.out
      rw [List.take_of_length_le (by rw [HN.out]; exact Nat.le_refl _), ← HACC.out] at h9
      exact h9
    case pos =>
      have dlt : decide ((k : Int) < (n : Int)) = true := by simp; omega
      have hkJ : (k : Int) < (n : Int) := by omega
      have hk0 : (0 : Int) ≤ (k : Int) := by omega
      obtain ⟨c, hc⟩ : ∃ c, a.l[k]? = some c := ⟨_, List.getElem?_eq_getElem (by rw [HN.out]; exact hlt)⟩
      obtain ⟨g2, o2, cap, hvg, _, _, _, _, hgR, hr⟩ := HCY.out.at_ hc
      injection hvg with hA2 hn2 hc2
      subst hA2
      clear hn2 hc2
      have HR2 : Hid (wr.rangeAt g2 (o2 + k * 8) c.cs) := Lib.hid fun i u hu => (World.cell?_of_block (a := ⟨g2, o2 + k * 8 + i, none⟩) (HQ.out.below.block g2 hgR)).trans (hr i u hu)
      have HSC := Lib.hid (HS.out.cs c (List.mem_of_getElem? hc))
      have HFT := Lib.hid (flat_take hc)
      have hlb : (Pk.encs (pre ++ (a.l.take k).flatMap Kbe.cyc)).length ≤ (13 + k * 8) * 11 := by
        have h9 := Kbe.encs_le (ns := pre ++ (a.l.take k).flatMap Kbe.cyc) fun m hm => by
          rcases List.mem_append.1 hm with hm | hm
          · exact HPS.out m hm
          · obtain ⟨z, hz, hm⟩ := List.mem_flatMap.1 hm
            exact Kbe.cyc_sm (HS.out.cs z (List.mem_of_mem_take hz)) m hm
        have h8 : (a.l.take k).length = k := by rw [List.length_take, HN.out, Nat.min_eq_left (by omega)]
        rw [List.length_append, hpl, flat_len, h8] at h9
        exact h9
      have hRr : R ≤ wr.heap.size := by have := HQ.out.box.lt; omega
      clear hc hr
      obtain ⟨cn, cd, cp, ca, cu, ct, cx, cg⟩ := c
      go_wp2_with (((with_reducible_and_instances (show wpList _ _ _ (Oper.mk _ (Op.load 112 (Operand.tmp 60)) _ _ _ _ :: _) _ _)); refine stop_here ?_))
      refine ⟨?_⟩
      refine wpList_load_mid rfl _ _ rfl g2 (o2 + k * 8) rfl [.int .i64 cn, .int .i64 cd, .int .u8 cp, .int .i64 ca, .int .i64 cu, .int .i64 ct, .int .i64 cx, .bool cg] _ HR2.out Tryz.underlying112 rfl info8k ?_
      go_wp2_with fail
      refine (putCycle_any (wr.alloc (.cells (Cv.arr ⟨cn, cd, cp, ca, cu, ct, cx, cg⟩) 112)) R g _ ⟨cn, cd, cp, ca, cu, ct, cx, cg⟩ (HQ.out.box.alloc _) (by rw [List.length_append]; omega) HSC.out).mono ?_
      rintro x w8 ⟨rfl, hp8⟩
      have HQ8 : Hid (Put w R g (ls ++ Pk.encs (pre ++ (a.l.take (k + 1)).flatMap Kbe.cyc)) w8) := Lib.hid (by
        have h9 := HQ.out.trans (hp8.of_alloc hRr)
        rw [HFT.out]
        simp only [List.append_assoc, Pk.encs_append] at h9 ⊢
        exact h9)
      clear hp8 HQ
      go_wp2_with fail
      go_roundw
      case rel => exact ⟨k + 1, by omega, by go_num, HQ8⟩
      case measure => simp [intOf]; omega
end Go.Proofs.YtblikgbcakgdnaaGreat
