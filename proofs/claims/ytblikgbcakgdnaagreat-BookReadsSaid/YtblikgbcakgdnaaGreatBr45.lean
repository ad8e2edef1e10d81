/-
  The laws' loop over acts, by a book of values. No conditions but the sizes.
-/
import Derived.Test.YtblikgbcakgdnaaGreatBr37
import Derived.Test.YtblikgbcakgdnaaGreatBr41
import Derived.Test.YtblikgbcakgdnaaGreatBr44
set_option linter.unusedSimpArgs false
set_option linter.unusedVariables false
namespace Go.Proofs.YtblikgbcakgdnaaGreat
set_option linter.unusedVariables false
set_option linter.unusedSimpArgs false
set_option maxRecDepth 100000
open Go.ChangeShapes Go.WideShapes Go.ChangeAt Go.RowKit

theorem KbR.below {w w' : World} {b0 c0 : Nat} {b : Kb} {B : Bs} (h : KbR w b0 c0 b B) (hb : Below c0 w w') : KbR w' b0 c0 b B := ⟨h.td, h.km.below hb, h.a⟩
theorem KbR.more {w : World} {b0 c0 b1 c1 : Nat} {b : Kb} {B : Bs} (h : KbR w b0 c0 b B) (hb : b1 ≤ b0) (hc : c0 ≤ c1) : KbR w b1 c1 b B := ⟨h.td, h.km.more hb hc, h.a⟩
theorem KbR.boxed {w : World} {b0 c0 n : Nat} {b : Kb} {B : Bs} {cs : Array Value} {t : TypeId} (h : KbR w b0 c0 b B) (hn : n < b0 ∨ c0 ≤ n) : KbR (Go.Proofs.YtblikgbcakgdnaaGreat.boxed w n cs t) b0 c0 b B := ⟨h.td, h.km.boxed hn, h.a⟩
theorem new_kr (td : Int) (w : World) (b0 c0 : Nat) : KbR w b0 c0 (Kb.new td) (Bs.new td) := ⟨rfl, new_km td w b0 c0, fun _ _ => rfl⟩
theorem KbR.lens {M L : Int} {w : World} {b0 c0 : Nat} {b : Kb} {B : Bs} (h : KbR w b0 c0 b B) (hB : BsOk M L B) (hL : L ≤ 9000) : ∀ k, k < 32 → (b.a k).l.length ≤ 9000 := fun k hk => by rw [h.a k hk]; exact (hB.lens hL k hk).2
theorem KbR.bsm {M L : Int} {w : World} {b0 c0 : Nat} {b : Kb} {B : Bs} (h : KbR w b0 c0 b B) (hB : BsOk M L B) (hl : BsLow B) (hM : 0 ≤ M ∧ M ≤ 100000000000) (hL : L ≤ 2100) : Kbe.BSm b.td B.ps b.a ∧ Kbe.book b.td B.ps b.a = Kbe.book B.td B.ps (fun k => (B.s k).tell) := by
  have g := hB.bsm hl hM hL
  have es : ∀ n, n ≤ 32 → Kbe.subs b.a n = Kbe.subs (fun k => (B.s k).tell) n := fun n => by
    induction n with
    | zero => intro _; rfl
    | succ n ih =>
      intro hn
      rw [Kbe.subs, Kbe.subs, ih (by omega), h.a n (by omega)]
  have e : Kbe.book b.td B.ps b.a = Kbe.book B.td B.ps (fun k => (B.s k).tell) := by
    unfold Kbe.book
    rw [h.td, es 32 (Nat.le_refl _)]
  refine ⟨⟨by rw [h.td]; exact g.day, g.pok, g.pl, fun k hk => by rw [h.a k hk]; exact g.sub k hk, by rw [e]; exact g.len⟩, e⟩
/-- What a step answers, by values. -/
def Stepb (M L : Int) (W : World) (B : Bs) (o : Ov) (e : Ending) (w' : World) : Prop := ∃ (c : Kb) (x : Int), e = .returned (.tuple #[.agg c.arr, .int .i64 x]) ∧ c.One ∧ (∃ B', Did M L 40 B o x B' ∧ (x = 0 → KbR w' W.heap.size w'.heap.size c B')) ∧ Below W.heap.size W w'
def CamB (M L : Int) (B : Bs) (o : Ov) (D n : Nat) (c : Kb) (x : Int) (w' : World) : Prop := ∃ B', Did M L 40 B o x B' ∧ (x = 0 → ∃ b0 c0, D + 1 ≤ b0 ∧ c0 ≤ w'.heap.size ∧ (n < b0 ∨ c0 ≤ n) ∧ KbR w' b0 c0 c B')
theorem CamB.below {M L : Int} {B : Bs} {o : Ov} {D n : Nat} {c : Kb} {x : Int} {w w' : World} (h : CamB M L B o D n c x w) (hb : Below w.heap.size w w') : CamB M L B o D n c x w' := by
  obtain ⟨B', h0, h⟩ := h
  refine ⟨B', h0, fun hx => ?_⟩
  obtain ⟨b0, c0, h1, h2, h3, h4⟩ := h hx
  exact ⟨b0, c0, h1, Nat.le_trans h2 hb.size, h3, h4.below (hb.mono h2)⟩
theorem CamB.boxed {M L : Int} {B : Bs} {o : Ov} {D n : Nat} {c : Kb} {x : Int} {w : World} {cs : Array Value} {t : TypeId} (h : CamB M L B o D n c x w) : ∃ B', Did M L 40 B o x B' ∧ (x = 0 → KbR (Go.Proofs.YtblikgbcakgdnaaGreat.boxed w n cs t) (D + 1) (Go.Proofs.YtblikgbcakgdnaaGreat.boxed w n cs t).heap.size c B') := by
  obtain ⟨B', h0, h⟩ := h
  refine ⟨B', h0, fun hx => ?_⟩
  obtain ⟨b0, c0, h1, h2, h3, h4⟩ := h hx
  exact (h4.boxed h3).more h1 (by rw [boxed_size]; exact h2)
theorem Stepb.camb {M L : Int} {W w' : World} {B : Bs} {c : Kb} {o : Ov} {D n : Nat} {x : Int} (h : ∃ B', Did M L 40 B o x B' ∧ (x = 0 → KbR w' W.heap.size w'.heap.size c B')) (hD : D + 1 ≤ W.heap.size) (hn : n < W.heap.size ∨ w'.heap.size ≤ n) : CamB M L B o D n c x w' := by
  obtain ⟨B', h1, h2⟩ := h
  exact ⟨B', h1, fun hx => ⟨_, _, hD, Nat.le_refl _, hn, h2 hx⟩⟩
theorem step_allb {M L : Int} {w : World} {b : Kb} {B : Bs} {o : Ov} (h : BsOk M L B) (hk : KbR w 0 w.heap.size b B) (hM : 0 ≤ M ∧ M ≤ 100000000000) (hL : 1 ≤ L ∧ L + 60 ≤ 9000) (hf : OForm o) : Calls Tryz.prog 14 #[.agg b.arr, .agg o.kb] w (Stepb M L w B o) := by
  obtain ⟨n1, n2, _⟩ := hf.num
  obtain ⟨x, B', hd⟩ := Did.total (G := 40) h hM (by omega) hL n1 n2
  refine (did_prog h hM hL hd hk).mono ?_
  rintro e w' ⟨c, rfl, h1, h2, _, h3⟩
  exact ⟨c, x, rfl, h1, ⟨B', hd, h2⟩, h3⟩
/-- What holds of a book behind so many acts. -/
structure Goes (j : Int) (B : Bs) : Prop where
  ok : BsOk (1100000000 * j) (40 * j + 1) B
  d : BsD B
  low : BsLow B
theorem Goes.next {j : Int} {B B' : Bs} {o : Ov} {x : Int} (h : Goes j B) (hd : Did (1100000000 * j) (40 * j + 1) 40 B o x B') (hf : OForm o) : Goes (j + 1) B' := by
  obtain ⟨n1, n2, n3⟩ := hf.num
  exact ⟨(hd.ok h.ok (by omega)).more (by omega) (by omega), hd.day h.ok n1 h.d, hd.low n3 h.low⟩
theorem Goes.stay {j : Int} {B : Bs} (h : Goes j B) : Goes (j + 1) B := ⟨h.ok.more (by omega) (by omega), h.d, h.low⟩
theorem Goes.new {td : Int} (h : 0 ≤ td ∧ td ≤ 3652058) : Goes 0 (Bs.new td) := ⟨(Bs.new_ok h).more (by omega) (by omega), Bs.new_d td, fun _ _ _ => rfl⟩
end Go.Proofs.YtblikgbcakgdnaaGreat
/-
  Contracts of book.getInt, ended, getCycle and getSum over any box: what is told, and what is left. No conditions but the sizes.
-/
namespace Go.Proofs.YtblikgbcakgdnaaGreat
set_option linter.unusedVariables false
set_option linter.unusedSimpArgs false
set_option maxRecDepth 100000
open Go.ChangeShapes Go.WideShapes Go.ChangeAt Go.RowKit

set_option maxHeartbeats 1000000 in
theorem getint_any (w : World) (g : Nat) (l : List Int) (f lo hi : Int) (h : GB w g l f) (hlo : -4611686018427387904 ≤ lo ∧ lo ≤ 4611686018427387904) (hhi : -4611686018427387904 ≤ hi ∧ hi ≤ 4611686018427387904) :
    Calls Tryz.prog 79 #[.pointer (some ⟨g, 0, none⟩), .int .i64 lo, .int .i64 hi] w (fun e w' => ∃ n l' f', e = .returned (.int .i64 n) ∧ Pk.Step lo hi l f n l' f' ∧ w.grownBy w' (some g) ∧ GB w' g l' f') := by
  have H := Lib.hid h
  have e1 : IntKind.i64.wrap lo = lo := by simp [IntKind.wrap, IntKind.bits, IntKind.signed]; omega
  have e2 : IntKind.i64.wrap hi = hi := by simp [IntKind.wrap, IntKind.bits, IntKind.signed]; omega
  clear h
  go_enter Tryz.func79, Tryz.ntmps79
  go_wp2_with (fail)
  refine (get_any _ _ _ _ _ _ H.out).mono ?_
  rintro e w1 ⟨n, l', f', rfl, hs, hg, hb⟩
  have HS := Lib.hid hs
  have HG : Hid (w.grownBy w1 (some g)) := Lib.hid hg
  have HB := Lib.hid hb
  clear hs hg hb
  go_wp2
  go_ret
  exact ⟨n, l', f', rfl, HS.out, HG.out, HB.out⟩
set_option maxHeartbeats 1000000 in
theorem ended_any (w : World) (d u r s p : Int) (h : 0 ≤ d ∧ d ≤ 4000000) (h2 : 0 ≤ u ∧ u ≤ 4000000) (h3 : 0 ≤ r ∧ r ≤ 4000000) (h4 : 0 ≤ s ∧ s ≤ 4000000) :
    Calls Tryz.prog 82 #[.agg #[.int .i64 d, .int .i64 u, .int .i64 r, .int .i64 s, .int .i64 p]] w (fun e w' => e = .returned (.int .i64 (d + u + r + s)) ∧ Below w.heap.size w w') := by
  have e1 : wrap64 (d + u) = d + u := by unfold wrap64; omega
  have e2 : wrap64 (d + u + r) = d + u + r := by unfold wrap64; omega
  have e3 : wrap64 (d + u + r + s) = d + u + r + s := by unfold wrap64; omega
  clear h h2 h3 h4
  go_enter Tryz.func82, Tryz.ntmps82
  go_wp2
  go_ret
  refine ⟨?_, (Below.refl _ w).alloc (Nat.le_refl _) _⟩
  show Ending.returned (Value.int .i64 (wrap64 (d + u + r + s))) = _
  rw [e3]
theorem Kbd.range {lo hi f n f' : Int} {l l' : List Int} (h : Pk.Step lo hi l f n l' f') : n = 0 ∨ (lo ≤ n ∧ n ≤ hi) := by
  unfold Pk.Step Pk.step at h
  split at h
  · injection h with h _; omega
  split at h
  · injection h with h _; omega
  split at h
  · injection h with h _; omega
  · injection h with h _; omega
set_option maxHeartbeats 4000000 in
theorem getcycle_any (w : World) (b : Nat) (l : List Int) (f lo hi : Int) (h : GB w b l f) (hlo : -10000000 ≤ lo ∧ lo ≤ 10000000) (hhi : -10000000 ≤ hi ∧ hi ≤ 10000000) :
    Calls Tryz.prog 106 #[.pointer (some ⟨b, 0, none⟩), .int .i64 lo, .int .i64 hi] w (fun x w' => ∃ c l' f', x = .returned (.agg (Cv.arr c)) ∧ Kbd.Cyc lo hi l f c l' f' ∧ (c.n = 0 ∨ (lo ≤ c.n ∧ c.n ≤ hi)) ∧ w.grownBy w' (some b) ∧ GB w' b l' f') := by
  have hbl := h.lt
  have H := Lib.hid h
  clear h
  go_enter Tryz.func106, Tryz.ntmps106
  have HB : Hid (Below w.heap.size w (w.alloc (Obj.cells #[.int .i64 0, .int .i64 0, .int .u8 0, .int .i64 0, .int .i64 0, .int .i64 0, .int .i64 0, .bool false] 112))) := (Below.refl _ w).alloc (Nat.le_refl _) _
  have HZ : Hid ((w.alloc (Obj.cells #[.int .i64 0, .int .i64 0, .int .u8 0, .int .i64 0, .int .i64 0, .int .i64 0, .int .i64 0, .bool false] 112)).heap[w.heap.size]? = some (Obj.cells #[.int .i64 0, .int .i64 0, .int .u8 0, .int .i64 0, .int .i64 0, .int .i64 0, .int .i64 0, .bool false] 112)) := alloc_block
  have HS : Hid (w.heap.size < (w.alloc (Obj.cells #[.int .i64 0, .int .i64 0, .int .u8 0, .int .i64 0, .int .i64 0, .int .i64 0, .int .i64 0, .bool false] 112)).heap.size) := by show w.heap.size < (w.alloc (Obj.cells #[.int .i64 0, .int .i64 0, .int .u8 0, .int .i64 0, .int .i64 0, .int .i64 0, .int .i64 0, .bool false] 112)).heap.size; simp
  have HG0 := Lib.hid (H.out.more HB.out)
  go_wp2_with (fail)
  generalize w.alloc (Obj.cells #[.int .i64 0, .int .i64 0, .int .u8 0, .int .i64 0, .int .i64 0, .int .i64 0, .int .i64 0, .bool false] 112) = W at *
  refine (getint_any _ _ _ _ lo hi HG0.out (by omega) (by omega)).mono ?_
  rintro x w1 ⟨n1, l1, f1, rfl, hs1, hg1, hb1⟩
  have r1 := Kbd.range hs1
  have HS1 := Lib.hid hs1
  have HG1 := Lib.hid hb1
  have HW1 : Hid (W.grownBy w1 (some b)) := Lib.hid (hg1)
  clear hs1 hg1 hb1
  go_wp2_with (fail)
  refine (getint_any _ _ _ _ _ _ HG1.out (by omega) (by omega)).mono ?_
  rintro x w2 ⟨n2, l2, f2, rfl, hs2, hg2, hb2⟩
  have HS2 := Lib.hid hs2
  have HG2 := Lib.hid hb2
  have HW2 : Hid (W.grownBy w2 (some b)) := Lib.hid (HW1.out.trans hg2)
  clear hs2 hg2 hb2
  go_wp2_with (fail)
  refine (get_any _ _ _ _ _ _ HG2.out).mono ?_
  rintro x w3 ⟨n3, l3, f3, rfl, hs3, hg3, hb3⟩
  obtain ⟨r3, t3⟩ := hs3.range (by omega) (by omega)
  have hwu3 : IntKind.u8.wrap n3 = n3 := by simp [IntKind.wrap, IntKind.bits, IntKind.signed]; omega
  have HS3 := Lib.hid hs3
  have HG3 := Lib.hid hb3
  have HW3 : Hid (W.grownBy w3 (some b)) := Lib.hid (HW2.out.trans hg3)
  clear hs3 hg3 hb3
  go_wp2_with (fail)
  refine (get_any _ _ _ _ _ _ HG3.out).mono ?_
  rintro x w4 ⟨n4, l4, f4, rfl, hs4, hg4, hb4⟩
  have HS4 := Lib.hid hs4
  have HG4 := Lib.hid hb4
  have HW4 : Hid (W.grownBy w4 (some b)) := Lib.hid (HW3.out.trans hg4)
  clear hs4 hg4 hb4
  go_wp2_with (fail)
  refine (get_any _ _ _ _ _ _ HG4.out).mono ?_
  rintro x w5 ⟨n5, l5, f5, rfl, hs5, hg5, hb5⟩
  have HS5 := Lib.hid hs5
  have HG5 := Lib.hid hb5
  have HW5 : Hid (W.grownBy w5 (some b)) := Lib.hid (HW4.out.trans hg5)
  clear hs5 hg5 hb5
  go_wp2_with (fail)
  refine (getint_any _ _ _ _ _ _ HG5.out (by omega) (by omega)).mono ?_
  rintro x w6 ⟨n6, l6, f6, rfl, hs6, hg6, hb6⟩
  have HS6 := Lib.hid hs6
  have HG6 := Lib.hid hb6
  have HW6 : Hid (W.grownBy w6 (some b)) := Lib.hid (HW5.out.trans hg6)
  clear hs6 hg6 hb6
  go_wp2_with (fail)
  refine (getint_any _ _ _ _ _ _ HG6.out (by omega) (by omega)).mono ?_
  rintro x w7 ⟨n7, l7, f7, rfl, hs7, hg7, hb7⟩
  have HS7 := Lib.hid hs7
  have HG7 := Lib.hid hb7
  have HW7 : Hid (W.grownBy w7 (some b)) := Lib.hid (HW6.out.trans hg7)
  clear hs7 hg7 hb7
  go_wp2_with (fail)
  refine (flag_any _ _ _ _ HG7.out).mono ?_
  rintro x w8 ⟨n8, l8, f8, rfl, hs8, hg8, hb8⟩
  have HS8 := Lib.hid hs8
  have HG8 := Lib.hid hb8
  have HW8 : Hid (W.grownBy w8 (some b)) := Lib.hid (HW7.out.trans hg8)
  clear hs8 hg8 hb8
  have hz8 : w8.heap[w.heap.size]? = some (Obj.cells #[.int .i64 0, .int .i64 0, .int .u8 0, .int .i64 0, .int .i64 0, .int .i64 0, .int .i64 0, .bool false] 112) := (HW8.out.block _ HS.out (by intro e; injection e; omega)).trans HZ.out
  have hs8 : w.heap.size < w8.heap.size := Nat.lt_of_lt_of_le HS.out HW8.out.size
  have HQ := Lib.hid (boxed_self hz8)
  have HR1 := Lib.hid r1
  rw [HQ.out]
  clear r1
  go_wp2_with (fail)
  have HT : Hid (Kbd.Cyc lo hi l f ⟨n1, n2, n3, n4, n5, n6, n7, n8 == 1⟩ l8 f8) := Lib.hid ⟨n8, ⟨l1, f1, HS1.out, l2, f2, HS2.out, l3, f3, HS3.out, l4, f4, HS4.out, l5, f5, HS5.out, l6, f6, HS6.out, l7, f7, HS7.out, l8, f8, HS8.out, rfl, rfl⟩, rfl⟩
  have hgw : w.grownBy w8 (some b) := (below_grown HB.out (some b)).trans HW8.out
  refine bodyPost_ret (v := .agg #[.int .i64 n1, .int .i64 n2, .int .u8 n3, .int .i64 n4, .int .i64 n5, .int .i64 n6, .int .i64 n7, .bool (n8 == 1)]) ?_ rfl ⟨⟨n1, n2, n3, n4, n5, n6, n7, n8 == 1⟩, l8, f8, rfl, HT.out, HR1.out, ⟨hgw.os, hgw.tape, hgw.output, ?_, fun i hi hne => ?_⟩, HG8.out.kept fun i hi => ?_⟩
  · have hc : (boxed w8 w.heap.size #[.int .i64 n1, .int .i64 n2, .int .u8 n3, .int .i64 n4, .int .i64 n5, .int .i64 n6, .int .i64 n7, .bool (n8 == 1)] 112).heap[w.heap.size]? = some (.cells #[.int .i64 n1, .int .i64 n2, .int .u8 n3, .int .i64 n4, .int .i64 n5, .int .i64 n6, .int .i64 n7, .bool (n8 == 1)] 112 (0, 0)) := boxed_block hs8
    simp [results, Tryz.results106, go_sem, cell_of_row _ _ _ _ _ _ hc]
  · rw [boxed_size]; have := hgw.size; omega
  · rw [boxed_block_other (by omega)]; exact hgw.block i hi hne
  · exact boxed_block_other (by omega)
theorem kgrown_boxed {w w' : World} {r : Option Nat} {n : Nat} {cs : Array Value} {t : TypeId} (h : w.grownBy w' r) (hn : w.heap.size ≤ n) : w.grownBy (boxed w' n cs t) r := ⟨h.os, h.tape, h.output, by rw [boxed_size]; exact h.size, fun i hi hne => by rw [boxed_block_other (by omega)]; exact h.block i hi hne⟩
theorem kgrown_below {w w1 w2 : World} {r : Option Nat} (h : w.grownBy w1 r) (hb : Below w1.heap.size w1 w2) : w.grownBy w2 r := World.grownBy.trans h (below_grown hb r)
theorem info5m : (Tryz.prog.info? 30).map (·.size) = some 5 := by kernel_rfl
theorem GB.box {w : World} {g n : Nat} {l : List Int} {f : Int} {cs : Array Value} {t : TypeId} (h : GB w g l f) (hn : g < n) : GB (Go.Proofs.YtblikgbcakgdnaaGreat.boxed w n cs t) g l f := h.kept fun i hi => boxed_block_other (by omega)
set_option maxHeartbeats 4000000 in
theorem getsum_any (w : World) (b : Nat) (l : List Int) (f ct : Int) (h : GB w b l f) (hct : 0 ≤ ct ∧ ct ≤ 3652059) :
    Calls Tryz.prog 80 #[.pointer (some ⟨b, 0, none⟩), .int .i64 ct] w (fun x w' => ∃ d u r s p l' f', x = .returned (.agg #[.int .i64 d, .int .i64 u, .int .i64 r, .int .i64 s, .int .i64 p]) ∧ Gets (Kbd.sB ct d u r) l f [d, u, r, s, p] l' f' ∧ (0 ≤ d ∧ d ≤ ct) ∧ (0 ≤ u ∧ u ≤ ct - d) ∧ (0 ≤ r ∧ r ≤ ct - (d + u)) ∧ (0 ≤ s ∧ s ≤ ct - (d + u + r)) ∧ w.grownBy w' (some b) ∧ GB w' b l' f') := by
  have hbl := h.lt
  have H := Lib.hid h
  clear h
  go_enter Tryz.func80, Tryz.ntmps80
  go_wp2_with (fail)
  obtain ⟨x0, hx0⟩ : ∃ x0, (w.alloc (Obj.cells #[.int .i64 0, .int .i64 0, .int .i64 0, .int .i64 0, .int .i64 0] 30)).alloc (Obj.cells #[.int .i64 0, .int .i64 0, .int .i64 0, .int .i64 0, .int .i64 0] 30) = x0 := ⟨_, rfl⟩
  have hw0 : w.grownBy x0 (some b) := by rw [← hx0]; exact below_grown (((Below.refl _ w).alloc (Nat.le_refl _) _).alloc (by simp) _) _
  have hY0 : x0.heap[w.heap.size]? = some (Obj.cells #[.int .i64 0, .int .i64 0, .int .i64 0, .int .i64 0, .int .i64 0] 30 (0, 0)) := by rw [← hx0]; exact alloc_old (by simp) (alloc_at rfl)
  have hC0 : x0.heap[w.heap.size + 1]? = some (Obj.cells #[.int .i64 0, .int .i64 0, .int .i64 0, .int .i64 0, .int .i64 0] 30 (0, 0)) := by rw [← hx0]; exact alloc_at (by simp)
  have HG0 : Hid (GB x0 b l f) := Lib.hid (by rw [← hx0]; exact H.out.more (((Below.refl _ w).alloc (Nat.le_refl _) _).alloc (by simp) _))
  have HW0 := Lib.hid hw0
  have HY0 := Lib.hid hY0
  have hz0 : w.heap.size + 1 < x0.heap.size := (Array.getElem?_eq_some_iff.1 hC0).1
  have eb0 := boxed_self hC0
  rw [hx0, eb0]
  clear hx0 hw0 hY0 hC0 eb0
  go_wp2_with (fail)
  refine (getint_any _ _ _ _ 0 ct (HG0.out.box (by omega)) (by omega) (by omega)).mono ?_
  rintro x x1 ⟨n1, l1, f1, rfl, hs1, hg1, hb1⟩
  have r1 := Kbd.range hs1
  have HS1 := Lib.hid hs1
  have hC1 : x1.heap[w.heap.size + 1]? = some (Obj.cells #[.int .i64 0, .int .i64 0, .int .i64 0, .int .i64 0, .int .i64 0] 30 (0, 0)) := (hg1.block _ (by rw [boxed_size]; exact hz0) (by intro e; injection e; omega)).trans (boxed_block hz0)
  have HW1 : Hid (w.grownBy x1 (some b)) := Lib.hid (World.grownBy.trans (kgrown_boxed HW0.out (by omega)) hg1)
  have HY1 : Hid (x1.heap[w.heap.size]? = some (Obj.cells #[.int .i64 0, .int .i64 0, .int .i64 0, .int .i64 0, .int .i64 0] 30 (0, 0))) := Lib.hid ((hg1.block _ (by rw [boxed_size]; omega) (by intro e; injection e; omega)).trans (boxed_old (by omega) HY0.out))
  have HG1 := Lib.hid hb1
  have hz1 : w.heap.size + 1 < x1.heap.size := (Array.getElem?_eq_some_iff.1 hC1).1
  have eb := boxed_self hC1
  rw [eb]
  clear eb hC1 hs1 hg1 hb1 HW0 HY0 
  have e2 : wrap64 (ct - (n1 + 0 + 0 + 0)) = ct - n1 := by unfold wrap64; omega
  go_wp2_with (fail)
  refine (ended_any _ n1 0 0 0 0 (by omega) (by omega) (by omega) (by omega)).mono ?_
  rintro x u2 ⟨rfl, hu2⟩
  have hC2 : u2.heap[w.heap.size + 1]? = some (Obj.cells #[.int .i64 n1, .int .i64 0, .int .i64 0, .int .i64 0, .int .i64 0] 30 (0, 0)) := below_block hu2 (boxed_block hz1)
  have HWU : Hid (w.grownBy u2 (some b)) := Lib.hid (kgrown_below (kgrown_boxed HW1.out (by omega)) hu2)
  have HYU : Hid (u2.heap[w.heap.size]? = some (Obj.cells #[.int .i64 0, .int .i64 0, .int .i64 0, .int .i64 0, .int .i64 0] 30 (0, 0))) := Lib.hid (below_block hu2 (boxed_old (by omega) HY1.out))
  have HGU : Hid (GB u2 b l1 f1) := Lib.hid ((HG1.out.box (by omega)).more hu2)
  have hzu : w.heap.size + 1 < u2.heap.size := (Array.getElem?_eq_some_iff.1 hC2).1
  have eb := boxed_self hC2
  rw [eb]
  clear eb hC2 hu2 HW1 HY1
  go_wp2_with (fail)
  (try rw [e2])
  refine (getint_any _ _ _ _ 0 (ct - n1) (HGU.out.box (by omega)) (by omega) (by omega)).mono ?_
  rintro x x2 ⟨n2, l2, f2, rfl, hs2, hg2, hb2⟩
  have r2 := Kbd.range hs2
  have HS2 := Lib.hid hs2
  have hC2 : x2.heap[w.heap.size + 1]? = some (Obj.cells #[.int .i64 n1, .int .i64 0, .int .i64 0, .int .i64 0, .int .i64 0] 30 (0, 0)) := (hg2.block _ (by rw [boxed_size]; exact hzu) (by intro e; injection e; omega)).trans (boxed_block hzu)
  have HW2 : Hid (w.grownBy x2 (some b)) := Lib.hid (World.grownBy.trans (kgrown_boxed HWU.out (by omega)) hg2)
  have HY2 : Hid (x2.heap[w.heap.size]? = some (Obj.cells #[.int .i64 0, .int .i64 0, .int .i64 0, .int .i64 0, .int .i64 0] 30 (0, 0))) := Lib.hid ((hg2.block _ (by rw [boxed_size]; omega) (by intro e; injection e; omega)).trans (boxed_old (by omega) HYU.out))
  have HG2 := Lib.hid hb2
  have hz2 : w.heap.size + 1 < x2.heap.size := (Array.getElem?_eq_some_iff.1 hC2).1
  have eb := boxed_self hC2
  rw [eb]
  clear eb hC2 hs2 hg2 hb2 HWU HYU HGU
  have e3 : wrap64 (ct - (n1 + n2 + 0 + 0)) = ct - (n1 + n2) := by unfold wrap64; omega
  go_wp2_with (fail)
  refine (ended_any _ n1 n2 0 0 0 (by omega) (by omega) (by omega) (by omega)).mono ?_
  rintro x u3 ⟨rfl, hu3⟩
  have hC3 : u3.heap[w.heap.size + 1]? = some (Obj.cells #[.int .i64 n1, .int .i64 n2, .int .i64 0, .int .i64 0, .int .i64 0] 30 (0, 0)) := below_block hu3 (boxed_block hz2)
  have HWU : Hid (w.grownBy u3 (some b)) := Lib.hid (kgrown_below (kgrown_boxed HW2.out (by omega)) hu3)
  have HYU : Hid (u3.heap[w.heap.size]? = some (Obj.cells #[.int .i64 0, .int .i64 0, .int .i64 0, .int .i64 0, .int .i64 0] 30 (0, 0))) := Lib.hid (below_block hu3 (boxed_old (by omega) HY2.out))
  have HGU : Hid (GB u3 b l2 f2) := Lib.hid ((HG2.out.box (by omega)).more hu3)
  have hzu : w.heap.size + 1 < u3.heap.size := (Array.getElem?_eq_some_iff.1 hC3).1
  have eb := boxed_self hC3
  rw [eb]
  clear eb hC3 hu3 HW2 HY2
  go_wp2_with (fail)
  (try rw [e3])
  refine (getint_any _ _ _ _ 0 (ct - (n1 + n2)) (HGU.out.box (by omega)) (by omega) (by omega)).mono ?_
  rintro x x3 ⟨n3, l3, f3, rfl, hs3, hg3, hb3⟩
  have r3 := Kbd.range hs3
  have HS3 := Lib.hid hs3
  have hC3 : x3.heap[w.heap.size + 1]? = some (Obj.cells #[.int .i64 n1, .int .i64 n2, .int .i64 0, .int .i64 0, .int .i64 0] 30 (0, 0)) := (hg3.block _ (by rw [boxed_size]; exact hzu) (by intro e; injection e; omega)).trans (boxed_block hzu)
  have HW3 : Hid (w.grownBy x3 (some b)) := Lib.hid (World.grownBy.trans (kgrown_boxed HWU.out (by omega)) hg3)
  have HY3 : Hid (x3.heap[w.heap.size]? = some (Obj.cells #[.int .i64 0, .int .i64 0, .int .i64 0, .int .i64 0, .int .i64 0] 30 (0, 0))) := Lib.hid ((hg3.block _ (by rw [boxed_size]; omega) (by intro e; injection e; omega)).trans (boxed_old (by omega) HYU.out))
  have HG3 := Lib.hid hb3
  have hz3 : w.heap.size + 1 < x3.heap.size := (Array.getElem?_eq_some_iff.1 hC3).1
  have eb := boxed_self hC3
  rw [eb]
  clear eb hC3 hs3 hg3 hb3 HWU HYU HGU
  have e4 : wrap64 (ct - (n1 + n2 + n3 + 0)) = ct - (n1 + n2 + n3) := by unfold wrap64; omega
  go_wp2_with (fail)
  refine (ended_any _ n1 n2 n3 0 0 (by omega) (by omega) (by omega) (by omega)).mono ?_
  rintro x u4 ⟨rfl, hu4⟩
  have hC4 : u4.heap[w.heap.size + 1]? = some (Obj.cells #[.int .i64 n1, .int .i64 n2, .int .i64 n3, .int .i64 0, .int .i64 0] 30 (0, 0)) := below_block hu4 (boxed_block hz3)
  have HWU : Hid (w.grownBy u4 (some b)) := Lib.hid (kgrown_below (kgrown_boxed HW3.out (by omega)) hu4)
  have HYU : Hid (u4.heap[w.heap.size]? = some (Obj.cells #[.int .i64 0, .int .i64 0, .int .i64 0, .int .i64 0, .int .i64 0] 30 (0, 0))) := Lib.hid (below_block hu4 (boxed_old (by omega) HY3.out))
  have HGU : Hid (GB u4 b l3 f3) := Lib.hid ((HG3.out.box (by omega)).more hu4)
  have hzu : w.heap.size + 1 < u4.heap.size := (Array.getElem?_eq_some_iff.1 hC4).1
  have eb := boxed_self hC4
  rw [eb]
  clear eb hC4 hu4 HW3 HY3
  go_wp2_with (fail)
  (try rw [e4])
  refine (getint_any _ _ _ _ 0 (ct - (n1 + n2 + n3)) (HGU.out.box (by omega)) (by omega) (by omega)).mono ?_
  rintro x x4 ⟨n4, l4, f4, rfl, hs4, hg4, hb4⟩
  have r4 := Kbd.range hs4
  have HS4 := Lib.hid hs4
  have hC4 : x4.heap[w.heap.size + 1]? = some (Obj.cells #[.int .i64 n1, .int .i64 n2, .int .i64 n3, .int .i64 0, .int .i64 0] 30 (0, 0)) := (hg4.block _ (by rw [boxed_size]; exact hzu) (by intro e; injection e; omega)).trans (boxed_block hzu)
  have HW4 : Hid (w.grownBy x4 (some b)) := Lib.hid (World.grownBy.trans (kgrown_boxed HWU.out (by omega)) hg4)
  have HY4 : Hid (x4.heap[w.heap.size]? = some (Obj.cells #[.int .i64 0, .int .i64 0, .int .i64 0, .int .i64 0, .int .i64 0] 30 (0, 0))) := Lib.hid ((hg4.block _ (by rw [boxed_size]; omega) (by intro e; injection e; omega)).trans (boxed_old (by omega) HYU.out))
  have HG4 := Lib.hid hb4
  have hz4 : w.heap.size + 1 < x4.heap.size := (Array.getElem?_eq_some_iff.1 hC4).1
  have eb := boxed_self hC4
  rw [eb]
  clear eb hC4 hs4 hg4 hb4 HWU HYU HGU
  go_wp2_with (fail)
  refine (get_any _ _ _ _ _ _ (HG4.out.box (by omega))).mono ?_
  rintro x x5 ⟨n5, l5, f5, rfl, hs5, hg5, hb5⟩
  have r5 := hs5.range (by omega) (by omega)
  have HS5 := Lib.hid hs5
  have hC5 : x5.heap[w.heap.size + 1]? = some (Obj.cells #[.int .i64 n1, .int .i64 n2, .int .i64 n3, .int .i64 n4, .int .i64 0] 30 (0, 0)) := (hg5.block _ (by rw [boxed_size]; exact hz4) (by intro e; injection e; omega)).trans (boxed_block hz4)
  have HW5 : Hid (w.grownBy x5 (some b)) := Lib.hid (World.grownBy.trans (kgrown_boxed HW4.out (by omega)) hg5)
  have HY5 : Hid (x5.heap[w.heap.size]? = some (Obj.cells #[.int .i64 0, .int .i64 0, .int .i64 0, .int .i64 0, .int .i64 0] 30 (0, 0))) := Lib.hid ((hg5.block _ (by rw [boxed_size]; omega) (by intro e; injection e; omega)).trans (boxed_old (by omega) HY4.out))
  have HG5 := Lib.hid hb5
  have hz5 : w.heap.size + 1 < x5.heap.size := (Array.getElem?_eq_some_iff.1 hC5).1
  have eb := boxed_self hC5
  rw [eb]
  clear eb hC5 hs5 hg5 hb5 HW4 HY4 
  have HT : Hid (Gets (Kbd.sB ct n1 n2 n3) l f [n1, n2, n3, n4, n5] l5 f5) := Lib.hid ⟨l1, f1, HS1.out, l2, f2, HS2.out, l3, f3, HS3.out, l4, f4, HS4.out, l5, f5, HS5.out, rfl, rfl⟩
  go_wp2_with (((with_reducible_and_instances (show wpList _ _ _ (Oper.mk _ (Op.store 30 _ _) _ _ _ _ :: _) _ _)); refine stop_here ?_))
  refine ⟨?_⟩
  refine wl_store (g := w.heap.size) info5m rfl rfl rfl rfl (boxed_old (by omega) HY5.out) (by rfl) (by rfl) (by simp [Value.oneCell']) ?_
  go_wp2_with (fail)
  refine bodyPost_ret (v := .agg #[.int .i64 n1, .int .i64 n2, .int .i64 n3, .int .i64 n4, .int .i64 n5]) ?_ rfl ⟨n1, n2, n3, n4, n5, l5, f5, rfl, HT.out, by omega, by omega, by omega, by omega, kgrown_boxed (kgrown_boxed HW5.out (by omega)) (Nat.le_refl _), (HG5.out.box (by omega)).box (by omega)⟩
  have hc : (boxed (boxed x5 (w.heap.size + 1) #[.int .i64 n1, .int .i64 n2, .int .i64 n3, .int .i64 n4, .int .i64 n5] 30) w.heap.size #[.int .i64 n1, .int .i64 n2, .int .i64 n3, .int .i64 n4, .int .i64 n5] 30).heap[w.heap.size]? = some (.cells #[.int .i64 n1, .int .i64 n2, .int .i64 n3, .int .i64 n4, .int .i64 n5] 30 (0, 0)) := boxed_block (by rw [boxed_size]; omega)
  simp [results, Tryz.results80, go_sem, cell_of_row _ _ _ _ _ _ hc]
end Go.Proofs.YtblikgbcakgdnaaGreat
