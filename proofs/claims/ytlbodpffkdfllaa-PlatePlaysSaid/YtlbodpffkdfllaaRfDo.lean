/-
  Contracts of the document's own plates: flushed, and fallen. No conditions but the sizes.
-/
import Derived.Test.YtlbodpffkdfllaaRfKeep
namespace Go.Proofs.Ytlbodpffkdfllaa
open Go.ChangeShapes Go.WideShapes Go.ChangeAt Go.RowKit
open Rf (sl ys rv)

theorem RPost.from_ {w w1 w2 : World} {G : Nat → Prop} {r : Rf.R} {e : Ending} (hG : ∀ i, G i → i < w.heap.size) (hb : Below w.heap.size w w1) (h : RPost w1 G r e w2) : RPost w G r e w2 := by
  obtain ⟨v1, v2, bs, ps, he, hm, hb2⟩ := h
  have hs := hb.size
  have hs2 := hb2.size
  refine ⟨v1, v2, bs, ps, he, hm.more (fun i hi => ?_) (fun i hi => ?_), hb.trans (hb2.mono hs)⟩
  · rcases hi with h' | h'
    · exact .inl h'
    · exact .inr ⟨by omega, h'.2⟩
  · rcases hi with h' | h'
    · have := hG i h'; omega
    · exact h'.2
/-- A plate of the document's own, and an error's number, are handed back. -/
def RPost2 (w : World) (G : Nat → Prop) (r : Rf.R) (k : Value) (e : Ending) (w' : World) : Prop := ∃ v1 v2 bs ps, e = .returned (.tuple #[rv v1 v2 r, k]) ∧ Rf.M w' (grow G w w') v1 v2 r bs ps ∧ Below w.heap.size w w'
theorem RPost.and {w w' : World} {G : Nat → Prop} {r : Rf.R} {v : Value} (h : RPost w G r (.returned v) w') (k : Value) : RPost2 w G r k (.returned (.tuple #[v, k])) w' := by
  obtain ⟨v1, v2, bs, ps, he, hm, hb⟩ := h
  injection he with he
  exact ⟨v1, v2, bs, ps, by rw [he], hm, hb⟩
theorem RPost.mk_ {w w' : World} {G : Nat → Prop} {v1 v2 : Value} {r : Rf.R} {bs : List Nat} {ps : List (Int × Nat)} (h : Rf.M w G v1 v2 r bs ps) (hb : Below w.heap.size w w') : RPost w G r (.returned (rv v1 v2 r)) w' := by
  have hs := hb.size
  refine ⟨v1, v2, bs, ps, rfl, (h.below hb).more (fun i hi => .inl hi) fun i hi => ?_, hb⟩
  rcases hi with h' | h'
  · have := h.lt i h'; omega
  · exact h'.2
theorem RPost.r {w w' : World} {G : Nat → Prop} {r r' : Rf.R} {e : Ending} (h : RPost w G r e w') (hr : r = r') : RPost w G r' e w' := hr ▸ h
/-- The blocks of two variables are turned, that are new. -/
theorem two_below {w w1 : World} {C C' : Array Value} {t t' : TypeId} (hb : Below w.heap.size w w1) : Below w.heap.size w (boxed (boxed w1 w.heap.size C t) (w.heap.size + 1) C' t') := boxed_below (boxed_below hb (Nat.le_refl _)) (Nat.le_succ _)

theorem keep_all {r : Rf.R} : r.keep (min (max (r.wet.length : Int) 0) r.wet.length).toNat = r.keep r.wet.length := by congr 1; omega

theorem Rf.M.below_two {w w3 : World} {G : Nat → Prop} {v1 v2 : Value} {r : Rf.R} {bs : List Nat} {ps : List (Int × Nat)} (h : Rf.M w G v1 v2 r bs ps) (_hG : ∀ i, G i → i < w.heap.size) (hb : Below w.heap.size w w3) (C C' : Array Value) : Rf.M (boxed (boxed w3 w.heap.size C 29) (w.heap.size + 1) C' 29) G v1 v2 r bs ps := h.below (two_below hb)
/-- Two new blocks, behind a call that makes new blocks alone: the world is known in both. -/
theorem two_open {w w1 : World} {C C' : Array Value} {t t' : TypeId} (hb : Below ((w.alloc (.cells C t)).alloc (.cells C' t')).heap.size ((w.alloc (.cells C t)).alloc (.cells C' t')) w1) :
    ∃ w3, w1 = boxed (boxed w3 w.heap.size C t) (w.heap.size + 1) C' t' ∧ w.heap.size < w3.heap.size ∧ w.heap.size + 1 < w3.heap.size ∧ Below w.heap.size w w3 := by
  obtain ⟨h1, h2, h3, h4⟩ := two_of hb
  exact ⟨w1, h4, h2, h3, h1⟩
theorem two_more {w wx w2 : World} {B : Nat} {C C' : Array Value} {t t' : TypeId} (h0 : Below B w wx) (hz : B + 1 < wx.heap.size) (hb : Below (boxed (boxed wx B C t) (B + 1) C' t').heap.size (boxed (boxed wx B C t) (B + 1) C' t') w2) :
    ∃ w3, w2 = boxed (boxed w3 B C t) (B + 1) C' t' ∧ B < w3.heap.size ∧ B + 1 < w3.heap.size ∧ Below B w w3 := by
  obtain ⟨h1, h2, h3⟩ := two_again h0 hz hb
  exact ⟨w2, h3, by omega, h2, h1⟩
/-- What a call has handed back, when two variables' blocks are turned behind it. -/
theorem RPost.two {w W3 w5 : World} {G : Nat → Prop} {v1 v2 : Value} {r r' : Rf.R} {bs : List Nat} {ps : List (Int × Nat)} {C C' D D' : Array Value} (hG : ∀ i, G i → i < w.heap.size) (hz : w.heap.size + 1 < W3.heap.size) (hb : Below w.heap.size w w5) (hs : W3.heap.size ≤ w5.heap.size)
    (hm : Rf.M (boxed (boxed w5 w.heap.size C 29) (w.heap.size + 1) C' 29) (grow G W3 (boxed (boxed w5 w.heap.size C 29) (w.heap.size + 1) C' 29)) v1 v2 r bs ps) (h1 : r'.safe = r.safe) (h2 : r'.wet = r.wet) (ho : Rf.Ok r') :
    RPost w G r' (.returned (rv v1 v2 r')) (boxed (boxed w5 w.heap.size D 29) (w.heap.size + 1) D' 29) := by
  have e1 : ∀ X Y : Array Value, (boxed (boxed w5 w.heap.size X 29) (w.heap.size + 1) Y 29).heap.size = w5.heap.size := fun X Y => by rw [boxed_size, boxed_size]
  refine ⟨v1, v2, bs, ps, rfl, ((hm.nums h1 h2 ho).kept (fun i hi => ?_) (by rw [e1, e1]; exact Nat.le_refl _)).more (fun i hi => ?_) (fun i hi => ?_), two_below hb⟩
  · have hn : i ≠ w.heap.size ∧ i ≠ w.heap.size + 1 := by
      rcases hi with h' | h'
      · have := hG i h'; omega
      · omega
    rw [boxed_block_other hn.2, boxed_block_other hn.1, boxed_block_other hn.2, boxed_block_other hn.1]
  · rcases hi with h' | h'
    · exact .inl h'
    · rw [e1] at h'; exact .inr ⟨by omega, by rw [e1]; exact h'.2⟩
  · rw [e1]
    rcases hi with h' | h'
    · have := hG i h'; have := hb.size; omega
    · rw [e1] at h'; exact h'.2
theorem flush_goes {r : Rf.R} (h : r.goes = true) : r.flush = r.act.keep r.wet.length ∧ r.flushE = 0 := by unfold Rf.R.flush Rf.R.flushE; rw [h]; exact ⟨rfl, rfl⟩
theorem flush_stops {r : Rf.R} (h : r.goes = false) : r.flush = r.act ∧ r.flushE = 7 := by unfold Rf.R.flush Rf.R.flushE; rw [h]; exact ⟨rfl, rfl⟩

set_option maxRecDepth 20000 in
set_option maxHeartbeats 1600000 in
theorem refFlush_any (w : World) (G : Nat → Prop) (v1 v2 : Value) (r : Rf.R) (bs : List Nat) (ps : List (Int × Nat)) (h : Rf.M w G v1 v2 r bs ps) (ha : r.acts < 1000) :
    Calls Try.prog 13 #[rv v1 v2 r] w (RPost2 w G r.flush (.int .i64 r.flushE)) := by
  obtain ⟨A, c, rfl, hc, _⟩ := own_form h.own1
  obtain ⟨A2, c2, rfl, hc2, _⟩ := own_form h.own2
  have hl := h.ok.left
  have hac := h.ok.acts
  have HG := h.lt
  have H := Lib.hid (h.nums (Rf.act_safe r) (Rf.act_wet r) (h.ok.act ha))
  have e1 : r.act.safe.length = r.safe.length := by rw [Rf.act_safe]
  have e2 : r.act.wet.length = r.wet.length := by rw [Rf.act_wet]
  have E1 := Lib.hid e1
  have E2 := Lib.hid e2
  clear h e1 e2
  unfold rv
  go_enter Try.func13, Try.ntmps13
  go_wp2_with (fail)
  refine (refAct_any _ A A2 r.safe.length c r.wet.length c2 r hl hac).mono ?_
  rintro e w2 ⟨rfl, hb2⟩
  obtain ⟨w3, rfl, hz1, hz2, hbw⟩ := two_open hb2
  have HBW := Lib.hid hbw
  have hne1 : w.heap.size ≠ w.heap.size + 1 := by omega
  have hne2 : w.heap.size + 1 ≠ w.heap.size := by omega
  clear hb2 hbw
  unfold rv
  cases hg : r.goes
  · have HFIN : Hid (∀ C C', RPost2 w G r.flush (.int .i64 r.flushE) (.returned (.tuple #[rv (.slice A r.safe.length c) (.slice A2 r.wet.length c2) r.act, .int .i64 7])) (boxed (boxed w3 w.heap.size C 29) (w.heap.size + 1) C' 29)) := fun C C' => by
      rw [(flush_stops hg).1, (flush_stops hg).2]
      exact (RPost.mk_ H.out (two_below HBW.out)).and _
    go_wp2_with (fail)
    exact bodyPost_ret (v := .tuple #[rv (.slice A r.safe.length c) (.slice A2 r.wet.length c2) r.act, .int .i64 7]) (by simp [rv, results, Try.results13, go_sem, *]) rfl (HFIN.out _ _)
  · have hzW : w.heap.size + 1 < (boxed (boxed w3 w.heap.size #[.slice A r.safe.length c, .slice A2 r.wet.length c2, .int .i64 r.act.left, .int .i64 r.act.spare, .bool r.act.off, .int .i64 r.act.acts] 29) (w.heap.size + 1) #[.slice none 0 0, .slice none 0 0, .int .i64 0, .int .i64 0, .bool false, .int .i64 0] 29).heap.size := by rw [boxed_size, boxed_size]; exact hz2
    go_wp2_with (fail)
    refine (refKeep_any _ G (.slice A r.safe.length c) (.slice A2 r.wet.length c2) r.act bs ps r.wet.length (H.out.below_two HG HBW.out _ _)).mono ?_
    rintro e w4 ⟨v1, v2, bs', ps', rfl, hm, hb4⟩
    have hs4 := hb4.size
    obtain ⟨w5, rfl, hz3, hz4, hb5⟩ := two_more HBW.out hz2 hb4
    obtain ⟨A3, c3, rfl, _, _⟩ := own_form hm.own1
    obtain ⟨A4, c4, rfl, _, _⟩ := own_form hm.own2
    have ek : r.act.keep (min (max (r.wet.length : Int) 0) r.act.wet.length).toNat = r.flush := by rw [(flush_goes hg).1, ← E2.out, keep_all, E2.out]
    rw [ek] at hm
    have HM := Lib.hid hm
    have HFIN : Hid (∀ D D', RPost2 w G r.flush (.int .i64 r.flushE) (.returned (.tuple #[rv (.slice A3 (r.flush).safe.length c3) (.slice A4 (r.flush).wet.length c4) r.flush, .int .i64 0])) (boxed (boxed w5 w.heap.size D 29) (w.heap.size + 1) D' 29)) := fun D D' => by
      rw [(flush_goes hg).2]
      exact (RPost.two HG hzW hb5 (by rw [boxed_size, boxed_size] at hs4 ⊢; rw [boxed_size, boxed_size] at hs4; exact hs4) HM.out rfl rfl HM.out.ok).and _
    rw [ek]
    clear hm hb4 ek
    unfold rv
    go_wp2_with (fail)
    exact bodyPost_ret (v := .tuple #[rv (.slice A3 (r.flush).safe.length c3) (.slice A4 (r.flush).wet.length c4) r.flush, .int .i64 0]) (by simp [rv, results, Try.results13, go_sem, *]) rfl (HFIN.out _ _)

set_option maxRecDepth 20000 in
set_option maxHeartbeats 1600000 in
theorem refFall_any (w : World) (G : Nat → Prop) (v1 v2 : Value) (r : Rf.R) (bs : List Nat) (ps : List (Int × Nat)) (x : Int) (h : Rf.M w G v1 v2 r bs ps) :
    Calls Try.prog 15 #[rv v1 v2 r, .int .i64 x] w (RPost w G (r.fall x)) := by
  obtain ⟨A, c, rfl, hc, _⟩ := own_form h.own1
  obtain ⟨A2, c2, rfl, hc2, _⟩ := own_form h.own2
  have HG := h.lt
  have H := Lib.hid h
  clear h
  unfold rv
  go_enter Try.func15, Try.ntmps15
  go_wp2_with (fail)
  have hb1 : Below w.heap.size w ((w.alloc (.cells #[.slice A r.safe.length c, .slice A2 r.wet.length c2, .int .i64 r.left, .int .i64 r.spare, .bool r.off, .int .i64 r.acts] 29)).alloc (.cells #[.slice none 0 0, .slice none 0 0, .int .i64 0, .int .i64 0, .bool false, .int .i64 0] 29)) := ((Below.refl _ _).alloc (Nat.le_refl _) _).alloc (by rw [World.size_alloc]; omega) _
  refine (refKeep_any _ G (.slice A r.safe.length c) (.slice A2 r.wet.length c2) r bs ps x (H.out.below hb1)).mono ?_
  rintro e w2 ⟨v1, v2, bs', ps', rfl, hm, hb2⟩
  have hs2 := hb2.size
  obtain ⟨w3, rfl, hz1, hz2, hbw⟩ := two_open hb2
  obtain ⟨A3, c3, rfl, _, _⟩ := own_form hm.own1
  obtain ⟨A4, c4, rfl, _, _⟩ := own_form hm.own2
  have hne1 : w.heap.size ≠ w.heap.size + 1 := by omega
  have hne2 : w.heap.size + 1 ≠ w.heap.size := by omega
  have ho := hm.ok
  have HFIN : Hid (∀ D D', RPost w G (r.fall x) (.returned (rv (.slice A3 (r.fall x).safe.length c3) (.slice A4 (r.fall x).wet.length c4) (r.fall x))) (boxed (boxed w3 w.heap.size D 29) (w.heap.size + 1) D' 29)) := fun D D' =>
    RPost.two HG (by rw [World.size_alloc, World.size_alloc]; omega) hbw (by rw [boxed_size, boxed_size] at hs2; exact hs2) hm rfl rfl ⟨ho.safe, ho.wet, ho.size, by simp [Rf.R.fall], ho.acts, by simp [Rf.R.fall]⟩
  clear hm hb2 hb1 hbw ho hs2
  unfold rv
  go_wp2_with (fail)
  exact bodyPost_ret (v := rv (.slice A3 (r.fall x).safe.length c3) (.slice A4 (r.fall x).wet.length c4) (r.fall x)) (by simp [rv, Rf.R.fall, results, Try.results15, go_sem, *]; try rfl) rfl (HFIN.out _ _)
end Go.Proofs.Ytlbodpffkdfllaa
