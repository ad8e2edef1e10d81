/-
  What is flushed is there behind any fall: the law's walk. No conditions but those of the law.
-/
import Derived.Test.YtnplnggkeekedaaActs
import Derived.Test.YtnplnggkeekedaaPlTornWalk
namespace Go.Proofs.Ytnplnggkeekedaa
open Go.ChangeShapes Go.WideShapes Go.ChangeAt Go.RowKit
open Rf (sl ys rv)

/-- Sector 4 is safe, and nothing else is written there. -/
structure Inv4 (want : List Int) (st : Pl.St) : Prop where
  size : st.safe.length = 5
  safe : st.safe[4]? = some want
  wet : ∀ p ∈ st.wet, p.1.toNat ≠ 4
theorem keep4 {safe : List (List Int)} {l : List (Int × List Int)} (h : ∀ p ∈ l, p.1.toNat ≠ 4) : (Pl.keep safe l)[4]? = safe[4]? := by
  unfold Pl.keep
  induction l generalizing safe with
  | nil => rfl
  | cons p t ih =>
    rw [List.foldl_cons, ih (fun q hq => h q (List.mem_cons_of_mem _ hq)), List.getElem?_set_ne (h p (List.mem_cons_self ..))]
section
variable {want : List Int} {st : Pl.St}
theorem Inv4.settle (h : Inv4 want st) (n : Nat) : Inv4 want (st.settle n) :=
  ⟨by show (Pl.keep _ _).length = 5; rw [Pl.keep_length]; exact h.size, by show (Pl.keep _ _)[4]? = _; rw [keep4 fun p hp => h.wet p (List.mem_of_mem_take hp)]; exact h.safe, fun p hp => nomatch hp⟩
theorem Inv4.act (h : Inv4 want st) : Inv4 want st.act := by
  unfold Pl.St.act
  split
  · exact ⟨h.size, h.safe, h.wet⟩
  · exact ⟨h.size, h.safe, h.wet⟩
theorem Inv4.lay (h : Inv4 want st) {i : Int} (hi : i.toNat ≠ 4) (s : List Int) : Inv4 want (st.lay i s) :=
  ⟨h.size, h.safe, fun p hp => by
    rcases List.mem_append.1 hp with hp | hp
    · exact h.wet p hp
    · rw [List.mem_singleton] at hp; subst hp; exact hi⟩
theorem Inv4.put (h : Inv4 want st) {i : Int} (hi : i ≠ 4) (b : List Int) : Inv4 want (st.put i b) := by
  unfold Pl.St.put
  split
  · exact h
  · rename_i hn
    have ht : st.there i = true := by
      cases e : st.there i
      · exact absurd (.inl e) hn
      · rfl
    have := Pl.there_iff.1 ht
    have h4 : i.toNat ≠ 4 := by omega
    split
    · exact h
    · split
      · exact h.act.lay h4 _
      · unfold Pl.St.tear
        split
        · exact h.act
        · exact h.act.lay h4 _
theorem Inv4.flush (h : Inv4 want st) : Inv4 want st.flush := by
  unfold Pl.St.flush
  split
  · exact h
  · split
    · exact h.act.settle _
    · exact h.act
theorem Inv4.ac (h : Inv4 want st) {a : Ac} (ha : a.at_ ≠ 4 ∨ 4 ≤ a.k % 8) : Inv4 want (a.st st) := by
  unfold Ac.st
  split
  · exact h.flush
  · split
    · exact ⟨h.size, h.safe, h.wet⟩
    · split
      · have := h.settle (min (max a.n 0) st.wet.length).toNat
        exact ⟨this.size, this.safe, this.wet⟩
      · exact h.put (by omega) _
theorem Inv4.end_ (h : Inv4 want st) (n : Int) : (st.fall n).read 4 = want ∧ (st.fall n).off = false ∧ (st.fall n).safe.length = 5 := by
  have h2 := h.settle (min (max n 0) st.wet.length).toNat
  refine ⟨?_, rfl, h2.size⟩
  show Pl.now [] 4 ((st.settle _).safe.getD 4 Pl.zs) = want
  rw [List.getD_eq_getElem?_getD, h2.safe]; rfl
end
theorem inv4_begin {b : List Int} (h : b.length ≤ 64) : Inv4 (Pl.pad b) ((Pl.St.new 5).put 4 b).flush ∧ ((Pl.St.new 5).put 4 b).flushE = 0 := by
  have hno : ¬ ((Pl.St.new 5).there 4 = false ∨ 64 < b.length) := by rintro (h' | h'); exact absurd h' (by decide); omega
  rw [(put_goes hno rfl rfl).1]
  exact ⟨⟨rfl, rfl, fun p hp => nomatch hp⟩, rfl⟩
theorem rput_size (r : Rf.R) (i : Int) (b : List Int) : (r.put i b).acts ≤ r.acts + 1 ∧ (r.put i b).wet.length ≤ r.wet.length + 1 := by
  have ha : r.act.acts ≤ r.acts + 1 := by unfold Rf.R.act; split <;> (first | (simp; done) | (simp; omega) | omega)
  unfold Rf.R.put
  split
  · exact ⟨by omega, by omega⟩
  · split
    · exact ⟨ha, by simp [Rf.R.laid, Rf.act_wet]⟩
    · split
      · exact ⟨ha, by simp [Rf.R.laid, Rf.act_wet]⟩
      · exact ⟨ha, by rw [Rf.act_wet]; omega⟩
theorem rf_size (a : Ac) (r : Rf.R) : (a.rf r).acts ≤ r.acts + 1 ∧ (a.rf r).wet.length ≤ r.wet.length + 1 := by
  have ha : r.act.acts ≤ r.acts + 1 := by unfold Rf.R.act; split <;> (first | (simp; done) | (simp; omega) | omega)
  unfold Ac.rf
  split
  · unfold Rf.R.flush
    split
    · exact ⟨ha, Nat.zero_le _⟩
    · exact ⟨ha, by rw [Rf.act_wet]; omega⟩
  · split
    · exact ⟨by show r.acts ≤ _; omega, by show r.wet.length ≤ _; omega⟩
    · split
      · exact ⟨by show r.acts ≤ _; omega, Nat.zero_le _⟩
      · exact rput_size r _ _

set_option maxRecDepth 20000 in
set_option maxHeartbeats 3200000 in
theorem plateSafe_far (A0 A1 : Option Addr) (n c0 n1 c1 : Nat) (k : Int) (w : World) (h : 64 < n ∨ 30 < n1) :
    Calls Try.prog 4 #[.slice A0 n c0, .slice A1 n1 c1, .int .i64 k] w fun e w' => e = .returned (.bool true) ∧ Below w.heap.size w w' := by
  cases d1 : decide ((64 : Int) < (n : Int))
  · have d2 : decide ((30 : Int) < (n1 : Int)) = true := by simp at d1 ⊢; omega
    go_enter Try.func4, Try.ntmps4
    go_wp2_with (fail)
    refine (awake_any _).mono ?_
    rintro e w1 ⟨rfl, hb1⟩
    go_wp2_with (fail)
    refine (awake_any _).mono ?_
    rintro e w2 ⟨rfl, hb2⟩
    go_wp2
    go_ret
    exact ⟨rfl, hb1.trans (hb2.mono hb1.size)⟩
  · skip
    go_enter Try.func4, Try.ntmps4
    go_wp2_with (fail)
    refine (awake_any _).mono ?_
    rintro e w1 ⟨rfl, hb1⟩
    go_wp2_with (fail)
    refine (awake_any _).mono ?_
    rintro e w2 ⟨rfl, hb2⟩
    go_wp2
    go_ret
    exact ⟨rfl, hb1.trans (hb2.mono hb1.size)⟩

/-- The loop: a plate, and one of the document's own that lies in block X. -/
structure SR (w : World) (X g j : Nat) (wr : World) (v1 v2 : Value) (r : Rf.R) (st : Pl.St) (bs : List Nat) (ps : List (Int × Nat)) (N G : Nat → Prop) : Prop where
  live : Live w N wr g st (3 + 2 * j)
  mem : Rf.M wr G v1 v2 r bs ps
  sub : ∀ i, G i → N i
  nlt : ∀ i, N i → i < wr.heap.size
  nx : N X
  gx : ¬ G X
  wx : w.heap.size ≤ X
  blk : wr.heap[X]? = some (.cells #[v1, v2, .int .i64 r.left, .int .i64 r.spare, .bool r.off, .int .i64 r.acts] 29 (0, 0))
  acts : r.acts ≤ j
  wet : r.wet.length ≤ j
section
variable {w : World} {X g j : Nat} {wr : World} {v1 v2 : Value} {r : Rf.R} {st : Pl.St} {bs : List Nat} {ps : List (Int × Nat)} {N G : Nat → Prop}
theorem SR.drew (h : SR w X g j wr v1 v2 r st bs ps N G) : SR w X g j wr.drew v1 v2 r st bs ps N G :=
  ⟨h.live.below ((Below.refl _ _).drew), h.mem.below ((Below.refl _ _).drew), h.sub, h.nlt, h.nx, h.gx, h.wx, h.blk, h.acts, h.wet⟩
theorem SR.up (h : SR w X g j wr v1 v2 r st bs ps N G) (hj : j < 1000) : SR w X g (j + 1) wr v1 v2 r st bs ps N G :=
  ⟨h.live.mono (by omega) (by omega), h.mem, h.sub, h.nlt, h.nx, h.gx, h.wx, h.blk, by have := h.acts; omega, by have := h.wet; omega⟩
theorem SR.lt (h : SR w X g j wr v1 v2 r st bs ps N G) : X < wr.heap.size := (Array.getElem?_eq_some_iff.1 h.blk).1
theorem SR.next {w4 : World} {v1' v2' : Value} {r' : Rf.R} {st' : Pl.St} {bs' : List Nat} {ps' : List (Int × Nat)} {N' G' : Nat → Prop} (h : SR w X g j wr v1 v2 r st bs ps N G) (hl : Live w N' w4 g st' (3 + 2 * j + 2)) (hm : Rf.M w4 G' v1' v2' r' bs' ps')
    (hN : ∀ i, N i → N' i) (hG : ∀ i, G' i → N' i) (hlt : ∀ i, N' i → i < w4.heap.size) (hk : Kept w N wr w4) (hg : ∀ i, G' i → G i ∨ wr.heap.size ≤ i) (ha : r'.acts ≤ r.acts + 1) (hw : r'.wet.length ≤ r.wet.length + 1) (hj : j < 1000) :
    ∃ w6, w4 = boxed w6 X #[v1, v2, .int .i64 r.left, .int .i64 r.spare, .bool r.off, .int .i64 r.acts] 29 ∧ X < w6.heap.size ∧ SR w X g (j + 1) (boxed w6 X #[v1', v2', .int .i64 r'.left, .int .i64 r'.spare, .bool r'.off, .int .i64 r'.acts] 29) v1' v2' r' st' bs' ps' N' G' := by
  have hX := h.lt
  have hs := hk.size
  have hb : w4.heap[X]? = some (.cells #[v1, v2, .int .i64 r.left, .int .i64 r.spare, .bool r.off, .int .i64 r.acts] 29 (0, 0)) := (hk.block X h.nx).trans h.blk
  have hgx : ¬ G' X := fun hx => by
    rcases hg X hx with h' | h'
    · exact h.gx h'
    · omega
  have hoth : ∀ (D : Array Value) i, i ≠ X → (boxed w4 X D 29).heap[i]? = w4.heap[i]? := fun D i hi => boxed_block_other hi
  refine ⟨w4, boxed_self hb, by omega, ?_, hm.kept (fun i hi => hoth _ i fun e => hgx (e ▸ hi)) (by rw [boxed_size]; exact Nat.le_refl _), hG, fun i hi => by rw [boxed_size]; exact hlt i hi, hN X h.nx, hgx, h.wx, boxed_block (by omega), by have := h.acts; omega, by have := h.wet; omega⟩
  have := hl.turned (w' := boxed w4 X #[v1', v2', .int .i64 r'.left, .int .i64 r'.spare, .bool r'.off, .int .i64 r'.acts] 29) (by rw [boxed_size]; exact Nat.le_refl _) (fun i hi => hoth _ i fun e => hi (e ▸ hN X h.nx)) (boxed_below hl.old h.wx)
  exact this.mono (by omega) (by omega)
end

theorem SR.start {w w5 : World} {g : Nat} {v1 v2 : Value} {r : Rf.R} {st : Pl.St} {bs : List Nat} {ps : List (Int × Nat)} {N G : Nat → Prop} (h5 : Live w N w5 g st 3) (hm : Rf.M w5 G v1 v2 r bs ps) (hG : ∀ i, G i → N i) (hN : ∀ i, N i → i < w5.heap.size) (ha : r.acts ≤ 0) (hw : r.wet.length = 0) :
    SR w w5.heap.size g 0 (w5.alloc (.cells #[v1, v2, .int .i64 r.left, .int .i64 r.spare, .bool r.off, .int .i64 r.acts] 29)) v1 v2 r st bs ps (fun i => N i ∨ (w5.heap.size ≤ i ∧ i < (w5.alloc (.cells #[v1, v2, .int .i64 r.left, .int .i64 r.spare, .bool r.off, .int .i64 r.acts] 29)).heap.size)) G := by
  have hb : Below w5.heap.size w5 (w5.alloc (.cells #[v1, v2, .int .i64 r.left, .int .i64 r.spare, .bool r.off, .int .i64 r.acts] 29)) := (Below.refl _ _).alloc (Nat.le_refl _) _
  refine ⟨h5.more hb, hm.below hb, fun i hi => .inl (hG i hi), fun i hi => ?_, .inr ⟨Nat.le_refl _, by rw [World.size_alloc]; omega⟩, fun hx => absurd (hN _ (hG _ hx)) (Nat.lt_irrefl _), h5.old.size, alloc_block, by omega, by omega⟩
  rcases hi with h' | h'
  · have := hN i h'; rw [World.size_alloc]; omega
  · exact h'.2

set_option maxRecDepth 20000 in
set_option maxHeartbeats 3200000 in
theorem plateSafe_in (A0 A1 : Option Addr) (n c0 c1 n1 : Nat) (b : List Int) (l : List Ac) (k : Int) (w : World) (hr : Rd w .u8 w.heap.size A0 b) (hb : BytesOk b) (hn : b.length = n) (h : n ≤ 64) (hr1 : RdActs w w.heap.size A1 l) (hw1 : ∀ a ∈ l, a.Wf) (hn1 : l.length = n1) (h1 : n1 ≤ 30) :
    Calls Try.prog 4 #[.slice A0 n c0, .slice A1 n1 c1, .int .i64 k] w fun e w' => e = .returned (.bool true) ∧ Below w.heap.size w w' := by
  have d1 : decide ((64 : Int) < (n : Int)) = false := by simp; omega
  have d2 : decide ((30 : Int) < (n1 : Int)) = false := by simp; omega
  have HR := Lib.hid hr
  have HR1 := Lib.hid hr1
  have HB := Lib.hid hb
  have HW1 := Lib.hid hw1
  have HN := Lib.hid hn
  have HN1 := Lib.hid hn1
  clear hr hr1 hb hw1 hn hn1
  go_enter Try.func4, Try.ntmps4
  go_wp2_with (fail)
  refine (awake_any _).mono ?_
  rintro e w1 ⟨rfl, hb1⟩
  have HB1 := Lib.hid hb1
  clear hb1
  go_wp2_with (fail)
  refine (new_live (w0 := w) (N := fun _ => False) w1 5 (by omega) HB1.out (fun _ h => h.elim)).mono ?_
  rintro e w2 ⟨rfl, h2, _⟩
  generalize w1.heap.size + 2 = g at *
  go_wp2_with (fail)
  refine (write_live (b := b) (B := w.heap.size) h2 (fun _ h => h.elim) (by omega) (HR.out.below h2.old) h2.old.size HN.out HB.out).mono ?_
  rintro e w3 ⟨rfl, h3, _⟩
  go_wp2_with (fail)
  refine (flush_live h3 (fun _ h => h.elim) (by omega)).mono ?_
  have hbg := inv4_begin (b := b) (by rw [HN.out]; exact h)
  rw [hbg.2]
  rintro e w4 ⟨rfl, h4, _⟩
  have HI := Lib.hid hbg.1
  clear h2 h3 hbg
  go_wp2_with (fail)
  refine (refNew_any _ 5 (by omega)).mono ?_
  rintro e w5 ⟨v1, v2, bs, ps, rfl, hm5, hb5⟩
  have h5 := h4.more hb5
  obtain ⟨A2, c2, rfl, _, _⟩ := own_form hm5.own1
  obtain ⟨A3, c3, rfl, _, _⟩ := own_form hm5.own2
  have hs5 := hb5.size
  have HSR := Lib.hid (SR.start h5 hm5 (fun i hi => hi) (fun i hi => by rcases hi with h' | h'; exact h'.elim; exact h'.2) (Int.le_refl _) rfl)
  clear h4 hm5 h5 hb5
  unfold rv
  go_wp2_with (fail)
  generalize w5.heap.size = X at *
  go_loopw [9] (fun t wr => ∃ (j : Nat) (v1 v2 : Value) (r : Rf.R) (st : Pl.St) (bs : List Nat) (ps : List (Int × Nat)) (N G : Nat → Prop), j ≤ n1 ∧ t = .int .i64 j ∧ SR w X g j wr v1 v2 r st bs ps N G ∧ Inv4 (Pl.pad b) st) (fun t _ => n1 - (intOf t).toNat)
  case atStart => exact ⟨0, _, _, _, _, _, _, _, _, by omega, rfl, HSR.out, HI.out⟩
  case round =>
    obtain ⟨j, v1, v2, r, st, bs, ps, N, G, hj, rfl, hsr, hin⟩ := hrel
    have HS := Lib.hid hsr
    have HIN := Lib.hid hin
    obtain ⟨A4, c4, rfl, _, _⟩ := own_form hsr.mem.own1
    obtain ⟨A5, c5, rfl, _, _⟩ := own_form hsr.mem.own2
    clear hsr hin HSR HI
    by_cases hlt : j < n1
    · have hjl : j < l.length := by rw [HN1.out]; exact hlt
      have hwf := HW1.out _ (List.getElem_mem hjl)
      obtain ⟨b', o, A', c', hA1, hb', q0, q1, q2, q3, hrw⟩ := HR1.out j _ (List.getElem?_eq_getElem hjl)
      have kw : ∀ x, wr.cell? ⟨b', x, none⟩ = w.cell? ⟨b', x, none⟩ := fun x => World.cell?_of_block (HS.out.live.old.block b' hb')
      rw [← kw] at q0 q1 q2 q3
      generalize l[j] = a at *
      obtain ⟨ak, at_, an, p⟩ := a
      obtain ⟨⟨hk0, hk1⟩, hpw⟩ := hwf
      simp only at q0 q1 q2 q3 hrw hk0 hk1 hpw
      obtain ⟨kk, rfl⟩ : ∃ m : Nat, ak = m := ⟨ak.toNat, by omega⟩
      subst hA1
      have HPW := Lib.hid hpw
      have HRW := Lib.hid hrw
      clear hrw hpw kw
      cases d3 : decide ((80 : Int) < (p.length : Int))
      · by_cases hskip : at_ = 4 ∧ kk % 8 < 4
        · obtain ⟨rfl, hk4⟩ := hskip
          have d5 : decide ((4 : Int) ≤ (kk : Int) % 8) = false := by simp; omega
          go_wp2
          go_roundw
          case rel => exact ⟨j + 1, _, _, _, _, _, _, _, _, by omega, by go_num, HS.out.up (by omega), HIN.out⟩
          case measure => simp [intOf]; omega
        · have hgo : at_ ≠ 4 ∨ (4 : Int) ≤ (kk : Int) % 8 := by omega
          have x0 : wr.cell? ⟨X, 0, none⟩ = some (.slice A4 r.safe.length c4) := by rw [cell_of_row _ _ _ _ _ _ HS.out.blk]; rfl
          have x1 : wr.cell? ⟨X, 1, none⟩ = some (.slice A5 r.wet.length c5) := by rw [cell_of_row _ _ _ _ _ _ HS.out.blk]; rfl
          have x2 : wr.cell? ⟨X, 2, none⟩ = some (.int .i64 r.left) := by rw [cell_of_row _ _ _ _ _ _ HS.out.blk]; rfl
          have x3 : wr.cell? ⟨X, 3, none⟩ = some (.int .i64 r.spare) := by rw [cell_of_row _ _ _ _ _ _ HS.out.blk]; rfl
          have x4 : wr.cell? ⟨X, 4, none⟩ = some (.bool r.off) := by rw [cell_of_row _ _ _ _ _ _ HS.out.blk]; rfl
          have x5 : wr.cell? ⟨X, 5, none⟩ = some (.int .i64 r.acts) := by rw [cell_of_row _ _ _ _ _ _ HS.out.blk]; rfl
          by_cases d4 : at_ = 4
          · subst d4
            have d5 : decide ((4 : Int) ≤ (kk : Int) % 8) = true := by simp; omega
            go_wp2
            refine lane_start (ord := [0, 2, 3, 4, 5, 1, 6, 7, 8, 9, 10]) (S := fun w' => w'.cell? ⟨b', o + j * 4, none⟩ = some (.int .u8 (kk : Int)) ∧ w'.cell? ⟨b', o + j * 4 + 1, none⟩ = some (.int .i64 4) ∧ w'.cell? ⟨b', o + j * 4 + 2, none⟩ = some (.int .i64 an) ∧ w'.cell? ⟨b', o + j * 4 + 3, none⟩ = some (.slice A' p.length c')) rfl (by kernel_rfl) ⟨q0, q1, q2, q3⟩ (fun hHeld => ?_)
            iterate 5 (refine lane_take (v := ?_) rfl (by kernel_rfl) (by kernel_rfl) (by rfl) ?_ (by assumption) ?_; rotate_left; (focus (intro W hSw; obtain ⟨hS0, hS1, hS2, hS3⟩ := hSw; go_simp; try (with_reducible rfl))); simp only [Act.put, List.setIfInBounds_toArray, List.set_cons_zero, List.set_cons_succ])
            refine lane_alone rfl (by kernel_rfl) (by rfl) (fun K hK => ?_)
            go_simp
            refine hK _ _ ⟨q0, q1, q2, q3⟩ (fun _ => ?_)
            clear hK K
            refine lane_alone rfl (by kernel_rfl) (by rfl) (fun K hK => ?_)
            go_simp
            go_wp2_with (fail)
            have hd := HS.out.drew
            have hwt : r.wet.length < 1000 := by have := HS.out.wet; omega
            have hac : r.acts < 1000 := by have := hd.acts; omega
            have hcall := do_any w N wr.drew g st (3 + 2 * j) G _ _ r bs ps ⟨kk, 4, an, p⟩ A' c' hd.live (by omega) hd.mem hd.sub hd.nlt hac hwt ⟨hk0, hk1⟩ HRW.out (bytesOk_of_wf HPW.out)
            unfold rv Ac.v at hcall
            simp only at hcall
            refine hcall.mono ?_
            rintro e w4 ⟨v1', v2', bs', ps', N', G', rfl, hl', hm', hN', hG', hlt', hk', hg'⟩
            obtain ⟨A6, c6, rfl, _, _⟩ := own_form hm'.own1
            obtain ⟨A7, c7, rfl, _, _⟩ := own_form hm'.own2
            have kq : ∀ x, w4.cell? ⟨b', x, none⟩ = wr.cell? ⟨b', x, none⟩ := fun x => World.cell?_of_block (hk'.old b' hb')
            have hsz := rf_size ⟨kk, 4, an, p⟩ r
            obtain ⟨w6, rfl, hX6, hsr'⟩ := hd.next hl' hm' hN' hG' hlt' hk' hg' hsz.1 hsz.2 (by omega)
            have HSR2 := Lib.hid hsr'
            have HIN2 := Lib.hid (HIN.out.ac (a := ⟨kk, 4, an, p⟩) hgo)
            have hbX : b' ≠ X := by have := HS.out.wx; omega
            have q0' := (kq _).trans q0
            have q1' := (kq _).trans q1
            have q2' := (kq _).trans q2
            have q3' := (kq _).trans q3
            clear hd hl' hm' hN' hG' hlt' hk' hg' hsr' hsz kq
            generalize Ac.rf ⟨kk, 4, an, p⟩ r = r' at *
            generalize Ac.st ⟨kk, 4, an, p⟩ st = st' at *
            generalize (Ac.stE _ _ == Ac.rfE _ _) = okk
            refine hK _ _ ⟨q0', q1', q2', q3'⟩ (fun _ => ?_)
            clear hK K
            unfold rv
            iterate 3 (refine lane_take (v := ?_) rfl (by kernel_rfl) (by kernel_rfl) (by rfl) ?_ (by exact ⟨q0', q1', q2', q3'⟩) ?_; rotate_left; (focus (intro W hSw; go_simp; try (with_reducible rfl))); simp only [Act.put, List.setIfInBounds_toArray, List.set_cons_zero, List.set_cons_succ])
            refine lane_alone rfl (by kernel_rfl) (by rfl) (fun K hK => ?_)
            go_simp
            rw [boxed_cell_other hbX] at q0' q1' q2' q3'
            refine hK _ _ ⟨by rw [boxed_cell_other hbX]; exact q0', by rw [boxed_cell_other hbX]; exact q1', by rw [boxed_cell_other hbX]; exact q2', by rw [boxed_cell_other hbX]; exact q3'⟩ (fun _ => ?_)
            clear hK K
            refine lane_end (by kernel_rfl) ?_
            clear q0' q1' q2' q3' x0 x1 x2 x3 x4 x5 q0 q1 q2 q3 hHeld
            go_wp2
            go_roundw
            case rel => exact ⟨j + 1, _, _, _, _, _, _, _, _, by omega, by go_num, HSR2.out, HIN2.out⟩
            case measure => simp [intOf]; omega
          · go_wp2
            refine lane_start (ord := [0, 2, 3, 4, 5, 1, 6, 7, 8, 9, 10]) (S := fun w' => w'.cell? ⟨b', o + j * 4, none⟩ = some (.int .u8 (kk : Int)) ∧ w'.cell? ⟨b', o + j * 4 + 1, none⟩ = some (.int .i64 at_) ∧ w'.cell? ⟨b', o + j * 4 + 2, none⟩ = some (.int .i64 an) ∧ w'.cell? ⟨b', o + j * 4 + 3, none⟩ = some (.slice A' p.length c')) rfl (by kernel_rfl) ⟨q0, q1, q2, q3⟩ (fun hHeld => ?_)
            iterate 5 (refine lane_take (v := ?_) rfl (by kernel_rfl) (by kernel_rfl) (by rfl) ?_ (by assumption) ?_; rotate_left; (focus (intro W hSw; obtain ⟨hS0, hS1, hS2, hS3⟩ := hSw; go_simp; try (with_reducible rfl))); simp only [Act.put, List.setIfInBounds_toArray, List.set_cons_zero, List.set_cons_succ])
            refine lane_alone rfl (by kernel_rfl) (by rfl) (fun K hK => ?_)
            go_simp
            refine hK _ _ ⟨q0, q1, q2, q3⟩ (fun _ => ?_)
            clear hK K
            refine lane_alone rfl (by kernel_rfl) (by rfl) (fun K hK => ?_)
            go_simp
            go_wp2_with (fail)
            have hd := HS.out.drew
            have hwt : r.wet.length < 1000 := by have := HS.out.wet; omega
            have hac : r.acts < 1000 := by have := hd.acts; omega
            have hcall := do_any w N wr.drew g st (3 + 2 * j) G _ _ r bs ps ⟨kk, at_, an, p⟩ A' c' hd.live (by omega) hd.mem hd.sub hd.nlt hac hwt ⟨hk0, hk1⟩ HRW.out (bytesOk_of_wf HPW.out)
            unfold rv Ac.v at hcall
            simp only at hcall
            refine hcall.mono ?_
            rintro e w4 ⟨v1', v2', bs', ps', N', G', rfl, hl', hm', hN', hG', hlt', hk', hg'⟩
            obtain ⟨A6, c6, rfl, _, _⟩ := own_form hm'.own1
            obtain ⟨A7, c7, rfl, _, _⟩ := own_form hm'.own2
            have kq : ∀ x, w4.cell? ⟨b', x, none⟩ = wr.cell? ⟨b', x, none⟩ := fun x => World.cell?_of_block (hk'.old b' hb')
            have hsz := rf_size ⟨kk, at_, an, p⟩ r
            obtain ⟨w6, rfl, hX6, hsr'⟩ := hd.next hl' hm' hN' hG' hlt' hk' hg' hsz.1 hsz.2 (by omega)
            have HSR2 := Lib.hid hsr'
            have HIN2 := Lib.hid (HIN.out.ac (a := ⟨kk, at_, an, p⟩) hgo)
            have hbX : b' ≠ X := by have := HS.out.wx; omega
            have q0' := (kq _).trans q0
            have q1' := (kq _).trans q1
            have q2' := (kq _).trans q2
            have q3' := (kq _).trans q3
            clear hd hl' hm' hN' hG' hlt' hk' hg' hsr' hsz kq
            generalize Ac.rf ⟨kk, at_, an, p⟩ r = r' at *
            generalize Ac.st ⟨kk, at_, an, p⟩ st = st' at *
            generalize (Ac.stE _ _ == Ac.rfE _ _) = okk
            refine hK _ _ ⟨q0', q1', q2', q3'⟩ (fun _ => ?_)
            clear hK K
            unfold rv
            iterate 3 (refine lane_take (v := ?_) rfl (by kernel_rfl) (by kernel_rfl) (by rfl) ?_ (by exact ⟨q0', q1', q2', q3'⟩) ?_; rotate_left; (focus (intro W hSw; go_simp; try (with_reducible rfl))); simp only [Act.put, List.setIfInBounds_toArray, List.set_cons_zero, List.set_cons_succ])
            refine lane_alone rfl (by kernel_rfl) (by rfl) (fun K hK => ?_)
            go_simp
            rw [boxed_cell_other hbX] at q0' q1' q2' q3'
            refine hK _ _ ⟨by rw [boxed_cell_other hbX]; exact q0', by rw [boxed_cell_other hbX]; exact q1', by rw [boxed_cell_other hbX]; exact q2', by rw [boxed_cell_other hbX]; exact q3'⟩ (fun _ => ?_)
            clear hK K
            refine lane_end (by kernel_rfl) ?_
            clear q0' q1' q2' q3' x0 x1 x2 x3 x4 x5 q0 q1 q2 q3 hHeld
            go_wp2
            go_roundw
            case rel => exact ⟨j + 1, _, _, _, _, _, _, _, _, by omega, by go_num, HSR2.out, HIN2.out⟩
            case measure => simp [intOf]; omega
      · go_wp2
        go_ret
        exact ⟨rfl, HS.out.live.old⟩
    · have e0 : decide ((j : Int) < (n1 : Int)) = false := by simp; omega
      have he := HIN.out.end_ k
      go_wp2_with (fail)
      refine (fall_live HS.out.live HS.out.nlt (by omega)).mono ?_
      rintro e w6 ⟨rfl, h6, _⟩
      go_wp2_with (fail)
      refine (read_live h6 he.2.1 (by omega) (by rw [he.2.2]; omega)).mono ?_
      intro e w7 ht
      rw [he.1] at ht
      obtain ⟨A8, c8, rfl, HR7, HB7, hc1, hc2, HO7⟩ := ht.open_
      have HOLD := Lib.hid (h6.old.trans (HB7.out.mono h6.old.size))
      have hpb : Pl.Sec (Pl.pad b) := Pl.sec_pad (by rw [HN.out]; exact h) HB.out
      have HW := Lib.hid (HR.out.below HOLD.out)
      have hz7 := HOLD.out.size
      have HE : Hid (Below w.heap.size w (w7.alloc (.cells (arr (Pl.pad b)) 5))) := HOLD.out.alloc hz7 _
      have hc1' : (convert 31 9 (.slice A8 64 c8)).run Try.prog (w7.alloc (.cells (arr (Pl.pad b)) 5)) = .ok (.string (bst (Pl.pad b))) (w7.alloc (.cells (arr (Pl.pad b)) 5)) :=
        conv_len _ A8 w7.heap.size c8 64 (Pl.pad b) (HR7.out.kept fun i hi => alloc_block_old hi) hpb.1
      have hc2' : (convert 31 9 (.slice (some ⟨w7.heap.size, 0, none⟩) 64 64)).run Try.prog (w7.alloc (.cells (arr (Pl.pad b)) 5)) = .ok (.string (bst (Pl.pad b))) (w7.alloc (.cells (arr (Pl.pad b)) 5)) :=
        conv_len _ _ (w7.heap.size + 1) 64 64 (Pl.pad b) (rd_block alloc_block) hpb.1
      clear ht h6 he
      go_wp2_with (first | (refine wpList_make64 rfl _ _ rfl rfl rfl ?_) | (refine wpList_arr_copy rfl _ _ 31 31 rfl 5 Try.underlying31 size5 w7.heap.size 64 64 rfl A0 n c0 rfl Pl.zs 5 alloc_block w.heap.size b (HW.out.kept fun i hi => alloc_block_old (by omega)) HN.out (by rw [Pl.sec_zs.1]; exact Nat.le_refl _) n (Nat.min_eq_left h) ?_; rw [boxed_new, pad_headed HN.out]))
      all_goals
        go_ret
        exact ⟨ret_bool (by simp), HE.out⟩
theorem plateSafe_walk {w : World} (A0 : Option Addr) (c0 : Nat) (b : List Int) (hr : Rd w .u8 w.heap.size A0 b) (hb : ∀ x ∈ b, (Lit.int .u8 x).wf = true) (A1 : Option Addr) (c1 : Nat) (l : List Ac) (hr1 : RdActs w w.heap.size A1 l) (hw1 : ∀ a ∈ l, a.Wf) (k : Int) (_hk : (Lit.int .i64 k).wf = true) :
    Calls Try.prog 4 #[.slice A0 b.length c0, .slice A1 l.length c1, .int .i64 k] w fun e w' => e = .returned (.bool true) ∧ Below w.heap.size w w' := by
  by_cases h : 64 < b.length ∨ 30 < l.length
  · exact plateSafe_far _ _ _ _ _ _ _ _ h
  · exact plateSafe_in A0 A1 _ c0 c1 _ b l k w hr (bytesOk_of_wf hb) rfl (by omega) hr1 hw1 rfl (by omega)
end Go.Proofs.Ytnplnggkeekedaa
