/-
  A diary and all that it stands on; one more entry. No conditions but the sizes.
-/
import Derived.Test.YticefepcoemkoaaDoorDySmall
namespace Go.Proofs.YticefepcoemkoaaDoor
set_option maxRecDepth 20000
open Go.ChangeShapes Go.WideShapes Go.ChangeAt Go.RowKit

/-- A diary, pure: of an age, in one half; what was at first, entries; what is in the other half. -/
structure DyP (S n p1 p2 age : Nat) (fs : List Int) (es : List (List Int)) (lo : List Int) (f : Nat → List Int) : Prop where
  half : Pl.Half f p1 n (Pl.full n (Sl.log age 0 (fs :: es)))
  len : (Sl.log age 0 (fs :: es)).length ≤ n * 64
  other : Pl.Half f p2 n (Pl.full n lo)
  lo : lo.length ≤ n * 64
  fit : p1 + n ≤ S ∧ p2 + n ≤ S ∧ (p1 + n ≤ p2 ∨ p2 + n ≤ p1) ∧ n ≤ 70
  age : age < 1000000
  bytes : ∀ e ∈ fs :: es, BytesOk e
/-- A diary in memory, with all that it stands on; apart from M's blocks. -/
structure DyM (w0 : World) (M : Nat → Prop) (w : World) (d g m S n p1 p2 age : Nat) (fs : List Int) (es : List (List Int)) (lo : List Int) (f : Nat → List Int) (st : Pl.St) (N I E : Nat → Prop) : Prop where
  live : Live w0 N w g st m
  sees : Pl.Sees st S f
  dry : st.wet = []
  lt : ∀ i, N i → i < w.heap.size
  dic : DiC w I E w0.heap.size d g p1 p2 n age (Sl.log age 0 (fs :: es)).length fs es
  own : N d ∧ w0.heap.size ≤ d
  mine : ∀ i, I i ∨ E i → N i
  ent : ∀ i, E i → w0.heap.size ≤ i
  apart : ∀ i, M i → N i ∧ i ≠ d ∧ ¬ E i ∧ ¬ I i
  pure : DyP S n p1 p2 age fs es lo f
  room : m ≤ 40000

theorem log_es {age i : Nat} : ∀ (es : List (List Int)), 16 * es.length ≤ (Sl.log age i es).length := fun es => by
  induction es generalizing i with
  | nil => simp [Sl.log]
  | cons q r ih => have := ih (i := i + 1); show _ ≤ (Sl.closed age i q ++ Sl.log age (i + 1) r).length; rw [List.length_append, Sl.closed_len, List.length_cons]; omega

theorem DiC.kept {w w' : World} {I E : Nat → Prop} {base d g p1 p2 n age q : Nat} {fs : List Int} {es : List (List Int)} (h : DiC w I E base d g p1 p2 n age q fs es) (hk : ∀ i, i = d ∨ I i ∨ E i → i < w.heap.size → w'.heap[i]? = w.heap[i]?) (hs : w.heap.size ≤ w'.heap.size) : DiC w' I E base d g p1 p2 n age q fs es := by
  obtain ⟨Af, cf, ve, vs, h1, h2, h3, h4, h5, h6⟩ := h.lies
  exact ⟨⟨Af, cf, ve, vs, (hk d (.inl rfl) (Array.getElem?_eq_some_iff.1 h1).1).trans h1, h2.kept (fun i hi hl => hk i (.inr (.inl hi)) hl) hs, h3, own_kept h4 fun i hi => hk i (.inr (.inr (h6 i hi))) (h4.lt i hi).2, h5.kept (fun i hi hl => hk i (.inr (.inl hi)) hl) hs, h6⟩, fun i hi => ⟨(h.apart i hi).1, (h.apart i hi).2.1, by have := (h.apart i hi).2.2; omega⟩⟩
theorem DyM.below {w0 w w' : World} {M : Nat → Prop} {d g m S n p1 p2 age : Nat} {fs : List Int} {es : List (List Int)} {lo : List Int} {f : Nat → List Int} {st : Pl.St} {N I E : Nat → Prop} (h : DyM w0 M w d g m S n p1 p2 age fs es lo f st N I E) (hb : Below w.heap.size w w') : DyM w0 M w' d g m S n p1 p2 age fs es lo f st N I E :=
  ⟨h.live.below hb, h.sees, h.dry, fun i hi => Nat.lt_of_lt_of_le (h.lt i hi) hb.size, h.dic.kept (fun i _ hl => hb.block i hl) hb.size, h.own, h.mine, h.ent, h.apart, h.pure, h.room⟩
theorem RdK.below {w0 w w' : World} {N : Nat → Prop} {A : Option Addr} {l : List Int} (h : RdK w0 N w A l) (hb : Below w.heap.size w w') : RdK w0 N w' A l := h.kept hb.size fun i hi _ => hb.block i hi

theorem add_fin {w0 : World} {M : Nat → Prop} {w w2 w3 w4 w7 : World} {d g m S n p1 p2 age q nb cf ce c4 g8 cap8 : Nat} {fs b : List Int} {es : List (List Int)} {lo : List Int} {f : Nat → List Int} {st st3 : Pl.St} {N I E : Nat → Prop} {Af Ae A4 : Option Addr} {vs : List Value} {o : Obj}
    (h : DyM w0 M w d g m S n p1 p2 age fs es lo f st N I E) (hq : (Sl.log age 0 (fs :: es)).length = q) (hn : b.length = nb) (hb : BytesOk b) (hfit : q + (16 + nb) ≤ n * 64) (hm : m + 200 ≤ 40000)
    (hfst : RdI w I Af fs) (hcf : fs.length ≤ cf) (hents : Ents w I vs es) (hE : ∀ i, Value.ownBlock (.slice Ae es.length ce) = some i → E i) (ho : ∀ i, Value.ownBlock (.slice Ae es.length ce) = some i → i < w.heap.size) (hod : Value.ownBlock (.slice Ae es.length ce) ≠ some d)
    (hz2 : w.heap.size ≤ w2.heap.size) (hz3 : w2.heap.size ≤ w3.heap.size) (hl3 : Live w0 (fun i => N i ∨ (w.heap.size ≤ i ∧ i < w2.heap.size)) w3 g st3 (m + 200)) (hs3 : Pl.Sees st3 S (Pl.laid f (p1 + q / 64) ((Sl.log age 0 (fs :: es)).drop (q / 64 * 64) ++ Sl.closed age (es.length + 1) b))) (hw3 : st3.wet = [])
    (hk3 : ∀ i, N i → w3.heap[i]? = w.heap[i]?) (hk3o : ∀ i, i < w0.heap.size → w3.heap[i]? = w.heap[i]?)
    (hb4 : Below w3.heap.size w3 w4) (ho4 : w4.ownsRow w3.heap.size 5 1 (.slice A4 nb c4) nb (cl .u8 b))
    (hown : (boxed w7 d (dcl g p1 p2 n age (.slice Af fs.length cf) (.slice Ae es.length ce) q) 56).ownsRow w0.heap.size 31 1 (.slice (some ⟨g8, 0, none⟩) (es.length + 1) cap8) (es.length + 1) (vs ++ [.slice A4 nb c4]))
    (hg : (w4.alloc o).grownBy (boxed w7 d (dcl g p1 p2 n age (.slice Af fs.length cf) (.slice Ae es.length ce) q) 56) (Value.ownBlock (.slice Ae es.length ce))) (hat : Value.ownBlock (.slice Ae es.length ce) = some g8 ∨ g8 = w4.heap.size + 1) (hd7 : d < w7.heap.size) :
    Kept w0 M w (boxed w7 d (dcl g p1 p2 n age (.slice Af fs.length cf) (.slice (some ⟨g8, 0, none⟩) (es.length + 1) cap8) (q + (16 + nb))) 56) ∧ ∃ f' st' N' I' E', DyM w0 M (boxed w7 d (dcl g p1 p2 n age (.slice Af fs.length cf) (.slice (some ⟨g8, 0, none⟩) (es.length + 1) cap8) (q + (16 + nb))) 56) d g (m + 200) S n p1 p2 age fs (es ++ [b]) lo f' st' N' I' E' := by
  have hdw : d < w.heap.size := h.lt d h.own.1
  have hIw : ∀ i, I i → i < w.heap.size := fun i hi => h.lt i (h.mine i (.inl hi))
  have hEw : ∀ i, E i → i < w.heap.size := fun i hi => h.lt i (h.mine i (.inr hi))
  have hz4 := hb4.size
  have hz6 := hg.size
  rw [World.size_alloc] at hz6
  have hsz : (boxed w7 d (dcl g p1 p2 n age (.slice Af fs.length cf) (.slice (some ⟨g8, 0, none⟩) (es.length + 1) cap8) (q + (16 + nb))) 56).heap.size = (boxed w7 d (dcl g p1 p2 n age (.slice Af fs.length cf) (.slice Ae es.length ce) q) 56).heap.size := by rw [boxed_size, boxed_size]
  have kd : ∀ i, i ≠ d → (boxed w7 d (dcl g p1 p2 n age (.slice Af fs.length cf) (.slice (some ⟨g8, 0, none⟩) (es.length + 1) cap8) (q + (16 + nb))) 56).heap[i]? = (boxed w7 d (dcl g p1 p2 n age (.slice Af fs.length cf) (.slice Ae es.length ce) q) 56).heap[i]? := fun i hi => by rw [boxed_block_other hi, boxed_block_other hi]
  have hblk : (boxed w7 d (dcl g p1 p2 n age (.slice Af fs.length cf) (.slice (some ⟨g8, 0, none⟩) (es.length + 1) cap8) (q + (16 + nb))) 56).heap[d]? = some (.cells (dcl g p1 p2 n age (.slice Af fs.length cf) (.slice (some ⟨g8, 0, none⟩) (es.length + 1) cap8) (q + (16 + nb))) 56 (0, 0)) := boxed_block hd7
  have hos : (boxed w7 d (dcl g p1 p2 n age (.slice Af fs.length cf) (.slice (some ⟨g8, 0, none⟩) (es.length + 1) cap8) (q + (16 + nb))) 56).os = w3.os ∧ (boxed w7 d (dcl g p1 p2 n age (.slice Af fs.length cf) (.slice (some ⟨g8, 0, none⟩) (es.length + 1) cap8) (q + (16 + nb))) 56).tape = w3.tape ∧ (boxed w7 d (dcl g p1 p2 n age (.slice Af fs.length cf) (.slice (some ⟨g8, 0, none⟩) (es.length + 1) cap8) (q + (16 + nb))) 56).output = w3.output := ⟨hg.os.trans hb4.os, hg.tape.trans hb4.tape, hg.output.trans hb4.output⟩
  generalize (boxed w7 d (dcl g p1 p2 n age (.slice Af fs.length cf) (.slice (some ⟨g8, 0, none⟩) (es.length + 1) cap8) (q + (16 + nb))) 56) = W at *
  generalize (boxed w7 d (dcl g p1 p2 n age (.slice Af fs.length cf) (.slice Ae es.length ce) q) 56) = w6 at *
  subst hn
  have k4 : ∀ i, i < w4.heap.size → Value.ownBlock (.slice Ae es.length ce) ≠ some i → i ≠ d → W.heap[i]? = w4.heap[i]? := fun i hi hn hne => by
    rw [kd i hne, hg.block i (by rw [World.size_alloc]; omega) (fun e => hn e.symm), alloc_block_old hi]
  have k3 : ∀ i, i < w3.heap.size → ¬ E i → i ≠ d → W.heap[i]? = w3.heap[i]? := fun i hi hn hne => by
    rw [k4 i (by omega) (fun e => hn (hE i e)) hne, hb4.block i hi]
  have kN : ∀ i, N i → ¬ E i → i ≠ d → W.heap[i]? = w.heap[i]? := fun i hi hn hne => (k3 i (by have := h.lt i hi; omega) hn hne).trans (hk3 i hi)
  have ht : Turn (fun i => i = d ∨ E i) w3 W := ⟨hos.1, hos.2.1, hos.2.2, by omega, fun i hi hn => k3 i hi (fun e => hn (.inr e)) (fun e => hn (.inl e))⟩
  have hl := hl3.turnMore ht (fun i _ hi => .inl (by rcases hi with h' | h'; exact h' ▸ h.own.1; exact h.mine i (.inr h'))) (fun i hi => by rcases hi with h' | h'; exact h' ▸ h.own.2; exact h.ent i h')
  have hwo := h.live.old.size
  have hlog : Sl.log age 0 (fs :: (es ++ [b])) = Sl.log age 0 (fs :: es) ++ Sl.closed age (es.length + 1) b := by
    have := Sl.log_snoc age 0 (fs :: es) b
    rw [List.cons_append, List.length_cons, Nat.zero_add] at this
    exact this
  have hgb : g8 ≠ d ∧ (g8 < w.heap.size → E g8) := by
    rcases hat with h' | h'
    · have h1 := hE g8 h'
      exact ⟨fun e => hod (e ▸ h'), fun _ => h1⟩
    · exact ⟨by omega, fun h2 => by omega⟩
  refine ⟨⟨by omega, fun i hi => kN i (h.apart i hi).1 (h.apart i hi).2.2.1 (h.apart i hi).2.1, fun i hi => ?_⟩, _, st3, _, (fun i => I i ∨ (w3.heap.size ≤ i ∧ i < w4.heap.size)), (fun i => E i ∨ (i = w4.heap.size + 1 ∧ i < W.heap.size)), hl, hs3, hw3, fun i hi => ?_, ⟨⟨Af, cf, .slice (some ⟨g8, 0, none⟩) (es.length + 1) cap8, vs ++ [.slice A4 b.length c4], ?_, ?_, hcf, ?_, ?_, fun i hi => ?_⟩, fun i hi => ?_⟩, ⟨.inl (.inl h.own.1), h.own.2⟩, fun i hi => ?_, fun i hi => ?_, fun i hi => ?_, ?_, hm⟩
  · rw [k3 i (by omega) (fun e => by have := h.ent i e; omega) (by have := h.own.2; omega)]
    exact hk3o i hi
  · rcases hi with (h' | h') | h'
    · have := h.lt i h'; omega
    · omega
    · omega
  · rw [hlog, List.length_append, hq, Sl.closed_len]
    exact hblk
  · exact (hfst.kept (fun i hi _ => kN i (h.mine i (.inl hi)) (h.dic.apart i hi).2.1 (h.dic.apart i hi).1) (by omega)).more fun _ h => .inl h
  · rw [List.length_append, List.length_singleton]
    exact own_kept hown fun i hi => kd i (by
      have : g8 = i := by simpa [Value.ownBlock] using hi
      exact this ▸ hgb.1)
  · refine (((hents.kept (fun i hi _ => kN i (h.mine i (.inl hi)) (h.dic.apart i hi).2.1 (h.dic.apart i hi).1) (by omega) : Ents W I vs es)).more (I' := fun i => I i ∨ (w3.heap.size ≤ i ∧ i < w4.heap.size)) fun _ h => .inl h).snoc (by obtain ⟨A', c', e', h3, _⟩ := own_form ho4; injection e' with _ _ e'; subst e'; exact h3) ?_
    exact (RdI.own (I := fun i => I i ∨ (w3.heap.size ≤ i ∧ i < w4.heap.size)) ho4 fun i h3 h4 => .inr ⟨h3, h4⟩).kept (fun i hi hlt => by
      rcases hi with h' | h'
      · have := hIw i h'
        exact k4 i (by omega) (fun e => (h.dic.apart i h').2.1 (hE i e)) (h.dic.apart i h').1
      · exact k4 i h'.2 (fun e => by have := ho i e; omega) (by omega)) (by omega)
  · have hgi : g8 = i := by simpa [Value.ownBlock] using hi
    rcases hat with h' | h'
    · exact .inl (hgi ▸ hE g8 h')
    · exact .inr ⟨by omega, by have := (hown.lt i hi).2; omega⟩
  · rcases hi with h' | h'
    · have := h.dic.apart i h'
      have := hIw i h'
      exact ⟨(h.dic.apart i h').1, fun e => e.elim (h.dic.apart i h').2.1 (fun e => by omega), by omega⟩
    · exact ⟨by omega, fun e => e.elim (fun e => by have := hEw i e; omega) (fun e => by omega), by omega⟩
  · rcases hi with (h' | h') | (h' | h')
    · exact .inl (.inl (h.mine i (.inl h')))
    · exact .inr (by omega)
    · exact .inl (.inl (h.mine i (.inr h')))
    · exact .inr (by omega)
  · rcases hi with h' | h'
    · exact h.ent i h'
    · omega
  · have hM := h.apart i hi
    have := h.lt i hM.1
    exact ⟨.inl (.inl hM.1), hM.2.1, fun e => e.elim hM.2.2.1 (fun e => by omega), fun e => e.elim hM.2.2.2 (fun e => by omega)⟩
  · have hh := h.pure.half.add (s := Sl.closed age (es.length + 1) b) (by rw [hq, Sl.closed_len]; exact hfit)
    rw [hq] at hh
    refine ⟨by rw [hlog]; exact hh, by rw [hlog, List.length_append, hq, Sl.closed_len]; exact hfit, h.pure.other.other ?_, h.pure.lo, h.pure.fit, h.pure.age, fun e he => ?_⟩
    · have := h.pure.fit
      have hl1 : ((Sl.log age 0 (fs :: es)).drop (q / 64 * 64) ++ Sl.closed age (es.length + 1) b).length = q % 64 + (16 + b.length) := by rw [List.length_append, List.length_drop, hq, Sl.closed_len]; omega
      rw [hl1]
      omega
    · rw [← List.cons_append] at he
      rcases List.mem_append.1 he with h' | h'
      · exact h.pure.bytes e h'
      · rw [List.mem_singleton] at h'; subst h'; exact hb

set_option maxHeartbeats 4000000 in
theorem dAdd_any (w0 : World) (M : Nat → Prop) (w : World) (d g m S n p1 p2 age : Nat) (fs : List Int) (es : List (List Int)) (lo : List Int) (f : Nat → List Int) (st : Pl.St) (N I E : Nat → Prop) (A : Option Addr) (nb c : Nat) (b : List Int)
    (h : DyM w0 M w d g m S n p1 p2 age fs es lo f st N I E) (hr : RdK w0 M w A b) (hb : BytesOk b) (hn : b.length = nb) (hb0 : nb ≤ 1000) (ht : Lines w0) (hm : m + 200 ≤ 40000) :
    Calls Tryd.prog 9 #[.pointer (some ⟨d, 0, none⟩), .slice A nb c] w fun e w' => Kept w0 M w w' ∧
      (((Sl.log age 0 (fs :: es)).length + (16 + nb) ≤ n * 64 ∧ e = .returned (.int .i64 0) ∧ ∃ f' st' N' I' E', DyM w0 M w' d g (m + 200) S n p1 p2 age fs (es ++ [b]) lo f' st' N' I' E') ∨
       (n * 64 < (Sl.log age 0 (fs :: es)).length + (16 + nb) ∧ e = .returned (.int .i64 3) ∧ ∃ N', DyM w0 M w' d g m S n p1 p2 age fs es lo f st N' I E)) := by
  obtain ⟨Af, cf, ve, vs, hblk, hfst, hcf, hown, hents, hE⟩ := h.dic.lies
  obtain ⟨Ae, ce, rfl, _, _⟩ := own_form hown
  have HH := Lib.hid h
  have hdl := (Array.getElem?_eq_some_iff.1 hblk).1
  have hql := h.pure.len
  have hnz := h.pure.fit.2.2.2
  have hage := h.pure.age
  obtain ⟨q, HQ⟩ : ∃ q, Hid ((Sl.log age 0 (fs :: es)).length = q) := ⟨_, rfl⟩
  rw [HQ.out] at hql hblk ⊢
  have hes : es.length ≤ 5000 := by
    have := log_es (age := age) (i := 0) (fs :: es)
    rw [List.length_cons, HQ.out] at this
    omega
  have HBLK := Lib.hid hblk
  have HR := Lib.hid hr
  have HO := Lib.hid hown
  have HEN := Lib.hid hents
  have HF := Lib.hid hfst
  have HEE := Lib.hid hE
  have HB := Lib.hid hb
  have hw0 := h.live.old.size
  clear h hblk hr hown hents hfst hE hb
  go_enter Tryd.func9, Tryd.ntmps9
  go_wp2_with (fail)
  refine (size_any nb w (by omega)).mono ?_
  rintro e w1 ⟨rfl, rfl⟩
  go_wp2_with (fail)
  refine (dLeft_any w d g p1 p2 n age q _ _ HBLK.out hql hnz).mono ?_
  rintro e w1 ⟨rfl, hb1⟩
  by_cases hfit : q + (16 + nb) ≤ n * 64
  · have ht1 : decide ((16 + (nb : Int)) > ((n * 64 - q : Nat) : Int)) = false := by simp; omega
    have hd1 := (hb1.block d hdl).trans HBLK.out
    have HB1 := Lib.hid hb1
    clear hb1
    go_wp2_with (fail)
    refine lane_start (ord := [0, 1, 2, 3, 4, 5, 6, 7, 8, 9, 11, 10, 12, 13]) (S := fun w' => w'.heap[d]? = some (.cells (dcl g p1 p2 n age (.slice Af fs.length cf) (.slice Ae es.length ce) q) 56 (0, 0))) rfl (by kernel_rfl) hd1 (fun hHeld => ?_)
    iterate 11 (refine lane_take (v := ?_) rfl (by kernel_rfl) (by kernel_rfl) (by rfl) ?_ (by assumption) ?_; rotate_left; (focus (intro W hSw; have q6 : W.cell? ⟨d, 6, none⟩ = some (.int .u32 age) := (by rw [cell_of_row _ _ _ _ _ _ hSw]; rfl);have q8 : W.cell? ⟨d, 8, none⟩ = some (.slice Ae es.length ce) := (by rw [cell_of_row _ _ _ _ _ _ hSw]; rfl); go_simp; try (with_reducible rfl))); simp only [Act.put, List.setIfInBounds_toArray, List.set_cons_zero, List.set_cons_succ])
    refine lane_alone rfl (by kernel_rfl) (by rfl) (fun K hK => ?_)
    go_simp
    try go_wp2_with (fail)
    have hwj1 : IntKind.i64.wrap ((es.length : Int) + 1) = (es.length : Int) + 1 := by rw [IntKind.wrap_i64]; omega
    have hwj2 : IntKind.u32.wrap ((es.length : Int) + 1) = (es.length : Int) + 1 := by rw [IntKind.wrap_u32']; omega
    have HWJ : Hid (IntKind.u32.wrap (IntKind.i64.wrap ((es.length : Int) + 1)) = ((es.length + 1 : Nat) : Int)) := by show _ = _; rw [hwj1, hwj2]; omega
    clear hwj1 hwj2
    rw [HWJ.out]
    refine hK _ _ hd1 (fun _ => ?_)
    clear hK K
    refine lane_alone rfl (by kernel_rfl) (by rfl) (fun K hK => ?_)
    go_simp
    go_wp2_with (fail)
    have HR1 := Lib.hid ((HR.out.below HB1.out).below (Below.refl _ w1).drew)
    have HT1 := Lib.hid (((ht.since HH.out.live.old).below HB1.out).below (Below.refl _ w1).drew)
    refine (close_any age (es.length + 1) A w1.drew.heap.size c nb b w1.drew HT1.out (by omega) (by omega) HR1.out.1 (Nat.le_refl _) HB.out hn hb0).mono ?_
    intro e w2 hcl
    obtain ⟨A2, c2, rfl, HO2, HB2, HR2, hc21, hc22⟩ := hcl.open_n (16 + nb) (by rw [Sl.closed_len, hn])
    clear hcl
    have hb2 : Below w.heap.size w w2 := HB1.out.trans (((Below.refl _ w1).drew.trans HB2.out).mono HB1.out.size)
    have hd2 := (hb2.block d hdl).trans HBLK.out
    have HBW2 := Lib.hid hb2
    clear hb2 hHeld
    refine hK _ _ hd2 (fun _ => ?_)
    clear hK K
    iterate 1 (refine lane_take (v := ?_) rfl (by kernel_rfl) (by kernel_rfl) (by rfl) ?_ (by exact hd2) ?_; rotate_left; (focus (intro W hSw;  go_simp; try (with_reducible rfl))); simp only [Act.put, List.setIfInBounds_toArray, List.set_cons_zero, List.set_cons_succ])
    refine lane_end (by kernel_rfl) ?_
    go_wp2_with (fail)
    refine lane_start (ord := [0, 1, 2, 3, 4, 5, 6, 7, 8, 9, 10]) (S := fun w' => w'.heap[d]? = some (.cells (dcl g p1 p2 n age (.slice Af fs.length cf) (.slice Ae es.length ce) q) 56 (0, 0))) rfl (by kernel_rfl) hd2 (fun hHeld => ?_)
    iterate 3 (refine lane_take (v := ?_) rfl (by kernel_rfl) (by kernel_rfl) (by rfl) ?_ (by assumption) ?_; rotate_left; (focus (intro W hSw;  go_simp; try (with_reducible rfl))); simp only [Act.put, List.setIfInBounds_toArray, List.set_cons_zero, List.set_cons_succ])
    refine lane_take (v := halfV g p1 n) rfl (by kernel_rfl) (by kernel_rfl) (by rfl) (fun W hSw => exec_load rfl rfl (run_load_half (dcl_range hSw).1)) (by assumption) ?_
    unfold halfV
    simp only [Act.put, List.setIfInBounds_toArray, List.set_cons_zero, List.set_cons_succ]
    iterate 5 (refine lane_take (v := ?_) rfl (by kernel_rfl) (by kernel_rfl) (by rfl) ?_ (by assumption) ?_; rotate_left; (focus (intro W hSw; have q9 : W.cell? ⟨d, 9, none⟩ = some (.int .i64 (q : Nat)) := (by rw [cell_of_row _ _ _ _ _ _ hSw]; rfl); go_simp; try (with_reducible rfl))); simp only [Act.put, List.setIfInBounds_toArray, List.set_cons_zero, List.set_cons_succ])
    refine lane_alone rfl (by kernel_rfl) (by rfl) (fun K hK => ?_)
    go_simp
    go_wp2_with (fail)
    have hz1 := HB1.out.size
    have hz2 := HBW2.out.size
    have hz12 : w1.heap.size ≤ w2.heap.size := HB2.out.size
    have hN2 : ∀ i, (N i ∨ (w.heap.size ≤ i ∧ i < w2.heap.size)) → i < w2.drew.heap.size := fun i hi => by
      show i < w2.heap.size
      rcases hi with h' | h'
      · have := HH.out.lt i h'; omega
      · omega
    have hr2 : RdK w0 (fun i => N i ∨ (w.heap.size ≤ i ∧ i < w2.heap.size)) w2.drew A2 (Sl.closed age (es.length + 1) b) := ((RdK.own HO2.out fun i h1 h2 => .inr ⟨by have h3 : w1.heap.size ≤ i := h1; omega, h2⟩).kept (w' := w2.drew) (Nat.le_refl _) fun _ _ _ => rfl)
    refine (hadd_any w0 _ w2.drew g st m S f p1 n q A2 (16 + nb) c2 (Sl.log age 0 (fs :: es)) (Sl.closed age (es.length + 1) b) ((HH.out.live.more HBW2.out).below (Below.refl _ _).drew) HH.out.sees hN2 hr2 (closed_ok HB.out) (by rw [Sl.closed_len, hn]) (by omega) HQ.out hfit HH.out.pure.half HH.out.pure.fit.1 hnz (by have := HH.out.room; omega)).mono ?_
    rintro e w3 ⟨rfl, st3, hl3, hs3, hw3, hk3⟩
    have HL3 := Lib.hid hl3
    have HS3 := Lib.hid hs3
    have HW3 := Lib.hid hw3
    have hd3 := (hk3.block d (.inl HH.out.own.1)).trans hd2
    have hk3b : ∀ i, N i → w3.heap[i]? = w.heap[i]? := fun i hi => (hk3.block i (.inl hi)).trans (HBW2.out.block i (HH.out.lt i hi))
    have hk3o : ∀ i, i < w0.heap.size → w3.heap[i]? = w.heap[i]? := fun i hi => (hk3.old i hi).trans (HBW2.out.block i (by omega))
    have hz3 : w2.heap.size ≤ w3.heap.size := hk3.size
    have HK3 := Lib.hid hk3b
    have HK3O := Lib.hid hk3o
    have HD3 := Lib.hid hd3
    clear hl3 hs3 hw3 hk3 hk3b hk3o hN2 hr2 hHeld
    refine hK _ _ hd3 (fun _ => ?_)
    clear hK K
    iterate 1 (refine lane_take (v := ?_) rfl (by kernel_rfl) (by kernel_rfl) (by rfl) ?_ (by exact hd3) ?_; rotate_left; (focus (intro W hSw;  go_simp; try (with_reducible rfl))); simp only [Act.put, List.setIfInBounds_toArray, List.set_cons_zero, List.set_cons_succ])
    refine lane_end (by kernel_rfl) ?_
    clear hd1 hd2 hd3
    go_wp2_with (fail)
    have d8 : w3.cell? ⟨d, 8, none⟩ = some (.slice Ae es.length ce) := by rw [cell_of_row _ _ _ _ _ _ HD3.out]; rfl
    have hRb3 : Rd w3 .u8 w3.heap.size A b := (HR.out.kept (w' := w3) (by omega) fun i hi hn => hn.elim (fun h => HK3.out i (HH.out.apart i h).1) (HK3O.out i)).1
    have HAFT : Hid (∀ (w4 : World) (A4 : Option Addr) (c4 : Nat), Below w3.heap.size w3 w4 → w4.ownsRow w3.heap.size 5 1 (.slice A4 nb c4) nb (cl .u8 b) → ∃ (g8 cap8 : Nat) (w7 : World), d < w7.heap.size ∧
        (Builtin.append_ #[32, 32] 32 #[.slice Ae es.length ce, .slice (some ⟨w4.heap.size, 0, none⟩) 1 1]).run Tryd.prog (w4.alloc (.cells #[.slice A4 nb c4] 31)) = .ok (.slice (some ⟨g8, 0, none⟩) (es.length + 1) cap8) (boxed w7 d (dcl g p1 p2 n age (.slice Af fs.length cf) (.slice Ae es.length ce) q) 56) ∧
        (Kept w0 M w (boxed w7 d (dcl g p1 p2 n age (.slice Af fs.length cf) (.slice (some ⟨g8, 0, none⟩) (es.length + 1) cap8) (q + (16 + nb))) 56) ∧ ∃ f' st' N' I' E', DyM w0 M (boxed w7 d (dcl g p1 p2 n age (.slice Af fs.length cf) (.slice (some ⟨g8, 0, none⟩) (es.length + 1) cap8) (q + (16 + nb))) 56) d g (m + 200) S n p1 p2 age fs (es ++ [b]) lo f' st' N' I' E')) := by
      intro w4 A4 c4 hb4 ho4
      obtain ⟨i0, hi0, hi1, hi2, hi3⟩ := info_parts rowinfo2
      have hob : ∀ i, Value.ownBlock (.slice Ae es.length ce) = some i → E i := HEE.out
      have hown4 : w4.ownsRow w0.heap.size 31 1 (.slice Ae es.length ce) es.length vs := own_kept HO.out fun i hi => (hb4.block i (by have := (HO.out.lt i hi).2; omega)).trans (HK3.out i (HH.out.mine i (.inr (hob i hi))))
      have hz4 := hb4.size
      obtain ⟨g8, cap8, w6, hrun, hown8, hgrow, hat, hlt8⟩ := run_append_lies (P := Tryd.prog) (w4.alloc (.cells #[.slice A4 nb c4] 31)) 32 32 w0.heap.size 31 i0 (.slice none 0 0) 1 24 Tryd.underlying32 hi0 hi1 hi2 hi3 rfl (by decide) _ es.length vs (hown4.alloc _) ⟨w4.heap.size, 0, none⟩ 1 1 [.slice A4 nb c4] rfl (cell_one_new _ _ _) (by simp [Value.oneCell']) (by omega) (by unfold maxLen; omega) (by omega) (by simp; omega) (w4.heap.size + 1) (by simp)
      have hod : Value.ownBlock (.slice Ae es.length ce) ≠ some d := own_ne HO.out HBLK.out (by decide)
      have hd6 := (hgrow.block d (by simp; omega) (fun e => hod e.symm)).trans ((alloc_block_old (by omega)).trans ((hb4.block d (by omega)).trans HD3.out))
      obtain ⟨w7, rfl⟩ : ∃ w7, w6 = (boxed w7 d (dcl g p1 p2 n age (.slice Af fs.length cf) (.slice Ae es.length ce) q) 56) := ⟨w6, boxed_self hd6⟩
      have hd7 : d < w7.heap.size := by have := (Array.getElem?_eq_some_iff.1 hd6).1; rwa [boxed_size] at this
      exact ⟨g8, cap8, w7, hd7, hrun, add_fin HH.out HQ.out hn HB.out hfit hm HF.out hcf HEN.out hob (fun i hi => (HO.out.lt i hi).2) hod hz2 hz3 HL3.out HS3.out HW3.out HK3.out HK3O.out hb4 ho4 hown8 hgrow hat hd7⟩
    have HRB := Lib.hid hRb3
    clear hRb3
    refine lane_start (ord := [0, 1, 2, 3, 5, 4, 6, 7, 8, 9, 10, 11]) (S := fun _ => True) rfl (by kernel_rfl) trivial (fun _ => ?_)
    iterate 5 (refine lane_take (v := ?_) rfl (by kernel_rfl) (by kernel_rfl) (by rfl) ?_ (by trivial) ?_; rotate_left; (focus (intro W hSw;  go_simp; try (with_reducible rfl))); simp only [Act.put, List.setIfInBounds_toArray, List.set_cons_zero, List.set_cons_succ])
    refine lane_two (i := 4) (j := 6) (ordI := [6, 7, 8, 9, 10, 11]) (ordJ := [4, 7, 8, 9, 10, 11]) rfl rfl (by kernel_rfl) rfl (by rfl) (by rfl) (fun K hK => ?_) (fun K hK => ?_)
    · go_simp
      try go_wp2_with (fail)
      refine hK _ _ trivial (fun _ => ?_)
      clear hK K
      refine lane_alone rfl (by kernel_rfl) (by rfl) (fun K hK => ?_)
      go_simp
      go_wp2_with (fail)
      refine (clone_len A w3.heap.size c nb b w3.drew (HRB.out.kept fun _ _ => rfl) (Nat.le_refl _) hn (by omega)).mono ?_
      intro e w4 hcl
      obtain ⟨A4, c4, rfl, HO4, HB4, _, _, _⟩ := hcl.open_n nb hn
      obtain ⟨g8, cap8, w7, hd7, hrun, hfin⟩ := HAFT.out w4 A4 c4 ((Below.refl _ w3).drew.trans HB4.out) HO4.out
      have HRUN := Lib.hid hrun
      have HFIN := Lib.hid hfin
      clear hrun hfin hcl d8
      refine hK _ _ trivial (fun _ => ?_)
      clear hK K
      refine lane_alone rfl (by kernel_rfl) (by rfl) (fun K hK => ?_)
      go_simp
      try go_wp2_with (fail)
      refine hK _ _ trivial (fun _ => ?_)
      clear hK K
      refine lane_alone rfl (by kernel_rfl) (by rfl) (fun K hK => ?_)
      refine wp_of_value (exec_append (sv := .slice Ae es.length ce) (xv := .slice (some ⟨w4.heap.size, 0, none⟩) 1 1) rfl rfl rfl HRUN.out) ?_
      simp only [Act.put, List.setIfInBounds_toArray, List.set_cons_zero, List.set_cons_succ]
      refine hK _ _ trivial (fun _ => ?_)
      clear hK K
      iterate 2 (refine lane_take (v := ?_) rfl (by kernel_rfl) (by kernel_rfl) (by rfl) ?_ (by trivial) ?_; rotate_left; (focus (intro W hSw;  go_simp; try (with_reducible rfl))); simp only [Act.put, List.setIfInBounds_toArray, List.set_cons_zero, List.set_cons_succ])
      unfold dcl
      refine lane_alone rfl (by kernel_rfl) (by rfl) (fun K hK => ?_)
      go_simp
      try go_wp2_with (fail)
      refine hK _ _ trivial (fun _ => ?_)
      clear hK K
      refine lane_end (by kernel_rfl) ?_
      go_wp2
      go_ret
      have hqc : ((q : Int) + (16 + (nb : Int))) = ((q + (16 + nb) : Nat) : Int) := by omega
      rw [hqc]
      exact ⟨HFIN.out.1, .inl ⟨hfit, rfl, HFIN.out.2⟩⟩
    · go_simp
      go_wp2_with (fail)
      refine (clone_len A w3.heap.size c nb b w3.drew (HRB.out.kept fun _ _ => rfl) (Nat.le_refl _) hn (by omega)).mono ?_
      intro e w4 hcl
      obtain ⟨A4, c4, rfl, HO4, HB4, _, _, _⟩ := hcl.open_n nb hn
      obtain ⟨g8, cap8, w7, hd7, hrun, hfin⟩ := HAFT.out w4 A4 c4 ((Below.refl _ w3).drew.trans HB4.out) HO4.out
      have HRUN := Lib.hid hrun
      have HFIN := Lib.hid hfin
      have d84 : w4.cell? ⟨d, 8, none⟩ = some (.slice Ae es.length ce) := (World.cell?_of_block (a := ⟨d, 8, none⟩) (HB4.out.block d (by show d < w3.heap.size; omega))).trans d8
      have d85 : (w4.alloc (.cells #[.slice A4 nb c4] 31)).cell? ⟨d, 8, none⟩ = some (.slice Ae es.length ce) := (World.cell?_of_block (a := ⟨d, 8, none⟩) (alloc_block_old (by have h1 : w3.heap.size ≤ w4.heap.size := HB4.out.size; show d < w4.heap.size; omega))).trans d84
      clear hrun hfin hcl d8
      refine hK _ _ trivial (fun _ => ?_)
      clear hK K
      refine lane_two (i := 4) (j := 7) (ordI := [7, 8, 9, 10, 11]) (ordJ := [4, 8, 9, 10, 11]) rfl rfl (by kernel_rfl) rfl (by rfl) (by rfl) (fun K hK => ?_) (fun K hK => ?_)
      · clear d85
        go_simp
        try go_wp2_with (fail)
        refine hK _ _ trivial (fun _ => ?_)
        clear hK K d84
        refine lane_alone rfl (by kernel_rfl) (by rfl) (fun K hK => ?_)
        go_simp
        try go_wp2_with (fail)
        refine hK _ _ trivial (fun _ => ?_)
        clear hK K
        refine lane_alone rfl (by kernel_rfl) (by rfl) (fun K hK => ?_)
        refine wp_of_value (exec_append (sv := .slice Ae es.length ce) (xv := .slice (some ⟨w4.heap.size, 0, none⟩) 1 1) rfl rfl rfl HRUN.out) ?_
        simp only [Act.put, List.setIfInBounds_toArray, List.set_cons_zero, List.set_cons_succ]
        refine hK _ _ trivial (fun _ => ?_)
        clear hK K
        iterate 2 (refine lane_take (v := ?_) rfl (by kernel_rfl) (by kernel_rfl) (by rfl) ?_ (by trivial) ?_; rotate_left; (focus (intro W hSw;  go_simp; try (with_reducible rfl))); simp only [Act.put, List.setIfInBounds_toArray, List.set_cons_zero, List.set_cons_succ])
        unfold dcl
        refine lane_alone rfl (by kernel_rfl) (by rfl) (fun K hK => ?_)
        go_simp
        try go_wp2_with (fail)
        refine hK _ _ trivial (fun _ => ?_)
        clear hK K
        refine lane_end (by kernel_rfl) ?_
        go_wp2
        go_ret
        have hqc : ((q : Int) + (16 + (nb : Int))) = ((q + (16 + nb) : Nat) : Int) := by omega
        rw [hqc]
        exact ⟨HFIN.out.1, .inl ⟨hfit, rfl, HFIN.out.2⟩⟩
      · clear d84
        go_simp
        try go_wp2_with (fail)
        refine hK _ _ trivial (fun _ => ?_)
        clear hK K
        refine lane_alone rfl (by kernel_rfl) (by rfl) (fun K hK => ?_)
        go_simp
        try go_wp2_with (fail)
        refine hK _ _ trivial (fun _ => ?_)
        clear hK K d85
        refine lane_alone rfl (by kernel_rfl) (by rfl) (fun K hK => ?_)
        refine wp_of_value (exec_append (sv := .slice Ae es.length ce) (xv := .slice (some ⟨w4.heap.size, 0, none⟩) 1 1) rfl rfl rfl HRUN.out) ?_
        simp only [Act.put, List.setIfInBounds_toArray, List.set_cons_zero, List.set_cons_succ]
        refine hK _ _ trivial (fun _ => ?_)
        clear hK K
        iterate 2 (refine lane_take (v := ?_) rfl (by kernel_rfl) (by kernel_rfl) (by rfl) ?_ (by trivial) ?_; rotate_left; (focus (intro W hSw;  go_simp; try (with_reducible rfl))); simp only [Act.put, List.setIfInBounds_toArray, List.set_cons_zero, List.set_cons_succ])
        unfold dcl
        refine lane_alone rfl (by kernel_rfl) (by rfl) (fun K hK => ?_)
        go_simp
        try go_wp2_with (fail)
        refine hK _ _ trivial (fun _ => ?_)
        clear hK K
        refine lane_end (by kernel_rfl) ?_
        go_wp2
        go_ret
        have hqc : ((q : Int) + (16 + (nb : Int))) = ((q + (16 + nb) : Nat) : Int) := by omega
        rw [hqc]
        exact ⟨HFIN.out.1, .inl ⟨hfit, rfl, HFIN.out.2⟩⟩
  · have ht1 : decide ((16 + (nb : Int)) > ((n * 64 - q : Nat) : Int)) = true := by simp; omega
    go_wp2
    go_ret
    exact ⟨Kept.of_below hb1 (fun i hi => HH.out.lt i (HH.out.apart i hi).1) hw0, .inr ⟨by omega, rfl, N, HH.out.below hb1⟩⟩
end Go.Proofs.YticefepcoemkoaaDoor
