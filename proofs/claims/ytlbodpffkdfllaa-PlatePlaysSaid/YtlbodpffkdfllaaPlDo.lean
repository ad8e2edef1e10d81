/-
  The law's 'do': an act on a plate and on one of the document's own. No conditions but the sizes.
-/
import Derived.Test.YtlbodpffkdfllaaRfPut
namespace Go.Proofs.Ytlbodpffkdfllaa
open Go.ChangeShapes Go.WideShapes Go.ChangeAt Go.RowKit
open Rf (sl ys rv)

/-- An act. -/
structure Ac where
  k : Int
  at_ : Int
  n : Int
  p : List Int
def Ac.st (a : Ac) (st : Pl.St) : Pl.St := if a.k % 8 = 4 ∨ a.k % 8 = 5 then st.flush else if a.k % 8 = 6 then st.arm (a.at_.tmod 9) (a.n.tmod 80) else if a.k % 8 = 7 then st.fall a.n else st.put a.at_ a.p
def Ac.stE (a : Ac) (st : Pl.St) : Int := if a.k % 8 = 4 ∨ a.k % 8 = 5 then st.flushE else if a.k % 8 = 6 then 0 else if a.k % 8 = 7 then 0 else st.putE a.at_ a.p
def Rf.R.arm (r : Rf.R) (x y : Int) : Rf.R := { r with left := if x < 0 then -1 else x, spare := y }
def Ac.rf (a : Ac) (r : Rf.R) : Rf.R := if a.k % 8 = 4 ∨ a.k % 8 = 5 then r.flush else if a.k % 8 = 6 then r.arm (a.at_.tmod 9) (a.n.tmod 80) else if a.k % 8 = 7 then r.fall a.n else r.put a.at_ a.p
def Ac.rfE (a : Ac) (r : Rf.R) : Int := if a.k % 8 = 4 ∨ a.k % 8 = 5 then r.flushE else if a.k % 8 = 6 then 0 else if a.k % 8 = 7 then 0 else r.putE a.at_ a.p

theorem tmod_bd (x : Int) (k : Nat) (h : 0 < k) : -(k : Int) < x.tmod k ∧ x.tmod k < k := by
  cases x with
  | ofNat n =>
    have := Nat.mod_lt n h
    show -(k : Int) < ((n % k : Nat) : Int) ∧ ((n % k : Nat) : Int) < k
    omega
  | negSucc n =>
    have := Nat.mod_lt (n + 1) h
    show -(k : Int) < -(((n + 1) % k : Nat) : Int) ∧ -(((n + 1) % k : Nat) : Int) < k
    omega
/-- What an act leaves, of both. -/
def DoPost (w0 : World) (N G : Nat → Prop) (w : World) (g : Nat) (st' : Pl.St) (m : Nat) (r' : Rf.R) (ok : Bool) (e : Ending) (w' : World) : Prop :=
  ∃ v1 v2 bs ps N' G', e = .returned (.tuple #[rv v1 v2 r', .bool ok]) ∧ Live w0 N' w' g st' m ∧ Rf.M w' G' v1 v2 r' bs ps ∧ (∀ i, N i → N' i) ∧ (∀ i, G' i → N' i) ∧ (∀ i, N' i → i < w'.heap.size) ∧ Kept w0 N w w' ∧ (∀ i, G' i → G i ∨ w.heap.size ≤ i)

/-- The walk of 'do': where the plate, and the document's own, lie. -/
structure Dn (w0 : World) (N G0 : Nat → Prop) (w w3 : World) (g : Nat) (st : Pl.St) (m : Nat) (N' G : Nat → Prop) (v1 v2 : Value) (r : Rf.R) (bs : List Nat) (ps : List (Int × Nat)) (E : Array Value) (t2 : TypeId) : Prop where
  live : ∀ D D', Live w0 N' (boxed (boxed w3 w.heap.size D 29) (w.heap.size + 1 + 1) D' 29) g st m
  mem : ∀ D D', Rf.M (boxed (boxed w3 w.heap.size D 29) (w.heap.size + 1 + 1) D' 29) G v1 v2 r bs ps
  kept : ∀ D D', Kept w0 N w (boxed (boxed w3 w.heap.size D 29) (w.heap.size + 1 + 1) D' 29)
  act : w3.heap[w.heap.size + 1]? = some (.cells E t2 (0, 0))
  lt : w.heap.size + 2 < w3.heap.size
  sub : ∀ i, N i → N' i
  gsub : ∀ i, G i → N' i
  nlt : ∀ i, N' i → i < w3.heap.size
  n1 : N' w.heap.size ∧ N' (w.heap.size + 1) ∧ N' (w.heap.size + 1 + 1)
  g0 : ∀ i, G i → i ≠ w.heap.size ∧ i ≠ w.heap.size + 1 + 1
  nb : ∀ i, N i → i < w.heap.size
  gnew : ∀ i, G i → G0 i ∨ w.heap.size ≤ i
section
variable {w0 : World} {N : Nat → Prop} {w w3 : World} {g : Nat} {st : Pl.St} {m : Nat} {N' G G0 : Nat → Prop} {v1 v2 : Value} {r : Rf.R} {bs : List Nat} {ps : List (Int × Nat)} {E : Array Value} {t2 : TypeId} {C C' : Array Value}
def N1 (N : Nat → Prop) (w : World) (i : Nat) : Prop := N i ∨ (w.heap.size ≤ i ∧ i < w.heap.size + 3)
theorem do_size {o o' o'' : Obj} : (((w.alloc o).alloc o').alloc o'').heap.size = w.heap.size + 3 := by rw [World.size_alloc, World.size_alloc, World.size_alloc]
theorem do_below {o o' o'' : Obj} : Below w.heap.size w (((w.alloc o).alloc o').alloc o'') := (((Below.refl _ _).alloc (Nat.le_refl _) _).alloc (by rw [World.size_alloc]; omega) _).alloc (by rw [World.size_alloc, World.size_alloc]; omega) _
theorem do_live {o o' o'' : Obj} (h : Live w0 N w g st m) : Live w0 (N1 N w) (((w.alloc o).alloc o').alloc o'') g st m :=
  (h.more do_below).less fun i hi => by rw [do_size]; exact hi
theorem N1.lt {o o' o'' : Obj} (hN : ∀ i, N i → i < w.heap.size) : ∀ i, N1 N w i → i < (((w.alloc o).alloc o').alloc o'').heap.size := fun i hi => by
  rw [do_size]
  rcases hi with h | h
  · have := hN i h; omega
  · exact h.2
/-- Behind the plate's own act. -/
theorem Dn.make {w2 : World} {st' : Pl.St} {m' : Nat} (hN : ∀ i, N i → i < w.heap.size) (hG : ∀ i, G i → N i) (hz0 : w0.heap.size ≤ w.heap.size) (hM : Rf.M w G v1 v2 r bs ps) (hl : Live w0 (N1 N w) w2 g st' m')
    (hk : Kept w0 (N1 N w) (((w.alloc (.cells C 29)).alloc (.cells E t2)).alloc (.cells C' 29)) w2) :
    ∃ w3, w2 = boxed (boxed w3 w.heap.size C 29) (w.heap.size + 1 + 1) C' 29 ∧ w.heap.size < w3.heap.size ∧ w.heap.size + 1 + 1 < w3.heap.size ∧ w3.heap[w.heap.size + 1]? = some (.cells E t2 (0, 0)) ∧ Dn w0 N G w w3 g st' m' (N1 N w) G v1 v2 r bs ps E t2 := by
  have hs := hk.size
  rw [do_size] at hs
  have h0 : w2.heap[w.heap.size]? = some (.cells C 29 (0, 0)) := by
    rw [hk.block _ (.inr (by omega)), alloc_block_old (by rw [World.size_alloc, World.size_alloc]; omega), alloc_block_old (by rw [World.size_alloc]; omega)]; exact alloc_block
  have h1 : w2.heap[w.heap.size + 1]? = some (.cells E t2 (0, 0)) := by
    rw [hk.block _ (.inr (by omega)), alloc_block_old (by rw [World.size_alloc, World.size_alloc]; omega)]; exact alloc_at (by rw [World.size_alloc])
  have h2 : w2.heap[w.heap.size + 1 + 1]? = some (.cells C' 29 (0, 0)) := by
    rw [hk.block _ (.inr (by omega))]; exact alloc_at (by rw [World.size_alloc, World.size_alloc])
  have hw : w2 = boxed (boxed w2 w.heap.size C 29) (w.heap.size + 1 + 1) C' 29 := by rw [← boxed_self h0, ← boxed_self h2]
  have hold : ∀ i, i < w.heap.size → N i → w2.heap[i]? = w.heap[i]? := fun i hi hn => (hk.block i (.inl hn)).trans (do_below.block i hi)
  have hoth : ∀ D D' i, i ≠ w.heap.size → i ≠ w.heap.size + 1 + 1 → (boxed (boxed w2 w.heap.size D 29) (w.heap.size + 1 + 1) D' 29).heap[i]? = w2.heap[i]? := fun D D' i h h' => by rw [boxed_block_other h', boxed_block_other h]
  have hsz : ∀ D D', (boxed (boxed w2 w.heap.size D 29) (w.heap.size + 1 + 1) D' 29).heap.size = w2.heap.size := fun D D' => by rw [boxed_size, boxed_size]
  refine ⟨w2, hw, by omega, by omega, h1, fun D D' => ?_, fun D D' => ?_, fun D D' => ?_, h1, by omega, fun i hi => .inl hi, fun i hi => .inl (hG i hi), fun i hi => ?_, ⟨.inr (by omega), .inr (by omega), .inr (by omega)⟩, fun i hi => ?_, hN, fun i hi => .inl hi⟩
  · refine hl.turned (by rw [hsz]; exact Nat.le_refl _) (fun i hi => hoth D D' i (fun e => hi (.inr (by omega))) (fun e => hi (.inr (by omega)))) ?_
    exact boxed_below (boxed_below hl.old hz0) (by omega)
  · refine hM.kept (fun i hi => ?_) (by rw [hsz]; omega)
    have hlt := hN i (hG i hi)
    rw [hoth D D' i (by omega) (by omega)]
    exact hold i hlt (hG i hi)
  · refine ⟨by rw [hsz]; omega, fun i hi => ?_, fun i hi => ?_⟩
    · have hlt := hN i hi
      rw [hoth D D' i (by omega) (by omega)]
      exact hold i hlt hi
    · rw [hoth D D' i (by omega) (by omega), hk.old i hi]
      exact do_below.block i (by omega)
  · rcases hi with h | h
    · have := hN i h; omega
    · omega
  · have := hN i (hG i hi); omega
/-- Behind the act of the document's own. -/
theorem Dn.next {w4 : World} {v1' v2' : Value} {r' : Rf.R} {bs' : List Nat} {ps' : List (Int × Nat)} (h : Dn w0 N G0 w w3 g st m N' G v1 v2 r bs ps E t2) (hz0 : w0.heap.size ≤ w.heap.size) (hb : Below (boxed (boxed w3 w.heap.size C 29) (w.heap.size + 1 + 1) C' 29).heap.size (boxed (boxed w3 w.heap.size C 29) (w.heap.size + 1 + 1) C' 29) w4)
    (hM : Rf.M w4 (grow G (boxed (boxed w3 w.heap.size C 29) (w.heap.size + 1 + 1) C' 29) w4) v1' v2' r' bs' ps') :
    ∃ w5 N2 G2, w4 = boxed (boxed w5 w.heap.size C 29) (w.heap.size + 1 + 1) C' 29 ∧ w.heap.size < w5.heap.size ∧ w.heap.size + 1 + 1 < w5.heap.size ∧ w5.heap[w.heap.size + 1]? = some (.cells E t2 (0, 0)) ∧ Dn w0 N G0 w w5 g st m N2 G2 v1' v2' r' bs' ps' E t2 := by
  have hs := hb.size
  have hlt := h.lt
  have hW : (boxed (boxed w3 w.heap.size C 29) (w.heap.size + 1 + 1) C' 29).heap.size = w3.heap.size := by rw [boxed_size, boxed_size]
  have hblk := hb.block
  rw [hW] at hs hblk
  have h0 : w4.heap[w.heap.size]? = some (.cells C 29 (0, 0)) := by rw [hblk _ (by omega), boxed_block_other (by omega)]; exact boxed_block (by omega)
  have h1 : w4.heap[w.heap.size + 1]? = some (.cells E t2 (0, 0)) := by rw [hblk _ (by omega), boxed_block_other (by omega), boxed_block_other (by omega)]; exact h.act
  have h2 : w4.heap[w.heap.size + 1 + 1]? = some (.cells C' 29 (0, 0)) := by rw [hblk _ (by omega)]; exact boxed_block (by rw [boxed_size]; omega)
  have hw : w4 = boxed (boxed w4 w.heap.size C 29) (w.heap.size + 1 + 1) C' 29 := by rw [← boxed_self h0, ← boxed_self h2]
  have hoth : ∀ D D' i, i ≠ w.heap.size → i ≠ w.heap.size + 1 + 1 → (boxed (boxed w4 w.heap.size D 29) (w.heap.size + 1 + 1) D' 29).heap[i]? = w4.heap[i]? := fun D D' i h h' => by rw [boxed_block_other h', boxed_block_other h]
  have hsz : ∀ D D', (boxed (boxed w4 w.heap.size D 29) (w.heap.size + 1 + 1) D' 29).heap.size = w4.heap.size := fun D D' => by rw [boxed_size, boxed_size]
  have hL := (h.live C C').more hb
  have hg0 : ∀ i, grow G (boxed (boxed w3 w.heap.size C 29) (w.heap.size + 1 + 1) C' 29) w4 i → i ≠ w.heap.size ∧ i ≠ w.heap.size + 1 + 1 := fun i hi => by
    rcases hi with hi | hi
    · exact h.g0 i hi
    · rw [hW] at hi; omega
  refine ⟨w4, fun i => N' i ∨ ((boxed (boxed w3 w.heap.size C 29) (w.heap.size + 1 + 1) C' 29).heap.size ≤ i ∧ i < w4.heap.size), _, hw, by omega, by omega, h1, fun D D' => ?_, fun D D' => ?_, fun D D' => ?_, h1, by omega, fun i hi => .inl (h.sub i hi), fun i hi => ?_, fun i hi => ?_, ⟨.inl h.n1.1, .inl h.n1.2.1, .inl h.n1.2.2⟩, hg0, h.nb, fun i hi => ?_⟩
  · refine hL.turned (by rw [hsz]; exact Nat.le_refl _) (fun i hi => hoth D D' i (fun e => hi (.inl (e ▸ h.n1.1))) (fun e => hi (.inl (e ▸ h.n1.2.2)))) ?_
    exact boxed_below (boxed_below hL.old hz0) (by omega)
  · exact hM.kept (fun i hi => hoth D D' i (hg0 i hi).1 (hg0 i hi).2) (by rw [hsz]; exact Nat.le_refl _)
  · have hk := h.kept C C'
    refine ⟨by rw [hsz]; have := hk.size; rw [hW] at this; omega, fun i hi => ?_, fun i hi => ?_⟩
    · have hi3 := h.nlt i (h.sub i hi)
      have hib := h.nb i hi
      rw [hoth D D' i (by omega) (by omega), hblk i hi3]; exact hk.block i hi
    · rw [hoth D D' i (by omega) (by omega), hblk i (by omega)]; exact hk.old i hi
  · rcases hi with hi | hi
    · exact .inl (h.gsub i hi)
    · exact .inr hi
  · rcases hi with hi | hi
    · have := h.nlt i hi; omega
    · exact hi.2
  · rcases hi with hi | hi
    · exact h.gnew i hi
    · rw [hW] at hi; exact .inr (by omega)
theorem Dn.nums (h : Dn w0 N G0 w w3 g st m N' G v1 v2 r bs ps E t2) {r' : Rf.R} (h1 : r'.safe = r.safe) (h2 : r'.wet = r.wet) (ho : Rf.Ok r') : Dn w0 N G0 w w3 g st m N' G v1 v2 r' bs ps E t2 :=
  ⟨h.live, fun D D' => (h.mem D D').nums h1 h2 ho, h.kept, h.act, h.lt, h.sub, h.gsub, h.nlt, h.n1, h.g0, h.nb, h.gnew⟩
theorem Dn.done (h : Dn w0 N G0 w w3 g st m N' G v1 v2 r bs ps E t2) (ok : Bool) (D D' : Array Value) : DoPost w0 N G0 w g st m r ok (.returned (.tuple #[rv v1 v2 r, .bool ok])) (boxed (boxed w3 w.heap.size D 29) (w.heap.size + 1 + 1) D' 29) :=
  ⟨v1, v2, bs, ps, N', G, rfl, h.live D D', h.mem D D', h.sub, h.gsub, fun i hi => by rw [boxed_size, boxed_size]; exact h.nlt i hi, h.kept D D', h.gnew⟩
end

set_option maxRecDepth 20000 in
set_option maxHeartbeats 3200000 in
theorem do_put (w0 : World) (N : Nat → Prop) (w : World) (g : Nat) (st : Pl.St) (m : Nat) (G : Nat → Prop) (v1 v2 : Value) (r : Rf.R) (bs : List Nat) (ps : List (Int × Nat)) (k : Nat) (at_ n : Int) (A0 : Option Addr) (l c0 : Nat) (p : List Int)
    (hl : Live w0 N w g st m) (hm : m + 2 ≤ 50000) (h : Rf.M w G v1 v2 r bs ps) (hG : ∀ i, G i → N i) (hN : ∀ i, N i → i < w.heap.size) (ha : r.acts < 1000) (hwt : r.wet.length < 1000) (hk : k < 256) (hk8 : k % 8 < 4)
    (hr : Rd w0 .u8 w0.heap.size A0 p) (hn : p.length = l) (hb : ∀ x ∈ p, 0 ≤ x ∧ x < 256) :
    Calls Try.prog 7 #[.pointer (some ⟨g, 0, none⟩), rv v1 v2 r, .agg #[.int .u8 k, .int .i64 at_, .int .i64 n, .slice A0 l c0]] w (DoPost w0 N G w g (st.put at_ p) (m + 2) (r.put at_ p) (st.putE at_ p == r.putE at_ p)) := by
  obtain ⟨A, c, rfl, hc, _⟩ := own_form h.own1
  obtain ⟨A2, c2, rfl, hc2, _⟩ := own_form h.own2
  have HL := Lib.hid hl
  have H := Lib.hid h
  have HR := Lib.hid hr
  have d4 : ((k : Int) % 8 == 4) = false := by simp; omega
  have d5 : ((k : Int) % 8 == 5) = false := by simp; omega
  have d6 : ((k : Int) % 8 == 6) = false := by simp; omega
  have d7 : ((k : Int) % 8 == 7) = false := by simp; omega
  clear hl h hr
  unfold rv
  go_enter Try.func7, Try.ntmps7
  go_wp2_with (fail)
  have hz0 := HL.out.old.size
  refine (write_live (b := p) (B := w0.heap.size) (do_live HL.out) (N1.lt hN) (by omega) (HR.out.below (HL.out.old.trans (do_below.mono hz0))) (by rw [do_size]; omega) hn hb).mono ?_
  rintro e w2 ⟨rfl, hl2, hk2⟩
  obtain ⟨w3, rfl, hz1, hz2, hact, hdn⟩ := Dn.make hN hG hz0 H.out hl2 hk2
  have HD := Lib.hid hdn
  have hr3 : Rd (boxed (boxed w3 w.heap.size #[.slice A r.safe.length c, .slice A2 r.wet.length c2, .int .i64 r.left, .int .i64 r.spare, .bool r.off, .int .i64 r.acts] 29) (w.heap.size + 1 + 1) #[.slice none 0 0, .slice none 0 0, .int .i64 0, .int .i64 0, .bool false, .int .i64 0] 29) .u8 w0.heap.size A0 p := HR.out.below (hdn.live _ _).old
  have HR3 := Lib.hid hr3
  have hne1 : w.heap.size ≠ w.heap.size + 1 + 1 := by omega
  have hne2 : w.heap.size + 1 + 1 ≠ w.heap.size := by omega
  have hne3 : w.heap.size + 1 ≠ w.heap.size + 1 + 1 := by omega
  have hne4 : w.heap.size + 1 ≠ w.heap.size := by omega
  have c1 : w3.cell? ⟨w.heap.size + 1, 1, none⟩ = some (.int .i64 at_) := by rw [cell_of_row _ _ _ _ _ _ hact]; rfl
  have c3 : w3.cell? ⟨w.heap.size + 1, 3, none⟩ = some (.slice A0 l c0) := by rw [cell_of_row _ _ _ _ _ _ hact]; rfl
  clear hdn hr3 hl2 hk2 hact
  go_wp2_with (fail)
  refine (refPut_any _ G (.slice A r.safe.length c) (.slice A2 r.wet.length c2) r bs ps at_ A0 l c0 w0.heap.size p (HD.out.mem _ _) ha hwt HR3.out (by rw [boxed_size, boxed_size]; omega) hn hb).mono ?_
  rintro e w4 ⟨v1', v2', bs', ps', rfl, hm4, hb4⟩
  obtain ⟨w5, N2, G2, rfl, hz3, hz4, _, hd2⟩ := HD.out.next hz0 hb4 hm4
  obtain ⟨A3, c3', rfl, _, _⟩ := own_form hm4.own1
  obtain ⟨A4, c4', rfl, _, _⟩ := own_form hm4.own2
  have HFIN := Lib.hid (hd2.done (st.putE at_ p == r.putE at_ p))
  clear hm4 hb4 hd2 HR3
  generalize r.put at_ p = r' at *
  generalize r.putE at_ p = e2 at *
  generalize st.putE at_ p = e1 at *
  unfold rv
  go_wp2_with (fail)
  exact bodyPost_ret (v := .tuple #[rv (.slice A3 r'.safe.length c3') (.slice A4 r'.wet.length c4') r', .bool (e1 == e2)]) (by simp [rv, results, Try.results7, go_sem, *]) rfl (HFIN.out _ _)

set_option maxRecDepth 20000 in
set_option maxHeartbeats 3200000 in
theorem do_flush (w0 : World) (N : Nat → Prop) (w : World) (g : Nat) (st : Pl.St) (m : Nat) (G : Nat → Prop) (v1 v2 : Value) (r : Rf.R) (bs : List Nat) (ps : List (Int × Nat)) (k : Nat) (at_ n : Int) (A0 : Option Addr) (l c0 : Nat)
    (hl : Live w0 N w g st m) (hm : m + 2 ≤ 50000) (h : Rf.M w G v1 v2 r bs ps) (hG : ∀ i, G i → N i) (hN : ∀ i, N i → i < w.heap.size) (ha : r.acts < 1000) (hk : k < 256) (hk8 : k % 8 = 4 ∨ k % 8 = 5) :
    Calls Try.prog 7 #[.pointer (some ⟨g, 0, none⟩), rv v1 v2 r, .agg #[.int .u8 k, .int .i64 at_, .int .i64 n, .slice A0 l c0]] w (DoPost w0 N G w g st.flush (m + 1) r.flush (st.flushE == r.flushE)) := by
  obtain ⟨A, c, rfl, hc, _⟩ := own_form h.own1
  obtain ⟨A2, c2, rfl, hc2, _⟩ := own_form h.own2
  have HL := Lib.hid hl
  have H := Lib.hid h
  have hz0 := hl.old.size
  clear hl h
  unfold rv
  go_enter Try.func7, Try.ntmps7
  have hcom : ∀ (Q : Prop), (((k : Int) % 8 == 4) = true → Q) → (((k : Int) % 8 == 4) = false → ((k : Int) % 8 == 5) = true → Q) → Q := fun Q h1 h2 => by
    by_cases h4 : k % 8 = 4
    · exact h1 (by simp; omega)
    · exact h2 (by simp; omega) (by simp; omega)
  refine hcom _ (fun d4 => ?_) (fun d4 d5 => ?_)
  all_goals
    clear hcom
    go_wp2_with (fail)
    refine (flush_live (do_live HL.out) (N1.lt hN) (by omega)).mono ?_
    rintro e w2 ⟨rfl, hl2, hk2⟩
    obtain ⟨w3, rfl, hz1, hz2, hact, hdn⟩ := Dn.make hN hG hz0 H.out hl2 hk2
    have HD := Lib.hid hdn
    have hne1 : w.heap.size ≠ w.heap.size + 1 + 1 := by omega
    have hne2 : w.heap.size + 1 + 1 ≠ w.heap.size := by omega
    have hne3 : w.heap.size + 1 ≠ w.heap.size + 1 + 1 := by omega
    have hne4 : w.heap.size + 1 ≠ w.heap.size := by omega
    clear hdn hl2 hk2 hact
    go_wp2_with (fail)
    refine (refFlush_any _ G (.slice A r.safe.length c) (.slice A2 r.wet.length c2) r bs ps (HD.out.mem _ _) ha).mono ?_
    rintro e w4 ⟨v1', v2', bs', ps', rfl, hm4, hb4⟩
    obtain ⟨w5, N2, G2, rfl, hz3, hz4, _, hd2⟩ := HD.out.next hz0 hb4 hm4
    obtain ⟨A3, c3', rfl, _, _⟩ := own_form hm4.own1
    obtain ⟨A4, c4', rfl, _, _⟩ := own_form hm4.own2
    have HFIN := Lib.hid (hd2.done (st.flushE == r.flushE))
    clear hm4 hb4 hd2
    generalize r.flush = r' at *
    generalize r.flushE = e2 at *
    generalize st.flushE = e1 at *
    unfold rv
    go_wp2_with (fail)
    exact bodyPost_ret (v := .tuple #[rv (.slice A3 r'.safe.length c3') (.slice A4 r'.wet.length c4') r', .bool (e1 == e2)]) (by simp [rv, results, Try.results7, go_sem, *]) rfl (HFIN.out _ _)

set_option maxRecDepth 20000 in
set_option maxHeartbeats 3200000 in
theorem do_fall (w0 : World) (N : Nat → Prop) (w : World) (g : Nat) (st : Pl.St) (m : Nat) (G : Nat → Prop) (v1 v2 : Value) (r : Rf.R) (bs : List Nat) (ps : List (Int × Nat)) (k : Nat) (at_ n : Int) (A0 : Option Addr) (l c0 : Nat)
    (hl : Live w0 N w g st m) (hm : m + 2 ≤ 50000) (h : Rf.M w G v1 v2 r bs ps) (hG : ∀ i, G i → N i) (hN : ∀ i, N i → i < w.heap.size) (_ha : r.acts < 1000) (hk : k < 256) (hk8 : k % 8 = 7) :
    Calls Try.prog 7 #[.pointer (some ⟨g, 0, none⟩), rv v1 v2 r, .agg #[.int .u8 k, .int .i64 at_, .int .i64 n, .slice A0 l c0]] w (DoPost w0 N G w g (st.fall n) m (r.fall n) true) := by
  obtain ⟨A, c, rfl, hc, _⟩ := own_form h.own1
  obtain ⟨A2, c2, rfl, hc2, _⟩ := own_form h.own2
  have HL := Lib.hid hl
  have H := Lib.hid h
  have hz0 := hl.old.size
  clear hl h
  have d4 : ((k : Int) % 8 == 4) = false := by simp; omega
  have d5 : ((k : Int) % 8 == 5) = false := by simp; omega
  have d6 : ((k : Int) % 8 == 6) = false := by simp; omega
  have d7 : ((k : Int) % 8 == 7) = true := by simp; omega
  unfold rv
  go_enter Try.func7, Try.ntmps7
  go_wp2_with (fail)
  refine (fall_live (do_live HL.out) (N1.lt hN) (by omega)).mono ?_
  rintro e w2 ⟨rfl, hl2, hk2⟩
  obtain ⟨w3, rfl, hz1, hz2, hact, hdn⟩ := Dn.make hN hG hz0 H.out hl2 hk2
  have HD := Lib.hid hdn
  have c2' : w3.cell? ⟨w.heap.size + 1, 2, none⟩ = some (.int .i64 n) := by rw [cell_of_row _ _ _ _ _ _ hact]; rfl
  have hne1 : w.heap.size ≠ w.heap.size + 1 + 1 := by omega
  have hne2 : w.heap.size + 1 + 1 ≠ w.heap.size := by omega
  have hne3 : w.heap.size + 1 ≠ w.heap.size + 1 + 1 := by omega
  have hne4 : w.heap.size + 1 ≠ w.heap.size := by omega
  clear hdn hl2 hk2 hact
  go_wp2_with (fail)
  refine (refFall_any _ G (.slice A r.safe.length c) (.slice A2 r.wet.length c2) r bs ps n (HD.out.mem _ _)).mono ?_
  rintro e w4 ⟨v1', v2', bs', ps', rfl, hm4, hb4⟩
  obtain ⟨w5, N2, G2, rfl, hz3, hz4, _, hd2⟩ := HD.out.next hz0 hb4 hm4
  obtain ⟨A3, c3', rfl, _, _⟩ := own_form hm4.own1
  obtain ⟨A4, c4', rfl, _, _⟩ := own_form hm4.own2
  have HFIN := Lib.hid (hd2.done true)
  clear hm4 hb4 hd2
  generalize r.fall n = r' at *
  unfold rv
  go_wp2_with (fail)
  exact bodyPost_ret (v := .tuple #[rv (.slice A3 r'.safe.length c3') (.slice A4 r'.wet.length c4') r', .bool true]) (by simp [rv, results, Try.results7, go_sem, *]) rfl (HFIN.out _ _)

set_option maxRecDepth 20000 in
set_option maxHeartbeats 3200000 in
theorem do_arm (w0 : World) (N : Nat → Prop) (w : World) (g : Nat) (st : Pl.St) (m : Nat) (G : Nat → Prop) (v1 v2 : Value) (r : Rf.R) (bs : List Nat) (ps : List (Int × Nat)) (k : Nat) (at_ n : Int) (A0 : Option Addr) (l c0 : Nat)
    (hl : Live w0 N w g st m) (_hm : m + 2 ≤ 50000) (h : Rf.M w G v1 v2 r bs ps) (hG : ∀ i, G i → N i) (hN : ∀ i, N i → i < w.heap.size) (_ha : r.acts < 1000) (hk : k < 256) (hk8 : k % 8 = 6) :
    Calls Try.prog 7 #[.pointer (some ⟨g, 0, none⟩), rv v1 v2 r, .agg #[.int .u8 k, .int .i64 at_, .int .i64 n, .slice A0 l c0]] w (DoPost w0 N G w g (st.arm (at_.tmod 9) (n.tmod 80)) m (r.arm (at_.tmod 9) (n.tmod 80)) true) := by
  obtain ⟨A, c, rfl, hc, _⟩ := own_form h.own1
  obtain ⟨A2, c2, rfl, hc2, _⟩ := own_form h.own2
  have HL := Lib.hid hl
  have H := Lib.hid h
  have hz0 := hl.old.size
  have hx : -9 < at_.tmod 9 ∧ at_.tmod 9 < 9 := tmod_bd at_ 9 (by omega)
  have hy : -80 < n.tmod 80 ∧ n.tmod 80 < 80 := tmod_bd n 80 (by omega)
  have HOK : Hid (Rf.Ok (r.arm (at_.tmod 9) (n.tmod 80))) := by
    have ho := h.ok
    refine ⟨ho.safe, ho.wet, ho.size, ?_, ho.acts, ?_⟩
    · show -1 ≤ (if at_.tmod 9 < 0 then -1 else at_.tmod 9) ∧ (if at_.tmod 9 < 0 then -1 else at_.tmod 9) ≤ 1000
      split <;> omega
    · show -1000 ≤ n.tmod 80 ∧ n.tmod 80 ≤ 1000
      omega
  clear hl h
  have d4 : ((k : Int) % 8 == 4) = false := by simp; omega
  have d5 : ((k : Int) % 8 == 5) = false := by simp; omega
  have d6 : ((k : Int) % 8 == 6) = true := by simp; omega
  unfold rv
  go_enter Try.func7, Try.ntmps7
  generalize hX : at_.tmod 9 = x at *
  generalize hY : n.tmod 80 = y at *
  cases d0 : decide (x < 0)
  all_goals
    go_wp2_with (fail)
    try rw [hX]
    try rw [hY]
    refine (arm_live (do_live HL.out) (N1.lt hN) (by omega) (by omega)).mono ?_
    rintro e w2 ⟨rfl, hl2, hk2⟩
    obtain ⟨w3, rfl, hz1, hz2, hact, hdn⟩ := Dn.make hN hG hz0 H.out hl2 hk2
    have HFIN := Lib.hid ((hdn.nums (r' := r.arm x y) rfl rfl HOK.out).done true)
    have c1 : w3.cell? ⟨w.heap.size + 1, 1, none⟩ = some (.int .i64 at_) := by rw [cell_of_row _ _ _ _ _ _ hact]; rfl
    have c2' : w3.cell? ⟨w.heap.size + 1, 2, none⟩ = some (.int .i64 n) := by rw [cell_of_row _ _ _ _ _ _ hact]; rfl
    have hne1 : w.heap.size ≠ w.heap.size + 1 + 1 := by omega
    have hne2 : w.heap.size + 1 + 1 ≠ w.heap.size := by omega
    have hne3 : w.heap.size + 1 ≠ w.heap.size + 1 + 1 := by omega
    have hne4 : w.heap.size + 1 ≠ w.heap.size := by omega
    clear hdn hl2 hk2 hact
    go_wp2_with (fail)
  · have hx0 : 0 ≤ x := by simpa using d0
    exact bodyPost_ret (v := .tuple #[rv (.slice A r.safe.length c) (.slice A2 r.wet.length c2) (r.arm x y), .bool true]) (by simp [rv, Rf.R.arm, results, Try.results7, go_sem, *]; try omega) rfl (HFIN.out _ _)
  · have hx0 : x < 0 := by simpa using d0
    exact bodyPost_ret (v := .tuple #[rv (.slice A r.safe.length c) (.slice A2 r.wet.length c2) (r.arm x y), .bool true]) (by simp [rv, Rf.R.arm, results, Try.results7, go_sem, *]; try omega) rfl (HFIN.out _ _)


/-- An act, whatever it is. -/
def Ac.v (a : Ac) (A0 : Option Addr) (c0 : Nat) : Value := .agg #[.int .u8 a.k, .int .i64 a.at_, .int .i64 a.n, .slice A0 a.p.length c0]
theorem DoPost.up {w0 : World} {N G : Nat → Prop} {w : World} {g : Nat} {st : Pl.St} {m m' : Nat} {r : Rf.R} {ok : Bool} {e : Ending} {w' : World} (h : DoPost w0 N G w g st m r ok e w') (h1 : m ≤ m') (h2 : m' ≤ 100000) : DoPost w0 N G w g st m' r ok e w' := by
  obtain ⟨v1, v2, bs, ps, N', G', he, hl, h3⟩ := h
  exact ⟨v1, v2, bs, ps, N', G', he, hl.mono h1 h2, h3⟩
theorem do_any (w0 : World) (N : Nat → Prop) (w : World) (g : Nat) (st : Pl.St) (m : Nat) (G : Nat → Prop) (v1 v2 : Value) (r : Rf.R) (bs : List Nat) (ps : List (Int × Nat)) (a : Ac) (A0 : Option Addr) (c0 : Nat)
    (hl : Live w0 N w g st m) (hm : m + 2 ≤ 50000) (h : Rf.M w G v1 v2 r bs ps) (hG : ∀ i, G i → N i) (hN : ∀ i, N i → i < w.heap.size) (ha : r.acts < 1000) (hwt : r.wet.length < 1000) (hk : 0 ≤ a.k ∧ a.k < 256)
    (hr : Rd w0 .u8 w0.heap.size A0 a.p) (hb : ∀ x ∈ a.p, 0 ≤ x ∧ x < 256) :
    Calls Try.prog 7 #[.pointer (some ⟨g, 0, none⟩), rv v1 v2 r, a.v A0 c0] w (DoPost w0 N G w g (a.st st) (m + 2) (a.rf r) (a.stE st == a.rfE r)) := by
  obtain ⟨k, at_, n, p⟩ := a
  simp only at hk hr hb
  obtain ⟨k, rfl⟩ : ∃ j : Nat, k = j := ⟨k.toNat, by omega⟩
  unfold Ac.st Ac.rf Ac.stE Ac.rfE Ac.v
  simp only
  by_cases h45 : (k : Int) % 8 = 4 ∨ (k : Int) % 8 = 5
  · rw [if_pos h45, if_pos h45, if_pos h45, if_pos h45]
    exact (do_flush w0 N w g st m G v1 v2 r bs ps k at_ n A0 p.length c0 hl hm h hG hN ha (by omega) (by omega)).mono fun e w' hp => hp.up (by omega) (by omega)
  · rw [if_neg h45, if_neg h45, if_neg h45, if_neg h45]
    by_cases h6 : (k : Int) % 8 = 6
    · rw [if_pos h6, if_pos h6, if_pos h6, if_pos h6]
      exact (do_arm w0 N w g st m G v1 v2 r bs ps k at_ n A0 p.length c0 hl hm h hG hN ha (by omega) (by omega)).mono fun e w' hp => hp.up (by omega) (by omega)
    · rw [if_neg h6, if_neg h6, if_neg h6, if_neg h6]
      by_cases h7 : (k : Int) % 8 = 7
      · rw [if_pos h7, if_pos h7, if_pos h7, if_pos h7]
        exact (do_fall w0 N w g st m G v1 v2 r bs ps k at_ n A0 p.length c0 hl hm h hG hN ha (by omega) (by omega)).mono fun e w' hp => hp.up (by omega) (by omega)
      · rw [if_neg h7, if_neg h7, if_neg h7, if_neg h7]
        exact do_put w0 N w g st m G v1 v2 r bs ps k at_ n A0 p.length c0 p hl hm h hG hN ha hwt (by omega) (by omega) hr rfl hb
end Go.Proofs.Ytlbodpffkdfllaa
