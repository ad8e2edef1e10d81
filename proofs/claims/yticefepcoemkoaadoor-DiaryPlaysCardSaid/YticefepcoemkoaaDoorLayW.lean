/-
  A diary's half: bytes laid on it from a sector on, the first sector last; and made safe. No conditions but the sizes.
-/
import Derived.Test.YticefepcoemkoaaDoorCollect
import Derived.Test.YticefepcoemkoaaDoorPlLive
import Derived.Test.YticefepcoemkoaaDoorDy
namespace Go.Proofs.YticefepcoemkoaaDoor
set_option maxRecDepth 100000
open Go.ChangeShapes Go.WideShapes Go.ChangeAt Go.RowKit
attribute [local go_sem] Oper.semAt_some

/-- A slice reads as l, in blocks that a plate's acts leave. -/
def RdK (w0 : World) (N : Nat → Prop) (w : World) (A : Option Addr) (l : List Int) : Prop := Rd w .u8 w.heap.size A l ∧ (l ≠ [] → ∀ a, A = some a → N a.block ∨ a.block < w0.heap.size)
theorem RdK.kept {w0 w w' : World} {N : Nat → Prop} {A : Option Addr} {l : List Int} (h : RdK w0 N w A l) (hs : w.heap.size ≤ w'.heap.size) (hk : ∀ i, i < w.heap.size → N i ∨ i < w0.heap.size → w'.heap[i]? = w.heap[i]?) : RdK w0 N w' A l := by
  refine ⟨fun hl => ?_, h.2⟩
  obtain ⟨a, e, hb, hc⟩ := h.1 hl
  exact ⟨a, e, by omega, fun j u hu => (World.cell?_of_block (hk _ (by rw [ad_block]; exact hb) (by rw [ad_block]; exact h.2 hl a e))).trans (hc j u hu)⟩
theorem RdK.more {w0 w : World} {N N' : Nat → Prop} {A : Option Addr} {l : List Int} (h : RdK w0 N w A l) (hN : ∀ i, N i → N' i) : RdK w0 N' w A l := ⟨h.1, fun hl a e => (h.2 hl a e).imp (hN _) id⟩
theorem RdK.drop {w0 w : World} {N : Nat → Prop} {A : Option Addr} {l : List Int} (h : RdK w0 N w A l) (n : Nat) : RdK w0 N w (A.map (·.add n)) (l.drop n) := ⟨h.1.drop n, fun hl a e => by
  have hl0 : l ≠ [] := fun e => by subst e; simp at hl
  cases A with
  | none => cases e
  | some b => injection e with e; subst e; rw [ad_block]; exact h.2 hl0 b rfl⟩
theorem RdK.take {w0 w : World} {N : Nat → Prop} {A : Option Addr} {l : List Int} (h : RdK w0 N w A l) (n : Nat) : RdK w0 N w A (l.take n) := ⟨h.1.take n, fun hl a e => h.2 (fun e => by subst e; simp at hl) a e⟩
theorem Kept.trans {w0 w w1 w2 : World} {N N' : Nat → Prop} (h : Kept w0 N w w1) (k : Kept w0 N' w1 w2) (hN : ∀ i, N i → N' i) : Kept w0 N w w2 :=
  ⟨Nat.le_trans h.size k.size, fun i hi => (k.block i (hN i hi)).trans (h.block i hi), fun i hi => (k.old i hi).trans (h.old i hi)⟩
theorem Kept.of_below {w0 w w1 : World} {N : Nat → Prop} (h : Below w.heap.size w w1) (hN : ∀ i, N i → i < w.heap.size) (h0 : w0.heap.size ≤ w.heap.size) : Kept w0 N w w1 :=
  ⟨h.size, fun i hi => h.block i (hN i hi), fun i hi => h.block i (by omega)⟩
theorem RdK.of_kept {w0 w w' : World} {N : Nat → Prop} {A : Option Addr} {l : List Int} (h : RdK w0 N w A l) (hk : Kept w0 N w w') : RdK w0 N w' A l := h.kept hk.size fun i _ hi => hi.elim (hk.block i) (hk.old i)

/-- The acts of a lay: the parts ks written. -/
def lays (st : Pl.St) (p : Nat) (row : List Int) (ks : List Nat) : Pl.St := ks.foldl (fun st k => st.put ((p + k : Nat) : Int) ((row.drop (k * 64)).take 64)) st
theorem lays_snoc (st : Pl.St) (p : Nat) (row : List Int) (ks : List Nat) (k : Nat) : lays st p row (ks ++ [k]) = (lays st p row ks).put ((p + k : Nat) : Int) ((row.drop (k * 64)).take 64) := by unfold lays; rw [List.foldl_append]; rfl
theorem lays_sees {N : Nat} {p : Nat} {row : List Int} (hp : p + (row.length + 63) / 64 ≤ N) : ∀ (ks : List Nat) {st : Pl.St} {f : Nat → List Int}, Pl.Sees st N f → (∀ k ∈ ks, k < (row.length + 63) / 64) → Pl.Sees (lays st p row ks) N (Pl.part f p row ks) := by
  intro ks
  induction ks with
  | nil => intro st f h _; exact h
  | cons k r ih =>
    intro st f h hk
    exact ih (h.put (by have := hk k (by simp); omega) (by rw [List.length_take]; omega)) fun j hj => hk j (by simp [hj])
theorem part_backs (f : Nat → List Int) (p : Nat) (row : List Int) : Pl.part f p row (backs ((row.length + 63) / 64)) = Pl.laid f p row := by
  funext j
  rw [Pl.part_at]
  unfold Pl.laid
  by_cases h : p ≤ j ∧ j < p + (row.length + 63) / 64
  · rw [if_pos h, if_pos ⟨h.1, by simp [backs]; omega⟩]
  · rw [if_neg h, if_neg]
    rintro ⟨h1, h2⟩
    simp [backs] at h2
    exact h ⟨h1, by omega⟩

set_option maxHeartbeats 4000000 in
theorem hlay_any (w0 : World) (N : Nat → Prop) (w : World) (g : Nat) (st : Pl.St) (m S : Nat) (f : Nat → List Int) (p size at_ : Nat) (a : Addr) (n c : Nat) (row : List Int)
    (h : Live w0 N w g st m) (hs : Pl.Sees st S f) (hN : ∀ i, N i → i < w.heap.size) (hr : RdK w0 N w (some a) row) (hb : BytesOk row) (hn : row.length = n) (hpos : 0 < n) (h0 : n ≤ 5000) (hnc : n ≤ c) (hcm : c ≤ maxLen)
    (hp : p + at_ + (n + 63) / 64 ≤ S) (hm : m + 200 ≤ 50000) :
    Calls Tryd.prog 43 #[.agg #[.pointer (some ⟨g, 0, none⟩), .int .i64 p, .int .i64 size], .int .i64 at_, .slice (some a) n c] w fun e w' => e = .returned (.int .i64 0) ∧ ∃ st', Live w0 N w' g st' (m + 200) ∧ Pl.Sees st' S (Pl.laid f (p + at_) row) ∧ st'.wet = [] ∧ Kept w0 N w w' := by
  have hw0 := h.old.size
  have hS : S ≤ 1000 := by rw [← hs.size]; exact h.ok.size
  have hs0 := hs
  clear hs
  refine (callsIn_wide (n := 0)).1 ?_
  refine callsIn_of_wp_marks Tryd.func43 rfl trivial ?_ rfl
  simp only [Tryd.ntmps43, List.size_toArray, List.length_cons, List.length_nil, Nat.reduceAdd, Nat.reduceSub, Array.replicate_succ, Array.replicate_zero, List.push_toArray, List.append_toArray, List.nil_append, List.cons_append]
  gi_wp2_with (fail)
  refine ⟨trivial, rfl, (callsIn_wide.2 (chunk_any a n c _)).mono ?_⟩
  rintro e w5 ⟨rfl, rfl⟩
  gi_wp2_with (fail)
  obtain ⟨W3, hW3⟩ : ∃ W3, ((w.alloc (.cells #[.pointer (some ⟨g, 0, none⟩), .int .i64 p, .int .i64 size] 52)).alloc (.cells #[.int .i64 at_] 3)).alloc (.cells #[.int .i64 0] 28) = W3 := ⟨_, rfl⟩
  have hb3 : Below w.heap.size w W3 := by rw [← hW3]; exact (((Below.refl _ w).alloc (Nat.le_refl _) _).alloc (by simp) _).alloc (by simp; omega) _
  have hz3 : W3.heap.size = w.heap.size + 3 := by rw [← hW3]; simp
  have ha : W3.heap[w.heap.size]? = some (.cells #[.pointer (some ⟨g, 0, none⟩), .int .i64 p, .int .i64 size] 52 (0, 0)) := by
    rw [← hW3, alloc_block_old (by simp; omega), alloc_block_old (by simp)]; exact alloc_block
  have hat : W3.heap[w.heap.size + 1]? = some (.cells #[.int .i64 at_] 3 (0, 0)) := by
    rw [← hW3, alloc_block_old (by simp)]; have := alloc_block (w := (w.alloc (.cells #[.pointer (some ⟨g, 0, none⟩), .int .i64 p, .int .i64 size] 52))) (o := .cells #[.int .i64 at_] 3); simpa using this
  have her : W3.heap[w.heap.size + 2]? = some (.cells #[.int .i64 0] 28 (0, 0)) := by
    rw [← hW3]; have := alloc_block (w := ((w.alloc (.cells #[.pointer (some ⟨g, 0, none⟩), .int .i64 p, .int .i64 size] 52)).alloc (.cells #[.int .i64 at_] 3))) (o := .cells #[.int .i64 0] 28); simpa using this
  rw [hW3]
  clear hW3
  have e3 : ∀ i, i < W3.heap.size → ((W3.alloc (.cells #[.slice (some a) n c] 31)).alloc (.cells #[.int .i64 64] 3)).heap[i]? = W3.heap[i]? := fun i hi => by rw [alloc_block_old (by simp; omega), alloc_block_old hi]
  have d1 : ((W3.alloc (.cells #[.slice (some a) n c] 31)).alloc (.cells #[.int .i64 64] 3)).cell? ⟨w.heap.size + 1 + 1 + 1, 0, none⟩ = some (.slice (some a) n c) := by
    rw [cell_of_row _ _ _ _ _ _ ((alloc_block_old (by simp; omega)).trans (by have := alloc_block (w := W3) (o := .cells #[.slice (some a) n c] 31); rw [hz3] at this; exact this))]; rfl
  have d2 : ((W3.alloc (.cells #[.slice (some a) n c] 31)).alloc (.cells #[.int .i64 64] 3)).cell? ⟨w.heap.size + 1 + 1 + 1 + 1, 0, none⟩ = some (.int .i64 64) := by
    rw [cell_of_row _ _ _ _ _ _ (by have := alloc_block (w := W3.alloc (.cells #[.slice (some a) n c] 31)) (o := .cells #[.int .i64 64] 3); rw [World.size_alloc, hz3] at this; exact this)]; rfl
  refine ⟨trivial, rfl, (callsIn_wide.2 (collect_any a n c _ _ _ d1 d2 (by simp; omega) (by simp; omega) h0 hnc hcm)).mono ?_⟩
  rintro e w6 ⟨v, rfl, hown, hb6⟩
  have hm0 : 0 < (n + 63) / 64 := by omega
  obtain ⟨gv, cap, rfl⟩ : ∃ gv cap, v = .slice (some ⟨gv, 0, none⟩) ((n + 63) / 64) cap := by
    rcases hown.2 with ⟨_, h1⟩ | ⟨gv, cap, cur, hv, _⟩
    · omega
    · exact ⟨gv, cap, hv⟩
  gi_wp2_with (fail)
  refine ⟨trivial, rfl, (callsIn_wide.2 (backward_any _ _ _ _)).mono ?_⟩
  rintro e w7 ⟨rfl, rfl⟩
  gi_wp2_with (fail)
  obtain ⟨W7, hW7⟩ : ∃ W7, w6.alloc (.cells #[.slice (some ⟨gv, 0, none⟩) ((n + 63) / 64) cap] 32) = W7 := ⟨_, rfl⟩
  have hz6 := hb6.size
  simp only [World.size_alloc] at hz6
  have hz7 : W7.heap.size = w6.heap.size + 1 := by rw [← hW7]; simp
  have k7 : ∀ i, i < W3.heap.size → W7.heap[i]? = W3.heap[i]? := fun i hi => by rw [← hW7, alloc_block_old (by omega), hb6.block i (by simp; omega), e3 i hi]
  have b7 : W7.cell? ⟨w6.heap.size, 0, none⟩ = some (.slice (some ⟨gv, 0, none⟩) ((n + 63) / 64) cap) := by
    rw [← hW7, cell_of_row _ _ _ _ _ _ alloc_block]; rfl
  have ps7 : ∀ i, i < (n + 63) / 64 → W7.cell? ((⟨gv, 0, none⟩ : Addr).add i) = some (chunkV a n i) := fun i hi => by
    have := hown.cells (g := gv) rfl i (chunkV a n i) (by rw [List.getElem?_map, List.getElem?_range hi]; rfl)
    rw [← ad_head] at this
    rw [← hW7]
    exact (World.cell?_of_block (by rw [ad_block]; exact alloc_block_old (hown.lt gv rfl).2)).trans this
  have hb7 : Below w.heap.size w W7 := by
    rw [← hW7]
    exact ((((hb3.alloc (by omega) _).alloc (by simp; omega) _).trans (hb6.mono (by simp; omega))).alloc (by omega) _)
  have hgv := hown.lt gv rfl
  simp only [World.size_alloc] at hgv
  rw [hW7]
  have hcs : cap ≤ maxLen ∧ (n + 63) / 64 ≤ cap := by obtain ⟨A', c', e, h1, h2⟩ := own_form hown; injection e with _ _ e; subst e; exact ⟨h2, h1⟩
  clear d1 d2 e3 hb6 hown hW7
  have hL7 := fun o => h.more (w' := (W7.alloc (.deferred (some []))).alloc o) ((hb7.alloc (by omega) _).alloc (by simp; omega) _)
  have hLive : ∀ (m' : Nat) (st' : Pl.St) (W W' : World), W.heap.size = W'.heap.size → (∀ i, i ≠ W7.heap.size + 1 → W'.heap[i]? = W.heap[i]?) → Below w0.heap.size w0 W' → Live w0 (fun i => N i ∨ (w.heap.size ≤ i ∧ i < W7.heap.size + 2)) W g st' m' → Live w0 (fun i => N i ∨ (w.heap.size ≤ i ∧ i < W7.heap.size + 2)) W' g st' m' := fun m' st' W W' hs hk hb hl => hl.turned (Nat.le_of_eq hs) (fun i hi => hk i fun e => hi (.inr (by omega))) hb
  have a1 := k7 (w.heap.size) (by omega)
  have a2 := k7 (w.heap.size + 1) (by omega)
  have a3 := k7 (w.heap.size + 2) (by omega)
  rw [ha] at a1
  rw [hat] at a2
  rw [her] at a3
  clear ha hat her k7
  refine range_over (gf := 62) (lb := #[.pointer (some ⟨w6.heap.size, 0, none⟩)]) rfl (Go.Proofs.enters_of Tryd.func62 (by kernel_rfl) rfl) (fun k : Nat => #[.int .i64 (k : Int), chunkV a n k]) (fun _ => rfl) (backs ((n + 63) / 64))
    (fun pre W => Live w0 (fun i => N i ∨ (w.heap.size ≤ i ∧ i < W7.heap.size + 2)) W g (lays st (p + at_) row pre) (m + 2 * pre.length) ∧ (∀ i, i < W7.heap.size → (N i ∨ w.heap.size ≤ i ∨ i < w0.heap.size) → W.heap[i]? = W7.heap[i]?) ∧ W7.heap.size + 2 ≤ W.heap.size) ?jp ?jd ?start
    (back_gives ⟨gv, 0, none⟩ ((n + 63) / 64) cap w6.heap.size _ (chunkV a n) _ (fun pre W hJ => ⟨(World.cell?_of_block (hJ.2.1 w6.heap.size (by omega) (.inr (.inl (by omega))))).trans b7, fun i hi => (World.cell?_of_block (by rw [ad_block]; exact hJ.2.1 gv (by omega) (.inr (.inl (by omega))))).trans (ps7 i hi)⟩) (by omega) hm0 hcs.2)
    (fun x => { tmps := #[.agg #[.pointer (some ⟨g, 0, none⟩), .int .i64 p, .int .i64 size], .int .i64 at_, .slice (some a) n c, .pointer (some ⟨w.heap.size, 0, none⟩), .pointer (some ⟨w.heap.size + 1, 0, none⟩), undef, .pointer (some ⟨w.heap.size + 1 + 1, 0, none⟩), .slice (some ⟨gv, 0, none⟩) ((n + 63) / 64) cap, .int .i64 x, chunkV a n x, undef, .slice (some a) n c, .func (.func 61) #[] #[.pointer (some ⟨w.heap.size + 1 + 1 + 1, 0, none⟩), .pointer (some ⟨w.heap.size + 1 + 1 + 1 + 1, 0, none⟩)],
        .slice (some ⟨gv, 0, none⟩) ((n + 63) / 64) cap, .slice (some ⟨gv, 0, none⟩) ((n + 63) / 64) cap, .func (.func 62) #[] #[.pointer (some ⟨w6.heap.size, 0, none⟩)], .int .i64 x, chunkV a n x, undef, undef, undef, undef, undef, undef, undef, undef, undef, undef, undef, undef, undef, undef, undef, undef], defers := [] }) ?assign ?body ?done
  case jp =>
    rintro pre W o o' ⟨hl, hk, hs⟩ _ _
    refine ⟨hLive _ _ W _ (by simp) (fun i hi => World.putObj_heap_other hi) ?_ hl, fun i hi hn => (World.putObj_heap_other (by omega)).trans (hk i hi hn), by simp; exact hs⟩
    exact hl.old.trans ((Below.refl _ W).grown (grownBy_putObj' W _ o) (by omega) (fun k e => by cases e; omega))
  case jd =>
    rintro pre W ⟨hl, hk, hs⟩
    exact ⟨hLive _ _ W _ rfl (fun _ _ => rfl) hl.old.drew hl, hk, hs⟩
  case start =>
    intro o
    refine ⟨(hL7 o).less fun i hi => ?_, fun i hi _ => ?_, by simp⟩
    · rcases hi with h' | h'
      · exact .inl h'
      · exact .inr (by simpa using h')
    · rw [alloc_block_old (by simp; omega), alloc_block_old hi]
  case assign =>
    intro x W K hK
    gi_wp2
    exact hK
  case body =>
    rintro pre x W ⟨hl, hk, hs⟩ hpre hlt
    have hx : x < (n + 63) / 64 := by have := hpre.subset (a := x) (by simp); simpa [backs] using this
    have hpl : pre.length + 1 ≤ (n + 63) / 64 := by have := hpre.length_le; rw [backs_len] at this; simpa using this
    have a1 := (hk _ (by omega) (.inr (.inl (Nat.le_refl _)))).trans a1
    have a2 := (hk _ (by omega) (.inr (.inl (by omega)))).trans a2
    have c1 : W.cell? ⟨w.heap.size, 0, none⟩ = some (.pointer (some ⟨g, 0, none⟩)) := by rw [cell_of_row _ _ _ _ _ _ a1]; rfl
    have c2 : W.cell? ⟨w.heap.size, 1, none⟩ = some (.int .i64 p) := by rw [cell_of_row _ _ _ _ _ _ a1]; rfl
    have c3 : W.cell? ⟨w.heap.size + 1, 0, none⟩ = some (.int .i64 at_) := by rw [cell_of_row _ _ _ _ _ _ a2]; rfl
    have hrW : RdK w0 N W (some a) row := hr.kept (by have := hb7.size; omega) fun i hi hn => by
      rw [hk i (by have := hb7.size; omega) (hn.elim .inl fun h => .inr (.inr h)), hb7.block i hi]
    have hrd := ((hrW.drop (x * 64)).take 64).1
    have hbb : BytesOk ((row.drop (x * 64)).take 64) := (hb.drop _).take _
    have hlb : ((row.drop (x * 64)).take 64).length = min 64 (n - x * 64) := by rw [List.length_take, List.length_drop, hn]
    obtain ⟨A1, m1, hv, hA1, hm1⟩ : ∃ A1 m1, chunkV a n x = .slice A1 m1 m1 ∧ A1 = (some a).map (·.add (x * 64)) ∧ m1 = min 64 (n - x * 64) := ⟨_, _, rfl, rfl, rfl⟩
    rw [← hA1] at hrd
    rw [hv]
    rw [← hm1] at hlb
    have hm64 : m1 ≤ 64 := by omega
    have hsn := lays_snoc st (p + at_) row pre x
    have hS1 : p + at_ + x ≤ 1000 := by omega
    have hS2 : p + at_ ≤ 1000 := by omega
    have HPE := Lib.hid (Pl.Sees.putE (lays_sees (by rw [hn]; exact hp) pre hs0 (fun k hk => by have := hpre.subset (a := k) (by simp [hk]); simpa [backs, hn] using this)) (i := p + at_ + x) (b := (row.drop (x * 64)).take 64) (by omega) (by omega))
    clear hA1 hm1 hv
    gi_wp2_with (fail)
    have e1 : ((p : Int) + at_ + x) = ((p + at_ + x : Nat) : Int) := by omega
    rw [e1]
    refine ⟨trivial, rfl, (CallsIn.inRound _ (callsIn_wide.2 (write_live (i := ((p + at_ + x : Nat) : Int)) (b := (row.drop (x * 64)).take 64) (B := W.heap.size) hl ?hN (by omega) hrd (Nat.le_refl _) hlb hbb))).mono ?_⟩
    case hN =>
      intro i hi
      rcases hi with h' | h'
      · have := hN i h'; have := hb7.size; omega
      · omega
    rintro e W' ⟨rfl, hl', hk'⟩
    rw [HPE.out]
    dsimp only
    gi_wp2
    refine ⟨rfl, ⟨?_, fun i hi hn => ?_, by have := hk'.size; omega⟩, fun i hi o ho _ => (hk'.block i (.inr (by omega))).trans ho⟩
    · rw [hsn, List.length_append]; exact hl'
    · refine Eq.trans ?_ (hk i hi hn)
      rcases hn with h' | h' | h'
      · exact hk'.block i (.inl h')
      · exact hk'.block i (.inr (by omega))
      · exact hk'.old i h'
  case done =>
    rintro W ⟨hl, hk, hs⟩ hK
    have a1 := (hk _ (by omega) (.inr (.inl (Nat.le_refl _)))).trans a1
    have a3 := (hk _ (by omega) (.inr (.inl (by omega)))).trans a3
    have c1 : W.cell? ⟨w.heap.size, 0, none⟩ = some (.pointer (some ⟨g, 0, none⟩)) := by rw [cell_of_row _ _ _ _ _ _ a1]; rfl
    have hN1 : ∀ i, (N i ∨ (w.heap.size ≤ i ∧ i < W7.heap.size + 2)) → i < W.heap.size := by
      intro i hi
      rcases hi with h' | h'
      · have := hN i h'; have := hb7.size; omega
      · omega
    have hsee := lays_sees (by rw [hn]; exact hp) (backs ((n + 63) / 64)) hs0 (fun k hk => by simpa [backs, hn] using hk)
    rw [← hn, part_backs, hn] at hsee
    rw [backs_len] at hl
    have hfl := hsee.flush hl.ok
    have HFE := Lib.hid hsee.flushE
    gi_wp2_with (fail)
    refine ⟨trivial, rfl, (callsIn_wide.2 (flush_live hl hN1 (by omega))).mono ?_⟩
    rintro e W' ⟨rfl, hl', hk'⟩
    rw [HFE.out]
    have hv : Go.Boxed W' (w.heap.size + 2) 28 (.int .i64 0) := (hk'.block _ (.inr (by omega))).trans a3
    have hc := hv.cell
    have hf := hv.frozen
    dsimp only
    gi_wp2
    have hKD : (W'.setCell ⟨w.heap.size + 1 + 1, 0, none⟩ (.int .i64 0)).heap[W7.heap.size]? = some (.deferred (some [])) := by
      rw [Below.heap_setCell _ _ _ _ (by simp; omega), hk'.block _ (.inr (by omega))]; exact hK
    have hv2 : Go.Boxed ((W'.setCell ⟨w.heap.size + 1 + 1, 0, none⟩ (.int .i64 0)).putObj W7.heap.size (.deferred none)) (w.heap.size + 2) 28 (.int .i64 0) := (hv.set _).kept (grownBy_putObj' _ _ _) (by simp; omega)
    have hc2 := hv2.cell
    have hz2 : ((W'.setCell ⟨w.heap.size + 1 + 1, 0, none⟩ (.int .i64 0)).putObj W7.heap.size (.deferred none)).heap.size = W'.heap.size := by
      rw [World.putObj_size]; exact Array.size_modify
    have hk2 : ∀ i, i ≠ w.heap.size + 2 → i ≠ W7.heap.size → ((W'.setCell ⟨w.heap.size + 1 + 1, 0, none⟩ (.int .i64 0)).putObj W7.heap.size (.deferred none)).heap[i]? = W'.heap[i]? := fun i h1 h2 => by
      rw [World.putObj_heap_other h2, Below.heap_setCell _ _ _ _ (by simpa using h1)]
    have hkk : ∀ i, i < w.heap.size → N i ∨ i < w0.heap.size → ((W'.setCell ⟨w.heap.size + 1 + 1, 0, none⟩ (.int .i64 0)).putObj W7.heap.size (.deferred none)).heap[i]? = w.heap[i]? := fun i hi hn => by
      have := hb7.size
      rw [hk2 i (by omega) (by omega), ← hb7.block i hi, ← hk i (by omega) (hn.elim .inl fun h => .inr (.inr h))]
      exact hn.elim (fun h => hk'.block i (.inl h)) (hk'.old i)
    have hb2 : Below w0.heap.size w0 ((W'.setCell ⟨w.heap.size + 1 + 1, 0, none⟩ (.int .i64 0)).putObj W7.heap.size (.deferred none)) := by
      refine (hl'.old.setCell (p := ⟨w.heap.size + 1 + 1, 0, none⟩) (by simp; omega) _).trans ((Below.refl _ _).grown (grownBy_putObj' _ _ _) ?_ (fun k e => by cases e; have := hb7.size; omega))
      have := hk'.size
      rw [show (W'.setCell ⟨w.heap.size + 1 + 1, 0, none⟩ (.int .i64 0)).heap.size = W'.heap.size from Array.size_modify]
      have := hl'.old.size
      omega
    have hlf : Live w0 N ((W'.setCell ⟨w.heap.size + 1 + 1, 0, none⟩ (.int .i64 0)).putObj W7.heap.size (.deferred none)) g _ _ := (hl'.turned (Nat.le_of_eq hz2.symm) (fun i hi => hk2 i (fun e => hi (.inr (by omega))) (fun e => hi (.inr (by omega)))) hb2).less fun i hi => .inl hi
    have hsz := hk'.size
    refine ⟨by simp, .inl ⟨_, _, rfl, run_takeDeferred hKD, ?_⟩⟩
    generalize (W'.setCell ⟨w.heap.size + 1 + 1, 0, none⟩ (.int .i64 0)).putObj W7.heap.size (.deferred none) = W9 at *
    have hres : ∀ T : Array Value, T.getD 6 undef = .pointer (some ⟨w.heap.size + 2, 0, none⟩) → (results Tryd.f43 T).run Tryd.prog W9 = .ok (.int .i64 0) W9 := fun T hT => by
      have hT' : T[6]?.getD undef = .pointer (some ⟨w.heap.size + 2, 0, none⟩) := by simpa using hT
      simp [results, Tryd.results43, go_sem, hT', hc2]
    refine ⟨_, hres _ rfl, rfl, _, hlf.mono (by omega) (by omega), hfl.1, hfl.2, ?_, fun i hi => hkk i (hN i hi) (.inl hi), fun i hi => hkk i (by omega) (.inr hi)⟩
    have := hb7.size
    omega
end Go.Proofs.YticefepcoemkoaaDoor
