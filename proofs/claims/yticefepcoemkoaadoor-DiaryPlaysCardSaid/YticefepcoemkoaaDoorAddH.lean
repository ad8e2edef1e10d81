/-
  A diary's half: one more seal behind some bytes. No conditions but the sizes.
-/
import Derived.Test.YticefepcoemkoaaDoorBegin
namespace Go.Proofs.YticefepcoemkoaaDoor
set_option maxRecDepth 20000
open Go.ChangeShapes Go.WideShapes Go.ChangeAt Go.RowKit

theorem own_take {w : World} {base : Nat} {e : TypeId} {k : IntKind} {A : Option Addr} {n c r : Nat} {l : List Int} (h : w.ownsRow base e 1 (.slice A n c) n (cl k l)) (hr : r ≤ n) (h0 : 0 < n) : w.ownsRow base e 1 (.slice A r c) r (cl k (l.take r)) := by
  have hl := own_len h
  refine ⟨by rw [cl_length, List.length_take]; omega, ?_⟩
  rcases h.2 with ⟨_, h1⟩ | ⟨g, cap, cur, hv, hb, hg, h1, h2, h3, h4⟩
  · omega
  · injection hv with hA _ hc
    subst hA hc
    refine .inr ⟨g, c, cur, rfl, hb, hg, by omega, h2, h3, ?_⟩
    have : cur.toList.take (r * 1) = (cur.toList.take (n * 1)).take r := by rw [List.take_take]; congr 1; omega
    rw [this, h4]
    unfold cl
    rw [List.map_take]
theorem RdK.own {w0 w : World} {N : Nat → Prop} {base : Nat} {e : TypeId} {A : Option Addr} {n c : Nat} {l : List Int} (h : w.ownsRow base e 1 (.slice A n c) n (cl .u8 l)) (hN : ∀ i, base ≤ i → i < w.heap.size → N i) : RdK w0 N w A l := by
  refine ⟨Rd.own h, fun hl a e => ?_⟩
  subst e
  rcases h.2 with ⟨hv, _⟩ | ⟨g, cap, cur, hv, hb, hg, _⟩
  · cases hv
  · injection hv with hA
    injection hA with hA
    subst hA
    exact .inl (hN g hb (Array.getElem?_eq_some_iff.1 hg).1)

set_option maxHeartbeats 4000000 in
theorem hadd_any (w0 : World) (N : Nat → Prop) (w : World) (g : Nat) (st : Pl.St) (m S : Nat) (f : Nat → List Int) (p size q : Nat) (A : Option Addr) (n c : Nat) (l s : List Int)
    (h : Live w0 N w g st m) (hs : Pl.Sees st S f) (hN : ∀ i, N i → i < w.heap.size) (hr : RdK w0 N w A s) (hb : BytesOk s) (hn : s.length = n) (hn0 : 16 ≤ n) (hq : l.length = q) (hns : q + n ≤ size * 64)
    (hf : Pl.Half f p size (Pl.full size l)) (hp : p + size ≤ S) (hz : size ≤ 70) (hm : m + 200 ≤ 50000) :
    Calls Tryd.prog 25 #[halfV g p size, .int .i64 q, .slice A n c] w fun e w' => e = .returned (.int .i64 0) ∧ ∃ st', Live w0 N w' g st' (m + 200) ∧ Pl.Sees st' S (Pl.laid f (p + q / 64) (l.drop (q / 64 * 64) ++ s)) ∧ st'.wet = [] ∧ Kept w0 N w w' := by
  have hw0 := h.old.size
  have hat : q / 64 < size := by omega
  have hsz := hs.size
  have hsec := hs.sec h.ok (i := p + q / 64) (by omega)
  have hrd := hs.reads (p + q / 64) (by omega)
  have hfa := hf.at_ (q / 64) hat
  rw [Pl.full_at _ hat (by omega)] at hfa
  have hrow : (f (p + q / 64)).take (q % 64) = l.drop (q / 64 * 64) := by
    rw [hfa]
    unfold Pl.pad
    have h1 : ((l.drop (q / 64 * 64)).take 64) = l.drop (q / 64 * 64) := by rw [List.take_of_length_le]; rw [List.length_drop]; omega
    rw [h1, List.take_append_of_le_length (by rw [List.length_drop]; omega), List.take_of_length_le (by rw [List.length_drop]; omega)]
  have hbr : BytesOk (l.drop (q / 64 * 64)) := by rw [← hrow]; exact BytesOk.take (l := f (p + q / 64)) hsec.2 _
  have hlr : (l.drop (q / 64 * 64)).length = q % 64 := by rw [List.length_drop]; omega
  have hb1 : Below w.heap.size w (w.alloc (.cells #[.pointer (some ⟨g, 0, none⟩), .int .i64 p, .int .i64 size] 52)) := (Below.refl _ w).alloc (Nat.le_refl _) _
  have a1 : (w.alloc (.cells #[.pointer (some ⟨g, 0, none⟩), .int .i64 p, .int .i64 size] 52)).heap[w.heap.size]? = some (.cells #[.pointer (some ⟨g, 0, none⟩), .int .i64 p, .int .i64 size] 52 (0, 0)) := alloc_block
  have hz1 : (w.alloc (.cells #[.pointer (some ⟨g, 0, none⟩), .int .i64 p, .int .i64 size] 52)).heap.size = w.heap.size + 1 := by simp
  have H := Lib.hid h
  have HS := Lib.hid hs
  have HR := Lib.hid hr
  have HRD := Lib.hid hrd
  have HROW := Lib.hid hrow
  have HLR := Lib.hid hlr
  have hsl := hsec.1
  clear h hs hr hrd hrow hlr hfa hf hsec
  unfold halfV
  obtain ⟨y, hy⟩ : ∃ y, y = q / 64 := ⟨_, rfl⟩
  obtain ⟨r, hr⟩ : ∃ r, r = q % 64 := ⟨_, rfl⟩
  have hdv : (q : Int) / 64 = (y : Int) := by omega
  have HRM : Hid ((q : Int).tmod 64 = (r : Int)) := by show _ = _; rw [Int.tmod_eq_emod_of_nonneg (by omega)]; omega
  rw [← hy] at hat HRD HROW HLR hsl hbr
  rw [← hr] at HROW HLR
  rw [← hy]
  have hyr : y * 64 + r = q := by omega
  have hr64 : r < 64 := by omega
  have hpq : p + y ≤ 1000 := by have := H.out.ok.size; omega
  clear hy hr
  go_enter Tryd.func25, Tryd.ntmps25
  go_wp2_with (fail)
  have e1 : ((p : Int) + y) = ((p + y : Nat) : Int) := by omega
  rw [e1]
  clear e1
  refine (read_live (H.out.below hb1) HS.out.calm.1 (by omega) (by omega)).mono ?_
  generalize w.alloc (.cells #[.pointer (some ⟨g, 0, none⟩), .int .i64 p, .int .i64 size] 52) = W1 at *
  intro e w4 ht
  rw [HRD.out] at ht
  obtain ⟨A4, c4, rfl, HR4, HB4, hc1, hc2, HO4⟩ := ht.open_
  clear ht
  have a4 := (HB4.out.block w.heap.size (by omega)).trans a1
  have HA4 := Lib.hid a4
  have HB1 := Lib.hid hb1
  clear a1 hb1 a4 HR4 HRD
  go_wp2_with (fail)
  refine lane_start (ord := [0, 1, 2, 3, 6, 4, 5, 7, 8, 9]) (S := fun w' => w'.heap[w.heap.size]? = some (.cells #[.pointer (some ⟨g, 0, none⟩), .int .i64 p, .int .i64 size] 52 (0, 0))) rfl (by kernel_rfl) (by exact HA4.out) (fun hHeld => ?_)
  refine lane_take (v := halfV g p size) rfl (by kernel_rfl) (by kernel_rfl) (by rfl) (fun W hSw => exec_load rfl rfl (run_load_half (half_range hSw))) (by assumption) ?_
  unfold halfV
  simp only [Act.put, List.setIfInBounds_toArray, List.set_cons_zero, List.set_cons_succ]
  iterate 4 (refine lane_take (v := ?_) rfl (by kernel_rfl) (by kernel_rfl) (by rfl) ?_ (by assumption) ?_; rotate_left; (focus (intro W hSw; go_simp; try (with_reducible rfl))); simp only [Act.put, List.setIfInBounds_toArray, List.set_cons_zero, List.set_cons_succ])
  have hrc : r ≤ c4 := by omega
  refine lane_alone rfl (by kernel_rfl) (by rfl) (fun K hK => ?_)
  go_simp
  try go_wp2_with (fail)
  rw [HRM.out]
  refine hK _ _ HA4.out (fun _ => ?_)
  clear hK K
  refine lane_alone rfl (by kernel_rfl) (by rfl) (fun K hK => ?_)
  go_simp
  try go_wp2_with (fail)
  refine hK _ _ HA4.out (fun _ => ?_)
  clear hK K
  have ho : w4.drew.ownsRow W1.heap.size 5 1 (.slice A4 r c4) r (cl .u8 ((f (p + y)).take r)) := own_kept (own_take HO4.out (by omega) (by omega)) fun _ _ => rfl
  rw [HROW.out] at ho
  have ho2 : w4.drew.ownsRow W1.heap.size 5 1 (.slice A4 r c4) (l.drop (y * 64)).length (cl .u8 (l.drop (y * 64))) := by rw [HLR.out]; exact ho
  have hs4 : Rd w4.drew .u8 w.heap.size A s := HR.out.1.kept fun i hi => (HB4.out.block i (by omega)).trans (HB1.out.block i hi)
  obtain ⟨v5, w5, hrun, hg⟩ := run_append_rd (c := c) ho2 hs4 (by rw [HLR.out]; omega) (by have := HB4.out.size; exact this)
  have hl5 : (l.drop (y * 64) ++ s).length = r + n := by rw [List.length_append, HLR.out, hn]
  obtain ⟨A5, c5, rfl, hc5, hc6⟩ := hg.open_ (r + n) hl5
  refine lane_alone rfl (by kernel_rfl) (by rfl) (fun K hK => ?_)
  rw [hn] at hrun
  refine wp_of_value (exec_append (sv := .slice A4 r c4) (xv := .slice A n c) rfl rfl rfl hrun) ?_
  simp only [Act.put, List.setIfInBounds_toArray, List.set_cons_zero, List.set_cons_succ]
  have hg5 : Below W1.heap.size w4.drew w5 := hg.below ho2 (by have := HB4.out.size; exact this)
  have hb5 : Below w.heap.size w w5 := HB1.out.trans (((HB4.out.mono (by have := HB1.out.size; omega)).trans (Below.refl _ w4).drew).trans (hg5.mono (by omega)))
  have b5 : w5.heap[w.heap.size]? = some (.cells #[.pointer (some ⟨g, 0, none⟩), .int .i64 p, .int .i64 size] 52 (0, 0)) := (hg5.block w.heap.size (by omega)).trans HA4.out
  have L5 := Lib.hid (H.out.more hb5)
  have hz5 := hb5.size
  have hz6 : w4.heap.size ≤ w5.heap.size := hg5.size
  have hz7 : W1.heap.size ≤ w4.heap.size := HB4.out.size
  have hN5 : ∀ i, (N i ∨ (w.heap.size ≤ i ∧ i < w5.heap.size)) → i < w5.heap.size := fun i hi => by
    rcases hi with h' | h'
    · have := hN i h'; omega
    · omega
  have hr5 : RdK w0 (fun i => N i ∨ (w.heap.size ≤ i ∧ i < w5.heap.size)) w5 A5 (l.drop (y * 64) ++ s) := RdK.own (base := W1.heap.size) (by have := hg.own; rw [hl5] at this; exact this) fun i h1 h2 => .inr ⟨by omega, h2⟩
  obtain ⟨a5, rfl⟩ : ∃ a, A5 = some a := by obtain ⟨a, e, _⟩ := hr5.1.at_ (j := 0) (by omega); exact ⟨a, e⟩
  have HB5 := Lib.hid hb5
  have hbb := hbr.append hb
  clear hrun hg hs4 ho ho2 hb5 hg5
  refine hK _ _ b5 (fun _ => ?_)
  clear hK K
  refine lane_alone rfl (by kernel_rfl) (by rfl) (fun K hK => ?_)
  go_simp
  go_wp2_with (fail)
  refine (hlay_any w0 _ w5 g st m S f p size y a5 (r + n) c5 (l.drop (y * 64) ++ s) L5.out HS.out hN5 hr5 hbb hl5 (by omega) (by omega) hc5 hc6 (by omega) hm).mono ?_
  rintro e w6 ⟨rfl, st6, hl6, hs6, hw6, hk6⟩
  have b6 := (hk6.block w.heap.size (.inr ⟨Nat.le_refl _, by omega⟩)).trans b5
  have L6 := Lib.hid hl6
  have S6 := Lib.hid hs6
  have E6 := Lib.hid hw6
  have K6 := Lib.hid hk6
  clear hl6 hs6 hw6 hk6 hN5 hr5 hHeld
  refine hK _ _ b6 (fun _ => ?_)
  clear hK K
  iterate 1 (refine lane_take (v := ?_) rfl (by kernel_rfl) (by kernel_rfl) (by rfl) ?_ (by exact b6) ?_; rotate_left; (focus (intro W hSw; go_simp; try (with_reducible rfl))); simp only [Act.put, List.setIfInBounds_toArray, List.set_cons_zero, List.set_cons_succ])
  refine lane_end (by kernel_rfl) ?_
  clear b6 b5
  go_wp2
  go_ret
  refine ⟨rfl, st6, L6.out.less fun i hi => .inl hi, S6.out, E6.out, ?_⟩
  have := K6.out.size
  exact ⟨by omega, fun i hi => (K6.out.block i (.inl hi)).trans (HB5.out.block i (hN i hi)), fun i hi => (K6.out.old i hi).trans (HB5.out.block i (by omega))⟩
end Go.Proofs.YticefepcoemkoaaDoor
