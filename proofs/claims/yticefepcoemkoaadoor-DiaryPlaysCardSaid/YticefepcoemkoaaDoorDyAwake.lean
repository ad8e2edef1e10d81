/-
  What a diary tells: what was at first, and its entries, in memory of their own. No conditions but the sizes.
  A diary and all it stands on: what it tells, that it is opened anew, that its plate falls. No conditions but the sizes.
  The contract of the laws' own look at the document's example. Condition: the table holds what the program's text lays.
-/
import Derived.Test.YticefepcoemkoaaDoorDyOpen
import Derived.Lib.SlBytesConst
namespace Go.Proofs.YticefepcoemkoaaDoor
section
set_option maxRecDepth 20000
open Go.ChangeShapes Go.WideShapes Go.ChangeAt Go.RowKit

set_option maxHeartbeats 1000000 in
theorem dFirst_any (w : World) (d g p1 p2 n age q cf : Nat) (fs : List Int) (ve : Value) (Af : Option Addr) (hd : w.heap[d]? = some (.cells (dcl g p1 p2 n age (.slice Af fs.length cf) ve q) 56 (0, 0))) (hr : Rd w .u8 w.heap.size Af fs) (hl : fs.length ≤ 5000) :
    Calls Tryd.prog 30 #[.pointer (some ⟨d, 0, none⟩)] w (Owned w fs) := by
  have d7 : w.cell? ⟨d, 7, none⟩ = some (.slice Af fs.length cf) := by rw [cell_of_row _ _ _ _ _ _ hd]; rfl
  have HR := Lib.hid hr
  clear hd hr
  go_enter Tryd.func30, Tryd.ntmps30
  go_wp2_with (fail)
  refine (clone_len Af w.heap.size cf fs.length fs w HR.out (Nat.le_refl _) rfl (by omega)).mono ?_
  rintro e w1 ⟨A, c, rfl, h1, h2, h3⟩
  have H1 := Lib.hid h1
  have H2 := Lib.hid h2
  have H3 := Lib.hid h3
  clear h1 h2 h3 d7
  go_wp2
  go_ret
  exact ⟨A, c, rfl, H1.out, H2.out, H3.out⟩

theorem own_at {w : World} {base n : Nat} {e : TypeId} {v : Value} {xs : List Value} (h : w.ownsRow base e 1 v n xs) {j : Nat} (hx : j < xs.length) (hj : j < n) :
    ∃ q cap cur, v = .slice (some ⟨q, 0, none⟩) n cap ∧ n ≤ cap ∧ base ≤ q ∧ q < w.heap.size ∧ w.heap[q]? = some (.cells cur e (0, 0)) ∧ w.cell? ⟨q, j, none⟩ = some xs[j] := by
  rcases h.2 with ⟨_, hz⟩ | ⟨q, cap, cur, rfl, hb, hg, hc, _⟩
  · omega
  · have hl := (Array.getElem?_eq_some_iff.1 hg).1
    refine ⟨q, cap, cur, rfl, hc, hb, hl, hg, ?_⟩
    have := h.cells (g := q) rfl j xs[j] (List.getElem?_eq_getElem hx)
    rwa [ad_head] at this
/-- The first j of a row are clones of the entries, in blocks of their own. -/
structure Clones (w : World) (R : Nat) (vs : List Value) (es : List (List Int)) (j : Nat) : Prop where
  len : vs.length = es.length
  at_ : ∀ (i : Nat) (e : List Int), i < j → es[i]? = some e → ∃ A c, vs[i]? = some (Value.slice A e.length c) ∧ e.length ≤ c ∧ RdI w (fun x => R < x) A e
/-- What Entries hands out. -/
def Tells (w : World) (es : List (List Int)) (e : Ending) (w' : World) : Prop :=
  ∃ A c vs, e = .returned (.slice A es.length c) ∧ w'.ownsRow w.heap.size 31 1 (.slice A es.length c) es.length vs ∧ Ents w' (fun x => w.heap.size < x) vs es ∧ Below w.heap.size w w'
theorem Clones.next {w w' : World} {R j c4 : Nat} {vs : List Value} {es : List (List Int)} {e : List Int} {A4 : Option Addr} (h : Clones w R vs es j) (hj : es[j]? = some e) (hR : R < w.heap.size) (hb : Below w.heap.size w w') (ho : w'.ownsRow w.heap.size 5 1 (.slice A4 e.length c4) e.length (cl .u8 e)) (hc : e.length ≤ c4) :
    Clones (w'.setCell ⟨R, j, none⟩ (.slice A4 e.length c4)) R (vs.set j (.slice A4 e.length c4)) es (j + 1) := by
  have hjl : j < es.length := (List.getElem?_eq_some_iff.1 hj).1
  have hs : (w'.setCell ⟨R, j, none⟩ (.slice A4 e.length c4)).heap.size = w'.heap.size := by simp
  have hk : ∀ i, i ≠ R → (w'.setCell ⟨R, j, none⟩ (.slice A4 e.length c4)).heap[i]? = w'.heap[i]? := fun i hi => heap_setCell_other _ _ _ _ hi
  have hz := hb.size
  refine ⟨by rw [List.length_set]; exact h.len, fun i x hi hx => ?_⟩
  by_cases hij : i = j
  · subst hij
    obtain rfl : e = x := by rw [hj] at hx; injection hx
    refine ⟨A4, c4, by rw [List.getElem?_set_self (by rw [h.len]; exact hjl)], hc, ?_⟩
    exact (RdI.own (I := fun x => R < x) ho fun i h1 h2 => by omega).kept (fun i hi _ => hk i (by omega)) (by omega)
  · obtain ⟨A, c, h1, h2, h3⟩ := h.at_ i x (by omega) hx
    exact ⟨A, c, by rw [List.getElem?_set_ne (fun e => hij e.symm)]; exact h1, h2, h3.kept (fun i hi hl => (hk i (by omega)).trans (hb.block i hl)) (by omega)⟩

set_option maxHeartbeats 4000000 in
theorem dEntries_any (w : World) (d g p1 p2 n age q base : Nat) (es : List (List Int)) (vf ve : Value) (vs : List Value) (I : Nat → Prop) (hd : w.heap[d]? = some (.cells (dcl g p1 p2 n age vf ve q) 56 (0, 0)))
    (ho : w.ownsRow base 31 1 ve es.length vs) (he : Ents w I vs es) (hl : es.length ≤ 5000) (hl2 : ∀ e ∈ es, e.length ≤ 5000) :
    Calls Tryd.prog 18 #[.pointer (some ⟨d, 0, none⟩)] w (Tells w es) := by
  obtain ⟨Ae, ce, rfl, _, _⟩ := own_form ho
  have d8 : w.cell? ⟨d, 8, none⟩ = some (.slice Ae es.length ce) := by rw [cell_of_row _ _ _ _ _ _ hd]; rfl
  have hdl := (Array.getElem?_eq_some_iff.1 hd).1
  obtain ⟨it, hi0, hi1, hi2, hi3⟩ := info_parts rowinfo2
  obtain ⟨w1, hmk, hown, hgr⟩ := run_make_full (P := Tryd.prog) w w.heap.size 32 31 it (.slice none 0 0) 1 Tryd.underlying32 hi0 hi1 hi2 .i64 .i64 es.length (by rw [hi3]; omega) (by unfold maxLen; omega) (Nat.le_refl _)
  obtain ⟨k, hk⟩ : ∃ k, k = es.length := ⟨_, rfl⟩
  have HK := Lib.hid hk
  rw [← hk] at d8 hmk hown hl ho
  have hb1 : Below w.heap.size w w1 := ⟨hgr.os, hgr.tape, hgr.output, hgr.size, fun i hi => hgr.block i hi (by simp)⟩
  have d81 : w1.cell? ⟨d, 8, none⟩ = some (.slice Ae k ce) := (World.cell?_of_block (a := ⟨d, 8, none⟩) (hb1.block d hdl)).trans d8
  have HO := Lib.hid ho
  have HE := Lib.hid he
  have HL2 := Lib.hid hl2
  have HOWN := Lib.hid hown
  have HB1 := Lib.hid hb1
  have hR : w.heap.size < w1.heap.size := (hown.lt _ rfl).2
  clear hd ho he hl2 hown hgr hb1 hk
  go_enter Tryd.func18, Tryd.ntmps18
  go_wp2_with (fail)
  go_loopw [19] (fun t wr => ∃ (j : Nat) (vr : List Value), j ≤ k ∧ t = .int .i64 j ∧ Hid (wr.ownsRow w.heap.size 31 1 (.slice (some ⟨w.heap.size, 0, none⟩) k k) k vr) ∧ Hid (Clones wr w.heap.size vr es j) ∧ Hid (Below w.heap.size w wr)) (fun t _ => k - (intOf t).toNat)
  case atStart => exact ⟨0, _, Nat.zero_le _, rfl, HOWN, Lib.hid ⟨by have h1 := HOWN.out.1; have := HK.out; omega, fun i e h => by omega⟩, HB1⟩
  case round =>
    obtain ⟨j, vr, hj, rfl, HOR, HCL, HBR⟩ := hrel
    by_cases hlt : j < k
    · have d1 : decide ((j : Int) < (k : Int)) = true := by simp; omega
      have hjl : j < es.length := by have := HK.out; omega
      obtain ⟨Aj, cj, hv, hcj, hrj⟩ := HE.out.at_ j es[j] (List.getElem?_eq_getElem hjl)
      have hvl : vs.length = es.length := HE.out.len
      obtain ⟨qe, cape, cure, hve, hce, hqe, hql, hqh, hqc⟩ := own_at HO.out (j := j) (by omega) hlt
      injection hve with hA _ hc
      subst hA hc
      rw [show vs[j] = .slice Aj es[j].length cj by rw [List.getElem?_eq_getElem (by omega)] at hv; injection hv] at hqc
      have hqr : wr.cell? ⟨qe, j, none⟩ = some (.slice Aj es[j].length cj) := (World.cell?_of_block (a := ⟨qe, j, none⟩) (HBR.out.block qe hql)).trans hqc
      have HEJ : Hid (es[j]? = some es[j]) := Lib.hid (List.getElem?_eq_getElem hjl)
      have hlj : es[j].length ≤ 5000 := HL2.out _ (List.getElem_mem hjl)
      have hrr : Rd wr .u8 wr.heap.size Aj es[j] := (hrj.kept (fun i _ hi => HBR.out.block i hi) HBR.out.size).1
      have HRR := Lib.hid hrr
      generalize es[j] = ej at *
      have hwr : w.heap.size < wr.heap.size := (HOR.out.lt _ rfl).2
      clear hqc hqh hv hrj hrr d8 d81
      go_wp2_with (fail)
      refine (clone_len Aj wr.heap.size cj ej.length ej wr HRR.out (Nat.le_refl _) rfl (by omega)).mono ?_
      rintro e w4 ⟨A4, c4, rfl, h1, h2, h3⟩
      have HOW := Lib.hid h1
      have HB4 := Lib.hid h2
      have hor4 : w4.ownsRow w.heap.size 31 1 (.slice (some ⟨w.heap.size, 0, none⟩) k k) k vr := own_kept HOR.out fun i hi => HB4.out.block i (HOR.out.lt i hi).2
      obtain ⟨qr, capr, curr, hvr, _, _, _, hqrh, hqrc⟩ := own_at hor4 (j := j) (by have := HCL.out.len; omega) hlt
      injection hvr with hA h6 h7
      clear h6 h7
      injection hA with hA
      injection hA with hA _ _
      subst hA
      have hfr : w4.frozen? ⟨w.heap.size, j, none⟩ = false := by unfold World.frozen?; rw [hqrh]; simp
      have HST := Lib.hid (hor4.stored j (.slice A4 ej.length c4))
      have HCN := Lib.hid (HCL.out.next HEJ.out hwr HB4.out HOW.out h3.1)
      have HBN : Hid (Below w.heap.size w (w4.setCell ⟨w.heap.size, j, none⟩ (.slice A4 ej.length c4))) := (HBR.out.trans (HB4.out.mono HBR.out.size)).setCell (Nat.le_refl _) _
      clear h1 h2 h3 hor4 hqrh hqr
      go_wp2
      go_roundw
      case rel => exact ⟨j + 1, _, by omega, by go_num, HST.out.1, HCN, HBN⟩
      case measure => simp [intOf]; omega
    · obtain rfl : j = k := by omega
      have d1 : decide ((j : Int) < (j : Int)) = false := by simp
      go_wp2
      go_ret
      have hk := HK.out
      subst hk
      exact ⟨_, _, vr, rfl, HOR.out, ⟨HCL.out.len, fun i e hi => HCL.out.at_ i e (List.getElem?_eq_some_iff.1 hi).1 hi⟩, HBR.out⟩
end

section
set_option maxRecDepth 20000
open Go.ChangeShapes Go.WideShapes Go.ChangeAt Go.RowKit

/-- Which half is which. -/
def Seat (n p1 p2 : Nat) : Prop := (p1 = n ∧ p2 = 0) ∨ (p1 = 0 ∧ p2 = n)
section
variable {w0 : World} {M : Nat → Prop} {w w' : World} {d g m S n p1 p2 age : Nat} {fs : List Int} {es : List (List Int)} {lo : List Int} {f : Nat → List Int} {st : Pl.St} {N I E : Nat → Prop}
/-- New blocks are apart from it. -/
theorem DyM.more (h : DyM w0 M w d g m S n p1 p2 age fs es lo f st N I E) (hb : Below w.heap.size w w') :
    DyM w0 (fun i => M i ∨ (w.heap.size ≤ i ∧ i < w'.heap.size)) w' d g m S n p1 p2 age fs es lo f st (fun i => N i ∨ (w.heap.size ≤ i ∧ i < w'.heap.size)) I E := by
  have hs := hb.size
  have hd := h.lt d h.own.1
  refine ⟨h.live.more hb, h.sees, h.dry, fun i hi => ?_, h.dic.kept (fun i _ hl => hb.block i hl) hs, ⟨.inl h.own.1, h.own.2⟩, fun i hi => .inl (h.mine i hi), h.ent, fun i hi => ?_, h.pure, h.room⟩
  · rcases hi with h' | h'
    · have := h.lt i h'; omega
    · omega
  · rcases hi with h' | h'
    · exact ⟨.inl (h.apart i h').1, (h.apart i h').2⟩
    · exact ⟨.inr h', by omega, fun he => by have := h.lt i (h.mine i (.inr he)); omega, fun he => by have := h.lt i (h.mine i (.inl he)); omega⟩
theorem DyM.less {M' : Nat → Prop} (h : DyM w0 M w d g m S n p1 p2 age fs es lo f st N I E) (hM : ∀ i, M' i → M i) : DyM w0 M' w d g m S n p1 p2 age fs es lo f st N I E :=
  ⟨h.live, h.sees, h.dry, h.lt, h.dic, h.own, h.mine, h.ent, fun i hi => h.apart i (hM i hi), h.pure, h.room⟩
theorem log_all {a : Nat} : ∀ (es : List (List Int)) (i : Nat), ∀ e ∈ es, 16 + e.length ≤ (Sl.log a i es).length := by
  intro es
  induction es with
  | nil => intro i e he; cases he
  | cons x r ih =>
    intro i e he
    show _ ≤ (Sl.closed a i x ++ Sl.log a (i + 1) r).length
    rw [List.length_append, Sl.closed_len]
    rcases List.mem_cons.1 he with rfl | he
    · omega
    · have := ih (i + 1) e he; omega
theorem DyM.sizes (h : DyM w0 M w d g m S n p1 p2 age fs es lo f st N I E) : fs.length ≤ 5000 ∧ es.length ≤ 5000 ∧ (∀ e ∈ es, e.length ≤ 5000) := by
  have h1 := h.pure.len
  have h2 := h.pure.fit.2.2.2
  have h3 := log_es (age := age) (i := 0) (fs :: es)
  have h4 := log_all (a := age) (fs :: es) 0
  rw [List.length_cons] at h3
  refine ⟨?_, by omega, fun e he => ?_⟩
  · have := h4 fs (by simp); omega
  · have := h4 e (by simp [he]); omega
theorem dy_first (h : DyM w0 M w d g m S n p1 p2 age fs es lo f st N I E) : Calls Tryd.prog 30 #[.pointer (some ⟨d, 0, none⟩)] w (Owned w fs) := by
  obtain ⟨Af, cf, ve, vs, h1, h2, h3, h4, h5, h6⟩ := h.dic.lies
  exact dFirst_any w d g p1 p2 n age _ cf fs ve Af h1 h2.1 h.sizes.1
theorem dy_entries (h : DyM w0 M w d g m S n p1 p2 age fs es lo f st N I E) : Calls Tryd.prog 18 #[.pointer (some ⟨d, 0, none⟩)] w (Tells w es) := by
  obtain ⟨Af, cf, ve, vs, h1, h2, h3, h4, h5, h6⟩ := h.dic.lies
  exact dEntries_any w d g p1 p2 n age _ _ es _ ve vs I h1 h4 h5 h.sizes.2.1 h.sizes.2.2
theorem dy_age (h : DyM w0 M w d g m S n p1 p2 age fs es lo f st N I E) : Calls Tryd.prog 12 #[.pointer (some ⟨d, 0, none⟩)] w fun e w' => e = .returned (.int .i64 age) ∧ w = w' := by
  obtain ⟨Af, cf, ve, vs, h1, _⟩ := h.dic.lies
  exact dAge_any w d g p1 p2 n age _ _ _ h1 (by have := h.pure.age; omega)
theorem dy_left (h : DyM w0 M w d g m S n p1 p2 age fs es lo f st N I E) {q : Nat} (hq : (Sl.log age 0 (fs :: es)).length = q) : Calls Tryd.prog 13 #[.pointer (some ⟨d, 0, none⟩)] w fun e w' => e = .returned (.int .i64 ((n * 64 - q : Nat) : Int)) ∧ Below w.heap.size w w' := by
  obtain ⟨Af, cf, ve, vs, h1, _⟩ := h.dic.lies
  rw [hq] at h1
  exact dLeft_any w d g p1 p2 n age q _ _ h1 (by have := h.pure.len; omega) h.pure.fit.2.2.2
theorem dy_open (h : DyM w0 M w d g m S n p1 p2 age fs es lo f st N I E) (ho : Old age lo) (hp : Seat n p1 p2) (hn : S / 2 = n) (ht : Lines w0) (hm : m + 200 ≤ 40000) :
    Calls Tryd.prog 8 #[.pointer (some ⟨g, 0, none⟩)] w fun e w' => ∃ d', e = .returned (.tuple #[.pointer (some ⟨d', 0, none⟩), .int .i64 0]) ∧ Kept w0 M w w' ∧
      ∃ f' st' N' I' E', DyM w0 M w' d' g (m + 200) S n p1 p2 age fs es lo f' st' N' I' E' := by
  rcases hp with ⟨rfl, rfl⟩ | ⟨rfl, rfl⟩
  · exact open_high w0 M w g m S _ age fs es lo f st N h.live h.sees h.lt (fun i hi => (h.apart i hi).1) h.pure ho hn ht hm
  · exact open_low w0 M w g m S _ age fs es lo f st N h.live h.sees h.lt (fun i hi => (h.apart i hi).1) h.pure ho hn ht hm
theorem dy_fall (h : DyM w0 M w d g m S n p1 p2 age fs es lo f st N I E) (x : Int) :
    Calls Tryd.prog 17 #[.pointer (some ⟨g, 0, none⟩), .int .i64 x] w fun e w' => e = .returned (.tuple #[]) ∧ Kept w0 N w w' ∧ DyM w0 M w' d g m S n p1 p2 age fs es lo f (st.fall x) N I E := by
  refine (fall_live h.live h.lt (by have := h.room; omega)).mono ?_
  rintro e w1 ⟨h1, h2, h3⟩
  have hf := h.sees.fall h.live.ok h.dry x
  refine ⟨h1, h3, h2, hf.1, hf.2, fun i hi => Nat.lt_of_lt_of_le (h.lt i hi) h3.size, h.dic.kept (fun i hi _ => h3.block i ?_) h3.size, h.own, h.mine, h.ent, h.apart, h.pure, h.room⟩
  rcases hi with rfl | hi
  · exact h.own.1
  · exact h.mine i hi
end
end

section
set_option maxRecDepth 20000
open Go.ChangeShapes Go.WideShapes Go.ChangeAt Go.RowKit

/-- A plate is made: nothing lies on it yet. -/
theorem dy_new (w : World) (k : Nat) (hk : k ≤ 200) : Calls Tryd.prog 7 #[.int .i64 (k : Nat)] w fun e w' => e = .returned (.pointer (some ⟨w.heap.size + 2, 0, none⟩)) ∧ Live w (fun _ => False) w' (w.heap.size + 2) (Pl.St.new (k : Nat)) 0 ∧ Below w.heap.size w w' ∧ Pl.Sees (Pl.St.new (k : Nat)) k (fun _ => Pl.zs) :=
  (new_live w (k : Nat) (by omega) (Below.refl _ w) (fun i hi => hi.elim)).mono fun e w' ⟨h1, h2, h3⟩ => ⟨h1, h2, h3, Pl.Sees.new⟩
/-- The first diary on it. -/
theorem dy_begin {w w1 : World} {g k : Nat} (h : Live w (fun _ => False) w1 g (Pl.St.new (k : Nat)) 0) (hs : Pl.Sees (Pl.St.new (k : Nat)) k (fun _ => Pl.zs)) (hk : 2 ≤ k) (hk2 : k ≤ 140) (ht : Lines w) :
    Calls Tryd.prog 8 #[.pointer (some ⟨g, 0, none⟩)] w1 fun e w' => ∃ d, e = .returned (.tuple #[.pointer (some ⟨d, 0, none⟩), .int .i64 0]) ∧ Kept w (fun _ => False) w1 w' ∧
      ∃ f' st' N' I' E', DyM w (fun _ => False) w' d g 600 k (k / 2) 0 (k / 2) 1 [] [] [] f' st' N' I' E' :=
  (open_new w (fun _ => False) w1 g 0 k (k / 2) _ _ _ h hs (fun i hi => hi.elim) (fun i hi => hi) (Pl.Half.new _ _) (Pl.Half.new _ _) rfl (by omega) (by omega) ht (by omega))

set_option maxHeartbeats 4000000 in
theorem awake_any (w : World) (ht : Lines w) : Calls Tryd.prog 5 #[] w fun e w' => e = .returned (.bool true) ∧ Below w.heap.size w w' := by
  have HT := Lib.hid ht
  have hk := fun (w : World) (C : Array Value) (n c : Nat) => Lib.run_convert_bytes_const (P := Tryd.prog) w 31 5 C n c Tryd.underlying31 Tryd.underlying5
  clear ht
  go_enter Tryd.func5, Tryd.ntmps5
  go_wp2_with (fail)
  refine (dy_new w 16 (by omega)).mono ?_
  rintro e w1 ⟨rfl, hl1, hb1, hs1⟩
  have HL1 := Lib.hid hl1
  have HB1 := Lib.hid hb1
  have HS1 := Lib.hid hs1
  clear hl1 hb1 hs1
  go_wp2_with (fail)
  refine (dy_begin HL1.out HS1.out (by omega) (by omega) HT.out).mono ?_
  rintro e w2 ⟨d, rfl, hk2, f2, st2, N2, I2, E2, hdy⟩
  have HK2 := Lib.hid hk2
  have HD2 := Lib.hid hdy
  clear hk2 hdy
  go_wp2_with (fail)
  have hb3 : Below w2.heap.size w2 (w2.alloc (.cells #[.int .u8 104, .int .u8 105] 5 (2, 3))) := (Below.refl _ w2).alloc (Nat.le_refl _) _
  have hz3 : (w2.alloc (.cells #[.int .u8 104, .int .u8 105] 5 (2, 3))).heap.size = w2.heap.size + 1 := by simp
  have HR3 : Hid (RdK w (fun i => False ∨ (w2.heap.size ≤ i ∧ i < (w2.alloc (.cells #[.int .u8 104, .int .u8 105] 5 (2, 3))).heap.size)) (w2.alloc (.cells #[.int .u8 104, .int .u8 105] 5 (2, 3))) (some ⟨w2.heap.size, 0, none⟩) [104, 105]) :=
    Lib.hid ⟨fun hne => by
      obtain ⟨a, e, h1, h2⟩ := rd_lit w2 #[.int .u8 104, .int .u8 105] .u8 [104, 105] 5 (2, 3) rfl hne
      exact ⟨a, e, by rw [hz3]; omega, h2⟩, fun _ a e => .inl (.inr (by injection e with e; subst e; exact ⟨Nat.le_refl _, by rw [hz3]; exact Nat.lt_succ_self _⟩))⟩
  have HD3 := Lib.hid (HD2.out.more hb3)
  have HK3 := Lib.hid (HK2.out.size)
  have hb3' := hb3
  generalize w2.alloc (.cells #[.int .u8 104, .int .u8 105] 5 (2, 3)) = w3 at *
  have HB3 := Lib.hid hb3
  clear hb3 hb3'
  refine (dAdd_any w _ w3 d _ 600 16 8 0 8 1 [] [] [] f2 st2 _ I2 E2 _ 2 2 [104, 105] HD3.out HR3.out (by unfold BytesOk; simp) rfl (by omega) HT.out (by omega)).mono ?_
  rintro e w4 ⟨hk4, ⟨_, rfl, f4, st4, N4, I4, E4, hd4⟩ | ⟨hno, _⟩⟩
  · have HK4 := Lib.hid hk4
    have HD4 : Hid (DyM w (fun _ => False) w4 d _ _ 16 8 0 8 1 [] [[104, 105]] [] f4 st4 N4 I4 E4) := Lib.hid (hd4.less fun i hi => hi.elim)
    clear hk4 hd4
    go_wp2_with (fail)
    refine (dy_fall HD4.out 0).mono ?_
    rintro e w5 ⟨rfl, hk5, hd5⟩
    have HK5 := Lib.hid hk5
    have HD5 := Lib.hid hd5
    clear hk5 hd5
    go_wp2_with (fail)
    refine (dy_open HD5.out (.inl rfl) (.inr ⟨rfl, rfl⟩) rfl HT.out (by omega)).mono ?_
    rintro e w6 ⟨d6, rfl, hk6, f6, st6, N6, I6, E6, hd6⟩
    have HK6 := Lib.hid hk6
    have HD6 := Lib.hid hd6
    clear hk6 hd6
    go_wp2_with (fail)
    refine (dy_entries HD6.out).mono ?_
    rintro e w7 ⟨A7, c7, vs7, rfl, ho7, he7, hb7⟩
    obtain ⟨Aj, cj, hv, hcj, hrj⟩ := he7.at_ 0 [104, 105] rfl
    have hvl : vs7.length = 1 := he7.len
    obtain ⟨qe, cape, cure, hve, hce, hqe, hql, hqh, hqc⟩ := own_at ho7 (j := 0) (by omega) (by decide)
    injection hve with hA h8 h9
    subst hA
    clear h8 h9
    rw [show vs7[0] = .slice Aj 2 cj by rw [List.getElem?_eq_getElem (by omega)] at hv; injection hv] at hqc
    have hcv := conv_len w7 Aj _ cj 2 [104, 105] hrj.1 rfl
    have hb1 : bst [104, 105] = (ByteArray.mk #[104, 105]) := rfl
    rw [hb1] at hcv
    have HB7 := Lib.hid hb7
    have HD7 := Lib.hid (HD6.out.below hb7)
    clear ho7 he7 hv hcj hrj hb7 hqh
    go_wp2_with (fail)
    refine (dy_age HD7.out).mono ?_
    rintro e w8 ⟨rfl, rfl⟩
    go_wp2
    go_ret
    exact ⟨rfl, HD7.out.live.old⟩
  · simp [Sl.log, Sl.closed_len] at hno
end
end Go.Proofs.YticefepcoemkoaaDoor
