/-
  A diary is opened. No conditions but the sizes.
-/
import Derived.Test.YticefepcoemkoaaDoorDyStart
namespace Go.Proofs.YticefepcoemkoaaDoor
set_option maxRecDepth 20000
open Go.ChangeShapes Go.WideShapes Go.ChangeAt Go.RowKit

theorem full_nil (n : Nat) : Pl.full n [] = Sl.noughts (n * 64) := by simp [Pl.full, Sl.noughts]
theorem full_ok {n : Nat} {l : List Int} (h : BytesOk l) : BytesOk (Pl.full n l) := by
  unfold Pl.full
  exact h.append fun x hx => by rw [(List.mem_replicate.1 hx).2]; decide
theorem hage_log (w0 : World) (N : Nat → Prop) (w : World) (g : Nat) (st : Pl.St) (m S : Nat) (f : Nat → List Int) (p n a : Nat) (fs : List Int) (es : List (List Int))
    (h : Live w0 N w g st m) (hs : Pl.Sees st S f) (hf : Pl.Half f p n (Pl.full n (Sl.log a 0 (fs :: es)))) (hl : (Sl.log a 0 (fs :: es)).length ≤ n * 64) (hb : ∀ e ∈ fs :: es, BytesOk e) (ha : a < 4294967296) (hp : p + n ≤ S) (hz : n ≤ 70) (ht : Lines w0) :
    Calls Tryd.prog 21 #[halfV g p n] w fun e w' => e = .returned (.tuple #[.int .u32 a, .bool true]) ∧ Below w.heap.size w w' := by
  refine (hage_any w0 N w g st m S f p n _ h hs hf (full_ok (log_ok hb 0)) hp hz ht).mono ?_
  rintro e w' ⟨⟨k, _, hk2, rfl⟩, hb'⟩
  have hlen := Pl.full_len hl
  have hL : Pl.full n (Sl.log a 0 (fs :: es)) = Sl.closed a 0 fs ++ (Sl.log a 1 es ++ List.replicate (n * 64 - (Sl.log a 0 (fs :: es)).length) 0) := by
    show (Sl.closed a 0 fs ++ Sl.log a 1 es) ++ _ = _
    rw [List.append_assoc]
  have hfs : 16 + fs.length ≤ n * 64 := by
    have : (Sl.log a 0 (fs :: es)).length = (Sl.closed a 0 fs ++ Sl.log a 1 es).length := rfl
    rw [List.length_append, Sl.closed_len] at this
    omega
  rw [hL] at hk2 hlen ⊢
  have hlk := Sl.looked_far (j := k * 64) ha (by omega) (by omega) (hk2.imp id fun e => by rw [hlen, e]; exact Nat.le_refl _)
  rw [hlk]
  exact ⟨rfl, hb'⟩
theorem looked_fault {place : Nat} {l : List Int} (h : (Sl.looked place l).2.2 ≠ 0) : (Sl.looked place l).1 = 0 := by
  unfold Sl.looked at h ⊢
  split
  · rfl
  · split
    · rfl
    · simp_all
theorem hage_none (w0 : World) (N : Nat → Prop) (w : World) (g : Nat) (st : Pl.St) (m S : Nat) (f : Nat → List Int) (p n : Nat)
    (h : Live w0 N w g st m) (hs : Pl.Sees st S f) (hf : Pl.Half f p n (Pl.full n [])) (hp : p + n ≤ S) (hz : n ≤ 70) (ht : Lines w0) :
    Calls Tryd.prog 21 #[halfV g p n] w fun e w' => e = .returned (.tuple #[.int .u32 (0 : Nat), .bool false]) ∧ Below w.heap.size w w' := by
  refine (hage_any w0 N w g st m S f p n _ h hs hf (full_ok fun x hx => by cases hx) hp hz ht).mono ?_
  rintro e w' ⟨⟨k, _, _, rfl⟩, hb'⟩
  have h0 : (Sl.looked 0 ((Pl.full n []).take (k * 64))).2.2 ≠ 0 := by
    rw [full_nil]
    unfold Sl.noughts
    rw [List.take_replicate]
    exact Sl.looked_noughts _ _
  rw [looked_fault h0, decide_eq_false h0]
  exact ⟨rfl, hb'⟩

set_option maxHeartbeats 4000000 in
theorem open_new (w0 : World) (M : Nat → Prop) (w : World) (g m S n : Nat) (f : Nat → List Int) (st : Pl.St) (N : Nat → Prop)
    (h : Live w0 N w g st m) (hs : Pl.Sees st S f) (hlt : ∀ i, N i → i < w.heap.size) (hM : ∀ i, M i → N i)
    (h1 : Pl.Half f 0 n (Pl.full n [])) (h2 : Pl.Half f n n (Pl.full n [])) (hn : S / 2 = n) (hn1 : 1 ≤ n) (hn2 : n ≤ 70) (ht : Lines w0) (hm : m + 600 ≤ 40000) :
    Calls Tryd.prog 8 #[.pointer (some ⟨g, 0, none⟩)] w fun e w' => ∃ d, e = .returned (.tuple #[.pointer (some ⟨d, 0, none⟩), .int .i64 0]) ∧ Kept w0 M w w' ∧
      ∃ f' st' N' I' E', DyM w0 M w' d g (m + 600) S n 0 n 1 [] [] [] f' st' N' I' E' := by
  have hon : st.off = false := hs.calm.1
  have hsz := hs.size
  have hw0 := h.old.size
  have HL := Lib.hid h
  have HS := Lib.hid hs
  have H1 := Lib.hid h1
  have H2 := Lib.hid h2
  have HM := Lib.hid hM
  have HLT := Lib.hid hlt
  clear h hs h1 h2 hM hlt
  go_enter Tryd.func8, Tryd.ntmps8
  go_wp2_with (fail)
  refine (on_live HL.out).mono ?_
  rintro e w1 ⟨rfl, rfl⟩
  rw [hon]
  go_wp2_with (fail)
  refine (size_live HL.out).mono ?_
  rintro e w1 ⟨rfl, rfl⟩
  rw [hsz]
  have hq : Int.tdiv (S : Int) 2 = (n : Nat) := by subst hn; rfl
  have HQ := Lib.hid hq
  go_wp2_with (first | (rw [HQ.out]) | fail)
  have hb2 : Below w.heap.size w ((w.alloc (.cells #[.pointer (some ⟨g, 0, none⟩), .int .i64 0, .int .i64 n] 52)).alloc (.cells #[.pointer (some ⟨g, 0, none⟩), .int .i64 n, .int .i64 n] 52)) := ((Below.refl _ w).alloc (Nat.le_refl _) _).alloc (by simp) _
  have hz2 : ((w.alloc (.cells #[.pointer (some ⟨g, 0, none⟩), .int .i64 0, .int .i64 n] 52)).alloc (.cells #[.pointer (some ⟨g, 0, none⟩), .int .i64 n, .int .i64 n] 52)).heap.size = w.heap.size + 2 := by simp
  have hlo : ((w.alloc (.cells #[.pointer (some ⟨g, 0, none⟩), .int .i64 0, .int .i64 n] 52)).alloc (.cells #[.pointer (some ⟨g, 0, none⟩), .int .i64 n, .int .i64 n] 52)).heap[w.heap.size]? = some (.cells #[.pointer (some ⟨g, 0, none⟩), .int .i64 0, .int .i64 n] 52) := (alloc_block_old (by simp)).trans alloc_block
  have hhi : ((w.alloc (.cells #[.pointer (some ⟨g, 0, none⟩), .int .i64 0, .int .i64 n] 52)).alloc (.cells #[.pointer (some ⟨g, 0, none⟩), .int .i64 n, .int .i64 n] 52)).heap[w.heap.size + 1]? = some (.cells #[.pointer (some ⟨g, 0, none⟩), .int .i64 n, .int .i64 n] 52) := by have := alloc_block (w := w.alloc (.cells #[.pointer (some ⟨g, 0, none⟩), .int .i64 0, .int .i64 n] 52)) (o := (.cells #[.pointer (some ⟨g, 0, none⟩), .int .i64 n, .int .i64 n] 52)); simpa using this
  generalize ((w.alloc (.cells #[.pointer (some ⟨g, 0, none⟩), .int .i64 0, .int .i64 n] 52)).alloc (.cells #[.pointer (some ⟨g, 0, none⟩), .int .i64 n, .int .i64 n] 52)) = W2 at *
  have HB2 := Lib.hid hb2
  have HLO := Lib.hid hlo
  have HHI := Lib.hid hhi
  have HT := Lib.hid ht
  clear hb2 hlo hhi ht
  refine (hage_none w0 _ W2 g st m S f 0 n (HL.out.more HB2.out) HS.out H1.out (by omega) hn2 HT.out).mono ?_
  rintro e w3 ⟨rfl, hb3⟩
  have HB3 := Lib.hid (HB2.out.trans (hb3.mono HB2.out.size))
  have hr3 : w3.rangeAt (w.heap.size + 1) 0 [.pointer (some ⟨g, 0, none⟩), .int .i64 n, .int .i64 n] := half_range ((hb3.block _ (by omega)).trans HHI.out)
  have hz3 := hb3.size
  have HHI3 := Lib.hid ((hb3.block _ (by omega)).trans HHI.out)
  have HLO3 := Lib.hid ((hb3.block _ (by omega)).trans HLO.out)
  clear hb3
  go_wp2_with (refine wpList_load_mid rfl 52 _ rfl (w.heap.size + 1) 0 rfl _ _ hr3 Tryd.underlying52 rfl halfinfo ?_)
  refine (hage_none w0 _ w3 g st m S f n n (HL.out.more HB3.out) HS.out H2.out (by omega) hn2 HT.out).mono ?_
  rintro e w4 ⟨rfl, hb4⟩
  have HB4 := Lib.hid (HB3.out.trans (hb4.mono HB3.out.size))
  have hr4 : w4.rangeAt (w.heap.size + 1) 0 [.pointer (some ⟨g, 0, none⟩), .int .i64 n, .int .i64 n] := half_range ((hb4.block _ (by omega)).trans HHI3.out)
  have hr5 : w4.rangeAt w.heap.size 0 [.pointer (some ⟨g, 0, none⟩), .int .i64 ((0 : Nat) : Int), .int .i64 n] := half_range ((hb4.block _ (by omega)).trans HLO3.out)
  have hz4 := hb4.size
  clear hb4 hr3
  go_wp2_with (first | (refine wpList_load_mid rfl 52 _ rfl (w.heap.size + 1) 0 rfl _ _ hr4 Tryd.underlying52 rfl halfinfo ?_) | (refine wpList_load_mid rfl 52 _ rfl w.heap.size 0 rfl _ _ hr5 Tryd.underlying52 rfl halfinfo ?_))
  have hb5 : Below w.heap.size w (w4.alloc (.cells (dcl g n 0 n 0 (.slice none 0 0) (.slice none 0 0) 0) 56)) := HB4.out.alloc (by omega) _
  refine (dStart_any w0 M (w4.alloc (.cells (dcl g n 0 n 0 (.slice none 0 0) (.slice none 0 0) 0) 56)) w4.heap.size g m S n n 0 0 0 (.slice none 0 0) (.slice none 0 0) [] [] f st _ none 0 0 [] (HL.out.more hb5) HS.out (fun i hi => ?_) alloc_block ⟨.inr ⟨by omega, by simp⟩, by omega⟩ (fun i hi => ⟨.inl (HM.out i hi), by have := HLT.out i (HM.out i hi); omega⟩) H2.out (by simp) H1.out ⟨by omega, by omega, .inr (by omega), hn2⟩ (by omega) ⟨fun h => absurd rfl h, fun h => absurd rfl h⟩ (fun x hx => by cases hx) rfl (by omega) HT.out hm).mono ?_
  · rcases hi with h' | h'
    · have := HLT.out i h'; have := hb5.size; omega
    · omega
  rintro e w6 ⟨hk6, ⟨_, rfl, f', st', N', I', E', hdy⟩ | ⟨hno, _⟩⟩
  · have HK6 := Lib.hid hk6
    have HDY := Lib.hid hdy
    have HB5 := Lib.hid hb5
    clear hk6 hdy hb5
    go_wp2
    refine bodyPost_ret (v := .tuple #[.pointer (some ⟨w4.heap.size, 0, none⟩), .int .i64 0]) ?_ rfl ?_
    · simp [results, Tryd.results8, go_sem]
    · exact ⟨_, rfl, (Kept.of_below HB5.out (fun i hi => HLT.out i (HM.out i hi)) hw0).trans HK6.out fun i hi => hi, f', st', N', I', E', HDY.out⟩
  · omega
theorem DiC.lower {w : World} {I E : Nat → Prop} {base base' d g p1 p2 n age q : Nat} {fs : List Int} {es : List (List Int)} (h : DiC w I E base d g p1 p2 n age q fs es) (hb : base' ≤ base) : DiC w I E base' d g p1 p2 n age q fs es := by
  obtain ⟨Af, cf, ve, vs, h1, h2, h3, h4, h5, h6⟩ := h.lies
  exact ⟨⟨Af, cf, ve, vs, h1, h2, h3, own_base h4 hb, h5, h6⟩, h.apart⟩
/-- What lies in the other half: nothing, or a diary of an elder age. -/
def Old (age : Nat) (lo : List Int) : Prop := lo = [] ∨ ∃ a fs es, a < age ∧ lo = Sl.log a 0 (fs :: es) ∧ ∀ e ∈ fs :: es, BytesOk e
theorem half_old {w1 : World} {p n age S : Nat} {lo : List Int} {f : Nat → List Int} (hf : Pl.Half f p n (Pl.full n lo)) (ho : Old age lo) (ha : age < 1000000) (hl : lo.length ≤ n * 64) (hp : p + n ≤ S) (hz : n ≤ 70) (_ht : Lines w1) :
    ∃ (la : Nat) (lr : Bool), ((la = 0 ∧ lr = false) ∨ (lr = true ∧ la < age)) ∧ ∀ (w0 : World) (N : Nat → Prop) (w : World) (g : Nat) (st : Pl.St) (m : Nat), Live w0 N w g st m → Pl.Sees st S f → Lines w0 →
      Calls Tryd.prog 21 #[halfV g p n] w fun e w' => e = .returned (.tuple #[.int .u32 la, .bool lr]) ∧ Below w.heap.size w w' := by
  rcases ho with rfl | ⟨a, fs, es, h1, rfl, h2⟩
  · exact ⟨0, false, .inl ⟨rfl, rfl⟩, fun w0 N w g st m h hs ht => hage_none w0 N w g st m S f p n h hs hf hp hz ht⟩
  · exact ⟨a, true, .inr ⟨rfl, h1⟩, fun w0 N w g st m h hs ht => hage_log w0 N w g st m S f p n a fs es h hs hf hl h2 (by omega) hp hz ht⟩

set_option maxHeartbeats 4000000 in
theorem open_high (w0 : World) (M : Nat → Prop) (w : World) (g m S n age : Nat) (fs : List Int) (es : List (List Int)) (lo : List Int) (f : Nat → List Int) (st : Pl.St) (N : Nat → Prop)
    (h : Live w0 N w g st m) (hs : Pl.Sees st S f) (hlt : ∀ i, N i → i < w.heap.size) (hM : ∀ i, M i → N i) (hp : DyP S n n 0 age fs es lo f) (ho : Old age lo)
    (hn : S / 2 = n) (ht : Lines w0) (hm : m + 200 ≤ 40000) :
    Calls Tryd.prog 8 #[.pointer (some ⟨g, 0, none⟩)] w fun e w' => ∃ d, e = .returned (.tuple #[.pointer (some ⟨d, 0, none⟩), .int .i64 0]) ∧ Kept w0 M w w' ∧
      ∃ f' st' N' I' E', DyM w0 M w' d g (m + 200) S n n 0 age fs es lo f' st' N' I' E' := by
  have hon : st.off = false := hs.calm.1
  have hsz := hs.size
  have hw0 := h.old.size
  have hn2 := hp.fit.2.2.2
  have hag := hp.age
  have HL := Lib.hid h
  have HS := Lib.hid hs
  have HP := Lib.hid hp
  have HM := Lib.hid hM
  have HLT := Lib.hid hlt
  obtain ⟨la, lr, hla, hq⟩ := half_old hp.other ho hag hp.lo hp.fit.2.1 hn2 ht
  have HQO := Lib.hid hq
  clear h hs hp hM hlt hq
  go_enter Tryd.func8, Tryd.ntmps8
  go_wp2_with (fail)
  refine (on_live HL.out).mono ?_
  rintro e w1 ⟨rfl, rfl⟩
  rw [hon]
  go_wp2_with (fail)
  refine (size_live HL.out).mono ?_
  rintro e w1 ⟨rfl, rfl⟩
  rw [hsz]
  have hq : Int.tdiv (S : Int) 2 = (n : Nat) := by subst hn; rfl
  have HQ := Lib.hid hq

  go_wp2_with (first | (rw [HQ.out]) | fail)
  have hb2 : Below w.heap.size w ((w.alloc (.cells #[.pointer (some ⟨g, 0, none⟩), .int .i64 0, .int .i64 n] 52)).alloc (.cells #[.pointer (some ⟨g, 0, none⟩), .int .i64 n, .int .i64 n] 52)) := ((Below.refl _ w).alloc (Nat.le_refl _) _).alloc (by simp) _
  have hz2 : ((w.alloc (.cells #[.pointer (some ⟨g, 0, none⟩), .int .i64 0, .int .i64 n] 52)).alloc (.cells #[.pointer (some ⟨g, 0, none⟩), .int .i64 n, .int .i64 n] 52)).heap.size = w.heap.size + 2 := by simp
  have hlo : ((w.alloc (.cells #[.pointer (some ⟨g, 0, none⟩), .int .i64 0, .int .i64 n] 52)).alloc (.cells #[.pointer (some ⟨g, 0, none⟩), .int .i64 n, .int .i64 n] 52)).heap[w.heap.size]? = some (.cells #[.pointer (some ⟨g, 0, none⟩), .int .i64 0, .int .i64 n] 52) := (alloc_block_old (by simp)).trans alloc_block
  have hhi : ((w.alloc (.cells #[.pointer (some ⟨g, 0, none⟩), .int .i64 0, .int .i64 n] 52)).alloc (.cells #[.pointer (some ⟨g, 0, none⟩), .int .i64 n, .int .i64 n] 52)).heap[w.heap.size + 1]? = some (.cells #[.pointer (some ⟨g, 0, none⟩), .int .i64 n, .int .i64 n] 52) := by have := alloc_block (w := w.alloc (.cells #[.pointer (some ⟨g, 0, none⟩), .int .i64 0, .int .i64 n] 52)) (o := (.cells #[.pointer (some ⟨g, 0, none⟩), .int .i64 n, .int .i64 n] 52)); simpa using this
  generalize ((w.alloc (.cells #[.pointer (some ⟨g, 0, none⟩), .int .i64 0, .int .i64 n] 52)).alloc (.cells #[.pointer (some ⟨g, 0, none⟩), .int .i64 n, .int .i64 n] 52)) = W2 at *
  have HB2 := Lib.hid hb2
  have HLO := Lib.hid hlo
  have HHI := Lib.hid hhi
  have HT := Lib.hid ht
  clear hb2 hlo hhi ht
  refine (HQO.out w0 _ W2 g st m (HL.out.more HB2.out) HS.out HT.out).mono ?_
  rintro e w3 ⟨rfl, hb3⟩
  have HB3 := Lib.hid (HB2.out.trans (hb3.mono HB2.out.size))
  have hr3 : w3.rangeAt (w.heap.size + 1) 0 [.pointer (some ⟨g, 0, none⟩), .int .i64 n, .int .i64 n] := half_range ((hb3.block _ (by omega)).trans HHI.out)
  have hz3 := hb3.size
  have HHI3 := Lib.hid ((hb3.block _ (by omega)).trans HHI.out)
  have HLO3 := Lib.hid ((hb3.block _ (by omega)).trans HLO.out)
  clear hb3
  go_wp2_with (refine wpList_load_mid rfl 52 _ rfl (w.heap.size + 1) 0 rfl _ _ hr3 Tryd.underlying52 rfl halfinfo ?_)
  refine (hage_log w0 _ w3 g st m S f n n age fs es (HL.out.more HB3.out) HS.out HP.out.half HP.out.len HP.out.bytes (by omega) HP.out.fit.1 hn2 HT.out).mono ?_
  rintro e w4 ⟨rfl, hb4⟩
  have HB4 := Lib.hid (HB3.out.trans (hb4.mono HB3.out.size))
  have hr4 : w4.rangeAt (w.heap.size + 1) 0 [.pointer (some ⟨g, 0, none⟩), .int .i64 n, .int .i64 n] := half_range ((hb4.block _ (by omega)).trans HHI3.out)
  have hr5 : w4.rangeAt w.heap.size 0 [.pointer (some ⟨g, 0, none⟩), .int .i64 ((0 : Nat) : Int), .int .i64 n] := half_range ((hb4.block _ (by omega)).trans HLO3.out)
  have hz4 := hb4.size
  clear hb4 hr3
  have hb5 : Below w.heap.size w (w4.alloc (.cells (dcl g n 0 n age (.slice none 0 0) (.slice none 0 0) 0) 56)) := HB4.out.alloc (by omega) _
  have HREC : Hid (Calls Tryd.prog 22 #[.pointer (some ⟨w4.heap.size, 0, none⟩)] (w4.alloc (.cells (dcl g n 0 n age (.slice none 0 0) (.slice none 0 0) 0) 56)) fun e w6 => e = .returned (.int .i64 0) ∧ Kept w0 M w w6 ∧ ∃ f' st' N' I' E', DyM w0 M w6 w4.heap.size g (m + 200) S n n 0 age fs es lo f' st' N' I' E') := by
    have hs5 := hb5.size
    refine (recall_any w0 _ _ g st m S f n 0 n w4.heap.size age fs es (HL.out.more hb5) HS.out (fun i hi => ?_) ⟨.inr ⟨by omega, by simp⟩, by omega⟩ HP.out.half HP.out.len HP.out.fit.1 hn2 HT.out (by omega) HP.out.bytes alloc_block (by omega)).mono ?_
    · rcases hi with h' | h'
      · have := HLT.out i h'; omega
      · omega
    rintro e w6 ⟨rfl, st', z, I, E, hz, hz', hIE, hdic, hl6, hs6, hw6, hk6⟩
    have h5 : (w4.alloc (.cells (dcl g n 0 n age (.slice none 0 0) (.slice none 0 0) 0) 56)).heap.size = w4.heap.size + 1 := by simp
    refine ⟨rfl, (Kept.of_below hb5 (fun i hi => HLT.out i (HM.out i hi)) hw0).trans hk6 fun i hi => ⟨.inl (HM.out i hi), by have := HLT.out i (HM.out i hi); omega⟩, f, st', _, I, E, hl6, hs6, hw6, fun i hi => ?_, hdic.lower (by omega), ⟨.inl (.inr ⟨by omega, by omega⟩), by omega⟩, fun i hi => .inr (hIE i hi), fun i hi => by have := hIE i (.inr hi); omega, fun i hi => ?_, HP.out, hm⟩
    · rcases hi with (h' | h') | h'
      · have := HLT.out i h'; omega
      · omega
      · omega
    · have := HLT.out i (HM.out i hi)
      exact ⟨.inl (.inl (HM.out i hi)), by omega, fun he => by have := hIE i (.inr he); omega, fun he => by have := hIE i (.inl he); omega⟩
  clear hb5
  rcases hla with ⟨rfl, rfl⟩ | ⟨rfl, hla⟩
  all_goals (
    try have hlg : decide ((la : Int) < age) = true := (by simp; omega)
    try have hlg2 : decide ((age : Int) < la) = false := (by simp; omega)
    go_wp2_with (first | (refine wpList_load_mid rfl 52 _ rfl (w.heap.size + 1) 0 rfl _ _ hr4 Tryd.underlying52 rfl halfinfo ?_) | (refine wpList_load_mid rfl 52 _ rfl w.heap.size 0 rfl _ _ hr5 Tryd.underlying52 rfl halfinfo ?_))
    refine HREC.out.mono ?_
    rintro e w6 ⟨rfl, hk6, hdy⟩
    have HK6 := Lib.hid hk6
    have HDY := Lib.hid hdy
    clear hk6 hdy
    go_wp2
    refine bodyPost_ret (v := .tuple #[.pointer (some ⟨w4.heap.size, 0, none⟩), .int .i64 0]) ?_ rfl ?_
    · simp [results, Tryd.results8, go_sem]
    · exact ⟨_, rfl, HK6.out, HDY.out⟩)

set_option maxHeartbeats 4000000 in
theorem open_low (w0 : World) (M : Nat → Prop) (w : World) (g m S n age : Nat) (fs : List Int) (es : List (List Int)) (lo : List Int) (f : Nat → List Int) (st : Pl.St) (N : Nat → Prop)
    (h : Live w0 N w g st m) (hs : Pl.Sees st S f) (hlt : ∀ i, N i → i < w.heap.size) (hM : ∀ i, M i → N i) (hp : DyP S n 0 n age fs es lo f) (ho : Old age lo)
    (hn : S / 2 = n) (ht : Lines w0) (hm : m + 200 ≤ 40000) :
    Calls Tryd.prog 8 #[.pointer (some ⟨g, 0, none⟩)] w fun e w' => ∃ d, e = .returned (.tuple #[.pointer (some ⟨d, 0, none⟩), .int .i64 0]) ∧ Kept w0 M w w' ∧
      ∃ f' st' N' I' E', DyM w0 M w' d g (m + 200) S n 0 n age fs es lo f' st' N' I' E' := by
  have hon : st.off = false := hs.calm.1
  have hsz := hs.size
  have hw0 := h.old.size
  have hn2 := hp.fit.2.2.2
  have hag := hp.age
  have HL := Lib.hid h
  have HS := Lib.hid hs
  have HP := Lib.hid hp
  have HM := Lib.hid hM
  have HLT := Lib.hid hlt
  obtain ⟨la, lr, hla, hq⟩ := half_old hp.other ho hag hp.lo hp.fit.2.1 hn2 ht
  have HQO := Lib.hid hq
  clear h hs hp hM hlt hq
  go_enter Tryd.func8, Tryd.ntmps8
  go_wp2_with (fail)
  refine (on_live HL.out).mono ?_
  rintro e w1 ⟨rfl, rfl⟩
  rw [hon]
  go_wp2_with (fail)
  refine (size_live HL.out).mono ?_
  rintro e w1 ⟨rfl, rfl⟩
  rw [hsz]
  have hq : Int.tdiv (S : Int) 2 = (n : Nat) := by subst hn; rfl
  have HQ := Lib.hid hq

  go_wp2_with (first | (rw [HQ.out]) | fail)
  have hb2 : Below w.heap.size w ((w.alloc (.cells #[.pointer (some ⟨g, 0, none⟩), .int .i64 0, .int .i64 n] 52)).alloc (.cells #[.pointer (some ⟨g, 0, none⟩), .int .i64 n, .int .i64 n] 52)) := ((Below.refl _ w).alloc (Nat.le_refl _) _).alloc (by simp) _
  have hz2 : ((w.alloc (.cells #[.pointer (some ⟨g, 0, none⟩), .int .i64 0, .int .i64 n] 52)).alloc (.cells #[.pointer (some ⟨g, 0, none⟩), .int .i64 n, .int .i64 n] 52)).heap.size = w.heap.size + 2 := by simp
  have hlo : ((w.alloc (.cells #[.pointer (some ⟨g, 0, none⟩), .int .i64 0, .int .i64 n] 52)).alloc (.cells #[.pointer (some ⟨g, 0, none⟩), .int .i64 n, .int .i64 n] 52)).heap[w.heap.size]? = some (.cells #[.pointer (some ⟨g, 0, none⟩), .int .i64 0, .int .i64 n] 52) := (alloc_block_old (by simp)).trans alloc_block
  have hhi : ((w.alloc (.cells #[.pointer (some ⟨g, 0, none⟩), .int .i64 0, .int .i64 n] 52)).alloc (.cells #[.pointer (some ⟨g, 0, none⟩), .int .i64 n, .int .i64 n] 52)).heap[w.heap.size + 1]? = some (.cells #[.pointer (some ⟨g, 0, none⟩), .int .i64 n, .int .i64 n] 52) := by have := alloc_block (w := w.alloc (.cells #[.pointer (some ⟨g, 0, none⟩), .int .i64 0, .int .i64 n] 52)) (o := (.cells #[.pointer (some ⟨g, 0, none⟩), .int .i64 n, .int .i64 n] 52)); simpa using this
  generalize ((w.alloc (.cells #[.pointer (some ⟨g, 0, none⟩), .int .i64 0, .int .i64 n] 52)).alloc (.cells #[.pointer (some ⟨g, 0, none⟩), .int .i64 n, .int .i64 n] 52)) = W2 at *
  have HB2 := Lib.hid hb2
  have HLO := Lib.hid hlo
  have HHI := Lib.hid hhi
  have HT := Lib.hid ht
  clear hb2 hlo hhi ht
  refine (hage_log w0 _ W2 g st m S f 0 n age fs es (HL.out.more HB2.out) HS.out HP.out.half HP.out.len HP.out.bytes (by omega) HP.out.fit.1 hn2 HT.out).mono ?_
  rintro e w3 ⟨rfl, hb3⟩
  have HB3 := Lib.hid (HB2.out.trans (hb3.mono HB2.out.size))
  have hr3 : w3.rangeAt (w.heap.size + 1) 0 [.pointer (some ⟨g, 0, none⟩), .int .i64 n, .int .i64 n] := half_range ((hb3.block _ (by omega)).trans HHI.out)
  have hz3 := hb3.size
  have HHI3 := Lib.hid ((hb3.block _ (by omega)).trans HHI.out)
  have HLO3 := Lib.hid ((hb3.block _ (by omega)).trans HLO.out)
  clear hb3
  go_wp2_with (refine wpList_load_mid rfl 52 _ rfl (w.heap.size + 1) 0 rfl _ _ hr3 Tryd.underlying52 rfl halfinfo ?_)
  refine (HQO.out w0 _ w3 g st m (HL.out.more HB3.out) HS.out HT.out).mono ?_
  rintro e w4 ⟨rfl, hb4⟩
  have HB4 := Lib.hid (HB3.out.trans (hb4.mono HB3.out.size))
  have hr4 : w4.rangeAt (w.heap.size + 1) 0 [.pointer (some ⟨g, 0, none⟩), .int .i64 n, .int .i64 n] := half_range ((hb4.block _ (by omega)).trans HHI3.out)
  have hr5 : w4.rangeAt w.heap.size 0 [.pointer (some ⟨g, 0, none⟩), .int .i64 ((0 : Nat) : Int), .int .i64 n] := half_range ((hb4.block _ (by omega)).trans HLO3.out)
  have hz4 := hb4.size
  clear hb4 hr3
  have hb5 : Below w.heap.size w (w4.alloc (.cells (dcl g 0 n n age (.slice none 0 0) (.slice none 0 0) 0) 56)) := HB4.out.alloc (by omega) _
  have HREC : Hid (Calls Tryd.prog 22 #[.pointer (some ⟨w4.heap.size, 0, none⟩)] (w4.alloc (.cells (dcl g 0 n n age (.slice none 0 0) (.slice none 0 0) 0) 56)) fun e w6 => e = .returned (.int .i64 0) ∧ Kept w0 M w w6 ∧ ∃ f' st' N' I' E', DyM w0 M w6 w4.heap.size g (m + 200) S n 0 n age fs es lo f' st' N' I' E') := by
    have hs5 := hb5.size
    refine (recall_any w0 _ _ g st m S f 0 n n w4.heap.size age fs es (HL.out.more hb5) HS.out (fun i hi => ?_) ⟨.inr ⟨by omega, by simp⟩, by omega⟩ HP.out.half HP.out.len HP.out.fit.1 hn2 HT.out (by omega) HP.out.bytes alloc_block (by omega)).mono ?_
    · rcases hi with h' | h'
      · have := HLT.out i h'; omega
      · omega
    rintro e w6 ⟨rfl, st', z, I, E, hz, hz', hIE, hdic, hl6, hs6, hw6, hk6⟩
    have h5 : (w4.alloc (.cells (dcl g 0 n n age (.slice none 0 0) (.slice none 0 0) 0) 56)).heap.size = w4.heap.size + 1 := by simp
    refine ⟨rfl, (Kept.of_below hb5 (fun i hi => HLT.out i (HM.out i hi)) hw0).trans hk6 fun i hi => ⟨.inl (HM.out i hi), by have := HLT.out i (HM.out i hi); omega⟩, f, st', _, I, E, hl6, hs6, hw6, fun i hi => ?_, hdic.lower (by omega), ⟨.inl (.inr ⟨by omega, by omega⟩), by omega⟩, fun i hi => .inr (hIE i hi), fun i hi => by have := hIE i (.inr hi); omega, fun i hi => ?_, HP.out, hm⟩
    · rcases hi with (h' | h') | h'
      · have := HLT.out i h'; omega
      · omega
      · omega
    · have := HLT.out i (HM.out i hi)
      exact ⟨.inl (.inl (HM.out i hi)), by omega, fun he => by have := hIE i (.inr he); omega, fun he => by have := hIE i (.inl he); omega⟩
  clear hb5
  rcases hla with ⟨rfl, rfl⟩ | ⟨rfl, hla⟩
  all_goals (
    try have hlg : decide ((la : Int) < age) = true := (by simp; omega)
    try have hlg2 : decide ((age : Int) < la) = false := (by simp; omega)
    go_wp2_with (first | (refine wpList_load_mid rfl 52 _ rfl (w.heap.size + 1) 0 rfl _ _ hr4 Tryd.underlying52 rfl halfinfo ?_) | (refine wpList_load_mid rfl 52 _ rfl w.heap.size 0 rfl _ _ hr5 Tryd.underlying52 rfl halfinfo ?_))
    refine HREC.out.mono ?_
    rintro e w6 ⟨rfl, hk6, hdy⟩
    have HK6 := Lib.hid hk6
    have HDY := Lib.hid hdy
    clear hk6 hdy
    go_wp2
    refine bodyPost_ret (v := .tuple #[.pointer (some ⟨w4.heap.size, 0, none⟩), .int .i64 0]) ?_ rfl ?_
    · simp [results, Tryd.results8, go_sem]
    · exact ⟨_, rfl, HK6.out, HDY.out⟩)
end Go.Proofs.YticefepcoemkoaaDoor
