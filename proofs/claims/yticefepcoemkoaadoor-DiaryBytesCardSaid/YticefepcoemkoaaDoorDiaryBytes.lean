/-
  'paybooklaw08.DiaryBytes' returns true for every input, and each argument reads afterwards as it did. Condition: the listed tables start as the program's text lays them, to which the card ties them (over a pruned copy of the project).
-/
import Derived.Test.YticefepcoemkoaaDoorCards
import Derived.Test.YticefepcoemkoaaDoorTie
import Derived.Test.YticefepcoemkoaaDoorDyErrsWalk
import Derived.Test.YticefepcoemkoaaDoorRowsIn
import Derived.Test.YticefepcoemkoaaDoorRow
import Derived.Lib.SmallJoins
import Derived.Deep.DeepHandedRow
import Derived.Stop.LaidErr
namespace Go.Proofs.YticefepcoemkoaaDoor
set_option maxRecDepth 20000
open Go.ChangeShapes Go.WideShapes Go.ChangeAt Go.RowKit

/-- Blocks that are apart from a diary may be written, and new ones made. -/
theorem DyM.turned {w0 : World} {M : Nat → Prop} {w w' : World} {d g m S n p1 p2 age : Nat} {fs : List Int} {es : List (List Int)} {lo : List Int} {f : Nat → List Int} {st : Pl.St} {N I E : Nat → Prop} (h : DyM w0 M w d g m S n p1 p2 age fs es lo f st N I E)
    (hs : w.heap.size ≤ w'.heap.size) (hk : ∀ i, i < w.heap.size → ¬ M i → w'.heap[i]? = w.heap[i]?) (hb : Below w0.heap.size w0 w') :
    DyM w0 (fun i => M i ∨ (w.heap.size ≤ i ∧ i < w'.heap.size)) w' d g m S n p1 p2 age fs es lo f st (fun i => N i ∨ (w.heap.size ≤ i ∧ i < w'.heap.size)) I E := by
  have hd := h.lt d h.own.1
  refine ⟨?_, h.sees, h.dry, fun i hi => ?_, h.dic.kept (fun i hi hl => hk i hl fun hm => ?_) hs, ⟨.inl h.own.1, h.own.2⟩, fun i hi => .inl (h.mine i hi), h.ent, fun i hi => ?_, h.pure, h.room⟩
  · obtain ⟨F, h1, h2, h3⟩ := h.live
    refine ⟨F, h1.kept (fun i hi => hk i (h1.lt i hi) fun hm => (h2 i hi).2 (h.apart i hm).1) hs, fun i hi => ⟨(h2 i hi).1, ?_⟩, hb⟩
    rintro (h' | h')
    · exact (h2 i hi).2 h'
    · have := h1.lt i hi; omega
  · rcases hi with h' | h'
    · have := h.lt i h'; omega
    · omega
  · have ha := h.apart i hm
    rcases hi with rfl | hi | hi
    · exact ha.2.1 rfl
    · exact ha.2.2.2 hi
    · exact ha.2.2.1 hi
  · rcases hi with h' | h'
    · exact ⟨.inl (h.apart i h').1, (h.apart i h').2⟩
    · exact ⟨.inr h', by omega, fun he => by have := h.lt i (h.mine i (.inr he)); omega, fun he => by have := h.lt i (h.mine i (.inl he)); omega⟩

theorem diaryBytes_far (A A' : Option Addr) (n c m c' : Nat) (w : World) (ht : Lines w) (h : 100 < n ∨ n ≤ 100 ∧ 6 < m) :
    Calls Tryd.prog 4 #[.slice A n c, .slice A' m c'] w fun e w' => e = .returned (.bool true) ∧ Below w.heap.size w w' := by
  have HT := Lib.hid ht
  clear ht
  rcases h with h | ⟨h0, h⟩
  · have d2 : decide ((100 : Int) < (n : Int)) = true := by simp; omega
    clear h
    go_enter Tryd.func4, Tryd.ntmps4
    go_wp2_with (fail)
    refine (awake_any _ HT.out).mono ?_
    rintro e w1 ⟨rfl, hb1⟩
    go_wp2_with (fail)
    refine (awake_any _ (HT.out.below hb1)).mono ?_
    rintro e w2 ⟨rfl, hb2⟩
    go_wp2
    go_ret
    exact ⟨rfl, hb1.trans (hb2.mono hb1.size)⟩
  · have d2 : decide ((100 : Int) < (n : Int)) = false := by simp; omega
    have d3 : decide ((6 : Int) < (m : Int)) = true := by simp; omega
    clear h h0
    go_enter Tryd.func4, Tryd.ntmps4
    go_wp2_with (fail)
    refine (awake_any _ HT.out).mono ?_
    rintro e w1 ⟨rfl, hb1⟩
    go_wp2_with (fail)
    refine (awake_any _ (HT.out.below hb1)).mono ?_
    rintro e w2 ⟨rfl, hb2⟩
    go_wp2
    go_ret
    exact ⟨rfl, hb1.trans (hb2.mono hb1.size)⟩

theorem log_take (a : Nat) (fs : List Int) (ls : List (List Int)) (j : Nat) (l : List Int) (h : ls[j]? = some l) : Sl.log a 0 (fs :: ls.take j) ++ Sl.closed a (j + 1) l = Sl.log a 0 (fs :: ls.take (j + 1)) := by
  have hj := (List.getElem?_eq_some_iff.1 h).1
  have e : ls.take (j + 1) = ls.take j ++ [l] := by rw [List.take_add_one, h]; rfl
  rw [e, ← List.cons_append, Sl.log_snoc, List.length_cons, List.length_take, Nat.min_eq_left (by omega), Nat.zero_add]
theorem log_most (a : Nat) : ∀ (es : List (List Int)) (i : Nat), (∀ e ∈ es, e.length ≤ 100) → (Sl.log a i es).length ≤ 116 * es.length := by
  intro es
  induction es with
  | nil => intro i _; simp [Sl.log]
  | cons x r ih =>
    intro i h
    show (Sl.closed a i x ++ Sl.log a (i + 1) r).length ≤ _
    have h1 := ih (i + 1) fun e he => h e (by simp [he])
    have h2 := h x (by simp)
    rw [List.length_append, Sl.closed_len, List.length_cons]
    omega
/-- What is old reads on. -/
theorem rdk_old {w w1 w' : World} {M : Nat → Prop} {A : Option Addr} {l : List Int} (hr : Rd w .u8 w.heap.size A l) (hb : Below w.heap.size w w1) (ho : Below w1.heap.size w1 w') : RdK w1 M w' A l := by
  refine ⟨fun hne => ?_, fun hne a e => .inr ?_⟩
  · obtain ⟨a, e, h1, h2⟩ := hr hne
    have h3 := hb.size
    have h4 := ho.size
    exact ⟨a, e, by omega, fun j u hu => (World.cell?_of_block ((ho.block _ (by rw [ad_block]; omega)).trans (hb.block _ (by rw [ad_block]; omega)))).trans (h2 j u hu)⟩
  · obtain ⟨a', e', h1, _⟩ := hr hne
    have h3 := hb.size
    rw [e] at e'; injection e' with e'; subst e'
    omega

theorem rdk_of {w1 w' : World} {M : Nat → Prop} {B : Nat} {A : Option Addr} {l : List Int} (hr : Rd w' .u8 B A l) (hB : B ≤ w1.heap.size) (hs : w1.heap.size ≤ w'.heap.size) : RdK w1 M w' A l :=
  ⟨hr.more (by omega), fun hne a e => .inr (by
    obtain ⟨a', e', h1, _⟩ := hr hne
    rw [e] at e'; injection e' with e'; subst e'
    omega)⟩
set_option maxHeartbeats 8000000 in
theorem diaryBytes_in (A A' : Option Addr) (n c m c' : Nat) (fs : List Int) (ls : List (List Int)) (w : World) (ht : Lines w) (hr : Rd w .u8 w.heap.size A fs) (hb : BytesOk fs) (hn : fs.length = n) (hrr : RdRows w .u8 w.heap.size A' ls) (hbb : ∀ l ∈ ls, BytesOk l) (hm : ls.length = m) (h : n ≤ 100) (h6 : m ≤ 6) :
    Calls Tryd.prog 4 #[.slice A n c, .slice A' m c'] w fun e w' => e = .returned (.bool true) ∧ Below w.heap.size w w' := by
  have d2 : decide ((100 : Int) < (n : Int)) = false := by simp; omega
  have d3 : decide ((6 : Int) < (m : Int)) = false := by simp; omega
  have HT := Lib.hid ht
  have HR := Lib.hid hr
  have HB := Lib.hid hb
  have HN := Lib.hid hn
  have HRR := Lib.hid hrr
  have HBB := Lib.hid hbb
  have HM := Lib.hid hm
  clear ht hr hb hrr hbb hn hm
  go_enter Tryd.func4, Tryd.ntmps4
  go_wp2_with (fail)
  refine (awake_any _ HT.out).mono ?_
  rintro e w1 ⟨rfl, hb1⟩
  have HB1 := Lib.hid hb1
  have HT1 := Lib.hid (HT.out.below hb1)
  clear hb1
  go_wp2_with (fail)
  refine (dy_new w1 40 (by omega)).mono ?_
  rintro e w2 ⟨rfl, hl2, hb2, hs2⟩
  have HL2 := Lib.hid hl2
  have HS2 := Lib.hid hs2
  clear hl2 hb2 hs2
  go_wp2_with (fail)
  refine (dy_begin HL2.out HS2.out (by omega) (by omega) HT1.out).mono ?_
  rintro e w3 ⟨d, rfl, hk3, f3, st3, N3, I3, E3, hd3⟩
  have HD3 : Hid (DyM w1 (fun _ => False) w3 d _ _ 40 20 0 20 1 [] [] [] f3 st3 N3 I3 E3) := Lib.hid hd3
  clear hk3 hd3
  go_wp2_with (fail)
  refine (dy_start HD3.out A n c fs (rdk_old HR.out HB1.out HD3.out.live.old) HB.out HN.out (by omega) (by omega) HT1.out (by omega)).mono ?_
  rintro e w4 ⟨_, ⟨_, rfl, f4, st4, N4, I4, E4, hd4⟩ | ⟨hno, _⟩⟩
  · have HD4 := Lib.hid hd4
    have HX4 : Hid (Below w.heap.size w w4) := HB1.out.trans (HD4.out.live.old.mono HB1.out.size)
    clear hd4 HD3
    go_wp2_with (fail)
    refine (refClose_eq 2 0 _ _ A w.heap.size c n fs w4 rfl rfl (by omega) (by omega) (HR.out.below HX4.out) HX4.out.size HB.out HN.out (by omega)).mono ?_
    intro e w5 hO
    obtain ⟨A5, c5, rfl, HO5, HB5, HR5, hc5, _⟩ := hO.open_n (16 + n) (by rw [Sl.closed_len, HN.out])
    have HD5 : Hid (DyM w1 (fun i => (Value.slice A5 (16 + n) c5).ownBlock = some i) w5 d _ _ 40 20 20 0 2 fs [] _ f4 st4 _ I4 E4) := Lib.hid ((HD4.out.more HB5.out).less fun i hi => .inr (HO5.out.lt i hi))
    have hlc : (Sl.log 2 0 (fs :: ls.take 0)).length = 16 + n := by simp [Sl.log, Sl.closed_len, HN.out]
    have hl0 : Sl.closed 2 0 fs = Sl.log 2 0 (fs :: ls.take 0) := by simp [Sl.log]
    rw [hl0] at HO5
    have HO5' : Hid (w5.ownsRow w1.heap.size 5 1 (.slice A5 (16 + n) c5) (Sl.log 2 0 (fs :: ls.take 0)).length (cl .u8 (Sl.log 2 0 (fs :: ls.take 0)))) := by rw [hlc]; exact own_base HO5.out HD4.out.live.old.size
    clear hO HD4 HO5 HB5 HR5 HX4 hlc hl0
    go_wp2
    go_loopw [8, 9] (fun v i wr => ∃ (j : Nat) (f : Nat → List Int) (st : Pl.St) (N I E : Nat → Prop), j ≤ m ∧ i = .int .i64 j ∧ Hid (∀ l ∈ ls.take j, l.length ≤ 100) ∧ Hid (DyM w1 (fun i => v.ownBlock = some i) wr d (w1.heap.size + 2) (1200 + 200 * j) 40 20 20 0 2 fs (ls.take j) (Sl.log 1 0 [[]]) f st N I E) ∧ Hid (wr.ownsRow w1.heap.size 5 1 v (Sl.log 2 0 (fs :: ls.take j)).length (cl .u8 (Sl.log 2 0 (fs :: ls.take j))))) (fun _ i _ => m - (intOf i).toNat)
    case atStart => exact ⟨0, f4, st4, _, I4, E4, by omega, rfl, Lib.hid (fun l hl => by simp at hl), HD5, HO5'⟩
    case round =>
      obtain ⟨j, f, st, N, I, E, hj, rfl, H100, HD, HO⟩ := hrel
      have HX : Hid (Below w.heap.size w wr) := HB1.out.trans (HD.out.live.old.mono HB1.out.size)
      have hlen : (Sl.log 2 0 (fs :: ls.take j)).length ≤ 116 * (j + 1) := by
        have h1 := log_most 2 (fs :: ls.take j) 0 (fun e he => by
          rcases List.mem_cons.1 he with rfl | he
          · rw [HN.out]; exact h
          · exact H100.out e he)
        have h2 : (ls.take j).length ≤ j := by rw [List.length_take]; omega
        rw [List.length_cons] at h1
        have h3 : 116 * ((ls.take j).length + 1) ≤ 116 * (j + 1) := Nat.mul_le_mul_left _ (by omega)
        omega
      have HLEN := Lib.hid hlen
      clear hlen
      by_cases hlt : j < m
      · obtain ⟨l, hl⟩ : ∃ l, ls[j]? = some l := ⟨ls[j]'(by rw [HM.out]; exact hlt), List.getElem?_eq_getElem _⟩
        have HL := Lib.hid hl
        obtain ⟨al, A6, c6, rfl, hal, hcell, hc6, hrd⟩ := HRR.out.below HX.out j l hl
        have HRD := Lib.hid hrd
        have hlb := HBB.out l (List.mem_of_getElem? hl)
        have HLB := Lib.hid hlb
        have d4 : decide ((j : Int) < (m : Int)) = true := by simp; omega
        clear hl hrd hlb
        by_cases hbig : 100 < l.length
        · have d5 : decide ((100 : Int) < (l.length : Int)) = true := by simp; omega
          go_wp2
          go_ret
          exact ⟨rfl, HX.out⟩
        · have d5 : decide ((100 : Int) < (l.length : Int)) = false := by simp; omega
          have HCELL := Lib.hid hcell
          obtain ⟨k, hk⟩ : ∃ k, l.length = k := ⟨_, rfl⟩
          have HK := Lib.hid hk
          rw [hk] at hcell hc6 hbig d5
          clear hk
          go_wp2_with (fail)
          refine (dAdd_any w1 _ wr d _ _ 40 20 20 0 2 fs (ls.take j) _ f st N I E A6 k c6 l HD.out ?_ HLB.out HK.out (by omega) HT1.out (by omega)).mono ?_
          · exact rdk_of HRD.out HB1.out.size HD.out.live.old.size
          rintro e w6 ⟨hk6, ⟨_, rfl, f6, st6, N6, I6, E6, hd6⟩ | ⟨hno, _⟩⟩
          · have HK6 := Lib.hid hk6
            have HD6 := Lib.hid hd6
            have HO6 : Hid (w6.ownsRow w1.heap.size 5 1 u8 (Sl.log 2 0 (fs :: ls.take j)).length (cl .u8 (Sl.log 2 0 (fs :: ls.take j)))) := own_kept HO.out fun i hi => HK6.out.block i hi
            have HX6 : Hid (Below w.heap.size w w6) := HB1.out.trans (HD6.out.live.old.mono HB1.out.size)
            have hcell6 : w6.cell? (al.add j) = some (.slice A6 k c6) := (World.cell?_of_block (HK6.out.old _ (by rw [ad_block]; have := HB1.out.size; omega))).trans hcell
            have HRD6 : Hid (Rd w6 .u8 w.heap.size A6 l) := HRD.out.kept fun i hi => HK6.out.old i (by have := HB1.out.size; omega)
            clear hk6 hd6 hcell HCELL
            go_wp2_with (fail)
            refine (refClose_eq 2 (j + 1) _ _ A6 w.heap.size c6 k l w6 rfl (by omega) (by omega) (by omega) HRD6.out HX6.out.size HLB.out HK.out (by omega)).mono ?_
            intro e w7 hO
            obtain ⟨A7, c7, rfl, HO7, HB7, HR7, hc7, _⟩ := hO.open_n (16 + k) (by rw [Sl.closed_len, HK.out])
            have HD7 := Lib.hid (HD6.out.below HB7.out)
            have HOW7 : Hid (w7.ownsRow w1.heap.size 5 1 u8 (Sl.log 2 0 (fs :: ls.take j)).length (cl .u8 (Sl.log 2 0 (fs :: ls.take j)))) := own_kept HO6.out fun i hi => HB7.out.block i (HO6.out.lt i hi).2
            have hcl : (Sl.closed 2 (j + 1) l).length = 16 + k := by rw [Sl.closed_len, HK.out]
            have HCL := Lib.hid hcl
            clear hO HO7 HD6 HO6 hcl
            go_wp2_with (at_builtin; refine wpList_append_rd rfl _ _ rfl rfl w1.heap.size u8 (Sl.log 2 0 (fs :: ls.take j)) (Sl.closed 2 (j + 1) l) _ A7 c7 rfl (by rw [HCL.out]; rfl) HOW7.out HR7.out (by rw [HCL.out]; have := HLEN.out; omega) HD7.out.live.old.size ?_; intro v8 w8 hg8; have G8 := Lib.hid hg8; clear hg8)
            have hlt8 := log_take 2 fs ls j l HL.out
            have htk : ls.take (j + 1) = ls.take j ++ [l] := by rw [List.take_add_one, HL.out]; rfl
            have hb8 : Below w1.heap.size w1 w8 := HD7.out.live.old.trans (G8.out.below HOW7.out HD7.out.live.old.size)
            have HD8 : Hid (DyM w1 (fun i => v8.ownBlock = some i) w8 d (w1.heap.size + 2) (1200 + 200 * (j + 1)) 40 20 20 0 2 fs (ls.take (j + 1)) (Sl.log 1 0 [[]]) f6 st6 (fun i => N6 i ∨ (w7.heap.size ≤ i ∧ i < w8.heap.size)) I6 E6) := by
              rw [htk]
              refine Lib.hid ((HD7.out.turned G8.out.grown.size (fun i hi hne => G8.out.grown.block i hi fun e => hne e.symm) hb8).less fun i hi => ?_)
              have h1 := G8.out.own.lt i hi
              rcases G8.out.at_ with h2 | h2
              · exact .inl (by rw [← h2]; exact hi)
              · exact .inr ⟨h2 i hi, h1.2⟩
            have HO8 : Hid (w8.ownsRow w1.heap.size 5 1 v8 (Sl.log 2 0 (fs :: ls.take (j + 1))).length (cl .u8 (Sl.log 2 0 (fs :: ls.take (j + 1))))) := by
              rw [← hlt8]; exact G8.out.own
            have H1008 : Hid (∀ x ∈ ls.take (j + 1), x.length ≤ 100) := fun x hx => by
              rw [htk] at hx
              rcases List.mem_append.1 hx with hx | hx
              · exact H100.out x hx
              · rw [List.mem_singleton] at hx; subst hx; rw [HK.out]; omega
            clear hlt8 htk hb8
            go_roundw
            case rel => exact ⟨j + 1, f6, st6, _, I6, E6, by omega, by go_num, H1008, HD8, HO8⟩
            case measure => simp [intOf]; omega
          · have := HLEN.out; omega
      · obtain rfl : j = m := by omega
        have d4 : decide ((j : Int) < (j : Int)) = false := by simp
        have htk : ls.take j = ls := List.take_of_length_le (by rw [HM.out]; exact Nat.le_refl _)
        rw [htk] at HD HO HLEN
        have HH := Lib.hid HD.out.pure.half
        have HLL := Lib.hid HD.out.pure.len
        have HBK : Hid (BytesOk (Pl.full 20 (Sl.log 2 0 (fs :: ls)))) := Lib.hid (by
          unfold Pl.full
          exact (log_ok (fun e he => HD.out.pure.bytes e he) 0).append (zeros_ok _))
        generalize wr = ws at *
        generalize u8 = vw at *
        obtain ⟨q, hq⟩ : ∃ q, (Sl.log 2 0 (fs :: ls)).length = q := ⟨_, rfl⟩
        have HQ := Lib.hid hq
        rw [hq] at HO
        obtain ⟨Aw, cw, rfl, hcw, _⟩ := own_form HO.out
        have hq2 : q ≤ 1280 := by have := HLL.out; rw [hq] at this; exact this
        clear hq htk H100 HLEN hlt hj
        have HF := Lib.hid (Pl.full_len (n := 20) HLL.out)
        generalize hFu : Pl.full 20 (Sl.log 2 0 (fs :: ls)) = Fu at *
        have HFU := Lib.hid hFu
        clear hFu
        go_wp2
        go_loopw [10, 11] (fun v i wr => ∃ t : Nat, t ≤ 20 ∧ i = .int .i64 (20 + (t : Int)) ∧ Hid (wr.ownsRow ws.heap.size 5 1 v (Fu.take (t * 64)).length (cl .u8 (Fu.take (t * 64)))) ∧ Hid (Below ws.heap.size ws wr)) (fun _ i _ => 40 - (intOf i).toNat)
        case atStart => exact ⟨0, by omega, rfl, World.ownsRow_nil _ _ _ _, Below.refl _ _⟩
        case round =>
          obtain ⟨t, ht, rfl, HV, HW⟩ := hrel
          by_cases hlt : t < 20
          · have d5 : decide ((20 : Int) + (t : Int) < 40) = true := by simp; omega
            have hrd := (HD.out.sees.reads (20 + t) (by omega)).trans (HH.out.at_ t hlt)
            have e20 : ((20 + t : Nat) : Int) = 20 + (t : Int) := by omega
            rw [e20] at hrd
            have HRD := Lib.hid hrd
            clear hrd
            go_wp2_with (fail)
            refine (read_live (i := 20 + (t : Int)) (HD.out.live.below HW.out) HD.out.sees.calm.1 (by omega) (by rw [HD.out.sees.size]; omega)).mono ?_
            rw [HRD.out]
            intro e w6 hT
            obtain ⟨A6, c6, rfl, HR6, HB6, _, _, _⟩ := hT.open_
            have HV6 : Hid (w6.ownsRow ws.heap.size 5 1 u10 (Fu.take (t * 64)).length (cl .u8 (Fu.take (t * 64)))) := own_kept HV.out fun i hi => HB6.out.block i (HV.out.lt i hi).2
            have hpl : ((Fu.drop (t * 64)).take 64).length = 64 := by rw [List.length_take, List.length_drop, HF.out]; omega
            have HPL := Lib.hid hpl
            have hsum : (Fu.take (t * 64)).length + ((Fu.drop (t * 64)).take 64).length ≤ 1000000 := by rw [hpl, List.length_take]; omega
            have HSUM := Lib.hid hsum
            have hnx : Fu.take (t * 64) ++ (Fu.drop (t * 64)).take 64 = Fu.take ((t + 1) * 64) := by
              rw [show (t + 1) * 64 = t * 64 + 64 by omega, List.take_add]
            have HNX := Lib.hid hnx
            have HW6 : Hid (Below ws.heap.size ws w6) := HW.out.trans (HB6.out.mono HW.out.size)
            clear hT hpl hsum hnx
            go_wp2_with (at_builtin; refine wpList_append_rd rfl _ _ rfl rfl ws.heap.size u10 (Fu.take (t * 64)) ((Fu.drop (t * 64)).take 64) _ A6 c6 rfl (by rw [HPL.out]; rfl) HV6.out HR6.out HSUM.out HW6.out.size ?_; intro v8 w8 hg8; have G8 := Lib.hid hg8; clear hg8)
            have HW8 : Hid (Below ws.heap.size ws w8) := HW6.out.trans (G8.out.below HV6.out HW6.out.size)
            have HV8 : Hid (w8.ownsRow ws.heap.size 5 1 v8 (Fu.take ((t + 1) * 64)).length (cl .u8 (Fu.take ((t + 1) * 64)))) := by rw [← HNX.out]; exact G8.out.own
            go_roundw
            case rel => exact ⟨t + 1, by omega, by go_num, HV8, HW8⟩
            case measure => simp [intOf]; omega
          · obtain rfl : t = 20 := by omega
            have hF20 : Fu.take (20 * 64) = Fu := List.take_of_length_le (by rw [HF.out]; exact Nat.le_refl _)
            have hFl : Fu.length = 1280 := HF.out
            have HFL := Lib.hid hFl
            rw [hF20, hFl] at HV
            obtain ⟨Ag, cg, rfl, _, _⟩ := own_form HV.out
            have hos : wr.ownsRow w1.heap.size 5 1 (.slice Aw q cw) q (cl .u8 (Sl.log 2 0 (fs :: ls))) := own_kept HO.out fun i hi => HW.out.block i (HO.out.lt i hi).2
            have HRG := Lib.hid (Rd.own HV.out)
            have HRW := Lib.hid (Rd.own hos)
            have HLV := Lib.hid (HD.out.live.below HW.out)
            have HDRY := Lib.hid HD.out.dry
            have HFIN : Hid (Below w.heap.size w wr) := HB1.out.trans (HLV.out.old.mono HB1.out.size)
            have hfu : bst (Sl.log 2 0 (fs :: ls)) ++ bst (List.replicate (1280 - q) 0) = bst Fu := by
              rw [← bst_append, ← HFU.out]; unfold Pl.full; rw [HQ.out]
            have hsz : (bst (Sl.log 2 0 (fs :: ls))).size + (bst (List.replicate (1280 - q) 0)).size ≤ 1280 := by
              rw [bst_size, bst_size, HQ.out, List.length_replicate]; omega
            have hsz2 : ¬ 9223372036854775807 < (bst (Sl.log 2 0 (fs :: ls))).size + (bst (List.replicate (1280 - q) 0)).size := by omega
            obtain ⟨O, hmk, hrd⟩ := make_fact (1280 - q) (IntKind.i64.wrap (1280 - (q : Int))) (by simp only [IntKind.wrap_i64]; omega) (by omega)
            have HRD := Lib.hid hrd
            have d6 : decide ((q : Int) ≤ 1280) = true := by simp; omega
            have d7 : decide ((20 : Int) + ((20 : Nat) : Int) < 40) = false := by simp
            clear hos hrd hF20 hFl HV HO HD HW HH HLL HF HBK
            go_wp2
            refine lane_start (ord := [0, 1, 2, 3, 4, 5, 6, 7, 8, 9, 10, 11, 12, 13, 14, 15, 16, 17, 18, 19, 20, 21, 22, 23, 24, 25, 26]) (S := fun w' => (convert 31 9 (.slice Ag 1280 cg)).run Tryd.prog w' = .ok (.string (bst Fu)) w' ∧ (convert 31 9 (.slice Aw q cw)).run Tryd.prog w' = .ok (.string (bst (Sl.log 2 0 (fs :: ls)))) w') rfl (by kernel_rfl) ⟨conv_len _ Ag _ cg 1280 Fu (HRG.out.kept fun _ _ => rfl) HFL.out, conv_len _ Aw _ cw q _ (HRW.out.kept fun _ _ => rfl) HQ.out⟩ (fun hHeld => ?_)
            repeat (first
              | (refine lane_take (v := ?_) rfl (by kernel_rfl) (by kernel_rfl) (by rfl) ?_ (by assumption) ?_; rotate_left; (focus (intro w hSw; obtain ⟨hS1, hS2⟩ := hSw; (try dsimp only at hS1 hS2); go_simp; try (with_reducible rfl))); simp only [Act.put, List.setIfInBounds_toArray, List.set_cons_zero, List.set_cons_succ]))
            have hr9 : Rd ((wr.alloc O).drew) .u8 (wr.alloc O).heap.size (some ⟨wr.heap.size, 0, none⟩) (List.replicate (1280 - q) 0) := ((HRD.out wr wr (fun _ => False)).1).kept fun _ _ => rfl
            have hb9 : Below wr.heap.size wr ((wr.alloc O).drew) := ((Below.refl _ wr).alloc (Nat.le_refl _) _).drew
            have hcg9 := conv_len ((wr.alloc O).drew) Ag _ cg 1280 Fu (HRG.out.below hb9) HFL.out
            have hcw9 := conv_len ((wr.alloc O).drew) Aw _ cw q _ (HRW.out.below hb9) HQ.out
            have hcz9 := conv_len ((wr.alloc O).drew) _ _ (1280 - q) (1280 - q) _ hr9 (List.length_replicate)
            have HB9 := Lib.hid hb9
            have HL9 := Lib.hid (HLV.out.below hb9)
            clear hr9 hb9
            refine lane_alone rfl (by kernel_rfl) (by rfl) (fun K hK => ?_)
            go_simp
            refine hK _ _ ⟨hcg9, hcw9⟩ (fun hHeld => ?_)
            clear hK K
            refine lane_alone rfl (by kernel_rfl) (by rfl) (fun K hK => ?_)
            go_simp
            refine hK _ _ ⟨hcg9, hcw9⟩ (fun hHeld => ?_)
            clear hK K
            repeat (first
              | (refine lane_take (v := ?_) rfl (by kernel_rfl) (by kernel_rfl) (by rfl) ?_ (by assumption) ?_; rotate_left; (focus (intro w hSw; obtain ⟨hS1, hS2⟩ := hSw; (try dsimp only at hS1 hS2); go_simp; try (with_reducible rfl))); simp only [Act.put, List.setIfInBounds_toArray, List.set_cons_zero, List.set_cons_succ]))
            refine lane_alone rfl (by kernel_rfl) (by rfl) (fun K hK => ?_)
            go_simp
            refine (wet_live HL9.out).mono ?_
            rw [HDRY.out]
            rintro e w10 ⟨rfl, rfl⟩
            refine hK _ _ ⟨hcg9, hcw9⟩ (fun hHeld => ?_)
            clear hK K
            repeat (first
              | (refine lane_take (v := ?_) rfl (by kernel_rfl) (by kernel_rfl) (by rfl) ?_ (by assumption) ?_; rotate_left; (focus (intro w hSw; obtain ⟨hS1, hS2⟩ := hSw; (try dsimp only at hS1 hS2); go_simp; try (with_reducible rfl))); simp only [Act.put, List.setIfInBounds_toArray, List.set_cons_zero, List.set_cons_succ]))
            refine lane_end (by kernel_rfl) ?_
            go_wp2
            go_ret
            exact ⟨rfl, HFIN.out.trans (HB9.out.mono HFIN.out.size)⟩
  · omega

theorem diaryBytes_walk (A : Option Addr) (c : Nat) (fs : List Int) (_ : fs.length ≤ c) {w : World} (hr : Rd w .u8 w.heap.size A fs) (hb : ∀ x ∈ fs, (Lit.int .u8 x).wf = true) (A' : Option Addr) (c' : Nat) (ls : List (List Int)) (hrr : RdRows w .u8 w.heap.size A' ls) (hbb : ∀ l ∈ ls, ∀ x ∈ l, (Lit.int .u8 x).wf = true) (ht : Lines w) :
    Calls Tryd.prog 4 #[.slice A fs.length c, .slice A' ls.length c'] w fun e w' => e = .returned (.bool true) ∧ Below w.heap.size w w' := by
  by_cases h : 100 < fs.length
  · exact diaryBytes_far A A' fs.length c ls.length c' w ht (.inl h)
  · by_cases h6 : 6 < ls.length
    · exact diaryBytes_far A A' fs.length c ls.length c' w ht (.inr ⟨by omega, h6⟩)
    · exact diaryBytes_in A A' fs.length c ls.length c' fs ls w ht hr (fun x hx => wf_u8 (hb x hx)) rfl hrr (fun l hl x hx => wf_u8 (hbb l hl x hx)) rfl (by omega) (by omega)
end Go.Proofs.YticefepcoemkoaaDoor
namespace Go.Proofs.YticefepcoemkoaaDoor.diaryBytes
set_option maxRecDepth 20000
open Go.ChangeShapes Go.WideShapes Go.ChangeAt Go.RowKit

theorem laidOut : laidOutB Tryd.prog = true := by kernel_rfl
theorem own : ownKnob Tryd.prog.godebug = none := by kernel_rfl

theorem powers : (Rows.laid_paybook_seal_lines : DataW Unit) = Lib.tabData .u32 Sl.tab := by kernel_rfl
theorem table {W : World} (h : laidMetH Tryd.prog Rows.diaryBytesRow.laid W) : Lines W := by
  have h0 : laidMet Tryd.prog [("paybook/seal.lines", Rows.laid_paybook_seal_lines)] W := h

  rw [powers] at h0
  exact Lib.tabIs_of_head (rest := []) (g := 0) (t := 101) (e := 40) (n := 16) (by kernel_rfl) (by kernel_rfl) Tryd.underlying101 Tryd.underlying40 (by kernel_rfl) (by kernel_rfl) h0

theorem contract (H : Type) (enc : TypeId × Value → H) (W : World) (base : Nat) (args : Array Value) (ds gs : List (DataW H)) (before : List MemPlace)
    (hval : ∀ (j : Nat) t v, Tryd.f4.params[j]? = some t → args[j]? = some v → Value.okWide Tryd.prog W .any base t v)
    (hW : DataW.Whole enc Tryd.prog Tryd.f4.params.toList Rows.diaryBytesSpec.vars false W args.toList ds gs before) (hL : laidMetH Tryd.prog Rows.diaryBytesRow.laid W) :
    Calls Tryd.prog 4 args W fun e W' => ∃ v, e = .returned v ∧ Rows.diaryBytesSpec.post enc Tryd.prog Tryd.f4 false true false false W args v W' := by
  have hW' := hW
  obtain ⟨p, q, hA0, hV, rfl, hfz, hnd⟩ := hW
  have hA : DataW.TrodAll enc Tryd.prog W 0 (fun _ => true) true Tryd.f4.params.toList args.toList ds p := hA0
  rw [Tryd.params4] at hA hval
  obtain ⟨v0, vs0, d0, ds0, p0, q0, hargs, rfl, rfl, h0, r0⟩ := trodAll_cons hA
  obtain ⟨v1, vs1, d1, ds1, p1, q1, rfl, rfl, rfl, h1, r1⟩ := trodAll_cons r0
  obtain ⟨rfl, rfl, rfl⟩ := trodAll_nil r1
  obtain rfl : args = #[v0, v1] := by cases args; simp_all
  obtain ⟨rfl, rfl⟩ := trodVars_none hV
  obtain ⟨A0, c0, l0, rfl, m0, _, r0_, w0⟩ := open_nums Tryd.underlying31 Tryd.underlying5 (by kernel_rfl) (hval 0 31 v0 rfl rfl) h0
  obtain ⟨A1, c1, l1, rfl, _, _, r1_, w1⟩ := open_rows Tryd.underlying32 Tryd.underlying31 Tryd.underlying5 (by kernel_rfl) (by kernel_rfl) (hval 1 32 v1 rfl rfl) h1
  clear hA0
  simp only [List.append_nil] at hW'
  refine (diaryBytes_walk (w := W) A0 c0 l0 m0 r0_ w0 A1 c1 l1 r1_ w1 (table hL)).mono fun e W' ⟨he, hb⟩ => ?_
  subst he
  exact ⟨_, rfl, post_law2 hW' (fun _ _ _ => (trodAll_cons_mk (shut_bool Tryd.underlying4 _) trodAll_mk0)) (trodAll_cons_mk (Below.trod laidOut (by kernel_rfl) (of_decide_eq_true (by kernel_rfl)) h0 hb (fun x hx => hW'.lt x (by simp [hx]))) (trodAll_cons_mk (Below.trod laidOut (by kernel_rfl) (of_decide_eq_true (by kernel_rfl)) h1 hb (fun x hx => hW'.lt x (by simp [hx]))) trodAll_mk0)) (fun _ => rfl) (by simp) hb⟩

/-- A world for the witness: the settled one, the listed tables holding what their text lays. -/
noncomputable def laidWorld (os : Os) : World :=
  { World.holding Tryd.prog os ⟨#[], #[], []⟩ with heap :=
    let h0 := (World.holding Tryd.prog os ⟨#[], #[], []⟩).heap
    let h1 := h0.modify 0 fun
      | .cells _ t frozen => .cells #[.int .u32 0, .int .u32 498536548, .int .u32 997073096, .int .u32 651767980, .int .u32 1994146192, .int .u32 1802195444, .int .u32 1303535960, .int .u32 1342533948, .int .u32 3988292384, .int .u32 4027552580, .int .u32 3604390888, .int .u32 3412177804, .int .u32 2607071920, .int .u32 2262029012, .int .u32 2685067896, .int .u32 3183342108] t frozen
      | o => o
    h1 }
theorem laid_met (os : Os) : laidMet Tryd.prog Rows.diaryBytesRow.laid ((laidWorld os).forCall (fun _ _ => 0) ⟨#[], #[.slice none 0 0, .slice none 0 0], []⟩).memory :=
  laidMet_of_run' 8 (by kernel_rfl) (by kernel_rfl)
theorem reads (os : Os) {H : Type} (enc : TypeId × Value → H) : ∃ places, DataW.whole enc Tryd.prog ((laidWorld os).forCall (fun _ _ => 0) ⟨#[], #[.slice none 0 0, .slice none 0 0], []⟩).memory Tryd.f4.params.toList Rows.diaryBytesSpec.vars false (#[.slice none 0 0, .slice none 0 0] : Array Value).toList 8 = some ([.nil, .nil], [], places) :=
  ⟨[], by kernel_rfl⟩

set_option maxRecDepth 100000 in
theorem lifted (os : Os) (started : os.Started) (H : Type) (enc : TypeId × Value → H) (F : Stop.Interp) :
    ReturnsInHanded {} Tryd.checked os 4 .any ((OpenSpec.ofChange Rows.diaryBytesSpec).preRow enc Tryd.prog Tryd.f4 Rows.diaryBytesRow.domain false Rows.diaryBytesRow.laid) (((OpenSpec.ofChange Rows.diaryBytesSpec).at F).post enc Tryd.prog Tryd.f4 false true false false) := by
  obtain ⟨places, hx⟩ := reads os enc
  refine returnsInHanded_of_row (C := Tryd.checked) (s := OpenSpec.ofChange Rows.diaryBytesSpec) own started (by kernel_rfl) Tryd.func4
    (witness_row_at (enc := enc) (C := Tryd.checked) false (laidWorld os) #[.slice none 0 0, .slice none 0 0] rfl (by kernel_rfl) (by kernel_rfl) (by kernel_rfl)
      (OpenSpec.preRow_of_cond 8 hx (by kernel_rfl) (fun k hk => by cases hk) (by kernel_rfl) (laid_met os))) ?_
  intro W base args ds gs before hval hW _ _ _ hL _ _
  exact contract H enc W base args ds gs before hval hW hL

theorem said : Rows.DiaryBytesSaid :=
  OpenClaim.holds_of_cond 4 Tryd.f4 rfl rfl rfl rfl rfl rfl rfl ⟨rfl, rfl, rfl, rfl, rfl⟩ rfl rfl rfl rfl rfl (by kernel_rfl) Tryd.func4 (by kernel_rfl)
    (of_decide_eq_true (by kernel_rfl)) (by unfold Func.isWrapper; first | (rw [if_pos (by decide +kernel)]; kernel_rfl) | (rw [if_neg (by decide +kernel)]; exact ⟨rfl, rfl⟩))
    (fun os started H enc _ F => by rw [OpenClaim.pre_eq_preRow]; exact lifted os started H enc F)

theorem plain (f : FuncId) (fn : Func) (hf : Tryd.pinned.checked.prog.funcNamed "paybook/paybooklaw08.DiaryBytes" = some f) (hfn : Tryd.pinned.checked.prog.funcs[f]? = some fn) :
    false = Tryd.pinned.checked.prog.looks [] ∧ ∀ (j : Nat) t, fn.params[j]? = some t → Tryd.pinned.checked.prog.wantsStandIn t = false := by
  obtain rfl : f = 4 := Option.some.inj ((show Tryd.prog.funcNamed "paybook/paybooklaw08.DiaryBytes" = some 4 by kernel_rfl).symm.trans hf) |>.symm
  obtain rfl : fn = Tryd.f4 := (Option.some.inj (Tryd.func4.symm.trans hfn)).symm
  refine ⟨by kernel_rfl, fun j t ht => ?_⟩
  rw [Tryd.params4] at ht
  have hm := Array.mem_of_getElem? ht
  simp only [List.mem_toArray, List.mem_cons, List.not_mem_nil, or_false] at hm
  rcases hm with rfl | rfl
  · exact (show Tryd.prog.wantsStandIn 31 = false by kernel_rfl)
  · exact (show Tryd.prog.wantsStandIn 32 = false by kernel_rfl)

theorem card : Rows.DiaryBytesCardSaid :=
  Claim7.holds_tied_plain_at .later [] _ _ _ _ said (fun _ h => by cases h) (by kernel_rfl) (fun _ h => by cases h) diaryBytes_row_tie rfl ⟨rfl, rfl⟩ (by kernel_rfl) rfl plain (by kernel_rfl)
#print axioms card
end Go.Proofs.YticefepcoemkoaaDoor.diaryBytes
