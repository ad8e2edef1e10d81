/-
  The walk of PostPlays. No conditions.
-/
import Derived.Test.YtlldkcelkgnalaaPstLive
import Derived.Test.YtlldkcelkgnalaaRow
import Derived.Deep.CutRange
namespace Go.Proofs.Ytlldkcelkgnalaa
set_option maxRecDepth 20000
open Go.ChangeShapes Go.WideShapes Go.ChangeAt Go.RowKit

/-- What the law knows: the post's letters, and its own list's. -/
structure PR (w : World) (g : Nat) (stp stl : List Ltr) (v : Value) (rs : List (Int × Value)) (wr : World) : Prop where
  live : PL g stp w (fun q => v.ownBlock = some q) wr
  own : wr.ownsRow w.heap.size 31 2 v stl.length (lcl rs)
  lets : Lets wr (fun _ => True) rs stl
section
variable {w wr w' : World} {g : Nat} {stp stp' stl stl' : List Ltr} {v v' : Value} {rs rs' : List (Int × Value)}
theorem PR.hN (h : PR w g stp stl v rs wr) : ∀ q, v.ownBlock = some q → q < wr.heap.size := fun q hq => (h.own.lt q hq).2
theorem PR.old (h : PR w g stp stl v rs wr) : Below w.heap.size w wr := h.live.old
theorem PR.call (h : PR w g stp stl v rs wr) (p : PLs g stp' w (fun q => v.ownBlock = some q) wr w') : PR w g stp' stl v rs w' :=
  ⟨p.live, own_kept h.own fun i hi => p.kept.block i hi, h.lets.keep p.keep fun _ h => h⟩
theorem PR.below (h : PR w g stp stl v rs wr) (hb : Below wr.heap.size wr w') : PR w g stp stl v rs w' :=
  ⟨h.live.below hb, own_kept h.own fun i hi => hb.block i (h.hN i hi), h.lets.keep (KeepU.below hb) fun _ h => h⟩
/-- One more of its own. -/
theorem PR.more (h : PR w g stp stl v rs wr) {x : Int × Value} {s : Ltr} (hx : Lets w' (fun _ => True) [x] [s]) (ho : w'.ownsRow w.heap.size 31 2 v' (stl.length + 1) (lcl rs ++ lcl [x])) (hg : wr.grownBy w' v.ownBlock) (hat : v'.ownBlock = v.ownBlock ∨ v'.ownBlock = some wr.heap.size) : PR w g stp (stl ++ [s]) v' (rs ++ [x]) w' := by
  have hk : KeepU wr w' := KeepU.grown (Lrow.of_own h.own) hg
  refine ⟨?_, by rw [List.length_append, lcl_append]; exact ho, (h.lets.keep hk fun _ h => h).append hx⟩
  have hb : Below w.heap.size w w' := ⟨hg.os.trans h.old.os, hg.tape.trans h.old.tape, hg.output.trans h.old.output, Nat.le_trans h.old.size hg.size, fun i hi => (hg.block i (Nat.lt_of_lt_of_le hi h.old.size) fun e => by have := (h.own.lt i e.symm).1; omega).trans (h.old.block i hi)⟩
  refine (h.live.grown hg.size (fun i hi hn => hg.block i hi fun e => hn e.symm) hb).less fun i hi => ?_
  rcases hat with e | e
  · exact .inl (e ▸ hi)
  · rw [e] at hi; injection hi with hi; exact .inr (by omega)
/-- A list anew. -/
theorem PR.fresh (h : PR w g stp stl v rs wr) (hb : Below wr.heap.size wr w') (hl : Lets w' (fun _ => True) rs' stl') (ho : w'.ownsRow wr.heap.size 31 2 v' stl'.length (lcl rs')) : PR w g stp stl' v' rs' w' := by
  refine ⟨?_, ?_, hl⟩
  · exact (h.live.more hb).less fun i hi => .inr (ho.lt i hi)
  · refine ⟨ho.1, ?_⟩
    rcases ho.2 with h1 | ⟨q, cap, cur, e, hq, rest⟩
    · exact .inl h1
    · exact .inr ⟨q, cap, cur, e, Nat.le_trans h.old.size hq, rest⟩
end
set_option maxHeartbeats 1000000 in
theorem postPlays_far {w : World} (A A' : Option Addr) (n n' c c' : Nat) (h : 80 < n ∨ n' < n) : Calls Try.prog 3 #[.slice A n c, .slice A' n' c'] w fun e w' => e = .returned (.bool true) ∧ Below w.heap.size w w' := by
  by_cases h1 : 80 < n
  · have d1 : decide ((80 : Int) < (n : Int)) = true := by simp; omega
    go_enter Try.func3, Try.ntmps3
    go_wp2_with (fail)
    refine (awake_any _).mono ?_
    rintro e w1 ⟨rfl, hb1⟩
    go_wp2_with (fail)
    refine (awake_any _).mono ?_
    rintro e w2 ⟨rfl, hb2⟩
    go_wp2
    go_ret
    exact ⟨rfl, hb1.trans (hb2.mono hb1.size)⟩
  · have d1 : decide ((80 : Int) < (n : Int)) = false := by simp; omega
    have d2 : decide (n' < n) = true := decide_eq_true (by omega)
    go_enter Try.func3, Try.ntmps3
    go_wp2_with (fail)
    refine (awake_any _).mono ?_
    rintro e w1 ⟨rfl, hb1⟩
    go_wp2_with (fail)
    refine (awake_any _).mono ?_
    rintro e w2 ⟨rfl, hb2⟩
    go_wp2
    go_ret
    exact ⟨rfl, hb1.trans (hb2.mono hb1.size)⟩
theorem region_frame5v {P : Program} {cd : Code} {Q : Exit → Act → World → Prop} {a : Act} {w : World} (Facts : Value → Nat → Value → World → Prop) (fr : Value → Nat → Value → Act)
    (h : cd.wp P (fun e a' w' => e = .normal ∧ ∃ u Z v, a' = fr u Z v ∧ Facts u Z v w') a w) (hk : ∀ u Z v w', Facts u Z v w' → Q .normal (fr u Z v) w') : cd.wp P Q a w :=
  wp_mono h (by rintro e a' w' ⟨rfl, u, Z, v, rfl, hf⟩; exact hk _ _ _ _ hf)
set_option maxHeartbeats 40000000 in
theorem postPlays_in {w : World} (A A' : Option Addr) (n c n' c' : Nat) (l l' : List Int) (hr : Rd w .u8 w.heap.size A l) (hw : ∀ x ∈ l, (Lit.int .u8 x).wf = true) (hr' : Rd w .i64 w.heap.size A' l') (hl : l.length = n) (hl' : l'.length = n') (h1 : n ≤ 80) (h2 : n ≤ n') :
    Calls Try.prog 3 #[.slice A n c, .slice A' n' c'] w fun e w' => e = .returned (.bool true) ∧ Below w.heap.size w w' := by
  have d1 : decide ((80 : Int) < (n : Int)) = false := by simp; omega
  have d2 : decide (n' < n) = false := decide_eq_false (by omega)
  have HR := Lib.hid hr
  have HR' := Lib.hid hr'
  have HL := Lib.hid hl
  have HL' := Lib.hid hl'
  have HW := Lib.hid hw
  clear hr hr' hl hl' hw
  go_enter Try.func3, Try.ntmps3
  go_wp2_with (fail)
  refine (awake_any _).mono ?_
  rintro e w1 ⟨rfl, hb1⟩
  have HP := Lib.hid (PL.new hb1)
  have hw1 : w.heap.size ≤ w1.heap.size := hb1.size
  obtain ⟨V, hV⟩ : ∃ V, w1.alloc (.cells #[.slice none 0 0] 28) = V := ⟨_, rfl⟩
  rw [hV] at HP
  obtain ⟨g, hg⟩ : ∃ g, w1.heap.size = g := ⟨_, rfl⟩
  rw [hg] at HP
  have HP1 : Hid (PR w g [] [] (.slice none 0 0) [] V) := Lib.hid ⟨HP.out.less fun i hi => by simp [Value.ownBlock] at hi, World.ownsRow_nil _ _ _ _, Lets.nil _ _⟩
  clear HP hb1 hw1
  go_wp2_with (fail)
  clear hV hg
  go_loopw [6, 7] (fun v i wr => ∃ (j : Nat) (st : List Ltr) (rs : List (Int × Value)), j ≤ n ∧ i = .int .i64 j ∧ (∃ A9 c9, v = .slice A9 st.length c9) ∧ st.length ≤ j ∧ Hid (∀ s ∈ st, s.2.length ≤ 1) ∧ Hid (PR w g st st v rs wr)) (fun _ i _ => n - (intOf i).toNat)
  case atStart => exact ⟨0, [], [], Nat.zero_le _, rfl, ⟨none, 0, rfl⟩, Nat.le_refl _, fun s hs => by simp at hs, HP1⟩
  case round =>
    clear HP1
    obtain ⟨j, st, rs, hj, rfl, ⟨A9, c9, rfl⟩, hlen, H1, HP⟩ := hrel
    by_cases hlt : j < n
    case neg =>
      obtain rfl : j = n := by omega
      have dlt : decide ((j : Int) < (j : Int)) = false := by simp
      go_wp2_with (fail)
      go_ret
      exact ⟨rfl, HP.out.old⟩
    have dlt : decide ((j : Int) < (n : Int)) = true := by simp; omega
    have hjn : (j : Int) < (n' : Int) := by omega
    have hjm : (j : Int) < (n : Int) := by omega
    have hj0 : (0 : Int) ≤ (j : Int) := by omega
    obtain ⟨aa, rfl, hab, hac⟩ := HR.out.at_ (j := j) (by have := HL.out; omega)
    obtain ⟨bb, rfl, hbb, hbc⟩ := HR'.out.at_ (j := j) (by have := HL'.out; omega)
    have hwa := wf_u8 (HW.out _ (List.getElem_mem (show j < l.length by have := HL.out; omega)))
    obtain ⟨a, ha⟩ : ∃ a, l[j]'(by have := HL.out; omega) = a := ⟨_, rfl⟩
    obtain ⟨t, ht⟩ : ∃ t, l'[j]'(by have := HL'.out; omega) = t := ⟨_, rfl⟩
    rw [ha] at hac hwa
    rw [ht] at hbc
    obtain ⟨ha0, ha1⟩ := hwa
    have E1 := Lib.hid hac
    have HA := Lib.hid hab
    have e1 : wr.cell? (aa.add j) = some (.int .u8 a) := (World.cell?_of_block (HP.out.old.block _ (by rw [ad_block]; exact hab))).trans hac
    have e2 : wr.cell? (bb.add j) = some (.int .i64 t) := (World.cell?_of_block (HP.out.old.block _ (by rw [ad_block]; exact hbb))).trans hbc
    clear hac hbc ha ht hab hbb
    by_cases hn0 : st.length = 0
    · have dz : decide (0 < st.length) = false := decide_eq_false (by omega)
      have HN0 := Lib.hid hn0
      clear hn0
      rcases show a % 5 = 0 ∨ a % 5 = 1 ∨ a % 5 = 2 ∨ a % 5 = 3 ∨ a % 5 = 4 by omega with hk | hk | hk | hk | hk
      · skip
        have hja : ((j : Nat) : Int) % 256 = (j : Int) := by omega
        go_wp2_with (fail)
        have HB := Lib.hid (bts_lit wr #[.int .u8 (j : Int)] [(j : Int)] (0, 0) 1 rfl rfl (by decide))
        have HP0 := Lib.hid (HP.out.below (show Below wr.heap.size wr (wr.alloc (.cells #[.int .u8 (j : Int)] 5)) from (Below.refl _ _).alloc (Nat.le_refl _) _))
        refine (live_send HP0.out.live HP0.out.hN a HB.out (by show 1 ≤ 1000; decide)).mono ?_
        rintro e w2 ⟨rfl, h2⟩
        rw [send_short (by omega)] at h2
        have HP2 := Lib.hid (HP0.out.call h2)
        have hk2 := h2.live.old
        have e1' : w2.cell? (aa.add j) = some (.int .u8 a) := (World.cell?_of_block (hk2.block _ (by rw [ad_block]; exact HA.out))).trans E1.out
        clear h2 hk2 HB HP0
        go_wp2_with (at_builtin; refine stop3 ?_)
        refine ⟨?_⟩
        obtain ⟨w3, hw3⟩ : ∃ w3, (w2.alloc (.cells #[.int .u8 (j : Int)] 5)).alloc (.cells #[.int .u8 a, .slice (some ⟨w2.heap.size, 0, none⟩) 1 1] 31) = w3 := ⟨_, rfl⟩
        have hb3 : Below w2.heap.size w2 w3 := by rw [← hw3]; exact ((Below.refl _ _).alloc (Nat.le_refl _) _).alloc (by simp) _
        have HP3 := Lib.hid (HP2.out.below hb3)
        have HX3 : Hid (w3.heap[w2.heap.size + 1]? = some (.cells #[.int .u8 a, .slice (some ⟨w2.heap.size, 0, none⟩) 1 1] 31 (0, 0))) := Lib.hid (by rw [← hw3, ← World.size_alloc w2 (.cells #[.int .u8 (j : Int)] 5)]; exact alloc_block)
        have HY3 : Hid (Bts w3 (fun _ => True) (.slice (some ⟨w2.heap.size, 0, none⟩) 1 1) [(j : Int)]) := Lib.hid ((bts_lit w2 #[.int .u8 (j : Int)] [(j : Int)] (0, 0) 1 rfl rfl (by decide)).keep (by rw [← hw3]; exact (KeepU.refl _).alloc _) fun _ h => h)
        have hz3 : w3.heap.size = w2.heap.size + 2 := by rw [← hw3]; simp
        rw [hw3]
        clear hw3 hb3 HP2 e1'
        obtain ⟨it, hit, hz0, hz1, hz9⟩ := info_parts ltr_info
        refine wpList_append_own_at _ rfl _ _ 26 rfl w.heap.size 31 it _ 2 32 Try.underlying26 hit hz0 hz1 hz9 rfl (by decide) _ _ _ rfl HP3.out.own ⟨w2.heap.size + 1, 0, none⟩ 1 1 (lcl [(a, .slice (some ⟨w2.heap.size, 0, none⟩) 1 1)]) rfl rfl (fun q u hu => by rw [ad_head, cell_of_row _ _ _ _ _ _ HX3.out]; simpa [lcl] using hu) (fun u hu => by simp [lcl] at hu; rcases hu with rfl | rfl <;> rfl) (by unfold maxLen; omega) (by omega) HP3.out.old.size ?_
        intro v4 w4 ho4 hg4 _ hat4
        have hku : KeepU w3 w4 := KeepU.grown (Lrow.of_own HP3.out.own) hg4
        have HP4 := Lib.hid (HP3.out.more (Lets.one (a := a) (HY3.out.keep hku fun _ h => h)) ho4 hg4 hat4)
        obtain ⟨A4, c4, rfl, _, _⟩ := own_form ho4
        clear ho4 hg4 hat4 hku hit hz0 hz1 hz9 HP3 HX3 HY3
        go_wp2_with (fail)
        refine (live_len HP4.out.live).mono ?_
        rintro e w9 ⟨rfl, rfl⟩
        rw [show (st ++ [(a, [(j : Int)])]).length = st.length + 1 by simp]
        go_wp2_with (fail)
        go_roundw
        case rel =>
          have hl9 : (st ++ [(a, [(j : Int)])]).length = st.length + 1 := by simp
          have h19 : ∀ s ∈ st ++ [(a, [(j : Int)])], s.2.length ≤ 1 := fun s hs => by
            rcases List.mem_append.1 hs with h | h
            · exact H1.out s h
            · rw [List.mem_singleton] at h; rw [h]; exact Nat.le_refl _
          exact ⟨j + 1, st ++ [(a, [(j : Int)])], _, by omega, by go_num, ⟨A4, c4, by rw [hl9]⟩, by rw [hl9]; omega, h19, HP4⟩
        case measure => simp [intOf]; omega
      · skip
        have hja : ((j : Nat) : Int) % 256 = (j : Int) := by omega
        go_wp2_with (fail)
        have HB := Lib.hid (bts_lit wr #[.int .u8 (j : Int)] [(j : Int)] (0, 0) 1 rfl rfl (by decide))
        have HP0 := Lib.hid (HP.out.below (show Below wr.heap.size wr (wr.alloc (.cells #[.int .u8 (j : Int)] 5)) from (Below.refl _ _).alloc (Nat.le_refl _) _))
        refine (live_send HP0.out.live HP0.out.hN a HB.out (by show 1 ≤ 1000; decide)).mono ?_
        rintro e w2 ⟨rfl, h2⟩
        rw [send_short (by omega)] at h2
        have HP2 := Lib.hid (HP0.out.call h2)
        have hk2 := h2.live.old
        have e1' : w2.cell? (aa.add j) = some (.int .u8 a) := (World.cell?_of_block (hk2.block _ (by rw [ad_block]; exact HA.out))).trans E1.out
        clear h2 hk2 HB HP0
        go_wp2_with (at_builtin; refine stop3 ?_)
        refine ⟨?_⟩
        obtain ⟨w3, hw3⟩ : ∃ w3, (w2.alloc (.cells #[.int .u8 (j : Int)] 5)).alloc (.cells #[.int .u8 a, .slice (some ⟨w2.heap.size, 0, none⟩) 1 1] 31) = w3 := ⟨_, rfl⟩
        have hb3 : Below w2.heap.size w2 w3 := by rw [← hw3]; exact ((Below.refl _ _).alloc (Nat.le_refl _) _).alloc (by simp) _
        have HP3 := Lib.hid (HP2.out.below hb3)
        have HX3 : Hid (w3.heap[w2.heap.size + 1]? = some (.cells #[.int .u8 a, .slice (some ⟨w2.heap.size, 0, none⟩) 1 1] 31 (0, 0))) := Lib.hid (by rw [← hw3, ← World.size_alloc w2 (.cells #[.int .u8 (j : Int)] 5)]; exact alloc_block)
        have HY3 : Hid (Bts w3 (fun _ => True) (.slice (some ⟨w2.heap.size, 0, none⟩) 1 1) [(j : Int)]) := Lib.hid ((bts_lit w2 #[.int .u8 (j : Int)] [(j : Int)] (0, 0) 1 rfl rfl (by decide)).keep (by rw [← hw3]; exact (KeepU.refl _).alloc _) fun _ h => h)
        have hz3 : w3.heap.size = w2.heap.size + 2 := by rw [← hw3]; simp
        rw [hw3]
        clear hw3 hb3 HP2 e1'
        obtain ⟨it, hit, hz0, hz1, hz9⟩ := info_parts ltr_info
        refine wpList_append_own_at _ rfl _ _ 26 rfl w.heap.size 31 it _ 2 32 Try.underlying26 hit hz0 hz1 hz9 rfl (by decide) _ _ _ rfl HP3.out.own ⟨w2.heap.size + 1, 0, none⟩ 1 1 (lcl [(a, .slice (some ⟨w2.heap.size, 0, none⟩) 1 1)]) rfl rfl (fun q u hu => by rw [ad_head, cell_of_row _ _ _ _ _ _ HX3.out]; simpa [lcl] using hu) (fun u hu => by simp [lcl] at hu; rcases hu with rfl | rfl <;> rfl) (by unfold maxLen; omega) (by omega) HP3.out.old.size ?_
        intro v4 w4 ho4 hg4 _ hat4
        have hku : KeepU w3 w4 := KeepU.grown (Lrow.of_own HP3.out.own) hg4
        have HP4 := Lib.hid (HP3.out.more (Lets.one (a := a) (HY3.out.keep hku fun _ h => h)) ho4 hg4 hat4)
        obtain ⟨A4, c4, rfl, _, _⟩ := own_form ho4
        clear ho4 hg4 hat4 hku hit hz0 hz1 hz9 HP3 HX3 HY3
        go_wp2_with (fail)
        refine (live_len HP4.out.live).mono ?_
        rintro e w9 ⟨rfl, rfl⟩
        rw [show (st ++ [(a, [(j : Int)])]).length = st.length + 1 by simp]
        go_wp2_with (fail)
        go_roundw
        case rel =>
          have hl9 : (st ++ [(a, [(j : Int)])]).length = st.length + 1 := by simp
          have h19 : ∀ s ∈ st ++ [(a, [(j : Int)])], s.2.length ≤ 1 := fun s hs => by
            rcases List.mem_append.1 hs with h | h
            · exact H1.out s h
            · rw [List.mem_singleton] at h; rw [h]; exact Nat.le_refl _
          exact ⟨j + 1, st ++ [(a, [(j : Int)])], _, by omega, by go_num, ⟨A4, c4, by rw [hl9]⟩, by rw [hl9]; omega, h19, HP4⟩
        case measure => simp [intOf]; omega
      · skip
        obtain ⟨A8, c8, hc8⟩ := HP.out.live.cell
        rw [HN0.out] at hc8
        have HC8 := Lib.hid hc8
        clear hc8
        go_wp2_with (fail)
        refine (double_empty wr g A8 c8 t HC8.out).mono ?_
        rintro e w2 ⟨rfl, hb2⟩
        have HP2 := Lib.hid (HP.out.below hb2)
        clear hb2
        go_wp2_with (fail)
        refine (live_len HP2.out.live).mono ?_
        rintro e w9 ⟨rfl, rfl⟩
        skip
        go_wp2_with (fail)
        go_roundw
        case rel => exact ⟨j + 1, st, rs, by omega, by go_num, ⟨A9, c9, by first | rfl | rw [HN0.out]⟩, by (try rw [HN0.out]); omega, H1, HP2⟩
        case measure => simp [intOf]; omega
      · skip
        obtain ⟨A8, c8, hc8⟩ := HP.out.live.cell
        rw [HN0.out] at hc8
        have HC8 := Lib.hid hc8
        clear hc8
        go_wp2_with (fail)
        refine (lose_empty wr g A8 c8 t HC8.out).mono ?_
        rintro e w2 ⟨rfl, hb2⟩
        have HP2 := Lib.hid (HP.out.below hb2)
        clear hb2
        go_wp2_with (fail)
        refine (live_len HP2.out.live).mono ?_
        rintro e w9 ⟨rfl, rfl⟩
        skip
        go_wp2_with (fail)
        go_roundw
        case rel => exact ⟨j + 1, st, rs, by omega, by go_num, ⟨A9, c9, by first | rfl | rw [HN0.out]⟩, by (try rw [HN0.out]); omega, H1, HP2⟩
        case measure => simp [intOf]; omega
      · skip
        obtain ⟨A8, c8, hc8⟩ := HP.out.live.cell
        rw [HN0.out] at hc8
        have HC8 := Lib.hid hc8
        clear hc8
        go_wp2_with (fail)
        refine (take_empty wr g A8 c8 t HC8.out).mono ?_
        rintro e w2 ⟨rfl, hb2⟩
        unfold noLetter
        have HP1 := Lib.hid (HP.out.below hb2)
        clear hb2
        go_wp2_with (fail)
        have HP2 := Lib.hid (HP1.out.below (show Below w2.heap.size w2 (w2.alloc (.cells #[.int .u8 0, .slice none 0 0] 31)) from (Below.refl _ _).alloc (Nat.le_refl _) _))
        clear HP1
        go_quiet (fail)
        have HP2 := Lib.hid (HP2.out.below (Below.drewN' (Below.refl _ _) nq))
        go_wp2_with (fail)
        refine (live_len HP2.out.live).mono ?_
        rintro e w9 ⟨rfl, rfl⟩
        skip
        go_wp2_with (fail)
        go_roundw
        case rel => exact ⟨j + 1, st, rs, by omega, by go_num, ⟨A9, c9, by first | rfl | rw [HN0.out]⟩, by (try rw [HN0.out]); omega, H1, HP2⟩
        case measure => simp [intOf]; omega
    · have dz : decide (0 < st.length) = true := decide_eq_true (by omega)
      have hst0 : 0 < st.length := by omega
      have hsn : ((st.length : Int) == 0) = false := by rw [beq_eq_false_iff_ne]; omega
      obtain ⟨k, hk9⟩ : ∃ k, Pst.pl st.length t = k := ⟨_, rfl⟩
      have hkl : k < st.length := by rw [← hk9]; exact Pst.pl_lt _ _ hst0
      have HPL : Hid ((wrap64 (t.tmod st.length + st.length)).tmod st.length = (k : Nat)) := Lib.hid (by have := Pst.tmod_lt t st.length hst0; rw [IntWalk.wrap64_in _ (by omega), Pst.pl_eq _ _ hst0, hk9])
      obtain ⟨s, hs⟩ : ∃ s, st[k]? = some s := ⟨_, List.getElem?_eq_getElem hkl⟩
      have hs1 : s.2.length ≤ 1 := H1.out s (List.mem_of_getElem? hs)
      have HK := Lib.hid hk9
      have HS := Lib.hid hs
      have HN0 := Lib.hid hn0
      clear hk9 hs hn0
      go_upto_region 11 with fail
      rw [HPL.out]
      have hkJ : (k : Int) < (st.length : Int) := by omega
      have hk0 : (0 : Int) ≤ (k : Int) := by omega
      rcases show a % 5 = 0 ∨ a % 5 = 1 ∨ a % 5 = 2 ∨ a % 5 = 3 ∨ a % 5 = 4 by omega with hk | hk | hk | hk | hk
      · skip
        have hja : ((j : Nat) : Int) % 256 = (j : Int) := by omega
        go_wp2_with (fail)
        have HB := Lib.hid (bts_lit wr #[.int .u8 (j : Int)] [(j : Int)] (0, 0) 1 rfl rfl (by decide))
        have HP0 := Lib.hid (HP.out.below (show Below wr.heap.size wr (wr.alloc (.cells #[.int .u8 (j : Int)] 5)) from (Below.refl _ _).alloc (Nat.le_refl _) _))
        refine (live_send HP0.out.live HP0.out.hN a HB.out (by show 1 ≤ 1000; decide)).mono ?_
        rintro e w2 ⟨rfl, h2⟩
        rw [send_short (by omega)] at h2
        have HP2 := Lib.hid (HP0.out.call h2)
        have hk2 := h2.live.old
        have e1' : w2.cell? (aa.add j) = some (.int .u8 a) := (World.cell?_of_block (hk2.block _ (by rw [ad_block]; exact HA.out))).trans E1.out
        clear h2 hk2 HB HP0
        go_wp2_with (at_builtin; refine stop3 ?_)
        refine ⟨?_⟩
        obtain ⟨w3, hw3⟩ : ∃ w3, (w2.alloc (.cells #[.int .u8 (j : Int)] 5)).alloc (.cells #[.int .u8 a, .slice (some ⟨w2.heap.size, 0, none⟩) 1 1] 31) = w3 := ⟨_, rfl⟩
        have hb3 : Below w2.heap.size w2 w3 := by rw [← hw3]; exact ((Below.refl _ _).alloc (Nat.le_refl _) _).alloc (by simp) _
        have HP3 := Lib.hid (HP2.out.below hb3)
        have HX3 : Hid (w3.heap[w2.heap.size + 1]? = some (.cells #[.int .u8 a, .slice (some ⟨w2.heap.size, 0, none⟩) 1 1] 31 (0, 0))) := Lib.hid (by rw [← hw3, ← World.size_alloc w2 (.cells #[.int .u8 (j : Int)] 5)]; exact alloc_block)
        have HY3 : Hid (Bts w3 (fun _ => True) (.slice (some ⟨w2.heap.size, 0, none⟩) 1 1) [(j : Int)]) := Lib.hid ((bts_lit w2 #[.int .u8 (j : Int)] [(j : Int)] (0, 0) 1 rfl rfl (by decide)).keep (by rw [← hw3]; exact (KeepU.refl _).alloc _) fun _ h => h)
        have hz3 : w3.heap.size = w2.heap.size + 2 := by rw [← hw3]; simp
        rw [hw3]
        clear hw3 hb3 HP2 e1'
        obtain ⟨it, hit, hz0, hz1, hz9⟩ := info_parts ltr_info
        refine wpList_append_own_at _ rfl _ _ 26 rfl w.heap.size 31 it _ 2 32 Try.underlying26 hit hz0 hz1 hz9 rfl (by decide) _ _ _ rfl HP3.out.own ⟨w2.heap.size + 1, 0, none⟩ 1 1 (lcl [(a, .slice (some ⟨w2.heap.size, 0, none⟩) 1 1)]) rfl rfl (fun q u hu => by rw [ad_head, cell_of_row _ _ _ _ _ _ HX3.out]; simpa [lcl] using hu) (fun u hu => by simp [lcl] at hu; rcases hu with rfl | rfl <;> rfl) (by unfold maxLen; omega) (by omega) HP3.out.old.size ?_
        intro v4 w4 ho4 hg4 _ hat4
        have hku : KeepU w3 w4 := KeepU.grown (Lrow.of_own HP3.out.own) hg4
        have HP4 := Lib.hid (HP3.out.more (Lets.one (a := a) (HY3.out.keep hku fun _ h => h)) ho4 hg4 hat4)
        obtain ⟨A4, c4, rfl, _, _⟩ := own_form ho4
        clear ho4 hg4 hat4 hku hit hz0 hz1 hz9 HP3 HX3 HY3
        go_wp2_with (fail)
        refine (live_len HP4.out.live).mono ?_
        rintro e w9 ⟨rfl, rfl⟩
        rw [show (st ++ [(a, [(j : Int)])]).length = st.length + 1 by simp]
        go_wp2_with (fail)
        go_roundw
        case rel =>
          have hl9 : (st ++ [(a, [(j : Int)])]).length = st.length + 1 := by simp
          have h19 : ∀ s ∈ st ++ [(a, [(j : Int)])], s.2.length ≤ 1 := fun s hs => by
            rcases List.mem_append.1 hs with h | h
            · exact H1.out s h
            · rw [List.mem_singleton] at h; rw [h]; exact Nat.le_refl _
          exact ⟨j + 1, st ++ [(a, [(j : Int)])], _, by omega, by go_num, ⟨A4, c4, by rw [hl9]⟩, by rw [hl9]; omega, h19, HP4⟩
        case measure => simp [intOf]; omega
      · skip
        have hja : ((j : Nat) : Int) % 256 = (j : Int) := by omega
        go_wp2_with (fail)
        have HB := Lib.hid (bts_lit wr #[.int .u8 (j : Int)] [(j : Int)] (0, 0) 1 rfl rfl (by decide))
        have HP0 := Lib.hid (HP.out.below (show Below wr.heap.size wr (wr.alloc (.cells #[.int .u8 (j : Int)] 5)) from (Below.refl _ _).alloc (Nat.le_refl _) _))
        refine (live_send HP0.out.live HP0.out.hN a HB.out (by show 1 ≤ 1000; decide)).mono ?_
        rintro e w2 ⟨rfl, h2⟩
        rw [send_short (by omega)] at h2
        have HP2 := Lib.hid (HP0.out.call h2)
        have hk2 := h2.live.old
        have e1' : w2.cell? (aa.add j) = some (.int .u8 a) := (World.cell?_of_block (hk2.block _ (by rw [ad_block]; exact HA.out))).trans E1.out
        clear h2 hk2 HB HP0
        go_wp2_with (at_builtin; refine stop3 ?_)
        refine ⟨?_⟩
        obtain ⟨w3, hw3⟩ : ∃ w3, (w2.alloc (.cells #[.int .u8 (j : Int)] 5)).alloc (.cells #[.int .u8 a, .slice (some ⟨w2.heap.size, 0, none⟩) 1 1] 31) = w3 := ⟨_, rfl⟩
        have hb3 : Below w2.heap.size w2 w3 := by rw [← hw3]; exact ((Below.refl _ _).alloc (Nat.le_refl _) _).alloc (by simp) _
        have HP3 := Lib.hid (HP2.out.below hb3)
        have HX3 : Hid (w3.heap[w2.heap.size + 1]? = some (.cells #[.int .u8 a, .slice (some ⟨w2.heap.size, 0, none⟩) 1 1] 31 (0, 0))) := Lib.hid (by rw [← hw3, ← World.size_alloc w2 (.cells #[.int .u8 (j : Int)] 5)]; exact alloc_block)
        have HY3 : Hid (Bts w3 (fun _ => True) (.slice (some ⟨w2.heap.size, 0, none⟩) 1 1) [(j : Int)]) := Lib.hid ((bts_lit w2 #[.int .u8 (j : Int)] [(j : Int)] (0, 0) 1 rfl rfl (by decide)).keep (by rw [← hw3]; exact (KeepU.refl _).alloc _) fun _ h => h)
        have hz3 : w3.heap.size = w2.heap.size + 2 := by rw [← hw3]; simp
        rw [hw3]
        clear hw3 hb3 HP2 e1'
        obtain ⟨it, hit, hz0, hz1, hz9⟩ := info_parts ltr_info
        refine wpList_append_own_at _ rfl _ _ 26 rfl w.heap.size 31 it _ 2 32 Try.underlying26 hit hz0 hz1 hz9 rfl (by decide) _ _ _ rfl HP3.out.own ⟨w2.heap.size + 1, 0, none⟩ 1 1 (lcl [(a, .slice (some ⟨w2.heap.size, 0, none⟩) 1 1)]) rfl rfl (fun q u hu => by rw [ad_head, cell_of_row _ _ _ _ _ _ HX3.out]; simpa [lcl] using hu) (fun u hu => by simp [lcl] at hu; rcases hu with rfl | rfl <;> rfl) (by unfold maxLen; omega) (by omega) HP3.out.old.size ?_
        intro v4 w4 ho4 hg4 _ hat4
        have hku : KeepU w3 w4 := KeepU.grown (Lrow.of_own HP3.out.own) hg4
        have HP4 := Lib.hid (HP3.out.more (Lets.one (a := a) (HY3.out.keep hku fun _ h => h)) ho4 hg4 hat4)
        obtain ⟨A4, c4, rfl, _, _⟩ := own_form ho4
        clear ho4 hg4 hat4 hku hit hz0 hz1 hz9 HP3 HX3 HY3
        go_wp2_with (fail)
        refine (live_len HP4.out.live).mono ?_
        rintro e w9 ⟨rfl, rfl⟩
        rw [show (st ++ [(a, [(j : Int)])]).length = st.length + 1 by simp]
        go_wp2_with (fail)
        go_roundw
        case rel =>
          have hl9 : (st ++ [(a, [(j : Int)])]).length = st.length + 1 := by simp
          have h19 : ∀ s ∈ st ++ [(a, [(j : Int)])], s.2.length ≤ 1 := fun s hs => by
            rcases List.mem_append.1 hs with h | h
            · exact H1.out s h
            · rw [List.mem_singleton] at h; rw [h]; exact Nat.le_refl _
          exact ⟨j + 1, st ++ [(a, [(j : Int)])], _, by omega, by go_num, ⟨A4, c4, by rw [hl9]⟩, by rw [hl9]; omega, h19, HP4⟩
        case measure => simp [intOf]; omega
      · skip
        go_wp2_with (fail)
        refine (live_double HP.out.live HP.out.hN t hst0 (by rw [HK.out]; exact HS.out) (by omega)).mono ?_
        rintro e w2 ⟨rfl, h2⟩
        rw [send_short (by omega)] at h2
        have HP2 := Lib.hid (HP.out.call h2)
        clear h2
        go_wp2_with (fail)
        obtain ⟨b, cap, cur, hv9, hb9, hnc9, hcm9, _, _⟩ := (Lrow.of_own HP2.out.own).some_ hst0
        obtain ⟨hA9, hc9⟩ : A9 = some ⟨b, 0, none⟩ ∧ c9 = cap := by injection hv9 with h3 _ h4; exact ⟨h3, h4⟩
        subst hA9
        subst hc9
        obtain ⟨u, hu, hbu⟩ := HP2.out.lets.at_ HS.out
        have HU := Lib.hid hu
        have HBU := Lib.hid hbu
        obtain ⟨Au, cu, hue, _, _, _⟩ := hbu.rd
        try dsimp only at hue hu hbu
        subst hue
        have hrow : ∀ q x, (lcl rs)[q]? = some x → w2.cell? ⟨b, q, none⟩ = some x := fun q x hx => (Lrow.of_own HP2.out.own).cell rfl q x hx
        have HROW := Lib.hid hrow
        have hra : w2.rangeAt b (k * 2) [.int .u8 s.1, .slice Au s.2.length cu] := fun q x hx => by
          have h9 := lcl_at hu
          match q, hx with
          | 0, hx => simp at hx; subst hx; exact hrow _ _ h9.1
          | 1, hx => simp at hx; subst hx; exact hrow _ _ h9.2
        have HRA := Lib.hid hra
        have hbl : b < w2.heap.size := (Array.getElem?_eq_some_iff.1 hb9).1
        have HLR : Hid ((lcl rs).length = st.length * 2) := Lib.hid HP2.out.own.1
        have HOC : Hid (∀ x ∈ lcl rs, x.oneCell' = true) := Lib.hid HP2.out.lets.one_cell
        have HRL : Hid (rs.length = st.length) := Lib.hid HP2.out.lets.1
        clear hv9 hb9 hu hbu hrow hra
        obtain ⟨it, hit, hz0, hz1, hz9⟩ := info_parts ltr_info
        apply region_frame5v (fun _ _ v w' => Below w2.heap.size w2 w' ∧ w'.ownsRow w2.heap.size 31 2 v (st.length + 1) (lcl rs ++ lcl [(s.1, Value.slice Au s.2.length cu)]))
        · refine lane_start (ord := [0, 2, 3, 4, 5, 1, 6, 7, 8]) (S := fun w' => w'.rangeAt b (k * 2) [.int .u8 s.1, .slice Au s.2.length cu]) rfl (by kernel_rfl) (by exact HRA.out) (fun hHeld => ?_)
          refine lane_take (v := ?_) rfl (by kernel_rfl) (by kernel_rfl) (by rfl) ?_ (by exact hHeld) ?_
          rotate_left
          focus (intro W hSw; go_simp; (try (with_reducible rfl)); done)
          simp only [Act.put, List.setIfInBounds_toArray, List.set_cons_zero, List.set_cons_succ]
          refine lane_take (v := ?_) rfl (by kernel_rfl) (by kernel_rfl) (by rfl) ?_ (by exact hHeld) ?_
          rotate_left
          focus (intro W hSw; go_simp; (try (with_reducible rfl)); done)
          simp only [Act.put, List.setIfInBounds_toArray, List.set_cons_zero, List.set_cons_succ]
          refine lane_take (v := ?_) rfl (by kernel_rfl) (by kernel_rfl) (by rfl) ?_ (by exact hHeld) ?_
          rotate_left
          focus (intro W hSw; go_simp; (try (with_reducible rfl)); done)
          simp only [Act.put, List.setIfInBounds_toArray, List.set_cons_zero, List.set_cons_succ]
          refine lane_take (v := ?_) rfl (by kernel_rfl) (by kernel_rfl) (by rfl) ?_ (by exact hHeld) ?_
          rotate_left
          focus (intro W hSw; go_simp; (try (with_reducible rfl)); done)
          simp only [Act.put, List.setIfInBounds_toArray, List.set_cons_zero, List.set_cons_succ]
          refine lane_take (v := .agg #[.int .u8 s.1, .slice Au s.2.length cu]) rfl (by kernel_rfl) (by kernel_rfl) (by rfl) (fun W hSw => exec_load rfl rfl (run_loadAt_mid (P := Try.prog) W b (k * 2) 31 _ _ hSw Try.underlying31 rfl ltr_size)) (by exact hHeld) ?_
          simp only [Act.put, List.setIfInBounds_toArray, List.set_cons_zero, List.set_cons_succ]
          refine lane_two (i := 1) (j := 6) (ordI := [6, 7, 8]) (ordJ := [1, 7, 8]) rfl rfl (by kernel_rfl) rfl (by rfl) (by rfl) (fun K hK => ?_) (fun K hK => ?_)
          · skip
            obtain ⟨v5, w5, hrun, how5, hgw5, _, _⟩ := run_append_own_at (P := Try.prog) (w := w2.drew) w2.heap.size 26 26 31 it _ 2 32 Try.underlying26 hit hz0 hz1 hz9 rfl (by decide) (.slice none 0 0) 0 [] (World.ownsRow_nil _ _ _ _) ⟨b, 0, none⟩ st.length c9 (lcl rs) HLR.out (fun q x hx => by rw [ad_head]; exact HROW.out q x hx) HOC.out (by unfold maxLen; omega) (by omega) (Nat.le_refl _)
            refine wp_of_value (exec_append rfl rfl rfl hrun) ?_
            have HB5 : Hid (Below w2.heap.size w2 w5) := Lib.hid ⟨hgw5.os, hgw5.tape, hgw5.output, hgw5.size, fun i hi => hgw5.block i hi (by simp [Value.ownBlock])⟩
            have hS5 : w5.rangeAt b (k * 2) [.int .u8 s.1, .slice Au s.2.length cu] := fun q x hx => (World.cell?_of_block (a := ⟨b, k * 2 + q, none⟩) (HB5.out.block b hbl)).trans (HRA.out q x hx)
            refine hK _ _ hS5 (fun _ => ?_)
            clear hK K hrun
            (try simp only [Act.put, List.setIfInBounds_toArray, List.set_cons_zero, List.set_cons_succ])
            refine lane_alone rfl (by kernel_rfl) (by rfl) (fun K hK => ?_)
            go_simp
            obtain ⟨w6, hw6⟩ : ∃ w6, w5.alloc (.cells #[.int .u8 s.1, .slice Au s.2.length cu] 31) = w6 := ⟨_, rfl⟩
            have hb6 : Below w5.heap.size w5 w6 := by rw [← hw6]; exact (Below.refl _ _).alloc (Nat.le_refl _) _
            have HN6 : Hid (w6.heap[w5.heap.size]? = some (.cells #[.int .u8 s.1, .slice Au s.2.length cu] 31 (0, 0))) := Lib.hid (by rw [← hw6]; exact alloc_block)
            rw [hw6]
            obtain ⟨Z, hZe⟩ : ∃ Z, w5.heap.size = Z := ⟨_, rfl⟩
            rw [hZe] at HN6 ⊢
            clear hZe
            have HBL : Hid (Below w2.heap.size w2 w6) := Lib.hid (HB5.out.trans (hb6.mono HB5.out.size))
            have how5b : w6.ownsRow w2.heap.size 31 2 v5 (0 + st.length) ([] ++ lcl rs) := own_kept how5 fun i hi => hb6.block i (how5.lt i hi).2
            have hS6 : w6.rangeAt b (k * 2) [.int .u8 s.1, .slice Au s.2.length cu] := fun q x hx => (World.cell?_of_block (a := ⟨b, k * 2 + q, none⟩) (HBL.out.block b hbl)).trans (HRA.out q x hx)
            refine hK _ _ hS6 (fun _ => ?_)
            clear hK K hw6
            (try simp only [Act.put, List.setIfInBounds_toArray, List.set_cons_zero, List.set_cons_succ])
            have hz26 := HBL.out.size
            refine lane_alone rfl (by kernel_rfl) (by rfl) (fun K hK => ?_)
            obtain ⟨v7, w7, hrun, how7, hgw7, _, _⟩ := run_append_own_at (P := Try.prog) (w := w6) w2.heap.size 26 26 31 it _ 2 32 Try.underlying26 hit hz0 hz1 hz9 rfl (by decide) v5 (0 + st.length) ([] ++ lcl rs) how5b ⟨Z, 0, none⟩ 1 1 (lcl [(s.1, Value.slice Au s.2.length cu)]) rfl (fun q x hx => by rw [ad_head, cell_of_row _ _ _ _ _ _ HN6.out]; simpa [lcl] using hx) (fun x hx => by simp [lcl] at hx; rcases hx with rfl | rfl <;> rfl) (by unfold maxLen; omega) (by omega) (by omega)
            refine wp_of_value (exec_append rfl rfl rfl hrun) ?_
            have hS7 : w7.rangeAt b (k * 2) [.int .u8 s.1, .slice Au s.2.length cu] := fun q x hx => (World.cell?_of_block (a := ⟨b, k * 2 + q, none⟩) (hgw7.block b (by omega) fun e => by have := (how5b.lt b e.symm).1; omega)).trans (hS6 q x hx)
            refine hK _ _ hS7 (fun _ => ?_)
            clear hK K hrun
            (try simp only [Act.put, List.setIfInBounds_toArray, List.set_cons_zero, List.set_cons_succ])
            refine lane_take (v := ?_) rfl (by kernel_rfl) (by kernel_rfl) (by rfl) ?_ (by exact hS7) ?_
            rotate_left
            focus (intro W hSw; go_simp; (try (with_reducible rfl)); done)
            simp only [Act.put, List.setIfInBounds_toArray, List.set_cons_zero, List.set_cons_succ]
            have hzw : w6.heap.size ≤ w7.heap.size := hgw7.size
            refine lane_end (by kernel_rfl) ?_
            exact ⟨rfl, v5, Z, v7, rfl, HBL.out.trans ⟨hgw7.os, hgw7.tape, hgw7.output, hgw7.size, fun i hi => hgw7.block i (by have := HBL.out.size; omega) fun e => by have := (how5b.lt i e.symm).1; omega⟩, by have h9 := how7; rw [Nat.zero_add] at h9; exact h9⟩
          · skip
            go_simp
            obtain ⟨w5, hw5⟩ : ∃ w5, (w2.alloc (.cells #[.int .u8 s.1, .slice Au s.2.length cu] 31)).drew = w5 := ⟨_, rfl⟩
            have HB5 : Hid (Below w2.heap.size w2 w5) := Lib.hid (by rw [← hw5]; exact Below.drew ((Below.refl _ _).alloc (Nat.le_refl _) _))
            have HN5 : Hid (w5.heap[w2.heap.size]? = some (.cells #[.int .u8 s.1, .slice Au s.2.length cu] 31 (0, 0))) := Lib.hid (by rw [← hw5]; exact alloc_block (w := w2))
            have hz5 : w5.heap.size = w2.heap.size + 1 := by rw [← hw5]; exact World.size_alloc ..
            rw [hw5]
            obtain ⟨Z, hZe⟩ : ∃ Z, w2.heap.size = Z := ⟨_, rfl⟩
            rw [hZe] at HN5 ⊢
            have hS5 : w5.rangeAt b (k * 2) [.int .u8 s.1, .slice Au s.2.length cu] := fun q x hx => (World.cell?_of_block (a := ⟨b, k * 2 + q, none⟩) (HB5.out.block b hbl)).trans (HRA.out q x hx)
            refine hK _ _ hS5 (fun _ => ?_)
            clear hK K hw5
            (try simp only [Act.put, List.setIfInBounds_toArray, List.set_cons_zero, List.set_cons_succ])
            refine lane_alone rfl (by kernel_rfl) (by rfl) (fun K hK => ?_)
            obtain ⟨v5, w6, hrun, how5b, hgw5, _, hat5⟩ := run_append_own_at (P := Try.prog) (w := w5) w2.heap.size 26 26 31 it _ 2 32 Try.underlying26 hit hz0 hz1 hz9 rfl (by decide) (.slice none 0 0) 0 [] (World.ownsRow_nil _ _ _ _) ⟨b, 0, none⟩ st.length c9 (lcl rs) HLR.out (fun q x hx => by rw [ad_head]; exact (World.cell?_of_block (a := ⟨b, q, none⟩) (HB5.out.block b hbl)).trans (HROW.out q x hx)) HOC.out (by unfold maxLen; omega) (by omega) (by omega)
            refine wp_of_value (exec_append rfl rfl rfl hrun) ?_
            have hb6 : Below w5.heap.size w5 w6 := ⟨hgw5.os, hgw5.tape, hgw5.output, hgw5.size, fun i hi => hgw5.block i hi (by simp [Value.ownBlock])⟩
            have HBL : Hid (Below w2.heap.size w2 w6) := Lib.hid (HB5.out.trans (hb6.mono HB5.out.size))
            have HN6 : Hid (w6.heap[Z]? = some (.cells #[.int .u8 s.1, .slice Au s.2.length cu] 31 (0, 0))) := Lib.hid (below_block hb6 HN5.out)
            have hS6 : w6.rangeAt b (k * 2) [.int .u8 s.1, .slice Au s.2.length cu] := fun q x hx => (World.cell?_of_block (a := ⟨b, k * 2 + q, none⟩) (HBL.out.block b hbl)).trans (HRA.out q x hx)
            refine hK _ _ hS6 (fun _ => ?_)
            clear hK K hrun
            (try simp only [Act.put, List.setIfInBounds_toArray, List.set_cons_zero, List.set_cons_succ])
            have hz26 := HBL.out.size
            refine lane_alone rfl (by kernel_rfl) (by rfl) (fun K hK => ?_)
            obtain ⟨v7, w7, hrun, how7, hgw7, _, _⟩ := run_append_own_at (P := Try.prog) (w := w6) w2.heap.size 26 26 31 it _ 2 32 Try.underlying26 hit hz0 hz1 hz9 rfl (by decide) v5 (0 + st.length) ([] ++ lcl rs) how5b ⟨Z, 0, none⟩ 1 1 (lcl [(s.1, Value.slice Au s.2.length cu)]) rfl (fun q x hx => by rw [ad_head, cell_of_row _ _ _ _ _ _ HN6.out]; simpa [lcl] using hx) (fun x hx => by simp [lcl] at hx; rcases hx with rfl | rfl <;> rfl) (by unfold maxLen; omega) (by omega) (by omega)
            refine wp_of_value (exec_append rfl rfl rfl hrun) ?_
            have hS7 : w7.rangeAt b (k * 2) [.int .u8 s.1, .slice Au s.2.length cu] := fun q x hx => (World.cell?_of_block (a := ⟨b, k * 2 + q, none⟩) (hgw7.block b (by omega) fun e => by have := (how5b.lt b e.symm).1; omega)).trans (hS6 q x hx)
            refine hK _ _ hS7 (fun _ => ?_)
            clear hK K hrun
            (try simp only [Act.put, List.setIfInBounds_toArray, List.set_cons_zero, List.set_cons_succ])
            refine lane_take (v := ?_) rfl (by kernel_rfl) (by kernel_rfl) (by rfl) ?_ (by exact hS7) ?_
            rotate_left
            focus (intro W hSw; go_simp; (try (with_reducible rfl)); done)
            simp only [Act.put, List.setIfInBounds_toArray, List.set_cons_zero, List.set_cons_succ]
            have hzw : w6.heap.size ≤ w7.heap.size := hgw7.size
            refine lane_end (by kernel_rfl) ?_
            exact ⟨rfl, v5, Z, v7, rfl, HBL.out.trans ⟨hgw7.os, hgw7.tape, hgw7.output, hgw7.size, fun i hi => hgw7.block i (by have := HBL.out.size; omega) fun e => by have := (how5b.lt i e.symm).1; omega⟩, by have h9 := how7; rw [Nat.zero_add] at h9; exact h9⟩
        intro _ _ v3 w3 ⟨hb3, ho3⟩
        obtain ⟨A3, c3, rfl, _, _⟩ := own_form ho3
        have hl9 : (st ++ [s]).length = st.length + 1 := by simp
        have HP3 : Hid (PR w g (st ++ [s]) (st ++ [s]) (.slice A3 (st.length + 1) c3) (rs ++ [(s.1, Value.slice Au s.2.length cu)]) w3) := Lib.hid (HP2.out.fresh hb3 ((HP2.out.lets.append (Lets.one (a := s.1) HBU.out)).keep (KeepU.below hb3) fun _ h => h) (by rw [hl9, lcl_append]; exact ho3))
        have h19 : ∀ x ∈ st ++ [s], x.2.length ≤ 1 := fun x hx => by
          rcases List.mem_append.1 hx with h | h
          · exact H1.out x h
          · rw [List.mem_singleton] at h; rw [h]; exact hs1
        have HL9 := Lib.hid hl9
        have H19 := Lib.hid h19
        clear ho3 hb3 hl9 h19
        go_wp2_with (fail)
        refine (live_len HP3.out.live).mono ?_
        rintro e w9 ⟨rfl, rfl⟩
        rw [HL9.out]
        go_wp2_with (fail)
        go_roundw
        case rel => exact ⟨j + 1, st ++ [s], _, by omega, by go_num, ⟨A3, c3, by first | rfl | rw [HL9.out]⟩, by (try rw [HL9.out]); omega, H19, HP3⟩
        case measure => simp [intOf]; omega
      · skip
        go_wp2_with (fail)
        refine (live_lose HP.out.live HP.out.hN t hst0 (by rw [HK.out]; exact HS.out)).mono ?_
        rintro e w2 ⟨rfl, h2⟩
        rw [HK.out] at h2
        have HP2 := Lib.hid (HP.out.call h2)
        clear h2
        go_wp2_with (fail)
        obtain ⟨b, cap, cur, hv9, hb9, hnc9, hcm9, _, _⟩ := (Lrow.of_own HP2.out.own).some_ hst0
        obtain ⟨hA9, hc9⟩ : A9 = some ⟨b, 0, none⟩ ∧ c9 = cap := by injection hv9 with h3 _ h4; exact ⟨h3, h4⟩
        subst hA9
        subst hc9
        obtain ⟨u, hu, hbu⟩ := HP2.out.lets.at_ HS.out
        have HU := Lib.hid hu
        have HBU := Lib.hid hbu
        obtain ⟨Au, cu, hue, _, _, _⟩ := hbu.rd
        try dsimp only at hue hu hbu
        subst hue
        have hrow : ∀ q x, (lcl rs)[q]? = some x → w2.cell? ⟨b, q, none⟩ = some x := fun q x hx => (Lrow.of_own HP2.out.own).cell rfl q x hx
        have HROW := Lib.hid hrow
        have hra : w2.rangeAt b (k * 2) [.int .u8 s.1, .slice Au s.2.length cu] := fun q x hx => by
          have h9 := lcl_at hu
          match q, hx with
          | 0, hx => simp at hx; subst hx; exact hrow _ _ h9.1
          | 1, hx => simp at hx; subst hx; exact hrow _ _ h9.2
        have HRA := Lib.hid hra
        have hbl : b < w2.heap.size := (Array.getElem?_eq_some_iff.1 hb9).1
        have HLR : Hid ((lcl rs).length = st.length * 2) := Lib.hid HP2.out.own.1
        have HOC : Hid (∀ x ∈ lcl rs, x.oneCell' = true) := Lib.hid HP2.out.lets.one_cell
        have HRL : Hid (rs.length = st.length) := Lib.hid HP2.out.lets.1
        clear hv9 hb9 hu hbu hrow hra
        obtain ⟨it, hit, hz0, hz1, hz9⟩ := info_parts ltr_info
        have hk1 : IntKind.i64.wrap ((k : Int) + 1) = (k : Int) + 1 := IntWalk.i64_in _ (by omega)
        have hk2 : (0 : Int) ≤ (k : Int) + 1 := by omega
        have hk3 : ((k : Int) + 1).toNat = k + 1 := by omega
        have hk4 : (k : Int) + 1 ≤ (st.length : Int) := by omega
        have hk5 : (k : Int) ≤ (c9 : Int) := by omega
        have hk6 : (st.length : Int) ≤ (c9 : Int) := by omega
        have HL1 : Hid ((lcl (rs.take k)).length = k * 2) := Lib.hid (by rw [lcl_take, List.length_take, HLR.out, Nat.min_eq_left (by omega)])
        have HL2 : Hid ((lcl (rs.drop (k + 1))).length = (st.length - (k + 1)) * 2) := Lib.hid (by rw [lcl_drop, List.length_drop, HLR.out]; omega)
        have HC1 : Hid (∀ q x, (lcl (rs.take k))[q]? = some x → w2.cell? ⟨b, q, none⟩ = some x) := Lib.hid fun q x hx => by
          rw [lcl_take, List.getElem?_take] at hx
          split at hx
          · exact HROW.out q x hx
          · cases hx
        have HC2 : Hid (∀ q x, (lcl (rs.drop (k + 1)))[q]? = some x → w2.cell? ⟨b, (k + 1) * 2 + q, none⟩ = some x) := Lib.hid fun q x hx => by
          rw [lcl_drop, List.getElem?_drop] at hx
          exact HROW.out _ x hx
        have HO1 : Hid (∀ x ∈ lcl (rs.take k), x.oneCell' = true) := Lib.hid (HP2.out.lets.take k).one_cell
        have HO2 : Hid (∀ x ∈ lcl (rs.drop (k + 1)), x.oneCell' = true) := Lib.hid (HP2.out.lets.drop (k + 1)).one_cell
        by_cases hcap : c9 = k + 1
        · have hk7 : (k : Int) ≤ (k : Int) + 1 := by omega
          have hk8 : (st.length : Int) ≤ (k : Int) + 1 := by omega
          apply region_frame5v (fun _ _ v w' => Below w2.heap.size w2 w' ∧ w'.ownsRow w2.heap.size 31 2 v (k + (st.length - (k + 1))) (lcl (rs.take k) ++ lcl (rs.drop (k + 1))))
          · refine lane_start (ord := [0, 1, 2, 4, 5, 6, 7, 3, 8, 9]) (S := fun _ => True) rfl (by kernel_rfl) trivial (fun hHeld => ?_)
            refine lane_take (v := ?_) rfl (by kernel_rfl) (by kernel_rfl) (by rfl) ?_ (by exact hHeld) ?_
            rotate_left
            focus (intro W hSw; go_simp; (try (with_reducible rfl)); done)
            simp only [Act.put, List.setIfInBounds_toArray, List.set_cons_zero, List.set_cons_succ]
            refine lane_take (v := ?_) rfl (by kernel_rfl) (by kernel_rfl) (by rfl) ?_ (by exact hHeld) ?_
            rotate_left
            focus (intro W hSw; go_simp; (try (with_reducible rfl)); done)
            simp only [Act.put, List.setIfInBounds_toArray, List.set_cons_zero, List.set_cons_succ]
            refine lane_take (v := ?_) rfl (by kernel_rfl) (by kernel_rfl) (by rfl) ?_ (by exact hHeld) ?_
            rotate_left
            focus (intro W hSw; go_simp; (try (with_reducible rfl)); done)
            simp only [Act.put, List.setIfInBounds_toArray, List.set_cons_zero, List.set_cons_succ]
            refine lane_take (v := ?_) rfl (by kernel_rfl) (by kernel_rfl) (by rfl) ?_ (by exact hHeld) ?_
            rotate_left
            focus (intro W hSw; go_simp; (try (with_reducible rfl)); done)
            simp only [Act.put, List.setIfInBounds_toArray, List.set_cons_zero, List.set_cons_succ]
            refine lane_take (v := ?_) rfl (by kernel_rfl) (by kernel_rfl) (by rfl) ?_ (by exact hHeld) ?_
            rotate_left
            focus (intro W hSw; go_simp; (try (with_reducible rfl)); done)
            simp only [Act.put, List.setIfInBounds_toArray, List.set_cons_zero, List.set_cons_succ]
            refine lane_take (v := ?_) rfl (by kernel_rfl) (by kernel_rfl) (by rfl) ?_ (by exact hHeld) ?_
            rotate_left
            focus (intro W hSw; go_simp; (try (with_reducible rfl)); done)
            simp only [Act.put, List.setIfInBounds_toArray, List.set_cons_zero, List.set_cons_succ]
            refine lane_take (v := ?_) rfl (by kernel_rfl) (by kernel_rfl) (by rfl) ?_ (by exact hHeld) ?_
            rotate_left
            focus (intro W hSw; go_simp; (try (with_reducible rfl)); done)
            simp only [Act.put, List.setIfInBounds_toArray, List.set_cons_zero, List.set_cons_succ]
            refine lane_alone rfl (by kernel_rfl) (by rfl) (fun K hK => ?_)
            obtain ⟨v5, w5, hrun, how5, hgw5, _, _⟩ := run_append_own_at (P := Try.prog) (w := w2.drew) w2.heap.size 26 26 31 it _ 2 32 Try.underlying26 hit hz0 hz1 hz9 rfl (by decide) (.slice none 0 0) 0 [] (World.ownsRow_nil _ _ _ _) ⟨b, 0, none⟩ k (k + 1) (lcl (rs.take k)) HL1.out (fun q x hx => by rw [ad_head]; exact HC1.out q x hx) HO1.out (by unfold maxLen; omega) (by omega) (Nat.le_refl _)
            refine wp_of_value (exec_append rfl rfl rfl hrun) ?_
            have HB5 : Hid (Below w2.heap.size w2 w5) := Lib.hid ⟨hgw5.os, hgw5.tape, hgw5.output, hgw5.size, fun i hi => hgw5.block i hi (by simp [Value.ownBlock])⟩
            refine hK _ _ trivial (fun _ => ?_)
            clear hK K hrun
            (try simp only [Act.put, List.setIfInBounds_toArray, List.set_cons_zero, List.set_cons_succ])
            have hz25 := HB5.out.size
            refine lane_alone rfl (by kernel_rfl) (by rfl) (fun K hK => ?_)
            obtain ⟨v7, w7, hrun, how7, hgw7, _, _⟩ := run_append_own_at (P := Try.prog) (w := w5) w2.heap.size 26 26 31 it _ 2 32 Try.underlying26 hit hz0 hz1 hz9 rfl (by decide) v5 (0 + k) ([] ++ lcl (rs.take k)) how5 ⟨b, 0, none⟩ (st.length - (k + 1)) 0 (lcl (rs.drop (k + 1))) HL2.out (fun q x hx => absurd hx (by rw [show lcl (rs.drop (k + 1)) = [] from List.eq_nil_of_length_eq_zero (by have := HL2.out; omega)]; simp)) HO2.out (by unfold maxLen; omega) (by omega) (by omega)
            refine wp_of_value (exec_append rfl rfl rfl hrun) ?_
            refine hK _ _ trivial (fun _ => ?_)
            clear hK K hrun
            (try simp only [Act.put, List.setIfInBounds_toArray, List.set_cons_zero, List.set_cons_succ])
            refine lane_take (v := ?_) rfl (by kernel_rfl) (by kernel_rfl) (by rfl) ?_ (by exact trivial) ?_
            rotate_left
            focus (intro W hSw; go_simp; (try (with_reducible rfl)); done)
            simp only [Act.put, List.setIfInBounds_toArray, List.set_cons_zero, List.set_cons_succ]
            refine lane_end (by kernel_rfl) ?_
            obtain ⟨Z, _⟩ : ∃ Z : Nat, Z = 0 := ⟨_, rfl⟩
            exact ⟨rfl, v5, Z, v7, rfl, HB5.out.trans ⟨hgw7.os, hgw7.tape, hgw7.output, hgw7.size, fun i hi => hgw7.block i (by omega) fun e => by have := (how5.lt i e.symm).1; omega⟩, by have h9 := how7; rw [Nat.zero_add] at h9; exact h9⟩
          intro _ _ v3 w3 ⟨hb3, ho3⟩
          obtain ⟨A3, c3, rfl, _, _⟩ := own_form ho3
          obtain ⟨m, hm9⟩ : ∃ m, k + (st.length - (k + 1)) = m := ⟨_, rfl⟩
          have hml : m ≤ j := by omega
          have hl9 : (Pst.out st k).length = m := by rw [Pst.out_len hkl]; omega
          rw [hm9] at ho3 ⊢
          have HP3 : Hid (PR w g (Pst.out st k) (Pst.out st k) (.slice A3 m c3) (rs.take k ++ rs.drop (k + 1)) w3) := Lib.hid (HP2.out.fresh hb3 (((HP2.out.lets.take k).append (HP2.out.lets.drop (k + 1))).keep (KeepU.below hb3) fun _ h => h) (by show w3.ownsRow _ _ _ _ (Pst.out st k).length _; rw [hl9, lcl_append]; exact ho3))
          have h19 : ∀ x ∈ Pst.out st k, x.2.length ≤ 1 := fun x hx => by
            rcases List.mem_append.1 hx with h | h
            · exact H1.out x (List.mem_of_mem_take h)
            · exact H1.out x (List.mem_of_mem_drop h)
          have HL9 := Lib.hid hl9
          have H19 := Lib.hid h19
          clear ho3 hb3 hl9 h19 hm9 hk1 hk2 hk3 hk4 hk5 hk6
          go_wp2_with (fail)
          refine (live_len HP3.out.live).mono ?_
          rintro e w9 ⟨rfl, rfl⟩
          rw [HL9.out]
          go_wp2_with (fail)
          go_roundw
          case rel => exact ⟨j + 1, Pst.out st k, _, by omega, by go_num, ⟨A3, c3, by first | rfl | rw [HL9.out]⟩, by (try rw [HL9.out]); omega, H19, HP3⟩
          case measure => simp [intOf]; omega
        · skip
          apply region_frame5v (fun _ _ v w' => Below w2.heap.size w2 w' ∧ w'.ownsRow w2.heap.size 31 2 v (k + (st.length - (k + 1))) (lcl (rs.take k) ++ lcl (rs.drop (k + 1))))
          · refine lane_start (ord := [0, 1, 2, 4, 5, 6, 7, 3, 8, 9]) (S := fun _ => True) rfl (by kernel_rfl) trivial (fun hHeld => ?_)
            refine lane_take (v := ?_) rfl (by kernel_rfl) (by kernel_rfl) (by rfl) ?_ (by exact hHeld) ?_
            rotate_left
            focus (intro W hSw; go_simp; (try (with_reducible rfl)); done)
            simp only [Act.put, List.setIfInBounds_toArray, List.set_cons_zero, List.set_cons_succ]
            refine lane_take (v := ?_) rfl (by kernel_rfl) (by kernel_rfl) (by rfl) ?_ (by exact hHeld) ?_
            rotate_left
            focus (intro W hSw; go_simp; (try (with_reducible rfl)); done)
            simp only [Act.put, List.setIfInBounds_toArray, List.set_cons_zero, List.set_cons_succ]
            refine lane_take (v := ?_) rfl (by kernel_rfl) (by kernel_rfl) (by rfl) ?_ (by exact hHeld) ?_
            rotate_left
            focus (intro W hSw; go_simp; (try (with_reducible rfl)); done)
            simp only [Act.put, List.setIfInBounds_toArray, List.set_cons_zero, List.set_cons_succ]
            refine lane_take (v := ?_) rfl (by kernel_rfl) (by kernel_rfl) (by rfl) ?_ (by exact hHeld) ?_
            rotate_left
            focus (intro W hSw; go_simp; (try (with_reducible rfl)); done)
            simp only [Act.put, List.setIfInBounds_toArray, List.set_cons_zero, List.set_cons_succ]
            refine lane_take (v := ?_) rfl (by kernel_rfl) (by kernel_rfl) (by rfl) ?_ (by exact hHeld) ?_
            rotate_left
            focus (intro W hSw; go_simp; (try (with_reducible rfl)); done)
            simp only [Act.put, List.setIfInBounds_toArray, List.set_cons_zero, List.set_cons_succ]
            refine lane_take (v := ?_) rfl (by kernel_rfl) (by kernel_rfl) (by rfl) ?_ (by exact hHeld) ?_
            rotate_left
            focus (intro W hSw; go_simp; (try (with_reducible rfl)); done)
            simp only [Act.put, List.setIfInBounds_toArray, List.set_cons_zero, List.set_cons_succ]
            refine lane_take (v := ?_) rfl (by kernel_rfl) (by kernel_rfl) (by rfl) ?_ (by exact hHeld) ?_
            rotate_left
            focus (intro W hSw; go_simp; (try (with_reducible rfl)); done)
            simp only [Act.put, List.setIfInBounds_toArray, List.set_cons_zero, List.set_cons_succ]
            refine lane_alone rfl (by kernel_rfl) (by rfl) (fun K hK => ?_)
            obtain ⟨v5, w5, hrun, how5, hgw5, _, _⟩ := run_append_own_at (P := Try.prog) (w := w2.drew) w2.heap.size 26 26 31 it _ 2 32 Try.underlying26 hit hz0 hz1 hz9 rfl (by decide) (.slice none 0 0) 0 [] (World.ownsRow_nil _ _ _ _) ⟨b, 0, none⟩ k c9 (lcl (rs.take k)) HL1.out (fun q x hx => by rw [ad_head]; exact HC1.out q x hx) HO1.out (by unfold maxLen; omega) (by omega) (Nat.le_refl _)
            refine wp_of_value (exec_append rfl rfl rfl hrun) ?_
            have HB5 : Hid (Below w2.heap.size w2 w5) := Lib.hid ⟨hgw5.os, hgw5.tape, hgw5.output, hgw5.size, fun i hi => hgw5.block i hi (by simp [Value.ownBlock])⟩
            refine hK _ _ trivial (fun _ => ?_)
            clear hK K hrun
            (try simp only [Act.put, List.setIfInBounds_toArray, List.set_cons_zero, List.set_cons_succ])
            have hz25 := HB5.out.size
            refine lane_alone rfl (by kernel_rfl) (by rfl) (fun K hK => ?_)
            obtain ⟨v7, w7, hrun, how7, hgw7, _, _⟩ := run_append_own_at (P := Try.prog) (w := w5) w2.heap.size 26 26 31 it _ 2 32 Try.underlying26 hit hz0 hz1 hz9 rfl (by decide) v5 (0 + k) ([] ++ lcl (rs.take k)) how5 ⟨b, (k + 1) * 2, none⟩ (st.length - (k + 1)) (c9 - (k + 1)) (lcl (rs.drop (k + 1))) HL2.out (fun q x hx => by rw [Addr.add_mid]; exact (World.cell?_of_block (a := ⟨b, (k + 1) * 2 + q, none⟩) (HB5.out.block b hbl)).trans (HC2.out q x hx)) HO2.out (by unfold maxLen; omega) (by omega) (by omega)
            refine wp_of_value (exec_append rfl rfl rfl hrun) ?_
            refine hK _ _ trivial (fun _ => ?_)
            clear hK K hrun
            (try simp only [Act.put, List.setIfInBounds_toArray, List.set_cons_zero, List.set_cons_succ])
            refine lane_take (v := ?_) rfl (by kernel_rfl) (by kernel_rfl) (by rfl) ?_ (by exact trivial) ?_
            rotate_left
            focus (intro W hSw; go_simp; (try (with_reducible rfl)); done)
            simp only [Act.put, List.setIfInBounds_toArray, List.set_cons_zero, List.set_cons_succ]
            refine lane_end (by kernel_rfl) ?_
            obtain ⟨Z, _⟩ : ∃ Z : Nat, Z = 0 := ⟨_, rfl⟩
            exact ⟨rfl, v5, Z, v7, rfl, HB5.out.trans ⟨hgw7.os, hgw7.tape, hgw7.output, hgw7.size, fun i hi => hgw7.block i (by omega) fun e => by have := (how5.lt i e.symm).1; omega⟩, by have h9 := how7; rw [Nat.zero_add] at h9; exact h9⟩
          intro _ _ v3 w3 ⟨hb3, ho3⟩
          obtain ⟨A3, c3, rfl, _, _⟩ := own_form ho3
          obtain ⟨m, hm9⟩ : ∃ m, k + (st.length - (k + 1)) = m := ⟨_, rfl⟩
          have hml : m ≤ j := by omega
          have hl9 : (Pst.out st k).length = m := by rw [Pst.out_len hkl]; omega
          rw [hm9] at ho3 ⊢
          have HP3 : Hid (PR w g (Pst.out st k) (Pst.out st k) (.slice A3 m c3) (rs.take k ++ rs.drop (k + 1)) w3) := Lib.hid (HP2.out.fresh hb3 (((HP2.out.lets.take k).append (HP2.out.lets.drop (k + 1))).keep (KeepU.below hb3) fun _ h => h) (by show w3.ownsRow _ _ _ _ (Pst.out st k).length _; rw [hl9, lcl_append]; exact ho3))
          have h19 : ∀ x ∈ Pst.out st k, x.2.length ≤ 1 := fun x hx => by
            rcases List.mem_append.1 hx with h | h
            · exact H1.out x (List.mem_of_mem_take h)
            · exact H1.out x (List.mem_of_mem_drop h)
          have HL9 := Lib.hid hl9
          have H19 := Lib.hid h19
          clear ho3 hb3 hl9 h19 hm9 hk1 hk2 hk3 hk4 hk5 hk6
          go_wp2_with (fail)
          refine (live_len HP3.out.live).mono ?_
          rintro e w9 ⟨rfl, rfl⟩
          rw [HL9.out]
          go_wp2_with (fail)
          go_roundw
          case rel => exact ⟨j + 1, Pst.out st k, _, by omega, by go_num, ⟨A3, c3, by first | rfl | rw [HL9.out]⟩, by (try rw [HL9.out]); omega, H19, HP3⟩
          case measure => simp [intOf]; omega
      · skip
        go_wp2_with (fail)
        refine (live_take HP.out.live HP.out.hN t hst0 (by rw [HK.out]; exact HS.out)).mono ?_
        rintro e w5 ⟨A7, c7, rfl, hb7, h7⟩
        rw [HK.out] at h7
        have HP5 := Lib.hid (HP.out.call h7)
        have HB5 := Lib.hid hb7
        clear h7 hb7
        go_wp2_with (fail)
        obtain ⟨w6, hw6⟩ : ∃ w6, w5.alloc (.cells #[.int .u8 s.1, .slice A7 s.2.length c7] 31) = w6 := ⟨_, rfl⟩
        have hb6 : Below w5.heap.size w5 w6 := by rw [← hw6]; exact (Below.refl _ _).alloc (Nat.le_refl _) _
        have HP6 := Lib.hid (HP5.out.below hb6)
        have HX6 : w6.heap[w5.heap.size]? = some (.cells #[.int .u8 s.1, .slice A7 s.2.length c7] 31 (0, 0)) := by rw [← hw6]; exact alloc_block
        have x0 : w6.cell? ⟨w5.heap.size, 0, none⟩ = some (.int .u8 s.1) := by rw [cell_of_row _ _ _ _ _ _ HX6]; rfl
        have x1 : w6.cell? ⟨w5.heap.size, 1, none⟩ = some (.slice A7 s.2.length c7) := by rw [cell_of_row _ _ _ _ _ _ HX6]; rfl
        have HB6 := Lib.hid (HB5.out.keep (KeepU.below hb6) fun _ h => h)
        rw [hw6]
        clear hw6 hb6 HX6 HB5 HP5
        obtain ⟨b, cap, cur, hv9, hb9, hnc9, hcm9, _, _⟩ := (Lrow.of_own HP6.out.own).some_ hst0
        obtain ⟨hA9, hc9⟩ : A9 = some ⟨b, 0, none⟩ ∧ c9 = cap := by injection hv9 with h3 _ h4; exact ⟨h3, h4⟩
        subst hA9
        subst hc9
        obtain ⟨u, hu, hbu⟩ := HP6.out.lets.at_ HS.out
        have HU := Lib.hid hu
        have HBU := Lib.hid hbu
        obtain ⟨Au, cu, hue, _, _, _⟩ := hbu.rd
        try dsimp only at hue hu hbu
        subst hue
        have hrow : ∀ q x, (lcl rs)[q]? = some x → w6.cell? ⟨b, q, none⟩ = some x := fun q x hx => (Lrow.of_own HP6.out.own).cell rfl q x hx
        have HROW := Lib.hid hrow
        have hra : w6.rangeAt b (k * 2) [.int .u8 s.1, .slice Au s.2.length cu] := fun q x hx => by
          have h9 := lcl_at hu
          match q, hx with
          | 0, hx => simp at hx; subst hx; exact hrow _ _ h9.1
          | 1, hx => simp at hx; subst hx; exact hrow _ _ h9.2
        have HRA := Lib.hid hra
        have hbl : b < w6.heap.size := (Array.getElem?_eq_some_iff.1 hb9).1
        have HLR : Hid ((lcl rs).length = st.length * 2) := Lib.hid HP6.out.own.1
        have HOC : Hid (∀ x ∈ lcl rs, x.oneCell' = true) := Lib.hid HP6.out.lets.one_cell
        have HRL : Hid (rs.length = st.length) := Lib.hid HP6.out.lets.1
        clear hv9 hb9 hu hbu hrow hra
        have r0 : w6.cell? ⟨b, k * 2, none⟩ = some (.int .u8 s.1) := HRA.out 0 _ rfl
        have r1 : w6.cell? ⟨b, k * 2 + 1, none⟩ = some (.slice Au s.2.length cu) := HRA.out 1 _ rfl
        have kA : ∀ m, (convert 22 9 (.slice A7 s.2.length c7)).run Try.prog (w6.drewN m) = .ok (.string (bst s.2)) (w6.drewN m) := fun m => by
          obtain ⟨A8, c8, h8, _, _, h10⟩ := HB6.out.rd
          injection h8 with h8 _ _
          subst h8
          exact conv_len (w6.drewN m) A7 _ c7 _ s.2 (h10.kept fun _ _ => rfl) rfl
        have kB : ∀ m, (convert 22 9 (.slice Au s.2.length cu)).run Try.prog (w6.drewN m) = .ok (.string (bst s.2)) (w6.drewN m) := fun m => by
          obtain ⟨A8, c8, h8, _, _, h10⟩ := HBU.out.rd
          injection h8 with h8 _ _
          subst h8
          exact conv_len (w6.drewN m) Au _ cu _ s.2 (h10.kept fun _ _ => rfl) rfl
        go_quiet (fail)
        clear kA kB x0 x1 r0 r1
        obtain ⟨w2, hw2⟩ : ∃ w2, w6.drewN nq = w2 := ⟨_, rfl⟩
        have hb2 : Below w6.heap.size w6 w2 := by rw [← hw2]; exact Below.drewN' (Below.refl _ _) nq
        have HP2 := Lib.hid (HP6.out.below hb2)
        have HROW : Hid (∀ q x, (lcl rs)[q]? = some x → w2.cell? ⟨b, q, none⟩ = some x) := Lib.hid fun q x hx => by rw [← hw2]; exact HROW.out q x hx
        have hbl : b < w2.heap.size := by rw [← hw2]; exact hbl
        rw [hw2]
        clear hw2 hb2 HRA
        go_wp2_with (fail)
        obtain ⟨it, hit, hz0, hz1, hz9⟩ := info_parts ltr_info
        have hk1 : IntKind.i64.wrap ((k : Int) + 1) = (k : Int) + 1 := IntWalk.i64_in _ (by omega)
        have hk2 : (0 : Int) ≤ (k : Int) + 1 := by omega
        have hk3 : ((k : Int) + 1).toNat = k + 1 := by omega
        have hk4 : (k : Int) + 1 ≤ (st.length : Int) := by omega
        have hk5 : (k : Int) ≤ (c9 : Int) := by omega
        have hk6 : (st.length : Int) ≤ (c9 : Int) := by omega
        have HL1 : Hid ((lcl (rs.take k)).length = k * 2) := Lib.hid (by rw [lcl_take, List.length_take, HLR.out, Nat.min_eq_left (by omega)])
        have HL2 : Hid ((lcl (rs.drop (k + 1))).length = (st.length - (k + 1)) * 2) := Lib.hid (by rw [lcl_drop, List.length_drop, HLR.out]; omega)
        have HC1 : Hid (∀ q x, (lcl (rs.take k))[q]? = some x → w2.cell? ⟨b, q, none⟩ = some x) := Lib.hid fun q x hx => by
          rw [lcl_take, List.getElem?_take] at hx
          split at hx
          · exact HROW.out q x hx
          · cases hx
        have HC2 : Hid (∀ q x, (lcl (rs.drop (k + 1)))[q]? = some x → w2.cell? ⟨b, (k + 1) * 2 + q, none⟩ = some x) := Lib.hid fun q x hx => by
          rw [lcl_drop, List.getElem?_drop] at hx
          exact HROW.out _ x hx
        have HO1 : Hid (∀ x ∈ lcl (rs.take k), x.oneCell' = true) := Lib.hid (HP2.out.lets.take k).one_cell
        have HO2 : Hid (∀ x ∈ lcl (rs.drop (k + 1)), x.oneCell' = true) := Lib.hid (HP2.out.lets.drop (k + 1)).one_cell
        by_cases hcap : c9 = k + 1
        · have hk7 : (k : Int) ≤ (k : Int) + 1 := by omega
          have hk8 : (st.length : Int) ≤ (k : Int) + 1 := by omega
          apply region_frame5v (fun _ _ v w' => Below w2.heap.size w2 w' ∧ w'.ownsRow w2.heap.size 31 2 v (k + (st.length - (k + 1))) (lcl (rs.take k) ++ lcl (rs.drop (k + 1))))
          · refine lane_start (ord := [0, 1, 2, 4, 5, 6, 7, 3, 8, 9]) (S := fun _ => True) rfl (by kernel_rfl) trivial (fun hHeld => ?_)
            refine lane_take (v := ?_) rfl (by kernel_rfl) (by kernel_rfl) (by rfl) ?_ (by exact hHeld) ?_
            rotate_left
            focus (intro W hSw; go_simp; (try (with_reducible rfl)); done)
            simp only [Act.put, List.setIfInBounds_toArray, List.set_cons_zero, List.set_cons_succ]
            refine lane_take (v := ?_) rfl (by kernel_rfl) (by kernel_rfl) (by rfl) ?_ (by exact hHeld) ?_
            rotate_left
            focus (intro W hSw; go_simp; (try (with_reducible rfl)); done)
            simp only [Act.put, List.setIfInBounds_toArray, List.set_cons_zero, List.set_cons_succ]
            refine lane_take (v := ?_) rfl (by kernel_rfl) (by kernel_rfl) (by rfl) ?_ (by exact hHeld) ?_
            rotate_left
            focus (intro W hSw; go_simp; (try (with_reducible rfl)); done)
            simp only [Act.put, List.setIfInBounds_toArray, List.set_cons_zero, List.set_cons_succ]
            refine lane_take (v := ?_) rfl (by kernel_rfl) (by kernel_rfl) (by rfl) ?_ (by exact hHeld) ?_
            rotate_left
            focus (intro W hSw; go_simp; (try (with_reducible rfl)); done)
            simp only [Act.put, List.setIfInBounds_toArray, List.set_cons_zero, List.set_cons_succ]
            refine lane_take (v := ?_) rfl (by kernel_rfl) (by kernel_rfl) (by rfl) ?_ (by exact hHeld) ?_
            rotate_left
            focus (intro W hSw; go_simp; (try (with_reducible rfl)); done)
            simp only [Act.put, List.setIfInBounds_toArray, List.set_cons_zero, List.set_cons_succ]
            refine lane_take (v := ?_) rfl (by kernel_rfl) (by kernel_rfl) (by rfl) ?_ (by exact hHeld) ?_
            rotate_left
            focus (intro W hSw; go_simp; (try (with_reducible rfl)); done)
            simp only [Act.put, List.setIfInBounds_toArray, List.set_cons_zero, List.set_cons_succ]
            refine lane_take (v := ?_) rfl (by kernel_rfl) (by kernel_rfl) (by rfl) ?_ (by exact hHeld) ?_
            rotate_left
            focus (intro W hSw; go_simp; (try (with_reducible rfl)); done)
            simp only [Act.put, List.setIfInBounds_toArray, List.set_cons_zero, List.set_cons_succ]
            refine lane_alone rfl (by kernel_rfl) (by rfl) (fun K hK => ?_)
            obtain ⟨v5, w5, hrun, how5, hgw5, _, _⟩ := run_append_own_at (P := Try.prog) (w := w2.drew) w2.heap.size 26 26 31 it _ 2 32 Try.underlying26 hit hz0 hz1 hz9 rfl (by decide) (.slice none 0 0) 0 [] (World.ownsRow_nil _ _ _ _) ⟨b, 0, none⟩ k (k + 1) (lcl (rs.take k)) HL1.out (fun q x hx => by rw [ad_head]; exact HC1.out q x hx) HO1.out (by unfold maxLen; omega) (by omega) (Nat.le_refl _)
            refine wp_of_value (exec_append rfl rfl rfl hrun) ?_
            have HB5 : Hid (Below w2.heap.size w2 w5) := Lib.hid ⟨hgw5.os, hgw5.tape, hgw5.output, hgw5.size, fun i hi => hgw5.block i hi (by simp [Value.ownBlock])⟩
            refine hK _ _ trivial (fun _ => ?_)
            clear hK K hrun
            (try simp only [Act.put, List.setIfInBounds_toArray, List.set_cons_zero, List.set_cons_succ])
            have hz25 := HB5.out.size
            refine lane_alone rfl (by kernel_rfl) (by rfl) (fun K hK => ?_)
            obtain ⟨v7, w7, hrun, how7, hgw7, _, _⟩ := run_append_own_at (P := Try.prog) (w := w5) w2.heap.size 26 26 31 it _ 2 32 Try.underlying26 hit hz0 hz1 hz9 rfl (by decide) v5 (0 + k) ([] ++ lcl (rs.take k)) how5 ⟨b, 0, none⟩ (st.length - (k + 1)) 0 (lcl (rs.drop (k + 1))) HL2.out (fun q x hx => absurd hx (by rw [show lcl (rs.drop (k + 1)) = [] from List.eq_nil_of_length_eq_zero (by have := HL2.out; omega)]; simp)) HO2.out (by unfold maxLen; omega) (by omega) (by omega)
            refine wp_of_value (exec_append rfl rfl rfl hrun) ?_
            refine hK _ _ trivial (fun _ => ?_)
            clear hK K hrun
            (try simp only [Act.put, List.setIfInBounds_toArray, List.set_cons_zero, List.set_cons_succ])
            refine lane_take (v := ?_) rfl (by kernel_rfl) (by kernel_rfl) (by rfl) ?_ (by exact trivial) ?_
            rotate_left
            focus (intro W hSw; go_simp; (try (with_reducible rfl)); done)
            simp only [Act.put, List.setIfInBounds_toArray, List.set_cons_zero, List.set_cons_succ]
            refine lane_end (by kernel_rfl) ?_
            obtain ⟨Z, _⟩ : ∃ Z : Nat, Z = 0 := ⟨_, rfl⟩
            exact ⟨rfl, v5, Z, v7, rfl, HB5.out.trans ⟨hgw7.os, hgw7.tape, hgw7.output, hgw7.size, fun i hi => hgw7.block i (by omega) fun e => by have := (how5.lt i e.symm).1; omega⟩, by have h9 := how7; rw [Nat.zero_add] at h9; exact h9⟩
          intro _ _ v3 w3 ⟨hb3, ho3⟩
          obtain ⟨A3, c3, rfl, _, _⟩ := own_form ho3
          obtain ⟨m, hm9⟩ : ∃ m, k + (st.length - (k + 1)) = m := ⟨_, rfl⟩
          have hml : m ≤ j := by omega
          have hl9 : (Pst.out st k).length = m := by rw [Pst.out_len hkl]; omega
          rw [hm9] at ho3 ⊢
          have HP3 : Hid (PR w g (Pst.out st k) (Pst.out st k) (.slice A3 m c3) (rs.take k ++ rs.drop (k + 1)) w3) := Lib.hid (HP2.out.fresh hb3 (((HP2.out.lets.take k).append (HP2.out.lets.drop (k + 1))).keep (KeepU.below hb3) fun _ h => h) (by show w3.ownsRow _ _ _ _ (Pst.out st k).length _; rw [hl9, lcl_append]; exact ho3))
          have h19 : ∀ x ∈ Pst.out st k, x.2.length ≤ 1 := fun x hx => by
            rcases List.mem_append.1 hx with h | h
            · exact H1.out x (List.mem_of_mem_take h)
            · exact H1.out x (List.mem_of_mem_drop h)
          have HL9 := Lib.hid hl9
          have H19 := Lib.hid h19
          clear ho3 hb3 hl9 h19 hm9 hk1 hk2 hk3 hk4 hk5 hk6
          go_wp2_with (fail)
          refine (live_len HP3.out.live).mono ?_
          rintro e w9 ⟨rfl, rfl⟩
          rw [HL9.out]
          go_wp2_with (fail)
          go_roundw
          case rel => exact ⟨j + 1, Pst.out st k, _, by omega, by go_num, ⟨A3, c3, by first | rfl | rw [HL9.out]⟩, by (try rw [HL9.out]); omega, H19, HP3⟩
          case measure => simp [intOf]; omega
        · skip
          apply region_frame5v (fun _ _ v w' => Below w2.heap.size w2 w' ∧ w'.ownsRow w2.heap.size 31 2 v (k + (st.length - (k + 1))) (lcl (rs.take k) ++ lcl (rs.drop (k + 1))))
          · refine lane_start (ord := [0, 1, 2, 4, 5, 6, 7, 3, 8, 9]) (S := fun _ => True) rfl (by kernel_rfl) trivial (fun hHeld => ?_)
            refine lane_take (v := ?_) rfl (by kernel_rfl) (by kernel_rfl) (by rfl) ?_ (by exact hHeld) ?_
            rotate_left
            focus (intro W hSw; go_simp; (try (with_reducible rfl)); done)
            simp only [Act.put, List.setIfInBounds_toArray, List.set_cons_zero, List.set_cons_succ]
            refine lane_take (v := ?_) rfl (by kernel_rfl) (by kernel_rfl) (by rfl) ?_ (by exact hHeld) ?_
            rotate_left
            focus (intro W hSw; go_simp; (try (with_reducible rfl)); done)
            simp only [Act.put, List.setIfInBounds_toArray, List.set_cons_zero, List.set_cons_succ]
            refine lane_take (v := ?_) rfl (by kernel_rfl) (by kernel_rfl) (by rfl) ?_ (by exact hHeld) ?_
            rotate_left
            focus (intro W hSw; go_simp; (try (with_reducible rfl)); done)
            simp only [Act.put, List.setIfInBounds_toArray, List.set_cons_zero, List.set_cons_succ]
            refine lane_take (v := ?_) rfl (by kernel_rfl) (by kernel_rfl) (by rfl) ?_ (by exact hHeld) ?_
            rotate_left
            focus (intro W hSw; go_simp; (try (with_reducible rfl)); done)
            simp only [Act.put, List.setIfInBounds_toArray, List.set_cons_zero, List.set_cons_succ]
            refine lane_take (v := ?_) rfl (by kernel_rfl) (by kernel_rfl) (by rfl) ?_ (by exact hHeld) ?_
            rotate_left
            focus (intro W hSw; go_simp; (try (with_reducible rfl)); done)
            simp only [Act.put, List.setIfInBounds_toArray, List.set_cons_zero, List.set_cons_succ]
            refine lane_take (v := ?_) rfl (by kernel_rfl) (by kernel_rfl) (by rfl) ?_ (by exact hHeld) ?_
            rotate_left
            focus (intro W hSw; go_simp; (try (with_reducible rfl)); done)
            simp only [Act.put, List.setIfInBounds_toArray, List.set_cons_zero, List.set_cons_succ]
            refine lane_take (v := ?_) rfl (by kernel_rfl) (by kernel_rfl) (by rfl) ?_ (by exact hHeld) ?_
            rotate_left
            focus (intro W hSw; go_simp; (try (with_reducible rfl)); done)
            simp only [Act.put, List.setIfInBounds_toArray, List.set_cons_zero, List.set_cons_succ]
            refine lane_alone rfl (by kernel_rfl) (by rfl) (fun K hK => ?_)
            obtain ⟨v5, w5, hrun, how5, hgw5, _, _⟩ := run_append_own_at (P := Try.prog) (w := w2.drew) w2.heap.size 26 26 31 it _ 2 32 Try.underlying26 hit hz0 hz1 hz9 rfl (by decide) (.slice none 0 0) 0 [] (World.ownsRow_nil _ _ _ _) ⟨b, 0, none⟩ k c9 (lcl (rs.take k)) HL1.out (fun q x hx => by rw [ad_head]; exact HC1.out q x hx) HO1.out (by unfold maxLen; omega) (by omega) (Nat.le_refl _)
            refine wp_of_value (exec_append rfl rfl rfl hrun) ?_
            have HB5 : Hid (Below w2.heap.size w2 w5) := Lib.hid ⟨hgw5.os, hgw5.tape, hgw5.output, hgw5.size, fun i hi => hgw5.block i hi (by simp [Value.ownBlock])⟩
            refine hK _ _ trivial (fun _ => ?_)
            clear hK K hrun
            (try simp only [Act.put, List.setIfInBounds_toArray, List.set_cons_zero, List.set_cons_succ])
            have hz25 := HB5.out.size
            refine lane_alone rfl (by kernel_rfl) (by rfl) (fun K hK => ?_)
            obtain ⟨v7, w7, hrun, how7, hgw7, _, _⟩ := run_append_own_at (P := Try.prog) (w := w5) w2.heap.size 26 26 31 it _ 2 32 Try.underlying26 hit hz0 hz1 hz9 rfl (by decide) v5 (0 + k) ([] ++ lcl (rs.take k)) how5 ⟨b, (k + 1) * 2, none⟩ (st.length - (k + 1)) (c9 - (k + 1)) (lcl (rs.drop (k + 1))) HL2.out (fun q x hx => by rw [Addr.add_mid]; exact (World.cell?_of_block (a := ⟨b, (k + 1) * 2 + q, none⟩) (HB5.out.block b hbl)).trans (HC2.out q x hx)) HO2.out (by unfold maxLen; omega) (by omega) (by omega)
            refine wp_of_value (exec_append rfl rfl rfl hrun) ?_
            refine hK _ _ trivial (fun _ => ?_)
            clear hK K hrun
            (try simp only [Act.put, List.setIfInBounds_toArray, List.set_cons_zero, List.set_cons_succ])
            refine lane_take (v := ?_) rfl (by kernel_rfl) (by kernel_rfl) (by rfl) ?_ (by exact trivial) ?_
            rotate_left
            focus (intro W hSw; go_simp; (try (with_reducible rfl)); done)
            simp only [Act.put, List.setIfInBounds_toArray, List.set_cons_zero, List.set_cons_succ]
            refine lane_end (by kernel_rfl) ?_
            obtain ⟨Z, _⟩ : ∃ Z : Nat, Z = 0 := ⟨_, rfl⟩
            exact ⟨rfl, v5, Z, v7, rfl, HB5.out.trans ⟨hgw7.os, hgw7.tape, hgw7.output, hgw7.size, fun i hi => hgw7.block i (by omega) fun e => by have := (how5.lt i e.symm).1; omega⟩, by have h9 := how7; rw [Nat.zero_add] at h9; exact h9⟩
          intro _ _ v3 w3 ⟨hb3, ho3⟩
          obtain ⟨A3, c3, rfl, _, _⟩ := own_form ho3
          obtain ⟨m, hm9⟩ : ∃ m, k + (st.length - (k + 1)) = m := ⟨_, rfl⟩
          have hml : m ≤ j := by omega
          have hl9 : (Pst.out st k).length = m := by rw [Pst.out_len hkl]; omega
          rw [hm9] at ho3 ⊢
          have HP3 : Hid (PR w g (Pst.out st k) (Pst.out st k) (.slice A3 m c3) (rs.take k ++ rs.drop (k + 1)) w3) := Lib.hid (HP2.out.fresh hb3 (((HP2.out.lets.take k).append (HP2.out.lets.drop (k + 1))).keep (KeepU.below hb3) fun _ h => h) (by show w3.ownsRow _ _ _ _ (Pst.out st k).length _; rw [hl9, lcl_append]; exact ho3))
          have h19 : ∀ x ∈ Pst.out st k, x.2.length ≤ 1 := fun x hx => by
            rcases List.mem_append.1 hx with h | h
            · exact H1.out x (List.mem_of_mem_take h)
            · exact H1.out x (List.mem_of_mem_drop h)
          have HL9 := Lib.hid hl9
          have H19 := Lib.hid h19
          clear ho3 hb3 hl9 h19 hm9 hk1 hk2 hk3 hk4 hk5 hk6
          go_wp2_with (fail)
          refine (live_len HP3.out.live).mono ?_
          rintro e w9 ⟨rfl, rfl⟩
          rw [HL9.out]
          go_wp2_with (fail)
          go_roundw
          case rel => exact ⟨j + 1, Pst.out st k, _, by omega, by go_num, ⟨A3, c3, by first | rfl | rw [HL9.out]⟩, by (try rw [HL9.out]); omega, H19, HP3⟩
          case measure => simp [intOf]; omega
theorem postPlays_walk {w : World} (A : Option Addr) (c : Nat) (l : List Int) (hr : Rd w .u8 w.heap.size A l) (hw : ∀ x ∈ l, (Lit.int .u8 x).wf = true) (A' : Option Addr) (c' : Nat) (l' : List Int) (hr' : Rd w .i64 w.heap.size A' l') (_ : ∀ x ∈ l', (Lit.int .i64 x).wf = true) :
    Calls Try.prog 3 #[.slice A l.length c, .slice A' l'.length c'] w fun e w' => e = .returned (.bool true) ∧ Below w.heap.size w w' := by
  by_cases h : 80 < l.length ∨ l'.length < l.length
  · exact postPlays_far A A' _ _ c c' h
  · exact postPlays_in A A' _ c _ c' l l' hr hw hr' rfl rfl (by omega) (by omega)
end Go.Proofs.Ytlldkcelkgnalaa
