/-
  The walk of the law PlateSame: it returns true, whatever the input, and makes new blocks alone. No conditions.
-/
import Derived.Test.YtnplnggkeekedaaPlTornWalk
import Derived.Test.YtnplnggkeekedaaPlSame
namespace Go.Proofs.Ytnplnggkeekedaa
open Go.ChangeShapes Go.WideShapes Go.ChangeAt Go.RowKit

theorem bst_beq {a b : List Int} (ha : ∀ x ∈ a, 0 ≤ x ∧ x < 256) (hb : ∀ x ∈ b, 0 ≤ x ∧ x < 256) : ((bst a).toList == (bst b).toList) = decide (a = b) := by
  rw [Bool.eq_iff_iff, beq_iff_eq, decide_eq_true_iff]
  exact ⟨fun e => bst_inj ha hb (ByteArray.ext (by simpa [ByteArray.toList_eq] using e)), fun e => by rw [e]⟩
/-- Two plates, apart. -/
def Two (w0 w : World) (g : Nat) (st : Pl.St) (m g' : Nat) (st' : Pl.St) (m' : Nat) : Prop :=
  ∃ F F', PlB w g F st m ∧ PlB w g' F' st' m' ∧ (∀ i, F i → w0.heap.size ≤ i) ∧ (∀ i, F' i → w0.heap.size ≤ i) ∧ (∀ i, F i → ¬ F' i) ∧ Below w0.heap.size w0 w
theorem Two.swap {w0 w : World} {g g' m m' : Nat} {st st' : Pl.St} (h : Two w0 w g st m g' st' m') : Two w0 w g' st' m' g st m := by
  obtain ⟨F, F', h1, h2, h3, h4, h5, h6⟩ := h
  exact ⟨F', F, h2, h1, h4, h3, fun i hi hf => h5 i hf hi, h6⟩
theorem Two.old {w0 w : World} {g g' m m' : Nat} {st st' : Pl.St} (h : Two w0 w g st m g' st' m') : Below w0.heap.size w0 w := by
  obtain ⟨F, F', h1, h2, h3, h4, h5, h6⟩ := h; exact h6
theorem Two.below {w0 w w' : World} {g g' m m' : Nat} {st st' : Pl.St} (h : Two w0 w g st m g' st' m') (hb : Below w.heap.size w w') : Two w0 w' g st m g' st' m' := by
  obtain ⟨F, F', h1, h2, h3, h4, h5, h6⟩ := h
  exact ⟨F, F', h1.below hb, h2.below hb, h3, h4, h5, h6.trans (hb.mono h6.size)⟩
theorem Two.act {f : FuncId} {args : Array Value} {r : Value} {w0 w : World} {g g' m m' m2 : Nat} {st st' st2 : Pl.St} (h : Two w0 w g st m g' st' m') (hc : ∀ F, PlB w g F st m → Calls Try.prog f args w (PlPost w g F st2 m2 r)) :
    Calls Try.prog f args w fun e w' => e = .returned r ∧ Two w0 w' g st2 m2 g' st' m' := by
  obtain ⟨F, F', h1, h2, h3, h4, h5, h6⟩ := h
  have hs := h6.size
  refine (hc F h1).mono fun e w' ⟨he, hp, ht⟩ => ⟨he, grow F w w', F', hp, h2.kept (fun i hi => ht.block i (h2.lt i hi) fun hf => h5 i hf hi) ht.size, fun i hi => ?_, h4, fun i hi hf => ?_, h6.trans (ht.below h3 hs)⟩
  · rcases hi with h' | h'
    · exact h3 i h'
    · omega
  · rcases hi with h' | h'
    · exact h5 i h' hf
    · have := h2.lt i hf; omega
theorem Two.same {w0 w : World} {g g' m m' : Nat} {st st' : Pl.St} (h : Two w0 w g st m g' st' m') (hne : 0 < st.safe.length) :
    Calls Try.prog 19 #[.pointer (some ⟨g, 0, none⟩), .pointer (some ⟨g', 0, none⟩)] w fun e w' => e = .returned (.bool (decide (st.safe = st'.safe))) ∧ Below w.heap.size w w' := by
  obtain ⟨F, F', h1, h2, _⟩ := h
  exact same_any w g g' F F' st st' m m' h1 h2 hne
theorem Two.self {w0 w : World} {g g' m m' : Nat} {st st' : Pl.St} (h : Two w0 w g st m g' st' m') (hne : 0 < st.safe.length) :
    Calls Try.prog 19 #[.pointer (some ⟨g, 0, none⟩), .pointer (some ⟨g, 0, none⟩)] w fun e w' => e = .returned (.bool true) ∧ Below w.heap.size w w' := by
  obtain ⟨F, F', h1, h2, _⟩ := h
  exact (same_any w g g F F st st m m h1 h1 hne).mono fun e w' ⟨h1, h2⟩ => ⟨by rw [h1]; simp, h2⟩

/-! What becomes of them. -/
theorem put_new {k : Int} {a : List Int} (h0 : 1 ≤ k) (ha : a.length ≤ 64) : ((Pl.St.new k).put 0 a).safe = List.replicate k.toNat Pl.zs ∧ ((Pl.St.new k).put 0 a).flush.safe = (List.replicate k.toNat Pl.zs).set 0 (Pl.pad a) := by
  have hno : ¬ ((Pl.St.new k).there 0 = false ∨ 64 < a.length) := by
    rintro (h' | h')
    · have : (Pl.St.new k).there 0 = true := Pl.there_iff.2 ⟨by omega, by simp [Pl.St.new]; omega⟩
      rw [this] at h'; cases h'
    · omega
  rw [(put_goes hno rfl rfl).1]
  exact ⟨rfl, rfl⟩
theorem same_dry {k k' : Int} (h : 1 ≤ k) (h' : 1 ≤ k') : (List.replicate k.toNat Pl.zs = List.replicate k'.toNat Pl.zs) ↔ k = k' := by
  constructor
  · intro e
    have := congrArg List.length e
    simp at this; omega
  · rintro rfl; rfl
theorem same_safe {k k' : Int} {x y : List Int} (h : 1 ≤ k) (h' : 1 ≤ k') : ((List.replicate k.toNat Pl.zs).set 0 x = (List.replicate k'.toNat Pl.zs).set 0 y) ↔ k = k' ∧ x = y := by
  constructor
  · intro e
    have h1 := congrArg List.length e
    simp at h1
    have hk : k = k' := by omega
    subst hk
    refine ⟨rfl, ?_⟩
    have h2 : ((List.replicate k.toNat Pl.zs).set 0 x)[0]? = ((List.replicate k.toNat Pl.zs).set 0 y)[0]? := by rw [e]
    rw [List.getElem?_set_self (by simp; omega), List.getElem?_set_self (by simp; omega)] at h2
    injection h2
  · rintro ⟨rfl, rfl⟩; rfl

set_option maxHeartbeats 1600000 in
theorem plateSame_in (A A' : Option Addr) (n c n' c' : Nat) (a b : List Int) (x y : Nat) (fl : Bool) (w : World) (hr : Rd w .u8 w.heap.size A a) (ho : BytesOk a) (hn : a.length = n) (h : n ≤ 64) (hr' : Rd w .u8 w.heap.size A' b) (hb : BytesOk b) (hn' : b.length = n') (h' : n' ≤ 64) (hx : x < 256) (hy : y < 256) :
    Calls Try.prog 6 #[.slice A n c, .slice A' n' c', .int .u8 x, .int .u8 y, .bool fl] w fun e w' => e = .returned (.bool true) ∧ Below w.heap.size w w' := by
  have d1 : decide ((64 : Int) < (n : Int)) = false := by simp; omega
  have d2 : decide ((64 : Int) < (n' : Int)) = false := by simp; omega
  have HR := Lib.hid hr
  have HR' := Lib.hid hr'
  have HO := Lib.hid ho
  have HB := Lib.hid hb
  have HN := Lib.hid hn
  have HN' := Lib.hid hn'
  clear hr hr' ho hb hn hn'
  go_enter Try.func6, Try.ntmps6
  go_wp2_with (fail)
  refine (awake_any _).mono ?_
  rintro e w1 ⟨rfl, hb1⟩
  go_wp2_with (fail)
  have h1 : 1 ≤ 1 + (x : Int) % 3 ∧ 1 + (x : Int) % 3 ≤ 3 := by omega
  have h2 : 1 ≤ 1 + (y : Int) % 3 ∧ 1 + (y : Int) % 3 ≤ 3 := by omega
  refine (new_any w1 _ (by omega)).mono ?_
  rintro e w2 ⟨rfl, hp, hbp⟩
  go_wp2_with (fail)
  refine (new_any w2 _ (by omega)).mono ?_
  rintro e w3 ⟨rfl, hq, hbq⟩
  have hz1 := hb1.size
  have h3 : Two w w3 (w1.heap.size + 2) (Pl.St.new (1 + (x : Int) % 3)) 0 (w2.heap.size + 2) (Pl.St.new (1 + (y : Int) % 3)) 0 :=
    ⟨_, _, hp.below hbq, hq, fun i hi => by omega, fun i hi => by have := hbp.size; omega, fun i hi hf => by omega, (hb1.trans (hbp.mono hz1)).trans (hbq.mono (by have := hbp.size; omega))⟩
  generalize w1.heap.size + 2 = g at *
  generalize w2.heap.size + 2 = g' at *
  clear hp hq hbp hbq hb1
  go_wp2_with (fail)
  refine (h3.act fun F hF => write_any _ _ F _ _ 0 A n c w.heap.size a hF (by omega) (HR.out.below h3.old) h3.old.size HN.out HO.out).mono ?_
  rintro e w4 ⟨rfl, h4⟩
  clear h3
  go_wp2_with (fail)
  refine (h4.swap.act fun F hF => write_any _ _ F _ _ 0 A' n' c' w.heap.size b hF (by omega) (HR'.out.below h4.old) h4.old.size HN'.out HB.out).mono ?_
  rintro e w5 ⟨rfl, h5⟩
  have h5 := h5.swap
  clear h4
  have P1 := Lib.hid (put_new (a := a) h1.1 (by rw [HN.out]; exact h))
  have P2 := Lib.hid (put_new (a := b) h2.1 (by rw [HN'.out]; exact h'))
  cases fl
  · have h7 := h5
    have hw7 : ∃ w7 : World, w7 = w5 := ⟨_, rfl⟩
    obtain ⟨w7, rfl⟩ := hw7
    clear h5
    have H7 := Lib.hid h7
    have HOLD := Lib.hid h7.old
    have hz7 := h7.old.size
    have HW := Lib.hid (HR.out.below h7.old)
    have HW' := Lib.hid (HR'.out.below h7.old)
    clear h7
    go_wp2_with (first | (refine wpList_make64 rfl _ _ rfl rfl rfl ?_) | (refine wpList_arr_copy rfl _ _ 31 31 rfl 5 Try.underlying31 size5 w7.heap.size 64 64 rfl A n c rfl Pl.zs 5 (by rw [alloc_block_old (by rw [World.size_alloc]; omega)]; exact alloc_block) w.heap.size a (HW.out.kept fun i hi => by rw [alloc_block_old (by rw [World.size_alloc]; omega), alloc_block_old (by omega)]) HN.out (by rw [Pl.sec_zs.1]; exact Nat.le_refl _) n (Nat.min_eq_left h) ?_; rw [pad_headed HN.out]) |
      (refine wpList_arr_copy rfl _ _ 31 31 rfl 5 Try.underlying31 size5 (w7.heap.size + 1) 64 64 rfl A' n' c' rfl Pl.zs 5 (by rw [boxed_block_other (by omega)]; exact alloc_at (by rw [World.size_alloc])) w.heap.size b (HW'.out.kept fun i hi => by rw [boxed_block_other (by omega), alloc_block_old (by rw [World.size_alloc]; omega), alloc_block_old (by omega)]) HN'.out (by rw [Pl.sec_zs.1]; exact Nat.le_refl _) n' (Nat.min_eq_left h') ?_; rw [pad_headed HN'.out]))
    have hb8 : Below w7.heap.size w7 (boxed (boxed ((w7.alloc (.cells (arr Pl.zs) 5)).alloc (.cells (arr Pl.zs) 5)) w7.heap.size (arr (Pl.pad a)) 5) (w7.heap.size + 1) (arr (Pl.pad b)) 5) :=
      boxed_below (boxed_below (((Below.refl _ _).alloc (Nat.le_refl _) _).alloc (by rw [World.size_alloc]; omega) _) (Nat.le_refl _)) (Nat.le_succ _)
    have hc8 : (boxed (boxed ((w7.alloc (.cells (arr Pl.zs) 5)).alloc (.cells (arr Pl.zs) 5)) w7.heap.size (arr (Pl.pad a)) 5) (w7.heap.size + 1) (arr (Pl.pad b)) 5).heap[w7.heap.size]? = some (.cells (arr (Pl.pad a)) 5 (0, 0)) := by
      rw [boxed_block_other (by omega), boxed_block (by rw [World.size_alloc, World.size_alloc]; omega)]
    have hd8 : (boxed (boxed ((w7.alloc (.cells (arr Pl.zs) 5)).alloc (.cells (arr Pl.zs) 5)) w7.heap.size (arr (Pl.pad a)) 5) (w7.heap.size + 1) (arr (Pl.pad b)) 5).heap[w7.heap.size + 1]? = some (.cells (arr (Pl.pad b)) 5 (0, 0)) :=
      boxed_block (by rw [boxed_size, World.size_alloc, World.size_alloc]; omega)
    generalize boxed (boxed ((w7.alloc (.cells (arr Pl.zs) 5)).alloc (.cells (arr Pl.zs) 5)) w7.heap.size (arr (Pl.pad a)) 5) (w7.heap.size + 1) (arr (Pl.pad b)) 5 = w8 at *
    have H8 := Lib.hid (H7.out.below hb8)
    have hne : 0 < ((Pl.St.new (1 + (x : Int) % 3)).put 0 a).safe.length := by rw [P1.out.1]; simp; omega
    refine (H8.out.same hne).mono ?_
    rintro e w9 ⟨rfl, hb9⟩
    have H9 := Lib.hid (H8.out.below hb9)
    have HOLD9 := Lib.hid H9.out.old
    have hc9 := (hb9.block _ (Array.getElem?_eq_some_iff.1 hc8).1).trans hc8
    have hd9 := (hb9.block _ (Array.getElem?_eq_some_iff.1 hd8).1).trans hd8
    have hpa : Pl.Sec (Pl.pad a) := Pl.sec_pad (by rw [HN.out]; exact h) HO.out
    have hpb : Pl.Sec (Pl.pad b) := Pl.sec_pad (by rw [HN'.out]; exact h') HB.out
    have hk1 : (convert 31 9 (.slice (some ⟨w7.heap.size, 0, none⟩) 64 64)).run Try.prog w9 = .ok (.string (bst (Pl.pad a))) w9 := conv_len _ _ _ 64 64 _ (rd_block hc9) hpa.1
    have hk2 : (convert 31 9 (.slice (some ⟨w7.heap.size + 1, 0, none⟩) 64 64)).run Try.prog w9 = .ok (.string (bst (Pl.pad b))) w9 := conv_len _ _ _ 64 64 _ (rd_block hd9) hpb.1
    have HINJ := Lib.hid (bst_beq hpa.2 hpb.2)
    clear hb8 hc8 hd8 hb9 hc9 hd9
    by_cases hxy : (x : Int) % 3 = (y : Int) % 3
    · have dxy : ((x : Int) % 3 == (y : Int) % 3) = true := by simpa using hxy
      have hD : decide (((Pl.St.new (1 + (x : Int) % 3)).put 0 a).safe = ((Pl.St.new (1 + (y : Int) % 3)).put 0 b).safe) = true := by
        rw [decide_eq_true_iff, P1.out.1, P2.out.1]
        exact (same_dry h1.1 h2.1).2 (by omega)
      rw [hD]
      clear hD
      have hbb := HINJ.out
      go_wp2_with (go_at_call 19; refine (H9.out.self hne).mono ?_; rintro e w10 ⟨rfl, hb10⟩)
      go_ret
      exact ⟨rfl, HOLD9.out.trans (hb10.mono HOLD9.out.size)⟩
    · have dxy : ((x : Int) % 3 == (y : Int) % 3) = false := by simpa using hxy
      have hD : decide (((Pl.St.new (1 + (x : Int) % 3)).put 0 a).safe = ((Pl.St.new (1 + (y : Int) % 3)).put 0 b).safe) = false := by
        rw [decide_eq_false_iff_not, P1.out.1, P2.out.1, same_dry h1.1 h2.1]
        exact fun h => hxy (by omega)
      rw [hD]
      clear hD
      go_wp2_with (go_at_call 19; refine (H9.out.self hne).mono ?_; rintro e w10 ⟨rfl, hb10⟩)
      go_ret
      exact ⟨rfl, HOLD9.out.trans (hb10.mono HOLD9.out.size)⟩
  · go_wp2_with (fail)
    refine (h5.act fun F hF => flush_any _ _ F _ _ hF (by omega)).mono ?_
    rintro e w6 ⟨rfl, h6⟩
    clear h5
    go_wp2_with (fail)
    refine (h6.swap.act fun F hF => flush_any _ _ F _ _ hF (by omega)).mono ?_
    rintro e w7 ⟨rfl, h7⟩
    have h7 := h7.swap
    clear h6
    have H7 := Lib.hid h7
    have HOLD := Lib.hid h7.old
    have hz7 := h7.old.size
    have HW := Lib.hid (HR.out.below h7.old)
    have HW' := Lib.hid (HR'.out.below h7.old)
    clear h7
    go_wp2_with (first | (refine wpList_make64 rfl _ _ rfl rfl rfl ?_) | (refine wpList_arr_copy rfl _ _ 31 31 rfl 5 Try.underlying31 size5 w7.heap.size 64 64 rfl A n c rfl Pl.zs 5 (by rw [alloc_block_old (by rw [World.size_alloc]; omega)]; exact alloc_block) w.heap.size a (HW.out.kept fun i hi => by rw [alloc_block_old (by rw [World.size_alloc]; omega), alloc_block_old (by omega)]) HN.out (by rw [Pl.sec_zs.1]; exact Nat.le_refl _) n (Nat.min_eq_left h) ?_; rw [pad_headed HN.out]) |
      (refine wpList_arr_copy rfl _ _ 31 31 rfl 5 Try.underlying31 size5 (w7.heap.size + 1) 64 64 rfl A' n' c' rfl Pl.zs 5 (by rw [boxed_block_other (by omega)]; exact alloc_at (by rw [World.size_alloc])) w.heap.size b (HW'.out.kept fun i hi => by rw [boxed_block_other (by omega), alloc_block_old (by rw [World.size_alloc]; omega), alloc_block_old (by omega)]) HN'.out (by rw [Pl.sec_zs.1]; exact Nat.le_refl _) n' (Nat.min_eq_left h') ?_; rw [pad_headed HN'.out]))
    have hb8 : Below w7.heap.size w7 (boxed (boxed ((w7.alloc (.cells (arr Pl.zs) 5)).alloc (.cells (arr Pl.zs) 5)) w7.heap.size (arr (Pl.pad a)) 5) (w7.heap.size + 1) (arr (Pl.pad b)) 5) :=
      boxed_below (boxed_below (((Below.refl _ _).alloc (Nat.le_refl _) _).alloc (by rw [World.size_alloc]; omega) _) (Nat.le_refl _)) (Nat.le_succ _)
    have hc8 : (boxed (boxed ((w7.alloc (.cells (arr Pl.zs) 5)).alloc (.cells (arr Pl.zs) 5)) w7.heap.size (arr (Pl.pad a)) 5) (w7.heap.size + 1) (arr (Pl.pad b)) 5).heap[w7.heap.size]? = some (.cells (arr (Pl.pad a)) 5 (0, 0)) := by
      rw [boxed_block_other (by omega), boxed_block (by rw [World.size_alloc, World.size_alloc]; omega)]
    have hd8 : (boxed (boxed ((w7.alloc (.cells (arr Pl.zs) 5)).alloc (.cells (arr Pl.zs) 5)) w7.heap.size (arr (Pl.pad a)) 5) (w7.heap.size + 1) (arr (Pl.pad b)) 5).heap[w7.heap.size + 1]? = some (.cells (arr (Pl.pad b)) 5 (0, 0)) :=
      boxed_block (by rw [boxed_size, World.size_alloc, World.size_alloc]; omega)
    generalize boxed (boxed ((w7.alloc (.cells (arr Pl.zs) 5)).alloc (.cells (arr Pl.zs) 5)) w7.heap.size (arr (Pl.pad a)) 5) (w7.heap.size + 1) (arr (Pl.pad b)) 5 = w8 at *
    have H8 := Lib.hid (H7.out.below hb8)
    have hne : 0 < ((Pl.St.new (1 + (x : Int) % 3)).put 0 a).flush.safe.length := by rw [P1.out.2]; simp; omega
    refine (H8.out.same hne).mono ?_
    rintro e w9 ⟨rfl, hb9⟩
    have H9 := Lib.hid (H8.out.below hb9)
    have HOLD9 := Lib.hid H9.out.old
    have hc9 := (hb9.block _ (Array.getElem?_eq_some_iff.1 hc8).1).trans hc8
    have hd9 := (hb9.block _ (Array.getElem?_eq_some_iff.1 hd8).1).trans hd8
    have hpa : Pl.Sec (Pl.pad a) := Pl.sec_pad (by rw [HN.out]; exact h) HO.out
    have hpb : Pl.Sec (Pl.pad b) := Pl.sec_pad (by rw [HN'.out]; exact h') HB.out
    have hk1 : (convert 31 9 (.slice (some ⟨w7.heap.size, 0, none⟩) 64 64)).run Try.prog w9 = .ok (.string (bst (Pl.pad a))) w9 := conv_len _ _ _ 64 64 _ (rd_block hc9) hpa.1
    have hk2 : (convert 31 9 (.slice (some ⟨w7.heap.size + 1, 0, none⟩) 64 64)).run Try.prog w9 = .ok (.string (bst (Pl.pad b))) w9 := conv_len _ _ _ 64 64 _ (rd_block hd9) hpb.1
    have HINJ := Lib.hid (bst_beq hpa.2 hpb.2)
    clear hb8 hc8 hd8 hb9 hc9 hd9
    by_cases hxy : (x : Int) % 3 = (y : Int) % 3
    · have dxy : ((x : Int) % 3 == (y : Int) % 3) = true := by simpa using hxy
      have hD : decide (((Pl.St.new (1 + (x : Int) % 3)).put 0 a).flush.safe = ((Pl.St.new (1 + (y : Int) % 3)).put 0 b).flush.safe) = decide (Pl.pad a = Pl.pad b) := by
        rw [decide_eq_decide, P1.out.2, P2.out.2, same_safe h1.1 h2.1]
        exact ⟨fun h => h.2, fun h => ⟨by omega, h⟩⟩
      rw [hD]
      clear hD
      have hbb := HINJ.out
      go_wp2_with (go_at_call 19; refine (H9.out.self hne).mono ?_; rintro e w10 ⟨rfl, hb10⟩)
      go_ret
      exact ⟨by first | rfl | exact ret_bool (by simp), HOLD9.out.trans (hb10.mono HOLD9.out.size)⟩
    · have dxy : ((x : Int) % 3 == (y : Int) % 3) = false := by simpa using hxy
      have hD : decide (((Pl.St.new (1 + (x : Int) % 3)).put 0 a).flush.safe = ((Pl.St.new (1 + (y : Int) % 3)).put 0 b).flush.safe) = false := by
        rw [decide_eq_false_iff_not, P1.out.2, P2.out.2, same_safe h1.1 h2.1]
        exact fun h => hxy (by omega)
      rw [hD]
      clear hD
      go_wp2_with (go_at_call 19; refine (H9.out.self hne).mono ?_; rintro e w10 ⟨rfl, hb10⟩)
      go_ret
      exact ⟨rfl, HOLD9.out.trans (hb10.mono HOLD9.out.size)⟩

set_option maxHeartbeats 1600000 in
theorem plateSame_far (A A' : Option Addr) (n c n' c' : Nat) (x y : Int) (fl : Bool) (w : World) (h : 64 < n ∨ 64 < n') :
    Calls Try.prog 6 #[.slice A n c, .slice A' n' c', .int .u8 x, .int .u8 y, .bool fl] w fun e w' => e = .returned (.bool true) ∧ Below w.heap.size w w' := by
  cases d1 : decide ((64 : Int) < (n : Int))
  · have d2 : decide ((64 : Int) < (n' : Int)) = true := by simp at d1 ⊢; omega
    go_enter Try.func6, Try.ntmps6
    go_wp2_with (fail)
    refine (awake_any _).mono ?_
    rintro e w1 ⟨rfl, hb1⟩
    go_wp2_with (fail)
    refine (awake_any _).mono ?_
    rintro e w2 ⟨rfl, hb2⟩
    go_wp2
    go_ret
    exact ⟨rfl, hb1.trans (hb2.mono hb1.size)⟩
  · go_enter Try.func6, Try.ntmps6
    go_wp2_with (fail)
    refine (awake_any _).mono ?_
    rintro e w1 ⟨rfl, hb1⟩
    go_wp2_with (fail)
    refine (awake_any _).mono ?_
    rintro e w2 ⟨rfl, hb2⟩
    go_wp2
    go_ret
    exact ⟨rfl, hb1.trans (hb2.mono hb1.size)⟩
theorem plateSame_walk {w : World} (A : Option Addr) (c : Nat) (a : List Int) (hr : Rd w .u8 w.heap.size A a) (ho : ∀ x ∈ a, (Lit.int .u8 x).wf = true) (A' : Option Addr) (c' : Nat) (b : List Int) (hr' : Rd w .u8 w.heap.size A' b) (hb : ∀ x ∈ b, (Lit.int .u8 x).wf = true) (x : Int) (hx : (Lit.int .u8 x).wf = true) (y : Int) (hy : (Lit.int .u8 y).wf = true) (fl : Bool) :
    Calls Try.prog 6 #[.slice A a.length c, .slice A' b.length c', .int .u8 x, .int .u8 y, .bool fl] w fun e w' => e = .returned (.bool true) ∧ Below w.heap.size w w' := by
  obtain ⟨x0, x1⟩ := wf_u8 hx
  obtain ⟨y0, y1⟩ := wf_u8 hy
  by_cases h : 64 < a.length ∨ 64 < b.length
  · exact plateSame_far _ _ _ _ _ _ _ _ _ _ h
  · obtain ⟨n, rfl⟩ : ∃ n : Nat, x = n := ⟨x.toNat, by omega⟩
    obtain ⟨m, rfl⟩ : ∃ m : Nat, y = m := ⟨y.toNat, by omega⟩
    exact plateSame_in _ _ _ _ _ _ a b n m fl w hr (bytesOk_of_wf ho) rfl (by omega) hr' (bytesOk_of_wf hb) rfl (by omega) (by omega) (by omega)
end Go.Proofs.Ytnplnggkeekedaa
