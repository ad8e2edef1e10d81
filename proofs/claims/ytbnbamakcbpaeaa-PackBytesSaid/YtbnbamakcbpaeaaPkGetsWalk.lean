/-
  The walk of the law PackGets: it returns true, whatever the input, and makes new blocks alone. No conditions.
-/
import Derived.Test.YtbnbamakcbpaeaaPkAwake
import Derived.Test.YtbnbamakcbpaeaaPkRow
namespace Go.Proofs.Ytbnbamakcbpaeaa
open Go.ChangeShapes Go.WideShapes Go.ChangeAt Go.RowKit

def BytesOk (l : List Int) : Prop := ∀ x ∈ l, 0 ≤ x ∧ x < 256

set_option maxHeartbeats 1000000 in
theorem packGets_long (A : Option Addr) (c : Nat) (l : List Int) (lo hi : Int) (w : World) (hl : 50 < l.length) :
    Calls Try.prog 4 #[.slice A l.length c, .int .i64 lo, .int .i64 hi] w fun e w' => e = .returned (.bool true) ∧ Below w.heap.size w w' := by
  have t : decide ((50 : Int) < (l.length : Int)) = true := by simp; omega
  clear hl
  go_enter Try.func4, Try.ntmps4
  go_wp2_with (fail)
  refine (awake_any _).mono ?_
  rintro e w1 ⟨rfl, hb1⟩
  go_wp2_with (fail)
  refine (awake_any _).mono ?_
  rintro e w2 ⟨rfl, hb2⟩
  go_wp2
  go_ret
  exact ⟨rfl, hb1.trans (hb2.mono hb1.size)⟩

/-- Up to the number that is told. -/
theorem packGets_bad (A : Option Addr) (c : Nat) (l : List Int) (lo hi : Int) (w : World) (hr : Rd w .u8 w.heap.size A l) (hb : BytesOk l) (hl : l.length ≤ 50) (n e : Int) (k : Nat) (hd : Pk.dec 0 0 l = (n, k, e)) (he : e ≠ 0) :
    Calls Try.prog 4 #[.slice A l.length c, .int .i64 lo, .int .i64 hi] w fun e w' => e = .returned (.bool true) ∧ Below w.heap.size w w' := by
  have t : decide ((50 : Int) < (l.length : Int)) = false := by simp; omega
  have z : (e == 0) = false := by simpa using he
  have z' : (e != 0) = true := by simpa using he
  have HR := Lib.hid hr
  have HB := Lib.hid hb
  have HD := Lib.hid hd
  have HV := Lib.hid (decV_eq hd)
  have HE := Lib.hid he
  clear hr hb hd he
  go_enter Try.func4, Try.ntmps4
  go_wp2_with (fail)
  refine (awake_any _).mono ?_
  rintro e1 w1 ⟨rfl, hb1⟩
  have H1 := Lib.hid hb1
  clear hb1
  go_wp2_with (fail)
  refine (of_any _ _ _ _ _ (HR.out.below H1.out) H1.out.size (by omega) HB.out).mono ?_
  rintro e2 w2 ⟨g, rfl, hg, hb2, hlt⟩
  have HG := Lib.hid hg
  have H2 := Lib.hid hb2
  clear hg hb2
  go_wp2_with (fail)
  refine (get_bad _ _ _ _ _ _ _ _ HG.out HD.out HE.out).mono ?_
  rintro e3 w3 ⟨rfl, hgr, hg3⟩
  have H3 : Hid (Below w1.heap.size w2 w3) := grown_below hgr hlt H2.out.size
  have HX : Hid (Below w.heap.size w w3) := (H1.out.trans (H2.out.mono H1.out.size)).trans (H3.out.mono H1.out.size)
  obtain ⟨A3, c3, hx3, -⟩ := hg3
  have HX3 := Lib.hid hx3
  clear hgr hx3
  go_wp2_with (fail)
  refine (unpack_any _ _ _ _ _ (HR.out.below HX.out) HB.out).mono ?_
  rintro e4 w4 ⟨rfl, rfl⟩
  rw [HV.out]
  go_wp2_with (first
    | (go_at_call 20; refine (fault_box _ _ _ _ HX3.out).mono ?_; rintro e5 w5 ⟨rfl, rfl⟩)
    | (go_at_call 15; refine (get_fault _ _ _ _ _ _ HX3.out HE.out).mono ?_; rintro e5 w5 ⟨rfl, rfl⟩)
    | (go_at_call 17; refine (end_fault _ _ _ _ HX3.out HE.out).mono ?_; rintro e5 w5 ⟨rfl, rfl⟩)
    | (go_at_call 21; refine (flag_fault _ _ _ _ HX3.out HE.out).mono ?_; rintro e5 w5 ⟨rfl, rfl⟩)
    | (go_at_call 22; refine (bytes_fault _ _ _ _ _ HX3.out HE.out).mono ?_; rintro e5 w5 ⟨rfl, rfl⟩))
  go_ret
  exact ⟨rfl, HX.out⟩

set_option maxHeartbeats 1000000 in
theorem packGets_out (A : Option Addr) (c : Nat) (l : List Int) (lo hi : Int) (w : World) (hr : Rd w .u8 w.heap.size A l) (hb : BytesOk l) (hl : l.length ≤ 50) (n : Int) (k : Nat) (hd : Pk.dec 0 0 l = (n, k, 0)) (he : n < lo ∨ hi < n) :
    Calls Try.prog 4 #[.slice A l.length c, .int .i64 lo, .int .i64 hi] w fun e w' => e = .returned (.bool true) ∧ Below w.heap.size w w' := by
  have t : decide ((50 : Int) < (l.length : Int)) = false := by simp; omega
  have HR := Lib.hid hr
  have HB := Lib.hid hb
  have HD := Lib.hid hd
  have HV := Lib.hid (decV_eq hd)
  have HE := Lib.hid he
  have H1' : Hid ((1 : Int) ≠ 0) := Lib.hid (by decide)
  clear hr hb hd
  by_cases tl : n < lo
  all_goals
    first | (have t1 : decide (n < lo) = true := by simpa using tl) | (have t1 : decide (n < lo) = false := by simpa using tl)
    first | (have t2 : decide (hi < n) = true := by simp; omega) | skip
    clear he tl
    go_enter Try.func4, Try.ntmps4
    go_wp2_with (fail)
    refine (awake_any _).mono ?_
    rintro e1 w1 ⟨rfl, hb1⟩
    have H1 := Lib.hid hb1
    clear hb1
    go_wp2_with (fail)
    refine (of_any _ _ _ _ _ (HR.out.below H1.out) H1.out.size (by omega) HB.out).mono ?_
    rintro e2 w2 ⟨g, rfl, hg, hb2, hlt⟩
    have HG := Lib.hid hg
    have H2 := Lib.hid hb2
    clear hg hb2
    go_wp2_with (fail)
    refine (get_out _ _ _ _ _ _ _ HG.out HD.out HE.out).mono ?_
    rintro e3 w3 ⟨rfl, hgr, hg3⟩
    have H3 : Hid (Below w1.heap.size w2 w3) := grown_below hgr hlt H2.out.size
    have HX : Hid (Below w.heap.size w w3) := (H1.out.trans (H2.out.mono H1.out.size)).trans (H3.out.mono H1.out.size)
    obtain ⟨A3, c3, hx3, -⟩ := hg3
    have HX3 := Lib.hid hx3
    clear hgr hx3
    go_wp2_with (fail)
    refine (unpack_any _ _ _ _ _ (HR.out.below HX.out) HB.out).mono ?_
    rintro e4 w4 ⟨rfl, rfl⟩
    rw [HV.out]
    go_wp2_with (first
      | (go_at_call 20; refine (fault_box _ _ _ _ HX3.out).mono ?_; rintro e5 w5 ⟨rfl, rfl⟩)
      | (go_at_call 15; refine (get_fault _ _ _ _ _ _ HX3.out H1'.out).mono ?_; rintro e5 w5 ⟨rfl, rfl⟩)
      | (go_at_call 17; refine (end_fault _ _ _ _ HX3.out H1'.out).mono ?_; rintro e5 w5 ⟨rfl, rfl⟩)
      | (go_at_call 21; refine (flag_fault _ _ _ _ HX3.out H1'.out).mono ?_; rintro e5 w5 ⟨rfl, rfl⟩)
      | (go_at_call 22; refine (bytes_fault _ _ _ _ _ HX3.out H1'.out).mono ?_; rintro e5 w5 ⟨rfl, rfl⟩))
    go_ret
    exact ⟨rfl, HX.out⟩

set_option maxHeartbeats 1000000 in
theorem packGets_ok (A : Option Addr) (c : Nat) (l : List Int) (lo hi : Int) (w : World) (hr : Rd w .u8 w.heap.size A l) (hb : BytesOk l) (hl : l.length ≤ 50) (n : Int) (k : Nat) (hd : Pk.dec 0 0 l = (n, k, 0)) (h0 : lo ≤ n) (h1 : n ≤ hi) :
    Calls Try.prog 4 #[.slice A l.length c, .int .i64 lo, .int .i64 hi] w fun e w' => e = .returned (.bool true) ∧ Below w.heap.size w w' := by
  have t : decide ((50 : Int) < (l.length : Int)) = false := by simp; omega
  have t1 : decide (n < lo) = false := by simpa using h0
  have t2 : decide (hi < n) = false := by simpa using h1
  have hk := (Pk.dec_le l 0 0 (by omega) (fun x hx => (hb x hx).1) (by simp)).1
  rw [hd] at hk
  simp at hk
  have HR := Lib.hid hr
  have HB := Lib.hid hb
  have HD := Lib.hid hd
  have HV := Lib.hid (decV_eq hd)
  clear hr hb hd
  go_enter Try.func4, Try.ntmps4
  go_wp2_with (fail)
  refine (awake_any _).mono ?_
  rintro e1 w1 ⟨rfl, hb1⟩
  have H1 := Lib.hid hb1
  clear hb1
  go_wp2_with (fail)
  refine (of_any _ _ _ _ _ (HR.out.below H1.out) H1.out.size (by omega) HB.out).mono ?_
  rintro e2 w2 ⟨g, rfl, hg, hb2, hlt⟩
  have HG := Lib.hid hg
  have H2 := Lib.hid hb2
  clear hg hb2
  go_wp2_with (fail)
  refine (get_ok _ _ _ _ _ _ _ HG.out HD.out h0 h1).mono ?_
  rintro e3 w3 ⟨rfl, hgr, hg3⟩
  have H3 : Hid (Below w1.heap.size w2 w3) := grown_below hgr hlt H2.out.size
  have HX : Hid (Below w.heap.size w w3) := (H1.out.trans (H2.out.mono H1.out.size)).trans (H3.out.mono H1.out.size)
  obtain ⟨A3, c3, hx3, -⟩ := hg3
  rw [List.length_drop] at hx3
  have HX3 := Lib.hid hx3
  clear hgr hx3
  go_wp2_with (fail)
  refine (unpack_any _ _ _ _ _ (HR.out.below HX.out) HB.out).mono ?_
  rintro e4 w4 ⟨rfl, rfl⟩
  rw [HV.out]
  go_wp2_with (first
    | (go_at_call 20; refine (fault_box _ _ _ _ HX3.out).mono ?_; rintro e5 w5 ⟨rfl, rfl⟩)
    | (go_at_call 18; refine (left_box _ _ _ _ _ _ HX3.out).mono ?_; rintro e5 w5 ⟨rfl, rfl⟩))
  go_ret
  exact ⟨ret_bool (by simp; omega), HX.out⟩

theorem packGets_walk (A : Option Addr) (c : Nat) (l : List Int) (w : World) (hr : Rd w .u8 w.heap.size A l) (hb : ∀ x ∈ l, (Lit.int .u8 x).wf = true) (lo : Int) (_ : (Lit.int .i64 lo).wf = true) (hi : Int) (_ : (Lit.int .i64 hi).wf = true) :
    Calls Try.prog 4 #[.slice A l.length c, .int .i64 lo, .int .i64 hi] w fun e w' => e = .returned (.bool true) ∧ Below w.heap.size w w' := by
  have hB : BytesOk l := fun x hx => wf_u8 (hb x hx)
  by_cases hl : 50 < l.length
  · exact packGets_long A c l lo hi w hl
  · rcases hd : Pk.dec 0 0 l with ⟨n, k, e⟩
    by_cases he : e = 0
    · subst he
      by_cases h : lo ≤ n ∧ n ≤ hi
      · exact packGets_ok A c l lo hi w hr hB (by omega) n k hd h.1 h.2
      · exact packGets_out A c l lo hi w hr hB (by omega) n k hd (by omega)
    · exact packGets_bad A c l lo hi w hr hB (by omega) n e k hd he
end Go.Proofs.Ytbnbamakcbpaeaa
