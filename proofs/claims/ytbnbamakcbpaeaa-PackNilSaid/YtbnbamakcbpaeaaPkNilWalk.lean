/-
  The walk of the law PackNil: it returns true, whatever the input, and makes new blocks alone. No conditions.
-/
import Derived.Test.YtbnbamakcbpaeaaPkAwake
import Derived.Test.YtbnbamakcbpaeaaPkRow
namespace Go.Proofs.Ytbnbamakcbpaeaa
open Go.ChangeShapes Go.WideShapes Go.ChangeAt Go.RowKit

set_option maxHeartbeats 1000000 in
theorem packNil_out (A : Option Addr) (c : Nat) (l : List Int) (n : Int) (w : World) (h : l.length = 0 ∨ 50 < l.length) :
    Calls Try.prog 8 #[.slice A l.length c, .int .i64 n] w fun e w' => e = .returned (.bool true) ∧ Below w.heap.size w w' := by
  rcases h with h | h
  · have z : ((l.length : Int) == 0) = true := beq_iff_eq.2 (by omega)
    have z' : (l.length == 0) = true := beq_iff_eq.2 (by omega)
    have z2 : l = [] := List.eq_nil_of_length_eq_zero h
    subst z2
    clear h
    go_enter Try.func8, Try.ntmps8
    go_wp2_with (fail)
    refine (awake_any _).mono ?_
    rintro e w1 ⟨rfl, hb1⟩
    go_wp2_with (fail)
    refine (awake_any _).mono ?_
    rintro e w2 ⟨rfl, hb2⟩
    go_wp2
    go_ret
    exact ⟨rfl, hb1.trans (hb2.mono hb1.size)⟩
  · have z : ((l.length : Int) == 0) = false := beq_eq_false_iff_ne.2 (by omega)
    have t : decide ((50 : Int) < (l.length : Int)) = true := by simp; omega
    have z3 : l ≠ [] := by rintro rfl; simp at h
    clear h
    go_enter Try.func8, Try.ntmps8
    go_wp2_with (fail)
    refine (awake_any _).mono ?_
    rintro e w1 ⟨rfl, hb1⟩
    go_wp2_with (fail)
    refine (awake_any _).mono ?_
    rintro e w2 ⟨rfl, hb2⟩
    go_wp2
    go_ret
    exact ⟨rfl, hb1.trans (hb2.mono hb1.size)⟩

theorem bytes_put_len (w : World) (R g B m : Nat) (l p : List Int) (A : Option Addr) (c : Nat) (h : PB w R g l) (hr : Rd w .u8 B A p) (hB : B ≤ R) (hl : l.length ≤ 90000) (hp : p.length ≤ 1000) (h3 : ∀ x ∈ p, 0 ≤ x ∧ x < 256) (hm : p.length = m) :
    Calls Try.prog 23 #[.pointer (some ⟨g, 0, none⟩), .slice A m c] w (PutP w R g (l ++ Pk.enc (Pk.zig m) ++ p)) := by subst hm; exact bytes_put w R g B l p A c h hr hB hl hp h3
/-- A cell of a row of the call's own, by its block. -/
theorem own_cell {w : World} {base n c j : Nat} {A : Option Addr} {l : List Int} (h : w.ownsRow base 5 1 (.slice A n c) n (cl .u8 l)) (hj : j < n) (hn : l.length = n) :
    ∃ b x, A = some ⟨b, 0, none⟩ ∧ base ≤ b ∧ b < w.heap.size ∧ w.cell? ⟨b, j, none⟩ = some (.int .u8 x) ∧ w.frozen? ⟨b, j, none⟩ = false ∧ l[j]? = some x := by
  have hx : l[j]? = some l[j] := List.getElem?_eq_getElem (by omega)
  rcases h.2 with ⟨hv, h0⟩ | ⟨g, cap, cur, hv, hb, hg, _⟩
  · omega
  · injection hv with hA _ _
    subst hA
    have hc := h.cells (g := g) rfl j (.int .u8 l[j]) (by unfold cl; rw [List.getElem?_map, hx]; rfl)
    rw [ad_head] at hc
    exact ⟨g, l[j], rfl, hb, (Array.getElem?_eq_some_iff.1 hg).1, hc, by simp [World.frozen?, hg], hx⟩

set_option maxHeartbeats 4000000 in
theorem packNil_in (A : Option Addr) (c : Nat) (l : List Int) (n : Int) (w : World) (hr : Rd w .u8 w.heap.size A l) (hb : ∀ x ∈ l, 0 ≤ x ∧ x < 256) (m : Nat) (hm : l.length = m) (h0 : 1 ≤ m) (h1 : m ≤ 50) :
    Calls Try.prog 8 #[.slice A m c, .int .i64 n] w fun e w' => e = .returned (.bool true) ∧ Below w.heap.size w w' := by
  have z : ((m : Int) == 0) = false := beq_eq_false_iff_ne.2 (by omega)
  have t : decide ((50 : Int) < (m : Int)) = false := by simp; omega
  have HR := Lib.hid hr
  have HB := Lib.hid hb
  have HM := Lib.hid hm
  have h11 := Pk.enc_eleven (Pk.zig_lt (l.length : Int) (by omega) (by omega))
  have H11 := Lib.hid h11
  have hpos := Pk.enc_pos (Pk.zig (l.length : Int))
  have HPOS := Lib.hid hpos
  clear hr hb hm h11 hpos
  go_enter Try.func8, Try.ntmps8
  go_wp2_with (fail)
  refine (awake_any _).mono ?_
  rintro e1 w1 ⟨rfl, hb1⟩
  have H1 := Lib.hid hb1
  clear hb1
  have key : ∀ v' w2, Grew w1 w1.heap.size (.slice none 0 0) ([] ++ l) v' w2 → ∃ A2 c2, v' = .slice A2 m c2 ∧ Hid (Below w1.heap.size w1 w2) ∧ Hid (Rd w2 .u8 w2.heap.size A2 l) := by
    intro v' w2 hg
    obtain ⟨A2, c2, rfl, -, -⟩ := own_form hg.own
    exact ⟨A2, c2, by rw [List.nil_append, HM.out], hg.below0, Rd.own hg.own⟩
  have KEY := Lib.hid key
  clear key
  go_wp2_with (at_builtin; refine wpList_append_rd rfl _ _ rfl rfl w1.heap.size _ [] l _ A c rfl (by rw [HM.out]; rfl) (World.ownsRow_nil _ _ _ _) (HR.out.below H1.out) (by rw [HM.out]; simp; omega) (Nat.le_refl _) ?_; intro v' w2 hg; obtain ⟨A2, c2, rfl, H2, HR2⟩ := KEY.out _ _ hg; clear hg KEY)
  refine (new_any _).mono ?_
  rintro e3 w3 ⟨rfl, rfl⟩
  go_wp2_with (fail)
  have hpb := pb_new w2 w2.heap.size (Nat.le_refl _)
  have HPB := Lib.hid hpb
  clear hpb
  refine (bytes_put_len _ w2.heap.size w2.heap.size w2.heap.size m [] l A2 c2 HPB.out (HR2.out.below ((Below.refl _ _).alloc (Nat.le_refl _) _)) (Nat.le_refl _) (by simp) (by rw [HM.out]; omega) HB.out HM.out).mono ?_
  rintro e4 w4 ⟨rfl, hp4⟩
  have HP4 : Hid (PB w4 w2.heap.size w2.heap.size (Pk.enc (Pk.zig m) ++ l)) := hp4.box
  have H4 : Hid (Below w2.heap.size w2 w4) := ((Below.refl _ _).alloc (Nat.le_refl _) _).trans hp4.below
  have hL : (Pk.enc (Pk.zig (m : Int)) ++ l).length ≤ 900000 := by rw [List.length_append, HM.out]; have := H11.out; rw [HM.out] at this; omega
  have hL1 : 1 ≤ (Pk.enc (Pk.zig (m : Int)) ++ l).length := by rw [List.length_append, HM.out]; omega
  generalize Pk.enc (Pk.zig (m : Int)) ++ l = L at *
  clear hp4 HPB
  go_wp2_with (fail)
  refine (done_put _ _ _ _ HP4.out hL).mono ?_
  intro e5 w5 hO
  obtain ⟨A5, k, c5, rfl, HN5, HO5, H5, HR5, h51, h52⟩ := hO.open_
  clear hO
  obtain ⟨j, rfl⟩ : ∃ j, k = j + 1 := ⟨k - 1, by have := HN5.out; omega⟩
  obtain ⟨b, x, rfl, hb4, hb5, hc, hf, hx⟩ := own_cell HO5.out (Nat.lt_succ_self j) HN5.out
  have HX := Lib.hid hx
  have hcv := conv_len w5 _ _ c5 (j + 1) _ HR5.out HN5.out
  have hj : j ≤ 900000 := by have := HN5.out; omega
  clear hx
  go_wp2_with (fail)
  refine (put_nil _ _).mono ?_
  rintro e6 w6 ⟨rfl, rfl⟩
  go_wp2_with (fail)
  refine (flag_put_nil _ _).mono ?_
  rintro e7 w7 ⟨rfl, hb7⟩
  have h45 : w4.heap.size ≤ w5.heap.size := H5.out.size
  have h7 : Below w4.heap.size w4 w7 := ((H5.out.setCell hb4 _).alloc (by simp [World.setCell]; exact h45) _).trans (hb7.mono (by simp [World.setCell]; omega))
  have H7 := Lib.hid h7
  have HP7 : Hid (PB w7 w2.heap.size w2.heap.size L) := HP4.out.below h7
  clear hb7 h7 hcv hc hf
  go_wp2_with (fail)
  refine (bytes_put_nil _ _).mono ?_
  rintro e8 w8 ⟨rfl, rfl⟩
  go_wp2_with (fail)
  refine (done_nil _).mono ?_
  rintro e8 w8 ⟨rfl, rfl⟩
  go_wp2_with (fail)
  refine (get_nil _ _ _).mono ?_
  rintro e8 w8 ⟨rfl, rfl⟩
  go_wp2_with (fail)
  refine (flag_nil _).mono ?_
  rintro e8 w8 ⟨rfl, rfl⟩
  go_wp2_with (fail)
  refine (bytes_nil _ _).mono ?_
  rintro e8 w8 ⟨rfl, rfl⟩
  go_wp2_with (fail)
  refine (left_nil _).mono ?_
  rintro e8 w8 ⟨rfl, rfl⟩
  go_wp2_with (fail)
  refine (fault_nil _).mono ?_
  rintro e8 w8 ⟨rfl, rfl⟩
  go_wp2_with (fail)
  refine (end_nil _).mono ?_
  rintro e8 w8 ⟨rfl, rfl⟩
  go_wp2_with (fail)
  refine (done_put _ _ _ _ HP7.out hL).mono ?_
  intro e9 w9 hO
  obtain ⟨A9, k9, c9, rfl, HN9, HO9, H9, HR9, h91, h92⟩ := hO.open_
  clear hO
  have hcv9 := conv_len w9 _ _ c9 k9 _ HR9.out HN9.out
  go_wp2
  go_ret
  have h04 : Below w.heap.size w w4 := (H1.out.trans (H2.out.mono H1.out.size)).trans (H4.out.mono (Nat.le_trans H1.out.size H2.out.size))
  exact ⟨rfl, (h04.trans (H7.out.mono h04.size)).trans (H9.out.mono (Nat.le_trans h04.size H7.out.size))⟩

theorem packNil_walk (A : Option Addr) (c : Nat) (l : List Int) (w : World) (hr : Rd w .u8 w.heap.size A l) (hb : ∀ x ∈ l, (Lit.int .u8 x).wf = true) (n : Int) (_ : (Lit.int .i64 n).wf = true) :
    Calls Try.prog 8 #[.slice A l.length c, .int .i64 n] w fun e w' => e = .returned (.bool true) ∧ Below w.heap.size w w' := by
  by_cases h : l.length = 0 ∨ 50 < l.length
  · exact packNil_out A c l n w h
  · exact packNil_in A c l n w hr (fun x hx => wf_u8 (hb x hx)) l.length rfl (by omega) (by omega)
end Go.Proofs.Ytbnbamakcbpaeaa
