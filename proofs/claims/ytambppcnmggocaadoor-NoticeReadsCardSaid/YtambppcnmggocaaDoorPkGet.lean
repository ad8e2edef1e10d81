/-
  Contracts of a box's methods that tell and take: its fault, what is left, the next number, truth or bytes. No conditions but that the box is one, or nil.
-/
import Derived.Test.YtambppcnmggocaaDoorPkDec
import Derived.Test.YtambppcnmggocaaDoorPkBuf
namespace Go.Proofs.YtambppcnmggocaaDoor
open Go.ChangeShapes Go.WideShapes Go.ChangeAt Go.RowKit

theorem fault_nil (w : World) : Calls Tryd.prog 35 #[.pointer none] w fun e w' => e = .returned (.int .i64 2) ∧ w = w' := by
  go_enter Tryd.func35, Tryd.ntmps35
  go_wp2
  go_ret
  exact ⟨rfl, rfl⟩
theorem fault_box (w : World) (g : Nat) (v : Value) (f : Int) (h : Bx w g v f) : Calls Tryd.prog 35 #[.pointer (some ⟨g, 0, none⟩)] w fun e w' => e = .returned (.int .i64 f) ∧ w = w' := by
  obtain ⟨w0, rfl, hg⟩ := h.boxed
  clear h
  go_enter Tryd.func35, Tryd.ntmps35
  go_wp2
  go_ret
  exact ⟨rfl, rfl⟩
theorem left_nil (w : World) : Calls Tryd.prog 36 #[.pointer none] w fun e w' => e = .returned (.int .i64 0) ∧ w = w' := by
  go_enter Tryd.func36, Tryd.ntmps36
  go_wp2
  go_ret
  exact ⟨rfl, rfl⟩
theorem left_box (w : World) (g : Nat) (A : Option Addr) (n c : Nat) (f : Int) (h : Bx w g (.slice A n c) f) : Calls Tryd.prog 36 #[.pointer (some ⟨g, 0, none⟩)] w fun e w' => e = .returned (.int .i64 n) ∧ w = w' := by
  obtain ⟨w0, rfl, hg⟩ := h.boxed
  clear h
  go_enter Tryd.func36, Tryd.ntmps36
  go_wp2
  go_ret
  exact ⟨rfl, rfl⟩
theorem end_nil (w : World) : Calls Tryd.prog 20 #[.pointer none] w fun e w' => e = .returned (.int .i64 2) ∧ w = w' := by
  go_enter Tryd.func20, Tryd.ntmps20
  go_wp2_with (go_at_call 35; refine (fault_nil _).mono ?_; rintro e w' ⟨rfl, rfl⟩)
  go_ret
  exact ⟨rfl, rfl⟩
theorem end_fault (w : World) (g : Nat) (v : Value) (f : Int) (h : Bx w g v f) (hf : f ≠ 0) : Calls Tryd.prog 20 #[.pointer (some ⟨g, 0, none⟩)] w fun e w' => e = .returned (.int .i64 f) ∧ w = w' := by
  have z : (f != 0) = true := by simpa using hf
  have H := Lib.hid h
  clear h hf
  go_enter Tryd.func20, Tryd.ntmps20
  go_wp2_with (go_at_call 35; refine (fault_box _ _ _ _ H.out).mono ?_; rintro e w' ⟨rfl, rfl⟩)
  go_ret
  exact ⟨rfl, rfl⟩
theorem end_ok (w : World) (g : Nat) (A : Option Addr) (n c : Nat) (h : Bx w g (.slice A n c) 0) : Calls Tryd.prog 20 #[.pointer (some ⟨g, 0, none⟩)] w fun e w' => e = .returned (.int .i64 (if n = 0 then 0 else 4)) ∧ w = w' := by
  have H := Lib.hid h
  clear h
  by_cases hn : n = 0
  · subst hn
    go_enter Tryd.func20, Tryd.ntmps20
    go_wp2_with (first | (go_at_call 35; refine (fault_box _ _ _ _ H.out).mono ?_; rintro e w' ⟨rfl, rfl⟩) | (go_at_call 36; refine (left_box _ _ _ _ _ _ H.out).mono ?_; rintro e w' ⟨rfl, rfl⟩))
    go_ret
    exact ⟨rfl, rfl⟩
  · have t : decide ((0 : Int) < n) = true := by simp; omega
    go_enter Tryd.func20, Tryd.ntmps20
    go_wp2_with (first | (go_at_call 35; refine (fault_box _ _ _ _ H.out).mono ?_; rintro e w' ⟨rfl, rfl⟩) | (go_at_call 36; refine (left_box _ _ _ _ _ _ H.out).mono ?_; rintro e w' ⟨rfl, rfl⟩))
    go_ret
    exact ⟨rfl, rfl⟩

theorem get_nil (w : World) (lo hi : Int) : Calls Tryd.prog 33 #[.pointer none, .int .i64 lo, .int .i64 hi] w fun e w' => e = .returned (.int .i64 0) ∧ w = w' := by
  go_enter Tryd.func33, Tryd.ntmps33
  go_wp2_with (go_at_call 35; refine (fault_nil _).mono ?_; rintro e w' ⟨rfl, rfl⟩)
  go_ret
  exact ⟨rfl, rfl⟩
theorem get_fault (w : World) (g : Nat) (v : Value) (f lo hi : Int) (h : Bx w g v f) (hf : f ≠ 0) : Calls Tryd.prog 33 #[.pointer (some ⟨g, 0, none⟩), .int .i64 lo, .int .i64 hi] w fun e w' => e = .returned (.int .i64 0) ∧ w = w' := by
  have z : (f != 0) = true := by simpa using hf
  have H := Lib.hid h
  clear h hf
  go_enter Tryd.func33, Tryd.ntmps33
  go_wp2_with (go_at_call 35; refine (fault_box _ _ _ _ H.out).mono ?_; rintro e w' ⟨rfl, rfl⟩)
  go_ret
  exact ⟨rfl, rfl⟩

/-- What is told, and the box behind it. -/
def Got (w : World) (g : Nat) (n : Int) (l : List Int) (f : Int) (e : Ending) (w' : World) : Prop := e = .returned (.int .i64 n) ∧ w.grownBy w' (some g) ∧ GB w' g l f

set_option maxHeartbeats 1000000 in
theorem get_bad (w : World) (g : Nat) (l : List Int) (lo hi n e : Int) (k : Nat) (h : GB w g l 0) (hd : Pk.dec 0 0 l = (n, k, e)) (he : e ≠ 0) :
    Calls Tryd.prog 33 #[.pointer (some ⟨g, 0, none⟩), .int .i64 lo, .int .i64 hi] w (Got w g 0 l e) := by
  obtain ⟨A, c, hx, hr, h1, h2, h3⟩ := h
  obtain ⟨w0, rfl, hg⟩ := hx.boxed
  have z : (e != 0) = true := by simpa using he
  have z' : (e == 0) = false := by simpa using he
  have HV := Lib.hid (decV_eq hd)
  have H := Lib.hid hx
  have HR := Lib.hid hr
  have H3 := Lib.hid h3
  clear hx hr hd he h3
  go_enter Tryd.func33, Tryd.ntmps33
  go_wp2_with (first | (go_at_call 35; refine (fault_box _ _ _ _ H.out).mono ?_; rintro e w' ⟨rfl, rfl⟩) | (go_at_call 41; refine (first_any _ _ _ _ _ HR.out H3.out).mono ?_; rintro e w' ⟨rfl, rfl⟩; rw [HV.out]))
  go_ret
  refine ⟨rfl, grown_boxed, A, c, Bx.mk hg, HR.out.kept fun i hi => ?_, h1, h2, H3.out⟩
  rw [boxed_block_other (by omega), boxed_block_other (by omega)]

set_option maxHeartbeats 1000000 in
theorem get_out (w : World) (g : Nat) (l : List Int) (lo hi n : Int) (k : Nat) (h : GB w g l 0) (hd : Pk.dec 0 0 l = (n, k, 0)) (he : n < lo ∨ hi < n) :
    Calls Tryd.prog 33 #[.pointer (some ⟨g, 0, none⟩), .int .i64 lo, .int .i64 hi] w (Got w g 0 l 1) := by
  obtain ⟨A, c, hx, hr, h1, h2, h3⟩ := h
  obtain ⟨w0, rfl, hg⟩ := hx.boxed
  have HV := Lib.hid (decV_eq hd)
  have H := Lib.hid hx
  have HR := Lib.hid hr
  have H3 := Lib.hid h3
  clear hx hr hd h3
  by_cases t : n < lo
  all_goals
    first | (have t1 : decide (n < lo) = true := by simpa using t) | (have t1 : decide (n < lo) = false := by simpa using t)
    first | (have t2 : decide (hi < n) = true := by simp; omega) | skip
    clear he t
    go_enter Tryd.func33, Tryd.ntmps33
    go_wp2_with (first | (go_at_call 35; refine (fault_box _ _ _ _ H.out).mono ?_; rintro e w' ⟨rfl, rfl⟩) | (go_at_call 41; refine (first_any _ _ _ _ _ HR.out H3.out).mono ?_; rintro e w' ⟨rfl, rfl⟩; rw [HV.out]))
    go_ret
    refine ⟨rfl, grown_boxed, A, c, Bx.mk hg, HR.out.kept fun i hi => ?_, h1, h2, H3.out⟩
    rw [boxed_block_other (by omega), boxed_block_other (by omega)]

set_option maxHeartbeats 1000000 in
theorem get_ok (w : World) (g : Nat) (l : List Int) (lo hi n : Int) (k : Nat) (h : GB w g l 0) (hd : Pk.dec 0 0 l = (n, k, 0)) (h0 : lo ≤ n) (h4 : n ≤ hi) :
    Calls Tryd.prog 33 #[.pointer (some ⟨g, 0, none⟩), .int .i64 lo, .int .i64 hi] w (Got w g n (l.drop k) 0) := by
  obtain ⟨A, c, hx, hr, h1, h2, h3⟩ := h
  obtain ⟨w0, rfl, hg⟩ := hx.boxed
  have hk := (Pk.dec_le l 0 0 (by omega) (fun x hx => (h3 x hx).1) (by simp))
  rw [hd] at hk
  simp at hk
  obtain ⟨k1, k2, _, _⟩ := hk
  unfold maxLen at h2
  have HV := Lib.hid (decV_eq hd)
  have H := Lib.hid hx
  have HR := Lib.hid hr
  have H3 := Lib.hid h3
  have t1 : decide (n < lo) = false := by simpa using h0
  have t2 : decide (hi < n) = false := by simpa using h4
  clear hx hr hd h3
  obtain ⟨a, rfl, -, -⟩ := HR.out.at_ (show 0 < l.length by omega)
  by_cases hc : c = k
  · obtain rfl : c = l.length := by omega
    obtain rfl : k = l.length := by omega
    clear hc k1 h1
    have HL : Hid (l.drop l.length = []) := List.drop_length
    go_enter Tryd.func33, Tryd.ntmps33
    go_wp2_with (first | (go_at_call 35; refine (fault_box _ _ _ _ H.out).mono ?_; rintro e w' ⟨rfl, rfl⟩) | (go_at_call 41; refine (first_any _ _ _ _ _ HR.out H3.out).mono ?_; rintro e w' ⟨rfl, rfl⟩; rw [HV.out]))
    go_ret
    refine ⟨rfl, grown_boxed, some a, 0, ?_, ?_, ?_, ?_, ?_⟩
    · rw [HL.out]; exact boxed_block hg
    · rw [HL.out]; exact Rd.none
    · rw [HL.out]; simp
    · unfold maxLen; omega
    · rw [HL.out]; simp
  · go_enter Tryd.func33, Tryd.ntmps33
    go_wp2_with (first | (go_at_call 35; refine (fault_box _ _ _ _ H.out).mono ?_; rintro e w' ⟨rfl, rfl⟩) | (go_at_call 41; refine (first_any _ _ _ _ _ HR.out H3.out).mono ?_; rintro e w' ⟨rfl, rfl⟩; rw [HV.out]))
    go_ret
    refine ⟨rfl, grown_boxed, some (a.add k), c - k, ?_, ?_, ?_, ?_, fun x hx => H3.out x (List.mem_of_mem_drop hx)⟩
    · rw [List.length_drop]; exact boxed_block hg
    · exact (HR.out.drop k).kept fun i hi => by rw [boxed_block_other (by omega), boxed_block_other (by omega)]
    · rw [List.length_drop]; omega
    · unfold maxLen; omega

def GotF (w : World) (g : Nat) (b : Bool) (l : List Int) (e : Ending) (w' : World) : Prop := e = .returned (.bool b) ∧ w.grownBy w' (some g) ∧ GB w' g l 0

theorem own_more {w : World} {base base' : Nat} {e : TypeId} {size : Nat} {v : Value} {n : Nat} {xs : List Value} (h : w.ownsRow base e size v n xs) (hB : base' ≤ base) : w.ownsRow base' e size v n xs := by
  refine ⟨h.1, ?_⟩
  rcases h.2 with hn | ⟨g, cap, cur, rfl, hb, rest⟩
  · exact .inl hn
  · exact .inr ⟨g, cap, cur, rfl, Nat.le_trans hB hb, rest⟩
theorem own_grown {w w' : World} {g base : Nat} {e : TypeId} {size : Nat} {v : Value} {n : Nat} {xs : List Value} (h : w.ownsRow base e size v n xs) (hg : w.grownBy w' (some g)) (hB : g < base) : w'.ownsRow base e size v n xs :=
  own_kept h fun i hi => hg.block i (h.lt i hi).2 fun e => by injection e with e; have := (h.lt i hi).1; omega
theorem grown_trans2 {a b c : World} {row : Option Nat} (h : a.grownBy b row) (k : b.grownBy c row) : a.grownBy c row := World.grownBy.trans h k

def GotL (w : World) (g : Nat) (l : List Int) (f : Int) (e : Ending) (w' : World) : Prop := e = .returned (.slice none 0 0) ∧ w.grownBy w' (some g) ∧ GB w' g l f
def GotS (w : World) (g : Nat) (p l : List Int) (e : Ending) (w' : World) : Prop :=
  ∃ A c, e = .returned (.slice A p.length c) ∧ w.grownBy w' (some g) ∧ w'.ownsRow (g + 1) 5 1 (.slice A p.length c) p.length (cl .u8 p) ∧ GB w' g l 0

theorem get_ok' (w : World) (g : Nat) (l r : List Int) (lo hi n : Int) (k : Nat) (h : GB w g l 0) (hd : Pk.dec 0 0 l = (n, k, 0)) (h0 : lo ≤ n) (h4 : n ≤ hi) (hr : l.drop k = r) :
    Calls Tryd.prog 33 #[.pointer (some ⟨g, 0, none⟩), .int .i64 lo, .int .i64 hi] w (Got w g n r 0) := by subst hr; exact get_ok w g l lo hi n k h hd h0 h4

theorem bytes_fin' {w w0 w3 : World} {g m c c4 j : Nat} {A A2 : Option Addr} {t r : List Int} {v v' : Value} (hg : w.grownBy (boxed w0 g #[v, .int .i64 0] 56) (some g))
    (hb : Below (boxed w0 g #[v, .int .i64 0] 56).heap.size (boxed w0 g #[v, .int .i64 0] 56) (boxed w3 g #[v', .int .i64 0] 56))
    (ho : (boxed w3 g #[v', .int .i64 0] 56).ownsRow (boxed w0 g #[v, .int .i64 0] 56).heap.size 5 1 (.slice A2 t.length c4) t.length (cl .u8 t))
    (hlt : g < (boxed w0 g #[v, .int .i64 0] 56).heap.size) (hlt3 : g < w3.heap.size) (ht : t.length = m) (hj : r.length = j)
    (hr : Rd (boxed w0 g #[v, .int .i64 0] 56) .u8 g A r) (h1 : j ≤ c) (h2 : c ≤ maxLen) (h3 : ∀ x ∈ r, 0 ≤ x ∧ x < 256) :
    GotS w g t r (.returned (.slice A2 m c4)) (boxed w3 g #[.slice A j c, .int .i64 0] 56) := by
  subst ht hj
  refine ⟨A2, c4, rfl, grown_trans2 (grown_trans2 hg (below_grown hb _)) grown_boxed, own_more (own_grown ho grown_boxed hlt) hlt, A, c, boxed_block hlt3, hr.kept fun i hi => ?_, h1, h2, h3⟩
  rw [boxed_block_other (by omega), ← hb.block i (by omega), boxed_block_other (by omega)]
theorem bytes_fin {w w0 w3 : World} {g c c4 : Nat} {A A2 : Option Addr} {t r : List Int} {v v' : Value} (hg : w.grownBy (boxed w0 g #[v, .int .i64 0] 56) (some g))
    (hb : Below (boxed w0 g #[v, .int .i64 0] 56).heap.size (boxed w0 g #[v, .int .i64 0] 56) (boxed w3 g #[v', .int .i64 0] 56))
    (ho : (boxed w3 g #[v', .int .i64 0] 56).ownsRow (boxed w0 g #[v, .int .i64 0] 56).heap.size 5 1 (.slice A2 t.length c4) t.length (cl .u8 t))
    (hlt : g < (boxed w0 g #[v, .int .i64 0] 56).heap.size) (hlt3 : g < w3.heap.size)
    (hr : Rd (boxed w0 g #[v, .int .i64 0] 56) .u8 g A r) (h1 : r.length ≤ c) (h2 : c ≤ maxLen) (h3 : ∀ x ∈ r, 0 ≤ x ∧ x < 256) :
    GotS w g t r (.returned (.slice A2 t.length c4)) (boxed w3 g #[.slice A r.length c, .int .i64 0] 56) := bytes_fin' hg hb ho hlt hlt3 rfl rfl hr h1 h2 h3

end Go.Proofs.YtambppcnmggocaaDoor
