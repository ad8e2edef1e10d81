/-
  The walk of the law PackBytes: it returns true, whatever the input, and makes new blocks alone. No conditions.
-/
import Derived.Test.YtbnbamakcbpaeaaPkNumbersWalk
import Derived.Test.YtbnbamakcbpaeaaPkNilWalk
import Derived.Test.YtbnbamakcbpaeaaPkGetsWalk
namespace Go.Proofs.Ytbnbamakcbpaeaa
open Go.ChangeShapes Go.WideShapes Go.ChangeAt Go.RowKit

set_option maxHeartbeats 1000000 in
theorem packBytes_long (A A' : Option Addr) (c c' : Nat) (p q : List Int) (on : Bool) (most : Int) (w : World) (h : 200 < p.length ∨ 200 < q.length) :
    Calls Try.prog 5 #[.slice A p.length c, .slice A' q.length c', .bool on, .int .u8 most] w fun e w' => e = .returned (.bool true) ∧ Below w.heap.size w w' := by
  by_cases h1 : 200 < p.length
  · have t : decide ((200 : Int) < (p.length : Int)) = true := by simp; omega
    clear h h1
    go_enter Try.func5, Try.ntmps5
    go_wp2_with (fail)
    refine (awake_any _).mono ?_
    rintro e w1 ⟨rfl, hb1⟩
    go_wp2_with (fail)
    refine (awake_any _).mono ?_
    rintro e w2 ⟨rfl, hb2⟩
    go_wp2
    go_ret
    exact ⟨rfl, hb1.trans (hb2.mono hb1.size)⟩
  · have t : decide ((200 : Int) < (p.length : Int)) = false := by simp; omega
    have t2 : decide ((200 : Int) < (q.length : Int)) = true := by simp; omega
    clear h h1
    go_enter Try.func5, Try.ntmps5
    go_wp2_with (fail)
    refine (awake_any _).mono ?_
    rintro e w1 ⟨rfl, hb1⟩
    go_wp2_with (fail)
    refine (awake_any _).mono ?_
    rintro e w2 ⟨rfl, hb2⟩
    go_wp2
    go_ret
    exact ⟨rfl, hb1.trans (hb2.mono hb1.size)⟩

/-- The bytes of the law's box. -/
def one (on : Bool) : Int := if on = true then 1 else 0
def boxL (p q : List Int) (on : Bool) : List Int := Pk.enc (Pk.zig p.length) ++ p ++ Pk.enc (Pk.zig (one on)) ++ Pk.enc (Pk.zig q.length) ++ q
theorem boxL_eq (p q : List Int) (on : Bool) : boxL p q on = Pk.enc (Pk.zig p.length) ++ (p ++ (Pk.enc (Pk.zig (one on)) ++ (Pk.enc (Pk.zig q.length) ++ q))) := by unfold boxL; simp
theorem one_le (on : Bool) : 0 ≤ one on ∧ one on ≤ 1 := by cases on <;> simp [one]
theorem enc_small {n : Nat} (h : n ≤ 1000) : (Pk.enc (Pk.zig (n : Int))).length ≤ 11 := Pk.enc_eleven (Pk.zig_lt _ (by omega) (by omega))
theorem boxL_len {p q : List Int} (hp : p.length ≤ 200) (hq : q.length ≤ 200) (on : Bool) : (boxL p q on).length ≤ 1000 := by
  have h1 := enc_small (n := p.length) (by omega)
  have h2 := enc_small (n := q.length) (by omega)
  have h3 := Pk.enc_eleven (Pk.zig_lt (one on) (by have := one_le on; omega) (by have := one_le on; omega))
  unfold boxL
  simp only [List.length_append]
  omega
theorem boxL_range {p q : List Int} (hp : BytesOk p) (hq : BytesOk q) (on : Bool) : BytesOk (boxL p q on) := by
  intro x hx
  unfold boxL at hx
  simp only [List.mem_append] at hx
  rcases hx with (((hx | hx) | hx) | hx) | hx
  · have := Pk.enc_range _ x hx; omega
  · exact hp x hx
  · have := Pk.enc_range _ x hx; omega
  · have := Pk.enc_range _ x hx; omega
  · exact hq x hx
/-- What is left behind the first bytes, and behind the truth. -/
def restA (q : List Int) (on : Bool) : List Int := Pk.enc (Pk.zig (one on)) ++ (Pk.enc (Pk.zig q.length) ++ q)
def restB (q : List Int) : List Int := Pk.enc (Pk.zig q.length) ++ q
theorem dec_A (p q : List Int) (on : Bool) (hp : p.length ≤ 200) : Pk.dec 0 0 (boxL p q on) = ((p.length : Int), (Pk.enc (Pk.zig p.length)).length, 0) := by rw [boxL_eq]; exact Pk.dec_zig _ _ (by omega) (by omega)
theorem drop_A (p q : List Int) (on : Bool) : (boxL p q on).drop (Pk.enc (Pk.zig p.length)).length = p ++ restA q on := by rw [boxL_eq, List.drop_left]; rfl
theorem dec_B (q : List Int) (on : Bool) : Pk.dec 0 0 (restA q on) = (one on, (Pk.enc (Pk.zig (one on))).length, 0) := Pk.dec_zig _ _ (by have := one_le on; omega) (by have := one_le on; omega)
theorem drop_B (q : List Int) (on : Bool) : (restA q on).drop (Pk.enc (Pk.zig (one on))).length = restB q := by unfold restA restB; rw [List.drop_left]
theorem dec_C (q : List Int) (hq : q.length ≤ 200) : Pk.dec 0 0 (restB q) = ((q.length : Int), (Pk.enc (Pk.zig q.length)).length, 0) := Pk.dec_zig _ _ (by omega) (by omega)
theorem drop_C (q : List Int) : (restB q).drop (Pk.enc (Pk.zig q.length)).length = q := by unfold restB; rw [List.drop_left]

theorem bst_size (l : List Int) : (bst l).size = l.length := by rw [bst_eq]; simp [ByteArray.size]
theorem take_p (p r : List Int) (n : Nat) (h : p.length = n) : (p ++ r).take n = p := by subst h; exact List.take_left
theorem drop_p (p r : List Int) (n : Nat) (h : p.length = n) : (p ++ r).drop n = r := by subst h; exact List.drop_left
theorem one_beq (on : Bool) : (one on == 1) = on := by cases on <;> rfl
theorem bytes_ok' (w : World) (g : Nat) (l r p r' : List Int) (n : Nat) (m : Int) (k : Nat) (h : GB w g l 0) (hd : Pk.dec 0 0 l = ((n : Int), k, 0)) (hr : l.drop k = r) (hn : n ≤ 900000) (h1 : n ≤ r.length) (h2 : n ≤ m) (ht : r.take n = p) (hd' : r.drop n = r') :
    Calls Try.prog 22 #[.pointer (some ⟨g, 0, none⟩), .int .i64 m] w (GotS w g p r') := by subst ht hd'; exact bytes_ok w g l r n m k h hd hr hn h1 h2
theorem flag_ok' (w : World) (g : Nat) (l r : List Int) (n : Int) (k : Nat) (h : GB w g l 0) (hd : Pk.dec 0 0 l = (n, k, 0)) (h0 : 0 ≤ n) (h1 : n ≤ 1) (hr : l.drop k = r) :
    Calls Try.prog 21 #[.pointer (some ⟨g, 0, none⟩)] w (GotF w g (n == 1) r) := by subst hr; exact flag_ok w g l n k h hd h0 h1
theorem GotS.open_ {w w' : World} {g n : Nat} {p l : List Int} {e : Ending} (h : GotS w g p l e w') (hn : p.length = n) :
    ∃ A c, e = .returned (.slice A n c) ∧ Hid (w.grownBy w' (some g)) ∧ Hid (w'.ownsRow (g + 1) 5 1 (.slice A n c) n (cl .u8 p)) ∧ Hid (GB w' g l 0) := by
  subst hn
  obtain ⟨A, c, rfl, h1, h2, h3⟩ := h
  exact ⟨A, c, rfl, h1, h2, h3⟩

set_option maxHeartbeats 4000000 in
theorem packBytes_in (A A' : Option Addr) (c c' : Nat) (p q : List Int) (on : Bool) (most : Int) (w : World) (hr : Rd w .u8 w.heap.size A p) (hr' : Rd w .u8 w.heap.size A' q) (hp : BytesOk p) (hq : BytesOk q) (n m : Nat) (hn : p.length = n) (hm : q.length = m) (hn2 : n ≤ 200) (hm2 : m ≤ 200) (m0 : 0 ≤ most) (m1 : most < 256) :
    Calls Try.prog 5 #[.slice A n c, .slice A' m c', .bool on, .int .u8 most] w fun e w' => e = .returned (.bool true) ∧ Below w.heap.size w w' := by
  have t1 : decide ((200 : Int) < (n : Int)) = false := by simp; omega
  have t2 : decide ((200 : Int) < (m : Int)) = false := by simp; omega
  have HR := Lib.hid hr
  have HR' := Lib.hid hr'
  have HP := Lib.hid hp
  have HQ := Lib.hid hq
  have HN := Lib.hid hn
  have HM := Lib.hid hm
  clear hr hr' hp hq hn hm
  go_enter Try.func5, Try.ntmps5
  go_wp2_with (fail)
  refine (awake_any _).mono ?_
  rintro e1 w1 ⟨rfl, hb1⟩
  have H1 := Lib.hid hb1
  clear hb1
  go_wp2_with (fail)
  refine (new_any _).mono ?_
  rintro e2 w2 ⟨rfl, rfl⟩
  have HPB := Lib.hid (pb_new w1 w1.heap.size (Nat.le_refl _))
  go_wp2_with (fail)
  refine (bytes_put_len _ w1.heap.size w1.heap.size w.heap.size n [] p A c HPB.out ((HR.out.below H1.out).below ((Below.refl _ _).alloc H1.out.size _)) H1.out.size (by simp) (by rw [HN.out]; omega) HP.out HN.out).mono ?_
  rintro e3 w3 ⟨rfl, hp3⟩
  have HP3 : Hid (PB w3 w1.heap.size w1.heap.size (Pk.enc (Pk.zig n) ++ p)) := hp3.box
  have H3 : Hid (Below w1.heap.size w1 w3) := ((Below.refl _ _).alloc (Nat.le_refl _) _).trans hp3.below
  clear hp3 HPB
  go_wp2_with (fail)
  refine (flag_put _ _ _ _ _ HP3.out (by rw [List.length_append, HN.out]; have := enc_small (n := n) (by omega); omega)).mono ?_
  rintro e4 w4 ⟨rfl, hp4⟩
  have HP4 : Hid (PB w4 w1.heap.size w1.heap.size (Pk.enc (Pk.zig n) ++ p ++ Pk.enc (Pk.zig (one on)))) := hp4.box
  have H4 : Hid (Below w1.heap.size w1 w4) := H3.out.trans hp4.below
  have h3l : (Pk.enc (Pk.zig (one on))).length ≤ 11 := Pk.enc_eleven (Pk.zig_lt (one on) (by have := one_le on; omega) (by have := one_le on; omega))
  clear hp4 HP3 H3
  go_wp2_with (fail)
  refine (bytes_put_len _ w1.heap.size w1.heap.size w.heap.size m _ q A' c' HP4.out ((HR'.out.below H1.out).below (H4.out.mono H1.out.size)) H1.out.size (by simp only [List.length_append, HN.out]; have := enc_small (n := n) (by omega); omega) (by rw [HM.out]; omega) HQ.out HM.out).mono ?_
  rintro e5 w5 ⟨rfl, hp5⟩
  have HP5 : Hid (PB w5 w1.heap.size w1.heap.size (boxL p q on)) := by have := hp5.box; unfold boxL; rw [HN.out, HM.out]; exact this
  have H5 : Hid (Below w1.heap.size w1 w5) := H4.out.trans hp5.below
  have HBL := Lib.hid (boxL_len (by rw [HN.out]; exact hn2) (by rw [HM.out]; exact hm2) on)
  have HBR := Lib.hid (boxL_range HP.out HQ.out on)
  clear hp5 HP4 H4 h3l
  go_wp2_with (fail)
  refine (done_put _ _ _ _ HP5.out (by have := HBL.out; omega)).mono ?_
  intro e6 w6 hO
  obtain ⟨A6, n6, c6, rfl, HN6, HO6, H6, HR6, h61, h62⟩ := hO.open_
  clear hO
  go_wp2_with (fail)
  refine (of_len A6 w6.heap.size c6 n6 (boxL p q on) w6 HR6.out (Nat.le_refl _) (by have := HBL.out; omega) HBR.out HN6.out).mono ?_
  rintro e7 w7 ⟨g, rfl, hg7, hb7, hlt⟩
  have HG7 := Lib.hid hg7
  have H7 := Lib.hid hb7
  have HX : Hid (Below w.heap.size w w7) := ((H1.out.trans (H5.out.mono H1.out.size)).trans (H6.out.mono (Nat.le_trans H1.out.size H5.out.size))).trans (H7.out.mono (Nat.le_trans (Nat.le_trans H1.out.size H5.out.size) H6.out.size))
  have hwg : w.heap.size ≤ g := Nat.le_trans (Nat.le_trans (Nat.le_trans H1.out.size H5.out.size) H6.out.size) hlt
  have HR67 : Hid (Rd w7 .u8 w6.heap.size A6 (boxL p q on)) := HR6.out.below H7.out
  have HDA := Lib.hid (dec_A p q on (by rw [HN.out]; exact hn2))
  have HDRA := Lib.hid (drop_A p q on)
  rw [HN.out] at HDA HDRA
  clear hg7 hb7 HO6 HR6 H1 H5 H6
  by_cases hmost : most < n
  · have t3 : decide (most < (n : Int)) = true := by simpa using hmost
    go_wp2_with (fail)
    refine (bytes_long _ _ _ _ _ _ _ HG7.out HDA.out HDRA.out (by omega) (by omega) (by rw [List.length_append, HN.out]; omega) hmost).mono ?_
    rintro e8 w8 ⟨rfl, hgr, hg8⟩
    obtain ⟨A8, c8, hx8, -⟩ := hg8
    have HX8 := Lib.hid hx8
    have HW8 : Hid (Below w.heap.size w w8) := HX.out.trans (grown_below hgr hwg HX.out.size)
    clear hgr hx8
    go_wp2_with (go_at_call 20; refine (fault_box _ _ _ _ HX8.out).mono ?_; rintro e9 w9 ⟨rfl, rfl⟩)
    go_ret
    exact ⟨rfl, HW8.out⟩
  · have t3 : decide (most < (n : Int)) = false := by simp; omega
    have HT8 := Lib.hid (take_p p (restA q on) n HN.out)
    have HD8 := Lib.hid (drop_p p (restA q on) n HN.out)
    go_wp2_with (fail)
    refine (bytes_ok' _ _ _ _ _ _ _ _ _ HG7.out HDA.out HDRA.out (by omega) (by rw [List.length_append, HN.out]; omega) (by omega) HT8.out HD8.out).mono ?_
    intro e8 w8 hO
    obtain ⟨A8, c8, rfl, HGR8, HO8, HG8⟩ := hO.open_ HN.out
    clear hO HT8 HD8 HG7 HDA HDRA
    have HFB := Lib.hid (dec_B q on)
    have HFD := Lib.hid (drop_B q on)
    have HFO := Lib.hid (one_beq on)
    have hon := one_le on
    go_wp2_with (fail)
    refine (flag_ok' _ _ _ _ _ _ HG8.out HFB.out hon.1 hon.2 HFD.out).mono ?_
    rintro e9 w9 ⟨rfl, hgr9, hg9⟩
    rw [HFO.out]
    have HGR9 := Lib.hid hgr9
    have HG9 := Lib.hid hg9
    clear hgr9 hg9 HFB HFD HFO hon
    have HDC := Lib.hid (dec_C q (by rw [HM.out]; exact hm2))
    have HDRC := Lib.hid (drop_C q)
    rw [HM.out] at HDC HDRC
    have HT9 := Lib.hid (take_p q [] m HM.out)
    have HD9 := Lib.hid (drop_p q [] m HM.out)
    rw [List.append_nil] at HT9 HD9
    go_wp2_with (fail)
    refine (bytes_ok' _ _ _ _ _ _ _ _ _ HG9.out HDC.out HDRC.out (by omega) (by rw [HM.out]; exact Nat.le_refl _) (by omega) HT9.out HD9.out).mono ?_
    intro e10 w10 hO
    obtain ⟨A10, c10, rfl, HGR10, HO10, HG10⟩ := hO.open_ HM.out
    clear hO HT9 HD9 HG9 HDC HDRC
    have HGR := Lib.hid ((HGR8.out.trans HGR9.out).trans HGR10.out)
    have HO8' : Hid (w10.ownsRow (g + 1) 5 1 (.slice A8 n c8) n (cl .u8 p)) := own_grown (own_grown HO8.out HGR9.out (by omega)) HGR10.out (by omega)
    have HX10 : Hid (Below w.heap.size w w10) := HX.out.trans (grown_below HGR.out hwg HX.out.size)
    have h610 : Below w6.heap.size w7 w10 := grown_below HGR.out hlt H7.out.size
    have HRB : Hid (Rd w10 .u8 w6.heap.size A6 (boxL p q on)) := HR67.out.below h610
    have h6 : w6.heap.size ≤ w10.heap.size := Nat.le_trans H7.out.size HGR.out.size
    clear HGR8 HGR9 HGR10 HO8 HG8 HGR h610 HR67 HX H7
    have HS : Hid (Grew w10 w10.heap.size (.slice none 0 0) [] (.slice none 0 0) w10) := Grew.start w10
    have HR10 : Hid (Rd w10 .u8 w.heap.size A p) := HR.out.below HX10.out
    have HR10' : Hid (Rd w10 .u8 w.heap.size A' q) := HR'.out.below HX10.out
    have hw10 : w.heap.size ≤ w10.heap.size := HX10.out.size
    have en := enc_small (n := n) (by omega)
    have em := enc_small (n := m) (by omega)
    have e0 : (Pk.enc (Pk.zig 0)).length ≤ 11 := Pk.enc_eleven (Pk.zig_lt 0 (by omega) (by omega))
    have e1 : (Pk.enc (Pk.zig 1)).length ≤ 11 := Pk.enc_eleven (Pk.zig_lt 1 (by omega) (by omega))
    have EN := Lib.hid en
    have EM := Lib.hid em
    have E0 := Lib.hid e0
    have E1 := Lib.hid e1
    clear en em e0 e1
    cases on
    · go_wp2_with (fail)
      refine (pack_any (n : Int) _ (by omega) (by omega)).mono ?_
      intro e11 w11 hO
      obtain ⟨A11, n11, c11, rfl, HN11, HO11, H11, HR11, h111, h112⟩ := hO.open_
      have G11 := Lib.hid (HS.out.after H11.out)
      have HR11p : Hid (Rd w11 .u8 w.heap.size A p) := HR10.out.below (H11.out.mono hw10)
      clear hO HO11
      go_wp2_with (first
        | (at_builtin; refine wpList_append_rd rfl _ _ rfl rfl w10.heap.size (.slice none 0 0) [] (Pk.enc (Pk.zig n)) _ A11 c11 rfl (by rw [HN11.out]; rfl) G11.out.own HR11.out (by simp; have := EN.out; omega) H11.out.size ?_; intro v12 w12 hg12; have G12 := Lib.hid (G11.out.trans hg12); have HR12 : Hid (Rd w12 .u8 w.heap.size A p) := HR10.out.below (G12.out.below0.mono hw10); clear hg12)
        | (at_builtin; refine wpList_append_rd rfl _ _ rfl rfl w10.heap.size v12 ([] ++ Pk.enc (Pk.zig n)) p _ A c rfl (by rw [HN.out]; rfl) G12.out.own HR12.out (by simp [HN.out]; have := EN.out; omega) G12.out.grown.size ?_; intro v13 w13 hg13; have G13 := Lib.hid (G12.out.trans hg13); clear hg13))
      refine (pack_any 0 _ (by omega) (by omega)).mono ?_
      intro e14 w14 hO
      obtain ⟨A14, n14, c14, rfl, HN14, HO14, H14, HR14, h141, h142⟩ := hO.open_
      have G14 := Lib.hid (G13.out.after H14.out)
      clear hO HO14
      go_wp2_with (at_builtin; refine wpList_append_rd rfl _ _ rfl rfl w10.heap.size v13 ([] ++ Pk.enc (Pk.zig n) ++ p) (Pk.enc (Pk.zig 0)) _ A14 c14 rfl (by rw [HN14.out]; rfl) G14.out.own HR14.out (by simp [HN.out]; have := EN.out; have := E0.out; omega) G14.out.grown.size ?_; intro v15 w15 hg15; have G15 := Lib.hid (G14.out.trans hg15); clear hg15)
      refine (pack_any (m : Int) _ (by omega) (by omega)).mono ?_
      intro e16 w16 hO
      obtain ⟨A16, n16, c16, rfl, HN16, HO16, H16, HR16, h161, h162⟩ := hO.open_
      have G16 := Lib.hid (G15.out.after H16.out)
      have key : ∀ v' w17, Grew w16 w10.heap.size v15 ([] ++ Pk.enc (Pk.zig n) ++ p ++ Pk.enc (Pk.zig 0) ++ Pk.enc (Pk.zig m)) v' w17 → ∃ A17 n17 c17, v' = .slice A17 n17 c17 ∧ Hid (([] ++ Pk.enc (Pk.zig n) ++ p ++ Pk.enc (Pk.zig 0) ++ Pk.enc (Pk.zig m)).length = n17) ∧ Hid (Below w10.heap.size w10 w17) ∧ Hid (Rd w17 .u8 w17.heap.size A17 ([] ++ Pk.enc (Pk.zig n) ++ p ++ Pk.enc (Pk.zig 0) ++ Pk.enc (Pk.zig m))) := by
        intro v' w17 hg
        have hb := (G16.out.trans hg).below0
        obtain ⟨A17, c17, rfl, -, -⟩ := own_form hg.own
        exact ⟨A17, _, c17, rfl, rfl, hb, Rd.own hg.own⟩
      have KEY := Lib.hid key
      have convs : ∀ (w17 : World) A17 n17 c17, Hid (([] ++ Pk.enc (Pk.zig n) ++ p ++ Pk.enc (Pk.zig 0) ++ Pk.enc (Pk.zig m)).length = n17) → Hid (Below w10.heap.size w10 w17) → Hid (Rd w17 .u8 w17.heap.size A17 ([] ++ Pk.enc (Pk.zig n) ++ p ++ Pk.enc (Pk.zig 0) ++ Pk.enc (Pk.zig m))) →
          ∃ S Ag cg, (convert 27 9 (.slice A8 n c8)).run Try.prog w17 = .ok (.string (bst p)) w17 ∧ (convert 27 9 (.slice A n c)).run Try.prog w17 = .ok (.string (bst p)) w17 ∧
            (convert 27 9 (.slice A10 m c10)).run Try.prog w17 = .ok (.string (bst q)) w17 ∧ (convert 27 9 (.slice A' m c')).run Try.prog w17 = .ok (.string (bst q)) w17 ∧
            (convert 27 9 (.slice A6 n6 c6)).run Try.prog w17 = .ok (.string (bst (boxL p q false))) w17 ∧ (convert 27 9 (.slice A17 n17 c17)).run Try.prog w17 = .ok (.string S) w17 ∧
            S ++ bst q = bst (boxL p q false) ∧ S.size + (bst q).size ≤ 1000 ∧ Hid (Bx w17 g (.slice Ag 0 cg) 0) := by
        intro w17 A17 n17 c17 HN17 H17 HR17
        obtain ⟨Ag, cg, hxg, -⟩ := HG10.out.below H17.out HG10.out.lt
        refine ⟨_, Ag, cg, conv_len _ _ _ _ _ _ ((Rd.own HO8'.out).below H17.out) HN.out, conv_len _ _ _ _ _ _ (HR10.out.below (H17.out.mono hw10)) HN.out, conv_len _ _ _ _ _ _ ((Rd.own HO10.out).below H17.out) HM.out, conv_len _ _ _ _ _ _ (HR10'.out.below (H17.out.mono hw10)) HM.out,
          conv_len _ _ _ _ _ _ (HRB.out.below (H17.out.mono h6)) HN6.out, conv_len _ _ _ _ _ _ HR17.out HN17.out, ?eq, ?sz, hxg⟩
        case sz => rw [bst_size, bst_size, HN17.out, HM.out]; have := HN17.out; simp only [List.length_append, List.length_nil, HN.out] at this; have := EN.out; have := EM.out; have := E0.out; have := E1.out; omega
        rw [← bst_append]
        unfold boxL one
        rw [HN.out, HM.out, List.nil_append]
        rfl
      have CONV := Lib.hid convs
      clear hO HO16 key convs
      go_wp2_with (at_builtin; refine wpList_append_rd rfl _ _ rfl rfl w10.heap.size v15 ([] ++ Pk.enc (Pk.zig n) ++ p ++ Pk.enc (Pk.zig 0)) (Pk.enc (Pk.zig m)) _ A16 c16 rfl (by rw [HN16.out]; rfl) G16.out.own HR16.out (by simp [HN.out]; have := EN.out; have := E0.out; have := EM.out; omega) G16.out.grown.size ?_; intro v17 w17 hg17; obtain ⟨A17, n17, c17, rfl, HN17, H17, HR17⟩ := KEY.out _ _ hg17; obtain ⟨S, Ag, cg, cv1, cv2, cv3, cv4, cv5, cv6, hE, hsz, HXG⟩ := CONV.out _ _ _ c17 HN17 H17 HR17; clear hg17 KEY CONV)
      refine (end_ok _ _ _ _ _ HXG.out).mono ?_
      rintro e18 w18 ⟨rfl, rfl⟩
      go_wp2
      go_ret
      exact ⟨rfl, HX10.out.trans (H17.out.mono hw10)⟩
    · go_wp2_with (fail)
      refine (pack_any (n : Int) _ (by omega) (by omega)).mono ?_
      intro e11 w11 hO
      obtain ⟨A11, n11, c11, rfl, HN11, HO11, H11, HR11, h111, h112⟩ := hO.open_
      have G11 := Lib.hid (HS.out.after H11.out)
      have HR11p : Hid (Rd w11 .u8 w.heap.size A p) := HR10.out.below (H11.out.mono hw10)
      clear hO HO11
      go_wp2_with (first
        | (at_builtin; refine wpList_append_rd rfl _ _ rfl rfl w10.heap.size (.slice none 0 0) [] (Pk.enc (Pk.zig n)) _ A11 c11 rfl (by rw [HN11.out]; rfl) G11.out.own HR11.out (by simp; have := EN.out; omega) H11.out.size ?_; intro v12 w12 hg12; have G12 := Lib.hid (G11.out.trans hg12); have HR12 : Hid (Rd w12 .u8 w.heap.size A p) := HR10.out.below (G12.out.below0.mono hw10); clear hg12)
        | (at_builtin; refine wpList_append_rd rfl _ _ rfl rfl w10.heap.size v12 ([] ++ Pk.enc (Pk.zig n)) p _ A c rfl (by rw [HN.out]; rfl) G12.out.own HR12.out (by simp [HN.out]; have := EN.out; omega) G12.out.grown.size ?_; intro v13 w13 hg13; have G13 := Lib.hid (G12.out.trans hg13); clear hg13))
      refine (pack_any 1 _ (by omega) (by omega)).mono ?_
      intro e14 w14 hO
      obtain ⟨A14, n14, c14, rfl, HN14, HO14, H14, HR14, h141, h142⟩ := hO.open_
      have G14 := Lib.hid (G13.out.after H14.out)
      clear hO HO14
      go_wp2_with (at_builtin; refine wpList_append_rd rfl _ _ rfl rfl w10.heap.size v13 ([] ++ Pk.enc (Pk.zig n) ++ p) (Pk.enc (Pk.zig 1)) _ A14 c14 rfl (by rw [HN14.out]; rfl) G14.out.own HR14.out (by simp [HN.out]; have := EN.out; have := E1.out; omega) G14.out.grown.size ?_; intro v15 w15 hg15; have G15 := Lib.hid (G14.out.trans hg15); clear hg15)
      refine (pack_any (m : Int) _ (by omega) (by omega)).mono ?_
      intro e16 w16 hO
      obtain ⟨A16, n16, c16, rfl, HN16, HO16, H16, HR16, h161, h162⟩ := hO.open_
      have G16 := Lib.hid (G15.out.after H16.out)
      have key : ∀ v' w17, Grew w16 w10.heap.size v15 ([] ++ Pk.enc (Pk.zig n) ++ p ++ Pk.enc (Pk.zig 1) ++ Pk.enc (Pk.zig m)) v' w17 → ∃ A17 n17 c17, v' = .slice A17 n17 c17 ∧ Hid (([] ++ Pk.enc (Pk.zig n) ++ p ++ Pk.enc (Pk.zig 1) ++ Pk.enc (Pk.zig m)).length = n17) ∧ Hid (Below w10.heap.size w10 w17) ∧ Hid (Rd w17 .u8 w17.heap.size A17 ([] ++ Pk.enc (Pk.zig n) ++ p ++ Pk.enc (Pk.zig 1) ++ Pk.enc (Pk.zig m))) := by
        intro v' w17 hg
        have hb := (G16.out.trans hg).below0
        obtain ⟨A17, c17, rfl, -, -⟩ := own_form hg.own
        exact ⟨A17, _, c17, rfl, rfl, hb, Rd.own hg.own⟩
      have KEY := Lib.hid key
      have convs : ∀ (w17 : World) A17 n17 c17, Hid (([] ++ Pk.enc (Pk.zig n) ++ p ++ Pk.enc (Pk.zig 1) ++ Pk.enc (Pk.zig m)).length = n17) → Hid (Below w10.heap.size w10 w17) → Hid (Rd w17 .u8 w17.heap.size A17 ([] ++ Pk.enc (Pk.zig n) ++ p ++ Pk.enc (Pk.zig 1) ++ Pk.enc (Pk.zig m))) →
          ∃ S Ag cg, (convert 27 9 (.slice A8 n c8)).run Try.prog w17 = .ok (.string (bst p)) w17 ∧ (convert 27 9 (.slice A n c)).run Try.prog w17 = .ok (.string (bst p)) w17 ∧
            (convert 27 9 (.slice A10 m c10)).run Try.prog w17 = .ok (.string (bst q)) w17 ∧ (convert 27 9 (.slice A' m c')).run Try.prog w17 = .ok (.string (bst q)) w17 ∧
            (convert 27 9 (.slice A6 n6 c6)).run Try.prog w17 = .ok (.string (bst (boxL p q true))) w17 ∧ (convert 27 9 (.slice A17 n17 c17)).run Try.prog w17 = .ok (.string S) w17 ∧
            S ++ bst q = bst (boxL p q true) ∧ S.size + (bst q).size ≤ 1000 ∧ Hid (Bx w17 g (.slice Ag 0 cg) 0) := by
        intro w17 A17 n17 c17 HN17 H17 HR17
        obtain ⟨Ag, cg, hxg, -⟩ := HG10.out.below H17.out HG10.out.lt
        refine ⟨_, Ag, cg, conv_len _ _ _ _ _ _ ((Rd.own HO8'.out).below H17.out) HN.out, conv_len _ _ _ _ _ _ (HR10.out.below (H17.out.mono hw10)) HN.out, conv_len _ _ _ _ _ _ ((Rd.own HO10.out).below H17.out) HM.out, conv_len _ _ _ _ _ _ (HR10'.out.below (H17.out.mono hw10)) HM.out,
          conv_len _ _ _ _ _ _ (HRB.out.below (H17.out.mono h6)) HN6.out, conv_len _ _ _ _ _ _ HR17.out HN17.out, ?eq2, ?sz2, hxg⟩
        case sz2 => rw [bst_size, bst_size, HN17.out, HM.out]; have := HN17.out; simp only [List.length_append, List.length_nil, HN.out] at this; have := EN.out; have := EM.out; have := E0.out; have := E1.out; omega
        rw [← bst_append]
        unfold boxL one
        rw [HN.out, HM.out, List.nil_append]
        rfl
      have CONV := Lib.hid convs
      clear hO HO16 key convs
      go_wp2_with (at_builtin; refine wpList_append_rd rfl _ _ rfl rfl w10.heap.size v15 ([] ++ Pk.enc (Pk.zig n) ++ p ++ Pk.enc (Pk.zig 1)) (Pk.enc (Pk.zig m)) _ A16 c16 rfl (by rw [HN16.out]; rfl) G16.out.own HR16.out (by simp [HN.out]; have := EN.out; have := E1.out; have := EM.out; omega) G16.out.grown.size ?_; intro v17 w17 hg17; obtain ⟨A17, n17, c17, rfl, HN17, H17, HR17⟩ := KEY.out _ _ hg17; obtain ⟨S, Ag, cg, cv1, cv2, cv3, cv4, cv5, cv6, hE, hsz, HXG⟩ := CONV.out _ _ _ c17 HN17 H17 HR17; clear hg17 KEY CONV)
      refine (end_ok _ _ _ _ _ HXG.out).mono ?_
      rintro e18 w18 ⟨rfl, rfl⟩
      go_wp2
      go_ret
      exact ⟨rfl, HX10.out.trans (H17.out.mono hw10)⟩

theorem packBytes_walk (A : Option Addr) (c : Nat) (p : List Int) (w : World) (hr : Rd w .u8 w.heap.size A p) (hp : ∀ x ∈ p, (Lit.int .u8 x).wf = true) (A' : Option Addr) (c' : Nat) (q : List Int) (hr' : Rd w .u8 w.heap.size A' q) (hq : ∀ x ∈ q, (Lit.int .u8 x).wf = true) (on : Bool) (most : Int) (wm : (Lit.int .u8 most).wf = true) :
    Calls Try.prog 5 #[.slice A p.length c, .slice A' q.length c', .bool on, .int .u8 most] w fun e w' => e = .returned (.bool true) ∧ Below w.heap.size w w' := by
  by_cases h : 200 < p.length ∨ 200 < q.length
  · exact packBytes_long A A' c c' p q on most w h
  · have hm := wf_u8 wm
    exact packBytes_in A A' c c' p q on most w hr hr' (fun x hx => wf_u8 (hp x hx)) (fun x hx => wf_u8 (hq x hx)) p.length q.length rfl rfl (by omega) (by omega) hm.1 hm.2
end Go.Proofs.Ytbnbamakcbpaeaa
