/-
  The walk of the law PackCuts: it returns true, whatever the input, and makes new blocks alone. No conditions.
-/
import Derived.Test.YtbnbamakcbpaeaaPkNumbersWalk
namespace Go.Proofs.Ytbnbamakcbpaeaa
open Go.ChangeShapes Go.WideShapes Go.ChangeAt Go.RowKit

set_option maxHeartbeats 1000000 in
theorem packCuts_long (A : Option Addr) (c : Nat) (ns : List Int) (cut more : Int) (w : World) (hl : 30 < ns.length) :
    Calls Try.prog 6 #[.slice A ns.length c, .int .u16 cut, .int .u8 more] w fun e w' => e = .returned (.bool true) ∧ Below w.heap.size w w' := by
  have t : decide ((30 : Int) < (ns.length : Int)) = true := by simp; omega
  clear hl
  go_enter Try.func6, Try.ntmps6
  go_wp2_with (fail)
  refine (awake_any _).mono ?_
  rintro e w1 ⟨rfl, hb1⟩
  go_wp2_with (fail)
  refine (awake_any _).mono ?_
  rintro e w2 ⟨rfl, hb2⟩
  go_wp2
  go_ret
  exact ⟨rfl, hb1.trans (hb2.mono hb1.size)⟩

/-- The bytes of the first k numbers. -/
def lenTo (ns : List Int) (k : Nat) : Nat := (Pk.encs (ns.take k)).length
theorem lenTo_zero (ns : List Int) : lenTo ns 0 = 0 := rfl
theorem lenTo_succ {ns : List Int} {k : Nat} (h : k < ns.length) : lenTo ns (k + 1) = lenTo ns k + (Pk.enc (Pk.zig ns[k])).length := by
  unfold lenTo; rw [← encs_snoc h, List.length_append]
theorem encs_split (ns : List Int) (k : Nat) : Pk.encs ns = Pk.encs (ns.take k) ++ Pk.encs (ns.drop k) := by rw [← Pk.encs_append, List.take_append_drop]
theorem lenTo_le (ns : List Int) (k : Nat) : lenTo ns k ≤ (Pk.encs ns).length := by rw [encs_split ns k, List.length_append]; unfold lenTo; omega
/-- What is left of bytes that are cut, behind k numbers. -/
def rest (ns : List Int) (q k : Nat) : List Int := ((Pk.encs ns).take q).drop (lenTo ns k)
theorem rest_zero (ns : List Int) (q : Nat) : rest ns q 0 = (Pk.encs ns).take q := by unfold rest; rw [lenTo_zero, List.drop_zero]
theorem rest_eq {ns : List Int} {q k : Nat} (h : lenTo ns k ≤ q) : rest ns q k = (Pk.encs (ns.drop k)).take (q - lenTo ns k) := by
  unfold rest
  rw [encs_split ns k, List.take_append, show (Pk.encs (ns.take k)).length = lenTo ns k from rfl, List.take_of_length_le (by unfold lenTo at h; exact h), List.drop_append, show (Pk.encs (ns.take k)).length = lenTo ns k from rfl, Nat.sub_self, List.drop_zero, List.drop_of_length_le (by unfold lenTo; exact Nat.le_refl _), List.nil_append]
theorem rest_short {ns : List Int} (hi : I64 ns) {q k : Nat} (hk : k < ns.length) (h : lenTo ns k ≤ q) (hc : q < lenTo ns (k + 1)) : Pk.dec 0 0 (rest ns q k) = (0, 0, 5) := by
  have hx := hi _ (List.getElem_mem hk)
  rw [rest_eq h, encs_drop hk, List.take_append_of_le_length (by rw [lenTo_succ hk] at hc; omega)]
  exact Pk.dec_zig_cut _ _ hx.1 hx.2 (by rw [lenTo_succ hk] at hc; omega)
theorem rest_next {ns : List Int} (hi : I64 ns) {q k : Nat} (hk : k < ns.length) (h : lenTo ns k ≤ q) (hc : lenTo ns (k + 1) ≤ q) : Pk.dec 0 0 (rest ns q k) = (ns[k], (Pk.enc (Pk.zig ns[k])).length, 0) := by
  have hx := hi _ (List.getElem_mem hk)
  rw [rest_eq h, encs_drop hk, List.take_append, List.take_of_length_le (by rw [lenTo_succ hk] at hc; omega)]
  exact Pk.dec_zig _ _ hx.1 hx.2
theorem rest_drop {ns : List Int} {q k : Nat} (hk : k < ns.length) : (rest ns q k).drop (Pk.enc (Pk.zig ns[k])).length = rest ns q (k + 1) := by
  unfold rest; rw [List.drop_drop, lenTo_succ hk]
theorem lenTo_all (ns : List Int) : lenTo ns ns.length = (Pk.encs ns).length := by unfold lenTo; rw [List.take_length]
theorem rest_end (ns : List Int) (q : Nat) : rest ns q ns.length = [] := by
  unfold rest
  rw [lenTo_all]
  exact List.drop_of_length_le (by rw [List.length_take]; omega)

theorem encs_more (ns : List Int) (x : Int) {k : Nat} (h : k < ns.length) : Pk.encs (ns.drop k) ++ [x] = Pk.enc (Pk.zig ns[k]) ++ (Pk.encs (ns.drop (k + 1)) ++ [x]) := by rw [encs_drop h, List.append_assoc]
theorem dec_more {ns : List Int} (hi : I64 ns) (x : Int) {k : Nat} (h : k < ns.length) : Pk.dec 0 0 (Pk.encs (ns.drop k) ++ [x]) = (ns[k], (Pk.enc (Pk.zig ns[k])).length, 0) := by
  have := hi _ (List.getElem_mem h)
  rw [encs_more ns x h]
  exact Pk.dec_zig _ _ this.1 this.2
theorem drop_more {ns : List Int} (x : Int) {k : Nat} (h : k < ns.length) : (Pk.encs (ns.drop k) ++ [x]).drop (Pk.enc (Pk.zig ns[k])).length = Pk.encs (ns.drop (k + 1)) ++ [x] := by
  rw [encs_more ns x h, List.drop_left]

set_option maxHeartbeats 4000000 in
theorem packCuts_short (A : Option Addr) (c : Nat) (ns : List Int) (cut more : Int) (w : World) (hr : Rd w .i64 w.heap.size A ns) (hi : I64 ns) (hl : ns.length ≤ 30) (u0 : 0 ≤ cut) (u1 : cut < 65536) (m0 : 0 ≤ more) (m1 : more < 256) :
    Calls Try.prog 6 #[.slice A ns.length c, .int .u16 cut, .int .u8 more] w fun e w' => e = .returned (.bool true) ∧ Below w.heap.size w w' := by
  have t : decide ((30 : Int) < (ns.length : Int)) = false := by simp; omega
  have HR := Lib.hid hr
  have HI := Lib.hid hi
  have hsh : (Pk.encs ns).length ≤ 11000 := by have := encs_short hi ns.length (by omega); rwa [List.take_length] at this
  have HS := Lib.hid hsh
  clear hr hi hsh
  go_enter Try.func6, Try.ntmps6
  go_wp2_with (fail)
  refine (awake_any _).mono ?_
  rintro e1 w1 ⟨rfl, hb1⟩
  have H1 := Lib.hid hb1
  clear hb1
  go_wp2_with (fail)
  refine (packs_any _ w.heap.size _ _ _ (HR.out.below H1.out) H1.out.size (by omega) HI.out).mono ?_
  intro e2 w2 hO
  obtain ⟨A2, n, c2, rfl, HN, HO2, H2, HR2, h21, h22⟩ := hO.open_
  clear hO
  have hn : n ≤ 11000 := by have := HN.out; have := HS.out; omega
  have q0 : 0 ≤ cut % ((n : Int) + 1) := Int.emod_nonneg _ (by omega)
  have q1 : cut % ((n : Int) + 1) ≤ n := by have := Int.emod_lt_of_pos cut (show (0 : Int) < (n : Int) + 1 by omega); omega
  have z : (((n : Int) + 1) == 0) = false := beq_eq_false_iff_ne.2 (by omega)
  unfold maxLen at h22
  go_wp2_with (fail)
  obtain ⟨q, hq⟩ := Int.eq_ofNat_of_zero_le q0
  rw [hq] at q1 ⊢
  simp only [Int.toNat_natCast]
  clear q0 hq z
  have hqn : q ≤ n := by omega
  have HT : Hid (((Pk.encs ns).take q).length = q) := by rw [List.length_take]; have := HN.out; exact Lib.hid (by omega)
  refine (of_len A2 w2.heap.size c2 q ((Pk.encs ns).take q) w2 (HR2.out.take q) (Nat.le_refl _) (by rw [HT.out]; omega) (fun x hx => by have := Pk.encs_range ns x (List.mem_of_mem_take hx); omega) HT.out).mono ?_
  rintro e3 w3 ⟨g, rfl, hg, hb3, hlt⟩
  have HG : Hid (GB w3 g (rest ns q 0) 0) := by rw [rest_zero]; exact hg
  have H3 := Lib.hid hb3
  have HX : Hid (Below w.heap.size w w3) := (H1.out.trans (H2.out.mono H1.out.size)).trans (H3.out.mono (Nat.le_trans H1.out.size H2.out.size))
  have hgw : w.heap.size ≤ g := Nat.le_trans (Nat.le_trans H1.out.size H2.out.size) hlt
  have HRP : Hid (Rd w3 .u8 w2.heap.size A2 (Pk.encs ns)) := HR2.out.below H3.out
  have h23 : w2.heap.size ≤ w3.heap.size := H3.out.size
  have hg3 : g < w3.heap.size := HG.out.lt
  clear hg hb3 HO2 HR2 H1 H2 H3 h21
  go_wp2
  go_loopw [10, 11] (fun s t wr => ∃ (k p : Nat), k ≤ ns.length ∧ t = .int .i64 k ∧ s = .int .i64 p ∧ p ≤ q ∧ Hid (p = lenTo ns k) ∧ GB wr g (rest ns q k) 0 ∧ w3.grownBy wr (some g)) (fun _ t _ => ns.length - (intOf t).toNat)
  case atStart => exact ⟨0, 0, by omega, rfl, rfl, by omega, rfl, HG.out, grown_refl _ _⟩
  case round =>
    obtain ⟨k, p, hk, rfl, rfl, hpq, HP, hgk, hgr⟩ := hrel
    have HGK := Lib.hid hgk
    have HGR := Lib.hid hgr
    clear hgk hgr
    have hbw : Below w.heap.size w wr := HX.out.trans (grown_below HGR.out hgw HX.out.size)
    have HBW := Lib.hid hbw
    clear hbw
    by_cases hlt2 : k < ns.length
    · obtain ⟨a, rfl, hab, hc⟩ := (HR.out.below HBW.out).at_ hlt2
      have HLs := Lib.hid (lenTo_succ hlt2)
      have HSH := Lib.hid (fun h hc => rest_short (q := q) HI.out hlt2 h hc)
      have HNX := Lib.hid (fun h hc => rest_next (q := q) HI.out hlt2 h hc)
      have HDR := Lib.hid (rest_drop (q := q) hlt2)
      have hx := HI.out _ (List.getElem_mem hlt2)
      generalize ns[k] = x at *
      obtain ⟨x0, x1⟩ := hx
      have h11 := Pk.enc_eleven (Pk.zig_lt x x0 x1)
      have ha : a.block ≠ g := by omega
      go_wp2_with (fail)
      refine (pack_any _ _ x0 x1).mono ?_
      intro e4 w4 hO
      obtain ⟨A4, m, c4, rfl, HN4, HO4, H4, HR4, h41, h42⟩ := hO.open_
      clear hO HO4 HR4
      have HG4 : Hid (GB w4 g (rest ns q k) 0) := HGK.out.below H4.out HGK.out.lt
      have hm : m ≤ 11 := by have := HN4.out; omega
      have hc4 : w4.cell? (a.add k) = some (.int .i64 x) := (Below.cell H4.out (World.block_lt_of_cell? wr _ hc)).trans hc
      clear hc h11
      by_cases hcut : q < p + m
      · have t1 : decide ((q : Int) < (p : Int) + (m : Int)) = true := by simp; omega
        have t2 : decide (q < p + m) = true := by simp; omega
        have HD : Hid (Pk.dec 0 0 (rest ns q k) = (0, 0, 5)) := HSH.out (by have := HP.out; omega) (by have := HP.out; have := HLs.out; have := HN4.out; omega)
        go_wp2_with (fail)
        refine (get_bad _ _ _ _ _ _ _ _ HG4.out HD.out (by decide)).mono ?_
        rintro e5 w5 ⟨rfl, hgr5, hg5⟩
        obtain ⟨A5, c5, hx5, -⟩ := hg5
        have HX5 := Lib.hid hx5
        have H5 : Hid (Below w.heap.size w w5) := (HBW.out.trans (H4.out.mono HBW.out.size)).trans (grown_below hgr5 hgw (Nat.le_trans HBW.out.size H4.out.size))
        clear hgr5 hx5
        go_wp2_with (go_at_call 20; refine (fault_box _ _ _ _ HX5.out).mono ?_; rintro e6 w6 ⟨rfl, rfl⟩)
        go_ret
        exact ⟨rfl, H5.out⟩
      · have t1 : decide ((q : Int) < (p : Int) + (m : Int)) = false := by simp; omega
        have t2 : decide (q < p + m) = false := by simp; omega
        have HD : Hid (Pk.dec 0 0 (rest ns q k) = (x, (Pk.enc (Pk.zig x)).length, 0)) := HNX.out (by have := HP.out; omega) (by have := HP.out; have := HLs.out; have := HN4.out; omega)
        go_wp2_with (fail)
        refine (get_ok' _ _ _ _ _ _ _ _ HG4.out HD.out x0 x1 HDR.out).mono ?_
        rintro e5 w5 ⟨rfl, hgr5, hg5⟩
        have hc5 : w5.cell? (a.add k) = some (.int .i64 x) := (World.cell?_of_block (hgr5.block _ (World.block_lt_of_cell? w4 _ hc4) (by rw [ad_block]; intro e; injection e with e; exact ha e))).trans hc4
        have HR5 := Lib.hid hgr5
        have HG5 := Lib.hid hg5
        clear hgr5 hg5 hc4
        go_wp2
        go_roundw
        case rel => exact ⟨k + 1, p + m, by omega, by go_num, by go_num, by omega, (by have := HP.out; have := HLs.out; have := HN4.out; exact Lib.hid (by omega)), HG5.out, (HGR.out.trans (below_grown H4.out _)).trans HR5.out⟩
        case measure => simp [intOf]; omega
    · obtain rfl : k = ns.length := by omega
      have hge : GB wr g [] 0 := by have := HGK.out; rwa [rest_end] at this
      have HGE := Lib.hid hge
      have hrp : Rd wr .u8 w2.heap.size A2 (Pk.encs ns) := HRP.out.below (grown_below HGR.out hlt h23)
      have HRW := Lib.hid hrp
      have h2r : w2.heap.size ≤ wr.heap.size := Nat.le_trans h23 HGR.out.size
      have key1 : ∀ v' w4, Grew wr wr.heap.size (.slice none 0 0) ([] ++ Pk.encs ns) v' w4 → ∃ A6 c6, v' = .slice A6 n c6 ∧ Hid (Below wr.heap.size wr w4) ∧ Hid (w4.ownsRow wr.heap.size 5 1 (.slice A6 n c6) (Pk.encs ns).length (cl .u8 (Pk.encs ns))) := by
        intro v' w4 hg
        obtain ⟨A6, c6, rfl, -, -⟩ := own_form hg.own
        have ho := hg.own
        rw [List.nil_append, HN.out] at ho ⊢
        exact ⟨A6, c6, rfl, hg.below0, ho⟩
      have key2 : ∀ A6 c6 (w4 : World), w4.ownsRow wr.heap.size 5 1 (.slice A6 n c6) (Pk.encs ns).length (cl .u8 (Pk.encs ns)) → ∀ v' w5, Grew (w4.alloc (.cells #[.int .u8 more] 5)) wr.heap.size (.slice A6 n c6) (Pk.encs ns ++ [more]) v' w5 → Below wr.heap.size wr w4 →
          ∃ A7 c7, v' = .slice A7 (n + 1) c7 ∧ Hid (Below wr.heap.size wr w5) ∧ Hid (Rd w5 .u8 w5.heap.size A7 (Pk.encs ns ++ [more])) := by
        intro A6 c6 w4 ho v' w5 hg hb
        obtain ⟨A7, c7, rfl, -, -⟩ := own_form hg.own
        refine ⟨A7, c7, by rw [List.length_append, HN.out]; rfl, hb.trans ((hg.of_alloc).below (l0 := Pk.encs ns) ho hb.size), Rd.own hg.own⟩
      have KEY1 := Lib.hid key1
      have KEY2 := Lib.hid key2
      have HN1 : Hid ((Pk.encs ns ++ [more]).length = n + 1) := by rw [List.length_append, HN.out]; rfl
      clear hge hrp key1 key2 HGK
      go_wp2_with (first
        | (at_builtin; refine wpList_append_rd rfl _ _ rfl rfl wr.heap.size (.slice none 0 0) [] (Pk.encs ns) _ A2 c2 rfl (by rw [HN.out]; rfl) (World.ownsRow_nil _ _ _ _) HRW.out (by rw [HN.out]; simp; omega) (Nat.le_refl _) ?_; intro v4 w4 hg4; obtain ⟨A6, c6, rfl, H4, HO6⟩ := KEY1.out _ _ hg4; clear hg4)
        | (at_builtin; refine wpList_append_rd rfl _ _ rfl rfl wr.heap.size (.slice _ _ _) (Pk.encs ns) [more] _ _ _ rfl rfl (HO6.out.alloc _) (rd_one w4 _ _) (by rw [HN.out]; simp; omega) (by rw [World.size_alloc]; have := H4.out.size; omega) ?_; intro v5 w5 hg5; obtain ⟨A7, c7, rfl, H5, HR7⟩ := KEY2.out _ _ _ HO6.out _ _ hg5 H4.out; clear hg5))
      refine (of_len A7 _ c7 (n + 1) (Pk.encs ns ++ [more]) w5 HR7.out (Nat.le_refl _) (by rw [HN1.out]; omega) (fun x hx => ?_) HN1.out).mono ?_
      · rcases List.mem_append.1 hx with hx | hx
        · have := Pk.encs_range ns x hx; omega
        · simp at hx; subst hx; omega
      rintro e6 w6 ⟨gz, rfl, hg6, hb6, hlt6⟩
      have HG6 : Hid (GB w6 gz (Pk.encs (ns.drop 0) ++ [more]) 0) := by rw [List.drop_zero]; exact hg6
      have H6 := Lib.hid hb6
      have HX6 : Hid (Below w.heap.size w w6) := (HBW.out.trans (H5.out.mono HBW.out.size)).trans (H6.out.mono (Nat.le_trans HBW.out.size H5.out.size))
      have hgz : w.heap.size ≤ gz := Nat.le_trans (Nat.le_trans HBW.out.size H5.out.size) hlt6
      have hggz : g < gz := Nat.lt_of_lt_of_le HGE.out.lt (Nat.le_trans H5.out.size hlt6)
      have HGE6 : Hid (GB w6 g [] 0) := (HGE.out.below H5.out HGE.out.lt).below H6.out (Nat.lt_of_lt_of_le HGE.out.lt H5.out.size)
      clear hg6 hb6 HO6 H4 H5 HR7 H6 KEY1 KEY2 HGE
      go_wp2
      go_loopw [15] (fun t wz => ∃ k : Nat, k ≤ ns.length ∧ t = .int .i64 k ∧ GB wz gz (Pk.encs (ns.drop k) ++ [more]) 0 ∧ w6.grownBy wz (some gz)) (fun t _ => ns.length - (intOf t).toNat)
      case atStart => exact ⟨0, by omega, rfl, HG6.out, grown_refl _ _⟩
      case round =>
        obtain ⟨k, hk2, rfl, hgk, hgr⟩ := hrel
        have HGK := Lib.hid hgk
        have HGZ := Lib.hid hgr
        clear hgk hgr
        by_cases hlt3 : k < ns.length
        · have HD := Lib.hid (dec_more HI.out more hlt3)
          have HW := Lib.hid (drop_more more hlt3)
          have hx := HI.out _ (List.getElem_mem hlt3)
          generalize ns[k] = x at *
          obtain ⟨x0, x1⟩ := hx
          go_wp2_with (fail)
          refine (get_ok' _ _ _ _ _ _ _ _ HGK.out HD.out x0 x1 HW.out).mono ?_
          rintro e7 w7 ⟨rfl, hgr7, hg7⟩
          have HR7 := Lib.hid hgr7
          have HG7 := Lib.hid hg7
          clear hgr7 hg7
          go_wp2
          go_roundw
          case rel => exact ⟨k + 1, by omega, by go_num, HG7.out, HGZ.out.trans HR7.out⟩
          case measure => simp [intOf]; omega
        · obtain rfl : k = ns.length := by omega
          have hz : GB wr gz [more] 0 := by have := HGK.out; rwa [List.drop_length, Pk.encs_nil, List.nil_append] at this
          obtain ⟨Az, cz, hxz, -⟩ := hz
          obtain ⟨Ax, cx, hxx, -⟩ := HGE6.out.grownLow HGZ.out hggz
          have HXZ : Hid (Bx wr gz (.slice Az 1 cz) 0) := hxz
          have HXX : Hid (Bx wr g (.slice Ax 0 cx) 0) := hxx
          clear hxz hxx
          go_wp2_with (fail)
          refine (end_ok _ _ _ _ _ HXX.out).mono ?_
          rintro e8 w8 ⟨rfl, rfl⟩
          go_wp2_with (fail)
          refine (end_ok _ _ _ _ _ HXZ.out).mono ?_
          rintro e9 w9 ⟨rfl, rfl⟩
          go_wp2
          go_ret
          exact ⟨rfl, HX6.out.trans (grown_below HGZ.out hgz HX6.out.size)⟩

theorem packCuts_walk (A : Option Addr) (c : Nat) (ns : List Int) (w : World) (hr : Rd w .i64 w.heap.size A ns) (hb : ∀ x ∈ ns, (Lit.int .i64 x).wf = true) (cut : Int) (u : (Lit.int .u16 cut).wf = true) (more : Int) (m : (Lit.int .u8 more).wf = true) :
    Calls Try.prog 6 #[.slice A ns.length c, .int .u16 cut, .int .u8 more] w fun e w' => e = .returned (.bool true) ∧ Below w.heap.size w w' := by
  by_cases hl : 30 < ns.length
  · exact packCuts_long A c ns cut more w hl
  · have hu := wf_u16 u
    have hm := wf_u8 m
    exact packCuts_short A c ns cut more w hr (fun x hx => wf_i64 (hb x hx)) (by omega) hu.1 hu.2 hm.1 hm.2
end Go.Proofs.Ytbnbamakcbpaeaa
