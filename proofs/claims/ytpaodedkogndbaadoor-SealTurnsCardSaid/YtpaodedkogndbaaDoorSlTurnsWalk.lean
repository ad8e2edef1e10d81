/-
  The walk of the law SealTurns: it returns true, whatever the input, and makes new blocks alone. Condition: the table holds what the program's text lays.
-/
import Derived.Test.YtpaodedkogndbaaDoorSlTurn
import Derived.Test.YtpaodedkogndbaaDoorSlClosesWalk
namespace Go.Proofs.YtpaodedkogndbaaDoor
open Go.ChangeShapes Go.WideShapes Go.ChangeAt Go.RowKit

set_option maxHeartbeats 1000000 in
theorem sealTurns_long (age place : Int) (A : Option Addr) (c n : Nat) (at_ turn cut : Int) (w : World) (ht : Tab w) (h : 200 < n ∨ turn = 0) :
    Calls Tryd.prog 6 #[.int .u32 age, .int .u32 place, .slice A n c, .int .u16 at_, .int .u8 turn, .int .u16 cut] w fun e w' => e = .returned (.bool true) ∧ Below w.heap.size w w' := by
  have HT := Lib.hid ht
  by_cases h1 : 200 < n
  · have t : decide ((200 : Int) < (n : Int)) = true := by simp; omega
    clear h h1
    go_enter Tryd.func6, Tryd.ntmps6
    go_wp2_with (fail)
    refine (awake_any _ HT.out).mono ?_
    rintro e w1 ⟨rfl, hb1⟩
    go_wp2_with (fail)
    refine (awake_any _ (HT.out.below hb1)).mono ?_
    rintro e w2 ⟨rfl, hb2⟩
    go_wp2
    go_ret
    exact ⟨rfl, hb1.trans (hb2.mono hb1.size)⟩
  · have t : decide ((200 : Int) < (n : Int)) = false := by simp; omega
    obtain rfl : turn = 0 := by omega
    clear h h1
    go_enter Tryd.func6, Tryd.ntmps6
    go_wp2_with (fail)
    refine (awake_any _ HT.out).mono ?_
    rintro e w1 ⟨rfl, hb1⟩
    go_wp2_with (fail)
    refine (awake_any _ (HT.out.below hb1)).mono ?_
    rintro e w2 ⟨rfl, hb2⟩
    go_wp2
    go_ret
    exact ⟨rfl, hb1.trans (hb2.mono hb1.size)⟩

/-- A row of the call's own that isn't empty: its block. -/
theorem own_some {w : World} {base : Nat} {e : TypeId} {k : IntKind} {v : Value} {l : List Int} (h : w.ownsRow base e 1 v l.length (cl k l)) (n : Nat) (hn : l.length = n) (h0 : 0 < n) :
    ∃ g cap cur, v = .slice (some ⟨g, 0, none⟩) n cap ∧ base ≤ g ∧ w.heap[g]? = some (.cells cur e (0, 0)) ∧ n ≤ cap ∧ cap ≤ maxLen ∧ cur.size = cap ∧ cur.toList.take n = cl k l := by
  subst hn
  rcases h.2 with ⟨_, h1⟩ | ⟨g, cap, cur, rfl, hb, hg, h1, h2, h3, h4⟩
  · omega
  · exact ⟨g, cap, cur, rfl, hb, hg, h1, h2, by rw [h3, Nat.mul_one], by rw [Nat.mul_one] at h4; exact h4⟩

theorem cur_at {cur : Array Value} {N : Nat} {L : List Int} (h : cur.toList.take N = cl .u8 L) {j : Nat} {u : Int} (hu : L[j]? = some u) : cur[j]? = some (.int .u8 u) := by
  have e : (cl .u8 L)[j]? = some (.int .u8 u) := by unfold cl; rw [List.getElem?_map, hu]; rfl
  rw [← h, List.getElem?_take] at e
  split at e
  · rwa [Array.getElem?_toList] at e
  · cases e
/-- One number of a known block is another one. -/
theorem rd_set {w0 : World} {g k N : Nat} {cur : Array Value} {t : TypeId} {v : Int} {L : List Int} (hg : g < w0.heap.size) (h : cur.toList.take N = cl .u8 L) :
    Rd (boxed w0 g (cur.setIfInBounds k (.int .u8 v)) t) .u8 (boxed w0 g (cur.setIfInBounds k (.int .u8 v)) t).heap.size (some ⟨g, 0, none⟩) (L.set k v) := fun _ => by
  refine ⟨_, rfl, by rw [boxed_size]; exact hg, fun j u hu => ?_⟩
  rw [ad_head, boxed_cell hg, Array.getElem?_setIfInBounds]
  by_cases e : k = j
  · subst e
    have hlt : k < L.length := by
      rcases Nat.lt_or_ge k L.length with h' | h'
      · exact h'
      · rw [List.getElem?_eq_none (by rw [List.length_set]; exact h')] at hu; cases hu
    rw [List.getElem?_set_self hlt] at hu
    injection hu with hu
    have hc := cur_at h (List.getElem?_eq_getElem hlt)
    rw [if_pos rfl, if_pos (Array.getElem?_eq_some_iff.1 hc).1, hu]
  · rw [List.getElem?_set_ne e] at hu
    rw [if_neg e]
    exact cur_at h hu

set_option maxHeartbeats 4000000 in
theorem sealTurns_in (age place : Nat) (A : Option Addr) (c n : Nat) (p : List Int) (at_ cut : Nat) (turn : Int) (w : World) (ht : Tab w) (ha : age < 4294967296) (hp : place < 4294967296) (hr : Rd w .u8 w.heap.size A p) (hb : BytesOk p) (hn : p.length = n) (h : n ≤ 200) (hat : at_ < 65536) (hcut : cut < 65536) (t0 : 0 < turn) (t1 : turn < 256) :
    Calls Tryd.prog 6 #[.int .u32 age, .int .u32 place, .slice A n c, .int .u16 at_, .int .u8 turn, .int .u16 cut] w fun e w' => e = .returned (.bool true) ∧ Below w.heap.size w w' := by
  have t : decide ((200 : Int) < (n : Int)) = false := by simp; omega
  have tt : (turn == 0) = false := beq_eq_false_iff_ne.2 (by omega)
  have HT := Lib.hid ht
  have HR := Lib.hid hr
  have HB := Lib.hid hb
  have HN := Lib.hid hn
  have HCL : Hid ((Sl.closed age place p).length = 16 + n) := by rw [← hn]; exact Sl.closed_len age place p
  have HCB : Hid (BytesOk (Sl.closed age place p)) := closed_ok hb
  have hk : at_ % (16 + n) < (Sl.closed age place p).length := by rw [HCL.out]; exact Nat.mod_lt _ (by omega)
  have hj : cut % (16 + n) < 16 + n := Nat.mod_lt _ (by omega)
  have hkx : (at_ : Int) % (16 + (n : Int)) = ((at_ % (16 + n) : Nat) : Int) := by simp
  have hjx : (cut : Int) % (16 + (n : Int)) = ((cut % (16 + n) : Nat) : Int) := by simp
  have HJ := Lib.hid (Sl.open1_cut (age := age) (place := place) (p := p) (by omega) (by rw [hn]; exact hj))
  have hx := HCB.out _ (List.getElem_mem hk)
  have HV := Lib.hid (Sl.open1_turn (age := age) (place := place) (p := p) (k := at_ % (16 + n)) (v := (((Sl.closed age place p)[at_ % (16 + n)].toNat ^^^ turn.toNat : Nat) : Int)) hb (by omega) hk (by omega)
    (by have := Sl.xor_byte (x := (Sl.closed age place p)[at_ % (16 + n)].toNat) (t := turn.toNat) (by omega) (by omega); omega)
    (by have := Sl.xor_turn (x := (Sl.closed age place p)[at_ % (16 + n)].toNat) (t := turn.toNat) (by omega); omega))
  have HXB := u8_xor (Sl.closed age place p)[at_ % (16 + n)] turn hx.1 hx.2 (by omega) t1
  have hxv := Sl.xor_byte (x := (Sl.closed age place p)[at_ % (16 + n)].toNat) (t := turn.toNat) (by omega) (by omega)
  rw [hn] at HV
  have HG : Hid ((Sl.closed age place p)[at_ % (16 + n)]? = some (Sl.closed age place p)[at_ % (16 + n)]) := List.getElem?_eq_getElem hk
  rw [HCL.out] at hk
  clear ht hr hb hn
  go_enter Tryd.func6, Tryd.ntmps6
  go_wp2_with (fail)
  refine (awake_any _ HT.out).mono ?_
  rintro e w1 ⟨rfl, hb1⟩
  have H1 := Lib.hid hb1
  clear hb1
  go_wp2_with (fail)
  refine (close_any age place A w.heap.size c n p w1 (HT.out.below H1.out) ha hp (HR.out.below H1.out) H1.out.size HB.out HN.out (by omega)).mono ?_
  intro e w2 hO
  obtain ⟨A2, c2, rfl, HO2, HB2, HR2, hc2, _⟩ := hO.open_n (16 + n) HCL.out
  clear hO
  have H2 : Hid (Below w.heap.size w w2) := H1.out.trans (HB2.out.mono H1.out.size)
  have S2 := Lib.hid (Grew.start w2)
  generalize (Sl.closed age place p)[at_ % (16 + n)] = x at *
  generalize Sl.closed age place p = L at *
  generalize at_ % (16 + n) = k at *
  generalize cut % (16 + n) = j at *
  generalize x.toNat ^^^ turn.toNat = v at *
  go_wp2_with (at_builtin; refine wpList_append_rd rfl _ _ rfl rfl w2.heap.size (.slice none 0 0) [] L _ A2 c2 rfl (by rw [HCL.out]; rfl) S2.out.own HR2.out (by rw [HCL.out]; simp; omega) (Nat.le_refl _) ?_; intro v3 w3 hg; have S3 : Hid (Grew w2 w2.heap.size (.slice none 0 0) L v3 w3) := S2.out.trans hg; clear hg; obtain ⟨g, cap, cur, rfl, hgb, hw3, hncap, hcap, hcur, htk⟩ := own_some S3.out.own (16 + n) HCL.out (by omega); rw [hkx]; have hck := cur_at htk HG.out; have hgs : g < w3.heap.size := (Array.getElem?_eq_some_iff.1 hw3).1; obtain ⟨w0, rfl, hgw⟩ : ∃ w0, w3 = boxed w0 g cur 5 ∧ g < w0.heap.size := ⟨w3, boxed_self hw3, hgs⟩; clear hw3 hgs)
  have H4 : Hid (Below w2.heap.size w2 (boxed w0 g (cur.setIfInBounds k (.int .u8 v)) 5)) := boxed_below (below_boxed S3.out.below0 hgb) hgb
  have R4 : Hid (Rd (boxed w0 g (cur.setIfInBounds k (.int .u8 v)) 5) .u8 (boxed w0 g (cur.setIfInBounds k (.int .u8 v)) 5).heap.size (some ⟨g, 0, none⟩) (L.set k v)) := rd_set hgw htk
  have L4 : Hid ((L.set k v).length = 16 + n) := by show _ = _; rw [List.length_set, HCL.out]
  have HB4 : Hid (BytesOk (L.set k v)) := fun x hx => by
    rcases List.mem_or_eq_of_mem_set hx with h | h
    · exact HCB.out x h
    · rw [h]; omega
  clear S3 S2 htk hck HG HXB
  generalize boxed w0 g (cur.setIfInBounds k (.int .u8 v)) 5 = w4 at *
  have HW4 : Hid (Below w.heap.size w w4) := H2.out.trans (H4.out.mono H2.out.size)
  refine (open_any age place _ w4.heap.size cap (16 + n) (L.set k v) w4 (HT.out.below HW4.out) R4.out (Nat.le_refl _) HB4.out L4.out hncap (by omega)).mono ?_
  have HJL : Hid ((L.take j).length = j) := by show _ = _; rw [List.length_take, HCL.out]; omega
  have hjc : j ≤ c2 := by omega
  rcases HV.out with ⟨er, he, hv⟩ | ⟨h4, q, m, hm, hv⟩
  · rw [hv]
    rintro e w5 ⟨A5, n5, c5, rfl, HN5, HR5, HB5⟩
    have H5 : Hid (Below w2.heap.size w2 w5) := H4.out.trans (HB5.out.mono H4.out.size)
    have HW5 : Hid (Below w.heap.size w w5) := H2.out.trans (H5.out.mono H2.out.size)
    have t3 : ((er : Int) != 0) = true := by simp; exact he
    clear HV hv HN5 HR5 HB5
    go_wp2_with (rw [hjx])
    refine (open_any age place A2 w2.heap.size c2 j (L.take j) w5 (HT.out.below HW5.out) ((HR2.out.take j).below H5.out) H5.out.size (HCB.out.take j) HJL.out hjc (by omega)).mono ?_
    rw [HJ.out]
    rintro e w6 ⟨A6, n6, c6, rfl, HN6, HR6, HB6⟩
    have HW6 : Hid (Below w.heap.size w w6) := HW5.out.trans (HB6.out.mono HW5.out.size)
    clear HN6 HR6 HB6
    go_wp2
    go_ret
    exact ⟨rfl, HW6.out⟩
  · rw [hv]
    rintro e w5 ⟨A5, n5, c5, rfl, HN5, HR5, HB5⟩
    have H5 : Hid (Below w2.heap.size w2 w5) := H4.out.trans (HB5.out.mono H4.out.size)
    have HW5 : Hid (Below w.heap.size w w5) := H2.out.trans (H5.out.mono H2.out.size)
    have t3 : decide ((k : Int) < 4) = true := by simp; omega
    have t4 : decide ((m : Int) < (n : Int)) = true := by simp; exact hm
    have t5 : decide (16 + (m : Int) < 16 + (n : Int)) = true := by simp; exact hm
    clear HV hv HN5 HR5 HB5
    go_wp2_with (rw [hjx])
    refine (open_any age place A2 w2.heap.size c2 j (L.take j) w5 (HT.out.below HW5.out) ((HR2.out.take j).below H5.out) H5.out.size (HCB.out.take j) HJL.out hjc (by omega)).mono ?_
    rw [HJ.out]
    rintro e w6 ⟨A6, n6, c6, rfl, HN6, HR6, HB6⟩
    have HW6 : Hid (Below w.heap.size w w6) := HW5.out.trans (HB6.out.mono HW5.out.size)
    clear HN6 HR6 HB6
    go_wp2
    go_ret
    exact ⟨rfl, HW6.out⟩

theorem sealTurns_walk (age : Int) (wa : (Lit.int .u32 age).wf = true) (place : Int) (wp : (Lit.int .u32 place).wf = true) (A : Option Addr) (c : Nat) (p : List Int) (_ : p.length ≤ c) (w : World) (hr : Rd w .u8 w.heap.size A p) (hb : ∀ x ∈ p, (Lit.int .u8 x).wf = true)
    (at_ : Int) (wt : (Lit.int .u16 at_).wf = true) (turn : Int) (wu : (Lit.int .u8 turn).wf = true) (cut : Int) (wc : (Lit.int .u16 cut).wf = true) (ht : Tab w) :
    Calls Tryd.prog 6 #[.int .u32 age, .int .u32 place, .slice A p.length c, .int .u16 at_, .int .u8 turn, .int .u16 cut] w fun e w' => e = .returned (.bool true) ∧ Below w.heap.size w w' := by
  by_cases h : 200 < p.length ∨ turn = 0
  · exact sealTurns_long age place A c p.length at_ turn cut w ht h
  · obtain ⟨a0, a1⟩ := wf_u32 wa
    obtain ⟨p0, p1⟩ := wf_u32 wp
    obtain ⟨t0, t1⟩ := wf_u16 wt
    obtain ⟨c0, c1⟩ := wf_u16 wc
    obtain ⟨u0, u1⟩ := wf_u8 wu
    obtain ⟨a, rfl⟩ := Int.eq_ofNat_of_zero_le a0
    obtain ⟨b, rfl⟩ := Int.eq_ofNat_of_zero_le p0
    obtain ⟨t, rfl⟩ := Int.eq_ofNat_of_zero_le t0
    obtain ⟨j, rfl⟩ := Int.eq_ofNat_of_zero_le c0
    exact sealTurns_in a b A c p.length p t j turn w ht (by omega) (by omega) hr (fun x hx => wf_u8 (hb x hx)) rfl (by omega) (by omega) (by omega) (by omega) u1
end Go.Proofs.YtpaodedkogndbaaDoor
