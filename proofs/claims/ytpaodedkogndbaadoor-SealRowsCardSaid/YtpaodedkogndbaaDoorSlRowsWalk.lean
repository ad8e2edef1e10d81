/-
  The walk of the law SealRows: it returns true, whatever the input, and makes new blocks alone. Condition: the table holds what the program's text lays.
-/
import Derived.Test.YtpaodedkogndbaaDoorSlTurn
import Derived.Test.YtpaodedkogndbaaDoorSlClosesWalk
import Derived.Test.YtpaodedkogndbaaDoorRowsIn
namespace Go.Proofs.YtpaodedkogndbaaDoor
open Go.ChangeShapes Go.WideShapes Go.ChangeAt Go.RowKit

namespace Sl
/-- The first j seals in a row, and where each ends. -/
def pj (age : Nat) (ls : List (List Int)) : Nat → List Int
  | 0 => []
  | j + 1 => pj age ls j ++ closed age j (ls.getD j [])
def ej (age : Nat) (ls : List (List Int)) : Nat → List Int
  | 0 => []
  | j + 1 => ej age ls j ++ [((pj age ls (j + 1)).length : Int)]
section
variable {age : Nat} {ls : List (List Int)}
theorem pj_next (j : Nat) : (pj age ls (j + 1)).length = (pj age ls j).length + (16 + (ls.getD j []).length) := by rw [pj, List.length_append, closed_len]
theorem pj_ok (h : ∀ l ∈ ls, BytesOk l) (j : Nat) : BytesOk (pj age ls j) := by
  induction j with
  | zero => intro x hx; simp [pj] at hx
  | succ j ih =>
    refine ih.append (closed_ok ?_)
    rcases Nat.lt_or_ge j ls.length with hj | hj
    · have : ls.getD j [] = ls[j] := by simp [List.getD, hj]
      rw [this]; exact h _ (List.getElem_mem hj)
    · have : ls.getD j [] = [] := by simp [List.getD, hj]
      rw [this]; intro x hx; simp at hx
theorem pj_len {j : Nat} (h : ∀ i, i < j → (ls.getD i []).length ≤ 60) : (pj age ls j).length ≤ 76 * j := by
  induction j with
  | zero => simp [pj]
  | succ j ih =>
    have := ih fun i hi => h i (by omega)
    have := h j (by omega)
    rw [pj_next]; omega
theorem pj_split {j m : Nat} (h : j < m) : ∃ r, pj age ls m = pj age ls j ++ (closed age j (ls.getD j []) ++ r) := by
  induction m with
  | zero => omega
  | succ m ih =>
    by_cases e : j = m
    · subst e; exact ⟨[], by rw [pj, List.append_nil]⟩
    · obtain ⟨r, hr⟩ := ih (by omega)
      exact ⟨r ++ closed age m (ls.getD m []), by rw [pj, hr, List.append_assoc, List.append_assoc]⟩
theorem pj_le {j m : Nat} (h : j < m) : (pj age ls (j + 1)).length ≤ (pj age ls m).length := by
  obtain ⟨r, hr⟩ := pj_split (age := age) (ls := ls) h
  rw [hr, pj_next, List.length_append, List.length_append, closed_len]; omega
theorem ej_len (j : Nat) : (ej age ls j).length = j := by
  induction j with
  | zero => rfl
  | succ j ih => rw [ej, List.length_append, ih]; rfl
theorem ej_at {i m : Nat} (h : i < m) : (ej age ls m)[i]? = some ((pj age ls (i + 1)).length : Int) := by
  induction m with
  | zero => omega
  | succ m ih =>
    rw [ej]
    by_cases e : i = m
    · subst e
      rw [List.getElem?_append_right (by rw [ej_len]; omega), ej_len]; simp
    · rw [List.getElem?_append_left (by rw [ej_len]; omega)]; exact ih (by omega)
/-- What lies between two places of the row. -/
def part (age : Nat) (ls : List (List Int)) (m j k : Nat) : List Int := ((pj age ls m).drop (pj age ls j).length).take (k - (pj age ls j).length)
theorem part_len {m j k : Nat} (hk : k ≤ (pj age ls m).length) (hj : (pj age ls j).length ≤ k) : (part age ls m j k).length = k - (pj age ls j).length := by
  unfold part; rw [List.length_take, List.length_drop]; omega
theorem part_short {m j k : Nat} (hm : j < m) (hl : (ls.getD j []).length ≤ 60) (h0 : (pj age ls j).length ≤ k) (h1 : k < (pj age ls (j + 1)).length) : open1 age j (part age ls m j k) = ([], 0, 5) := by
  obtain ⟨r, hr⟩ := pj_split (age := age) (ls := ls) hm
  rw [pj_next] at h1
  unfold part
  rw [hr, List.drop_left, List.take_append_of_le_length (by rw [closed_len]; omega)]
  exact open1_cut (by omega) (by omega)
theorem part_full {m j k : Nat} (ha : age < 4294967296) (hj : j < 4294967296) (hm : j < m) (hl : (ls.getD j []).length ≤ 60) (h1 : (pj age ls (j + 1)).length ≤ k) : open1 age j (part age ls m j k) = (ls.getD j [], 16 + (ls.getD j []).length, 0) := by
  obtain ⟨r, hr⟩ := pj_split (age := age) (ls := ls) hm
  rw [pj_next] at h1
  unfold part
  rw [hr, List.drop_left, List.take_append, List.take_of_length_le (by rw [closed_len]; omega)]
  exact open1_closed _ ha hj (by omega)
end
end Sl

set_option maxHeartbeats 1000000 in
theorem sealRows_long (age : Int) (A : Option Addr) (c n : Nat) (cut : Int) (w : World) (ht : Tab w) (h : 10 < n) :
    Calls Tryd.prog 7 #[.int .u32 age, .slice A n c, .int .u16 cut] w fun e w' => e = .returned (.bool true) ∧ Below w.heap.size w w' := by
  have HT := Lib.hid ht
  have t : decide ((10 : Int) < (n : Int)) = true := by simp; omega
  clear h
  go_enter Tryd.func7, Tryd.ntmps7
  go_wp2_with (fail)
  refine (awake_any _ HT.out).mono ?_
  rintro e w1 ⟨rfl, hb1⟩
  go_wp2_with (fail)
  refine (awake_any _ (HT.out.below hb1)).mono ?_
  rintro e w2 ⟨rfl, hb2⟩
  go_wp2
  go_ret
  exact ⟨rfl, hb1.trans (hb2.mono hb1.size)⟩

theorem lit_cells (w : World) (cs : Array Value) (k : IntKind) (l : List Int) (t : TypeId) (f : Nat × Nat) (h : cs.toList = cl k l) : ∀ j u, l[j]? = some u → (w.alloc (.cells cs t f)).cell? ((⟨w.heap.size, 0, none⟩ : Addr).add j) = some (.int k u) := fun j u hu => by
  rw [ad_head, cell_of_row _ _ _ _ _ f alloc_block, ← Array.getElem?_toList, h]
  unfold cl; rw [List.getElem?_map, hu]; rfl

set_option maxRecDepth 20000 in
set_option maxHeartbeats 4000000 in
theorem sealRows_in (age : Nat) (A : Option Addr) (c m : Nat) (ls : List (List Int)) (cut : Nat) (w : World) (ht : Tab w) (ha : age < 4294967296) (hr : RdRows w .u8 w.heap.size A ls) (hb : ∀ l ∈ ls, BytesOk l) (hm : ls.length = m) (h : m ≤ 10) (hcut : cut < 65536) :
    Calls Tryd.prog 7 #[.int .u32 age, .slice A m c, .int .u16 cut] w fun e w' => e = .returned (.bool true) ∧ Below w.heap.size w w' := by
  have HT := Lib.hid ht
  have HR := Lib.hid hr
  have HB := Lib.hid hb
  have HM := Lib.hid hm
  have t : decide ((10 : Int) < (m : Int)) = false := by simp; omega
  clear ht hr hb hm
  go_enter Tryd.func7, Tryd.ntmps7
  go_wp2_with (fail)
  refine (awake_any _ HT.out).mono ?_
  rintro e w1 ⟨rfl, hb1⟩
  have H1 := Lib.hid hb1
  clear hb1
  go_wp2
  go_loopw [7, 8, 9] (fun p e i wr => ∃ j : Nat, j ≤ m ∧ i = .int .i64 j ∧ Hid (∀ i, i < j → (ls.getD i []).length ≤ 60) ∧ Hid (wr.ownsRow w1.heap.size 5 1 p (Sl.pj age ls j).length (cl .u8 (Sl.pj age ls j))) ∧ Hid (wr.ownsRow w1.heap.size 3 1 e (Sl.ej age ls j).length (cl .i64 (Sl.ej age ls j))) ∧ Hid (Below w1.heap.size w1 wr)) (fun _ _ i _ => m - (intOf i).toNat)
  case atStart => exact ⟨0, by omega, rfl, fun i hi => absurd hi (by omega), World.ownsRow_nil _ _ _ _, World.ownsRow_nil _ _ _ _, Below.refl _ _⟩
  case round =>
    obtain ⟨j, hj, rfl, H60, HP, HE, HW⟩ := hrel
    have HWr : Hid (Below w.heap.size w wr) := H1.out.trans (HW.out.mono H1.out.size)
    by_cases hlt : j < m
    · obtain ⟨al, A', c', rfl, hal, hcell, hc', hrd⟩ := HR.out.below HWr.out j (ls.getD j []) (by simp [List.getD, show j < ls.length by rw [HM.out]; exact hlt])
      obtain ⟨d, hd⟩ : ∃ d, ls.getD j [] = d := ⟨_, rfl⟩
      have HD := Lib.hid hd
      have HBd : Hid (BytesOk d) := HB.out d (by rw [← hd]; simp [List.getD, show j < ls.length by rw [HM.out]; exact hlt])
      have HR' := Lib.hid hrd
      rw [hd] at hcell hc' HR'
      clear hd hrd
      by_cases hd60 : 60 < d.length
      · have t1 : decide ((60 : Int) < (d.length : Int)) = true := by simp; omega
        go_wp2
        go_ret
        exact ⟨rfl, HWr.out⟩
      · have t1 : decide ((60 : Int) < (d.length : Int)) = false := by simp; omega
        have HCL : Hid ((Sl.closed age j d).length = 16 + d.length) := Sl.closed_len age j d
        have hpl := Sl.pj_len (age := age) H60.out
        go_wp2_with (fail)
        refine (refClose_eq age j _ _ A' w.heap.size c' d.length d wr rfl (by omega) ha (by omega) HR'.out HWr.out.size HBd.out rfl (by omega)).mono ?_
        intro e w5 hO
        obtain ⟨A5, c5, rfl, HO5, HB5, HR5, hc5, _⟩ := hO.open_n (16 + d.length) HCL.out
        clear hO
        have HP5 : Hid (w5.ownsRow w1.heap.size 5 1 u7 (Sl.pj age ls j).length (cl .u8 (Sl.pj age ls j))) := own_kept HP.out fun i hi => HB5.out.block i (HP.out.lt i hi).2
        have HE5 : Hid (w5.ownsRow w1.heap.size 3 1 u8 (Sl.ej age ls j).length (cl .i64 (Sl.ej age ls j))) := own_kept HE.out fun i hi => HB5.out.block i (HE.out.lt i hi).2
        have HW5 : Hid (Below w1.heap.size w1 w5) := HW.out.trans (HB5.out.mono HW.out.size)
        have HPN : Hid (Sl.pj age ls j ++ Sl.closed age j d = Sl.pj age ls (j + 1)) := by show _ = Sl.pj age ls j ++ Sl.closed age j (ls.getD j []); rw [HD.out]
        have HEN : Hid (Sl.ej age ls j ++ [((Sl.pj age ls (j + 1)).length : Int)] = Sl.ej age ls (j + 1)) := rfl
        obtain ⟨N, hN⟩ : ∃ N, (Sl.pj age ls (j + 1)).length = N := ⟨_, rfl⟩
        have HN := Lib.hid hN
        rw [hN] at HEN
        clear hN
        go_wp2_with (first
          | (at_builtin; refine wpList_append_rd rfl _ _ rfl rfl w1.heap.size u7 (Sl.pj age ls j) (Sl.closed age j d) _ A5 c5 rfl (by rw [HCL.out]; rfl) HP5.out HR5.out (by rw [HCL.out]; omega) HW5.out.size ?_; intro v6 w6 hg; rw [HPN.out] at hg; have HP6 := Lib.hid hg.own; have HE6 : Hid (w6.ownsRow w1.heap.size 3 1 u8 (Sl.ej age ls j).length (cl .i64 (Sl.ej age ls j))) := own_apart HE5.out HP5.out (by decide) hg.grown; have HW6 : Hid (Below w1.heap.size w1 w6) := HW5.out.trans (hg.below HP5.out HW5.out.size); obtain ⟨A6, c6, rfl, hc6, hm6⟩ := hg.open_ N HN.out; clear hg)
          | (at_builtin; refine wpList_append_ints rfl _ _ rfl rfl w1.heap.size u8 (Sl.ej age ls j) [(N : Int)] ⟨w6.heap.size, 0, none⟩ 1 rfl rfl (HE6.out.alloc _) (lit_cells w6 _ .i64 [(N : Int)] _ _ rfl) (by rw [Sl.ej_len]; simp; omega) (by rw [World.size_alloc]; exact Nat.le_succ_of_le HW6.out.size) ?_; intro v7 w7 ho7 hg7; rw [HEN.out] at ho7; have HE7 := Lib.hid ho7; have HP7 : Hid (w7.ownsRow w1.heap.size 5 1 (.slice A6 N c6) (Sl.pj age ls (j + 1)).length (cl .u8 (Sl.pj age ls (j + 1)))) := own_apart (HP6.out.alloc _) (HE6.out.alloc _) (by decide) hg7; have HW7 : Hid (Below w1.heap.size w1 w7) := (HW6.out.alloc HW6.out.size _).trans (grown_below_own hg7 (fun i hi => (HE6.out.lt i hi).1) (by rw [World.size_alloc]; exact Nat.le_succ_of_le HW6.out.size)); clear ho7 hg7))
        have H60' : Hid (∀ i, i < j + 1 → (ls.getD i []).length ≤ 60) := fun i hi => by
          by_cases e : i = j
          · subst e; rw [HD.out]; omega
          · exact H60.out i (by omega)
        go_roundw
        case rel => exact ⟨j + 1, by omega, by go_num, H60', HP7, HE7, HW7⟩
        case measure => simp [intOf]; omega
    · obtain rfl : j = m := by omega
      have hpl := Sl.pj_len (age := age) H60.out
      have HPB : Hid (BytesOk (Sl.pj age ls j)) := Sl.pj_ok HB.out j
      obtain ⟨NP, hNP⟩ : ∃ N, (Sl.pj age ls j).length = N := ⟨_, rfl⟩
      have HNP := Lib.hid hNP
      rw [hNP] at hpl
      clear hNP
      obtain ⟨Ap, cp, rfl, hcp, hmp⟩ := own_form HP.out
      obtain ⟨Ae, ce, rfl, hce, hme⟩ := own_form HE.out
      have HRP : Hid (Rd wr .u8 wr.heap.size Ap (Sl.pj age ls j)) := Rd.own HP.out
      have HRE : Hid (Rd wr .i64 wr.heap.size Ae (Sl.ej age ls j)) := Rd.own HE.out
      rw [HNP.out] at hcp ⊢
      rw [Sl.ej_len] at hce ⊢
      have hkx : (cut : Int) % ((NP : Int) + 1) = ((cut % (NP + 1) : Nat) : Int) := by simp
      have hk : cut % (NP + 1) < NP + 1 := Nat.mod_lt _ (by omega)
      clear HP HE HW
      generalize wr = ws at *
      go_wp2_with (rw [hkx])
      generalize cut % (NP + 1) = k at *
      go_loopw [11, 12] (fun a i wr => ∃ i' : Nat, i' ≤ j ∧ a = .int .i64 (Sl.pj age ls i').length ∧ i = .int .i64 i' ∧ Hid ((Sl.pj age ls i').length ≤ k) ∧ Hid (Below ws.heap.size ws wr)) (fun _ i _ => j - (intOf i).toNat)
      case atStart => exact ⟨0, by omega, rfl, rfl, Nat.zero_le _, Below.refl _ _⟩
      case round =>
        obtain ⟨i, hi, rfl, rfl, HK, HW2⟩ := hrel
        have HW3 : Hid (Below w.heap.size w wr) := HWr.out.trans (HW2.out.mono HWr.out.size)
        by_cases hlt2 : i < j
        · have H60i : (ls.getD i []).length ≤ 60 := H60.out i hlt2
          have hN1 := Sl.pj_next (age := age) (ls := ls) i
          have hN1le := Sl.pj_le (age := age) (ls := ls) hlt2
          have HEA : Hid ((Sl.ej age ls j)[i]? = some ((Sl.pj age ls (i + 1)).length : Int)) := Sl.ej_at hlt2
          have HPL := Lib.hid (Sl.part_len (age := age) (ls := ls) (m := j) (j := i) (k := k) (by rw [HNP.out]; omega) HK.out)
          have HPS : Hid (k < (Sl.pj age ls (i + 1)).length → Sl.open1 age i (Sl.part age ls j i k) = ([], 0, 5)) := fun hh => Sl.part_short hlt2 H60i HK.out hh
          have HPF : Hid ((Sl.pj age ls (i + 1)).length ≤ k → Sl.open1 age i (Sl.part age ls j i k) = (ls.getD i [], 16 + (ls.getD i []).length, 0)) := fun hh => Sl.part_full ha (by omega) hlt2 H60i hh
          have HPO : Hid (BytesOk (Sl.part age ls j i k)) := (HPB.out.drop _).take _
          have HPD : Hid (Rd ws .u8 ws.heap.size (if cp = (Sl.pj age ls i).length then Ap else Ap.map (·.add (Sl.pj age ls i).length)) (Sl.part age ls j i k)) := HRP.out.cut' (by rw [HNP.out]; exact hcp) _ _
          obtain ⟨ap, rfl⟩ : ∃ a, Ap = some a := by obtain ⟨a, h, _⟩ := HRP.out.at_ (j := 0) (by rw [HNP.out]; rw [HNP.out] at hN1le; omega); exact ⟨a, h⟩
          obtain ⟨al, A', c', rfl, hal, hcell, hc', hrd⟩ := HR.out.below HW3.out i (ls.getD i []) (by simp [List.getD, show i < ls.length by rw [HM.out]; exact hlt2])
          obtain ⟨ae, rfl, hae, hcelle⟩ := HRE.out.at_ (j := i) (by rw [Sl.ej_len]; exact hlt2)
          have hej : (Sl.ej age ls j)[i]'(by rw [Sl.ej_len]; exact hlt2) = ((Sl.pj age ls (i + 1)).length : Int) := by
            have := HEA.out
            rw [List.getElem?_eq_getElem (by rw [Sl.ej_len]; exact hlt2)] at this
            injection this
          rw [hej] at hcelle
          rw [HNP.out] at hN1le
          have HT' := HK.out
          have HSTEP : Hid ((Sl.pj age ls (i + 1)).length = (Sl.pj age ls i).length + (16 + (ls.getD i []).length)) := hN1
          clear hej
          obtain ⟨T, hT⟩ : ∃ T, (Sl.pj age ls i).length = T := ⟨_, rfl⟩
          obtain ⟨N1, hN⟩ : ∃ T, (Sl.pj age ls (i + 1)).length = T := ⟨_, rfl⟩
          have HTN := Lib.hid hN
          rw [hT] at HPL HPD hN1 HT' HSTEP ⊢
          rw [hN] at HEA HPS HPF hN1 hN1le hcelle HSTEP
          clear hT hN
          generalize Sl.part age ls j i k = D at *
          generalize ls.getD i [] = d at *
          have hcT : ¬ cp = T := by omega
          rw [if_neg hcT] at HPD
          have hTk : T ≤ k := HT'
          have hkc : k ≤ cp := by omega
          have HRd := Lib.hid hrd
          clear hrd HEA HT'
          by_cases hshort : k < N1
          · have t5 : decide ((k : Int) < (N1 : Int)) = true := by simpa using hshort
            have HQ := Lib.hid (HPS.out hshort)
            have HCE : Hid (wr.cell? (ae.add i) = some (.int .i64 N1)) := (World.cell?_of_block (HW2.out.block _ (by rw [ad_block]; exact hae))).trans hcelle
            go_wp2_with (fail)
            refine (open_any age i (some (ap.add T)) ws.heap.size (cp - T) (k - T) D wr (HT.out.below HW3.out) (HPD.out.below HW2.out) HW2.out.size HPO.out HPL.out (by omega) (by omega)).mono ?_
            rw [HQ.out]
            rintro e w5 ⟨A5, n5, c5, rfl, HN5, HR5, HB5⟩
            obtain rfl : n5 = 0 := HN5.out.symm
            have hce5 : w5.cell? (ae.add i) = some (.int .i64 N1) := (World.cell?_of_block (HB5.out.block _ (by rw [ad_block]; exact Nat.lt_of_lt_of_le hae HW2.out.size))).trans HCE.out
            have HW5 : Hid (Below w.heap.size w w5) := HW3.out.trans (HB5.out.mono HW3.out.size)
            go_wp2
            go_ret
            exact ⟨rfl, HW5.out⟩
          · have t5 : decide ((k : Int) < (N1 : Int)) = false := by simp; omega
            have HQ := Lib.hid (HPF.out (by omega))
            have HCE : Hid (wr.cell? (ae.add i) = some (.int .i64 N1)) := (World.cell?_of_block (HW2.out.block _ (by rw [ad_block]; exact hae))).trans hcelle
            have HCL := Lib.hid hcell
            clear hcelle hcell
            go_wp2_with (fail)
            refine (open_any age i (some (ap.add T)) ws.heap.size (cp - T) (k - T) D wr (HT.out.below HW3.out) (HPD.out.below HW2.out) HW2.out.size HPO.out HPL.out (by omega) (by omega)).mono ?_
            rw [HQ.out]
            rintro e w5 ⟨A5, n5, c5, rfl, HN5, HR5, HB5⟩
            obtain rfl : n5 = d.length := HN5.out.symm
            have hce5 : w5.cell? (ae.add i) = some (.int .i64 N1) := (World.cell?_of_block (HB5.out.block _ (by rw [ad_block]; exact Nat.lt_of_lt_of_le hae HW2.out.size))).trans HCE.out
            have hcl5 : w5.cell? (al.add i) = some (.slice A' d.length c') := (World.cell?_of_block (HB5.out.block _ (by rw [ad_block]; exact Nat.lt_of_lt_of_le hal HW3.out.size))).trans HCL.out
            have HW5 : Hid (Below w.heap.size w w5) := HW3.out.trans (HB5.out.mono HW3.out.size)
            have HS5 : Hid (Below ws.heap.size ws w5) := HW2.out.trans (HB5.out.mono HW2.out.size)
            have HD5 : Hid (Rd w5 .u8 w.heap.size A' d) := HRd.out.below (HB5.out.mono HW3.out.size)
            have hce : ∀ x, (over w5 x).cell? (ae.add i) = some (.int .i64 N1) := fun x => (World.cell?_of_block ((over_below w5 x).block _ (by rw [ad_block]; exact Nat.lt_of_lt_of_le hae HS5.out.size))).trans hce5
            have hcl : ∀ x, (over w5 x).cell? (al.add i) = some (.slice A' d.length c') := fun x => (World.cell?_of_block ((over_below w5 x).block _ (by rw [ad_block]; exact Nat.lt_of_lt_of_le hal HW5.out.size))).trans hcl5
            have hcv1 : ∀ x, (convert 22 9 (.slice A5 d.length c5)).run Tryd.prog (over w5 x) = .ok (.string (bst d)) (over w5 x) := fun x => conv_len _ A5 w5.heap.size c5 d.length d (HR5.out.below (over_below _ _)) rfl
            have hcv2 : ∀ x, (convert 22 9 (.slice A' d.length c')).run Tryd.prog (over w5 x) = .ok (.string (bst d)) (over w5 x) := fun x => conv_len _ A' w.heap.size c' d.length d (HD5.out.below ((over_below _ _).mono HW5.out.size)) rfl
            have t6 : ((T : Int) + (16 + (d.length : Int)) != (N1 : Int)) = false := by simp; omega
            go_wp2
            refine region_over (by kernel_rfl) (by kernel_rfl) ?_
            repeat (go_big_quiet_step (fail))
            refine wpQuiet_nil ?_
            rintro w' ⟨x, rfl⟩
            have H6 : Hid (Below ws.heap.size ws (over w5 x)) := HS5.out.trans ((over_below _ _).mono HS5.out.size)
            have hT5 : T ≤ 1000 := by omega
            have hd5 : d.length ≤ 60 := H60i
            clear hce hcl hcv1 hcv2 hce5 hcl5 HR5 HB5 HD5 hN1 t6
            generalize over w5 x = w6 at *
            go_wp2
            have HK1 : Hid ((Sl.pj age ls (i + 1)).length ≤ k) := by show (Sl.pj age ls (i + 1)).length ≤ k; rw [HTN.out]; omega
            exact ⟨⟨i + 1, by omega, val_i64 (by rw [HTN.out]; have := HSTEP.out; omega), rfl, HK1, H6⟩, by simp [intOf]; omega⟩
        · obtain rfl : i = j := by omega
          rw [HNP.out]
          go_wp2
          go_ret
          exact ⟨rfl, HW3.out⟩

theorem sealRows_walk (age : Int) (wa : (Lit.int .u32 age).wf = true) (A : Option Addr) (c : Nat) (ls : List (List Int)) (w : World) (hr : RdRows w .u8 w.heap.size A ls) (hb : ∀ l ∈ ls, ∀ x ∈ l, (Lit.int .u8 x).wf = true) (cut : Int) (wc : (Lit.int .u16 cut).wf = true) (ht : Tab w) :
    Calls Tryd.prog 7 #[.int .u32 age, .slice A ls.length c, .int .u16 cut] w fun e w' => e = .returned (.bool true) ∧ Below w.heap.size w w' := by
  by_cases h : 10 < ls.length
  · exact sealRows_long age A c ls.length cut w ht h
  · obtain ⟨a0, a1⟩ := wf_u32 wa
    obtain ⟨c0, c1⟩ := wf_u16 wc
    obtain ⟨a, rfl⟩ := Int.eq_ofNat_of_zero_le a0
    obtain ⟨j, rfl⟩ := Int.eq_ofNat_of_zero_le c0
    exact sealRows_in a A c ls.length ls j w ht (by omega) hr (fun l hl x hx => wf_u8 (hb l hl x hx)) rfl (by omega) (by omega)
end Go.Proofs.YtpaodedkogndbaaDoor
