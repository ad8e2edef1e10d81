/-
  Contracts of the document's own plates: one act more, a sector read. No conditions but the sizes.
-/
import Derived.Test.YtlbodpffkdfllaaRf
import Derived.Laws.ResultCell
namespace Go.Proofs.Ytlbodpffkdfllaa
open Go.ChangeShapes Go.WideShapes Go.ChangeAt Go.RowKit
open Rf (sl ys rv)

theorem info31 : (Try.prog.info? 31).map (fun i => (i.zero, i.size, i.bytes)) = some (some (.slice none 0 0), 1, 24) := by kernel_rfl
theorem info69 : (Try.prog.info? 64).map (fun i => (i.zero, i.size, i.bytes)) = some (some (.agg #[.int .i64 0, .slice none 0 0]), 2, 32) := by kernel_rfl

set_option maxHeartbeats 800000 in
theorem refAct_any (w : World) (A A2 : Option Addr) (n c n2 c2 : Nat) (r : Rf.R) (hl : -1 ≤ r.left ∧ r.left ≤ 1000) (ha : 0 ≤ r.acts ∧ r.acts ≤ 1000) :
    Calls Try.prog 29 #[rv (.slice A n c) (.slice A2 n2 c2) r] w fun e w' => e = .returned (.tuple #[rv (.slice A n c) (.slice A2 n2 c2) r.act, .bool r.goes]) ∧ Below w.heap.size w w' := by
  obtain ⟨safe, wet, left, spare, off, acts⟩ := r
  simp only at hl ha
  have HB : ∀ o o', Below w.heap.size w ((w.alloc o).alloc o') := fun o o' => ((Below.refl _ _).alloc (Nat.le_refl _) _).alloc (by rw [World.size_alloc]; omega) _
  have HB' := Lib.hid HB
  clear HB
  unfold rv
  cases off
  · by_cases h0 : left = 0
    · subst h0
      go_enter Try.func29, Try.ntmps29
      go_wp2
      exact bodyPost_ret (v := .tuple #[.agg #[.slice A n c, .slice A2 n2 c2, .int .i64 0, .int .i64 spare, .bool true, .int .i64 acts], .bool false]) (by simp [results, Try.results29, go_sem]) rfl ⟨by first | (simp [Rf.R.act, Rf.R.goes, *]; done) | (simp [Rf.R.act, Rf.R.goes, *]; omega), HB'.out _ _⟩
    · by_cases h1 : 0 < left
      · have d0 : (left == 0) = false := by simpa using h0
        have d1 : decide (0 < left) = true := by simpa using h1
        go_enter Try.func29, Try.ntmps29
        go_wp2
        exact bodyPost_ret (v := .tuple #[.agg #[.slice A n c, .slice A2 n2 c2, .int .i64 (left - 1), .int .i64 spare, .bool false, .int .i64 (acts + 1)], .bool true]) (by simp [results, Try.results29, go_sem]) rfl ⟨by first | (simp [Rf.R.act, Rf.R.goes, *]; done) | (simp [Rf.R.act, Rf.R.goes, *]; omega), HB'.out _ _⟩
      · have d0 : (left == 0) = false := by simpa using h0
        have d1 : decide (0 < left) = false := by simpa using h1
        go_enter Try.func29, Try.ntmps29
        go_wp2
        exact bodyPost_ret (v := .tuple #[.agg #[.slice A n c, .slice A2 n2 c2, .int .i64 left, .int .i64 spare, .bool false, .int .i64 (acts + 1)], .bool true]) (by simp [results, Try.results29, go_sem]) rfl ⟨by first | (simp [Rf.R.act, Rf.R.goes, *]; done) | (simp [Rf.R.act, Rf.R.goes, *]; omega), HB'.out _ _⟩
  · go_enter Try.func29, Try.ntmps29
    go_wp2
    exact bodyPost_ret (v := .tuple #[.agg #[.slice A n c, .slice A2 n2 c2, .int .i64 left, .int .i64 spare, .bool true, .int .i64 acts], .bool false]) (by simp [results, Try.results29, go_sem]) rfl ⟨by first | (simp [Rf.R.act, Rf.R.goes, *]; done) | (simp [Rf.R.act, Rf.R.goes, *]; omega), HB'.out _ _⟩

/-- A sector of the document's own. -/
theorem read_cells {w : World} {G : Nat → Prop} {v1 v2 : Value} {r : Rf.R} {bs : List Nat} {ps : List (Int × Nat)} (h : Rf.M w G v1 v2 r bs ps) {j : Nat} (hj : j < r.safe.length) :
    ∃ q c b, v1 = .slice (some ⟨q, 0, none⟩) r.safe.length c ∧ r.safe.length ≤ c ∧ q < w.heap.size ∧ w.cell? ⟨q, j, none⟩ = some (sl b) ∧ G b ∧ w.heap[b]? = some (.cells (arr r.safe[j]) 5 (0, 0)) := by
  obtain ⟨A, c, rfl, h1, _⟩ := own_form h.own1
  have hb : j < bs.length := by rw [h.len1]; exact hj
  rcases h.own1.2 with ⟨_, hz⟩ | ⟨q, cap, cur, hv, _⟩
  · omega
  · injection hv with e1 _ _
    subst e1
    have hs := h.safe j bs[j] _ (List.getElem?_eq_getElem hb) (List.getElem?_eq_getElem hj)
    refine ⟨q, c, bs[j], rfl, h1, (h.own1.lt q rfl).2, ?_, hs.1, hs.2⟩
    have := h.own1.cells (g := q) rfl j (sl bs[j]) (by rw [List.getElem?_map, List.getElem?_eq_getElem hb]; rfl)
    rwa [ad_head] at this
theorem wet_cells {w : World} {G : Nat → Prop} {v1 v2 : Value} {r : Rf.R} {bs : List Nat} {ps : List (Int × Nat)} (h : Rf.M w G v1 v2 r bs ps) {j : Nat} (hj : j < r.wet.length) :
    ∃ q c b, v2 = .slice (some ⟨q, 0, none⟩) r.wet.length c ∧ r.wet.length ≤ c ∧ q < w.heap.size ∧ w.cell? ⟨q, j * 2, none⟩ = some (.int .i64 r.wet[j].1) ∧ w.cell? ⟨q, j * 2 + 1, none⟩ = some (sl b) ∧ G b ∧ w.heap[b]? = some (.cells (arr r.wet[j].2) 5 (0, 0)) ∧ ps[j]? = some (r.wet[j].1, b) := by
  obtain ⟨A, c, rfl, h1, _⟩ := own_form h.own2
  have hb : j < ps.length := by rw [h.len2]; exact hj
  rcases h.own2.2 with ⟨_, hz⟩ | ⟨q, cap, cur, hv, _⟩
  · omega
  · injection hv with e1 _ _
    subst e1
    have hs := h.wet j ps[j] _ (List.getElem?_eq_getElem hb) (List.getElem?_eq_getElem hj)
    have hy := Rf.ys_at (List.getElem?_eq_getElem hb)
    have c1 := h.own2.cells (g := q) rfl (j * 2) _ hy.1
    have c2 := h.own2.cells (g := q) rfl (j * 2 + 1) _ hy.2
    rw [ad_head] at c1 c2
    rw [hs.1] at c1
    exact ⟨q, c, ps[j].2, rfl, h1, (h.own2.lt q rfl).2, c1, c2, hs.2.1, hs.2.2, by rw [List.getElem?_eq_getElem hb, ← hs.1]⟩

theorem now_take {l : List (Int × List Int)} {j : Nat} (hj : j < l.length) (i : Int) (s : List Int) : Pl.now (l.take (j + 1)) i s = if l[j].1 = i then l[j].2 else Pl.now (l.take j) i s := by
  rw [List.take_succ_eq_append_getElem hj]; exact Pl.now_snoc _ _ _ _ _

/-- A sector is told: a block that stays. -/
def RTold (w : World) (G : Nat → Prop) (l : List Int) (e : Ending) (w' : World) : Prop := ∃ b, e = .returned (sl b) ∧ G b ∧ w.heap[b]? = some (.cells (arr l) 5 (0, 0)) ∧ Below w.heap.size w w'
set_option maxHeartbeats 1600000 in
theorem refRead_any (w : World) (G : Nat → Prop) (v1 v2 : Value) (r : Rf.R) (bs : List Nat) (ps : List (Int × Nat)) (i : Int) (h : Rf.M w G v1 v2 r bs ps) (h0 : 0 ≤ i) (h1 : i < r.safe.length) :
    Calls Try.prog 21 #[rv v1 v2 r, .int .i64 i] w (RTold w G (r.read i)) := by
  obtain ⟨i, rfl⟩ : ∃ k : Nat, i = k := ⟨i.toNat, by omega⟩
  have hi : i < r.safe.length := by omega
  obtain ⟨q, c, b, rfl, hc, hq, hcell, hG, hb⟩ := read_cells h hi
  obtain ⟨A2, c2, rfl, hc2, _⟩ := own_form h.own2
  have hsz := h.ok.size
  have H := Lib.hid h
  have HRD : Hid (r.read i = Pl.now r.wet i r.safe[i]) := by
    show r.read i = _
    unfold Rf.R.read
    rw [List.getD_eq_getElem?_getD, Int.toNat_natCast, List.getElem?_eq_getElem hi]; rfl
  have HB : Hid (∀ o, Below w.heap.size w (w.alloc o)) := fun o => (Below.refl _ _).alloc (Nat.le_refl _) _
  have hkc : ∀ (o : Obj) (x y : Nat), x < w.heap.size → (w.alloc o).cell? ⟨x, y, none⟩ = w.cell? ⟨x, y, none⟩ := fun o x y hx => World.cell?_of_block (alloc_block_old hx)
  have hcell' : ∀ o : Obj, (w.alloc o).cell? ⟨q, i, none⟩ = some (sl b) := fun o => (hkc o q i hq).trans hcell
  have HKC := Lib.hid hkc
  clear h hkc hcell
  generalize r.safe[i] = s0 at *
  unfold rv
  go_enter Try.func21, Try.ntmps21
  go_wp2
  go_loopw [5, 6] (fun s t wr => ∃ (j b : Nat), j ≤ r.wet.length ∧ t = .int .i64 j ∧ s = sl b ∧ G b ∧ w.heap[b]? = some (.cells (arr (Pl.now (r.wet.take j) i s0)) 5 (0, 0)) ∧
    wr = w.alloc (.cells #[.slice (some ⟨q, 0, none⟩) r.safe.length c, .slice A2 r.wet.length c2, .int .i64 r.left, .int .i64 r.spare, .bool r.off, .int .i64 r.acts] 29)) (fun _ t _ => r.wet.length - (intOf t).toNat)
  case atStart => exact ⟨0, b, by omega, rfl, rfl, hG, hb, rfl⟩
  case round =>
    obtain ⟨j, b, hj, rfl, rfl, hGb, hbb, rfl⟩ := hrel
    by_cases hlt : j < r.wet.length
    · obtain ⟨q2, c2', b2, hv2, _, hq2, k1, k2, hG2, hb2, _⟩ := wet_cells H.out hlt
      injection hv2 with e1 _ e3
      subst e1 e3
      have hnow := now_take hlt i s0
      generalize r.wet[j] = p at *
      obtain ⟨at_, s⟩ := p
      have HN := Lib.hid hnow
      have HBB := Lib.hid hbb
      have HB2 := Lib.hid hb2
      have k1' : ∀ o : Obj, (w.alloc o).cell? ⟨q2, j * 2, none⟩ = some (.int .i64 at_) := fun o => (HKC.out o q2 _ hq2).trans k1
      have k2' : ∀ o : Obj, (w.alloc o).cell? ⟨q2, j * 2 + 1, none⟩ = some (sl b2) := fun o => (HKC.out o q2 _ hq2).trans k2
      clear hnow hbb hb2 k1 k2 hb
      cases he : (at_ == (i : Int))
      · have he' : ¬ at_ = (i : Int) := by simpa using he
        go_wp2
        go_roundw
        case rel => exact ⟨j + 1, b, by omega, by go_num, rfl, hGb, by rw [HN.out, if_neg he']; exact HBB.out, by first | rfl | trivial⟩
        case measure => simp [intOf]; omega
      · have he' : at_ = (i : Int) := by simpa using he
        go_wp2
        go_roundw
        case rel => exact ⟨j + 1, b2, by omega, by go_num, rfl, hG2, by rw [HN.out, if_pos he']; exact HB2.out, by first | rfl | trivial⟩
        case measure => simp [intOf]; omega
    · obtain rfl : j = r.wet.length := by omega
      rw [List.take_length, ← HRD.out] at hbb
      have HBB := Lib.hid hbb
      clear hbb
      go_wp2
      go_ret
      exact ⟨b, rfl, hGb, HBB.out, HB.out _⟩
end Go.Proofs.Ytlbodpffkdfllaa
