/-
  A slice of acts that comes in, opened: what it reads as. No conditions.
-/
import Derived.Test.YtlbodpffkdfllaaRow
import Derived.Test.YtlbodpffkdfllaaPlDo
import Derived.Deep.Slices
namespace Go.Proofs.Ytlbodpffkdfllaa
open Go.ChangeShapes Go.WideShapes Go.RowKit Go.Deep

/-- A slice of acts whose address is A reads as the acts l: all in blocks below B. -/
def RdActs (w : World) (B : Nat) (A : Option Addr) (l : List Ac) : Prop :=
  ∀ (j : Nat) (a : Ac), l[j]? = some a → ∃ b o A' c', A = some ⟨b, o, none⟩ ∧ b < B ∧ w.cell? ⟨b, o + j * 4, none⟩ = some (.int .u8 a.k) ∧ w.cell? ⟨b, o + j * 4 + 1, none⟩ = some (.int .i64 a.at_) ∧ w.cell? ⟨b, o + j * 4 + 2, none⟩ = some (.int .i64 a.n) ∧ w.cell? ⟨b, o + j * 4 + 3, none⟩ = some (.slice A' a.p.length c') ∧ Rd w .u8 B A' a.p
theorem RdActs.kept {w w' : World} {B : Nat} {A : Option Addr} {l : List Ac} (h : RdActs w B A l) (hk : ∀ i, i < B → w'.heap[i]? = w.heap[i]?) : RdActs w' B A l := fun j a hl => by
  obtain ⟨b, o, A', c', h1, h2, h3, h4, h5, h6, h7⟩ := h j a hl
  have e : ∀ x, w'.cell? ⟨b, x, none⟩ = w.cell? ⟨b, x, none⟩ := fun x => World.cell?_of_block (hk b h2)
  exact ⟨b, o, A', c', h1, h2, (e _).trans h3, (e _).trans h4, (e _).trans h5, (e _).trans h6, h7.kept hk⟩
/-- An act as it may come in. -/
def Ac.Wf (a : Ac) : Prop := (0 ≤ a.k ∧ a.k < 256) ∧ ∀ x ∈ a.p, (Lit.int .u8 x).wf = true

/-- A slice of bytes, by its cell. -/
theorem cell_bytes {H : Type} {enc : TypeId × Value → H} {W : World} {n : Nat} {v : Value} {x : DataW H × List MemPlace} (h : DataW.trod enc Try.prog W 0 (fun _ => true) true n 31 [v] = some x) :
    ∃ A' c' l, v = .slice A' (List.length l) c' ∧ Rd W .u8 W.heap.size A' l ∧ ∀ y ∈ l, (Lit.int .u8 y).wf = true := by
  rcases open_ints Try.underlying31 Try.underlying5 (by kernel_rfl) h with ⟨hcs, _⟩ | ⟨a, len, cap, zs, hcs, _, hl, hm, hz, _, hcell, hw⟩
  · injection hcs with hv _
    exact ⟨none, 0, [], hv, Rd.none, by simp⟩
  · injection hcs with hv _
    simp only [if_true] at hz
    have hlen : (zs.take len).length = len := by simp; omega
    refine ⟨some a, cap, zs.take len, by rw [hlen]; exact hv, fun hne => ⟨a, rfl, ?_, fun j u hu => ?_⟩, fun y hy => hw y (List.mem_of_mem_take hy)⟩
    · have h0 : 0 < zs.length := by
        rcases zs with _ | ⟨x, r⟩
        · simp at hne
        · simp
      have := World.block_lt_of_cell? W _ (hcell 0 h0)
      rwa [ad_block] at this
    · rw [List.getElem?_take] at hu
      split at hu
      · obtain ⟨hj, hju⟩ := List.getElem?_eq_some_iff.1 hu
        rw [hcell j hj]
        simp [List.getD, hu]
      · cases hu

theorem open_acts {H : Type} {enc : TypeId × Value → H} {W : World} {base : Nat} {v : Value} {d : DataW H} {ps : List MemPlace}
    (hval : Value.okWide Try.prog W .any base 22 v) (hd : DataW.Trod enc Try.prog W 0 (fun _ => true) true 22 v d ps) :
    ∃ A c l, v = .slice A (List.length l) c ∧ l.length ≤ c ∧ c ≤ maxLen ∧ RdActs W W.heap.size A l ∧ ∀ a ∈ l, Ac.Wf a := by
  obtain ⟨a0, n0, c0, rfl⟩ := okWide_slice Try.underlying22 hval
  obtain ⟨fuel, hf⟩ := hd
  rcases open_slice Try.underlying22 hf with ⟨hcs, _⟩ | ⟨a, len, cap, m, n, D, Pl, hcs, _, hl, hm, hmm, _, hx⟩
  · simp [Value.cells] at hcs
    obtain ⟨rfl, rfl, rfl⟩ := hcs
    exact ⟨none, 0, [], rfl, by simp, by simp, fun j l h => by simp at h, by simp⟩
  · simp [Value.cells] at hcs
    obtain ⟨rfl, rfl, rfl⟩ := hcs
    simp only [if_true] at hmm
    have ce : Try.prog.cellsOf 33 = 4 := by kernel_rfl
    have each : ∀ i, i < n0 → ∃ y : Ac, y.Wf ∧ ∃ A' c', W.cell? (a.add (i * 4)) = some (.int .u8 y.k) ∧ W.cell? (a.add (i * 4 + 1)) = some (.int .i64 y.at_) ∧ W.cell? (a.add (i * 4 + 2)) = some (.int .i64 y.n) ∧ W.cell? (a.add (i * 4 + 3)) = some (.slice A' y.p.length c') ∧ Rd W .u8 W.heap.size A' y.p := by
      intro i hi
      obtain ⟨cs', h1, h2⟩ := hx i (by omega)
      rw [ce] at h1
      obtain ⟨_, hlen, hcell⟩ := World.cells?_some h1
      obtain ⟨xs, k, hk, hxy, _, hxl, hff⟩ := DataW.trod_struct Try.underlying33 h2
      match xs, hxl, cs', hlen with
      | [y0, y1, y2, y3], _, [v0, v1, v2, v3], _ =>
        have g0 := hff 0 _ rfl
        have g1 := hff 1 _ rfl
        have g2 := hff 2 _ rfl
        have g3 := hff 3 _ rfl
        have t0 : DataW.trod enc Try.prog W 0 (fun _ => true) true k 5 [v0] = some y0 := g0
        have t1 : DataW.trod enc Try.prog W 0 (fun _ => true) true k 3 [v1] = some y1 := g1
        have t2 : DataW.trod enc Try.prog W 0 (fun _ => true) true k 3 [v2] = some y2 := g2
        have t3 : DataW.trod enc Try.prog W 0 (fun _ => true) true k 31 [v3] = some y3 := g3
        obtain ⟨z0, e0, _, w0⟩ := DataW.trod_int Try.underlying5 t0
        obtain ⟨z1, e1, _, _⟩ := DataW.trod_int Try.underlying3 t1
        obtain ⟨z2, e2, _, _⟩ := DataW.trod_int Try.underlying3 t2
        obtain ⟨A', c', l, e3, hr, hw⟩ := cell_bytes t3
        injection e0 with e0 _
        injection e1 with e1 _
        injection e2 with e2 _
        have q0 := hcell 0 (by omega)
        have q1 := hcell 1 (by omega)
        have q2 := hcell 2 (by omega)
        have q3 := hcell 3 (by omega)
        rw [add_add] at q0 q1 q2 q3
        exact ⟨⟨z0, z1, z2, l⟩, ⟨wf_u8 w0, hw⟩, A', c', by simpa [e0] using q0, by simpa [e1] using q1, by simpa [e2] using q2, by simpa [e3] using q3, hr⟩
    haveI : Inhabited Ac := ⟨⟨0, 0, 0, []⟩⟩
    obtain ⟨y, hy⟩ := choose_lt each
    have hlen : ((List.range n0).map y).length = n0 := by simp
    refine ⟨some a, c0, (List.range n0).map y, by rw [hlen], by rw [hlen]; exact hl, hm, fun j x hj => ?_, fun x hx' => ?_⟩
    · obtain ⟨hj1, hj2⟩ := List.getElem?_eq_some_iff.1 hj
      rw [hlen] at hj1
      have hj3 : y j = x := by simpa using hj2
      obtain ⟨_, A', c', h1, h2, h3, h4, h5⟩ := hy j hj1
      obtain ⟨_, _, _, hz, _⟩ := hy 0 (by omega)
      rw [Nat.zero_mul, ad_zero] at hz
      have hsp := World.cell?_spot hz
      obtain ⟨b, o, sp⟩ := a
      have hsp' : sp = none := hsp
      subst hsp'
      rw [add_plain] at h1 h2 h3 h4
      rw [hj3] at h1 h2 h3 h4 h5
      refine ⟨b, o, A', c', rfl, ?_, h1, by rw [Nat.add_assoc]; exact h2, by rw [Nat.add_assoc]; exact h3, by rw [Nat.add_assoc]; exact h4, h5⟩
      exact World.block_lt_of_cell? W _ h1
    · simp only [List.mem_map, List.mem_range] at hx'
      obtain ⟨r, hr', rfl⟩ := hx'
      exact (hy r hr').1
end Go.Proofs.Ytlbodpffkdfllaa
