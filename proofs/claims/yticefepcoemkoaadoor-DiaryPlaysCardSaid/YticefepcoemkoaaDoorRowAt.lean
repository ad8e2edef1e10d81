/-
  A row of bytes of the call's own, wherever it begins in its block: appended to, and cut ahead. No conditions but the sizes.
-/
import Derived.Test.YticefepcoemkoaaDoorBuf
import Derived.Test.YticefepcoemkoaaDoorPlMem
import Derived.Deep.AppendSrc
import Derived.Deep.Onto
namespace Go.Proofs.YticefepcoemkoaaDoor
set_option maxRecDepth 20000
open Go.ChangeShapes Go.WideShapes Go.ChangeAt Go.RowKit

/-- A slice reads as l; it may be appended to; its block is one of R's. -/
structure RowAt (w : World) (R : Nat → Prop) (ao : Option Addr) (len cap : Nat) (l : List Int) : Prop where
  len_ : l.length = len
  le : len ≤ cap
  max : cap ≤ maxLen
  lies : 0 < cap → ∃ b off, ao = some ⟨b, off, none⟩ ∧ R b ∧ b < w.heap.size ∧ (∀ j u, l[j]? = some u → w.cell? ⟨b, off + j, none⟩ = some (.int .u8 u)) ∧ ∀ j, j < cap → (w.cell? ⟨b, off + j, none⟩).isSome = true ∧ w.frozen? ⟨b, off + j, none⟩ = false
theorem RowAt.nil (w : World) (R : Nat → Prop) : RowAt w R none 0 0 [] := ⟨rfl, Nat.le_refl _, Nat.zero_le _, fun h => absurd h (by omega)⟩
theorem RowAt.rd {w : World} {R : Nat → Prop} {len cap : Nat} {ao : Option Addr} {l : List Int} (h : RowAt w R ao len cap l) : Rd w .u8 w.heap.size ao l := fun hl => by
  have hlen := h.len_
  have : 0 < cap := by have := h.le; have := List.length_pos_iff.2 hl; omega
  obtain ⟨b, off, rfl, _, hb, hc, _⟩ := h.lies this
  exact ⟨_, rfl, hb, fun j u hu => by
    have e : (⟨b, off, none⟩ : Addr).add j = ⟨b, off + j, none⟩ := by unfold Addr.add; split <;> simp_all
    rw [e]; exact hc j u hu⟩
theorem RowAt.kept {w w' : World} {R : Nat → Prop} {len cap : Nat} {ao : Option Addr} {l : List Int} (h : RowAt w R ao len cap l) (hk : ∀ i, R i → i < w.heap.size → w'.heap[i]? = w.heap[i]?) (hs : w.heap.size ≤ w'.heap.size) : RowAt w' R ao len cap l :=
  ⟨h.len_, h.le, h.max, fun h0 => by
    obtain ⟨b, off, e, hb, hlt, hc, hf⟩ := h.lies h0
    have hb' := hk b hb hlt
    exact ⟨b, off, e, hb, by omega, fun j u hu => (World.cell?_of_block hb').trans (hc j u hu), fun j hj => by
      rw [World.cell?_of_block (a := ⟨b, off + j, none⟩) hb', World.frozen?_of_block (a := ⟨b, off + j, none⟩) hb']; exact hf j hj⟩⟩
/-- Cut ahead. -/
theorem RowAt.cut {w : World} {R : Nat → Prop} {len cap s : Nat} {ao : Option Addr} {l : List Int} (h : RowAt w R ao len cap l) (hs : s ≤ len) : RowAt w R (if cap = s then ao else ao.map (·.add s)) (len - s) (cap - s) (l.drop s) := by
  refine ⟨by rw [List.length_drop, h.len_], by have := h.le; omega, by have := h.max; omega, fun h0 => ?_⟩
  obtain ⟨b, off, rfl, hb, hlt, hc, hf⟩ := h.lies (by omega)
  rw [if_neg (by omega)]
  refine ⟨b, off + s, ?_, hb, hlt, fun j u hu => ?_, fun j hj => ?_⟩
  · show some ((⟨b, off, none⟩ : Addr).add s) = _
    congr 1
    unfold Addr.add; split <;> simp_all
  · rw [List.getElem?_drop] at hu
    rw [Nat.add_assoc]; exact hc _ u hu
  · rw [Nat.add_assoc]; exact hf _ (by omega)
theorem frozen_row {W : World} {b o : Nat} {cs : Array Value} {t : TypeId} (h : W.heap[b]? = some (.cells cs t (0, 0))) : W.frozen? ⟨b, o, none⟩ = false := by simp [World.frozen?, h]
theorem size_setCells (b : Nat) : ∀ (vs : List Value) (o : Nat) (w : World), (w.setCells b o vs).heap.size = w.heap.size
  | [], _, _ => rfl
  | v :: r, o, w => by
    show ((w.setCell ⟨b, o, none⟩ v).setCells b (o + 1) r).heap.size = _
    rw [size_setCells b r]; exact Array.size_modify
theorem Turn.set {G : Nat → Prop} {w w1 : World} (h : Turn G w w1) {X o : Nat} {v : Value} (hX : G X) : Turn G w (w1.setCell ⟨X, o, none⟩ v) :=
  ⟨h.os, h.tape, h.output, by have := h.size; rw [show (w1.setCell ⟨X, o, none⟩ v).heap.size = w1.heap.size from Array.size_modify]; exact this, fun i hi hn => (Below.heap_setCell w1 ⟨X, o, none⟩ v i (fun e => hn (e ▸ hX))).trans (h.block i hi hn)⟩
theorem turn_setCells {G : Nat → Prop} {b : Nat} (hb : G b) {a : World} : ∀ (vs : List Value) (o : Nat) (w : World), Turn G a w → Turn G a (w.setCells b o vs)
  | [], _, _, h => h
  | v :: r, o, w, h => turn_setCells hb r (o + 1) (w.setCell ⟨b, o, none⟩ v) (h.set hb)
theorem isSome_setCells (b : Nat) : ∀ (vs : List Value) (o : Nat) (w : World) (x : Addr), (w.cell? x).isSome = true → ((w.setCells b o vs).cell? x).isSome = true
  | [], _, _, _, h => h
  | v :: r, o, w, x, h => by
    refine isSome_setCells b r (o + 1) _ x ?_
    by_cases e : x = ⟨b, o, none⟩
    · subst e
      rw [World.cell?_setCell_same' _ _ _ h]; rfl
    · have := World.cell?_setCells_out b [v] o w x (fun h1 h2 => by
        simp only [List.length_singleton]
        have : x.off ≠ o := fun h3 => e (by cases x; simp_all)
        omega)
      show ((w.setCells b o [v]).cell? x).isSome = true
      rw [this]; exact h

/-- One more stretch of bytes behind it. -/
theorem RowAt.append {w : World} {R : Nat → Prop} {len cap : Nat} {ao : Option Addr} {l news : List Int} (h : RowAt w R ao len cap l) {a : Addr} {n c : Nat} (hn : news.length = n) (hr : ∀ j u, news[j]? = some u → w.cell? (a.add j) = some (.int .u8 u))
    (hn0 : 0 < n) (hb : len + n ≤ 1000000) :
    ∃ ao' cap' w', (Builtin.append_ #[31, 31] 31 #[.slice ao len cap, .slice (some a) n c]).run Tryd.prog w = .ok (.slice ao' (len + n) cap') w' ∧ RowAt w' (grow R w w') ao' (len + n) cap' (l ++ news) ∧ Turn R w w' := by
  obtain ⟨i, hi, hz, hsz, hby⟩ := info_parts u8info
  have hlen := h.len_
  have hsrc : Src Tryd.prog i.size 31 (.slice (some a) n c) n (cl .u8 news) w := Src.ofSlice w Tryd.underlying31 a n c (cl .u8 news) (by rw [cl_length, hsz, hn, Nat.mul_one]) (fun j u hu => by
    obtain ⟨x, hx, rfl⟩ := cl_at hu
    exact hr j x hx) (cl_one _ _)
  have hmx : 1000000 ≤ maxLen := by unfold maxLen; omega
  by_cases hroom : len + n ≤ cap
  · by_cases hc0 : 0 < cap
    · obtain ⟨b, off, rfl, hbb, hlt, hc, hf⟩ := h.lies hc0
      have hrun := run_append_room_src (P := Tryd.prog) w 31 31 31 5 i Tryd.underlying31 hi b off len cap _ n _ hsrc hroom
        (fun j hj => by rw [cl_length] at hj; rw [hsz, Nat.mul_one, Nat.add_assoc]; exact (hf (len + j) (by omega)).1)
        (fun j hj => by rw [cl_length] at hj; rw [hsz, Nat.mul_one, Nat.add_assoc]; exact (hf (len + j) (by omega)).2)
      rw [hsz, Nat.mul_one] at hrun
      refine ⟨_, _, _, hrun, ⟨by rw [List.length_append, hlen, hn], hroom, h.max, fun _ => ⟨b, off, rfl, .inl hbb, by rw [size_setCells]; exact hlt, fun j u hu => ?_, fun j hj => ⟨isSome_setCells b _ _ w _ (hf j hj).1, by rw [World.frozen?_setCells]; exact (hf j hj).2⟩⟩⟩, turn_setCells hbb _ _ w (Turn.refl R w)⟩
      by_cases hj : j < len
      · rw [List.getElem?_append_left (by omega)] at hu
        rw [World.cell?_setCells_out b _ _ w _ (fun _ _ => .inl (by show off + j < off + len; omega))]
        exact hc j u hu
      · rw [List.getElem?_append_right (by omega), hlen] at hu
        have hjn : j - len < news.length := (List.getElem?_eq_some_iff.1 hu).1
        have := World.cell?_setCells_in b (cl .u8 news) (off + len) w (fun k hk => by rw [cl_length] at hk; rw [Nat.add_assoc]; exact (hf (len + k) (by omega)).1) (j - len) (by rw [cl_length]; exact hjn)
        rw [show off + len + (j - len) = off + j by omega] at this
        rw [this]
        congr 1
        unfold cl
        rw [List.getElem_map]
        rw [List.getElem?_eq_getElem hjn] at hu
        injection hu with hu
        rw [hu]
    · omega
  · have hgc := grownCap_ge w (len + n) cap 5
    have hgm := grownCap_le_maxLen w (len + n) cap 5 (by omega)
    have hold : (Builtin.firstCells i.size len (.slice ao len cap)).run Tryd.prog w.drew = .ok (cl .u8 l).toArray w.drew := by
      rw [hsz]
      by_cases hc0 : 0 < cap
      · obtain ⟨b, off, rfl, hbb, hlt, hc, hf⟩ := h.lies hc0
        refine run_firstCells_some (P := Tryd.prog) w.drew 1 len ⟨b, off, none⟩ len cap (cl .u8 l) (by rw [cl_length, hlen, Nat.mul_one]) fun j u hu => ?_
        obtain ⟨x, hx, rfl⟩ := cl_at hu
        have e : (⟨b, off, none⟩ : Addr).add j = ⟨b, off + j, none⟩ := by unfold Addr.add; split <;> simp_all
        rw [e]; exact hc j x hx
      · have el : len = 0 := by have := h.le; omega
        have hnil : l = [] := List.eq_nil_of_length_eq_zero (by omega)
        subst hnil el
        cases ao with
        | none => exact run_firstCells_none w.drew 1 0 0 cap
        | some b => exact run_firstCells_some (P := Tryd.prog) w.drew 1 0 b 0 cap [] rfl (fun j u hu => by simp at hu)
    have hrun := run_append_grow_src (P := Tryd.prog) w 31 31 31 5 i (.int .u8 0) Tryd.underlying31 hi hz ao len cap (cl .u8 l) hold _ n _ hsrc (by omega) (by omega) (growslice_fits (by omega) (by rw [hby]; omega))
    have hz1 : Value.cells (.int .u8 0) = #[.int .u8 0] := rfl
    have hsize : ((cl .u8 l ++ cl .u8 news).toArray ++ Builtin.zeroCells #[.int .u8 0] (grownCap w (len + n) cap 5 - (len + n))).size = grownCap w (len + n) cap 5 := by
      rw [Array.size_append, size_zeroCells, List.size_toArray, List.length_append, cl_length, cl_length, hlen, hn]
      simp; omega
    rw [hz1] at hrun
    have hblk := alloc_block (w := w.drew) (o := .cells ((cl .u8 l ++ cl .u8 news).toArray ++ Builtin.zeroCells #[.int .u8 0] (grownCap w (len + n) cap 5 - (len + n))) 5)
    refine ⟨_, _, _, hrun, ⟨by rw [List.length_append, hlen, hn], hgc, hgm, fun _ => ⟨w.heap.size, 0, rfl, .inr ⟨Nat.le_refl _, by rw [World.size_alloc]; exact Nat.lt_succ_self _⟩, by rw [World.size_alloc]; exact Nat.lt_succ_self _, fun j u hu => ?_, fun j hj => ?_⟩⟩, Turn.of_below ((Below.refl w.heap.size w).drew.alloc (Nat.le_refl _) _)⟩
    · have hjl : j < (l ++ news).length := (List.getElem?_eq_some_iff.1 hu).1
      have e := cell_of_row _ w.heap.size (0 + j) _ _ _ hblk
      rw [e, Nat.zero_add, Array.getElem?_append_left (by rw [List.size_toArray, ← cl_append, cl_length]; exact hjl), List.getElem?_toArray, ← cl_append]
      unfold cl
      rw [List.getElem?_map, hu]; rfl
    · have e := cell_of_row _ w.heap.size (0 + j) _ _ _ hblk
      rw [e, Nat.zero_add, Array.getElem?_eq_getElem (by omega)]
      exact ⟨rfl, frozen_row hblk⟩
end Go.Proofs.YticefepcoemkoaaDoor
