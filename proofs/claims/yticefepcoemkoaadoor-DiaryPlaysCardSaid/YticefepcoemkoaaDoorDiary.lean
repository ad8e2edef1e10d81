/-
  A diary in memory: its block, its entries; and what a reader finds, pure. No conditions but the sizes.
-/
import Derived.Test.YticefepcoemkoaaDoorNext
import Derived.Deep.AppendLies
namespace Go.Proofs.YticefepcoemkoaaDoor
set_option maxRecDepth 20000
open Go.ChangeShapes Go.WideShapes Go.ChangeAt Go.RowKit

namespace Sl
theorem log_split (a : Nat) {p : List Int} : ∀ {ps : List (List Int)} {j : Nat} (i : Nat), ps[j]? = some p → log a i ps = log a i (ps.take j) ++ (closed a (i + j) p ++ log a (i + j + 1) (ps.drop (j + 1)))
  | [], j, i, h => by simp at h
  | q :: r, 0, i, h => by
    simp at h; subst h
    simp [log]
  | q :: r, j + 1, i, h => by
    have := log_split a (ps := r) (j := j) (i + 1) (by simpa using h)
    show closed a i q ++ log a (i + 1) r = (closed a i q ++ log a (i + 1) (r.take j)) ++ _
    rw [this, List.append_assoc, show i + 1 + j = i + (j + 1) by omega]
    rfl
/-- The next entry; or that there is none. -/
theorem log_next {a n k q j : Nat} {ps : List (List Int)} {p : List Int} (ha : a < 4294967296) (hj : ps[j]? = some p) (hq : q = (log a 0 (ps.take j)).length) (hl : (log a 0 ps).length ≤ n * 64) (hn : n ≤ 70)
    (h : (open1 a j (((Pl.full n (log a 0 ps)).take (k * 64)).drop q)).2.2 ≠ 5 ∨ k = n) : open1 a j (((Pl.full n (log a 0 ps)).take (k * 64)).drop q) = (p, 16 + p.length, 0) := by
  have hs := log_split a 0 hj
  have hL := Pl.full_len hl
  have e : (Pl.full n (log a 0 ps)).drop q = closed a j p ++ (log a (j + 1) (ps.drop (j + 1)) ++ List.replicate (n * 64 - (log a 0 ps).length) 0) := by
    unfold Pl.full
    rw [hs, hq, Nat.zero_add, List.append_assoc, List.drop_append_of_le_length (Nat.le_refl _), List.drop_length, List.nil_append, List.append_assoc]
  have hjl : j < 4294967296 := by
    have h1 := (List.getElem?_eq_some_iff.1 hj).1
    have h2 : ∀ (ps : List (List Int)) (i : Nat), 16 * ps.length ≤ (log a i ps).length := fun ps => by
      induction ps with
      | nil => intro i; simp [log]
      | cons q r ih => intro i; have := ih (i + 1); show _ ≤ (closed a i q ++ log a (i + 1) r).length; rw [List.length_append, closed_len, List.length_cons]; omega
    have := h2 ps 0
    omega
  have hpl : p.length ≤ 1048576 := by
    have := congrArg List.length hs
    rw [List.length_append, List.length_append, closed_len] at this
    omega
  rw [List.drop_take, e] at h ⊢
  refine open1_far ha hjl hpl (h.imp id fun hk => ?_)
  rw [← e, List.length_drop, hL, hk]
  omega
theorem log_end {a n k : Nat} {ps : List (List Int)} : ∃ m, ((Pl.full n (log a 0 ps)).take (k * 64)).drop (log a 0 ps).length = noughts m := by
  have e : (Pl.full n (log a 0 ps)).drop (log a 0 ps).length = List.replicate (n * 64 - (log a 0 ps).length) 0 := by
    unfold Pl.full
    rw [List.drop_append_of_le_length (Nat.le_refl _), List.drop_length, List.nil_append]
  exact ⟨_, by rw [List.drop_take, e, List.take_replicate]; rfl⟩
end Sl
namespace Pl
theorem wiped_full {f : Nat → List Int} {p n : Nat} {l : List Int} (h : Half f p n (full n l)) (hl : l.length ≤ n * 64) : wiped f p n l.length = f := by
  funext j
  unfold wiped
  by_cases e : p + l.length / 64 ≤ j ∧ j < p + n
  · rw [if_pos e]
    have h1 := h.at_ (j - p) (by omega)
    rw [full_at _ (by omega) hl, show p + (j - p) = j by omega] at h1
    rw [h1]
    have h2 : ((l.drop ((j - p) * 64)).take 64).length = min 64 (l.length - (j - p) * 64) := by rw [List.length_take, List.length_drop]
    have h3 : (pad ((l.drop ((j - p) * 64)).take 64)).take (l.length - (j - p) * 64) = (l.drop ((j - p) * 64)).take 64 := by
      unfold pad
      by_cases h4 : l.length - (j - p) * 64 ≤ 64
      · rw [List.take_append_of_le_length (by omega), List.take_of_length_le (by omega)]
      · rw [List.take_of_length_le (by rw [List.length_append, List.length_replicate]; omega), h2]
        simp; omega
    rw [h3]
  · rw [if_neg e]
end Pl

/-- A diary's block. -/
def dcl (g p1 p2 n age : Nat) (vf ve : Value) (q : Nat) : Array Value :=
  #[.pointer (some ⟨g, 0, none⟩), .int .i64 p1, .int .i64 n, .pointer (some ⟨g, 0, none⟩), .int .i64 p2, .int .i64 n, .int .u32 age, vf, ve, .int .i64 q]
/-- A slice reads as l, in blocks of I's. -/
def RdI (w : World) (I : Nat → Prop) (A : Option Addr) (l : List Int) : Prop := Rd w .u8 w.heap.size A l ∧ (l ≠ [] → ∀ a, A = some a → I a.block)
theorem RdI.kept {w w' : World} {I : Nat → Prop} {A : Option Addr} {l : List Int} (h : RdI w I A l) (hk : ∀ i, I i → i < w.heap.size → w'.heap[i]? = w.heap[i]?) (hs : w.heap.size ≤ w'.heap.size) : RdI w' I A l := by
  refine ⟨fun hl => ?_, h.2⟩
  obtain ⟨a, e, hb, hc⟩ := h.1 hl
  exact ⟨a, e, by omega, fun j u hu => (World.cell?_of_block (hk _ (by rw [ad_block]; exact h.2 hl a e) (by rw [ad_block]; exact hb))).trans (hc j u hu)⟩
theorem RdI.more {w : World} {I I' : Nat → Prop} {A : Option Addr} {l : List Int} (h : RdI w I A l) (hI : ∀ i, I i → I' i) : RdI w I' A l := ⟨h.1, fun hl a e => hI _ (h.2 hl a e)⟩
theorem RdI.own {w : World} {I : Nat → Prop} {base : Nat} {A : Option Addr} {n c : Nat} {l : List Int} (h : w.ownsRow base 5 1 (.slice A n c) n (cl .u8 l)) (hI : ∀ i, base ≤ i → i < w.heap.size → I i) : RdI w I A l := by
  refine ⟨Rd.own h, fun hl a e => ?_⟩
  subst e
  rcases h.2 with ⟨hv, _⟩ | ⟨g, cap, cur, hv, hb, hg, _⟩
  · cases hv
  · injection hv with hA
    injection hA with hA
    subst hA
    exact hI g hb (Array.getElem?_eq_some_iff.1 hg).1
/-- Entries as slices. -/
structure Ents (w : World) (I : Nat → Prop) (vs : List Value) (es : List (List Int)) : Prop where
  len : vs.length = es.length
  at_ : ∀ (j : Nat) (e : List Int), es[j]? = some e → ∃ A c, vs[j]? = some (Value.slice A e.length c) ∧ e.length ≤ c ∧ RdI w I A e
theorem Ents.nil (w : World) (I : Nat → Prop) : Ents w I [] [] := ⟨rfl, fun j e h => by simp at h⟩
theorem Ents.kept {w w' : World} {I : Nat → Prop} {vs : List Value} {es : List (List Int)} (h : Ents w I vs es) (hk : ∀ i, I i → i < w.heap.size → w'.heap[i]? = w.heap[i]?) (hs : w.heap.size ≤ w'.heap.size) : Ents w' I vs es :=
  ⟨h.len, fun j e he => by obtain ⟨A, c, h1, h2, h3⟩ := h.at_ j e he; exact ⟨A, c, h1, h2, h3.kept hk hs⟩⟩
theorem Ents.more {w : World} {I I' : Nat → Prop} {vs : List Value} {es : List (List Int)} (h : Ents w I vs es) (hI : ∀ i, I i → I' i) : Ents w I' vs es :=
  ⟨h.len, fun j e he => by obtain ⟨A, c, h1, h2, h3⟩ := h.at_ j e he; exact ⟨A, c, h1, h2, h3.more hI⟩⟩
theorem Ents.snoc {w : World} {I : Nat → Prop} {vs : List Value} {es : List (List Int)} (h : Ents w I vs es) {A : Option Addr} {c : Nat} {e : List Int} (hc : e.length ≤ c) (hr : RdI w I A e) : Ents w I (vs ++ [Value.slice A e.length c]) (es ++ [e]) :=
  ⟨by rw [List.length_append, List.length_append, h.len]; rfl, fun j x hx => by
    by_cases hj : j < es.length
    · rw [List.getElem?_append_left hj] at hx
      rw [List.getElem?_append_left (by rw [h.len]; exact hj)]
      exact h.at_ j x hx
    · have hj2 : j = es.length := by
        have := (List.getElem?_eq_some_iff.1 hx).1
        rw [List.length_append] at this
        simp at this; omega
      subst hj2
      rw [List.getElem?_append_right (Nat.le_refl _), Nat.sub_self] at hx
      simp at hx
      subst hx
      exact ⟨A, c, by rw [List.getElem?_append_right (by rw [h.len]; exact Nat.le_refl _), h.len, Nat.sub_self]; rfl, hc, hr⟩⟩
theorem rowinfo2 : (Tryd.prog.info? 31).map (fun i => (i.zero, i.size, i.bytes)) = some (some (.slice none 0 0), 1, 24) := by kernel_rfl
end Go.Proofs.YticefepcoemkoaaDoor
