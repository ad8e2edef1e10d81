/-
  Words for memory: a slice that reads as a list of numbers, nil let in; the string of bytes; and how each stays over steps that turn other blocks alone. No conditions but those that each law names.
-/
import Derived.Test.YtlldkcelkgnalaaRows
import Derived.Test.YtlldkcelkgnalaaBoxed
import Derived.Maps.AppendAt
import Derived.Laws.OwnMore
import Derived.Laws.BytesString
namespace Go.Proofs.Ytlldkcelkgnalaa
open Go.ChangeShapes Go.WideShapes Go.ChangeAt Go.RowKit

theorem ad_block (a : Addr) (n : Nat) : (a.add n).block = a.block := by unfold Addr.add; split <;> rfl
theorem ad_add (a : Addr) (i j : Nat) : (a.add i).add j = a.add (i + j) := by
  unfold Addr.add
  by_cases hi : i = 0 <;> by_cases hj : j = 0 <;> simp [hi, hj, Nat.add_assoc]
theorem ad_zero (a : Addr) : a.add 0 = a := by simp [Addr.add]
theorem ad_head (b j : Nat) : (⟨b, 0, none⟩ : Addr).add j = ⟨b, j, none⟩ := by unfold Addr.add; split <;> simp_all

/-- A slice whose address is A reads as the numbers l, in a block below B. -/
def Rd (w : World) (k : IntKind) (B : Nat) (A : Option Addr) (l : List Int) : Prop :=
  l ≠ [] → ∃ a, A = some a ∧ a.block < B ∧ ∀ j u, l[j]? = some u → w.cell? (a.add j) = some (.int k u)

section
variable {w w' : World} {k : IntKind} {B B' : Nat} {A : Option Addr} {l : List Int}
theorem Rd.none : Rd w k B A [] := fun h => absurd rfl h
theorem Rd.at_ (h : Rd w k B A l) {j : Nat} (hj : j < l.length) : ∃ a, A = some a ∧ a.block < B ∧ w.cell? (a.add j) = some (.int k l[j]) := by
  obtain ⟨a, e, hb, hc⟩ := h (fun e => by subst e; simp at hj)
  exact ⟨a, e, hb, hc j _ (List.getElem?_eq_getElem hj)⟩
theorem Rd.kept (h : Rd w k B A l) (hk : ∀ i, i < B → w'.heap[i]? = w.heap[i]?) : Rd w' k B A l := fun hl => by
  obtain ⟨a, e, hb, hc⟩ := h hl
  exact ⟨a, e, hb, fun j u hu => (World.cell?_of_block (hk _ (by rw [ad_block]; exact hb))).trans (hc j u hu)⟩
theorem Rd.more (h : Rd w k B A l) (hB : B ≤ B') : Rd w k B' A l := fun hl => by
  obtain ⟨a, e, hb, hc⟩ := h hl
  exact ⟨a, e, by omega, hc⟩
theorem Rd.below (h : Rd w k B A l) (hb : Below B w w') : Rd w' k B A l := h.kept hb.block
theorem Rd.grown {row : Option Nat} (h : Rd w k B A l) (hg : w.grownBy w' row) (hB : B ≤ w.heap.size) (hr : ∀ g, row = some g → B ≤ g) : Rd w' k B A l :=
  h.kept fun i hi => hg.block i (by omega) fun e => by have := hr i e.symm; omega
theorem Rd.drop (h : Rd w k B A l) (n : Nat) : Rd w k B (A.map (·.add n)) (l.drop n) := fun hl => by
  obtain ⟨a, rfl, hb, hc⟩ := h (fun e => by subst e; simp at hl)
  refine ⟨a.add n, rfl, by rw [ad_block]; exact hb, fun j u hu => ?_⟩
  rw [ad_add]
  exact hc _ u (by rw [← hu, List.getElem?_drop])
theorem Rd.take (h : Rd w k B A l) (n : Nat) : Rd w k B A (l.take n) := fun hl => by
  obtain ⟨a, rfl, hb, hc⟩ := h (fun e => by subst e; simp at hl)
  refine ⟨a, rfl, hb, fun j u hu => hc j u ?_⟩
  rw [List.getElem?_take] at hu
  split at hu
  · exact hu
  · cases hu
end

/-- The cells of numbers. -/
def cl (k : IntKind) (l : List Int) : List Value := l.map (Value.int k)
theorem cl_length (k : IntKind) (l : List Int) : (cl k l).length = l.length := by simp [cl]
theorem cl_append (k : IntKind) (a b : List Int) : cl k (a ++ b) = cl k a ++ cl k b := by simp [cl]
theorem cl_at {k : IntKind} {l : List Int} {j : Nat} {u : Value} (h : (cl k l)[j]? = some u) : ∃ x, l[j]? = some x ∧ u = .int k x := by
  unfold cl at h
  rw [List.getElem?_map, Option.map_eq_some_iff] at h
  obtain ⟨x, hx, rfl⟩ := h
  exact ⟨x, hx, rfl⟩
theorem cl_one (k : IntKind) (l : List Int) : ∀ u ∈ cl k l, u.oneCell' = true := by
  intro u hu
  obtain ⟨x, _, rfl⟩ := List.mem_map.1 hu
  rfl

/-- A row of the call's own reads as its numbers. -/
theorem Rd.own {w : World} {base : Nat} {e : TypeId} {k : IntKind} {A : Option Addr} {n c : Nat} {l : List Int} (h : w.ownsRow base e 1 (.slice A n c) n (cl k l)) : Rd w k w.heap.size A l := by
  intro hl
  rcases h.2 with ⟨_, rfl⟩ | ⟨g, cap, cur, hv, _⟩
  · have := h.1; rw [cl_length] at this; exact absurd (List.eq_nil_of_length_eq_zero (by simpa using this)) hl
  · injection hv with hA _ _
    subst hA
    refine ⟨_, rfl, (h.lt g rfl).2, fun j u hu => h.cells (g := g) rfl j (.int k u) ?_⟩
    unfold cl; rw [List.getElem?_map, hu]; rfl
theorem own_len {w : World} {base : Nat} {e : TypeId} {k : IntKind} {v : Value} {n : Nat} {l : List Int} (h : w.ownsRow base e 1 v n (cl k l)) : n = l.length := by
  have := h.1; rw [cl_length] at this; omega
/-- The form of a slice that is owned: its length, and that it has room for it. -/
theorem own_form {w : World} {base : Nat} {e : TypeId} {size : Nat} {v : Value} {n : Nat} {xs : List Value} (h : w.ownsRow base e size v n xs) : ∃ A c, v = .slice A n c ∧ n ≤ c ∧ c ≤ maxLen := by
  rcases h.2 with ⟨rfl, rfl⟩ | ⟨g, cap, cur, rfl, _, _, h1, h2, _⟩
  · exact ⟨Option.none, 0, rfl, Nat.le_refl _, Nat.zero_le _⟩
  · exact ⟨_, _, rfl, h1, h2⟩

/-- Only one block, and what is new, has turned. -/
theorem grown_boxed {w : World} {g : Nat} {cs cs' : Array Value} {t t' : TypeId} : (boxed w g cs t).grownBy (boxed w g cs' t') (some g) :=
  ⟨rfl, rfl, rfl, by rw [boxed_size, boxed_size]; exact Nat.le_refl _, fun i _ hne => by rw [boxed_block_other (fun e => hne (by rw [e])), boxed_block_other (fun e => hne (by rw [e]))]⟩
theorem grown_refl (w : World) (row : Option Nat) : w.grownBy w row := ⟨rfl, rfl, rfl, Nat.le_refl _, fun _ _ _ => rfl⟩
theorem grown_drewN {a w : World} {row : Option Nat} (h : a.grownBy w row) (n : Nat) : a.grownBy (w.drewN n) row := ⟨h.os, h.tape, h.output, h.size, h.block⟩
theorem grown_below {a w : World} {B : Nat} (h : a.grownBy w (some B)) {b : Nat} (hb : b ≤ B) (hs : b ≤ a.heap.size) : Below b a w :=
  ⟨h.os, h.tape, h.output, h.size, fun i hi => h.block i (by omega) fun e => by injection e; omega⟩
theorem below_grown {a w : World} (h : Below a.heap.size a w) (row : Option Nat) : a.grownBy w row := ⟨h.os, h.tape, h.output, h.size, fun i hi _ => h.block i hi⟩

theorem own_kept {w w' : World} {base : Nat} {e : TypeId} {size : Nat} {v : Value} {n : Nat} {xs : List Value} (h : w.ownsRow base e size v n xs) (hk : ∀ i, v.ownBlock = some i → w'.heap[i]? = w.heap[i]?) : w'.ownsRow base e size v n xs := by
  refine ⟨h.1, ?_⟩
  rcases h.2 with hn | ⟨g, cap, cur, rfl, hb, hgg, rest⟩
  · exact .inl hn
  · exact .inr ⟨g, cap, cur, rfl, hb, (hk g rfl).trans hgg, rest⟩
theorem own_ne {w : World} {base : Nat} {size n : Nat} {e t : TypeId} {v : Value} {xs : List Value} {g : Nat} {cs : Array Value} (h : w.ownsRow base e size v n xs) (hg : w.heap[g]? = some (.cells cs t (0, 0))) (hne : e ≠ t) : v.ownBlock ≠ some g := by
  rcases h.2 with ⟨rfl, _⟩ | ⟨g', cap, cur, rfl, _, hh, _⟩
  · simp [Value.ownBlock]
  · intro he
    have : g' = g := by simpa [Value.ownBlock] using he
    subst this
    rw [hh] at hg
    injection hg with hg
    injection hg with _ ht
    exact hne ht

/-- The letters of bytes. -/
def bst (l : List Int) : ByteArray := l.foldl (fun r n => r.push (UInt8.ofNat n.toNat)) ByteArray.empty
theorem bst_go (l : List Int) : ∀ b : ByteArray, l.foldl (fun r n => r.push (UInt8.ofNat n.toNat)) b = ⟨b.data ++ (l.map fun n => UInt8.ofNat n.toNat).toArray⟩ := by
  induction l with
  | nil => intro b; simp
  | cons x r ih =>
    intro b
    rw [List.foldl_cons, ih]
    apply ByteArray.ext
    simp [ByteArray.push]
theorem bst_eq (l : List Int) : bst l = ⟨(l.map fun n => UInt8.ofNat n.toNat).toArray⟩ := by
  unfold bst; rw [bst_go]; apply ByteArray.ext; simp
theorem bst_append (a b : List Int) : bst (a ++ b) = bst a ++ bst b := by
  apply ByteArray.ext; simp [bst_eq]
theorem bst_inj {a b : List Int} (ha : ∀ x ∈ a, 0 ≤ x ∧ x < 256) (hb : ∀ x ∈ b, 0 ≤ x ∧ x < 256) (h : bst a = bst b) : a = b := by
  rw [bst_eq, bst_eq] at h
  have h' : (a.map fun n => UInt8.ofNat n.toNat) = b.map fun n => UInt8.ofNat n.toNat := by
    have := congrArg (fun z : ByteArray => z.data.toList) h
    simpa using this
  clear h
  induction a generalizing b with
  | nil => simp at h'; exact h'.symm
  | cons x r ih =>
    cases b with
    | nil => simp at h'
    | cons y s =>
      simp only [List.map_cons, List.cons.injEq] at h'
      have hx := ha x (by simp)
      have hy := hb y (by simp)
      have e : x = y := by
        have := congrArg UInt8.toNat h'.1
        simp at this
        omega
      rw [e, ih (fun z hz => ha z (by simp [hz])) (fun z hz => hb z (by simp [hz])) h'.2]
/-- 'string(p)', whatever the bytes. -/
theorem conv_any (w : World) (A : Option Addr) (B c : Nat) (l : List Int) (h : Rd w .u8 B A l) :
    (convert 22 9 (.slice A l.length c)).run Try.prog w = .ok (.string (bst l)) w := by
  rw [run_convert_bytes_string _ _ _ 5 _ _ _ Try.underlying22 Try.underlying5 Try.underlying9]
  rcases A with _ | a
  · have : l = [] := by
      rcases l with _ | ⟨x, r⟩
      · rfl
      · obtain ⟨a, e, _⟩ := h (by simp); cases e
    subst this
    rfl
  · unfold bst
    refine run_bytesToString w a l.length c l ?_
    have hc := run_loadCells_list (P := Try.prog) (w := w) a (cl .u8 l) fun j u hu => by
      obtain ⟨x, hx, rfl⟩ := cl_at hu
      obtain ⟨a', e, _, hc⟩ := h (fun e => by subst e; simp at hx)
      injection e with e
      subst e
      exact hc j x hx
    rw [cl_length] at hc
    exact hc
theorem conv_len (w : World) (A : Option Addr) (B c m : Nat) (l : List Int) (h : Rd w .u8 B A l) (hm : l.length = m) :
    (convert 22 9 (.slice A m c)).run Try.prog w = .ok (.string (bst l)) w := by subst hm; exact conv_any w A B c l h
theorem bst_size (l : List Int) : (bst l).size = l.length := by rw [bst_eq]; simp [ByteArray.size]
/-- Numbers that are bytes. -/
def BytesOk (l : List Int) : Prop := ∀ x ∈ l, 0 ≤ x ∧ x < 256
theorem BytesOk.lt {l : List Int} (h : BytesOk l) : ∀ x ∈ l, x < 256 := fun x hx => (h x hx).2
theorem BytesOk.take {l : List Int} (h : BytesOk l) (k : Nat) : BytesOk (l.take k) := fun x hx => h x (List.mem_of_mem_take hx)
theorem BytesOk.drop {l : List Int} (h : BytesOk l) (k : Nat) : BytesOk (l.drop k) := fun x hx => h x (List.mem_of_mem_drop hx)
theorem BytesOk.append {a b : List Int} (ha : BytesOk a) (hb : BytesOk b) : BytesOk (a ++ b) := fun x hx => by
  rcases List.mem_append.1 hx with h | h
  · exact ha x h
  · exact hb x h
/-- New bytes, in a block of their own. -/
theorem rd_lit (w : World) (cs : Array Value) (k : IntKind) (l : List Int) (t : TypeId) (f : Nat × Nat) (h : cs.toList = cl k l) : Rd (w.alloc (.cells cs t f)) k (w.heap.size + 1) (some ⟨w.heap.size, 0, none⟩) l := fun _ =>
  ⟨_, rfl, by simp, fun j u hu => by
    rw [ad_head, cell_of_row _ _ _ _ _ f alloc_block, ← Array.getElem?_toList, h]
    unfold cl; rw [List.getElem?_map, hu]; rfl⟩
theorem lit_cells (w : World) (cs : Array Value) (k : IntKind) (l : List Int) (t : TypeId) (f : Nat × Nat) (h : cs.toList = cl k l) : ∀ j u, l[j]? = some u → (w.alloc (.cells cs t f)).cell? ((⟨w.heap.size, 0, none⟩ : Addr).add j) = some (.int k u) := fun j u hu => by
  rw [ad_head, cell_of_row _ _ _ _ _ f alloc_block, ← Array.getElem?_toList, h]
  unfold cl; rw [List.getElem?_map, hu]; rfl
end Go.Proofs.Ytlldkcelkgnalaa
