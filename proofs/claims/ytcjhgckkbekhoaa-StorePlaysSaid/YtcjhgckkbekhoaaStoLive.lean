/-
  A store in a walk, and the document's example of it. No conditions but the sizes.
-/
import Derived.Test.YtcjhgckkbekhoaaStoHear
import Derived.Test.YtcjhgckkbekhoaaLiveO
namespace Go.Proofs.Ytcjhgckkbekhoaa
set_option maxRecDepth 20000
open Go.ChangeShapes Go.WideShapes Go.ChangeAt Go.RowKit

def StoB (g : Nat) (st : Sto) (m : Nat) (w : World) (F : Nat → Prop) : Prop := ∃ b1 b2, StoC w g b1 b2 st m ∧ F g ∧ F b1 ∧ F b2 ∧ ∀ i, F i → i < w.heap.size
theorem sto_thing (g : Nat) (st : Sto) (m : Nat) : Thing (StoB g st m) :=
  ⟨fun h hk hs => by obtain ⟨b1, b2, h, f1, f2, f3, hl⟩ := h; exact ⟨b1, b2, h.kept (hk _ f1) (hk _ f2) (hk _ f3), f1, f2, f3, fun i hi => Nat.lt_of_lt_of_le (hl i hi) hs⟩, fun h hi => by obtain ⟨b1, b2, _, _, _, _, hl⟩ := h; exact hl _ hi⟩
theorem sto_post {w w' : World} {F : Nat → Prop} {g b1 b2 : Nat} {st : Sto} {m : Nat} (f1 : F g) (f2 : F b1) (f3 : F b2) (hl : ∀ i, F i → i < w.heap.size) (h : StoC w' g b1 b2 st m) (ht : Turn (stoF b1 b2) w w') : PostO w F (StoB g st m) w' :=
  ⟨⟨b1, b2, h, .inl f1, .inl f2, .inl f3, fun i hi => hi.elim (fun k => Nat.lt_of_lt_of_le (hl i k) ht.size) (·.2)⟩, ⟨ht.os, ht.tape, ht.output, ht.size, fun i hi hn => ht.block i hi (by rintro (e | e) <;> (subst e; exact hn (by assumption)))⟩⟩
section
variable {w0 w : World} {N : Nat → Prop} {g : Nat} {st : Sto} {m : Nat}
theorem shear_alloc_live {S C T M v : Int} (h : LiveO (StoB g st m) w0 N w) (hN : ∀ i, N i → i < w.heap.size) (hk : pok (S, C)) (hm : m + 2 ≤ 100000) :
    Calls Try.prog 22 #[.pointer (some ⟨g, 0, none⟩), .agg #[.int .u8 3, .int .i64 S, .int .i64 C, .int .i64 T, .int .i64 M, .int .u8 0], .int .u8 v] w fun e w' => e = .returned (.tuple #[.agg #[.int .u8 3, .int .i64 S, .int .i64 C, .int .i64 T, .int .i64 M, .int .u8 (st.ans (S, C) v)], .bool true]) ∧ LiveO (StoB g (st.alloc (S, C) v) (m + 2)) w0 N w' ∧ KeptO w0 N w w' := by
  obtain ⟨F, ⟨b1, b2, h1, f1, f2, f3, hl⟩, h2, h3⟩ := h
  exact (shear_alloc w g b1 b2 st m S C T M v h1 hk hm).mono fun e w' ⟨he, hc, ht⟩ => ⟨he, LiveO.post hN h2 h3 (sto_post f1 f2 f3 hl hc ht)⟩
theorem shear_drop_live {S C T M v : Int} (h : LiveO (StoB g st m) w0 N w) (hN : ∀ i, N i → i < w.heap.size) (hk : pok (S, C)) (hm : m + 2 ≤ 100000) :
    Calls Try.prog 22 #[.pointer (some ⟨g, 0, none⟩), .agg #[.int .u8 4, .int .i64 S, .int .i64 C, .int .i64 T, .int .i64 M, .int .u8 0], .int .u8 v] w fun e w' => e = .returned (.tuple #[.agg #[.int .u8 4, .int .i64 S, .int .i64 C, .int .i64 T, .int .i64 M, .int .u8 1], .bool true]) ∧ LiveO (StoB g (st.drop (S, C)) (m + 2)) w0 N w' ∧ KeptO w0 N w w' := by
  obtain ⟨F, ⟨b1, b2, h1, f1, f2, f3, hl⟩, h2, h3⟩ := h
  exact (shear_drop w g b1 b2 st m S C T M v h1 hk hm).mono fun e w' ⟨he, hc, ht⟩ => ⟨he, LiveO.post hN h2 h3 (sto_post f1 f2 f3 hl hc ht)⟩
theorem aside_live {a b : Int} (h : LiveO (StoB g st m) w0 N w) (hk : pok (a, b)) : Calls Try.prog 23 #[.pointer (some ⟨g, 0, none⟩), .int .i64 a, .int .i64 b] w fun e w' => e = .returned (.bool (decide ((a, b) ∈ st.aside))) ∧ Below w.heap.size w w' := by
  obtain ⟨F, ⟨b1, b2, h1, _⟩, _⟩ := h
  exact aside_any w g b1 b2 st m a b h1 hk
theorem count_live (h : LiveO (StoB g st m) w0 N w) : Calls Try.prog 24 #[.pointer (some ⟨g, 0, none⟩)] w fun e w' => e = .returned (.int .i64 st.aside.length) ∧ w = w' := by
  obtain ⟨F, ⟨b1, b2, h1, _⟩, _⟩ := h
  exact count_any w g b1 b2 st m h1
theorem snew_live : Calls Try.prog 21 #[] w fun e w' => e = .returned (.pointer (some ⟨w.heap.size + 2, 0, none⟩)) ∧ LiveO (StoB (w.heap.size + 2) .new 0) w (fun _ => False) w' ∧ w'.heap.size = w.heap.size + 3 :=
  (snew_any w).mono fun e w' ⟨he, hc, hb, hz⟩ => ⟨he, LiveO.new (F := fun i => w.heap.size ≤ i ∧ i < w'.heap.size) ⟨_, _, hc, ⟨by omega, by omega⟩, ⟨by omega, by omega⟩, ⟨by omega, by omega⟩, fun i hi => hi.2⟩ (fun i hi => hi.1) hb, hz⟩
end
end Go.Proofs.Ytcjhgckkbekhoaa
