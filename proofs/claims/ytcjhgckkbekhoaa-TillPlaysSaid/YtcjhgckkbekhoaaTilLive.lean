/-
  A till in a walk. No conditions but the sizes.
-/
import Derived.Test.YtcjhgckkbekhoaaTilHear
import Derived.Test.YtcjhgckkbekhoaaLiveO
namespace Go.Proofs.Ytcjhgckkbekhoaa
set_option maxRecDepth 20000
set_option linter.unusedSimpArgs false
set_option linter.unusedVariables false
open Go.ChangeShapes Go.WideShapes Go.ChangeAt Go.RowKit

section
variable {w0 w : World} {N : Nat → Prop} {g : Nat} {st : Til} {m : Nat}
theorem tcharge_live {S C T M v : Int} (h : LiveO (TilB g st m) w0 N w) (hN : ∀ i, N i → i < w.heap.size) (hk : ypok (S, C, T)) (hm : m + 4 ≤ 100000) (hr : Til.told T M v = 1 → st.room S C M) :
    Calls Try.prog 16 #[.pointer (some ⟨g, 0, none⟩), .agg #[.int .u8 1, .int .i64 S, .int .i64 C, .int .i64 T, .int .i64 M, .int .u8 0], .int .u8 v] w fun e w' => e = .returned (.tuple #[.agg #[.int .u8 1, .int .i64 S, .int .i64 C, .int .i64 T, .int .i64 M, .int .u8 (st.chargeA S C T (Til.told T M v))], .bool true]) ∧ LiveO (TilB g (st.charge S C T M (Til.told T M v)) (m + 4)) w0 N w' ∧ KeptO w0 N w w' := by
  obtain ⟨F, h1, h2, h3⟩ := h
  exact (thear_charge w F g st m S C T M v h1 hm hk hr).mono fun e w' ⟨he, hp⟩ => ⟨he, LiveO.post hN h2 h3 hp⟩
theorem trefund_live {S C T M v : Int} (h : LiveO (TilB g st m) w0 N w) (hN : ∀ i, N i → i < w.heap.size) (hk : cpok (S, C)) (hm : m + 4 ≤ 100000) (hr : (Lit.int .i64 ((st.nt S).getD 0 - (st.tk (S, C)).getD 0)).wf = true) :
    Calls Try.prog 16 #[.pointer (some ⟨g, 0, none⟩), .agg #[.int .u8 2, .int .i64 S, .int .i64 C, .int .i64 T, .int .i64 M, .int .u8 0], .int .u8 v] w fun e w' => e = .returned (.tuple #[.agg #[.int .u8 2, .int .i64 S, .int .i64 C, .int .i64 T, .int .i64 M, .int .u8 (st.refundA S C)], .bool true]) ∧ LiveO (TilB g (st.refund S C) (m + 4)) w0 N w' ∧ KeptO w0 N w w' := by
  obtain ⟨F, h1, h2, h3⟩ := h
  exact (thear_refund w F g st m S C T M v h1 hm hk hr).mono fun e w' ⟨he, hp⟩ => ⟨he, LiveO.post hN h2 h3 hp⟩
theorem taken_live {a b : Int} (h : LiveO (TilB g st m) w0 N w) (hk : cpok (a, b)) : Calls Try.prog 18 #[.pointer (some ⟨g, 0, none⟩), .int .i64 a, .int .i64 b] w fun e w' => e = .returned (.int .i64 ((st.tk (a, b)).getD 0)) ∧ w = w' := by
  obtain ⟨F, h1, _⟩ := h
  exact taken_any w F g st m a b h1 hk
theorem net_live {a : Int} (h : LiveO (TilB g st m) w0 N w) (hk : (Lit.int .i64 a).wf = true) : Calls Try.prog 19 #[.pointer (some ⟨g, 0, none⟩), .int .i64 a] w fun e w' => e = .returned (.int .i64 ((st.nt a).getD 0)) ∧ w = w' := by
  obtain ⟨F, h1, _⟩ := h
  exact net_any w F g st m a h1 hk
theorem entries_live (h : LiveO (TilB g st m) w0 N w) (hm : m ≤ 100000) : Calls Try.prog 17 #[.pointer (some ⟨g, 0, none⟩)] w fun e w' => ∃ v', e = .returned v' ∧ w'.ownsRow w.heap.size 39 4 v' st.es.length (ecl st.es) ∧ Below w.heap.size w w' := by
  obtain ⟨F, h1, _⟩ := h
  exact entries_any w F g st m h1 hm
theorem entriesLen_live (h : LiveO (TilB g st m) w0 N w) (hm : m ≤ 100000) : Calls Try.prog 17 #[.pointer (some ⟨g, 0, none⟩)] w fun e w' => ∃ A c, e = .returned (.slice A st.es.length c) ∧ Below w.heap.size w w' :=
  (entries_live h hm).mono fun e w' ⟨v', he, ho, hb⟩ => by obtain ⟨A, c, rfl, _, _⟩ := own_form ho; exact ⟨A, c, he, hb⟩
theorem tnew_live : Calls Try.prog 14 #[] w fun e w' => e = .returned (.pointer (some ⟨w.heap.size + 4, 0, none⟩)) ∧ LiveO (TilB (w.heap.size + 4) .new 0) w (fun _ => False) w' ∧ w'.heap.size = w.heap.size + 5 :=
  (tnew_any w).mono fun e w' ⟨he, hc, hb, hz⟩ => ⟨he, LiveO.new hc (fun i hi => hi.1) hb, hz⟩
end
theorem wf_of {x : Int} (h : -9223372036854775808 ≤ x ∧ x ≤ 9223372036854775807) : (Lit.int .i64 x).wf = true := WalkArith.wf_i64 h
end Go.Proofs.Ytcjhgckkbekhoaa
