/-
  A cart in a walk. No conditions but the sizes.
-/
import Derived.Test.YtcjhgckkbekhoaaCrtHear
import Derived.Test.YtcjhgckkbekhoaaLiveO
namespace Go.Proofs.Ytcjhgckkbekhoaa
set_option maxRecDepth 20000
set_option linter.unusedSimpArgs false
set_option linter.unusedVariables false
open Go.ChangeShapes Go.WideShapes Go.ChangeAt Go.RowKit

section
variable {w0 w : World} {N : Nat → Prop} {g : Nat} {st : Crt} {m : Nat}
theorem chear_live {S C T M v : Int} (h : LiveO (CrtB g st m) w0 N w) (hN : ∀ i, N i → i < w.heap.size) (hk : tpok (S, C)) (hm : m + 2 ≤ 100000) :
    Calls Try.prog 27 #[.pointer (some ⟨g, 0, none⟩), .agg #[.int .u8 5, .int .i64 S, .int .i64 C, .int .i64 T, .int .i64 M, .int .u8 0], .int .u8 v] w fun e w' => e = .returned (.tuple #[.agg #[.int .u8 5, .int .i64 S, .int .i64 C, .int .i64 T, .int .i64 M, .int .u8 (st.ans (S, C) v)], .bool true]) ∧ LiveO (CrtB g (st.ship (S, C) v) (m + 1)) w0 N w' ∧ KeptO w0 N w w' := by
  obtain ⟨F, h1, h2, h3⟩ := h
  exact (chear_ship w F g st m S C T M v h1 hk hm).mono fun e w' ⟨he, hp⟩ => ⟨he, LiveO.post hN h2 h3 hp⟩
theorem ship_some {k : Int × Int} {v x : Int} (h : st.said k = some x) : st.ship k v = st ∧ st.ans k v = x := by unfold Crt.ship Crt.ans; rw [h]; exact ⟨rfl, rfl⟩
theorem chear_again_live {S C T M v x : Int} (hs : st.said (S, C) = some x) (h : LiveO (CrtB g st m) w0 N w) (hN : ∀ i, N i → i < w.heap.size) (hk : tpok (S, C)) (hm : m + 2 ≤ 100000) :
    Calls Try.prog 27 #[.pointer (some ⟨g, 0, none⟩), .agg #[.int .u8 5, .int .i64 S, .int .i64 C, .int .i64 T, .int .i64 M, .int .u8 0], .int .u8 v] w fun e w' => e = .returned (.tuple #[.agg #[.int .u8 5, .int .i64 S, .int .i64 C, .int .i64 T, .int .i64 M, .int .u8 x], .bool true]) ∧ LiveO (CrtB g st (m + 1)) w0 N w' ∧ KeptO w0 N w w' := by
  have := chear_live (T := T) (M := M) (v := v) h hN hk hm
  rw [(ship_some hs).1, (ship_some hs).2] at this
  exact this
theorem sent_live {a b : Int} (h : LiveO (CrtB g st m) w0 N w) (hm : m ≤ 100000) : Calls Try.prog 29 #[.pointer (some ⟨g, 0, none⟩), .int .i64 a, .int .i64 b] w fun e w' => e = .returned (.int .i64 (sentOf st.trips (a, b))) ∧ Below w.heap.size w w' := by
  obtain ⟨F, h1, _⟩ := h
  exact sent_any w F g st m a b h1 hm
theorem trips_live (h : LiveO (CrtB g st m) w0 N w) (hm : m ≤ 100000) : Calls Try.prog 28 #[.pointer (some ⟨g, 0, none⟩)] w fun e w' => ∃ v', e = .returned v' ∧ w'.ownsRow w.heap.size 68 2 v' st.trips.length (tcl st.trips) ∧ Below w.heap.size w w' := by
  obtain ⟨F, h1, _⟩ := h
  exact trips_any w F g st m h1 hm
theorem tripsLen_live (h : LiveO (CrtB g st m) w0 N w) (hm : m ≤ 100000) : Calls Try.prog 28 #[.pointer (some ⟨g, 0, none⟩)] w fun e w' => ∃ A c, e = .returned (.slice A st.trips.length c) ∧ Below w.heap.size w w' :=
  (trips_live h hm).mono fun e w' ⟨v', he, ho, hb⟩ => by obtain ⟨A, c, rfl, _, _⟩ := own_form ho; exact ⟨A, c, he, hb⟩
theorem cnew_live : Calls Try.prog 26 #[] w fun e w' => e = .returned (.pointer (some ⟨w.heap.size + 1, 0, none⟩)) ∧ LiveO (CrtB (w.heap.size + 1) .new 0) w (fun _ => False) w' ∧ w'.heap.size = w.heap.size + 2 :=
  (cnew_any w).mono fun e w' ⟨he, hc, hb, hz⟩ => ⟨he, LiveO.new hc (fun i hi => hi.1) hb, hz⟩
end
end Go.Proofs.Ytcjhgckkbekhoaa
