/-
  A literal of numbers put into a box; contract of order.Put: a notice into a box. No conditions but the sizes.
-/
import Derived.Test.YtambppcnmggocaaOrEq
import Derived.Test.YtambppcnmggocaaPkPut
import Derived.Test.YtambppcnmggocaaPkGet
namespace Go.Proofs.Ytambppcnmggocaa
set_option maxRecDepth 20000
open Go.ChangeShapes Go.WideShapes Go.ChangeAt Go.RowKit

theorem put_lit (w : World) (R g : Nat) (l : List Int) (cs : Array Value) (ns : List Int) (m c B : Nat) (hB : B = w.heap.size) (hc : cs.toList = cl .i64 ns) (hm : ns.length = m) (h : PB w R g l) (hl : l.length ≤ 100000) (hn : ns.length ≤ 1000) (hi : I64 ns) :
    Calls Try.prog 38 #[.pointer (some ⟨g, 0, none⟩), .slice (some ⟨B, 0, none⟩) m c] (w.alloc (.cells cs 2)) (PutP w R g (l ++ Pk.encs ns)) := by
  subst hm hB
  have hR : R ≤ w.heap.size := by have := h.lt; omega
  refine (put_any _ R g l _ c ns (h.alloc _) (fun _ => ⟨_, rfl, .inr ⟨_, alloc_block⟩, lit_cells w cs .i64 ns 2 (0, 0) hc⟩) hl hn hi).mono fun e w' ⟨he, hp⟩ => ⟨he, hp.of_alloc hR⟩

/-- A notice's bytes. -/
def Nv.bytes (n : Nv) : List Int := Pk.encs [n.k, n.s, n.c, n.t, n.a, n.v]
theorem Nv.Ok.i64 {n : Nv} (h : n.Ok) : I64 [n.k, n.s, n.c, n.t, n.a, n.v] := fun x hx => by
  obtain ⟨h1, h2, h3, h4, h5, h6, h7, h8, h9, h10, h11, h12⟩ := h
  simp only [List.mem_cons, List.not_mem_nil, or_false] at hx
  rcases hx with rfl | rfl | rfl | rfl | rfl | rfl <;> omega

set_option maxHeartbeats 2000000 in
theorem oput_any (w : World) (R b : Nat) (ls : List Int) (K S C T M V : Int) (h : PB w R b ls) (hl : ls.length ≤ 90000) (hi : I64 [K, S, C, T, M, V]) :
    Calls Try.prog 22 #[.pointer (some ⟨b, 0, none⟩), .agg #[.int .u8 K, .int .i64 S, .int .i64 C, .int .i64 T, .int .i64 M, .int .u8 V]] w fun x w' => x = .returned (.tuple #[]) ∧ Put w R b (ls ++ Pk.encs [K, S, C, T, M, V]) w' := by
  have hR : R ≤ w.heap.size := by have := h.lt; omega
  have hwk : IntKind.i64.wrap K = K := by have := hi K (by simp); simp only [IntKind.wrap_i64]; omega
  have hwv : IntKind.i64.wrap V = V := by have := hi V (by simp); simp only [IntKind.wrap_i64]; omega
  have HB := Lib.hid (h.alloc (.cells #[.int .u8 K, .int .i64 S, .int .i64 C, .int .i64 T, .int .i64 M, .int .u8 V] 25))
  have HI := Lib.hid hi
  clear h hi
  go_enter Try.func22, Try.ntmps22
  go_wp2_with (fail)
  refine (put_lit _ R b ls #[.int .i64 K, .int .i64 S, .int .i64 C, .int .i64 T, .int .i64 M, .int .i64 V] [K, S, C, T, M, V] 6 6 (w.heap.size + 1) (by simp) rfl rfl HB.out (by omega) (by simp) HI.out).mono ?_
  rintro x w1 ⟨rfl, hp⟩
  go_wp2
  go_end0
  exact ⟨rfl, hp.of_alloc hR⟩

theorem owned_back {w w1 w' : World} {l : List Int} {e : Ending} (hb : Below w.heap.size w w1) (h : Owned w1 l e w') : Owned w l e w' := by
  obtain ⟨A, c, rfl, ho, hb2, h1, h2⟩ := h
  exact ⟨A, c, rfl, own_more ho hb.size, hb.trans (hb2.mono hb.size), h1, h2⟩
end Go.Proofs.Ytambppcnmggocaa
