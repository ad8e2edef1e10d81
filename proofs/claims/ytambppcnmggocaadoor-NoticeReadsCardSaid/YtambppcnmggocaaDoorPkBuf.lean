/-
  Contracts of the functions that make bytes: a copy, a number behind some, and the document's own. No conditions but the sizes.
-/
import Derived.Test.YtambppcnmggocaaDoorPkLeaf
import Derived.Test.YtambppcnmggocaaDoorPkMem
import Derived.Test.YtambppcnmggocaaDoorBuf
import Derived.Lib.Hide
namespace Go.Proofs.YtambppcnmggocaaDoor
open Go.ChangeShapes Go.WideShapes Go.ChangeAt Go.RowKit

theorem enc_last {acc : List Int} {u : Nat} {r : List Int} (h : acc ++ Pk.enc u = r) (hu : u < 64) : acc ++ [(u : Int)] = r := by rw [← h, Pk.enc_less hu]
theorem enc_go {acc : List Int} {u : Nat} {r : List Int} (h : acc ++ Pk.enc u = r) (hu : ¬ u < 64) : acc ++ [(u : Int) % 64 + 64] ++ Pk.enc (u / 64) = r := by rw [← h, Pk.enc_more hu, List.append_assoc]; rfl

set_option maxHeartbeats 1000000 in
theorem appendNumber_any (v : Value) (base : Nat) (l : List Int) (n : Int) (w : World) (ho : w.ownsRow base 5 1 v l.length (cl .u8 l)) (hB : base ≤ w.heap.size) (hl : l.length ≤ 900000) (h0 : -9223372036854775808 ≤ n) (h1 : n ≤ 9223372036854775807) :
    Calls Tryd.prog 37 #[v, .int .i64 n] w (Grown1 w base v (l ++ Pk.enc (Pk.zig n))) := by
  have hz := Pk.zig_lt n h0 h1
  have HO := Lib.hid ho
  have H11 := Lib.hid (Pk.enc_eleven hz)
  clear ho
  go_enter Tryd.func37, Tryd.ntmps37
  go_wp2_with (go_at_call 42; refine (unsigned_any _ _ h0 h1).mono ?_; rintro e w' ⟨rfl, rfl⟩)
  generalize Pk.zig n = z at *
  go_loopw [0, 5] (fun p t wr => ∃ (acc : List Int) (u : Nat), t = .int .u64 u ∧ u < 18446744073709551616 ∧ Grew w base v (l ++ acc) p wr ∧ Hid (acc ++ Pk.enc u = Pk.enc z)) (fun _ t _ => (intOf t).toNat)
  case atStart => exact ⟨[], z, rfl, hz, by rw [List.append_nil]; exact Grew.refl HO.out, rfl⟩
  case round =>
    obtain ⟨acc, u, rfl, hu, hg, HE⟩ := hrel
    have hacc : acc.length ≤ 11 := by have := congrArg List.length HE.out; rw [List.length_append] at this; have := H11.out; omega
    have HG := Lib.hid hg
    clear hg
    have hB2 : base ≤ wr.heap.size + 1 := by have := HG.out.grown.size; omega
    have hsz : (l ++ acc).length + 1 ≤ 1000000 := by rw [List.length_append]; omega
    by_cases h : u < 64
    · have HX := Lib.hid (enc_last HE.out h)
      go_wp2_with (at_builtin; refine wpList_append_rd rfl _ _ rfl rfl base _ (l ++ acc) [(u : Int)] _ _ _ rfl rfl (HG.out.own.alloc _) (rd_one wr _ _) hsz (by rw [World.size_alloc]; exact hB2) ?_; intro v' w1 hg)
      go_ret
      exact ⟨v', rfl, by have := HG.out.trans hg.of_alloc; rwa [List.append_assoc, HX.out] at this⟩
    · have HX := Lib.hid (enc_go HE.out h)
      go_wp2_with (at_builtin; refine wpList_append_rd rfl _ _ rfl rfl base _ (l ++ acc) [(u : Int) % 64 + 64] _ _ _ rfl rfl (HG.out.own.alloc _) (rd_one wr _ _) hsz (by rw [World.size_alloc]; exact hB2) ?_; intro v' w1 hg)
      go_roundw
      case rel => exact ⟨acc ++ [(u : Int) % 64 + 64], u / 64, by go_num, by omega, by have := HG.out.trans hg.of_alloc; rwa [List.append_assoc] at this, HX⟩
      case measure => simp [intOf]; omega

theorem val_u64 {a b : Int} (h : a = b) : Value.int .u64 a = .int .u64 b := by rw [h]

set_option maxHeartbeats 1000000 in
theorem pack_any (n : Int) (w : World) (h0 : -9223372036854775808 ≤ n) (h1 : n ≤ 9223372036854775807) :
    Calls Tryd.prog 23 #[.int .i64 n] w (Owned w (Pk.enc (Pk.zig n))) := by
  have hz := Pk.zig_lt n h0 h1
  have H11 := Lib.hid (Pk.enc_eleven hz)
  have HE' := Lib.hid (@Pk.zig_even n)
  have HO' := Lib.hid (@Pk.zig_odd n)
  by_cases hn : n < 0
  all_goals
    go_enter Tryd.func23, Tryd.ntmps23
    go_wp2
    go_loopw [3, 4] (fun t p wr => ∃ (acc : List Int) (u : Nat), t = .int .u64 u ∧ u < 18446744073709551616 ∧ Grew w w.heap.size (.slice none 0 0) acc p wr ∧ Hid (acc ++ Pk.enc u = Pk.enc (Pk.zig n))) (fun t _ _ => (intOf t).toNat)
    case atStart =>
      refine ⟨[], Pk.zig n, val_u64 ?_, hz, Grew.start w, rfl⟩
      first | (have := HO'.out hn; omega) | (have := HE'.out (by omega); omega)
    case round =>
      obtain ⟨acc, u, rfl, hu, hg, HE⟩ := hrel
      have hacc : acc.length ≤ 11 := by have := congrArg List.length HE.out; rw [List.length_append] at this; have := H11.out; omega
      have HG := Lib.hid hg
      clear hg
      have hB2 : w.heap.size ≤ wr.heap.size + 1 := by have := HG.out.grown.size; omega
      by_cases h : u < 64
      · have HX := Lib.hid (enc_last HE.out h)
        go_wp2_with (at_builtin; refine wpList_append_rd rfl _ _ rfl rfl w.heap.size _ acc [(u : Int)] _ _ _ rfl rfl (HG.out.own.alloc _) (rd_one wr _ _) (by simp; omega) (by rw [World.size_alloc]; exact hB2) ?_; intro v' w1 hg)
        go_ret
        exact Grew.owned (by have := HG.out.trans hg.of_alloc; rwa [HX.out] at this)
      · have HX := Lib.hid (enc_go HE.out h)
        go_wp2_with (at_builtin; refine wpList_append_rd rfl _ _ rfl rfl w.heap.size _ acc [(u : Int) % 64 + 64] _ _ _ rfl rfl (HG.out.own.alloc _) (rd_one wr _ _) (by simp; omega) (by rw [World.size_alloc]; exact hB2) ?_; intro v' w1 hg)
        go_roundw
        case rel => exact ⟨acc ++ [(u : Int) % 64 + 64], u / 64, by go_num, by omega, HG.out.trans hg.of_alloc, HX⟩
        case measure => simp [intOf]; omega

/-- Numbers that 64 bits with a sign hold. -/
def I64 (ns : List Int) : Prop := ∀ n ∈ ns, -9223372036854775808 ≤ n ∧ n ≤ 9223372036854775807
theorem encs_snoc {ns : List Int} {k : Nat} (h : k < ns.length) : Pk.encs (ns.take k) ++ Pk.enc (Pk.zig ns[k]) = Pk.encs (ns.take (k + 1)) := by
  rw [List.take_succ_eq_append_getElem h, Pk.encs_append, Pk.encs_one]
theorem I64.take {ns : List Int} (h : I64 ns) (k : Nat) : I64 (ns.take k) := fun n hn => h n (List.mem_of_mem_take hn)
theorem encs_short {ns : List Int} (h : I64 ns) (k : Nat) (hl : ns.length ≤ 1000) : (Pk.encs (ns.take k)).length ≤ 11000 := by
  have := Pk.encs_len _ (h.take k)
  rw [List.length_take] at this
  omega

set_option maxHeartbeats 1000000 in
theorem packs_any (A : Option Addr) (B c : Nat) (ns : List Int) (w : World) (hr : Rd w .i64 B A ns) (hB : B ≤ w.heap.size) (hl : ns.length ≤ 1000) (hn : I64 ns) :
    Calls Tryd.prog 10 #[.slice A ns.length c] w (Owned w (Pk.encs ns)) := by
  have HR := Lib.hid hr
  have HN := Lib.hid hn
  clear hr hn
  go_enter Tryd.func10, Tryd.ntmps10
  go_wp2
  go_loopw [3, 4] (fun p i wr => ∃ k : Nat, k ≤ ns.length ∧ i = .int .i64 k ∧ Grew w w.heap.size (.slice none 0 0) (Pk.encs (ns.take k)) p wr) (fun _ i _ => ns.length - (intOf i).toNat)
  case atStart => exact ⟨0, by omega, rfl, Grew.start w⟩
  case round =>
    obtain ⟨k, hk, rfl, hg⟩ := hrel
    have HG := Lib.hid hg
    clear hg
    by_cases hlt : k < ns.length
    · obtain ⟨a, rfl, _, hc⟩ := (HR.out.below (HG.out.below0.mono hB)).at_ hlt
      have hnk := HN.out _ (List.getElem_mem hlt)
      have HX := Lib.hid (encs_snoc hlt)
      have hs := encs_short HN.out k hl
      generalize ns[k] = x at *
      obtain ⟨x0, x1⟩ := hnk
      have h11 := Pk.enc_eleven (Pk.zig_lt x x0 x1)
      go_wp2_with (fail)
      refine (pack_any _ _ x0 x1).mono ?_
      rintro e w1 ⟨A', c', rfl, ho, hb, _, _⟩
      have HO := Lib.hid ho
      have HB := Lib.hid hb
      have hsz : w.heap.size ≤ w1.heap.size := by have := HG.out.grown.size; have := hb.size; omega
      clear ho hb
      go_wp2_with (at_builtin; refine wpList_append_rd rfl _ _ rfl rfl w.heap.size _ (Pk.encs (ns.take k)) (Pk.enc (Pk.zig x)) _ _ _ rfl rfl (HG.out.after HB.out).own (Rd.own HO.out) (by omega) hsz ?_; intro v' w2 hg)
      go_roundw
      case rel => exact ⟨k + 1, by omega, by go_num, by rw [← HX.out]; exact (HG.out.after HB.out).trans hg⟩
      case measure => simp [intOf]; omega
    · obtain rfl : k = ns.length := by omega
      have HX : Hid (ns.take ns.length = ns) := List.take_length
      go_wp2
      go_ret
      exact Grew.owned (by have := HG.out; rwa [HX.out] at this)
end Go.Proofs.YtambppcnmggocaaDoor
