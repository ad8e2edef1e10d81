/-
  Contracts of the functions on a number's word: the doubled word, the way back, which byte may stand. No conditions but the numbers' own ranges.
-/
import Derived.Test.YtblikgbcakgdnaaGreatRows
import Derived.Laws.BitsAllLaws
import Derived.Laws.ShiftsVarLaws
import Derived.Outline
import Derived.Lib.Hide
import Derived.Test.YtblikgbcakgdnaaGreatBr02
import Derived.Test.YtblikgbcakgdnaaGreatBr03
import Derived.Test.YtblikgbcakgdnaaGreatBr04
import Derived.Test.YtblikgbcakgdnaaGreatBr35
set_option linter.unusedSimpArgs false
set_option linter.unusedVariables false
namespace Go.Proofs.YtblikgbcakgdnaaGreat
open Go.ChangeShapes Go.WideShapes Go.ChangeAt Go.RowKit

namespace Pk
theorem ones64 : BitVec.ofInt 64 (-1) = BitVec.allOnes 64 := by decide +kernel
theorem ones64u : BitVec.ofInt 64 18446744073709551615 = BitVec.allOnes 64 := by decide +kernel
theorem ofInt_nat {x : Int} (h0 : 0 ≤ x) (h1 : x < 18446744073709551616) : ((BitVec.ofInt 64 x).toNat : Int) = x := by
  obtain ⟨m, rfl⟩ := Int.eq_ofNat_of_zero_le h0
  rw [BitVec.ofInt_natCast, BitVec.toNat_ofNat, Nat.mod_eq_of_lt (by omega)]
theorem xor_ones_u {x : Int} (h0 : 0 ≤ x) (h1 : x < 18446744073709551616) : bits .xor .u64 x 18446744073709551615 = 18446744073709551615 - x := by
  show IntKind.u64.wrap ((BitVec.ofInt 64 x ^^^ BitVec.ofInt 64 18446744073709551615).toNat : Int) = _
  rw [ones64u, BitVec.xor_allOnes, BitVec.toNat_not, IntKind.wrap_u64]
  have := ofInt_nat h0 h1
  omega
theorem xor_ones_i {x : Int} (h0 : 0 ≤ x) (h1 : x < 9223372036854775808) : bits .xor .i64 x (-1) = -x - 1 := by
  show IntKind.i64.wrap ((BitVec.ofInt 64 x ^^^ BitVec.ofInt 64 (-1)).toNat : Int) = _
  rw [ones64, BitVec.xor_allOnes, BitVec.toNat_not, IntKind.wrap_i64]
  have := ofInt_nat h0 (by omega)
  omega
theorem xor_none_u {x : Int} (h0 : 0 ≤ x) (h1 : x < 18446744073709551616) : bits .xor .u64 x 0 = x := by
  rw [u64_xor x 0 h0 h1 (by omega) (by omega)]; simp; omega
theorem xor_none_i {x : Int} (h0 : 0 ≤ x) (h1 : x < 9223372036854775808) : bits .xor .i64 x 0 = x := by
  show IntKind.i64.wrap ((BitVec.ofInt 64 x ^^^ BitVec.ofInt 64 0).toNat : Int) = _
  have e : BitVec.ofInt 64 0 = 0#64 := by decide +kernel
  rw [e, BitVec.xor_zero, IntKind.wrap_i64]
  have := ofInt_nat h0 (by omega)
  omega
theorem zig_bits {n : Int} (h0 : 0 ≤ n) (h1 : n ≤ 9223372036854775807) : bits .xor .u64 (n * 2) (n / 9223372036854775808) = zig n := by
  rw [show n / 9223372036854775808 = 0 by omega, xor_none_u (by omega) (by omega), zig_even h0]; omega
theorem zig_bits' {n : Int} (h0 : n < 0) (h1 : -9223372036854775808 ≤ n) : bits .xor .u64 (IntKind.u64.wrap (IntKind.u64.wrap n * 2)) (IntKind.u64.wrap (n / 9223372036854775808)) = zig n := by
  simp only [IntKind.wrap_u64]
  rw [show n / 9223372036854775808 % 18446744073709551616 = 18446744073709551615 by omega, xor_ones_u (by omega) (by omega), zig_odd h0]
  omega
theorem and_one (u : Nat) (h : u < 18446744073709551616) : bits .and .u64 (u : Int) 1 = ((u % 2 : Nat) : Int) := by
  have := u64_and (u : Int) 1 (by omega) (by omega) (by omega) (by omega)
  rw [this]
  simp [Nat.and_one_is_mod]
theorem zag_bits (u : Nat) (h : u < 18446744073709551616) : bits .xor .i64 ((u : Int) / 2) (wrap64 (-wrap64 (bits .and .u64 (u : Int) 1))) = zag u := by
  rw [and_one u h]
  unfold zag
  by_cases e : u % 2 = 1
  · rw [if_pos e, e, show wrap64 (-wrap64 ((1 : Nat) : Int)) = -1 by decide +kernel, xor_ones_i (by omega) (by omega)]; omega
  · rw [if_neg e, show u % 2 = 0 by omega, show wrap64 (-wrap64 ((0 : Nat) : Int)) = 0 by decide +kernel, xor_none_i (by omega) (by omega)]; omega
end Pk

set_option maxHeartbeats 400000 in
theorem unsigned_any (n : Int) (w : World) (h0 : -9223372036854775808 ≤ n) (h1 : n ≤ 9223372036854775807) :
    Calls Tryz.prog 103 #[.int .i64 n] w fun e w' => e = .returned (.int .u64 (Pk.zig n)) ∧ w = w' := by
  by_cases h : 0 ≤ n
  · go_enter Tryz.func103, Tryz.ntmps103
    go_wp2
    go_ret
    exact ⟨ret_int (Pk.zig_bits h h1), rfl⟩
  · go_enter Tryz.func103, Tryz.ntmps103
    go_wp2
    go_ret
    exact ⟨ret_int (Pk.zig_bits' (by omega) h0), rfl⟩
set_option maxHeartbeats 400000 in
theorem signed_any (u : Nat) (w : World) (h1 : u < 18446744073709551616) :
    Calls Tryz.prog 105 #[.int .u64 u] w fun e w' => e = .returned (.int .i64 (Pk.zag u)) ∧ w = w' := by
  go_enter Tryz.func105, Tryz.ntmps105
  go_wp2
  go_ret
  exact ⟨ret_int (Pk.zag_bits u h1), rfl⟩
set_option maxHeartbeats 400000 in
theorem mayStand_any (c : Int) (i : Nat) (w : World) (h0 : 0 ≤ c) (h1 : c < 256) (i1 : i ≤ 10) :
    Calls Tryz.prog 104 #[.int .u8 c, .int .i64 i] w fun e w' => e = .returned (.bool (!Pk.bad i c)) ∧ w = w' := by
  have fin : ∀ {a b : Bool}, (a = true ↔ b = false) → Ending.returned (.bool a) = .returned (.bool (!b)) := fun h => ret_bool (by cases ‹Bool› <;> cases ‹Bool› <;> simp_all)
  by_cases hi : i = 0
  · subst hi
    go_enter Tryz.func104, Tryz.ntmps104
    go_wp2
    go_ret
    refine ⟨fin ?_, rfl⟩
    unfold Pk.bad; simp
  · have t : decide ((0 : Int) < (i : Int)) = true := by simp; omega
    have t' : decide (0 < i) = true := by simp; omega
    by_cases hc : c = 0
    · subst hc
      go_enter Tryz.func104, Tryz.ntmps104
      go_wp2
      go_ret
      refine ⟨fin ?_, rfl⟩
      unfold Pk.bad; simp; omega
    · have z : (c == 0) = false := beq_eq_false_iff_ne.2 hc
      by_cases h10 : i = 10
      · subst h10
        go_enter Tryz.func104, Tryz.ntmps104
        go_wp2
        go_ret
        refine ⟨fin ?_, rfl⟩
        unfold Pk.bad; simp; omega
      · have z' : ((i : Int) == 10) = false := beq_eq_false_iff_ne.2 (by omega)
        go_enter Tryz.func104, Tryz.ntmps104
        go_wp2
        go_ret
        refine ⟨fin ?_, rfl⟩
        unfold Pk.bad; simp; omega
end Go.Proofs.YtblikgbcakgdnaaGreat
/-
  Words for memory: a box of numbers, and how it stays over steps that turn other blocks alone. No conditions but those that each law names.
-/
namespace Go.Proofs.YtblikgbcakgdnaaGreat
open Go.ChangeShapes Go.WideShapes Go.ChangeAt Go.RowKit

/-- A block that is known whole. -/
def Bx (w : World) (g : Nat) (v : Value) (f : Int) : Prop := w.heap[g]? = some (.cells #[v, .int .i64 f] 109 (0, 0))
section
variable {w w' : World} {g : Nat} {v : Value} {f : Int}
theorem Bx.lt (h : Bx w g v f) : g < w.heap.size := (Array.getElem?_eq_some_iff.1 h).1
theorem Bx.kept (h : Bx w g v f) (hk : w'.heap[g]? = w.heap[g]?) : Bx w' g v f := hk.trans h
theorem Bx.below {B : Nat} (h : Bx w g v f) (hb : Below B w w') (hg : g < B) : Bx w' g v f := h.kept (hb.block g hg)
theorem Bx.boxed (h : Bx w g v f) : ∃ w0, w = boxed w0 g #[v, .int .i64 f] 109 ∧ g < w0.heap.size := ⟨w, boxed_self h, h.lt⟩
theorem Bx.mk {w0 : World} (h : g < w0.heap.size) : Bx (Go.Proofs.YtblikgbcakgdnaaGreat.boxed w0 g #[v, .int .i64 f] 109) g v f := boxed_block h
end
/-- A box out of which is taken: what is left of it, and its fault. -/
def GB (w : World) (g : Nat) (l : List Int) (f : Int) : Prop :=
  ∃ A c, Bx w g (.slice A l.length c) f ∧ Rd w .u8 g A l ∧ l.length ≤ c ∧ c ≤ maxLen ∧ ∀ x ∈ l, 0 ≤ x ∧ x < 256
/-- A box into which is put: a row of its own, from R on. -/
def PB (w : World) (R g : Nat) (l : List Int) : Prop :=
  ∃ v, Bx w g v 0 ∧ w.ownsRow R 5 1 v l.length (cl .u8 l) ∧ R ≤ g ∧ ∀ x ∈ l, 0 ≤ x ∧ x < 256

theorem GB.kept {w w' : World} {g : Nat} {l : List Int} {f : Int} (h : GB w g l f) (hk : ∀ i, i ≤ g → w'.heap[i]? = w.heap[i]?) : GB w' g l f := by
  obtain ⟨A, c, hb, hr, h1, h2, h3⟩ := h
  exact ⟨A, c, hb.kept (hk g (Nat.le_refl _)), hr.kept fun i hi => hk i (by omega), h1, h2, h3⟩
theorem GB.below {w w' : World} {g B : Nat} {l : List Int} {f : Int} (h : GB w g l f) (hb : Below B w w') (hg : g < B) : GB w' g l f := h.kept fun i hi => hb.block i (by omega)
theorem GB.lt {w : World} {g : Nat} {l : List Int} {f : Int} (h : GB w g l f) : g < w.heap.size := by
  obtain ⟨_, _, hb, _⟩ := h
  exact hb.lt
theorem PB.lt {w : World} {R g : Nat} {l : List Int} (h : PB w R g l) : R ≤ g ∧ g < w.heap.size := by
  obtain ⟨_, hb, _, hR, _⟩ := h
  exact ⟨hR, hb.lt⟩
theorem PB.below {w w' : World} {R g : Nat} {l : List Int} (h : PB w R g l) (hb : Below w.heap.size w w') : PB w' R g l := by
  obtain ⟨v, hx, ho, hR, h3⟩ := h
  exact ⟨v, hx.below hb hx.lt, own_kept ho fun i hi => hb.block i (ho.lt i hi).2, hR, h3⟩
end Go.Proofs.YtblikgbcakgdnaaGreat
/-
  Contracts of the two functions that tell the number with which bytes begin: the program's and the document's. No conditions but that the bytes are bytes.
-/
namespace Go.Proofs.YtblikgbcakgdnaaGreat
open Go.ChangeShapes Go.WideShapes Go.ChangeAt Go.RowKit

namespace Pk
theorem pow_six (k : Nat) : (2 : Nat) ^ (k * 6) = 64 ^ k := by rw [Nat.mul_comm, Nat.pow_mul]
theorem or_take {k u : Nat} {x : Int} (hk : k ≤ 10) (c0 : 0 ≤ x) (hb : bad k x = false) (hu : u < 64 ^ k) : bits .or .u64 (u : Int) (IntKind.u64.wrap (x % 64 * 2 ^ (k * 6))) = (take1 k u x : Int) := by
  have hf := take1_fits hk c0 hb hu
  have hp := pow_le10 hk
  have e : x % 64 * 2 ^ (k * 6) = (((x % 64).toNat * 64 ^ k : Nat) : Int) := by
    rw [← pow_six, Int.natCast_mul, Int.natCast_pow, Int.toNat_of_nonneg (by omega)]; rfl
  rw [e, IntKind.wrap_u64, Int.emod_eq_of_lt (by omega) (by unfold take1 at hf; omega), u64_or_nat _ _ (by omega) (by unfold take1 at hf; omega)]
  unfold take1
  rw [← pow_six] at hu ⊢
  rw [Nat.or_comm, Nat.mul_comm, ← Nat.two_pow_add_eq_or_of_lt hu, Nat.add_comm]
end Pk

/-- What dec tells, as three results. -/
def decV (l : List Int) : Value := .tuple #[.int .i64 (Pk.dec 0 0 l).1, .int .i64 ((Pk.dec 0 0 l).2.1 : Nat), .int .i64 (Pk.dec 0 0 l).2.2]
theorem decV_eq {l : List Int} {n e : Int} {k : Nat} (h : Pk.dec 0 0 l = (n, k, e)) : decV l = .tuple #[.int .i64 n, .int .i64 (k : Int), .int .i64 e] := by unfold decV; rw [h]

set_option maxHeartbeats 1000000 in
theorem first_any (A : Option Addr) (B c : Nat) (l : List Int) (w : World) (hr : Rd w .u8 B A l) (hb : ∀ x ∈ l, 0 ≤ x ∧ x < 256) :
    Calls Tryz.prog 77 #[.slice A l.length c] w fun e w' => e = .returned (decV l) ∧ w = w' := by
  have HR := Lib.hid hr
  have HB := Lib.hid hb
  clear hr hb
  go_enter Tryz.func77, Tryz.ntmps77
  go_wp2
  go_loop [5, 10] (fun t i => ∃ (k u : Nat), k ≤ l.length ∧ k ≤ 10 ∧ u < 64 ^ k ∧ t = .int .u64 u ∧ i = .int .i64 k ∧ Hid (Pk.dec k u (l.drop k) = Pk.dec 0 0 l)) (fun _ i => l.length - (intOf i).toNat)
  case atStart => exact ⟨0, 0, by omega, by omega, by simp, rfl, rfl, rfl⟩
  case round =>
    obtain ⟨k, u, hk, hk10, hu, rfl, rfl, HD⟩ := hrel
    by_cases hlt : k < l.length
    · obtain ⟨a, rfl, _, hc⟩ := HR.out.at_ hlt
      obtain ⟨c0, c1⟩ := HB.out _ (List.getElem_mem hlt)
      have HL := Lib.hid (List.drop_eq_getElem_cons hlt)
      generalize l[k] = x at *
      cases hbad : Pk.bad k x
      · by_cases g : x < 64
        · go_wp2_with (go_at_call 104; refine (mayStand_any _ _ _ (by omega) (by omega) (by omega)).mono ?_; rintro e w' ⟨rfl, rfl⟩)
          rw [Pk.or_take hk10 c0 hbad hu]
          refine (signed_any _ _ (Pk.take1_fits hk10 c0 hbad hu)).mono ?_
          rintro e w' ⟨rfl, rfl⟩
          have HF := Lib.hid (HD.out.symm.trans ((congrArg (Pk.dec k u) HL.out).trans (Pk.dec_last _ hbad g)))
          go_wp2
          go_ret3
          exact ⟨by rw [decV_eq HF.out]; rfl, rfl⟩
        · have HF := Lib.hid (((congrArg (Pk.dec k u) HL.out).trans (Pk.dec_next _ hbad g)).symm.trans HD.out)
          have hn := Pk.take1_lt (c := x) hu
          have h10 : k + 1 ≤ 10 := by have := Pk.of_good hbad; omega
          go_wp2_with (go_at_call 104; refine (mayStand_any _ _ _ (by omega) (by omega) (by omega)).mono ?_; rintro e w' ⟨rfl, rfl⟩)
          rw [Pk.or_take hk10 c0 hbad hu]
          go_round
          case rel => exact ⟨k + 1, _, by omega, h10, hn, rfl, by go_num, HF⟩
          case measure => simp [intOf]; omega
      · have HF := Lib.hid (HD.out.symm.trans ((congrArg (Pk.dec k u) HL.out).trans (Pk.dec_bad _ hbad)))
        go_wp2_with (go_at_call 104; refine (mayStand_any _ _ _ (by omega) (by omega) (by omega)).mono ?_; rintro e w' ⟨rfl, rfl⟩)
        go_ret3
        exact ⟨by rw [decV_eq HF.out]; rfl, rfl⟩
    · obtain rfl : k = l.length := by omega
      have HF : Hid (Pk.dec 0 0 l = (0, 0, 5)) := by rw [← HD.out, List.drop_length]; rfl
      go_wp2
      go_ret3
      exact ⟨by rw [decV_eq HF.out]; rfl, rfl⟩

namespace Pk
end Pk

end Go.Proofs.YtblikgbcakgdnaaGreat
/-
  Slices that a call makes and hands back; a copy of bytes. No conditions but the sizes.
-/
namespace Go.Proofs.YtblikgbcakgdnaaGreat
set_option maxRecDepth 20000
open Go.ChangeShapes Go.WideShapes Go.ChangeAt Go.RowKit

/-- A slice of the call's own is returned that reads as l; all else is as it was. -/
def Owned (w : World) (l : List Int) (e : Ending) (w' : World) : Prop :=
  ∃ A c, e = .returned (.slice A l.length c) ∧ w'.ownsRow w.heap.size 5 1 (.slice A l.length c) l.length (cl .u8 l) ∧ Below w.heap.size w w' ∧ l.length ≤ c ∧ c ≤ maxLen
theorem Owned.mk {w w' : World} {l : List Int} {v : Value} (h : w'.ownsRow w.heap.size 5 1 v l.length (cl .u8 l)) (hb : Below w.heap.size w w') : Owned w l (.returned v) w' := by
  obtain ⟨A, c, rfl, h1, h2⟩ := own_form h
  exact ⟨A, c, rfl, h, hb, h1, h2⟩

set_option maxHeartbeats 400000 in
theorem clone_any (A : Option Addr) (B c : Nat) (l : List Int) (w : World) (hr : Rd w .u8 B A l) (hB : B ≤ w.heap.size) (hl : l.length ≤ 90000000) :
    Calls Tryz.prog 48 #[.slice A l.length c] w fun e w' => Owned w l e w' := by
  rcases A with _ | a
  · have hn : l = [] := by
      rcases l with _ | ⟨x, r⟩
      · rfl
      · obtain ⟨a, e, _⟩ := hr (by simp); cases e
    subst hn
    have q := fun w => Lib.run_eql_slice_nil (P := Tryz.prog) w 63 5 none 0 c 0 0 Tryz.underlying63
    go_enter Tryz.func48, Tryz.ntmps48
    go_wp2
    go_ret
    exact Owned.mk (World.ownsRow_nil _ _ _ _) (Below.refl _ _)
  · have q := fun w => Lib.run_eql_slice_nil (P := Tryz.prog) w 63 5 (some a) l.length c 0 0 Tryz.underlying63
    have HR := Lib.hid hr
    clear hr
    go_enter Tryz.func48, Tryz.ntmps48
    have hown : (w.alloc (.cells #[] 5)).ownsRow w.heap.size 5 1 (.slice (some ⟨w.heap.size, 0, none⟩) 0 0) ([] : List Int).length (cl .u8 []) := World.ownsRow_made w #[] 0 (Nat.le_refl _) (by unfold maxLen; omega) rfl
    have HO := Lib.hid hown
    clear hown
    go_wp2_with (at_builtin; refine wpList_append_rd rfl _ _ rfl rfl w.heap.size _ [] l B (some a) c rfl rfl HO.out (HR.out.below ((Below.refl _ _).alloc hB _)) (by simp; omega) (by simp) ?_; intro v' w1 hg)
    go_ret
    exact Owned.mk (by simpa using hg.own) (((Below.refl _ _).alloc (Nat.le_refl _) _).trans (hg.below (l0 := []) HO.out (by simp)))

/-- Returned is a slice that was grown by l. -/
def Grown1 (w : World) (base : Nat) (v : Value) (l : List Int) (e : Ending) (w' : World) : Prop := ∃ v', e = .returned v' ∧ Grew w base v l v' w'

theorem Grew.after {w w1 w2 : World} {base : Nat} {v v1 : Value} {l : List Int} (h : Grew w base v l v1 w1) (hb : Below w1.heap.size w1 w2) : Grew w base v l v1 w2 :=
  ⟨own_kept h.own fun i hi => hb.block i (h.own.lt i hi).2, ⟨hb.os.trans h.grown.os, hb.tape.trans h.grown.tape, hb.output.trans h.grown.output, Nat.le_trans h.grown.size hb.size,
    fun i hi hne => (hb.block i (Nat.lt_of_lt_of_le hi h.grown.size)).trans (h.grown.block i hi hne)⟩, h.at_⟩
theorem Owned.open_ {w w' : World} {l : List Int} {e : Ending} (h : Owned w l e w') :
    ∃ A n c, e = .returned (.slice A n c) ∧ Hid (l.length = n) ∧ Hid (w'.ownsRow w.heap.size 5 1 (.slice A n c) n (cl .u8 l)) ∧ Hid (Below w.heap.size w w') ∧ Hid (Rd w' .u8 w'.heap.size A l) ∧ n ≤ c ∧ c ≤ maxLen := by
  obtain ⟨A, c, rfl, ho, hb, h1, h2⟩ := h
  exact ⟨A, l.length, c, rfl, rfl, ho, hb, Rd.own ho, h1, h2⟩
theorem Grew.open_ {w w' : World} {base : Nat} {v v' : Value} {l : List Int} (h : Grew w base v l v' w') (n : Nat) (hn : l.length = n) : ∃ A c, v' = .slice A n c ∧ n ≤ c ∧ c ≤ maxLen := by
  subst hn; exact own_form h.own
/-- A new slice, by the name of its length. -/
theorem Owned.open_n {w w' : World} {l : List Int} {e : Ending} (h : Owned w l e w') (n : Nat) (hn : l.length = n) :
    ∃ A c, e = .returned (.slice A n c) ∧ Hid (w'.ownsRow w.heap.size 5 1 (.slice A n c) n (cl .u8 l)) ∧ Hid (Below w.heap.size w w') ∧ Hid (Rd w' .u8 w'.heap.size A l) ∧ n ≤ c ∧ c ≤ maxLen := by
  subst hn
  obtain ⟨A, c, rfl, ho, hb, h1, h2⟩ := h
  exact ⟨A, c, rfl, ho, hb, Rd.own ho, h1, h2⟩
/-- A row of the call's own that isn't empty: its block. -/
theorem own_some {w : World} {base : Nat} {e : TypeId} {k : IntKind} {v : Value} {l : List Int} (h : w.ownsRow base e 1 v l.length (cl k l)) (n : Nat) (hn : l.length = n) (h0 : 0 < n) :
    ∃ g cap cur, v = .slice (some ⟨g, 0, none⟩) n cap ∧ base ≤ g ∧ w.heap[g]? = some (.cells cur e (0, 0)) ∧ n ≤ cap ∧ cap ≤ maxLen ∧ cur.size = cap ∧ cur.toList.take n = cl k l := by
  subst hn
  rcases h.2 with ⟨_, h1⟩ | ⟨g, cap, cur, rfl, hb, hg, h1, h2, h3, h4⟩
  · omega
  · exact ⟨g, cap, cur, rfl, hb, hg, h1, h2, by rw [h3, Nat.mul_one], by rw [Nat.mul_one] at h4; exact h4⟩

theorem cur_at {cur : Array Value} {N : Nat} {L : List Int} (h : cur.toList.take N = cl .u8 L) {j : Nat} {u : Int} (hu : L[j]? = some u) : cur[j]? = some (.int .u8 u) := by
  have e : (cl .u8 L)[j]? = some (.int .u8 u) := by unfold cl; rw [List.getElem?_map, hu]; rfl
  rw [← h, List.getElem?_take] at e
  split at e
  · rwa [Array.getElem?_toList] at e
  · cases e
/-- One number of a known block is another one. -/
theorem rd_set {w0 : World} {g k N : Nat} {cur : Array Value} {t : TypeId} {v : Int} {L : List Int} (hg : g < w0.heap.size) (h : cur.toList.take N = cl .u8 L) :
    Rd (boxed w0 g (cur.setIfInBounds k (.int .u8 v)) t) .u8 (boxed w0 g (cur.setIfInBounds k (.int .u8 v)) t).heap.size (some ⟨g, 0, none⟩) (L.set k v) := fun _ => by
  refine ⟨_, rfl, by rw [boxed_size]; exact hg, fun j u hu => ?_⟩
  rw [ad_head, boxed_cell hg, Array.getElem?_setIfInBounds]
  by_cases e : k = j
  · subst e
    have hlt : k < L.length := by
      rcases Nat.lt_or_ge k L.length with h' | h'
      · exact h'
      · rw [List.getElem?_eq_none (by rw [List.length_set]; exact h')] at hu; cases hu
    rw [List.getElem?_set_self hlt] at hu
    injection hu with hu
    have hc := cur_at h (List.getElem?_eq_getElem hlt)
    rw [if_pos rfl, if_pos (Array.getElem?_eq_some_iff.1 hc).1, hu]
  · rw [List.getElem?_set_ne e] at hu
    rw [if_neg e]
    exact cur_at h hu
end Go.Proofs.YtblikgbcakgdnaaGreat
/-
  Contracts of the functions that make bytes: a copy, a number behind some, and the document's own. No conditions but the sizes.
-/
namespace Go.Proofs.YtblikgbcakgdnaaGreat
open Go.ChangeShapes Go.WideShapes Go.ChangeAt Go.RowKit

theorem enc_last {acc : List Int} {u : Nat} {r : List Int} (h : acc ++ Pk.enc u = r) (hu : u < 64) : acc ++ [(u : Int)] = r := by rw [← h, Pk.enc_less hu]
theorem enc_go {acc : List Int} {u : Nat} {r : List Int} (h : acc ++ Pk.enc u = r) (hu : ¬ u < 64) : acc ++ [(u : Int) % 64 + 64] ++ Pk.enc (u / 64) = r := by rw [← h, Pk.enc_more hu, List.append_assoc]; rfl

set_option maxHeartbeats 1000000 in
theorem appendNumber_any (v : Value) (base : Nat) (l : List Int) (n : Int) (w : World) (ho : w.ownsRow base 5 1 v l.length (cl .u8 l)) (hB : base ≤ w.heap.size) (hl : l.length ≤ 90000000) (h0 : -9223372036854775808 ≤ n) (h1 : n ≤ 9223372036854775807) :
    Calls Tryz.prog 73 #[v, .int .i64 n] w (Grown1 w base v (l ++ Pk.enc (Pk.zig n))) := by
  have hz := Pk.zig_lt n h0 h1
  have HO := Lib.hid ho
  have H11 := Lib.hid (Pk.enc_eleven hz)
  clear ho
  go_enter Tryz.func73, Tryz.ntmps73
  go_wp2_with (go_at_call 103; refine (unsigned_any _ _ h0 h1).mono ?_; rintro e w' ⟨rfl, rfl⟩)
  generalize Pk.zig n = z at *
  go_loopw [0, 5] (fun p t wr => ∃ (acc : List Int) (u : Nat), t = .int .u64 u ∧ u < 18446744073709551616 ∧ Grew w base v (l ++ acc) p wr ∧ Hid (acc ++ Pk.enc u = Pk.enc z)) (fun _ t _ => (intOf t).toNat)
  case atStart => exact ⟨[], z, rfl, hz, by rw [List.append_nil]; exact Grew.refl HO.out, rfl⟩
  case round =>
    obtain ⟨acc, u, rfl, hu, hg, HE⟩ := hrel
    have hacc : acc.length ≤ 11 := by have := congrArg List.length HE.out; rw [List.length_append] at this; have := H11.out; omega
    have HG := Lib.hid hg
    clear hg
    have hB2 : base ≤ wr.heap.size + 1 := by have := HG.out.grown.size; omega
    have hsz : (l ++ acc).length + 1 ≤ 100000000 := by rw [List.length_append]; omega
    by_cases h : u < 64
    · have HX := Lib.hid (enc_last HE.out h)
      go_wp2_with (at_builtin; refine wpList_append_rd rfl _ _ rfl rfl base _ (l ++ acc) [(u : Int)] _ _ _ rfl rfl (HG.out.own.alloc _) (rd_one wr _ _) hsz (by rw [World.size_alloc]; exact hB2) ?_; intro v' w1 hg)
      go_ret
      exact ⟨v', rfl, by have := HG.out.trans hg.of_alloc; rwa [List.append_assoc, HX.out] at this⟩
    · have HX := Lib.hid (enc_go HE.out h)
      go_wp2_with (at_builtin; refine wpList_append_rd rfl _ _ rfl rfl base _ (l ++ acc) [(u : Int) % 64 + 64] _ _ _ rfl rfl (HG.out.own.alloc _) (rd_one wr _ _) hsz (by rw [World.size_alloc]; exact hB2) ?_; intro v' w1 hg)
      go_roundw
      case rel => exact ⟨acc ++ [(u : Int) % 64 + 64], u / 64, by go_num, by omega, by have := HG.out.trans hg.of_alloc; rwa [List.append_assoc] at this, HX⟩
      case measure => simp [intOf]; omega

/-- Numbers that 64 bits with a sign hold. -/
def I64 (ns : List Int) : Prop := ∀ n ∈ ns, -9223372036854775808 ≤ n ∧ n ≤ 9223372036854775807
theorem encs_snoc {ns : List Int} {k : Nat} (h : k < ns.length) : Pk.encs (ns.take k) ++ Pk.enc (Pk.zig ns[k]) = Pk.encs (ns.take (k + 1)) := by
  rw [List.take_succ_eq_append_getElem h, Pk.encs_append, Pk.encs_one]
theorem I64.take {ns : List Int} (h : I64 ns) (k : Nat) : I64 (ns.take k) := fun n hn => h n (List.mem_of_mem_take hn)
theorem encs_short {ns : List Int} (h : I64 ns) (k : Nat) (hl : ns.length ≤ 1000) : (Pk.encs (ns.take k)).length ≤ 11000 := by
  have := Pk.encs_len _ (h.take k)
  rw [List.length_take] at this
  omega

end Go.Proofs.YtblikgbcakgdnaaGreat
/-
  Contracts of a box's methods that tell and take: its fault, what is left, the next number, truth or bytes. No conditions but that the box is one, or nil.
-/
namespace Go.Proofs.YtblikgbcakgdnaaGreat
open Go.ChangeShapes Go.WideShapes Go.ChangeAt Go.RowKit

theorem fault_box (w : World) (g : Nat) (v : Value) (f : Int) (h : Bx w g v f) : Calls Tryz.prog 76 #[.pointer (some ⟨g, 0, none⟩)] w fun e w' => e = .returned (.int .i64 f) ∧ w = w' := by
  obtain ⟨w0, rfl, hg⟩ := h.boxed
  clear h
  go_enter Tryz.func76, Tryz.ntmps76
  go_wp2
  go_ret
  exact ⟨rfl, rfl⟩
theorem left_box (w : World) (g : Nat) (A : Option Addr) (n c : Nat) (f : Int) (h : Bx w g (.slice A n c) f) : Calls Tryz.prog 20 #[.pointer (some ⟨g, 0, none⟩)] w fun e w' => e = .returned (.int .i64 n) ∧ w = w' := by
  obtain ⟨w0, rfl, hg⟩ := h.boxed
  clear h
  go_enter Tryz.func20, Tryz.ntmps20
  go_wp2
  go_ret
  exact ⟨rfl, rfl⟩
theorem end_fault (w : World) (g : Nat) (v : Value) (f : Int) (h : Bx w g v f) (hf : f ≠ 0) : Calls Tryz.prog 47 #[.pointer (some ⟨g, 0, none⟩)] w fun e w' => e = .returned (.int .i64 f) ∧ w = w' := by
  have z : (f != 0) = true := by simpa using hf
  have H := Lib.hid h
  clear h hf
  go_enter Tryz.func47, Tryz.ntmps47
  go_wp2_with (go_at_call 76; refine (fault_box _ _ _ _ H.out).mono ?_; rintro e w' ⟨rfl, rfl⟩)
  go_ret
  exact ⟨rfl, rfl⟩
theorem end_ok (w : World) (g : Nat) (A : Option Addr) (n c : Nat) (h : Bx w g (.slice A n c) 0) : Calls Tryz.prog 47 #[.pointer (some ⟨g, 0, none⟩)] w fun e w' => e = .returned (.int .i64 (if n = 0 then 0 else 4)) ∧ w = w' := by
  have H := Lib.hid h
  clear h
  by_cases hn : n = 0
  · subst hn
    go_enter Tryz.func47, Tryz.ntmps47
    go_wp2_with (first | (go_at_call 76; refine (fault_box _ _ _ _ H.out).mono ?_; rintro e w' ⟨rfl, rfl⟩) | (go_at_call 20; refine (left_box _ _ _ _ _ _ H.out).mono ?_; rintro e w' ⟨rfl, rfl⟩))
    go_ret
    exact ⟨rfl, rfl⟩
  · have t : decide ((0 : Int) < n) = true := by simp; omega
    go_enter Tryz.func47, Tryz.ntmps47
    go_wp2_with (first | (go_at_call 76; refine (fault_box _ _ _ _ H.out).mono ?_; rintro e w' ⟨rfl, rfl⟩) | (go_at_call 20; refine (left_box _ _ _ _ _ _ H.out).mono ?_; rintro e w' ⟨rfl, rfl⟩))
    go_ret
    exact ⟨rfl, rfl⟩

theorem get_fault (w : World) (g : Nat) (v : Value) (f lo hi : Int) (h : Bx w g v f) (hf : f ≠ 0) : Calls Tryz.prog 44 #[.pointer (some ⟨g, 0, none⟩), .int .i64 lo, .int .i64 hi] w fun e w' => e = .returned (.int .i64 0) ∧ w = w' := by
  have z : (f != 0) = true := by simpa using hf
  have H := Lib.hid h
  clear h hf
  go_enter Tryz.func44, Tryz.ntmps44
  go_wp2_with (go_at_call 76; refine (fault_box _ _ _ _ H.out).mono ?_; rintro e w' ⟨rfl, rfl⟩)
  go_ret
  exact ⟨rfl, rfl⟩

/-- What is told, and the box behind it. -/
def Got (w : World) (g : Nat) (n : Int) (l : List Int) (f : Int) (e : Ending) (w' : World) : Prop := e = .returned (.int .i64 n) ∧ w.grownBy w' (some g) ∧ GB w' g l f

set_option maxHeartbeats 1000000 in
theorem get_bad (w : World) (g : Nat) (l : List Int) (lo hi n e : Int) (k : Nat) (h : GB w g l 0) (hd : Pk.dec 0 0 l = (n, k, e)) (he : e ≠ 0) :
    Calls Tryz.prog 44 #[.pointer (some ⟨g, 0, none⟩), .int .i64 lo, .int .i64 hi] w (Got w g 0 l e) := by
  obtain ⟨A, c, hx, hr, h1, h2, h3⟩ := h
  obtain ⟨w0, rfl, hg⟩ := hx.boxed
  have z : (e != 0) = true := by simpa using he
  have z' : (e == 0) = false := by simpa using he
  have HV := Lib.hid (decV_eq hd)
  have H := Lib.hid hx
  have HR := Lib.hid hr
  have H3 := Lib.hid h3
  clear hx hr hd he h3
  go_enter Tryz.func44, Tryz.ntmps44
  go_wp2_with (first | (go_at_call 76; refine (fault_box _ _ _ _ H.out).mono ?_; rintro e w' ⟨rfl, rfl⟩) | (go_at_call 77; refine (first_any _ _ _ _ _ HR.out H3.out).mono ?_; rintro e w' ⟨rfl, rfl⟩; rw [HV.out]))
  go_ret
  refine ⟨rfl, grown_boxed, A, c, Bx.mk hg, HR.out.kept fun i hi => ?_, h1, h2, H3.out⟩
  rw [boxed_block_other (by omega), boxed_block_other (by omega)]

set_option maxHeartbeats 1000000 in
theorem get_out (w : World) (g : Nat) (l : List Int) (lo hi n : Int) (k : Nat) (h : GB w g l 0) (hd : Pk.dec 0 0 l = (n, k, 0)) (he : n < lo ∨ hi < n) :
    Calls Tryz.prog 44 #[.pointer (some ⟨g, 0, none⟩), .int .i64 lo, .int .i64 hi] w (Got w g 0 l 1) := by
  obtain ⟨A, c, hx, hr, h1, h2, h3⟩ := h
  obtain ⟨w0, rfl, hg⟩ := hx.boxed
  have HV := Lib.hid (decV_eq hd)
  have H := Lib.hid hx
  have HR := Lib.hid hr
  have H3 := Lib.hid h3
  clear hx hr hd h3
  by_cases t : n < lo
  all_goals
    first | (have t1 : decide (n < lo) = true := by simpa using t) | (have t1 : decide (n < lo) = false := by simpa using t)
    first | (have t2 : decide (hi < n) = true := by simp; omega) | skip
    clear he t
    go_enter Tryz.func44, Tryz.ntmps44
    go_wp2_with (first | (go_at_call 76; refine (fault_box _ _ _ _ H.out).mono ?_; rintro e w' ⟨rfl, rfl⟩) | (go_at_call 77; refine (first_any _ _ _ _ _ HR.out H3.out).mono ?_; rintro e w' ⟨rfl, rfl⟩; rw [HV.out]))
    go_ret
    refine ⟨rfl, grown_boxed, A, c, Bx.mk hg, HR.out.kept fun i hi => ?_, h1, h2, H3.out⟩
    rw [boxed_block_other (by omega), boxed_block_other (by omega)]

set_option maxHeartbeats 1000000 in
theorem get_ok (w : World) (g : Nat) (l : List Int) (lo hi n : Int) (k : Nat) (h : GB w g l 0) (hd : Pk.dec 0 0 l = (n, k, 0)) (h0 : lo ≤ n) (h4 : n ≤ hi) :
    Calls Tryz.prog 44 #[.pointer (some ⟨g, 0, none⟩), .int .i64 lo, .int .i64 hi] w (Got w g n (l.drop k) 0) := by
  obtain ⟨A, c, hx, hr, h1, h2, h3⟩ := h
  obtain ⟨w0, rfl, hg⟩ := hx.boxed
  have hk := (Pk.dec_le l 0 0 (by omega) (fun x hx => (h3 x hx).1) (by simp))
  rw [hd] at hk
  simp at hk
  obtain ⟨k1, k2, _, _⟩ := hk
  unfold maxLen at h2
  have HV := Lib.hid (decV_eq hd)
  have H := Lib.hid hx
  have HR := Lib.hid hr
  have H3 := Lib.hid h3
  have t1 : decide (n < lo) = false := by simpa using h0
  have t2 : decide (hi < n) = false := by simpa using h4
  clear hx hr hd h3
  obtain ⟨a, rfl, -, -⟩ := HR.out.at_ (show 0 < l.length by omega)
  by_cases hc : c = k
  · obtain rfl : c = l.length := by omega
    obtain rfl : k = l.length := by omega
    clear hc k1 h1
    have HL : Hid (l.drop l.length = []) := List.drop_length
    go_enter Tryz.func44, Tryz.ntmps44
    go_wp2_with (first | (go_at_call 76; refine (fault_box _ _ _ _ H.out).mono ?_; rintro e w' ⟨rfl, rfl⟩) | (go_at_call 77; refine (first_any _ _ _ _ _ HR.out H3.out).mono ?_; rintro e w' ⟨rfl, rfl⟩; rw [HV.out]))
    go_ret
    refine ⟨rfl, grown_boxed, some a, 0, ?_, ?_, ?_, ?_, ?_⟩
    · rw [HL.out]; exact boxed_block hg
    · rw [HL.out]; exact Rd.none
    · rw [HL.out]; simp
    · unfold maxLen; omega
    · rw [HL.out]; simp
  · go_enter Tryz.func44, Tryz.ntmps44
    go_wp2_with (first | (go_at_call 76; refine (fault_box _ _ _ _ H.out).mono ?_; rintro e w' ⟨rfl, rfl⟩) | (go_at_call 77; refine (first_any _ _ _ _ _ HR.out H3.out).mono ?_; rintro e w' ⟨rfl, rfl⟩; rw [HV.out]))
    go_ret
    refine ⟨rfl, grown_boxed, some (a.add k), c - k, ?_, ?_, ?_, ?_, fun x hx => H3.out x (List.mem_of_mem_drop hx)⟩
    · rw [List.length_drop]; exact boxed_block hg
    · exact (HR.out.drop k).kept fun i hi => by rw [boxed_block_other (by omega), boxed_block_other (by omega)]
    · rw [List.length_drop]; omega
    · unfold maxLen; omega

theorem own_grown {w w' : World} {g base : Nat} {e : TypeId} {size : Nat} {v : Value} {n : Nat} {xs : List Value} (h : w.ownsRow base e size v n xs) (hg : w.grownBy w' (some g)) (hB : g < base) : w'.ownsRow base e size v n xs :=
  own_kept h fun i hi => hg.block i (h.lt i hi).2 fun e => by injection e with e; have := (h.lt i hi).1; omega
end Go.Proofs.YtblikgbcakgdnaaGreat
