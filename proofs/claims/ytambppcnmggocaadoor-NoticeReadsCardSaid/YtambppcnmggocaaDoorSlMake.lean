/-
  Contracts of what makes seals: the program's and the document's. Conditions: the table holds what the program's text lays; the sizes.
-/
import Derived.Test.YtambppcnmggocaaDoorSlSum
namespace Go.Proofs.YtambppcnmggocaaDoor
set_option maxRecDepth 20000
open Go.ChangeShapes Go.WideShapes Go.ChangeAt Go.RowKit

namespace Sl
/-- What stands ahead of the sum, and the whole seal with the bytes under it. -/
def head (a b n : Nat) : List Int := four n ++ four a ++ four b
def closed (a b : Nat) (p : List Int) : List Int := head a b p.length ++ four (sum (head a b p.length ++ p)) ++ p
theorem head_len (a b n : Nat) : (head a b n).length = 12 := rfl
theorem closed_len (a b : Nat) (p : List Int) : (closed a b p).length = 16 + p.length := by unfold closed; rw [List.length_append, List.length_append, head_len, four_len]
end Sl
theorem four_ok (n : Nat) : BytesOk (Sl.four n) := Sl.four_range n
theorem head_ok (a b n : Nat) : BytesOk (Sl.head a b n) := ((four_ok n).append (four_ok a)).append (four_ok b)
theorem closed_ok {a b : Nat} {p : List Int} (h : BytesOk p) : BytesOk (Sl.closed a b p) := ((head_ok a b _).append (four_ok _)).append h
theorem four_cells {n : Nat} {a b c d : Int} (ha : a = (n / 16777216 % 256 : Nat)) (hb : b = (n / 65536 % 256 : Nat)) (hc : c = (n / 256 % 256 : Nat)) (hd : d = (n % 256 : Nat)) :
    (#[Value.int .u8 a, .int .u8 b, .int .u8 c, .int .u8 d] : Array Value).toList = cl .u8 (Sl.four n) := by subst ha hb hc hd; rfl

set_option maxHeartbeats 1000000 in
theorem appendWord_any (v : Value) (base : Nat) (l : List Int) (n : Nat) (w : World) (ho : w.ownsRow base 5 1 v l.length (cl .u8 l)) (hB : base ≤ w.heap.size) (hl : l.length ≤ 900000) (hn : n < 4294967296) :
    Calls Tryd.prog 30 #[v, .int .u32 n] w (Grown1 w base v (l ++ Sl.four n)) := by
  have HO := Lib.hid ho
  clear ho
  go_enter Tryd.func30, Tryd.ntmps30
  go_wp2_with (at_builtin; refine wpList_append_rd rfl _ _ rfl rfl base _ l (Sl.four n) _ _ _ rfl rfl (HO.out.alloc _) (rd_lit w _ .u8 (Sl.four n) _ _ (four_cells (by omega) (by omega) (by omega) (by omega))) (by rw [Sl.four_len]; omega) (by rw [World.size_alloc]; omega) ?_; intro v' w1 hg)
  go_ret
  exact ⟨v', rfl, hg.of_alloc⟩

set_option maxHeartbeats 400000 in
theorem size_any (n : Nat) (w : World) (hn : n ≤ 2000000) :
    Calls Tryd.prog 29 #[.int .i64 n] w fun e w' => e = .returned (.int .i64 (16 + n)) ∧ w = w' := by
  have hm : max (n : Int) 0 = n := by omega
  go_enter Tryd.func29, Tryd.ntmps29
  go_wp2
  go_ret
  exact ⟨rfl, rfl⟩

theorem run_make_room (n : Nat) (w : World) (hn : n ≤ 2000000) :
    (Instr.makeSlice 25 (.int .i64 0) (.int .i64 (16 + (n : Int)))).run Tryd.prog w = .ok (.slice (some ⟨w.heap.size, 0, none⟩) 0 (16 + n)) (w.alloc (.cells (madeCells #[.int .u8 0] (16 + n)) 5)) := by
  obtain ⟨i, hi, hz, hsz, hby⟩ := info_parts u8info
  have := run_make w 25 5 i (.int .u8 0) Tryd.underlying25 hi hz .i64 .i64 0 (16 + (n : Int)) (by omega) (by omega) (by rw [hby]; omega) (by omega)
  rw [hsz, show (16 + (n : Int)).toNat = 16 + n by omega, Nat.mul_one] at this
  exact this

set_option maxHeartbeats 2000000 in
theorem close_any (a b : Nat) (A : Option Addr) (B c n : Nat) (p : List Int) (w : World) (ht : Lines w) (ha : a < 4294967296) (hb : b < 4294967296) (hr : Rd w .u8 B A p) (hB : B ≤ w.heap.size) (hp : BytesOk p) (hn : p.length = n) (hl : n ≤ 1000) :
    Calls Tryd.prog 16 #[.int .u32 a, .int .u32 b, .slice A n c] w (Owned w (Sl.closed a b p)) := by
  have HR := Lib.hid hr
  have HP := Lib.hid hp
  have HT := Lib.hid ht
  have hmk := run_make_room n w (by omega)
  have hown : (w.alloc (.cells (madeCells #[.int .u8 0] (16 + n)) 5)).ownsRow w.heap.size 5 1 (.slice (some ⟨w.heap.size, 0, none⟩) 0 (16 + n)) ([] : List Int).length (cl .u8 []) :=
    World.ownsRow_made w (madeCells #[.int .u8 0] (16 + n)) (16 + n) (Nat.le_refl _) (by unfold maxLen; omega) (by rw [size_madeCells, Nat.mul_one])
  have HO := Lib.hid hown
  have H0 : Hid (Below w.heap.size w (w.alloc (.cells (madeCells #[.int .u8 0] (16 + n)) 5))) := (Below.refl _ _).alloc (Nat.le_refl _) _
  have G0 := Lib.hid (Grew.refl HO.out)
  clear hr hp ht hown
  go_enter Tryd.func16, Tryd.ntmps16
  go_wp2_with (fail)
  refine (size_any n _ (by omega)).mono ?_
  rintro e w' ⟨rfl, rfl⟩
  go_wp2_with (fail)
  have hz0 : w.heap.size ≤ (w.alloc (.cells (madeCells #[.int .u8 0] (16 + n)) 5)).heap.size := by rw [World.size_alloc]; omega
  clear hmk
  generalize w.alloc (.cells (madeCells #[.int .u8 0] (16 + n)) 5) = w0 at *
  generalize (Value.slice (some ⟨w.heap.size, 0, none⟩) 0 (16 + n)) = v0 at *
  refine (appendWord_any v0 w.heap.size [] n w0 HO.out hz0 (by simp) (by omega)).mono ?_
  rintro e w1 ⟨v1, rfl, g1⟩
  have G1 : Hid (Grew w0 w.heap.size v0 (Sl.four n) v1 w1) := g1
  clear g1
  go_wp2_with (fail)
  refine (appendWord_any v1 w.heap.size _ a w1 G1.out.own (Nat.le_trans hz0 G1.out.grown.size) (by simp [Sl.four_len]) ha).mono ?_
  rintro e w2 ⟨v2, rfl, g2⟩
  have G2 := Lib.hid (G1.out.trans g2)
  clear g2 G1
  go_wp2_with (fail)
  refine (appendWord_any v2 w.heap.size _ b w2 G2.out.own (Nat.le_trans hz0 G2.out.grown.size) (by simp [Sl.four_len]) hb).mono ?_
  rintro e w3 ⟨v3, rfl, g3⟩
  have G3 : Hid (Grew w0 w.heap.size v0 (Sl.head a b n) v3 w3) := G2.out.trans g3
  clear g3 G2
  obtain ⟨A3, c3, rfl, hc3, hm3⟩ := own_form G3.out.own
  rw [Sl.head_len] at hc3
  have HB3 : Hid (Below w.heap.size w w3) := H0.out.trans (G3.out.below (l0 := []) HO.out hz0)
  go_wp2_with (fail)
  refine (sealSum_any A3 A w3.heap.size B c3 c _ n (Sl.head a b n) p w3 (HT.out.below HB3.out) (Rd.own G3.out.own) (head_ok a b n) rfl (by rw [Sl.head_len]; omega) (HR.out.below (HB3.out.mono hB)) HP.out hn (by omega)).mono ?_
  rintro e w' ⟨rfl, rfl⟩
  have hs := Sl.sum_lt (Sl.head a b n ++ p)
  have HC : Hid (Sl.head a b n ++ Sl.four (Sl.sum (Sl.head a b n ++ p)) ++ p = Sl.closed a b p) := by unfold Sl.closed; rw [hn]; rfl
  generalize Sl.sum (Sl.head a b n ++ p) = S at *
  go_wp2_with (fail)
  refine (appendWord_any _ w.heap.size _ S w3 G3.out.own (Nat.le_trans hz0 G3.out.grown.size) (by rw [Sl.head_len]; omega) hs).mono ?_
  rintro e w4 ⟨v4, rfl, g4⟩
  have G4 := Lib.hid (G3.out.trans g4)
  clear g4 HB3
  have HB4 : Hid (Below w.heap.size w w4) := H0.out.trans (G4.out.below (l0 := []) HO.out hz0)
  go_wp2_with (at_builtin; refine wpList_append_rd rfl _ _ rfl rfl w.heap.size v4 (Sl.head a b n ++ Sl.four S) p _ A c rfl (by rw [hn]; rfl) G4.out.own (HR.out.below (HB4.out.mono hB)) (by rw [List.length_append, Sl.head_len, Sl.four_len, hn]; omega) (Nat.le_trans hz0 G4.out.grown.size) ?_; intro v5 w5 hg)
  go_ret
  have G5 := G4.out.trans hg
  rw [HC.out] at G5
  exact Owned.mk G5.own (H0.out.trans (G5.below (l0 := []) HO.out hz0))

set_option maxHeartbeats 1000000 in
theorem refFour_any (n : Nat) (w : World) (hn : n < 4294967296) :
    Calls Tryd.prog 21 #[.int .u32 n] w (Owned w (Sl.four n)) := by
  go_enter Tryd.func21, Tryd.ntmps21
  go_wp2
  go_ret
  exact Owned.mk (own_lit w _ (Sl.four n) _ (four_cells (by omega) (by omega) (by omega) (by omega)) (by rw [Sl.four_len]; omega)) ((Below.refl _ _).alloc (Nat.le_refl _) _)

set_option maxHeartbeats 4000000 in
theorem refClose_any (a b : Nat) (A : Option Addr) (B c n : Nat) (p : List Int) (w : World) (ha : a < 4294967296) (hb : b < 4294967296) (hr : Rd w .u8 B A p) (hB : B ≤ w.heap.size) (hp : BytesOk p) (hn : p.length = n) (hl : n ≤ 1000) :
    Calls Tryd.prog 9 #[.int .u32 a, .int .u32 b, .slice A n c] w (Owned w (Sl.closed a b p)) := by
  have HR := Lib.hid hr
  have HP := Lib.hid hp
  have G0 := Lib.hid (Grew.start w)
  clear hr hp
  go_enter Tryd.func9, Tryd.ntmps9
  go_wp2_with (fail)
  refine (refFour_any n _ (by omega)).mono ?_
  intro e w1 hO
  obtain ⟨A1, n1, c1, rfl, HN1, HO1, HB1, HR1, _, _⟩ := hO.open_
  have G1 := Lib.hid (G0.out.after HB1.out)
  clear hO HO1
  go_wp2_with (at_builtin; refine wpList_append_rd rfl _ _ rfl rfl w.heap.size (.slice none 0 0) [] (Sl.four n) _ A1 c1 rfl (by rw [HN1.out]; rfl) G1.out.own HR1.out (by simp [Sl.four_len]) HB1.out.size ?_; intro v2 w2 hg; have G2 : Hid (Grew w w.heap.size (.slice none 0 0) (Sl.four n) v2 w2) := G1.out.trans hg; clear hg G1)
  refine (refFour_any a _ ha).mono ?_
  intro e w3 hO
  obtain ⟨A3, n3, c3, rfl, HN3, HO3, HB3, HR3, _, _⟩ := hO.open_
  have G3 := Lib.hid (G2.out.after HB3.out)
  clear hO HO3 G2
  go_wp2_with (at_builtin; refine wpList_append_rd rfl _ _ rfl rfl w.heap.size v2 (Sl.four n) (Sl.four a) _ A3 c3 rfl (by rw [HN3.out]; rfl) G3.out.own HR3.out (by simp [Sl.four_len]) G3.out.grown.size ?_; intro v4 w4 hg; have G4 : Hid (Grew w w.heap.size (.slice none 0 0) (Sl.four n ++ Sl.four a) v4 w4) := G3.out.trans hg; clear hg G3)
  refine (refFour_any b _ hb).mono ?_
  intro e w5 hO
  obtain ⟨A5, n5, c5, rfl, HN5, HO5, HB5, HR5, _, _⟩ := hO.open_
  have G5 := Lib.hid (G4.out.after HB5.out)
  clear hO HO5 G4
  go_wp2_with (first
    | (at_builtin; refine wpList_append_rd rfl _ _ rfl rfl w.heap.size v4 (Sl.four n ++ Sl.four a) (Sl.four b) _ A5 c5 rfl (by rw [HN5.out]; rfl) G5.out.own HR5.out (by simp [Sl.four_len]) G5.out.grown.size ?_; intro v6 w6 hg; have G6 : Hid (Grew w w.heap.size (.slice none 0 0) (Sl.head a b n) v6 w6) := G5.out.trans hg; clear hg G5; obtain ⟨A6, c6, rfl, hc6, hm6⟩ := G6.out.open_ 12 rfl; have S6 := Lib.hid (Grew.start w6))
    | (at_builtin; refine wpList_append_rd rfl _ _ rfl rfl w6.heap.size (.slice none 0 0) [] (Sl.head a b n) w6.heap.size A6 c6 rfl rfl S6.out.own (Rd.own G6.out.own) (by simp [Sl.head_len]) (Nat.le_refl _) ?_; intro v7 w7 hg; have S7 : Hid (Grew w6 w6.heap.size (.slice none 0 0) (Sl.head a b n) v7 w7) := S6.out.trans hg; clear hg; have HB7 : Hid (Below w.heap.size w w7) := G6.out.below0.trans (S7.out.below0.mono G6.out.grown.size))
    | (at_builtin; refine wpList_append_rd rfl _ _ rfl rfl w6.heap.size v7 (Sl.head a b n) p B A c rfl (by rw [hn]; rfl) S7.out.own (HR.out.below (HB7.out.mono hB)) (by rw [Sl.head_len, hn]; omega) S7.out.grown.size ?_; intro v8 w8 hg; have S8 : Hid (Grew w6 w6.heap.size (.slice none 0 0) (Sl.head a b n ++ p) v8 w8) := S7.out.trans hg; clear hg HB7; obtain ⟨A8, c8, rfl, hc8, hm8⟩ := S8.out.open_ (12 + n) (by rw [List.length_append, Sl.head_len, hn])))
  refine (refSum_any A8 w8.heap.size c8 (12 + n) (Sl.head a b n ++ p) w8 (Rd.own' S8.out.own (by rw [List.length_append, Sl.head_len, hn])) ((head_ok a b n).append HP.out) (by rw [List.length_append, Sl.head_len, hn]) (by omega)).mono ?_
  rintro e w' ⟨rfl, rfl⟩
  have hs := Sl.sum_lt (Sl.head a b n ++ p)
  have HC : Hid (Sl.head a b n ++ Sl.four (Sl.sum (Sl.head a b n ++ p)) ++ p = Sl.closed a b p) := by unfold Sl.closed; rw [hn]; rfl
  generalize Sl.sum (Sl.head a b n ++ p) = S at *
  have G8 := Lib.hid (G6.out.after S8.out.below0)
  clear S6 S7 S8 G6
  go_wp2_with (fail)
  refine (refFour_any S _ hs).mono ?_
  intro e w9 hO
  obtain ⟨A9, n9, c9, rfl, HN9, HO9, HB9, HR9, _, _⟩ := hO.open_
  have G9 := Lib.hid (G8.out.after HB9.out)
  clear hO HO9 G8
  go_wp2_with (first
    | (at_builtin; refine wpList_append_rd rfl _ _ rfl rfl w.heap.size (.slice A6 12 c6) (Sl.head a b n) (Sl.four S) _ A9 c9 rfl (by rw [HN9.out]; rfl) G9.out.own HR9.out (by simp [Sl.head_len, Sl.four_len]) G9.out.grown.size ?_; intro v10 w10 hg; have G10 := Lib.hid (G9.out.trans hg); clear hg G9)
    | (at_builtin; refine wpList_append_rd rfl _ _ rfl rfl w.heap.size v10 (Sl.head a b n ++ Sl.four S) p B A c rfl (by rw [hn]; rfl) G10.out.own (HR.out.below (G10.out.below0.mono hB)) (by rw [List.length_append, Sl.head_len, Sl.four_len, hn]; omega) G10.out.grown.size ?_; intro v11 w11 hg; have G11 := Lib.hid (G10.out.trans hg); clear hg G10; rw [HC.out] at G11))
  go_ret
  exact Owned.mk G11.out.own G11.out.below0

theorem refClose_eq (a b : Nat) (x y : Int) (A : Option Addr) (B c n : Nat) (p : List Int) (w : World) (hx : x = a) (hy : y = b) (ha : a < 4294967296) (hb : b < 4294967296) (hr : Rd w .u8 B A p) (hB : B ≤ w.heap.size) (hp : BytesOk p) (hn : p.length = n) (hl : n ≤ 1000) :
    Calls Tryd.prog 9 #[.int .u32 x, .int .u32 y, .slice A n c] w (Owned w (Sl.closed a b p)) := by subst hx hy; exact refClose_any a b A B c n p w ha hb hr hB hp hn hl
end Go.Proofs.YtambppcnmggocaaDoor
