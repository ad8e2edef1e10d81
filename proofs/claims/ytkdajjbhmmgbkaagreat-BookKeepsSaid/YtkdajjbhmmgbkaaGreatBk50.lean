/-
  Contracts of a box's makers and of the methods that put: numbers, truths, bytes; and of what is told of all of it. No conditions but the sizes.
-/
import Derived.Test.YtkdajjbhmmgbkaaGreatBk03
import Derived.Test.YtkdajjbhmmgbkaaGreatBk05
import Derived.Test.YtkdajjbhmmgbkaaGreatBk49
set_option linter.unusedSimpArgs false
set_option linter.unusedVariables false
namespace Go.Proofs.YtkdajjbhmmgbkaaGreat
open Go.ChangeShapes Go.WideShapes Go.ChangeAt Go.RowKit

theorem new_any (w : World) : Calls Tryz.prog 39 #[] w fun e w' => e = .returned (.pointer (some ⟨w.heap.size, 0, none⟩)) ∧ w' = w.alloc (.cells #[.slice none 0 0, .int .i64 0] 109) := by
  go_enter Tryz.func39, Tryz.ntmps39
  go_wp2
  go_ret
  exact ⟨rfl, rfl⟩
theorem pb_new (w : World) (R : Nat) (hR : R ≤ w.heap.size) : PB (w.alloc (.cells #[.slice none 0 0, .int .i64 0] 109)) R w.heap.size [] :=
  ⟨.slice none 0 0, alloc_block, World.ownsRow_nil _ _ _ _, hR, by simp⟩

/-- A box is returned out of which l may be taken. -/
def OfP (w : World) (l : List Int) (e : Ending) (w' : World) : Prop := ∃ g, e = .returned (.pointer (some ⟨g, 0, none⟩)) ∧ GB w' g l 0 ∧ Below w.heap.size w w' ∧ w.heap.size ≤ g
set_option maxHeartbeats 400000 in
theorem done_box (w : World) (g B : Nat) (A : Option Addr) (c : Nat) (l : List Int) (f : Int) (h : Bx w g (.slice A l.length c) f) (hr : Rd w .u8 B A l) (hB : B ≤ w.heap.size) (hl : l.length ≤ 900000) :
    Calls Tryz.prog 43 #[.pointer (some ⟨g, 0, none⟩)] w (Owned w l) := by
  obtain ⟨w0, rfl, hg⟩ := h.boxed
  have HR := Lib.hid hr
  have HB := Lib.hid hB
  clear h hr hB
  go_enter Tryz.func43, Tryz.ntmps43
  go_wp2_with (fail)
  refine (clone_any _ _ _ _ _ HR.out HB.out hl).mono ?_
  rintro e w1 ⟨A2, c2, rfl, ho, hbl, h1, h2⟩
  have HO := Lib.hid ho
  have HB2 := Lib.hid hbl
  clear ho hbl
  go_wp2
  go_ret
  exact ⟨A2, c2, rfl, HO.out, HB2.out, h1, h2⟩
/-- The form of a box into which is put. -/
theorem PB.form {w : World} {R g : Nat} {l : List Int} (h : PB w R g l) : ∃ A c, Bx w g (.slice A l.length c) 0 ∧ Rd w .u8 w.heap.size A l ∧ l.length ≤ c ∧ c ≤ maxLen := by
  obtain ⟨v, hx, ho, hR, h3⟩ := h
  obtain ⟨A, c, rfl, h1, h2⟩ := own_form ho
  exact ⟨A, c, hx, Rd.own ho, h1, h2⟩
theorem done_put (w : World) (R g : Nat) (l : List Int) (h : PB w R g l) (hl : l.length ≤ 900000) : Calls Tryz.prog 43 #[.pointer (some ⟨g, 0, none⟩)] w (Owned w l) := by
  obtain ⟨A, c, hx, hr, _, _⟩ := h.form
  exact done_box w g _ A c l 0 hx hr (Nat.le_refl _) hl

/-- A slice of numbers that stays while is put. -/
def Src (w : World) (R : Nat) (A : Option Addr) (ns : List Int) : Prop :=
  ns ≠ [] → ∃ a, A = some a ∧ (a.block < R ∨ ∃ cs, w.heap[a.block]? = some (.cells cs 2 (0, 0))) ∧ ∀ j u, ns[j]? = some u → w.cell? (a.add j) = some (.int .i64 u)
theorem Src.at_ {w : World} {R : Nat} {A : Option Addr} {ns : List Int} (h : Src w R A ns) {j : Nat} (hj : j < ns.length) : ∃ a, A = some a ∧ w.cell? (a.add j) = some (.int .i64 ns[j]) := by
  obtain ⟨a, e, _, hc⟩ := h (fun e => by subst e; simp at hj)
  exact ⟨a, e, hc j _ (List.getElem?_eq_getElem hj)⟩
theorem Src.kept {w w' : World} {R : Nat} {A : Option Addr} {ns : List Int} (h : Src w R A ns) (hl : R ≤ w.heap.size) (hk : ∀ i, i < w.heap.size → (i < R ∨ ∃ cs, w.heap[i]? = some (.cells cs 2 (0, 0))) → w'.heap[i]? = w.heap[i]?) : Src w' R A ns := fun hn => by
  obtain ⟨a, e, hb, hc⟩ := h hn
  have hlt : a.block < w.heap.size := by
    rcases hb with hb | ⟨cs, hb⟩
    · omega
    · exact (Array.getElem?_eq_some_iff.1 hb).1
  have he := hk _ hlt hb
  have hb' : a.block < R ∨ ∃ cs, w'.heap[a.block]? = some (.cells cs 2 (0, 0)) := by
    rcases hb with hb | ⟨cs, hb⟩
    · exact .inl hb
    · exact .inr ⟨cs, he.trans hb⟩
  exact ⟨a, e, hb', fun j u hu => (World.cell?_of_block (by rw [ad_block]; exact he)).trans (hc j u hu)⟩

/-- What is put: the box behind it; what was below R is as it was, and so are blocks that are no bytes and no boxes. -/
structure Put (w : World) (R g : Nat) (l : List Int) (w' : World) : Prop where
  box : PB w' R g l
  below : Below R w w'
  rest : ∀ (i : Nat) (cs : Array Value) (t : TypeId), t ≠ 5 → t ≠ 109 → w.heap[i]? = some (.cells cs t (0, 0)) → w'.heap[i]? = w.heap[i]?
theorem Put.refl {w : World} {R g : Nat} {l : List Int} (h : PB w R g l) : Put w R g l w := ⟨h, Below.refl _ _, fun _ _ _ _ _ _ => rfl⟩
theorem Put.nums {w w' : World} {R g : Nat} {l : List Int} (h : Put w R g l w') (i : Nat) (cs : Array Value) (hi : w.heap[i]? = some (.cells cs 2 (0, 0))) : w'.heap[i]? = w.heap[i]? := h.rest i cs _ (by decide) (by decide) hi
theorem Put.src {w w' : World} {R g : Nat} {l : List Int} {A : Option Addr} {ns : List Int} (h : Put w R g l w') (hs : Src w R A ns) (hl : R ≤ w.heap.size) : Src w' R A ns :=
  hs.kept hl fun i _ hi => by
    rcases hi with hi | ⟨cs, hi⟩
    · exact h.below.block i hi
    · exact h.nums i cs hi

/-- One number more: a row that has grown is stored into the box. -/
theorem Put.step {w w0 w1 : World} {R g : Nat} {l l' l2 : List Int} {v v' : Value} (h : Put w R g l (boxed w0 g #[v, .int .i64 0] 109)) (ho : (boxed w0 g #[v, .int .i64 0] 109).ownsRow R 5 1 v l2.length (cl .u8 l2))
    (hg : Grew (boxed w0 g #[v, .int .i64 0] 109) R v l' v' (boxed w1 g #[v, .int .i64 0] 109)) (hlt : g < w1.heap.size) (h3 : ∀ x ∈ l', 0 ≤ x ∧ x < 256) :
    Put w R g l' (boxed w1 g #[v', .int .i64 0] 109) := by
  have hRg := h.box.lt
  have hR : R ≤ g := hRg.1
  have hg1 : (boxed w1 g #[v, .int .i64 0] 109).heap[g]? = some (.cells #[v, .int .i64 0] 109) := boxed_block hlt
  have hne : v'.ownBlock ≠ some g := own_ne hg.own hg1 (by decide)
  have hb := hg.below (l0 := l2) ho (by have := hRg.2; omega)
  refine ⟨⟨v', boxed_block hlt, own_kept hg.own fun i hi => ?_, hR, h3⟩, h.below.trans (hb.trans ⟨rfl, rfl, rfl, by simp, fun i hi => ?_⟩), fun i cs t g1 g2 hi => ?_⟩
  · have : i ≠ g := fun e => hne (by rw [← e]; exact hi)
    rw [boxed_block_other this, boxed_block_other this]
  · rw [boxed_block_other (by omega), boxed_block_other (by omega)]
  · have hi2 := (h.rest i cs t g1 g2 hi).trans hi
    have hig : i ≠ g := by
      rintro rfl
      rw [boxed_block (by have := hRg.2; rwa [boxed_size] at this)] at hi2
      injection hi2 with hi2
      injection hi2 with _ ht
      exact g2 ht.symm
    have hiv : v.ownBlock ≠ some i := own_ne ho hi2 g1.symm
    rw [boxed_block_other hig, ← boxed_block_other (w := w1) (cs := #[v, .int .i64 0]) (t := 109) hig, hg.grown.block i (Array.getElem?_eq_some_iff.1 hi2).1 (fun e => hiv e.symm), hi2, hi]

theorem own_shape {w : World} {base : Nat} {e : TypeId} {size : Nat} {v : Value} {n : Nat} {xs : List Value} (h : w.ownsRow base e size v n xs) : ∃ A n c, v = .slice A n c := by
  obtain ⟨A, c, e, _⟩ := own_form h
  exact ⟨A, n, c, e⟩

def PutP (w : World) (R g : Nat) (l : List Int) (e : Ending) (w' : World) : Prop := e = .returned (.pointer (some ⟨g, 0, none⟩)) ∧ Put w R g l w'

set_option maxHeartbeats 1000000 in
theorem put_any (w : World) (R g : Nat) (l : List Int) (A : Option Addr) (c : Nat) (ns : List Int) (h : PB w R g l) (hs : Src w R A ns) (hl : l.length ≤ 800000) (hn : ns.length ≤ 1000) (hi : I64 ns) :
    Calls Tryz.prog 40 #[.pointer (some ⟨g, 0, none⟩), .slice A ns.length c] w (PutP w R g (l ++ Pk.encs ns)) := by
  have hR : R ≤ w.heap.size := by have := h.lt; omega
  have H := Lib.hid h
  have HS := Lib.hid hs
  have HI := Lib.hid hi
  clear h hs hi
  go_enter Tryz.func40, Tryz.ntmps40
  go_wp2
  go_loopw [11] (fun t wr => ∃ k : Nat, k ≤ ns.length ∧ t = .int .i64 k ∧ Put w R g (l ++ Pk.encs (ns.take k)) wr) (fun t _ => ns.length - (intOf t).toNat)
  case atStart => exact ⟨0, by omega, rfl, by rw [List.take_zero, Pk.encs_nil, List.append_nil]; exact Put.refl H.out⟩
  case round =>
    obtain ⟨k, hk, rfl, hp⟩ := hrel
    have HP := Lib.hid hp
    clear hp
    by_cases hlt : k < ns.length
    · obtain ⟨a, rfl, hc⟩ := (HP.out.src HS.out hR).at_ hlt
      have hnk := HI.out _ (List.getElem_mem hlt)
      have HX := Lib.hid (encs_snoc hlt)
      have hsh := encs_short HI.out k hn
      have hl2 : (l ++ Pk.encs (ns.take k)).length ≤ 900000 := by rw [List.length_append]; omega
      obtain ⟨v, hx, ho, hRg, h3⟩ := HP.out.box
      obtain ⟨w0, rfl, hg⟩ := hx.boxed
      generalize ns[k] = x at *
      obtain ⟨x0, x1⟩ := hnk
      have HV := Lib.hid hx
      have HO := Lib.hid ho
      have H3 := Lib.hid h3
      clear hx ho h3
      go_wp2_with (fail)
      refine (appendNumber_any _ _ _ _ _ HO.out (by rw [boxed_size]; omega) hl2 x0 x1).mono ?_
      rintro e w1 ⟨v', rfl, hgr⟩
      obtain ⟨A2, n2, c2, rfl⟩ := own_shape hgr.own
      have hx1 : Bx w1 g v 0 := HV.out.kept (hgr.grown.block g (by rw [boxed_size]; exact hg) (fun e => own_ne HO.out HV.out (by decide) e.symm))
      obtain ⟨w2, rfl, hg2⟩ := hx1.boxed
      have HG := Lib.hid hgr
      clear hx1 hgr
      go_wp2
      go_roundw
      case rel =>
        refine ⟨k + 1, by omega, by go_num, ?_⟩
        rw [← HX.out, ← List.append_assoc]
        refine Put.step HP.out HO.out HG.out hg2 fun y hy => ?_
        rcases List.mem_append.1 hy with hy | hy
        · exact H3.out y hy
        · have := Pk.enc_range _ y hy; omega
      case measure => simp [intOf]; omega
    · obtain rfl : k = ns.length := by omega
      have HX : Hid (ns.take ns.length = ns) := List.take_length
      go_wp2
      go_ret
      exact ⟨rfl, by have := HP.out; rwa [HX.out] at this⟩
/-- A literal of one number. -/
theorem src_one (w : World) (R : Nat) (x : Int) : Src (w.alloc (.cells #[.int .i64 x] 2)) R (some ⟨w.heap.size, 0, none⟩) [x] := fun _ =>
  ⟨_, rfl, .inr ⟨_, alloc_block⟩, fun j u hu => cell_one_new w (.int .i64 x) 2 j (.int .i64 u) (by
    match j, hu with
    | 0, hu => simp at hu; subst hu; rfl)⟩
theorem PB.alloc {w : World} {R g : Nat} {l : List Int} (h : PB w R g l) (o : Obj) : PB (w.alloc o) R g l := h.below ((Below.refl _ _).alloc (Nat.le_refl _) o)
theorem Put.of_alloc {w w' : World} {R g : Nat} {l : List Int} {o : Obj} (h : Put (w.alloc o) R g l w') (hR : R ≤ w.heap.size) : Put w R g l w' :=
  ⟨h.box, ((Below.refl _ _).alloc hR o).trans h.below, fun i cs t g1 g2 hi => (h.rest i cs t g1 g2 ((alloc_block_old (Array.getElem?_eq_some_iff.1 hi).1).trans hi)).trans (alloc_block_old (Array.getElem?_eq_some_iff.1 hi).1)⟩
theorem Put.trans {w w1 w2 : World} {R g : Nat} {l l2 : List Int} (h : Put w R g l w1) (k : Put w1 R g l2 w2) : Put w R g l2 w2 :=
  ⟨k.box, h.below.trans k.below, fun i cs t g1 g2 hi => (k.rest i cs t g1 g2 ((h.rest i cs t g1 g2 hi).trans hi)).trans (h.rest i cs t g1 g2 hi)⟩
theorem put_one (w : World) (R g : Nat) (l : List Int) (x : Int) (m c : Nat) (hm : m = 1) (h : PB w R g l) (hl : l.length ≤ 800000) (h0 : -9223372036854775808 ≤ x) (h1 : x ≤ 9223372036854775807) :
    Calls Tryz.prog 40 #[.pointer (some ⟨g, 0, none⟩), .slice (some ⟨w.heap.size, 0, none⟩) m c] (w.alloc (.cells #[.int .i64 x] 2)) (PutP w R g (l ++ Pk.enc (Pk.zig x))) := by
  subst hm
  have hR : R ≤ w.heap.size := by have := h.lt; omega
  refine (put_any _ R g l _ c [x] (h.alloc _) (src_one w R x) hl (by simp) (fun n hn => by simp at hn; subst hn; exact ⟨h0, h1⟩)).mono fun e w' ⟨he, hp⟩ => ?_
  rw [Pk.encs_one] at hp
  exact ⟨he, hp.of_alloc hR⟩

set_option maxHeartbeats 400000 in
theorem flag_put (w : World) (R g : Nat) (l : List Int) (b : Bool) (h : PB w R g l) (hl : l.length ≤ 800000) :
    Calls Tryz.prog 74 #[.pointer (some ⟨g, 0, none⟩), .bool b] w (PutP w R g (l ++ Pk.enc (Pk.zig (if b = true then 1 else 0)))) := by
  have H := Lib.hid h
  clear h
  cases b
  all_goals
    go_enter Tryz.func74, Tryz.ntmps74
    go_wp2_with (go_at_call 40; refine (put_one _ _ _ _ _ _ _ rfl H.out hl (by omega) (by omega)).mono ?_; rintro e w' ⟨rfl, hp⟩)
    go_ret
    exact ⟨rfl, hp⟩
end Go.Proofs.YtkdajjbhmmgbkaaGreat
/-
  Contracts of the two functions that tell the number with which bytes begin: the program's and the document's. No conditions but that the bytes are bytes.
-/
namespace Go.Proofs.YtkdajjbhmmgbkaaGreat
open Go.ChangeShapes Go.WideShapes Go.ChangeAt Go.RowKit

namespace Pk
end Pk

/-- What dec tells, as three results. -/
def decV (l : List Int) : Value := .tuple #[.int .i64 (Pk.dec 0 0 l).1, .int .i64 ((Pk.dec 0 0 l).2.1 : Nat), .int .i64 (Pk.dec 0 0 l).2.2]
namespace Pk
end Pk

end Go.Proofs.YtkdajjbhmmgbkaaGreat
/-
  Contracts of a box's methods that tell and take: its fault, what is left, the next number, truth or bytes. No conditions but that the box is one, or nil.
-/
namespace Go.Proofs.YtkdajjbhmmgbkaaGreat
open Go.ChangeShapes Go.WideShapes Go.ChangeAt Go.RowKit

/-- What is told, and the box behind it. -/
def Got (w : World) (g : Nat) (n : Int) (l : List Int) (f : Int) (e : Ending) (w' : World) : Prop := e = .returned (.int .i64 n) ∧ w.grownBy w' (some g) ∧ GB w' g l f

def GotF (w : World) (g : Nat) (b : Bool) (l : List Int) (e : Ending) (w' : World) : Prop := e = .returned (.bool b) ∧ w.grownBy w' (some g) ∧ GB w' g l 0
def GotL (w : World) (g : Nat) (l : List Int) (f : Int) (e : Ending) (w' : World) : Prop := e = .returned (.slice none 0 0) ∧ w.grownBy w' (some g) ∧ GB w' g l f
def GotS (w : World) (g : Nat) (p l : List Int) (e : Ending) (w' : World) : Prop :=
  ∃ A c, e = .returned (.slice A p.length c) ∧ w.grownBy w' (some g) ∧ w'.ownsRow (g + 1) 5 1 (.slice A p.length c) p.length (cl .u8 p) ∧ GB w' g l 0

end Go.Proofs.YtkdajjbhmmgbkaaGreat
/-
  Contracts of plan.Put and plan.Get: a plan into a box, and out of it. No conditions but the sizes.
-/
namespace Go.Proofs.YtkdajjbhmmgbkaaGreat
set_option maxRecDepth 20000
open Go.ChangeShapes Go.WideShapes Go.ChangeAt Go.RowKit

theorem Put.of_below {w w1 w' : World} {R b : Nat} {l : List Int} (h : Put w1 R b l w') (hb : Below w.heap.size w w1) (hR : R ≤ w.heap.size) : Put w R b l w' :=
  ⟨h.box, (hb.mono hR).trans h.below, fun i cs t g1 g2 hi => by
    have e := hb.block i (Array.getElem?_eq_some_iff.1 hi).1
    exact (h.rest i cs t g1 g2 (e.trans hi)).trans e⟩
namespace Pn
def one (b : Bool) : Int := if b = true then 1 else 0
theorem one_ok (b : Bool) : 0 ≤ one b ∧ one b ≤ 1 := by cases b <;> simp [one]
/-- A plan's bytes. -/
def bytes (a u e t : Int) (g l : Bool) : List Int := Pk.encs [a, u, e, t] ++ Pk.enc (Pk.zig (one g)) ++ Pk.enc (Pk.zig (one l))
theorem bytes_eq (a u e t : Int) (g l : Bool) : bytes a u e t g l = Pk.encs [a, u, e, t, one g, one l] := by
  unfold bytes; simp [Pk.encs_cons, Pk.encs_nil]
end Pn

set_option maxHeartbeats 4000000 in
theorem plput_any (w : World) (R b : Nat) (ls : List Int) (a u e t : Int) (g l : Bool) (h : PB w R b ls) (hl : ls.length ≤ 790000) (wa : -9223372036854775808 ≤ a ∧ a ≤ 9223372036854775807) (wu : 0 ≤ u ∧ u < 256) (we : -9223372036854775808 ≤ e ∧ e ≤ 9223372036854775807) (wt : -9223372036854775808 ≤ t ∧ t ≤ 9223372036854775807) :
    Calls Tryz.prog 41 #[.pointer (some ⟨b, 0, none⟩), .agg #[.int .i64 a, .int .u8 u, .int .i64 e, .int .i64 t, .bool g, .bool l]] w fun x w' => x = .returned (.tuple #[]) ∧ Put w R b (ls ++ Pn.bytes a u e t g l) w' := by
  have hR : R ≤ w.heap.size := by have := h.lt; omega
  have H := Lib.hid h
  have WI : Hid (I64 [a, u, e, t]) := Lib.hid (fun n hn => by
    simp only [List.mem_cons, List.not_mem_nil, or_false] at hn
    rcases hn with rfl | rfl | rfl | rfl
    · exact wa
    · omega
    · exact we
    · exact wt)
  have hln : (Pk.encs [a, u, e, t]).length ≤ 44 := Pk.encs_len [a, u, e, t] WI.out
  have hlg : (Pk.enc (Pk.zig (Pn.one g))).length ≤ 11 := Pk.enc_eleven (Pk.zig_lt _ (by have := Pn.one_ok g; omega) (by have := Pn.one_ok g; omega))
  obtain ⟨wu0, wu1⟩ := wu
  have hwu : IntKind.i64.wrap u = u := by simp only [IntKind.wrap_i64]; omega
  clear h wa we wt
  go_enter Tryz.func41, Tryz.ntmps41
  go_wp2
  refine lane_start (ord := [0, 1, 2, 3, 4, 5, 6, 7, 8, 9, 12, 13, 15, 16, 10, 11, 14, 17]) (S := fun w' => Pn.At w.heap.size a u e t g l w') rfl (by kernel_rfl) (Pn.At.of (ty := 44) alloc_block) (fun hHeld => ?_)
  repeat (first
    | (refine lane_take (v := ?_) rfl (by kernel_rfl) (by kernel_rfl) (by rfl) ?_ (by assumption) ?_; rotate_left; (focus (intro w hSw; obtain ⟨s0, s1, s2, s3, s4, s5⟩ := hSw; (try dsimp only at s0 s1 s2 s3 s4 s5); go_simp; try (with_reducible rfl))); simp only [Act.put, List.setIfInBounds_toArray, List.set_cons_zero, List.set_cons_succ]))
  refine lane_alone rfl (by kernel_rfl) (by rfl) (fun K hK => ?_)
  go_simp
  have hb1 : Below w.heap.size w (((w.alloc (Obj.cells #[.int .i64 a, .int .u8 u, .int .i64 e, .int .i64 t, .bool g, .bool l] 44)).alloc (Obj.cells #[.int .i64 a, .int .i64 u, .int .i64 e, .int .i64 t] 2)).drew) := (((Below.refl _ w).alloc (Nat.le_refl _) _).alloc (by simp) _).drew
  have hz : (((w.alloc (Obj.cells #[.int .i64 a, .int .u8 u, .int .i64 e, .int .i64 t, .bool g, .bool l] 44)).alloc (Obj.cells #[.int .i64 a, .int .i64 u, .int .i64 e, .int .i64 t] 2)).drew).heap.size = w.heap.size + 2 := by simp
  have hp1 : (((w.alloc (Obj.cells #[.int .i64 a, .int .u8 u, .int .i64 e, .int .i64 t, .bool g, .bool l] 44)).alloc (Obj.cells #[.int .i64 a, .int .i64 u, .int .i64 e, .int .i64 t] 2)).drew).heap[w.heap.size]? = some (Obj.cells #[.int .i64 a, .int .u8 u, .int .i64 e, .int .i64 t, .bool g, .bool l] 44) := (alloc_block_old (by simp)).trans alloc_block
  have hn1 : (((w.alloc (Obj.cells #[.int .i64 a, .int .u8 u, .int .i64 e, .int .i64 t, .bool g, .bool l] 44)).alloc (Obj.cells #[.int .i64 a, .int .i64 u, .int .i64 e, .int .i64 t] 2)).drew).heap[w.heap.size + 1]? = some (Obj.cells #[.int .i64 a, .int .i64 u, .int .i64 e, .int .i64 t] 2) := by have := alloc_block (w := w.alloc (Obj.cells #[.int .i64 a, .int .u8 u, .int .i64 e, .int .i64 t, .bool g, .bool l] 44)) (o := (Obj.cells #[.int .i64 a, .int .i64 u, .int .i64 e, .int .i64 t] 2)); rw [World.size_alloc] at this; exact this
  have hs1 : Src (((w.alloc (Obj.cells #[.int .i64 a, .int .u8 u, .int .i64 e, .int .i64 t, .bool g, .bool l] 44)).alloc (Obj.cells #[.int .i64 a, .int .i64 u, .int .i64 e, .int .i64 t] 2)).drew) R (some ⟨w.heap.size + 1, 0, none⟩) [a, u, e, t] := fun _ => ⟨_, rfl, .inr ⟨_, hn1⟩, fun j v hj => by
    rw [ad_head, cell_of_row _ _ _ _ _ (0, 0) hn1]
    rcases j with _ | _ | _ | _ | j <;> simp at hj ⊢ <;> exact hj⟩
  generalize ((w.alloc (Obj.cells #[.int .i64 a, .int .u8 u, .int .i64 e, .int .i64 t, .bool g, .bool l] 44)).alloc (Obj.cells #[.int .i64 a, .int .i64 u, .int .i64 e, .int .i64 t] 2)).drew = w1 at *
  have hpb := H.out.below hb1
  refine hK _ _ (Pn.At.of hp1) (fun hHeld => ?_)
  clear hK K
  refine lane_alone rfl (by kernel_rfl) (by rfl) (fun K hK => ?_)
  go_simp
  refine (put_any w1 R b ls _ 4 [a, u, e, t] hpb hs1 (by omega) (by simp) WI.out).mono ?_
  rintro x w2 ⟨rfl, hp2⟩
  have hq2 := (hp2.rest _ _ _ (by decide) (by decide) hp1).trans hp1
  refine hK _ _ (Pn.At.of hq2) (fun hHeld => ?_)
  clear hK K
  refine lane_alone rfl (by kernel_rfl) (by rfl) (fun K hK => ?_)
  go_simp
  refine (flag_put w2 R b _ g hp2.box (by rw [List.length_append]; omega)).mono ?_
  rintro x w3 ⟨rfl, hp3⟩
  have hq3 := (hp3.rest _ _ _ (by decide) (by decide) hq2).trans hq2
  refine hK _ _ (Pn.At.of hq3) (fun hHeld => ?_)
  clear hK K
  refine lane_alone rfl (by kernel_rfl) (by rfl) (fun K hK => ?_)
  go_simp
  refine (flag_put w3 R b _ l hp3.box (by unfold Pn.one at hlg; simp only [List.length_append]; omega)).mono ?_
  rintro x w4 ⟨rfl, hp4⟩
  have hq4 := (hp4.rest _ _ _ (by decide) (by decide) hq3).trans hq3
  refine hK _ _ (Pn.At.of hq4) (fun hHeld => ?_)
  refine lane_end (by kernel_rfl) ?_
  go_wp2
  go_end0
  refine ⟨rfl, ?_⟩
  have := (((hp2.trans hp3).trans hp4).of_below hb1 hR)
  rw [Pn.bytes, ← List.append_assoc, ← List.append_assoc]
  exact this

/-- What Get tells, and the box behind it. -/
def Told6 (w : World) (b : Nat) (a u e t : Int) (g l : Bool) (r : List Int) (f : Int) (x : Ending) (w' : World) : Prop :=
  x = .returned (.agg #[.int .i64 a, .int .u8 u, .int .i64 e, .int .i64 t, .bool g, .bool l]) ∧ w.grownBy w' (some b) ∧ GB w' b r f
theorem GB.more {w w' : World} {b : Nat} {l : List Int} {f : Int} (h : GB w b l f) (hb : Below w.heap.size w w') : GB w' b l f := h.kept fun i hi => hb.block i (by have := h.lt; omega)
end Go.Proofs.YtkdajjbhmmgbkaaGreat
