/-
  Slices that a call makes and hands back; a copy of bytes. No conditions but the sizes.
-/
import Derived.Lib.Hide
import Derived.Test.YtblikgbcakgdnaaGreatBp05
import Derived.Test.YtblikgbcakgdnaaGreatBp39
set_option linter.unusedSimpArgs false
set_option linter.unusedVariables false
namespace Go.Proofs.YtblikgbcakgdnaaGreat
set_option maxRecDepth 20000
open Go.ChangeShapes Go.WideShapes Go.ChangeAt Go.RowKit

/-- A slice of the call's own is returned that reads as l; all else is as it was. -/
def Owned (w : World) (l : List Int) (e : Ending) (w' : World) : Prop :=
  ∃ A c, e = .returned (.slice A l.length c) ∧ w'.ownsRow w.heap.size 5 1 (.slice A l.length c) l.length (cl .u8 l) ∧ Below w.heap.size w w' ∧ l.length ≤ c ∧ c ≤ maxLen
theorem Owned.mk {w w' : World} {l : List Int} {v : Value} (h : w'.ownsRow w.heap.size 5 1 v l.length (cl .u8 l)) (hb : Below w.heap.size w w') : Owned w l (.returned v) w' := by
  obtain ⟨A, c, rfl, h1, h2⟩ := own_form h
  exact ⟨A, c, rfl, h, hb, h1, h2⟩

set_option maxHeartbeats 400000 in
theorem clone_any (A : Option Addr) (B c : Nat) (l : List Int) (w : World) (hr : Rd w .u8 B A l) (hB : B ≤ w.heap.size) (hl : l.length ≤ 900000) :
    Calls Tryz.prog 48 #[.slice A l.length c] w fun e w' => Owned w l e w' := by
  rcases A with _ | a
  · have hn : l = [] := by
      rcases l with _ | ⟨x, r⟩
      · rfl
      · obtain ⟨a, e, _⟩ := hr (by simp); cases e
    subst hn
    have q := fun w => Lib.run_eql_slice_nil (P := Tryz.prog) w 63 5 none 0 c 0 0 Tryz.underlying63
    go_enter Tryz.func48, Tryz.ntmps48
    go_wp2
    go_ret
    exact Owned.mk (World.ownsRow_nil _ _ _ _) (Below.refl _ _)
  · have q := fun w => Lib.run_eql_slice_nil (P := Tryz.prog) w 63 5 (some a) l.length c 0 0 Tryz.underlying63
    have HR := Lib.hid hr
    clear hr
    go_enter Tryz.func48, Tryz.ntmps48
    have hown : (w.alloc (.cells #[] 5)).ownsRow w.heap.size 5 1 (.slice (some ⟨w.heap.size, 0, none⟩) 0 0) ([] : List Int).length (cl .u8 []) := World.ownsRow_made w #[] 0 (Nat.le_refl _) (by unfold maxLen; omega) rfl
    have HO := Lib.hid hown
    clear hown
    go_wp2_with (at_builtin; refine wpList_append_rd rfl _ _ rfl rfl w.heap.size _ [] l B (some a) c rfl rfl HO.out (HR.out.below ((Below.refl _ _).alloc hB _)) (by simp; omega) (by simp) ?_; intro v' w1 hg)
    go_ret
    exact Owned.mk (by simpa using hg.own) (((Below.refl _ _).alloc (Nat.le_refl _) _).trans (hg.below (l0 := []) HO.out (by simp)))

/-- Returned is a slice that was grown by l. -/
def Grown1 (w : World) (base : Nat) (v : Value) (l : List Int) (e : Ending) (w' : World) : Prop := ∃ v', e = .returned v' ∧ Grew w base v l v' w'

theorem Grew.after {w w1 w2 : World} {base : Nat} {v v1 : Value} {l : List Int} (h : Grew w base v l v1 w1) (hb : Below w1.heap.size w1 w2) : Grew w base v l v1 w2 :=
  ⟨own_kept h.own fun i hi => hb.block i (h.own.lt i hi).2, ⟨hb.os.trans h.grown.os, hb.tape.trans h.grown.tape, hb.output.trans h.grown.output, Nat.le_trans h.grown.size hb.size,
    fun i hi hne => (hb.block i (Nat.lt_of_lt_of_le hi h.grown.size)).trans (h.grown.block i hi hne)⟩, h.at_⟩
theorem Owned.open_ {w w' : World} {l : List Int} {e : Ending} (h : Owned w l e w') :
    ∃ A n c, e = .returned (.slice A n c) ∧ Hid (l.length = n) ∧ Hid (w'.ownsRow w.heap.size 5 1 (.slice A n c) n (cl .u8 l)) ∧ Hid (Below w.heap.size w w') ∧ Hid (Rd w' .u8 w'.heap.size A l) ∧ n ≤ c ∧ c ≤ maxLen := by
  obtain ⟨A, c, rfl, ho, hb, h1, h2⟩ := h
  exact ⟨A, l.length, c, rfl, rfl, ho, hb, Rd.own ho, h1, h2⟩
theorem Grew.open_ {w w' : World} {base : Nat} {v v' : Value} {l : List Int} (h : Grew w base v l v' w') (n : Nat) (hn : l.length = n) : ∃ A c, v' = .slice A n c ∧ n ≤ c ∧ c ≤ maxLen := by
  subst hn; exact own_form h.own
end Go.Proofs.YtblikgbcakgdnaaGreat
/-
  Contracts of the functions that make bytes: a copy, a number behind some, and the document's own. No conditions but the sizes.
-/
namespace Go.Proofs.YtblikgbcakgdnaaGreat
open Go.ChangeShapes Go.WideShapes Go.ChangeAt Go.RowKit

theorem enc_last {acc : List Int} {u : Nat} {r : List Int} (h : acc ++ Pk.enc u = r) (hu : u < 64) : acc ++ [(u : Int)] = r := by rw [← h, Pk.enc_less hu]
theorem enc_go {acc : List Int} {u : Nat} {r : List Int} (h : acc ++ Pk.enc u = r) (hu : ¬ u < 64) : acc ++ [(u : Int) % 64 + 64] ++ Pk.enc (u / 64) = r := by rw [← h, Pk.enc_more hu, List.append_assoc]; rfl

set_option maxHeartbeats 1000000 in
theorem appendNumber_any (v : Value) (base : Nat) (l : List Int) (n : Int) (w : World) (ho : w.ownsRow base 5 1 v l.length (cl .u8 l)) (hB : base ≤ w.heap.size) (hl : l.length ≤ 900000) (h0 : -9223372036854775808 ≤ n) (h1 : n ≤ 9223372036854775807) :
    Calls Tryz.prog 73 #[v, .int .i64 n] w (Grown1 w base v (l ++ Pk.enc (Pk.zig n))) := by
  have hz := Pk.zig_lt n h0 h1
  have HO := Lib.hid ho
  have H11 := Lib.hid (Pk.enc_eleven hz)
  clear ho
  go_enter Tryz.func73, Tryz.ntmps73
  go_wp2_with (go_at_call 103; refine (unsigned_any _ _ h0 h1).mono ?_; rintro e w' ⟨rfl, rfl⟩)
  generalize Pk.zig n = z at *
  go_loopw [0, 5] (fun p t wr => ∃ (acc : List Int) (u : Nat), t = .int .u64 u ∧ u < 18446744073709551616 ∧ Grew w base v (l ++ acc) p wr ∧ Hid (acc ++ Pk.enc u = Pk.enc z)) (fun _ t _ => (intOf t).toNat)
  case atStart => exact ⟨[], z, rfl, hz, by rw [List.append_nil]; exact Grew.refl HO.out, rfl⟩
  case round =>
    obtain ⟨acc, u, rfl, hu, hg, HE⟩ := hrel
    have hacc : acc.length ≤ 11 := by have := congrArg List.length HE.out; rw [List.length_append] at this; have := H11.out; omega
    have HG := Lib.hid hg
    clear hg
    have hB2 : base ≤ wr.heap.size + 1 := by have := HG.out.grown.size; omega
    have hsz : (l ++ acc).length + 1 ≤ 1000000 := by rw [List.length_append]; omega
    by_cases h : u < 64
    · have HX := Lib.hid (enc_last HE.out h)
      go_wp2_with (at_builtin; refine wpList_append_rd rfl _ _ rfl rfl base _ (l ++ acc) [(u : Int)] _ _ _ rfl rfl (HG.out.own.alloc _) (rd_one wr _ _) hsz (by rw [World.size_alloc]; exact hB2) ?_; intro v' w1 hg)
      go_ret
      exact ⟨v', rfl, by have := HG.out.trans hg.of_alloc; rwa [List.append_assoc, HX.out] at this⟩
    · have HX := Lib.hid (enc_go HE.out h)
      go_wp2_with (at_builtin; refine wpList_append_rd rfl _ _ rfl rfl base _ (l ++ acc) [(u : Int) % 64 + 64] _ _ _ rfl rfl (HG.out.own.alloc _) (rd_one wr _ _) hsz (by rw [World.size_alloc]; exact hB2) ?_; intro v' w1 hg)
      go_roundw
      case rel => exact ⟨acc ++ [(u : Int) % 64 + 64], u / 64, by go_num, by omega, by have := HG.out.trans hg.of_alloc; rwa [List.append_assoc] at this, HX⟩
      case measure => simp [intOf]; omega

/-- Numbers that 64 bits with a sign hold. -/
def I64 (ns : List Int) : Prop := ∀ n ∈ ns, -9223372036854775808 ≤ n ∧ n ≤ 9223372036854775807
theorem encs_snoc {ns : List Int} {k : Nat} (h : k < ns.length) : Pk.encs (ns.take k) ++ Pk.enc (Pk.zig ns[k]) = Pk.encs (ns.take (k + 1)) := by
  rw [List.take_succ_eq_append_getElem h, Pk.encs_append, Pk.encs_one]
theorem I64.take {ns : List Int} (h : I64 ns) (k : Nat) : I64 (ns.take k) := fun n hn => h n (List.mem_of_mem_take hn)
theorem encs_short {ns : List Int} (h : I64 ns) (k : Nat) (hl : ns.length ≤ 1000) : (Pk.encs (ns.take k)).length ≤ 11000 := by
  have := Pk.encs_len _ (h.take k)
  rw [List.length_take] at this
  omega

end Go.Proofs.YtblikgbcakgdnaaGreat
/-
  Contracts of a box's makers and of the methods that put: numbers, truths, bytes; and of what is told of all of it. No conditions but the sizes.
-/
namespace Go.Proofs.YtblikgbcakgdnaaGreat
open Go.ChangeShapes Go.WideShapes Go.ChangeAt Go.RowKit

theorem new_any (w : World) : Calls Tryz.prog 39 #[] w fun e w' => e = .returned (.pointer (some ⟨w.heap.size, 0, none⟩)) ∧ w' = w.alloc (.cells #[.slice none 0 0, .int .i64 0] 109) := by
  go_enter Tryz.func39, Tryz.ntmps39
  go_wp2
  go_ret
  exact ⟨rfl, rfl⟩
theorem pb_new (w : World) (R : Nat) (hR : R ≤ w.heap.size) : PB (w.alloc (.cells #[.slice none 0 0, .int .i64 0] 109)) R w.heap.size [] :=
  ⟨.slice none 0 0, alloc_block, World.ownsRow_nil _ _ _ _, hR, by simp⟩

/-- A box is returned out of which l may be taken. -/
def OfP (w : World) (l : List Int) (e : Ending) (w' : World) : Prop := ∃ g, e = .returned (.pointer (some ⟨g, 0, none⟩)) ∧ GB w' g l 0 ∧ Below w.heap.size w w' ∧ w.heap.size ≤ g
set_option maxHeartbeats 400000 in
theorem done_box (w : World) (g B : Nat) (A : Option Addr) (c : Nat) (l : List Int) (f : Int) (h : Bx w g (.slice A l.length c) f) (hr : Rd w .u8 B A l) (hB : B ≤ w.heap.size) (hl : l.length ≤ 900000) :
    Calls Tryz.prog 43 #[.pointer (some ⟨g, 0, none⟩)] w (Owned w l) := by
  obtain ⟨w0, rfl, hg⟩ := h.boxed
  have HR := Lib.hid hr
  have HB := Lib.hid hB
  clear h hr hB
  go_enter Tryz.func43, Tryz.ntmps43
  go_wp2_with (fail)
  refine (clone_any _ _ _ _ _ HR.out HB.out hl).mono ?_
  rintro e w1 ⟨A2, c2, rfl, ho, hbl, h1, h2⟩
  have HO := Lib.hid ho
  have HB2 := Lib.hid hbl
  clear ho hbl
  go_wp2
  go_ret
  exact ⟨A2, c2, rfl, HO.out, HB2.out, h1, h2⟩
/-- The form of a box into which is put. -/
theorem PB.form {w : World} {R g : Nat} {l : List Int} (h : PB w R g l) : ∃ A c, Bx w g (.slice A l.length c) 0 ∧ Rd w .u8 w.heap.size A l ∧ l.length ≤ c ∧ c ≤ maxLen := by
  obtain ⟨v, hx, ho, hR, h3⟩ := h
  obtain ⟨A, c, rfl, h1, h2⟩ := own_form ho
  exact ⟨A, c, hx, Rd.own ho, h1, h2⟩
theorem done_put (w : World) (R g : Nat) (l : List Int) (h : PB w R g l) (hl : l.length ≤ 900000) : Calls Tryz.prog 43 #[.pointer (some ⟨g, 0, none⟩)] w (Owned w l) := by
  obtain ⟨A, c, hx, hr, _, _⟩ := h.form
  exact done_box w g _ A c l 0 hx hr (Nat.le_refl _) hl

/-- A slice of numbers that stays while is put. -/
def Src (w : World) (R : Nat) (A : Option Addr) (ns : List Int) : Prop :=
  ns ≠ [] → ∃ a, A = some a ∧ (a.block < R ∨ ∃ cs, w.heap[a.block]? = some (.cells cs 2 (0, 0))) ∧ ∀ j u, ns[j]? = some u → w.cell? (a.add j) = some (.int .i64 u)
theorem Src.at_ {w : World} {R : Nat} {A : Option Addr} {ns : List Int} (h : Src w R A ns) {j : Nat} (hj : j < ns.length) : ∃ a, A = some a ∧ w.cell? (a.add j) = some (.int .i64 ns[j]) := by
  obtain ⟨a, e, _, hc⟩ := h (fun e => by subst e; simp at hj)
  exact ⟨a, e, hc j _ (List.getElem?_eq_getElem hj)⟩
theorem Src.kept {w w' : World} {R : Nat} {A : Option Addr} {ns : List Int} (h : Src w R A ns) (hl : R ≤ w.heap.size) (hk : ∀ i, i < w.heap.size → (i < R ∨ ∃ cs, w.heap[i]? = some (.cells cs 2 (0, 0))) → w'.heap[i]? = w.heap[i]?) : Src w' R A ns := fun hn => by
  obtain ⟨a, e, hb, hc⟩ := h hn
  have hlt : a.block < w.heap.size := by
    rcases hb with hb | ⟨cs, hb⟩
    · omega
    · exact (Array.getElem?_eq_some_iff.1 hb).1
  have he := hk _ hlt hb
  have hb' : a.block < R ∨ ∃ cs, w'.heap[a.block]? = some (.cells cs 2 (0, 0)) := by
    rcases hb with hb | ⟨cs, hb⟩
    · exact .inl hb
    · exact .inr ⟨cs, he.trans hb⟩
  exact ⟨a, e, hb', fun j u hu => (World.cell?_of_block (by rw [ad_block]; exact he)).trans (hc j u hu)⟩

/-- What is put: the box behind it; what was below R is as it was, and so are blocks that are no bytes and no boxes. -/
structure Put (w : World) (R g : Nat) (l : List Int) (w' : World) : Prop where
  box : PB w' R g l
  below : Below R w w'
  rest : ∀ (i : Nat) (cs : Array Value) (t : TypeId), t ≠ 5 → t ≠ 109 → w.heap[i]? = some (.cells cs t (0, 0)) → w'.heap[i]? = w.heap[i]?
theorem Put.refl {w : World} {R g : Nat} {l : List Int} (h : PB w R g l) : Put w R g l w := ⟨h, Below.refl _ _, fun _ _ _ _ _ _ => rfl⟩
theorem Put.nums {w w' : World} {R g : Nat} {l : List Int} (h : Put w R g l w') (i : Nat) (cs : Array Value) (hi : w.heap[i]? = some (.cells cs 2 (0, 0))) : w'.heap[i]? = w.heap[i]? := h.rest i cs _ (by decide) (by decide) hi
theorem Put.src {w w' : World} {R g : Nat} {l : List Int} {A : Option Addr} {ns : List Int} (h : Put w R g l w') (hs : Src w R A ns) (hl : R ≤ w.heap.size) : Src w' R A ns :=
  hs.kept hl fun i _ hi => by
    rcases hi with hi | ⟨cs, hi⟩
    · exact h.below.block i hi
    · exact h.nums i cs hi

/-- One number more: a row that has grown is stored into the box. -/
theorem Put.step {w w0 w1 : World} {R g : Nat} {l l' l2 : List Int} {v v' : Value} (h : Put w R g l (boxed w0 g #[v, .int .i64 0] 109)) (ho : (boxed w0 g #[v, .int .i64 0] 109).ownsRow R 5 1 v l2.length (cl .u8 l2))
    (hg : Grew (boxed w0 g #[v, .int .i64 0] 109) R v l' v' (boxed w1 g #[v, .int .i64 0] 109)) (hlt : g < w1.heap.size) (h3 : ∀ x ∈ l', 0 ≤ x ∧ x < 256) :
    Put w R g l' (boxed w1 g #[v', .int .i64 0] 109) := by
  have hRg := h.box.lt
  have hR : R ≤ g := hRg.1
  have hg1 : (boxed w1 g #[v, .int .i64 0] 109).heap[g]? = some (.cells #[v, .int .i64 0] 109) := boxed_block hlt
  have hne : v'.ownBlock ≠ some g := own_ne hg.own hg1 (by decide)
  have hb := hg.below (l0 := l2) ho (by have := hRg.2; omega)
  refine ⟨⟨v', boxed_block hlt, own_kept hg.own fun i hi => ?_, hR, h3⟩, h.below.trans (hb.trans ⟨rfl, rfl, rfl, by simp, fun i hi => ?_⟩), fun i cs t g1 g2 hi => ?_⟩
  · have : i ≠ g := fun e => hne (by rw [← e]; exact hi)
    rw [boxed_block_other this, boxed_block_other this]
  · rw [boxed_block_other (by omega), boxed_block_other (by omega)]
  · have hi2 := (h.rest i cs t g1 g2 hi).trans hi
    have hig : i ≠ g := by
      rintro rfl
      rw [boxed_block (by have := hRg.2; rwa [boxed_size] at this)] at hi2
      injection hi2 with hi2
      injection hi2 with _ ht
      exact g2 ht.symm
    have hiv : v.ownBlock ≠ some i := own_ne ho hi2 g1.symm
    rw [boxed_block_other hig, ← boxed_block_other (w := w1) (cs := #[v, .int .i64 0]) (t := 109) hig, hg.grown.block i (Array.getElem?_eq_some_iff.1 hi2).1 (fun e => hiv e.symm), hi2, hi]

theorem own_shape {w : World} {base : Nat} {e : TypeId} {size : Nat} {v : Value} {n : Nat} {xs : List Value} (h : w.ownsRow base e size v n xs) : ∃ A n c, v = .slice A n c := by
  obtain ⟨A, c, e, _⟩ := own_form h
  exact ⟨A, n, c, e⟩

def PutP (w : World) (R g : Nat) (l : List Int) (e : Ending) (w' : World) : Prop := e = .returned (.pointer (some ⟨g, 0, none⟩)) ∧ Put w R g l w'

set_option maxHeartbeats 1000000 in
theorem put_any (w : World) (R g : Nat) (l : List Int) (A : Option Addr) (c : Nat) (ns : List Int) (h : PB w R g l) (hs : Src w R A ns) (hl : l.length ≤ 800000) (hn : ns.length ≤ 1000) (hi : I64 ns) :
    Calls Tryz.prog 40 #[.pointer (some ⟨g, 0, none⟩), .slice A ns.length c] w (PutP w R g (l ++ Pk.encs ns)) := by
  have hR : R ≤ w.heap.size := by have := h.lt; omega
  have H := Lib.hid h
  have HS := Lib.hid hs
  have HI := Lib.hid hi
  clear h hs hi
  go_enter Tryz.func40, Tryz.ntmps40
  go_wp2
  go_loopw [11] (fun t wr => ∃ k : Nat, k ≤ ns.length ∧ t = .int .i64 k ∧ Put w R g (l ++ Pk.encs (ns.take k)) wr) (fun t _ => ns.length - (intOf t).toNat)
  case atStart => exact ⟨0, by omega, rfl, by rw [List.take_zero, Pk.encs_nil, List.append_nil]; exact Put.refl H.out⟩
  case round =>
    obtain ⟨k, hk, rfl, hp⟩ := hrel
    have HP := Lib.hid hp
    clear hp
    by_cases hlt : k < ns.length
    · obtain ⟨a, rfl, hc⟩ := (HP.out.src HS.out hR).at_ hlt
      have hnk := HI.out _ (List.getElem_mem hlt)
      have HX := Lib.hid (encs_snoc hlt)
      have hsh := encs_short HI.out k hn
      have hl2 : (l ++ Pk.encs (ns.take k)).length ≤ 900000 := by rw [List.length_append]; omega
      obtain ⟨v, hx, ho, hRg, h3⟩ := HP.out.box
      obtain ⟨w0, rfl, hg⟩ := hx.boxed
      generalize ns[k] = x at *
      obtain ⟨x0, x1⟩ := hnk
      have HV := Lib.hid hx
      have HO := Lib.hid ho
      have H3 := Lib.hid h3
      clear hx ho h3
      go_wp2_with (fail)
      refine (appendNumber_any _ _ _ _ _ HO.out (by rw [boxed_size]; omega) hl2 x0 x1).mono ?_
      rintro e w1 ⟨v', rfl, hgr⟩
      obtain ⟨A2, n2, c2, rfl⟩ := own_shape hgr.own
      have hx1 : Bx w1 g v 0 := HV.out.kept (hgr.grown.block g (by rw [boxed_size]; exact hg) (fun e => own_ne HO.out HV.out (by decide) e.symm))
      obtain ⟨w2, rfl, hg2⟩ := hx1.boxed
      have HG := Lib.hid hgr
      clear hx1 hgr
      go_wp2
      go_roundw
      case rel =>
        refine ⟨k + 1, by omega, by go_num, ?_⟩
        rw [← HX.out, ← List.append_assoc]
        refine Put.step HP.out HO.out HG.out hg2 fun y hy => ?_
        rcases List.mem_append.1 hy with hy | hy
        · exact H3.out y hy
        · have := Pk.enc_range _ y hy; omega
      case measure => simp [intOf]; omega
    · obtain rfl : k = ns.length := by omega
      have HX : Hid (ns.take ns.length = ns) := List.take_length
      go_wp2
      go_ret
      exact ⟨rfl, by have := HP.out; rwa [HX.out] at this⟩
/-- A literal of one number. -/
theorem src_one (w : World) (R : Nat) (x : Int) : Src (w.alloc (.cells #[.int .i64 x] 2)) R (some ⟨w.heap.size, 0, none⟩) [x] := fun _ =>
  ⟨_, rfl, .inr ⟨_, alloc_block⟩, fun j u hu => cell_one_new w (.int .i64 x) 2 j (.int .i64 u) (by
    match j, hu with
    | 0, hu => simp at hu; subst hu; rfl)⟩
theorem PB.alloc {w : World} {R g : Nat} {l : List Int} (h : PB w R g l) (o : Obj) : PB (w.alloc o) R g l := h.below ((Below.refl _ _).alloc (Nat.le_refl _) o)
theorem Put.of_alloc {w w' : World} {R g : Nat} {l : List Int} {o : Obj} (h : Put (w.alloc o) R g l w') (hR : R ≤ w.heap.size) : Put w R g l w' :=
  ⟨h.box, ((Below.refl _ _).alloc hR o).trans h.below, fun i cs t g1 g2 hi => (h.rest i cs t g1 g2 ((alloc_block_old (Array.getElem?_eq_some_iff.1 hi).1).trans hi)).trans (alloc_block_old (Array.getElem?_eq_some_iff.1 hi).1)⟩
theorem Put.trans {w w1 w2 : World} {R g : Nat} {l l2 : List Int} (h : Put w R g l w1) (k : Put w1 R g l2 w2) : Put w R g l2 w2 :=
  ⟨k.box, h.below.trans k.below, fun i cs t g1 g2 hi => (k.rest i cs t g1 g2 ((h.rest i cs t g1 g2 hi).trans hi)).trans (h.rest i cs t g1 g2 hi)⟩
theorem put_one (w : World) (R g : Nat) (l : List Int) (x : Int) (m c : Nat) (hm : m = 1) (h : PB w R g l) (hl : l.length ≤ 800000) (h0 : -9223372036854775808 ≤ x) (h1 : x ≤ 9223372036854775807) :
    Calls Tryz.prog 40 #[.pointer (some ⟨g, 0, none⟩), .slice (some ⟨w.heap.size, 0, none⟩) m c] (w.alloc (.cells #[.int .i64 x] 2)) (PutP w R g (l ++ Pk.enc (Pk.zig x))) := by
  subst hm
  have hR : R ≤ w.heap.size := by have := h.lt; omega
  refine (put_any _ R g l _ c [x] (h.alloc _) (src_one w R x) hl (by simp) (fun n hn => by simp at hn; subst hn; exact ⟨h0, h1⟩)).mono fun e w' ⟨he, hp⟩ => ?_
  rw [Pk.encs_one] at hp
  exact ⟨he, hp.of_alloc hR⟩

set_option maxHeartbeats 400000 in
theorem flag_put (w : World) (R g : Nat) (l : List Int) (b : Bool) (h : PB w R g l) (hl : l.length ≤ 800000) :
    Calls Tryz.prog 74 #[.pointer (some ⟨g, 0, none⟩), .bool b] w (PutP w R g (l ++ Pk.enc (Pk.zig (if b = true then 1 else 0)))) := by
  have H := Lib.hid h
  clear h
  cases b
  all_goals
    go_enter Tryz.func74, Tryz.ntmps74
    go_wp2_with (go_at_call 40; refine (put_one _ _ _ _ _ _ _ rfl H.out hl (by omega) (by omega)).mono ?_; rintro e w' ⟨rfl, hp⟩)
    go_ret
    exact ⟨rfl, hp⟩
end Go.Proofs.YtblikgbcakgdnaaGreat
/-
  Contracts of the two functions that tell the number with which bytes begin: the program's and the document's. No conditions but that the bytes are bytes.
-/
namespace Go.Proofs.YtblikgbcakgdnaaGreat
open Go.ChangeShapes Go.WideShapes Go.ChangeAt Go.RowKit

namespace Pk
end Pk

/-- What dec tells, as three results. -/
def decV (l : List Int) : Value := .tuple #[.int .i64 (Pk.dec 0 0 l).1, .int .i64 ((Pk.dec 0 0 l).2.1 : Nat), .int .i64 (Pk.dec 0 0 l).2.2]
namespace Pk
end Pk

end Go.Proofs.YtblikgbcakgdnaaGreat
/-
  Contracts of a box's methods that tell and take: its fault, what is left, the next number, truth or bytes. No conditions but that the box is one, or nil.
-/
namespace Go.Proofs.YtblikgbcakgdnaaGreat
open Go.ChangeShapes Go.WideShapes Go.ChangeAt Go.RowKit

/-- What is told, and the box behind it. -/
def Got (w : World) (g : Nat) (n : Int) (l : List Int) (f : Int) (e : Ending) (w' : World) : Prop := e = .returned (.int .i64 n) ∧ w.grownBy w' (some g) ∧ GB w' g l f

def GotF (w : World) (g : Nat) (b : Bool) (l : List Int) (e : Ending) (w' : World) : Prop := e = .returned (.bool b) ∧ w.grownBy w' (some g) ∧ GB w' g l 0
def GotL (w : World) (g : Nat) (l : List Int) (f : Int) (e : Ending) (w' : World) : Prop := e = .returned (.slice none 0 0) ∧ w.grownBy w' (some g) ∧ GB w' g l f
def GotS (w : World) (g : Nat) (p l : List Int) (e : Ending) (w' : World) : Prop :=
  ∃ A c, e = .returned (.slice A p.length c) ∧ w.grownBy w' (some g) ∧ w'.ownsRow (g + 1) 5 1 (.slice A p.length c) p.length (cl .u8 p) ∧ GB w' g l 0

end Go.Proofs.YtblikgbcakgdnaaGreat
