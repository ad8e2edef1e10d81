/-
  Contract of order.Decode: of any bytes the order that they are, or that they are none. No conditions but that the bytes are bytes.
-/
import Derived.Test.YtambppcnmggocaaOrGet
namespace Go.Proofs.Ytambppcnmggocaa
set_option maxRecDepth 20000
open Go.ChangeShapes Go.WideShapes Go.ChangeAt Go.RowKit

theorem results_two {fn : Func} {p q : Tmp} (h : fn.results = #[.cell p 27, .tmp q]) (tmps : Array Value) (w : World) (g : Nat) (t : TypeId) (cs : Array Value) (fr : Nat × Nat) (v : Value)
    (hp : tmps.getD p undef = .pointer (some ⟨g, 0, none⟩)) (hq : tmps.getD q undef = v) (hg : w.heap[g]? = some (.cells cs t fr)) (hs : cs.size = 16) :
    (results fn tmps).run Try.prog w = .ok (.tuple #[.agg cs, v]) w := by
  have hp' : tmps[p]?.getD undef = .pointer (some ⟨g, 0, none⟩) := by simpa using hp
  have hq' : tmps[q]?.getD undef = v := by simpa using hq
  have hl := run_loadVar_row (P := Try.prog) w g t 27 cs fr _ hg Try.underlying27 rfl (by rw [info16, hs])
  simp [results, h, hp', hq', asAddr, hl]
/-- What Decode gets behind the kind. -/
def Ov.Gets (k : Int) (l : List Int) (f : Int) (o : Ov) (l' : List Int) (f' : Int) : Prop :=
  (nm k = 0 ∧ o = ⟨k, 0, 0, 0, Pv.zero, Nv.zero⟩ ∧ l' = l ∧ f' = f) ∨
  (nm k = 1 ∧ ∃ P, Pv.Got l f P l' f' ∧ o = ⟨k, 0, 0, 0, P, Nv.zero⟩) ∨
  (nm k = 2 ∧ ∃ s p, Go.Proofs.Ytambppcnmggocaa.Gets [(0, 31), (0, 7)] l f [s, p] l' f' ∧ o = ⟨k, s, p, 0, Pv.zero, Nv.zero⟩) ∨
  (nm k = 3 ∧ ∃ s, Go.Proofs.Ytambppcnmggocaa.Gets [(0, 31)] l f [s] l' f' ∧ o = ⟨k, s, 0, 0, Pv.zero, Nv.zero⟩) ∨
  (nm k = 4 ∧ ∃ n, Go.Proofs.Ytambppcnmggocaa.Gets [(1, 60)] l f [n] l' f' ∧ o = ⟨k, 0, 0, n, Pv.zero, Nv.zero⟩) ∨
  (nm k = 5 ∧ ∃ A, Nv.Got l f A l' f' ∧ o = ⟨k, 0, 0, 0, Pv.zero, A⟩)
theorem Ov.Gets.fault {k f f' : Int} {l l' : List Int} {o : Ov} (h : Ov.Gets k l f o l' f') (hf : f ≠ 0) : f' ≠ 0 := by
  rcases h with ⟨_, _, _, rfl⟩ | ⟨_, P, h, _⟩ | ⟨_, s, p, h, _⟩ | ⟨_, s, h, _⟩ | ⟨_, s, h, _⟩ | ⟨_, A, h, _⟩
  · exact hf
  · exact h.fault hf
  · rw [h.fault hf]; exact hf
  · rw [h.fault hf]; exact hf
  · rw [h.fault hf]; exact hf
  · exact h.fault hf
theorem Ov.Gets.ok {k f : Int} {l l' : List Int} {o : Ov} (h : Ov.Gets k l f o l' 0) (h0 : ∀ x ∈ l, 0 ≤ x) (hr : o.right = 0) (hk : 0 ≤ k ∧ k ≤ 10) : f = 0 ∧ o.k = k ∧ o.Wf ∧ l = o.rest ++ l' := by
  have z : Pv.zero.Wf ∧ Nv.zero.Wf := ⟨⟨⟨by decide, by decide⟩, ⟨by decide, by decide⟩, ⟨by decide, by decide⟩, ⟨by decide, by decide⟩⟩, ⟨⟨by decide, by decide⟩, ⟨by decide, by decide⟩, ⟨by decide, by decide⟩, ⟨by decide, by decide⟩, ⟨by decide, by decide⟩, ⟨by decide, by decide⟩⟩⟩
  have m : ∀ x : Int, 0 ≤ x → x ≤ 1000000 → -9223372036854775808 ≤ x ∧ x ≤ 9223372036854775807 := fun x h0 h1 => by omega
  have m0 : -9223372036854775808 ≤ (0 : Int) ∧ (0 : Int) ≤ 9223372036854775807 := by omega
  rcases h with ⟨hn, rfl, _, _⟩ | ⟨hn, P, h, rfl⟩ | ⟨hn, s, p, h, rfl⟩ | ⟨hn, s, h, rfl⟩ | ⟨hn, s, h, rfl⟩ | ⟨hn, A, h, rfl⟩
  · exact absurd (num_0 hn (right_zero hr).1) id
  · obtain ⟨e, hp, hl⟩ := h.ok h0
    refine ⟨e, rfl, ⟨by dsimp only; omega, m0, m0, m0, ?_, z.2⟩, ?_⟩
    · obtain ⟨h1, h2, h3, h4⟩ := hp
      exact ⟨by dsimp only; omega, by dsimp only; omega, by dsimp only; omega, by dsimp only; omega⟩
    · unfold Ov.rest; rw [if_pos hn]; exact hl
  · obtain ⟨e, hi, hl⟩ := h.ok h0
    obtain ⟨h1, h2, _⟩ := hi
    refine ⟨e, rfl, ⟨by dsimp only; omega, m s h1.1 (by omega), m p h2.1 (by omega), m0, z.1, z.2⟩, ?_⟩
    unfold Ov.rest; simp only [hn, Int.reduceEq, if_true, if_false]; exact hl
  · obtain ⟨e, hi, hl⟩ := h.ok h0
    obtain ⟨h1, _⟩ := hi
    refine ⟨e, rfl, ⟨by dsimp only; omega, m s h1.1 (by omega), m0, m0, z.1, z.2⟩, ?_⟩
    unfold Ov.rest; simp only [hn, Int.reduceEq, if_true, if_false]; exact hl
  · obtain ⟨e, hi, hl⟩ := h.ok h0
    obtain ⟨h1, _⟩ := hi
    refine ⟨e, rfl, ⟨by dsimp only; omega, m0, m0, m s (by omega) (by omega), z.1, z.2⟩, ?_⟩
    unfold Ov.rest; simp only [hn, Int.reduceEq, if_true, if_false]; exact hl
  · obtain ⟨e, hp, hl⟩ := h.ok h0
    refine ⟨e, rfl, ⟨by dsimp only; omega, m0, m0, m0, z.1, ?_⟩, ?_⟩
    · obtain ⟨h1, h2, h3, h4, h5, h6, h7, h8, h9, h10, h11, h12⟩ := hp
      exact ⟨by dsimp only; omega, by dsimp only; omega, by dsimp only; omega, by dsimp only; omega, by dsimp only; omega, by dsimp only; omega⟩
    · unfold Ov.rest; simp only [hn, Int.reduceEq, if_true, if_false]; exact hl
theorem Ov.Gets.go {f' : Int} {r l' : List Int} {o m : Ov} (h : Ov.Gets m.k (m.rest ++ r) 0 o l' f') (hm : m.right = 0) (hw : 0 ≤ m.P.u) : o = m ∧ l' = r ∧ f' = 0 := by
  obtain ⟨hN, he, hp⟩ := right_zero hm
  rcases h with ⟨hn, rfl, _, _⟩ | ⟨hn, P, h, rfl⟩ | ⟨hn, s, p, h, rfl⟩ | ⟨hn, s, h, rfl⟩ | ⟨hn, s, h, rfl⟩ | ⟨hn, A, h, rfl⟩
  · exact absurd (num_0 hn hN) id
  · have hb := pn_zero (hp (nm_one hn))
    rw [show m.rest = m.P.bytes by unfold Ov.rest; rw [if_pos hn]; rfl] at h
    obtain ⟨rfl, rfl, rfl⟩ := h.go ⟨⟨by omega, by omega⟩, ⟨hw, by omega⟩, ⟨by omega, by omega⟩, ⟨by omega, by omega⟩⟩
    refine ⟨?_, rfl, rfl⟩
    rw [he]; unfold Ov.named; rw [if_pos hn]
  · have hb := num_2 hn hN
    rw [show m.rest = Pk.encs [m.s, m.p] by unfold Ov.rest; simp only [hn, Int.reduceEq, if_true, if_false]] at h
    obtain ⟨e, rfl, rfl⟩ := h.go (by intro x hx; simp only [List.mem_cons, List.not_mem_nil, or_false] at hx; rcases hx with rfl | rfl <;> omega) ⟨⟨by omega, by omega⟩, ⟨by omega, by omega⟩, trivial⟩
    simp only [List.cons.injEq, and_true] at e
    obtain ⟨rfl, rfl⟩ := e
    refine ⟨?_, rfl, rfl⟩
    rw [he]; unfold Ov.named; simp only [hn, Int.reduceEq, if_true, if_false]
  · have hb := num_3 hn hN
    rw [show m.rest = Pk.encs [m.s] by unfold Ov.rest; simp only [hn, Int.reduceEq, if_true, if_false]] at h
    obtain ⟨e, rfl, rfl⟩ := h.go (by intro x hx; simp only [List.mem_cons, List.not_mem_nil, or_false] at hx; subst hx; omega) ⟨⟨by omega, by omega⟩, trivial⟩
    simp only [List.cons.injEq, and_true] at e
    subst e
    refine ⟨?_, rfl, rfl⟩
    rw [he]; unfold Ov.named; simp only [hn, Int.reduceEq, if_true, if_false]
  · have hb := num_4 hn hN
    rw [show m.rest = Pk.encs [m.n] by unfold Ov.rest; simp only [hn, Int.reduceEq, if_true, if_false]] at h
    obtain ⟨e, rfl, rfl⟩ := h.go (by intro x hx; simp only [List.mem_cons, List.not_mem_nil, or_false] at hx; subst hx; omega) ⟨⟨by omega, by omega⟩, trivial⟩
    simp only [List.cons.injEq, and_true] at e
    subst e
    refine ⟨?_, rfl, rfl⟩
    rw [he]; unfold Ov.named; simp only [hn, Int.reduceEq, if_true, if_false]
  · have hb := num_5 hn hN
    rw [show m.rest = m.A.bytes by unfold Ov.rest; simp only [hn, Int.reduceEq, if_true, if_false]] at h
    obtain ⟨rfl, rfl, rfl⟩ := h.go hb.ok
    refine ⟨?_, rfl, rfl⟩
    rw [he]; unfold Ov.named; simp only [hn, Int.reduceEq, if_true, if_false]
/-- What Decode tells of bytes. -/
def Ov.Dec (l : List Int) (o : Ov) (e : Int) : Prop := (e = 0 ∧ o.right = 0 ∧ o.Wf ∧ l = o.bytes) ∨ (e = 4 ∧ o = Ov.zero ∧ ∀ m : Ov, m.right = 0 → 0 ≤ m.P.u → l ≠ m.bytes)
theorem Ov.Dec.yes {k f : Int} {l l1 : List Int} {o : Ov} (h1 : Pk.Step 1 10 l 0 k l1 f) (h2 : Ov.Gets k l1 f o [] 0) (hr : o.right = 0) (h0 : ∀ x ∈ l, 0 ≤ x) : Ov.Dec l o 0 := by
  have hk := h1.range (by omega) (by omega)
  obtain ⟨rfl, ek, hw, hl⟩ := h2.ok (fun x hx => h0 x (h1.mem x hx)) hr hk
  obtain ⟨_, _, _, e⟩ := h1.ok h0
  refine .inl ⟨rfl, hr, hw, ?_⟩
  rw [e, hl, List.append_nil, ← ek]; rfl
theorem Ov.Dec.no {k f f' : Int} {l l1 l' : List Int} {o : Ov} (h1 : Pk.Step 1 10 l 0 k l1 f) (h2 : Ov.Gets k l1 f o l' f') (hr : f' ≠ 0 ∨ l' ≠ [] ∨ o.right ≠ 0) : Ov.Dec l Ov.zero 4 := by
  refine .inr ⟨rfl, rfl, fun m hm hu hl => ?_⟩
  subst hl
  have hk := num_range (right_zero hm).1
  unfold Ov.bytes at h1
  obtain ⟨rfl, rfl, rfl⟩ := h1.go (by omega) (by omega) hk.1 hk.2
  rw [← List.append_nil m.rest] at h2
  obtain ⟨rfl, rfl, rfl⟩ := h2.go hm hu
  rcases hr with h | h | h
  · exact h rfl
  · exact h rfl
  · exact h hm

set_option maxHeartbeats 4000000 in
theorem decode_any (w : World) (A : Option Addr) (n c : Nat) (l : List Int) (hr : Rd w .u8 w.heap.size A l) (hl : l.length ≤ 900000) (hb : ∀ x ∈ l, 0 ≤ x ∧ x < 256) (hm : l.length = n) :
    Calls Try.prog 18 #[.slice A n c] w fun x w' => ∃ (o : Ov) (e : Int), x = .returned (.tuple #[o.val, .int .i64 e]) ∧ Ov.Dec l o e ∧ Below w.heap.size w w' := by
  have HR0 := Lib.hid hr
  have HM := Lib.hid hm
  have HBO := Lib.hid hb
  clear hr hm hb
  go_enter Try.func18, Try.ntmps18
  have HB : Hid (Below w.heap.size w (w.alloc (Obj.cells #[.int .u8 0, .int .i64 0, .int .i64 0, .int .i64 0, .int .i64 0, .int .u8 0, .int .i64 0, .int .i64 0, .bool false, .bool false, .int .u8 0, .int .i64 0, .int .i64 0, .int .i64 0, .int .i64 0, .int .u8 0] 27))) := (Below.refl _ w).alloc (Nat.le_refl _) _
  have HZ : Hid ((w.alloc (Obj.cells #[.int .u8 0, .int .i64 0, .int .i64 0, .int .i64 0, .int .i64 0, .int .u8 0, .int .i64 0, .int .i64 0, .bool false, .bool false, .int .u8 0, .int .i64 0, .int .i64 0, .int .i64 0, .int .i64 0, .int .u8 0] 27)).heap[w.heap.size]? = some (Obj.cells #[.int .u8 0, .int .i64 0, .int .i64 0, .int .i64 0, .int .i64 0, .int .u8 0, .int .i64 0, .int .i64 0, .bool false, .bool false, .int .u8 0, .int .i64 0, .int .i64 0, .int .i64 0, .int .i64 0, .int .u8 0] 27)) := alloc_block
  have HS : Hid (w.heap.size < (w.alloc (Obj.cells #[.int .u8 0, .int .i64 0, .int .i64 0, .int .i64 0, .int .i64 0, .int .u8 0, .int .i64 0, .int .i64 0, .bool false, .bool false, .int .u8 0, .int .i64 0, .int .i64 0, .int .i64 0, .int .i64 0, .int .u8 0] 27)).heap.size) := by show w.heap.size < (w.alloc (Obj.cells #[.int .u8 0, .int .i64 0, .int .i64 0, .int .i64 0, .int .i64 0, .int .u8 0, .int .i64 0, .int .i64 0, .bool false, .bool false, .int .u8 0, .int .i64 0, .int .i64 0, .int .i64 0, .int .i64 0, .int .u8 0] 27)).heap.size; simp
  go_wp2_with (fail)
  generalize w.alloc (Obj.cells #[.int .u8 0, .int .i64 0, .int .i64 0, .int .i64 0, .int .i64 0, .int .u8 0, .int .i64 0, .int .i64 0, .bool false, .bool false, .int .u8 0, .int .i64 0, .int .i64 0, .int .i64 0, .int .i64 0, .int .u8 0] 27) = W at *
  refine (of_len A w.heap.size c n l W (HR0.out.below HB.out) (Nat.le_of_lt HS.out) hl HBO.out HM.out).mono ?_
  rintro x w1 ⟨gb, rfl, hg1, hb1, hlt1⟩
  have HG1 := Lib.hid hg1
  have hgb : w.heap.size < gb := Nat.lt_of_lt_of_le HS.out hlt1
  have HW1 : Hid (Below w.heap.size w w1) := Lib.hid (HB.out.trans (hb1.mono HB.out.size))
  have HR1 : Hid (w1.heap[w.heap.size]? = some (Obj.cells #[.int .u8 0, .int .i64 0, .int .i64 0, .int .i64 0, .int .i64 0, .int .u8 0, .int .i64 0, .int .i64 0, .bool false, .bool false, .int .u8 0, .int .i64 0, .int .i64 0, .int .i64 0, .int .i64 0, .int .u8 0] 27 (0, 0))) := Lib.hid ((hb1.block _ HS.out).trans HZ.out)
  clear hg1 hb1 hlt1 HB HZ
  go_wp2_with (fail)
  refine (get_any _ _ _ _ _ _ HG1.out).mono ?_
  rintro x w2 ⟨k, l1, f1, rfl, hs1, hg2, hb2⟩
  have hkr := hs1.range (by omega) (by omega)
  obtain ⟨hk0, hk10⟩ := hkr
  have HS1 := Lib.hid hs1
  have hgl := hb2.lt
  have HG3 : Hid (GB (w2.alloc (.cells #[.int .u8 k, .int .i64 0, .int .i64 0, .int .i64 0, .int .i64 0, .int .u8 0, .int .i64 0, .int .i64 0, .bool false, .bool false, .int .u8 0, .int .i64 0, .int .i64 0, .int .i64 0, .int .i64 0, .int .u8 0] 27)) gb l1 f1) := Lib.hid (hb2.more ((Below.refl _ _).alloc (Nat.le_refl _) _))
  have HW3 : Hid (Below w.heap.size w (w2.alloc (.cells #[.int .u8 k, .int .i64 0, .int .i64 0, .int .i64 0, .int .i64 0, .int .u8 0, .int .i64 0, .int .i64 0, .bool false, .bool false, .int .u8 0, .int .i64 0, .int .i64 0, .int .i64 0, .int .i64 0, .int .u8 0] 27))) := Lib.hid ((HW1.out.trans (grown_below hg2 (Nat.le_of_lt hgb) HW1.out.size)).trans ((Below.refl _ _).alloc (HW1.out.trans (grown_below hg2 (Nat.le_of_lt hgb) HW1.out.size)).size _))
  have HZ3 : Hid ((w2.alloc (.cells #[.int .u8 k, .int .i64 0, .int .i64 0, .int .i64 0, .int .i64 0, .int .u8 0, .int .i64 0, .int .i64 0, .bool false, .bool false, .int .u8 0, .int .i64 0, .int .i64 0, .int .i64 0, .int .i64 0, .int .u8 0] 27)).heap[w2.heap.size]? = some (.cells #[.int .u8 k, .int .i64 0, .int .i64 0, .int .i64 0, .int .i64 0, .int .u8 0, .int .i64 0, .int .i64 0, .bool false, .bool false, .int .u8 0, .int .i64 0, .int .i64 0, .int .i64 0, .int .i64 0, .int .u8 0] 27 (0, 0))) := Lib.hid alloc_block
  have HL3 : Hid (w2.heap.size < (w2.alloc (.cells #[.int .u8 k, .int .i64 0, .int .i64 0, .int .i64 0, .int .i64 0, .int .u8 0, .int .i64 0, .int .i64 0, .bool false, .bool false, .int .u8 0, .int .i64 0, .int .i64 0, .int .i64 0, .int .i64 0, .int .u8 0] 27)).heap.size) := Lib.hid (by simp)
  have HLR : w.heap.size < w2.heap.size := Nat.lt_trans hgb hgl
  have HR3 : Hid ((w2.alloc (.cells #[.int .u8 k, .int .i64 0, .int .i64 0, .int .i64 0, .int .i64 0, .int .u8 0, .int .i64 0, .int .i64 0, .bool false, .bool false, .int .u8 0, .int .i64 0, .int .i64 0, .int .i64 0, .int .i64 0, .int .u8 0] 27)).heap[w.heap.size]? = some (.cells #[.int .u8 0, .int .i64 0, .int .i64 0, .int .i64 0, .int .i64 0, .int .u8 0, .int .i64 0, .int .i64 0, .bool false, .bool false, .int .u8 0, .int .i64 0, .int .i64 0, .int .i64 0, .int .i64 0, .int .u8 0] 27 (0, 0))) := Lib.hid ((alloc_block_old HLR).trans ((hg2.block _ (Nat.lt_trans hgb HG1.out.lt) (by intro e; injection e; omega)).trans HR1.out))
  have hwk : IntKind.u8.wrap k = k := by simp [IntKind.wrap, IntKind.bits, IntKind.signed]; omega
  clear hs1 hg2 hb2
  go_wp2_with (fail)
  generalize w2.alloc (.cells #[.int .u8 k, .int .i64 0, .int .i64 0, .int .i64 0, .int .i64 0, .int .u8 0, .int .i64 0, .int .i64 0, .bool false, .bool false, .int .u8 0, .int .i64 0, .int .i64 0, .int .i64 0, .int .i64 0, .int .u8 0] 27) = w3 at *
  refine nm_ways k ?_ ?_ ?_ ?_ ?_ ?_
  · intro hn hk1
    have HN := Lib.hid hn
    clear hn
    clear hk1
    refine (names_is _ _ _ HN.out).mono ?_
    rintro e w' ⟨rfl, rfl⟩
    go_wp2_with (fail)
    have HO : Hid (Ov.Gets k l1 f1 ⟨k, 0, 0, 0, Pv.zero, Nv.zero⟩ l1 f1) := Lib.hid (.inl ⟨HN.out, rfl, rfl, rfl⟩)
    clear HN 
    refine (end_any _ _ _ _ HG3.out).mono ?_
    rintro x w9 ⟨⟨X, rfl, hX⟩, rfl⟩
    have hB9 : w3.heap[w2.heap.size]? = some (.cells #[.int .u8 k, .int .i64 0, .int .i64 0, .int .i64 0, .int .i64 0, .int .u8 0, .int .i64 0, .int .i64 0, .bool false, .bool false, .int .u8 0, .int .i64 0, .int .i64 0, .int .i64 0, .int .i64 0, .int .u8 0] 27 (0, 0)) := HZ3.out
    have hR9 : w3.heap[w.heap.size]? = some (.cells #[.int .u8 0, .int .i64 0, .int .i64 0, .int .i64 0, .int .i64 0, .int .u8 0, .int .i64 0, .int .i64 0, .bool false, .bool false, .int .u8 0, .int .i64 0, .int .i64 0, .int .i64 0, .int .i64 0, .int .u8 0] 27 (0, 0)) := HR3.out
    have hW9 : Below w.heap.size w w3 := HW3.out
    have hs9 : w2.heap.size < w3.heap.size := HL3.out
    generalize w3 = w9 at *
    rcases hX with ⟨rfl, hf, hl'⟩ | ⟨hx, hf⟩
    · subst hf hl'
      go_wp2_with (first | (with_reducible_and_instances (show wpList _ _ _ (Oper.mk _ (Op.load 27 _) _ _ _ _ :: _) _ _); refine wl_load Try.underlying27 rfl info16 rfl rfl rfl (by (repeat (first | assumption | (with_reducible refine alloc_at ?_; (focus (first | omega | (simp; done) | (simp; omega)))) | (with_reducible refine boxed_at ?_; (focus (first | omega | (simp; done) | (simp; omega)))) | (with_reducible refine alloc_old ?_ ?_; (focus (first | omega | (simp; done) | (simp; omega)))) | (with_reducible refine boxed_old ?_ ?_; (focus (first | omega | (simp; done) | (simp; omega)))) | (with_reducible refine drew_old ?_)))) (by rfl) ?_))
      obtain ⟨y, hy⟩ : ∃ y, Ov.right ⟨k, 0, 0, 0, Pv.zero, Nv.zero⟩ = y := ⟨_, rfl⟩
      have HY := Lib.hid hy
      refine (oright_any k 0 0 0 0 0 0 0 false false 0 0 0 0 0 0 _).mono ?_
      rw [show Ov.right ⟨k, 0, 0, 0, ⟨0, 0, 0, 0, false, false⟩, ⟨0, 0, 0, 0, 0, 0⟩⟩ = y from hy]
      clear hy
      rintro x w10 ⟨rfl, hb10⟩
      have hB10 := (hb10.block _ hs9).trans hB9
      have hR10 := (hb10.block _ (Nat.lt_trans HLR hs9)).trans hR9
      have hW10 := hW9.trans (hb10.mono hW9.size)
      have hs10 : w2.heap.size < w10.heap.size := Nat.lt_of_lt_of_le hs9 hb10.size
      clear hb10
      by_cases d : y = 0
      · subst d
        go_wp2_with (first | (with_reducible_and_instances (show wpList _ _ _ (Oper.mk _ (Op.load 27 _) _ _ _ _ :: _) _ _); refine wl_load Try.underlying27 rfl info16 rfl rfl rfl (by (repeat (first | assumption | (with_reducible refine alloc_at ?_; (focus (first | omega | (simp; done) | (simp; omega)))) | (with_reducible refine boxed_at ?_; (focus (first | omega | (simp; done) | (simp; omega)))) | (with_reducible refine alloc_old ?_ ?_; (focus (first | omega | (simp; done) | (simp; omega)))) | (with_reducible refine boxed_old ?_ ?_; (focus (first | omega | (simp; done) | (simp; omega)))) | (with_reducible refine drew_old ?_)))) (by rfl) ?_) | (with_reducible_and_instances (show wpList _ _ _ (Oper.mk _ (Op.store 27 _ _) _ _ _ _ :: _) _ _); refine wl_store info16 rfl rfl rfl rfl (by (repeat (first | assumption | (with_reducible refine alloc_at ?_; (focus (first | omega | (simp; done) | (simp; omega)))) | (with_reducible refine boxed_at ?_; (focus (first | omega | (simp; done) | (simp; omega)))) | (with_reducible refine alloc_old ?_ ?_; (focus (first | omega | (simp; done) | (simp; omega)))) | (with_reducible refine boxed_old ?_ ?_; (focus (first | omega | (simp; done) | (simp; omega)))) | (with_reducible refine drew_old ?_)))) (by rfl) (by rfl) (by simp [Value.oneCell']) ?_))
        refine bodyPost_ret (v := .tuple #[.agg #[.int .u8 k, .int .i64 0, .int .i64 0, .int .i64 0, .int .i64 0, .int .u8 0, .int .i64 0, .int .i64 0, .bool false, .bool false, .int .u8 0, .int .i64 0, .int .i64 0, .int .i64 0, .int .i64 0, .int .u8 0], .int .i64 0]) (results_two rfl _ _ w.heap.size 27 _ (0, 0) (.int .i64 0) rfl rfl (by (repeat (first | assumption | (with_reducible refine alloc_at ?_; (focus (first | omega | (simp; done) | (simp; omega)))) | (with_reducible refine boxed_at ?_; (focus (first | omega | (simp; done) | (simp; omega)))) | (with_reducible refine alloc_old ?_ ?_; (focus (first | omega | (simp; done) | (simp; omega)))) | (with_reducible refine boxed_old ?_ ?_; (focus (first | omega | (simp; done) | (simp; omega)))) | (with_reducible refine drew_old ?_)))) rfl) rfl ⟨⟨k, 0, 0, 0, Pv.zero, Nv.zero⟩, 0, rfl, Ov.Dec.yes HS1.out HO.out HY.out (fun x hx => (HBO.out x hx).1), by (repeat (first | assumption | (with_reducible exact Below.refl _ _) | (with_reducible refine boxed_below ?_ ?_; rotate_left; (focus (first | omega | (simp; done) | (simp; omega)))) | (with_reducible refine Below.alloc ?_ ?_ _; rotate_left; (focus (first | omega | (simp; done) | (simp; omega)))) | (with_reducible refine Below.drew ?_)))⟩
      · have z : (y != 0) = true := by simpa using d
        have HD := Lib.hid d
        clear d
        go_wp2_with (first | (with_reducible_and_instances (show wpList _ _ _ (Oper.mk _ (Op.load 27 _) _ _ _ _ :: _) _ _); refine wl_load Try.underlying27 rfl info16 rfl rfl rfl (by (repeat (first | assumption | (with_reducible refine alloc_at ?_; (focus (first | omega | (simp; done) | (simp; omega)))) | (with_reducible refine boxed_at ?_; (focus (first | omega | (simp; done) | (simp; omega)))) | (with_reducible refine alloc_old ?_ ?_; (focus (first | omega | (simp; done) | (simp; omega)))) | (with_reducible refine boxed_old ?_ ?_; (focus (first | omega | (simp; done) | (simp; omega)))) | (with_reducible refine drew_old ?_)))) (by rfl) ?_) | (with_reducible_and_instances (show wpList _ _ _ (Oper.mk _ (Op.store 27 _ _) _ _ _ _ :: _) _ _); refine wl_store info16 rfl rfl rfl rfl (by (repeat (first | assumption | (with_reducible refine alloc_at ?_; (focus (first | omega | (simp; done) | (simp; omega)))) | (with_reducible refine boxed_at ?_; (focus (first | omega | (simp; done) | (simp; omega)))) | (with_reducible refine alloc_old ?_ ?_; (focus (first | omega | (simp; done) | (simp; omega)))) | (with_reducible refine boxed_old ?_ ?_; (focus (first | omega | (simp; done) | (simp; omega)))) | (with_reducible refine drew_old ?_)))) (by rfl) (by rfl) (by simp [Value.oneCell']) ?_))
        refine bodyPost_ret (v := .tuple #[.agg #[.int .u8 0, .int .i64 0, .int .i64 0, .int .i64 0, .int .i64 0, .int .u8 0, .int .i64 0, .int .i64 0, .bool false, .bool false, .int .u8 0, .int .i64 0, .int .i64 0, .int .i64 0, .int .i64 0, .int .u8 0], .int .i64 4]) (results_two rfl _ _ w.heap.size 27 _ (0, 0) (.int .i64 4) rfl rfl (by (repeat (first | assumption | (with_reducible refine alloc_at ?_; (focus (first | omega | (simp; done) | (simp; omega)))) | (with_reducible refine boxed_at ?_; (focus (first | omega | (simp; done) | (simp; omega)))) | (with_reducible refine alloc_old ?_ ?_; (focus (first | omega | (simp; done) | (simp; omega)))) | (with_reducible refine boxed_old ?_ ?_; (focus (first | omega | (simp; done) | (simp; omega)))) | (with_reducible refine drew_old ?_)))) rfl) rfl ⟨Ov.zero, 4, rfl, Ov.Dec.no HS1.out HO.out (.inr (.inr (by rw [HY.out]; exact HD.out))), by (repeat (first | assumption | (with_reducible exact Below.refl _ _) | (with_reducible refine boxed_below ?_ ?_; rotate_left; (focus (first | omega | (simp; done) | (simp; omega)))) | (with_reducible refine Below.alloc ?_ ?_ _; rotate_left; (focus (first | omega | (simp; done) | (simp; omega)))) | (with_reducible refine Below.drew ?_)))⟩
    · have z : (X != 0) = true := by simpa using hx
      have HF := Lib.hid hf
      clear hf hx
      go_wp2_with (first | (with_reducible_and_instances (show wpList _ _ _ (Oper.mk _ (Op.load 27 _) _ _ _ _ :: _) _ _); refine wl_load Try.underlying27 rfl info16 rfl rfl rfl (by (repeat (first | assumption | (with_reducible refine alloc_at ?_; (focus (first | omega | (simp; done) | (simp; omega)))) | (with_reducible refine boxed_at ?_; (focus (first | omega | (simp; done) | (simp; omega)))) | (with_reducible refine alloc_old ?_ ?_; (focus (first | omega | (simp; done) | (simp; omega)))) | (with_reducible refine boxed_old ?_ ?_; (focus (first | omega | (simp; done) | (simp; omega)))) | (with_reducible refine drew_old ?_)))) (by rfl) ?_) | (with_reducible_and_instances (show wpList _ _ _ (Oper.mk _ (Op.store 27 _ _) _ _ _ _ :: _) _ _); refine wl_store info16 rfl rfl rfl rfl (by (repeat (first | assumption | (with_reducible refine alloc_at ?_; (focus (first | omega | (simp; done) | (simp; omega)))) | (with_reducible refine boxed_at ?_; (focus (first | omega | (simp; done) | (simp; omega)))) | (with_reducible refine alloc_old ?_ ?_; (focus (first | omega | (simp; done) | (simp; omega)))) | (with_reducible refine boxed_old ?_ ?_; (focus (first | omega | (simp; done) | (simp; omega)))) | (with_reducible refine drew_old ?_)))) (by rfl) (by rfl) (by simp [Value.oneCell']) ?_))
      refine bodyPost_ret (v := .tuple #[.agg #[.int .u8 0, .int .i64 0, .int .i64 0, .int .i64 0, .int .i64 0, .int .u8 0, .int .i64 0, .int .i64 0, .bool false, .bool false, .int .u8 0, .int .i64 0, .int .i64 0, .int .i64 0, .int .i64 0, .int .u8 0], .int .i64 4]) (results_two rfl _ _ w.heap.size 27 _ (0, 0) (.int .i64 4) rfl rfl (by (repeat (first | assumption | (with_reducible refine alloc_at ?_; (focus (first | omega | (simp; done) | (simp; omega)))) | (with_reducible refine boxed_at ?_; (focus (first | omega | (simp; done) | (simp; omega)))) | (with_reducible refine alloc_old ?_ ?_; (focus (first | omega | (simp; done) | (simp; omega)))) | (with_reducible refine boxed_old ?_ ?_; (focus (first | omega | (simp; done) | (simp; omega)))) | (with_reducible refine drew_old ?_)))) rfl) rfl ⟨Ov.zero, 4, rfl, Ov.Dec.no HS1.out HO.out (HF.out.elim .inl (fun h => .inr (.inl h))), by (repeat (first | assumption | (with_reducible exact Below.refl _ _) | (with_reducible refine boxed_below ?_ ?_; rotate_left; (focus (first | omega | (simp; done) | (simp; omega)))) | (with_reducible refine Below.alloc ?_ ?_ _; rotate_left; (focus (first | omega | (simp; done) | (simp; omega)))) | (with_reducible refine Below.drew ?_)))⟩
  · intro hn hk1
    have HN := Lib.hid hn
    clear hn
    subst hk1
    refine (names_is _ _ _ HN.out).mono ?_
    rintro e w' ⟨rfl, rfl⟩
    go_wp2_with (fail)
    refine (plgetA_any _ _ _ _ HG3.out).mono ?_
    rintro x w4 ⟨⟨a, u, e, t, g, q⟩, l2, f2, rfl, hs2, hg4, hb4⟩
    have HS2 := Lib.hid hs2
    have HG4 := Lib.hid hb4
    have HW4 : Hid (w3.grownBy w4 (some gb)) := Lib.hid (hg4)
    clear hs2 hg4 hb4
    dsimp only [Pv.val]
    have HO : Hid (Ov.Gets 1 l1 f1 ⟨1, 0, 0, 0, ⟨a, u, e, t, g, q⟩, Nv.zero⟩ l2 f2) := Lib.hid (.inr (.inl ⟨HN.out, _, HS2.out, rfl⟩))
    clear HN HS2
    have hz : w4.heap[w2.heap.size]? = some (.cells #[.int .u8 1, .int .i64 0, .int .i64 0, .int .i64 0, .int .i64 0, .int .u8 0, .int .i64 0, .int .i64 0, .bool false, .bool false, .int .u8 0, .int .i64 0, .int .i64 0, .int .i64 0, .int .i64 0, .int .u8 0] 27 (0, 0)) := (HW4.out.block _ HL3.out (by intro e; injection e; omega)).trans HZ3.out
    have hs : w2.heap.size < w4.heap.size := Nat.lt_of_lt_of_le HL3.out HW4.out.size
    have HGW : Hid (Below w.heap.size w w4) := Lib.hid (HW3.out.trans (grown_below HW4.out (Nat.le_of_lt hgb) HW3.out.size))
    have HR : Hid (w4.heap[w.heap.size]? = some (.cells #[.int .u8 0, .int .i64 0, .int .i64 0, .int .i64 0, .int .i64 0, .int .u8 0, .int .i64 0, .int .i64 0, .bool false, .bool false, .int .u8 0, .int .i64 0, .int .i64 0, .int .i64 0, .int .i64 0, .int .u8 0] 27 (0, 0))) := Lib.hid ((HW4.out.block _ (by have := HL3.out; omega) (by intro e; injection e; omega)).trans HR3.out)
    have HQ := Lib.hid (boxed_self hz)
    clear hz
    rw [HQ.out]
    clear HQ
    have HGB : ∀ cs, GB (boxed w4 w2.heap.size cs 27) gb l2 f2 := fun cs => HG4.out.kept fun i hi => boxed_block_other (by omega)
    have HGB := Lib.hid HGB
    go_wp2_with (fail)
    refine (end_any _ _ _ _ (HGB.out _)).mono ?_
    rintro x w9 ⟨⟨X, rfl, hX⟩, rfl⟩
    have hB9 : (boxed w4 w2.heap.size #[.int .u8 1, .int .i64 0, .int .i64 0, .int .i64 0, .int .i64 a, .int .u8 u, .int .i64 e, .int .i64 t, .bool g, .bool q, .int .u8 0, .int .i64 0, .int .i64 0, .int .i64 0, .int .i64 0, .int .u8 0] 27).heap[w2.heap.size]? = some (.cells #[.int .u8 1, .int .i64 0, .int .i64 0, .int .i64 0, .int .i64 a, .int .u8 u, .int .i64 e, .int .i64 t, .bool g, .bool q, .int .u8 0, .int .i64 0, .int .i64 0, .int .i64 0, .int .i64 0, .int .u8 0] 27 (0, 0)) := boxed_block hs
    have hR9 : (boxed w4 w2.heap.size #[.int .u8 1, .int .i64 0, .int .i64 0, .int .i64 0, .int .i64 a, .int .u8 u, .int .i64 e, .int .i64 t, .bool g, .bool q, .int .u8 0, .int .i64 0, .int .i64 0, .int .i64 0, .int .i64 0, .int .u8 0] 27).heap[w.heap.size]? = some (.cells #[.int .u8 0, .int .i64 0, .int .i64 0, .int .i64 0, .int .i64 0, .int .u8 0, .int .i64 0, .int .i64 0, .bool false, .bool false, .int .u8 0, .int .i64 0, .int .i64 0, .int .i64 0, .int .i64 0, .int .u8 0] 27 (0, 0)) := (boxed_block_other (by omega)).trans HR.out
    have hW9 : Below w.heap.size w (boxed w4 w2.heap.size #[.int .u8 1, .int .i64 0, .int .i64 0, .int .i64 0, .int .i64 a, .int .u8 u, .int .i64 e, .int .i64 t, .bool g, .bool q, .int .u8 0, .int .i64 0, .int .i64 0, .int .i64 0, .int .i64 0, .int .u8 0] 27) := boxed_below HGW.out (Nat.le_of_lt HLR)
    have hs9 : w2.heap.size < (boxed w4 w2.heap.size #[.int .u8 1, .int .i64 0, .int .i64 0, .int .i64 0, .int .i64 a, .int .u8 u, .int .i64 e, .int .i64 t, .bool g, .bool q, .int .u8 0, .int .i64 0, .int .i64 0, .int .i64 0, .int .i64 0, .int .u8 0] 27).heap.size := by rw [boxed_size]; exact hs
    generalize (boxed w4 w2.heap.size #[.int .u8 1, .int .i64 0, .int .i64 0, .int .i64 0, .int .i64 a, .int .u8 u, .int .i64 e, .int .i64 t, .bool g, .bool q, .int .u8 0, .int .i64 0, .int .i64 0, .int .i64 0, .int .i64 0, .int .u8 0] 27) = w9 at *
    rcases hX with ⟨rfl, hf, hl'⟩ | ⟨hx, hf⟩
    · subst hf hl'
      go_wp2_with (first | (with_reducible_and_instances (show wpList _ _ _ (Oper.mk _ (Op.load 27 _) _ _ _ _ :: _) _ _); refine wl_load Try.underlying27 rfl info16 rfl rfl rfl (by (repeat (first | assumption | (with_reducible refine alloc_at ?_; (focus (first | omega | (simp; done) | (simp; omega)))) | (with_reducible refine boxed_at ?_; (focus (first | omega | (simp; done) | (simp; omega)))) | (with_reducible refine alloc_old ?_ ?_; (focus (first | omega | (simp; done) | (simp; omega)))) | (with_reducible refine boxed_old ?_ ?_; (focus (first | omega | (simp; done) | (simp; omega)))) | (with_reducible refine drew_old ?_)))) (by rfl) ?_))
      obtain ⟨y, hy⟩ : ∃ y, Ov.right ⟨1, 0, 0, 0, ⟨a, u, e, t, g, q⟩, Nv.zero⟩ = y := ⟨_, rfl⟩
      have HY := Lib.hid hy
      refine (oright_any 1 0 0 0 a u e t g q 0 0 0 0 0 0 _).mono ?_
      rw [show Ov.right ⟨1, 0, 0, 0, ⟨a, u, e, t, g, q⟩, ⟨0, 0, 0, 0, 0, 0⟩⟩ = y from hy]
      clear hy
      rintro x w10 ⟨rfl, hb10⟩
      have hB10 := (hb10.block _ hs9).trans hB9
      have hR10 := (hb10.block _ (Nat.lt_trans HLR hs9)).trans hR9
      have hW10 := hW9.trans (hb10.mono hW9.size)
      have hs10 : w2.heap.size < w10.heap.size := Nat.lt_of_lt_of_le hs9 hb10.size
      clear hb10
      by_cases d : y = 0
      · subst d
        go_wp2_with (first | (with_reducible_and_instances (show wpList _ _ _ (Oper.mk _ (Op.load 27 _) _ _ _ _ :: _) _ _); refine wl_load Try.underlying27 rfl info16 rfl rfl rfl (by (repeat (first | assumption | (with_reducible refine alloc_at ?_; (focus (first | omega | (simp; done) | (simp; omega)))) | (with_reducible refine boxed_at ?_; (focus (first | omega | (simp; done) | (simp; omega)))) | (with_reducible refine alloc_old ?_ ?_; (focus (first | omega | (simp; done) | (simp; omega)))) | (with_reducible refine boxed_old ?_ ?_; (focus (first | omega | (simp; done) | (simp; omega)))) | (with_reducible refine drew_old ?_)))) (by rfl) ?_) | (with_reducible_and_instances (show wpList _ _ _ (Oper.mk _ (Op.store 27 _ _) _ _ _ _ :: _) _ _); refine wl_store info16 rfl rfl rfl rfl (by (repeat (first | assumption | (with_reducible refine alloc_at ?_; (focus (first | omega | (simp; done) | (simp; omega)))) | (with_reducible refine boxed_at ?_; (focus (first | omega | (simp; done) | (simp; omega)))) | (with_reducible refine alloc_old ?_ ?_; (focus (first | omega | (simp; done) | (simp; omega)))) | (with_reducible refine boxed_old ?_ ?_; (focus (first | omega | (simp; done) | (simp; omega)))) | (with_reducible refine drew_old ?_)))) (by rfl) (by rfl) (by simp [Value.oneCell']) ?_))
        refine bodyPost_ret (v := .tuple #[.agg #[.int .u8 1, .int .i64 0, .int .i64 0, .int .i64 0, .int .i64 a, .int .u8 u, .int .i64 e, .int .i64 t, .bool g, .bool q, .int .u8 0, .int .i64 0, .int .i64 0, .int .i64 0, .int .i64 0, .int .u8 0], .int .i64 0]) (results_two rfl _ _ w.heap.size 27 _ (0, 0) (.int .i64 0) rfl rfl (by (repeat (first | assumption | (with_reducible refine alloc_at ?_; (focus (first | omega | (simp; done) | (simp; omega)))) | (with_reducible refine boxed_at ?_; (focus (first | omega | (simp; done) | (simp; omega)))) | (with_reducible refine alloc_old ?_ ?_; (focus (first | omega | (simp; done) | (simp; omega)))) | (with_reducible refine boxed_old ?_ ?_; (focus (first | omega | (simp; done) | (simp; omega)))) | (with_reducible refine drew_old ?_)))) rfl) rfl ⟨⟨1, 0, 0, 0, ⟨a, u, e, t, g, q⟩, Nv.zero⟩, 0, rfl, Ov.Dec.yes HS1.out HO.out HY.out (fun x hx => (HBO.out x hx).1), by (repeat (first | assumption | (with_reducible exact Below.refl _ _) | (with_reducible refine boxed_below ?_ ?_; rotate_left; (focus (first | omega | (simp; done) | (simp; omega)))) | (with_reducible refine Below.alloc ?_ ?_ _; rotate_left; (focus (first | omega | (simp; done) | (simp; omega)))) | (with_reducible refine Below.drew ?_)))⟩
      · have z : (y != 0) = true := by simpa using d
        have HD := Lib.hid d
        clear d
        go_wp2_with (first | (with_reducible_and_instances (show wpList _ _ _ (Oper.mk _ (Op.load 27 _) _ _ _ _ :: _) _ _); refine wl_load Try.underlying27 rfl info16 rfl rfl rfl (by (repeat (first | assumption | (with_reducible refine alloc_at ?_; (focus (first | omega | (simp; done) | (simp; omega)))) | (with_reducible refine boxed_at ?_; (focus (first | omega | (simp; done) | (simp; omega)))) | (with_reducible refine alloc_old ?_ ?_; (focus (first | omega | (simp; done) | (simp; omega)))) | (with_reducible refine boxed_old ?_ ?_; (focus (first | omega | (simp; done) | (simp; omega)))) | (with_reducible refine drew_old ?_)))) (by rfl) ?_) | (with_reducible_and_instances (show wpList _ _ _ (Oper.mk _ (Op.store 27 _ _) _ _ _ _ :: _) _ _); refine wl_store info16 rfl rfl rfl rfl (by (repeat (first | assumption | (with_reducible refine alloc_at ?_; (focus (first | omega | (simp; done) | (simp; omega)))) | (with_reducible refine boxed_at ?_; (focus (first | omega | (simp; done) | (simp; omega)))) | (with_reducible refine alloc_old ?_ ?_; (focus (first | omega | (simp; done) | (simp; omega)))) | (with_reducible refine boxed_old ?_ ?_; (focus (first | omega | (simp; done) | (simp; omega)))) | (with_reducible refine drew_old ?_)))) (by rfl) (by rfl) (by simp [Value.oneCell']) ?_))
        refine bodyPost_ret (v := .tuple #[.agg #[.int .u8 0, .int .i64 0, .int .i64 0, .int .i64 0, .int .i64 0, .int .u8 0, .int .i64 0, .int .i64 0, .bool false, .bool false, .int .u8 0, .int .i64 0, .int .i64 0, .int .i64 0, .int .i64 0, .int .u8 0], .int .i64 4]) (results_two rfl _ _ w.heap.size 27 _ (0, 0) (.int .i64 4) rfl rfl (by (repeat (first | assumption | (with_reducible refine alloc_at ?_; (focus (first | omega | (simp; done) | (simp; omega)))) | (with_reducible refine boxed_at ?_; (focus (first | omega | (simp; done) | (simp; omega)))) | (with_reducible refine alloc_old ?_ ?_; (focus (first | omega | (simp; done) | (simp; omega)))) | (with_reducible refine boxed_old ?_ ?_; (focus (first | omega | (simp; done) | (simp; omega)))) | (with_reducible refine drew_old ?_)))) rfl) rfl ⟨Ov.zero, 4, rfl, Ov.Dec.no HS1.out HO.out (.inr (.inr (by rw [HY.out]; exact HD.out))), by (repeat (first | assumption | (with_reducible exact Below.refl _ _) | (with_reducible refine boxed_below ?_ ?_; rotate_left; (focus (first | omega | (simp; done) | (simp; omega)))) | (with_reducible refine Below.alloc ?_ ?_ _; rotate_left; (focus (first | omega | (simp; done) | (simp; omega)))) | (with_reducible refine Below.drew ?_)))⟩
    · have z : (X != 0) = true := by simpa using hx
      have HF := Lib.hid hf
      clear hf hx
      go_wp2_with (first | (with_reducible_and_instances (show wpList _ _ _ (Oper.mk _ (Op.load 27 _) _ _ _ _ :: _) _ _); refine wl_load Try.underlying27 rfl info16 rfl rfl rfl (by (repeat (first | assumption | (with_reducible refine alloc_at ?_; (focus (first | omega | (simp; done) | (simp; omega)))) | (with_reducible refine boxed_at ?_; (focus (first | omega | (simp; done) | (simp; omega)))) | (with_reducible refine alloc_old ?_ ?_; (focus (first | omega | (simp; done) | (simp; omega)))) | (with_reducible refine boxed_old ?_ ?_; (focus (first | omega | (simp; done) | (simp; omega)))) | (with_reducible refine drew_old ?_)))) (by rfl) ?_) | (with_reducible_and_instances (show wpList _ _ _ (Oper.mk _ (Op.store 27 _ _) _ _ _ _ :: _) _ _); refine wl_store info16 rfl rfl rfl rfl (by (repeat (first | assumption | (with_reducible refine alloc_at ?_; (focus (first | omega | (simp; done) | (simp; omega)))) | (with_reducible refine boxed_at ?_; (focus (first | omega | (simp; done) | (simp; omega)))) | (with_reducible refine alloc_old ?_ ?_; (focus (first | omega | (simp; done) | (simp; omega)))) | (with_reducible refine boxed_old ?_ ?_; (focus (first | omega | (simp; done) | (simp; omega)))) | (with_reducible refine drew_old ?_)))) (by rfl) (by rfl) (by simp [Value.oneCell']) ?_))
      refine bodyPost_ret (v := .tuple #[.agg #[.int .u8 0, .int .i64 0, .int .i64 0, .int .i64 0, .int .i64 0, .int .u8 0, .int .i64 0, .int .i64 0, .bool false, .bool false, .int .u8 0, .int .i64 0, .int .i64 0, .int .i64 0, .int .i64 0, .int .u8 0], .int .i64 4]) (results_two rfl _ _ w.heap.size 27 _ (0, 0) (.int .i64 4) rfl rfl (by (repeat (first | assumption | (with_reducible refine alloc_at ?_; (focus (first | omega | (simp; done) | (simp; omega)))) | (with_reducible refine boxed_at ?_; (focus (first | omega | (simp; done) | (simp; omega)))) | (with_reducible refine alloc_old ?_ ?_; (focus (first | omega | (simp; done) | (simp; omega)))) | (with_reducible refine boxed_old ?_ ?_; (focus (first | omega | (simp; done) | (simp; omega)))) | (with_reducible refine drew_old ?_)))) rfl) rfl ⟨Ov.zero, 4, rfl, Ov.Dec.no HS1.out HO.out (HF.out.elim .inl (fun h => .inr (.inl h))), by (repeat (first | assumption | (with_reducible exact Below.refl _ _) | (with_reducible refine boxed_below ?_ ?_; rotate_left; (focus (first | omega | (simp; done) | (simp; omega)))) | (with_reducible refine Below.alloc ?_ ?_ _; rotate_left; (focus (first | omega | (simp; done) | (simp; omega)))) | (with_reducible refine Below.drew ?_)))⟩
  · intro hn hk1
    have HN := Lib.hid hn
    clear hn
    clear hk1
    refine (names_is _ _ _ HN.out).mono ?_
    rintro e w' ⟨rfl, rfl⟩
    go_wp2_with (fail)
    refine (getsub_any _ _ _ _ HG3.out).mono ?_
    rintro x w4 ⟨s, l2, f2, rfl, hs2, hg4, hb4⟩
    have HS2 := Lib.hid hs2
    have HG4 := Lib.hid hb4
    have HW4 : Hid (w3.grownBy w4 (some gb)) := Lib.hid (hg4)
    clear hs2 hg4 hb4
    go_wp2_with (fail)
    refine (get_any _ _ _ _ _ _ HG4.out).mono ?_
    rintro x w5 ⟨p, l3, f3, rfl, hs3, hg5, hb5⟩
    have HS3 := Lib.hid hs3
    have HG5 := Lib.hid hb5
    have HW5 : Hid (w3.grownBy w5 (some gb)) := Lib.hid (HW4.out.trans hg5)
    clear hs3 hg5 hb5
    have HO : Hid (Ov.Gets k l1 f1 ⟨k, s, p, 0, Pv.zero, Nv.zero⟩ l3 f3) := Lib.hid (.inr (.inr (.inl ⟨HN.out, s, p, ⟨_, _, HS2.out, _, _, HS3.out, rfl, rfl⟩, rfl⟩)))
    clear HN HS2 HS3
    have hz : w5.heap[w2.heap.size]? = some (.cells #[.int .u8 k, .int .i64 0, .int .i64 0, .int .i64 0, .int .i64 0, .int .u8 0, .int .i64 0, .int .i64 0, .bool false, .bool false, .int .u8 0, .int .i64 0, .int .i64 0, .int .i64 0, .int .i64 0, .int .u8 0] 27 (0, 0)) := (HW5.out.block _ HL3.out (by intro e; injection e; omega)).trans HZ3.out
    have hs : w2.heap.size < w5.heap.size := Nat.lt_of_lt_of_le HL3.out HW5.out.size
    have HGW : Hid (Below w.heap.size w w5) := Lib.hid (HW3.out.trans (grown_below HW5.out (Nat.le_of_lt hgb) HW3.out.size))
    have HR : Hid (w5.heap[w.heap.size]? = some (.cells #[.int .u8 0, .int .i64 0, .int .i64 0, .int .i64 0, .int .i64 0, .int .u8 0, .int .i64 0, .int .i64 0, .bool false, .bool false, .int .u8 0, .int .i64 0, .int .i64 0, .int .i64 0, .int .i64 0, .int .u8 0] 27 (0, 0))) := Lib.hid ((HW5.out.block _ (by have := HL3.out; omega) (by intro e; injection e; omega)).trans HR3.out)
    have HQ := Lib.hid (boxed_self hz)
    clear hz
    rw [HQ.out]
    clear HQ
    have HGB : ∀ cs, GB (boxed w5 w2.heap.size cs 27) gb l3 f3 := fun cs => HG5.out.kept fun i hi => boxed_block_other (by omega)
    have HGB := Lib.hid HGB
    go_wp2_with (fail)
    refine (end_any _ _ _ _ (HGB.out _)).mono ?_
    rintro x w9 ⟨⟨X, rfl, hX⟩, rfl⟩
    have hB9 : (boxed w5 w2.heap.size #[.int .u8 k, .int .i64 s, .int .i64 p, .int .i64 0, .int .i64 0, .int .u8 0, .int .i64 0, .int .i64 0, .bool false, .bool false, .int .u8 0, .int .i64 0, .int .i64 0, .int .i64 0, .int .i64 0, .int .u8 0] 27).heap[w2.heap.size]? = some (.cells #[.int .u8 k, .int .i64 s, .int .i64 p, .int .i64 0, .int .i64 0, .int .u8 0, .int .i64 0, .int .i64 0, .bool false, .bool false, .int .u8 0, .int .i64 0, .int .i64 0, .int .i64 0, .int .i64 0, .int .u8 0] 27 (0, 0)) := boxed_block hs
    have hR9 : (boxed w5 w2.heap.size #[.int .u8 k, .int .i64 s, .int .i64 p, .int .i64 0, .int .i64 0, .int .u8 0, .int .i64 0, .int .i64 0, .bool false, .bool false, .int .u8 0, .int .i64 0, .int .i64 0, .int .i64 0, .int .i64 0, .int .u8 0] 27).heap[w.heap.size]? = some (.cells #[.int .u8 0, .int .i64 0, .int .i64 0, .int .i64 0, .int .i64 0, .int .u8 0, .int .i64 0, .int .i64 0, .bool false, .bool false, .int .u8 0, .int .i64 0, .int .i64 0, .int .i64 0, .int .i64 0, .int .u8 0] 27 (0, 0)) := (boxed_block_other (by omega)).trans HR.out
    have hW9 : Below w.heap.size w (boxed w5 w2.heap.size #[.int .u8 k, .int .i64 s, .int .i64 p, .int .i64 0, .int .i64 0, .int .u8 0, .int .i64 0, .int .i64 0, .bool false, .bool false, .int .u8 0, .int .i64 0, .int .i64 0, .int .i64 0, .int .i64 0, .int .u8 0] 27) := boxed_below HGW.out (Nat.le_of_lt HLR)
    have hs9 : w2.heap.size < (boxed w5 w2.heap.size #[.int .u8 k, .int .i64 s, .int .i64 p, .int .i64 0, .int .i64 0, .int .u8 0, .int .i64 0, .int .i64 0, .bool false, .bool false, .int .u8 0, .int .i64 0, .int .i64 0, .int .i64 0, .int .i64 0, .int .u8 0] 27).heap.size := by rw [boxed_size]; exact hs
    generalize (boxed w5 w2.heap.size #[.int .u8 k, .int .i64 s, .int .i64 p, .int .i64 0, .int .i64 0, .int .u8 0, .int .i64 0, .int .i64 0, .bool false, .bool false, .int .u8 0, .int .i64 0, .int .i64 0, .int .i64 0, .int .i64 0, .int .u8 0] 27) = w9 at *
    rcases hX with ⟨rfl, hf, hl'⟩ | ⟨hx, hf⟩
    · subst hf hl'
      go_wp2_with (first | (with_reducible_and_instances (show wpList _ _ _ (Oper.mk _ (Op.load 27 _) _ _ _ _ :: _) _ _); refine wl_load Try.underlying27 rfl info16 rfl rfl rfl (by (repeat (first | assumption | (with_reducible refine alloc_at ?_; (focus (first | omega | (simp; done) | (simp; omega)))) | (with_reducible refine boxed_at ?_; (focus (first | omega | (simp; done) | (simp; omega)))) | (with_reducible refine alloc_old ?_ ?_; (focus (first | omega | (simp; done) | (simp; omega)))) | (with_reducible refine boxed_old ?_ ?_; (focus (first | omega | (simp; done) | (simp; omega)))) | (with_reducible refine drew_old ?_)))) (by rfl) ?_))
      obtain ⟨y, hy⟩ : ∃ y, Ov.right ⟨k, s, p, 0, Pv.zero, Nv.zero⟩ = y := ⟨_, rfl⟩
      have HY := Lib.hid hy
      refine (oright_any k s p 0 0 0 0 0 false false 0 0 0 0 0 0 _).mono ?_
      rw [show Ov.right ⟨k, s, p, 0, ⟨0, 0, 0, 0, false, false⟩, ⟨0, 0, 0, 0, 0, 0⟩⟩ = y from hy]
      clear hy
      rintro x w10 ⟨rfl, hb10⟩
      have hB10 := (hb10.block _ hs9).trans hB9
      have hR10 := (hb10.block _ (Nat.lt_trans HLR hs9)).trans hR9
      have hW10 := hW9.trans (hb10.mono hW9.size)
      have hs10 : w2.heap.size < w10.heap.size := Nat.lt_of_lt_of_le hs9 hb10.size
      clear hb10
      by_cases d : y = 0
      · subst d
        go_wp2_with (first | (with_reducible_and_instances (show wpList _ _ _ (Oper.mk _ (Op.load 27 _) _ _ _ _ :: _) _ _); refine wl_load Try.underlying27 rfl info16 rfl rfl rfl (by (repeat (first | assumption | (with_reducible refine alloc_at ?_; (focus (first | omega | (simp; done) | (simp; omega)))) | (with_reducible refine boxed_at ?_; (focus (first | omega | (simp; done) | (simp; omega)))) | (with_reducible refine alloc_old ?_ ?_; (focus (first | omega | (simp; done) | (simp; omega)))) | (with_reducible refine boxed_old ?_ ?_; (focus (first | omega | (simp; done) | (simp; omega)))) | (with_reducible refine drew_old ?_)))) (by rfl) ?_) | (with_reducible_and_instances (show wpList _ _ _ (Oper.mk _ (Op.store 27 _ _) _ _ _ _ :: _) _ _); refine wl_store info16 rfl rfl rfl rfl (by (repeat (first | assumption | (with_reducible refine alloc_at ?_; (focus (first | omega | (simp; done) | (simp; omega)))) | (with_reducible refine boxed_at ?_; (focus (first | omega | (simp; done) | (simp; omega)))) | (with_reducible refine alloc_old ?_ ?_; (focus (first | omega | (simp; done) | (simp; omega)))) | (with_reducible refine boxed_old ?_ ?_; (focus (first | omega | (simp; done) | (simp; omega)))) | (with_reducible refine drew_old ?_)))) (by rfl) (by rfl) (by simp [Value.oneCell']) ?_))
        refine bodyPost_ret (v := .tuple #[.agg #[.int .u8 k, .int .i64 s, .int .i64 p, .int .i64 0, .int .i64 0, .int .u8 0, .int .i64 0, .int .i64 0, .bool false, .bool false, .int .u8 0, .int .i64 0, .int .i64 0, .int .i64 0, .int .i64 0, .int .u8 0], .int .i64 0]) (results_two rfl _ _ w.heap.size 27 _ (0, 0) (.int .i64 0) rfl rfl (by (repeat (first | assumption | (with_reducible refine alloc_at ?_; (focus (first | omega | (simp; done) | (simp; omega)))) | (with_reducible refine boxed_at ?_; (focus (first | omega | (simp; done) | (simp; omega)))) | (with_reducible refine alloc_old ?_ ?_; (focus (first | omega | (simp; done) | (simp; omega)))) | (with_reducible refine boxed_old ?_ ?_; (focus (first | omega | (simp; done) | (simp; omega)))) | (with_reducible refine drew_old ?_)))) rfl) rfl ⟨⟨k, s, p, 0, Pv.zero, Nv.zero⟩, 0, rfl, Ov.Dec.yes HS1.out HO.out HY.out (fun x hx => (HBO.out x hx).1), by (repeat (first | assumption | (with_reducible exact Below.refl _ _) | (with_reducible refine boxed_below ?_ ?_; rotate_left; (focus (first | omega | (simp; done) | (simp; omega)))) | (with_reducible refine Below.alloc ?_ ?_ _; rotate_left; (focus (first | omega | (simp; done) | (simp; omega)))) | (with_reducible refine Below.drew ?_)))⟩
      · have z : (y != 0) = true := by simpa using d
        have HD := Lib.hid d
        clear d
        go_wp2_with (first | (with_reducible_and_instances (show wpList _ _ _ (Oper.mk _ (Op.load 27 _) _ _ _ _ :: _) _ _); refine wl_load Try.underlying27 rfl info16 rfl rfl rfl (by (repeat (first | assumption | (with_reducible refine alloc_at ?_; (focus (first | omega | (simp; done) | (simp; omega)))) | (with_reducible refine boxed_at ?_; (focus (first | omega | (simp; done) | (simp; omega)))) | (with_reducible refine alloc_old ?_ ?_; (focus (first | omega | (simp; done) | (simp; omega)))) | (with_reducible refine boxed_old ?_ ?_; (focus (first | omega | (simp; done) | (simp; omega)))) | (with_reducible refine drew_old ?_)))) (by rfl) ?_) | (with_reducible_and_instances (show wpList _ _ _ (Oper.mk _ (Op.store 27 _ _) _ _ _ _ :: _) _ _); refine wl_store info16 rfl rfl rfl rfl (by (repeat (first | assumption | (with_reducible refine alloc_at ?_; (focus (first | omega | (simp; done) | (simp; omega)))) | (with_reducible refine boxed_at ?_; (focus (first | omega | (simp; done) | (simp; omega)))) | (with_reducible refine alloc_old ?_ ?_; (focus (first | omega | (simp; done) | (simp; omega)))) | (with_reducible refine boxed_old ?_ ?_; (focus (first | omega | (simp; done) | (simp; omega)))) | (with_reducible refine drew_old ?_)))) (by rfl) (by rfl) (by simp [Value.oneCell']) ?_))
        refine bodyPost_ret (v := .tuple #[.agg #[.int .u8 0, .int .i64 0, .int .i64 0, .int .i64 0, .int .i64 0, .int .u8 0, .int .i64 0, .int .i64 0, .bool false, .bool false, .int .u8 0, .int .i64 0, .int .i64 0, .int .i64 0, .int .i64 0, .int .u8 0], .int .i64 4]) (results_two rfl _ _ w.heap.size 27 _ (0, 0) (.int .i64 4) rfl rfl (by (repeat (first | assumption | (with_reducible refine alloc_at ?_; (focus (first | omega | (simp; done) | (simp; omega)))) | (with_reducible refine boxed_at ?_; (focus (first | omega | (simp; done) | (simp; omega)))) | (with_reducible refine alloc_old ?_ ?_; (focus (first | omega | (simp; done) | (simp; omega)))) | (with_reducible refine boxed_old ?_ ?_; (focus (first | omega | (simp; done) | (simp; omega)))) | (with_reducible refine drew_old ?_)))) rfl) rfl ⟨Ov.zero, 4, rfl, Ov.Dec.no HS1.out HO.out (.inr (.inr (by rw [HY.out]; exact HD.out))), by (repeat (first | assumption | (with_reducible exact Below.refl _ _) | (with_reducible refine boxed_below ?_ ?_; rotate_left; (focus (first | omega | (simp; done) | (simp; omega)))) | (with_reducible refine Below.alloc ?_ ?_ _; rotate_left; (focus (first | omega | (simp; done) | (simp; omega)))) | (with_reducible refine Below.drew ?_)))⟩
    · have z : (X != 0) = true := by simpa using hx
      have HF := Lib.hid hf
      clear hf hx
      go_wp2_with (first | (with_reducible_and_instances (show wpList _ _ _ (Oper.mk _ (Op.load 27 _) _ _ _ _ :: _) _ _); refine wl_load Try.underlying27 rfl info16 rfl rfl rfl (by (repeat (first | assumption | (with_reducible refine alloc_at ?_; (focus (first | omega | (simp; done) | (simp; omega)))) | (with_reducible refine boxed_at ?_; (focus (first | omega | (simp; done) | (simp; omega)))) | (with_reducible refine alloc_old ?_ ?_; (focus (first | omega | (simp; done) | (simp; omega)))) | (with_reducible refine boxed_old ?_ ?_; (focus (first | omega | (simp; done) | (simp; omega)))) | (with_reducible refine drew_old ?_)))) (by rfl) ?_) | (with_reducible_and_instances (show wpList _ _ _ (Oper.mk _ (Op.store 27 _ _) _ _ _ _ :: _) _ _); refine wl_store info16 rfl rfl rfl rfl (by (repeat (first | assumption | (with_reducible refine alloc_at ?_; (focus (first | omega | (simp; done) | (simp; omega)))) | (with_reducible refine boxed_at ?_; (focus (first | omega | (simp; done) | (simp; omega)))) | (with_reducible refine alloc_old ?_ ?_; (focus (first | omega | (simp; done) | (simp; omega)))) | (with_reducible refine boxed_old ?_ ?_; (focus (first | omega | (simp; done) | (simp; omega)))) | (with_reducible refine drew_old ?_)))) (by rfl) (by rfl) (by simp [Value.oneCell']) ?_))
      refine bodyPost_ret (v := .tuple #[.agg #[.int .u8 0, .int .i64 0, .int .i64 0, .int .i64 0, .int .i64 0, .int .u8 0, .int .i64 0, .int .i64 0, .bool false, .bool false, .int .u8 0, .int .i64 0, .int .i64 0, .int .i64 0, .int .i64 0, .int .u8 0], .int .i64 4]) (results_two rfl _ _ w.heap.size 27 _ (0, 0) (.int .i64 4) rfl rfl (by (repeat (first | assumption | (with_reducible refine alloc_at ?_; (focus (first | omega | (simp; done) | (simp; omega)))) | (with_reducible refine boxed_at ?_; (focus (first | omega | (simp; done) | (simp; omega)))) | (with_reducible refine alloc_old ?_ ?_; (focus (first | omega | (simp; done) | (simp; omega)))) | (with_reducible refine boxed_old ?_ ?_; (focus (first | omega | (simp; done) | (simp; omega)))) | (with_reducible refine drew_old ?_)))) rfl) rfl ⟨Ov.zero, 4, rfl, Ov.Dec.no HS1.out HO.out (HF.out.elim .inl (fun h => .inr (.inl h))), by (repeat (first | assumption | (with_reducible exact Below.refl _ _) | (with_reducible refine boxed_below ?_ ?_; rotate_left; (focus (first | omega | (simp; done) | (simp; omega)))) | (with_reducible refine Below.alloc ?_ ?_ _; rotate_left; (focus (first | omega | (simp; done) | (simp; omega)))) | (with_reducible refine Below.drew ?_)))⟩
  · intro hn hk1
    have HN := Lib.hid hn
    clear hn
    clear hk1
    refine (names_is _ _ _ HN.out).mono ?_
    rintro e w' ⟨rfl, rfl⟩
    go_wp2_with (fail)
    refine (getsub_any _ _ _ _ HG3.out).mono ?_
    rintro x w4 ⟨s, l2, f2, rfl, hs2, hg4, hb4⟩
    have HS2 := Lib.hid hs2
    have HG4 := Lib.hid hb4
    have HW4 : Hid (w3.grownBy w4 (some gb)) := Lib.hid (hg4)
    clear hs2 hg4 hb4
    have HO : Hid (Ov.Gets k l1 f1 ⟨k, s, 0, 0, Pv.zero, Nv.zero⟩ l2 f2) := Lib.hid (.inr (.inr (.inr (.inl ⟨HN.out, s, ⟨_, _, HS2.out, rfl, rfl⟩, rfl⟩))))
    clear HN HS2
    have hz : w4.heap[w2.heap.size]? = some (.cells #[.int .u8 k, .int .i64 0, .int .i64 0, .int .i64 0, .int .i64 0, .int .u8 0, .int .i64 0, .int .i64 0, .bool false, .bool false, .int .u8 0, .int .i64 0, .int .i64 0, .int .i64 0, .int .i64 0, .int .u8 0] 27 (0, 0)) := (HW4.out.block _ HL3.out (by intro e; injection e; omega)).trans HZ3.out
    have hs : w2.heap.size < w4.heap.size := Nat.lt_of_lt_of_le HL3.out HW4.out.size
    have HGW : Hid (Below w.heap.size w w4) := Lib.hid (HW3.out.trans (grown_below HW4.out (Nat.le_of_lt hgb) HW3.out.size))
    have HR : Hid (w4.heap[w.heap.size]? = some (.cells #[.int .u8 0, .int .i64 0, .int .i64 0, .int .i64 0, .int .i64 0, .int .u8 0, .int .i64 0, .int .i64 0, .bool false, .bool false, .int .u8 0, .int .i64 0, .int .i64 0, .int .i64 0, .int .i64 0, .int .u8 0] 27 (0, 0))) := Lib.hid ((HW4.out.block _ (by have := HL3.out; omega) (by intro e; injection e; omega)).trans HR3.out)
    have HQ := Lib.hid (boxed_self hz)
    clear hz
    rw [HQ.out]
    clear HQ
    have HGB : ∀ cs, GB (boxed w4 w2.heap.size cs 27) gb l2 f2 := fun cs => HG4.out.kept fun i hi => boxed_block_other (by omega)
    have HGB := Lib.hid HGB
    go_wp2_with (fail)
    refine (end_any _ _ _ _ (HGB.out _)).mono ?_
    rintro x w9 ⟨⟨X, rfl, hX⟩, rfl⟩
    have hB9 : (boxed w4 w2.heap.size #[.int .u8 k, .int .i64 s, .int .i64 0, .int .i64 0, .int .i64 0, .int .u8 0, .int .i64 0, .int .i64 0, .bool false, .bool false, .int .u8 0, .int .i64 0, .int .i64 0, .int .i64 0, .int .i64 0, .int .u8 0] 27).heap[w2.heap.size]? = some (.cells #[.int .u8 k, .int .i64 s, .int .i64 0, .int .i64 0, .int .i64 0, .int .u8 0, .int .i64 0, .int .i64 0, .bool false, .bool false, .int .u8 0, .int .i64 0, .int .i64 0, .int .i64 0, .int .i64 0, .int .u8 0] 27 (0, 0)) := boxed_block hs
    have hR9 : (boxed w4 w2.heap.size #[.int .u8 k, .int .i64 s, .int .i64 0, .int .i64 0, .int .i64 0, .int .u8 0, .int .i64 0, .int .i64 0, .bool false, .bool false, .int .u8 0, .int .i64 0, .int .i64 0, .int .i64 0, .int .i64 0, .int .u8 0] 27).heap[w.heap.size]? = some (.cells #[.int .u8 0, .int .i64 0, .int .i64 0, .int .i64 0, .int .i64 0, .int .u8 0, .int .i64 0, .int .i64 0, .bool false, .bool false, .int .u8 0, .int .i64 0, .int .i64 0, .int .i64 0, .int .i64 0, .int .u8 0] 27 (0, 0)) := (boxed_block_other (by omega)).trans HR.out
    have hW9 : Below w.heap.size w (boxed w4 w2.heap.size #[.int .u8 k, .int .i64 s, .int .i64 0, .int .i64 0, .int .i64 0, .int .u8 0, .int .i64 0, .int .i64 0, .bool false, .bool false, .int .u8 0, .int .i64 0, .int .i64 0, .int .i64 0, .int .i64 0, .int .u8 0] 27) := boxed_below HGW.out (Nat.le_of_lt HLR)
    have hs9 : w2.heap.size < (boxed w4 w2.heap.size #[.int .u8 k, .int .i64 s, .int .i64 0, .int .i64 0, .int .i64 0, .int .u8 0, .int .i64 0, .int .i64 0, .bool false, .bool false, .int .u8 0, .int .i64 0, .int .i64 0, .int .i64 0, .int .i64 0, .int .u8 0] 27).heap.size := by rw [boxed_size]; exact hs
    generalize (boxed w4 w2.heap.size #[.int .u8 k, .int .i64 s, .int .i64 0, .int .i64 0, .int .i64 0, .int .u8 0, .int .i64 0, .int .i64 0, .bool false, .bool false, .int .u8 0, .int .i64 0, .int .i64 0, .int .i64 0, .int .i64 0, .int .u8 0] 27) = w9 at *
    rcases hX with ⟨rfl, hf, hl'⟩ | ⟨hx, hf⟩
    · subst hf hl'
      go_wp2_with (first | (with_reducible_and_instances (show wpList _ _ _ (Oper.mk _ (Op.load 27 _) _ _ _ _ :: _) _ _); refine wl_load Try.underlying27 rfl info16 rfl rfl rfl (by (repeat (first | assumption | (with_reducible refine alloc_at ?_; (focus (first | omega | (simp; done) | (simp; omega)))) | (with_reducible refine boxed_at ?_; (focus (first | omega | (simp; done) | (simp; omega)))) | (with_reducible refine alloc_old ?_ ?_; (focus (first | omega | (simp; done) | (simp; omega)))) | (with_reducible refine boxed_old ?_ ?_; (focus (first | omega | (simp; done) | (simp; omega)))) | (with_reducible refine drew_old ?_)))) (by rfl) ?_))
      obtain ⟨y, hy⟩ : ∃ y, Ov.right ⟨k, s, 0, 0, Pv.zero, Nv.zero⟩ = y := ⟨_, rfl⟩
      have HY := Lib.hid hy
      refine (oright_any k s 0 0 0 0 0 0 false false 0 0 0 0 0 0 _).mono ?_
      rw [show Ov.right ⟨k, s, 0, 0, ⟨0, 0, 0, 0, false, false⟩, ⟨0, 0, 0, 0, 0, 0⟩⟩ = y from hy]
      clear hy
      rintro x w10 ⟨rfl, hb10⟩
      have hB10 := (hb10.block _ hs9).trans hB9
      have hR10 := (hb10.block _ (Nat.lt_trans HLR hs9)).trans hR9
      have hW10 := hW9.trans (hb10.mono hW9.size)
      have hs10 : w2.heap.size < w10.heap.size := Nat.lt_of_lt_of_le hs9 hb10.size
      clear hb10
      by_cases d : y = 0
      · subst d
        go_wp2_with (first | (with_reducible_and_instances (show wpList _ _ _ (Oper.mk _ (Op.load 27 _) _ _ _ _ :: _) _ _); refine wl_load Try.underlying27 rfl info16 rfl rfl rfl (by (repeat (first | assumption | (with_reducible refine alloc_at ?_; (focus (first | omega | (simp; done) | (simp; omega)))) | (with_reducible refine boxed_at ?_; (focus (first | omega | (simp; done) | (simp; omega)))) | (with_reducible refine alloc_old ?_ ?_; (focus (first | omega | (simp; done) | (simp; omega)))) | (with_reducible refine boxed_old ?_ ?_; (focus (first | omega | (simp; done) | (simp; omega)))) | (with_reducible refine drew_old ?_)))) (by rfl) ?_) | (with_reducible_and_instances (show wpList _ _ _ (Oper.mk _ (Op.store 27 _ _) _ _ _ _ :: _) _ _); refine wl_store info16 rfl rfl rfl rfl (by (repeat (first | assumption | (with_reducible refine alloc_at ?_; (focus (first | omega | (simp; done) | (simp; omega)))) | (with_reducible refine boxed_at ?_; (focus (first | omega | (simp; done) | (simp; omega)))) | (with_reducible refine alloc_old ?_ ?_; (focus (first | omega | (simp; done) | (simp; omega)))) | (with_reducible refine boxed_old ?_ ?_; (focus (first | omega | (simp; done) | (simp; omega)))) | (with_reducible refine drew_old ?_)))) (by rfl) (by rfl) (by simp [Value.oneCell']) ?_))
        refine bodyPost_ret (v := .tuple #[.agg #[.int .u8 k, .int .i64 s, .int .i64 0, .int .i64 0, .int .i64 0, .int .u8 0, .int .i64 0, .int .i64 0, .bool false, .bool false, .int .u8 0, .int .i64 0, .int .i64 0, .int .i64 0, .int .i64 0, .int .u8 0], .int .i64 0]) (results_two rfl _ _ w.heap.size 27 _ (0, 0) (.int .i64 0) rfl rfl (by (repeat (first | assumption | (with_reducible refine alloc_at ?_; (focus (first | omega | (simp; done) | (simp; omega)))) | (with_reducible refine boxed_at ?_; (focus (first | omega | (simp; done) | (simp; omega)))) | (with_reducible refine alloc_old ?_ ?_; (focus (first | omega | (simp; done) | (simp; omega)))) | (with_reducible refine boxed_old ?_ ?_; (focus (first | omega | (simp; done) | (simp; omega)))) | (with_reducible refine drew_old ?_)))) rfl) rfl ⟨⟨k, s, 0, 0, Pv.zero, Nv.zero⟩, 0, rfl, Ov.Dec.yes HS1.out HO.out HY.out (fun x hx => (HBO.out x hx).1), by (repeat (first | assumption | (with_reducible exact Below.refl _ _) | (with_reducible refine boxed_below ?_ ?_; rotate_left; (focus (first | omega | (simp; done) | (simp; omega)))) | (with_reducible refine Below.alloc ?_ ?_ _; rotate_left; (focus (first | omega | (simp; done) | (simp; omega)))) | (with_reducible refine Below.drew ?_)))⟩
      · have z : (y != 0) = true := by simpa using d
        have HD := Lib.hid d
        clear d
        go_wp2_with (first | (with_reducible_and_instances (show wpList _ _ _ (Oper.mk _ (Op.load 27 _) _ _ _ _ :: _) _ _); refine wl_load Try.underlying27 rfl info16 rfl rfl rfl (by (repeat (first | assumption | (with_reducible refine alloc_at ?_; (focus (first | omega | (simp; done) | (simp; omega)))) | (with_reducible refine boxed_at ?_; (focus (first | omega | (simp; done) | (simp; omega)))) | (with_reducible refine alloc_old ?_ ?_; (focus (first | omega | (simp; done) | (simp; omega)))) | (with_reducible refine boxed_old ?_ ?_; (focus (first | omega | (simp; done) | (simp; omega)))) | (with_reducible refine drew_old ?_)))) (by rfl) ?_) | (with_reducible_and_instances (show wpList _ _ _ (Oper.mk _ (Op.store 27 _ _) _ _ _ _ :: _) _ _); refine wl_store info16 rfl rfl rfl rfl (by (repeat (first | assumption | (with_reducible refine alloc_at ?_; (focus (first | omega | (simp; done) | (simp; omega)))) | (with_reducible refine boxed_at ?_; (focus (first | omega | (simp; done) | (simp; omega)))) | (with_reducible refine alloc_old ?_ ?_; (focus (first | omega | (simp; done) | (simp; omega)))) | (with_reducible refine boxed_old ?_ ?_; (focus (first | omega | (simp; done) | (simp; omega)))) | (with_reducible refine drew_old ?_)))) (by rfl) (by rfl) (by simp [Value.oneCell']) ?_))
        refine bodyPost_ret (v := .tuple #[.agg #[.int .u8 0, .int .i64 0, .int .i64 0, .int .i64 0, .int .i64 0, .int .u8 0, .int .i64 0, .int .i64 0, .bool false, .bool false, .int .u8 0, .int .i64 0, .int .i64 0, .int .i64 0, .int .i64 0, .int .u8 0], .int .i64 4]) (results_two rfl _ _ w.heap.size 27 _ (0, 0) (.int .i64 4) rfl rfl (by (repeat (first | assumption | (with_reducible refine alloc_at ?_; (focus (first | omega | (simp; done) | (simp; omega)))) | (with_reducible refine boxed_at ?_; (focus (first | omega | (simp; done) | (simp; omega)))) | (with_reducible refine alloc_old ?_ ?_; (focus (first | omega | (simp; done) | (simp; omega)))) | (with_reducible refine boxed_old ?_ ?_; (focus (first | omega | (simp; done) | (simp; omega)))) | (with_reducible refine drew_old ?_)))) rfl) rfl ⟨Ov.zero, 4, rfl, Ov.Dec.no HS1.out HO.out (.inr (.inr (by rw [HY.out]; exact HD.out))), by (repeat (first | assumption | (with_reducible exact Below.refl _ _) | (with_reducible refine boxed_below ?_ ?_; rotate_left; (focus (first | omega | (simp; done) | (simp; omega)))) | (with_reducible refine Below.alloc ?_ ?_ _; rotate_left; (focus (first | omega | (simp; done) | (simp; omega)))) | (with_reducible refine Below.drew ?_)))⟩
    · have z : (X != 0) = true := by simpa using hx
      have HF := Lib.hid hf
      clear hf hx
      go_wp2_with (first | (with_reducible_and_instances (show wpList _ _ _ (Oper.mk _ (Op.load 27 _) _ _ _ _ :: _) _ _); refine wl_load Try.underlying27 rfl info16 rfl rfl rfl (by (repeat (first | assumption | (with_reducible refine alloc_at ?_; (focus (first | omega | (simp; done) | (simp; omega)))) | (with_reducible refine boxed_at ?_; (focus (first | omega | (simp; done) | (simp; omega)))) | (with_reducible refine alloc_old ?_ ?_; (focus (first | omega | (simp; done) | (simp; omega)))) | (with_reducible refine boxed_old ?_ ?_; (focus (first | omega | (simp; done) | (simp; omega)))) | (with_reducible refine drew_old ?_)))) (by rfl) ?_) | (with_reducible_and_instances (show wpList _ _ _ (Oper.mk _ (Op.store 27 _ _) _ _ _ _ :: _) _ _); refine wl_store info16 rfl rfl rfl rfl (by (repeat (first | assumption | (with_reducible refine alloc_at ?_; (focus (first | omega | (simp; done) | (simp; omega)))) | (with_reducible refine boxed_at ?_; (focus (first | omega | (simp; done) | (simp; omega)))) | (with_reducible refine alloc_old ?_ ?_; (focus (first | omega | (simp; done) | (simp; omega)))) | (with_reducible refine boxed_old ?_ ?_; (focus (first | omega | (simp; done) | (simp; omega)))) | (with_reducible refine drew_old ?_)))) (by rfl) (by rfl) (by simp [Value.oneCell']) ?_))
      refine bodyPost_ret (v := .tuple #[.agg #[.int .u8 0, .int .i64 0, .int .i64 0, .int .i64 0, .int .i64 0, .int .u8 0, .int .i64 0, .int .i64 0, .bool false, .bool false, .int .u8 0, .int .i64 0, .int .i64 0, .int .i64 0, .int .i64 0, .int .u8 0], .int .i64 4]) (results_two rfl _ _ w.heap.size 27 _ (0, 0) (.int .i64 4) rfl rfl (by (repeat (first | assumption | (with_reducible refine alloc_at ?_; (focus (first | omega | (simp; done) | (simp; omega)))) | (with_reducible refine boxed_at ?_; (focus (first | omega | (simp; done) | (simp; omega)))) | (with_reducible refine alloc_old ?_ ?_; (focus (first | omega | (simp; done) | (simp; omega)))) | (with_reducible refine boxed_old ?_ ?_; (focus (first | omega | (simp; done) | (simp; omega)))) | (with_reducible refine drew_old ?_)))) rfl) rfl ⟨Ov.zero, 4, rfl, Ov.Dec.no HS1.out HO.out (HF.out.elim .inl (fun h => .inr (.inl h))), by (repeat (first | assumption | (with_reducible exact Below.refl _ _) | (with_reducible refine boxed_below ?_ ?_; rotate_left; (focus (first | omega | (simp; done) | (simp; omega)))) | (with_reducible refine Below.alloc ?_ ?_ _; rotate_left; (focus (first | omega | (simp; done) | (simp; omega)))) | (with_reducible refine Below.drew ?_)))⟩
  · intro hn hk1
    have HN := Lib.hid hn
    clear hn
    clear hk1
    refine (names_is _ _ _ HN.out).mono ?_
    rintro e w' ⟨rfl, rfl⟩
    go_wp2_with (fail)
    refine (get_any _ _ _ _ _ _ HG3.out).mono ?_
    rintro x w4 ⟨n', l2, f2, rfl, hs2, hg4, hb4⟩
    have HS2 := Lib.hid hs2
    have HG4 := Lib.hid hb4
    have HW4 : Hid (w3.grownBy w4 (some gb)) := Lib.hid (hg4)
    clear hs2 hg4 hb4
    have HO : Hid (Ov.Gets k l1 f1 ⟨k, 0, 0, n', Pv.zero, Nv.zero⟩ l2 f2) := Lib.hid (.inr (.inr (.inr (.inr (.inl ⟨HN.out, n', ⟨_, _, HS2.out, rfl, rfl⟩, rfl⟩)))))
    clear HN HS2
    have hz : w4.heap[w2.heap.size]? = some (.cells #[.int .u8 k, .int .i64 0, .int .i64 0, .int .i64 0, .int .i64 0, .int .u8 0, .int .i64 0, .int .i64 0, .bool false, .bool false, .int .u8 0, .int .i64 0, .int .i64 0, .int .i64 0, .int .i64 0, .int .u8 0] 27 (0, 0)) := (HW4.out.block _ HL3.out (by intro e; injection e; omega)).trans HZ3.out
    have hs : w2.heap.size < w4.heap.size := Nat.lt_of_lt_of_le HL3.out HW4.out.size
    have HGW : Hid (Below w.heap.size w w4) := Lib.hid (HW3.out.trans (grown_below HW4.out (Nat.le_of_lt hgb) HW3.out.size))
    have HR : Hid (w4.heap[w.heap.size]? = some (.cells #[.int .u8 0, .int .i64 0, .int .i64 0, .int .i64 0, .int .i64 0, .int .u8 0, .int .i64 0, .int .i64 0, .bool false, .bool false, .int .u8 0, .int .i64 0, .int .i64 0, .int .i64 0, .int .i64 0, .int .u8 0] 27 (0, 0))) := Lib.hid ((HW4.out.block _ (by have := HL3.out; omega) (by intro e; injection e; omega)).trans HR3.out)
    have HQ := Lib.hid (boxed_self hz)
    clear hz
    rw [HQ.out]
    clear HQ
    have HGB : ∀ cs, GB (boxed w4 w2.heap.size cs 27) gb l2 f2 := fun cs => HG4.out.kept fun i hi => boxed_block_other (by omega)
    have HGB := Lib.hid HGB
    go_wp2_with (fail)
    refine (end_any _ _ _ _ (HGB.out _)).mono ?_
    rintro x w9 ⟨⟨X, rfl, hX⟩, rfl⟩
    have hB9 : (boxed w4 w2.heap.size #[.int .u8 k, .int .i64 0, .int .i64 0, .int .i64 n', .int .i64 0, .int .u8 0, .int .i64 0, .int .i64 0, .bool false, .bool false, .int .u8 0, .int .i64 0, .int .i64 0, .int .i64 0, .int .i64 0, .int .u8 0] 27).heap[w2.heap.size]? = some (.cells #[.int .u8 k, .int .i64 0, .int .i64 0, .int .i64 n', .int .i64 0, .int .u8 0, .int .i64 0, .int .i64 0, .bool false, .bool false, .int .u8 0, .int .i64 0, .int .i64 0, .int .i64 0, .int .i64 0, .int .u8 0] 27 (0, 0)) := boxed_block hs
    have hR9 : (boxed w4 w2.heap.size #[.int .u8 k, .int .i64 0, .int .i64 0, .int .i64 n', .int .i64 0, .int .u8 0, .int .i64 0, .int .i64 0, .bool false, .bool false, .int .u8 0, .int .i64 0, .int .i64 0, .int .i64 0, .int .i64 0, .int .u8 0] 27).heap[w.heap.size]? = some (.cells #[.int .u8 0, .int .i64 0, .int .i64 0, .int .i64 0, .int .i64 0, .int .u8 0, .int .i64 0, .int .i64 0, .bool false, .bool false, .int .u8 0, .int .i64 0, .int .i64 0, .int .i64 0, .int .i64 0, .int .u8 0] 27 (0, 0)) := (boxed_block_other (by omega)).trans HR.out
    have hW9 : Below w.heap.size w (boxed w4 w2.heap.size #[.int .u8 k, .int .i64 0, .int .i64 0, .int .i64 n', .int .i64 0, .int .u8 0, .int .i64 0, .int .i64 0, .bool false, .bool false, .int .u8 0, .int .i64 0, .int .i64 0, .int .i64 0, .int .i64 0, .int .u8 0] 27) := boxed_below HGW.out (Nat.le_of_lt HLR)
    have hs9 : w2.heap.size < (boxed w4 w2.heap.size #[.int .u8 k, .int .i64 0, .int .i64 0, .int .i64 n', .int .i64 0, .int .u8 0, .int .i64 0, .int .i64 0, .bool false, .bool false, .int .u8 0, .int .i64 0, .int .i64 0, .int .i64 0, .int .i64 0, .int .u8 0] 27).heap.size := by rw [boxed_size]; exact hs
    generalize (boxed w4 w2.heap.size #[.int .u8 k, .int .i64 0, .int .i64 0, .int .i64 n', .int .i64 0, .int .u8 0, .int .i64 0, .int .i64 0, .bool false, .bool false, .int .u8 0, .int .i64 0, .int .i64 0, .int .i64 0, .int .i64 0, .int .u8 0] 27) = w9 at *
    rcases hX with ⟨rfl, hf, hl'⟩ | ⟨hx, hf⟩
    · subst hf hl'
      go_wp2_with (first | (with_reducible_and_instances (show wpList _ _ _ (Oper.mk _ (Op.load 27 _) _ _ _ _ :: _) _ _); refine wl_load Try.underlying27 rfl info16 rfl rfl rfl (by (repeat (first | assumption | (with_reducible refine alloc_at ?_; (focus (first | omega | (simp; done) | (simp; omega)))) | (with_reducible refine boxed_at ?_; (focus (first | omega | (simp; done) | (simp; omega)))) | (with_reducible refine alloc_old ?_ ?_; (focus (first | omega | (simp; done) | (simp; omega)))) | (with_reducible refine boxed_old ?_ ?_; (focus (first | omega | (simp; done) | (simp; omega)))) | (with_reducible refine drew_old ?_)))) (by rfl) ?_))
      obtain ⟨y, hy⟩ : ∃ y, Ov.right ⟨k, 0, 0, n', Pv.zero, Nv.zero⟩ = y := ⟨_, rfl⟩
      have HY := Lib.hid hy
      refine (oright_any k 0 0 n' 0 0 0 0 false false 0 0 0 0 0 0 _).mono ?_
      rw [show Ov.right ⟨k, 0, 0, n', ⟨0, 0, 0, 0, false, false⟩, ⟨0, 0, 0, 0, 0, 0⟩⟩ = y from hy]
      clear hy
      rintro x w10 ⟨rfl, hb10⟩
      have hB10 := (hb10.block _ hs9).trans hB9
      have hR10 := (hb10.block _ (Nat.lt_trans HLR hs9)).trans hR9
      have hW10 := hW9.trans (hb10.mono hW9.size)
      have hs10 : w2.heap.size < w10.heap.size := Nat.lt_of_lt_of_le hs9 hb10.size
      clear hb10
      by_cases d : y = 0
      · subst d
        go_wp2_with (first | (with_reducible_and_instances (show wpList _ _ _ (Oper.mk _ (Op.load 27 _) _ _ _ _ :: _) _ _); refine wl_load Try.underlying27 rfl info16 rfl rfl rfl (by (repeat (first | assumption | (with_reducible refine alloc_at ?_; (focus (first | omega | (simp; done) | (simp; omega)))) | (with_reducible refine boxed_at ?_; (focus (first | omega | (simp; done) | (simp; omega)))) | (with_reducible refine alloc_old ?_ ?_; (focus (first | omega | (simp; done) | (simp; omega)))) | (with_reducible refine boxed_old ?_ ?_; (focus (first | omega | (simp; done) | (simp; omega)))) | (with_reducible refine drew_old ?_)))) (by rfl) ?_) | (with_reducible_and_instances (show wpList _ _ _ (Oper.mk _ (Op.store 27 _ _) _ _ _ _ :: _) _ _); refine wl_store info16 rfl rfl rfl rfl (by (repeat (first | assumption | (with_reducible refine alloc_at ?_; (focus (first | omega | (simp; done) | (simp; omega)))) | (with_reducible refine boxed_at ?_; (focus (first | omega | (simp; done) | (simp; omega)))) | (with_reducible refine alloc_old ?_ ?_; (focus (first | omega | (simp; done) | (simp; omega)))) | (with_reducible refine boxed_old ?_ ?_; (focus (first | omega | (simp; done) | (simp; omega)))) | (with_reducible refine drew_old ?_)))) (by rfl) (by rfl) (by simp [Value.oneCell']) ?_))
        refine bodyPost_ret (v := .tuple #[.agg #[.int .u8 k, .int .i64 0, .int .i64 0, .int .i64 n', .int .i64 0, .int .u8 0, .int .i64 0, .int .i64 0, .bool false, .bool false, .int .u8 0, .int .i64 0, .int .i64 0, .int .i64 0, .int .i64 0, .int .u8 0], .int .i64 0]) (results_two rfl _ _ w.heap.size 27 _ (0, 0) (.int .i64 0) rfl rfl (by (repeat (first | assumption | (with_reducible refine alloc_at ?_; (focus (first | omega | (simp; done) | (simp; omega)))) | (with_reducible refine boxed_at ?_; (focus (first | omega | (simp; done) | (simp; omega)))) | (with_reducible refine alloc_old ?_ ?_; (focus (first | omega | (simp; done) | (simp; omega)))) | (with_reducible refine boxed_old ?_ ?_; (focus (first | omega | (simp; done) | (simp; omega)))) | (with_reducible refine drew_old ?_)))) rfl) rfl ⟨⟨k, 0, 0, n', Pv.zero, Nv.zero⟩, 0, rfl, Ov.Dec.yes HS1.out HO.out HY.out (fun x hx => (HBO.out x hx).1), by (repeat (first | assumption | (with_reducible exact Below.refl _ _) | (with_reducible refine boxed_below ?_ ?_; rotate_left; (focus (first | omega | (simp; done) | (simp; omega)))) | (with_reducible refine Below.alloc ?_ ?_ _; rotate_left; (focus (first | omega | (simp; done) | (simp; omega)))) | (with_reducible refine Below.drew ?_)))⟩
      · have z : (y != 0) = true := by simpa using d
        have HD := Lib.hid d
        clear d
        go_wp2_with (first | (with_reducible_and_instances (show wpList _ _ _ (Oper.mk _ (Op.load 27 _) _ _ _ _ :: _) _ _); refine wl_load Try.underlying27 rfl info16 rfl rfl rfl (by (repeat (first | assumption | (with_reducible refine alloc_at ?_; (focus (first | omega | (simp; done) | (simp; omega)))) | (with_reducible refine boxed_at ?_; (focus (first | omega | (simp; done) | (simp; omega)))) | (with_reducible refine alloc_old ?_ ?_; (focus (first | omega | (simp; done) | (simp; omega)))) | (with_reducible refine boxed_old ?_ ?_; (focus (first | omega | (simp; done) | (simp; omega)))) | (with_reducible refine drew_old ?_)))) (by rfl) ?_) | (with_reducible_and_instances (show wpList _ _ _ (Oper.mk _ (Op.store 27 _ _) _ _ _ _ :: _) _ _); refine wl_store info16 rfl rfl rfl rfl (by (repeat (first | assumption | (with_reducible refine alloc_at ?_; (focus (first | omega | (simp; done) | (simp; omega)))) | (with_reducible refine boxed_at ?_; (focus (first | omega | (simp; done) | (simp; omega)))) | (with_reducible refine alloc_old ?_ ?_; (focus (first | omega | (simp; done) | (simp; omega)))) | (with_reducible refine boxed_old ?_ ?_; (focus (first | omega | (simp; done) | (simp; omega)))) | (with_reducible refine drew_old ?_)))) (by rfl) (by rfl) (by simp [Value.oneCell']) ?_))
        refine bodyPost_ret (v := .tuple #[.agg #[.int .u8 0, .int .i64 0, .int .i64 0, .int .i64 0, .int .i64 0, .int .u8 0, .int .i64 0, .int .i64 0, .bool false, .bool false, .int .u8 0, .int .i64 0, .int .i64 0, .int .i64 0, .int .i64 0, .int .u8 0], .int .i64 4]) (results_two rfl _ _ w.heap.size 27 _ (0, 0) (.int .i64 4) rfl rfl (by (repeat (first | assumption | (with_reducible refine alloc_at ?_; (focus (first | omega | (simp; done) | (simp; omega)))) | (with_reducible refine boxed_at ?_; (focus (first | omega | (simp; done) | (simp; omega)))) | (with_reducible refine alloc_old ?_ ?_; (focus (first | omega | (simp; done) | (simp; omega)))) | (with_reducible refine boxed_old ?_ ?_; (focus (first | omega | (simp; done) | (simp; omega)))) | (with_reducible refine drew_old ?_)))) rfl) rfl ⟨Ov.zero, 4, rfl, Ov.Dec.no HS1.out HO.out (.inr (.inr (by rw [HY.out]; exact HD.out))), by (repeat (first | assumption | (with_reducible exact Below.refl _ _) | (with_reducible refine boxed_below ?_ ?_; rotate_left; (focus (first | omega | (simp; done) | (simp; omega)))) | (with_reducible refine Below.alloc ?_ ?_ _; rotate_left; (focus (first | omega | (simp; done) | (simp; omega)))) | (with_reducible refine Below.drew ?_)))⟩
    · have z : (X != 0) = true := by simpa using hx
      have HF := Lib.hid hf
      clear hf hx
      go_wp2_with (first | (with_reducible_and_instances (show wpList _ _ _ (Oper.mk _ (Op.load 27 _) _ _ _ _ :: _) _ _); refine wl_load Try.underlying27 rfl info16 rfl rfl rfl (by (repeat (first | assumption | (with_reducible refine alloc_at ?_; (focus (first | omega | (simp; done) | (simp; omega)))) | (with_reducible refine boxed_at ?_; (focus (first | omega | (simp; done) | (simp; omega)))) | (with_reducible refine alloc_old ?_ ?_; (focus (first | omega | (simp; done) | (simp; omega)))) | (with_reducible refine boxed_old ?_ ?_; (focus (first | omega | (simp; done) | (simp; omega)))) | (with_reducible refine drew_old ?_)))) (by rfl) ?_) | (with_reducible_and_instances (show wpList _ _ _ (Oper.mk _ (Op.store 27 _ _) _ _ _ _ :: _) _ _); refine wl_store info16 rfl rfl rfl rfl (by (repeat (first | assumption | (with_reducible refine alloc_at ?_; (focus (first | omega | (simp; done) | (simp; omega)))) | (with_reducible refine boxed_at ?_; (focus (first | omega | (simp; done) | (simp; omega)))) | (with_reducible refine alloc_old ?_ ?_; (focus (first | omega | (simp; done) | (simp; omega)))) | (with_reducible refine boxed_old ?_ ?_; (focus (first | omega | (simp; done) | (simp; omega)))) | (with_reducible refine drew_old ?_)))) (by rfl) (by rfl) (by simp [Value.oneCell']) ?_))
      refine bodyPost_ret (v := .tuple #[.agg #[.int .u8 0, .int .i64 0, .int .i64 0, .int .i64 0, .int .i64 0, .int .u8 0, .int .i64 0, .int .i64 0, .bool false, .bool false, .int .u8 0, .int .i64 0, .int .i64 0, .int .i64 0, .int .i64 0, .int .u8 0], .int .i64 4]) (results_two rfl _ _ w.heap.size 27 _ (0, 0) (.int .i64 4) rfl rfl (by (repeat (first | assumption | (with_reducible refine alloc_at ?_; (focus (first | omega | (simp; done) | (simp; omega)))) | (with_reducible refine boxed_at ?_; (focus (first | omega | (simp; done) | (simp; omega)))) | (with_reducible refine alloc_old ?_ ?_; (focus (first | omega | (simp; done) | (simp; omega)))) | (with_reducible refine boxed_old ?_ ?_; (focus (first | omega | (simp; done) | (simp; omega)))) | (with_reducible refine drew_old ?_)))) rfl) rfl ⟨Ov.zero, 4, rfl, Ov.Dec.no HS1.out HO.out (HF.out.elim .inl (fun h => .inr (.inl h))), by (repeat (first | assumption | (with_reducible exact Below.refl _ _) | (with_reducible refine boxed_below ?_ ?_; rotate_left; (focus (first | omega | (simp; done) | (simp; omega)))) | (with_reducible refine Below.alloc ?_ ?_ _; rotate_left; (focus (first | omega | (simp; done) | (simp; omega)))) | (with_reducible refine Below.drew ?_)))⟩
  · intro hn hk1
    have HN := Lib.hid hn
    clear hn
    clear hk1
    refine (names_is _ _ _ HN.out).mono ?_
    rintro e w' ⟨rfl, rfl⟩
    go_wp2_with (fail)
    refine (oget_any _ _ _ _ HG3.out).mono ?_
    rintro x w4 ⟨⟨K, S, C, T, M, V⟩, l2, f2, rfl, hs2, hg4, hb4⟩
    have HS2 := Lib.hid hs2
    have HG4 := Lib.hid hb4
    have HW4 : Hid (w3.grownBy w4 (some gb)) := Lib.hid (hg4)
    clear hs2 hg4 hb4
    dsimp only [Nv.val]
    have HO : Hid (Ov.Gets k l1 f1 ⟨k, 0, 0, 0, Pv.zero, ⟨K, S, C, T, M, V⟩⟩ l2 f2) := Lib.hid (.inr (.inr (.inr (.inr (.inr ⟨HN.out, _, HS2.out, rfl⟩)))))
    clear HN HS2
    have hz : w4.heap[w2.heap.size]? = some (.cells #[.int .u8 k, .int .i64 0, .int .i64 0, .int .i64 0, .int .i64 0, .int .u8 0, .int .i64 0, .int .i64 0, .bool false, .bool false, .int .u8 0, .int .i64 0, .int .i64 0, .int .i64 0, .int .i64 0, .int .u8 0] 27 (0, 0)) := (HW4.out.block _ HL3.out (by intro e; injection e; omega)).trans HZ3.out
    have hs : w2.heap.size < w4.heap.size := Nat.lt_of_lt_of_le HL3.out HW4.out.size
    have HGW : Hid (Below w.heap.size w w4) := Lib.hid (HW3.out.trans (grown_below HW4.out (Nat.le_of_lt hgb) HW3.out.size))
    have HR : Hid (w4.heap[w.heap.size]? = some (.cells #[.int .u8 0, .int .i64 0, .int .i64 0, .int .i64 0, .int .i64 0, .int .u8 0, .int .i64 0, .int .i64 0, .bool false, .bool false, .int .u8 0, .int .i64 0, .int .i64 0, .int .i64 0, .int .i64 0, .int .u8 0] 27 (0, 0))) := Lib.hid ((HW4.out.block _ (by have := HL3.out; omega) (by intro e; injection e; omega)).trans HR3.out)
    have HQ := Lib.hid (boxed_self hz)
    clear hz
    rw [HQ.out]
    clear HQ
    have HGB : ∀ cs, GB (boxed w4 w2.heap.size cs 27) gb l2 f2 := fun cs => HG4.out.kept fun i hi => boxed_block_other (by omega)
    have HGB := Lib.hid HGB
    go_wp2_with (fail)
    refine (end_any _ _ _ _ (HGB.out _)).mono ?_
    rintro x w9 ⟨⟨X, rfl, hX⟩, rfl⟩
    have hB9 : (boxed w4 w2.heap.size #[.int .u8 k, .int .i64 0, .int .i64 0, .int .i64 0, .int .i64 0, .int .u8 0, .int .i64 0, .int .i64 0, .bool false, .bool false, .int .u8 K, .int .i64 S, .int .i64 C, .int .i64 T, .int .i64 M, .int .u8 V] 27).heap[w2.heap.size]? = some (.cells #[.int .u8 k, .int .i64 0, .int .i64 0, .int .i64 0, .int .i64 0, .int .u8 0, .int .i64 0, .int .i64 0, .bool false, .bool false, .int .u8 K, .int .i64 S, .int .i64 C, .int .i64 T, .int .i64 M, .int .u8 V] 27 (0, 0)) := boxed_block hs
    have hR9 : (boxed w4 w2.heap.size #[.int .u8 k, .int .i64 0, .int .i64 0, .int .i64 0, .int .i64 0, .int .u8 0, .int .i64 0, .int .i64 0, .bool false, .bool false, .int .u8 K, .int .i64 S, .int .i64 C, .int .i64 T, .int .i64 M, .int .u8 V] 27).heap[w.heap.size]? = some (.cells #[.int .u8 0, .int .i64 0, .int .i64 0, .int .i64 0, .int .i64 0, .int .u8 0, .int .i64 0, .int .i64 0, .bool false, .bool false, .int .u8 0, .int .i64 0, .int .i64 0, .int .i64 0, .int .i64 0, .int .u8 0] 27 (0, 0)) := (boxed_block_other (by omega)).trans HR.out
    have hW9 : Below w.heap.size w (boxed w4 w2.heap.size #[.int .u8 k, .int .i64 0, .int .i64 0, .int .i64 0, .int .i64 0, .int .u8 0, .int .i64 0, .int .i64 0, .bool false, .bool false, .int .u8 K, .int .i64 S, .int .i64 C, .int .i64 T, .int .i64 M, .int .u8 V] 27) := boxed_below HGW.out (Nat.le_of_lt HLR)
    have hs9 : w2.heap.size < (boxed w4 w2.heap.size #[.int .u8 k, .int .i64 0, .int .i64 0, .int .i64 0, .int .i64 0, .int .u8 0, .int .i64 0, .int .i64 0, .bool false, .bool false, .int .u8 K, .int .i64 S, .int .i64 C, .int .i64 T, .int .i64 M, .int .u8 V] 27).heap.size := by rw [boxed_size]; exact hs
    generalize (boxed w4 w2.heap.size #[.int .u8 k, .int .i64 0, .int .i64 0, .int .i64 0, .int .i64 0, .int .u8 0, .int .i64 0, .int .i64 0, .bool false, .bool false, .int .u8 K, .int .i64 S, .int .i64 C, .int .i64 T, .int .i64 M, .int .u8 V] 27) = w9 at *
    rcases hX with ⟨rfl, hf, hl'⟩ | ⟨hx, hf⟩
    · subst hf hl'
      go_wp2_with (first | (with_reducible_and_instances (show wpList _ _ _ (Oper.mk _ (Op.load 27 _) _ _ _ _ :: _) _ _); refine wl_load Try.underlying27 rfl info16 rfl rfl rfl (by (repeat (first | assumption | (with_reducible refine alloc_at ?_; (focus (first | omega | (simp; done) | (simp; omega)))) | (with_reducible refine boxed_at ?_; (focus (first | omega | (simp; done) | (simp; omega)))) | (with_reducible refine alloc_old ?_ ?_; (focus (first | omega | (simp; done) | (simp; omega)))) | (with_reducible refine boxed_old ?_ ?_; (focus (first | omega | (simp; done) | (simp; omega)))) | (with_reducible refine drew_old ?_)))) (by rfl) ?_))
      obtain ⟨y, hy⟩ : ∃ y, Ov.right ⟨k, 0, 0, 0, Pv.zero, ⟨K, S, C, T, M, V⟩⟩ = y := ⟨_, rfl⟩
      have HY := Lib.hid hy
      refine (oright_any k 0 0 0 0 0 0 0 false false K S C T M V _).mono ?_
      rw [show Ov.right ⟨k, 0, 0, 0, ⟨0, 0, 0, 0, false, false⟩, ⟨K, S, C, T, M, V⟩⟩ = y from hy]
      clear hy
      rintro x w10 ⟨rfl, hb10⟩
      have hB10 := (hb10.block _ hs9).trans hB9
      have hR10 := (hb10.block _ (Nat.lt_trans HLR hs9)).trans hR9
      have hW10 := hW9.trans (hb10.mono hW9.size)
      have hs10 : w2.heap.size < w10.heap.size := Nat.lt_of_lt_of_le hs9 hb10.size
      clear hb10
      by_cases d : y = 0
      · subst d
        go_wp2_with (first | (with_reducible_and_instances (show wpList _ _ _ (Oper.mk _ (Op.load 27 _) _ _ _ _ :: _) _ _); refine wl_load Try.underlying27 rfl info16 rfl rfl rfl (by (repeat (first | assumption | (with_reducible refine alloc_at ?_; (focus (first | omega | (simp; done) | (simp; omega)))) | (with_reducible refine boxed_at ?_; (focus (first | omega | (simp; done) | (simp; omega)))) | (with_reducible refine alloc_old ?_ ?_; (focus (first | omega | (simp; done) | (simp; omega)))) | (with_reducible refine boxed_old ?_ ?_; (focus (first | omega | (simp; done) | (simp; omega)))) | (with_reducible refine drew_old ?_)))) (by rfl) ?_) | (with_reducible_and_instances (show wpList _ _ _ (Oper.mk _ (Op.store 27 _ _) _ _ _ _ :: _) _ _); refine wl_store info16 rfl rfl rfl rfl (by (repeat (first | assumption | (with_reducible refine alloc_at ?_; (focus (first | omega | (simp; done) | (simp; omega)))) | (with_reducible refine boxed_at ?_; (focus (first | omega | (simp; done) | (simp; omega)))) | (with_reducible refine alloc_old ?_ ?_; (focus (first | omega | (simp; done) | (simp; omega)))) | (with_reducible refine boxed_old ?_ ?_; (focus (first | omega | (simp; done) | (simp; omega)))) | (with_reducible refine drew_old ?_)))) (by rfl) (by rfl) (by simp [Value.oneCell']) ?_))
        refine bodyPost_ret (v := .tuple #[.agg #[.int .u8 k, .int .i64 0, .int .i64 0, .int .i64 0, .int .i64 0, .int .u8 0, .int .i64 0, .int .i64 0, .bool false, .bool false, .int .u8 K, .int .i64 S, .int .i64 C, .int .i64 T, .int .i64 M, .int .u8 V], .int .i64 0]) (results_two rfl _ _ w.heap.size 27 _ (0, 0) (.int .i64 0) rfl rfl (by (repeat (first | assumption | (with_reducible refine alloc_at ?_; (focus (first | omega | (simp; done) | (simp; omega)))) | (with_reducible refine boxed_at ?_; (focus (first | omega | (simp; done) | (simp; omega)))) | (with_reducible refine alloc_old ?_ ?_; (focus (first | omega | (simp; done) | (simp; omega)))) | (with_reducible refine boxed_old ?_ ?_; (focus (first | omega | (simp; done) | (simp; omega)))) | (with_reducible refine drew_old ?_)))) rfl) rfl ⟨⟨k, 0, 0, 0, Pv.zero, ⟨K, S, C, T, M, V⟩⟩, 0, rfl, Ov.Dec.yes HS1.out HO.out HY.out (fun x hx => (HBO.out x hx).1), by (repeat (first | assumption | (with_reducible exact Below.refl _ _) | (with_reducible refine boxed_below ?_ ?_; rotate_left; (focus (first | omega | (simp; done) | (simp; omega)))) | (with_reducible refine Below.alloc ?_ ?_ _; rotate_left; (focus (first | omega | (simp; done) | (simp; omega)))) | (with_reducible refine Below.drew ?_)))⟩
      · have z : (y != 0) = true := by simpa using d
        have HD := Lib.hid d
        clear d
        go_wp2_with (first | (with_reducible_and_instances (show wpList _ _ _ (Oper.mk _ (Op.load 27 _) _ _ _ _ :: _) _ _); refine wl_load Try.underlying27 rfl info16 rfl rfl rfl (by (repeat (first | assumption | (with_reducible refine alloc_at ?_; (focus (first | omega | (simp; done) | (simp; omega)))) | (with_reducible refine boxed_at ?_; (focus (first | omega | (simp; done) | (simp; omega)))) | (with_reducible refine alloc_old ?_ ?_; (focus (first | omega | (simp; done) | (simp; omega)))) | (with_reducible refine boxed_old ?_ ?_; (focus (first | omega | (simp; done) | (simp; omega)))) | (with_reducible refine drew_old ?_)))) (by rfl) ?_) | (with_reducible_and_instances (show wpList _ _ _ (Oper.mk _ (Op.store 27 _ _) _ _ _ _ :: _) _ _); refine wl_store info16 rfl rfl rfl rfl (by (repeat (first | assumption | (with_reducible refine alloc_at ?_; (focus (first | omega | (simp; done) | (simp; omega)))) | (with_reducible refine boxed_at ?_; (focus (first | omega | (simp; done) | (simp; omega)))) | (with_reducible refine alloc_old ?_ ?_; (focus (first | omega | (simp; done) | (simp; omega)))) | (with_reducible refine boxed_old ?_ ?_; (focus (first | omega | (simp; done) | (simp; omega)))) | (with_reducible refine drew_old ?_)))) (by rfl) (by rfl) (by simp [Value.oneCell']) ?_))
        refine bodyPost_ret (v := .tuple #[.agg #[.int .u8 0, .int .i64 0, .int .i64 0, .int .i64 0, .int .i64 0, .int .u8 0, .int .i64 0, .int .i64 0, .bool false, .bool false, .int .u8 0, .int .i64 0, .int .i64 0, .int .i64 0, .int .i64 0, .int .u8 0], .int .i64 4]) (results_two rfl _ _ w.heap.size 27 _ (0, 0) (.int .i64 4) rfl rfl (by (repeat (first | assumption | (with_reducible refine alloc_at ?_; (focus (first | omega | (simp; done) | (simp; omega)))) | (with_reducible refine boxed_at ?_; (focus (first | omega | (simp; done) | (simp; omega)))) | (with_reducible refine alloc_old ?_ ?_; (focus (first | omega | (simp; done) | (simp; omega)))) | (with_reducible refine boxed_old ?_ ?_; (focus (first | omega | (simp; done) | (simp; omega)))) | (with_reducible refine drew_old ?_)))) rfl) rfl ⟨Ov.zero, 4, rfl, Ov.Dec.no HS1.out HO.out (.inr (.inr (by rw [HY.out]; exact HD.out))), by (repeat (first | assumption | (with_reducible exact Below.refl _ _) | (with_reducible refine boxed_below ?_ ?_; rotate_left; (focus (first | omega | (simp; done) | (simp; omega)))) | (with_reducible refine Below.alloc ?_ ?_ _; rotate_left; (focus (first | omega | (simp; done) | (simp; omega)))) | (with_reducible refine Below.drew ?_)))⟩
    · have z : (X != 0) = true := by simpa using hx
      have HF := Lib.hid hf
      clear hf hx
      go_wp2_with (first | (with_reducible_and_instances (show wpList _ _ _ (Oper.mk _ (Op.load 27 _) _ _ _ _ :: _) _ _); refine wl_load Try.underlying27 rfl info16 rfl rfl rfl (by (repeat (first | assumption | (with_reducible refine alloc_at ?_; (focus (first | omega | (simp; done) | (simp; omega)))) | (with_reducible refine boxed_at ?_; (focus (first | omega | (simp; done) | (simp; omega)))) | (with_reducible refine alloc_old ?_ ?_; (focus (first | omega | (simp; done) | (simp; omega)))) | (with_reducible refine boxed_old ?_ ?_; (focus (first | omega | (simp; done) | (simp; omega)))) | (with_reducible refine drew_old ?_)))) (by rfl) ?_) | (with_reducible_and_instances (show wpList _ _ _ (Oper.mk _ (Op.store 27 _ _) _ _ _ _ :: _) _ _); refine wl_store info16 rfl rfl rfl rfl (by (repeat (first | assumption | (with_reducible refine alloc_at ?_; (focus (first | omega | (simp; done) | (simp; omega)))) | (with_reducible refine boxed_at ?_; (focus (first | omega | (simp; done) | (simp; omega)))) | (with_reducible refine alloc_old ?_ ?_; (focus (first | omega | (simp; done) | (simp; omega)))) | (with_reducible refine boxed_old ?_ ?_; (focus (first | omega | (simp; done) | (simp; omega)))) | (with_reducible refine drew_old ?_)))) (by rfl) (by rfl) (by simp [Value.oneCell']) ?_))
      refine bodyPost_ret (v := .tuple #[.agg #[.int .u8 0, .int .i64 0, .int .i64 0, .int .i64 0, .int .i64 0, .int .u8 0, .int .i64 0, .int .i64 0, .bool false, .bool false, .int .u8 0, .int .i64 0, .int .i64 0, .int .i64 0, .int .i64 0, .int .u8 0], .int .i64 4]) (results_two rfl _ _ w.heap.size 27 _ (0, 0) (.int .i64 4) rfl rfl (by (repeat (first | assumption | (with_reducible refine alloc_at ?_; (focus (first | omega | (simp; done) | (simp; omega)))) | (with_reducible refine boxed_at ?_; (focus (first | omega | (simp; done) | (simp; omega)))) | (with_reducible refine alloc_old ?_ ?_; (focus (first | omega | (simp; done) | (simp; omega)))) | (with_reducible refine boxed_old ?_ ?_; (focus (first | omega | (simp; done) | (simp; omega)))) | (with_reducible refine drew_old ?_)))) rfl) rfl ⟨Ov.zero, 4, rfl, Ov.Dec.no HS1.out HO.out (HF.out.elim .inl (fun h => .inr (.inl h))), by (repeat (first | assumption | (with_reducible exact Below.refl _ _) | (with_reducible refine boxed_below ?_ ?_; rotate_left; (focus (first | omega | (simp; done) | (simp; omega)))) | (with_reducible refine Below.alloc ?_ ?_ _; rotate_left; (focus (first | omega | (simp; done) | (simp; omega)))) | (with_reducible refine Below.drew ?_)))⟩
end Go.Proofs.Ytambppcnmggocaa
