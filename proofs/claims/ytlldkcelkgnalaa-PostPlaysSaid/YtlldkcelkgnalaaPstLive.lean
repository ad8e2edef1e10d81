/-
  A post in a law's walk: each call leaves it, and what is apart from it; the document's example. No conditions but the sizes.
-/
import Derived.Test.YtlldkcelkgnalaaPstOps
import Derived.Lib.SlBytesConst
namespace Go.Proofs.Ytlldkcelkgnalaa
set_option maxRecDepth 20000
open Go.ChangeShapes Go.WideShapes Go.ChangeAt Go.RowKit

/-- A post that lives: behind an old world, apart from N. -/
def PL (g : Nat) (st : List Ltr) (w0 : World) (N : Nat → Prop) (w : World) : Prop := LiveO (PstB g st) w0 N w
section
variable {w0 w w' : World} {N N' : Nat → Prop} {g : Nat} {st : List Ltr}
theorem PL.old (h : PL g st w0 N w) : Below w0.heap.size w0 w := LiveO.old h
theorem PL.below (h : PL g st w0 N w) (hb : Below w.heap.size w w') : PL g st w0 N w' := LiveO.below (pst_thing g st) h hb
theorem PL.less (h : PL g st w0 N w) (hN : ∀ i, N' i → N i) : PL g st w0 N' w := LiveO.less h hN
theorem PL.alloc (h : PL g st w0 N w) (o : Obj) : PL g st w0 (fun i => N i ∨ i = w.heap.size) (w.alloc o) := LiveO.alloc (pst_thing g st) h o
theorem PL.more (h : PL g st w0 N w) (hb : Below w.heap.size w w') : PL g st w0 (fun i => N i ∨ (w.heap.size ≤ i ∧ i < w'.heap.size)) w' := LiveO.more (pst_thing g st) h hb
theorem PL.turned (h : PL g st w0 N w) (hs : w.heap.size ≤ w'.heap.size) (hk : ∀ i, ¬ N i → w'.heap[i]? = w.heap[i]?) (hb : Below w0.heap.size w0 w') : PL g st w0 N w' := LiveO.turned (pst_thing g st) h hs hk hb
theorem PL.grown (h : PL g st w0 N w) (hs : w.heap.size ≤ w'.heap.size) (hk : ∀ i, i < w.heap.size → ¬ N i → w'.heap[i]? = w.heap[i]?) (hb : Below w0.heap.size w0 w') : PL g st w0 (fun i => N i ∨ w.heap.size ≤ i) w' := LiveO.grown (pst_thing g st) h hs hk hb
theorem PL.boxed (h : PL g st w0 N w) {b : Nat} {cs : Array Value} {t : TypeId} (hg : N b) (h0 : w0.heap.size ≤ b) : PL g st w0 N (Go.Proofs.Ytlldkcelkgnalaa.boxed w b cs t) := LiveO.boxed (pst_thing g st) h hg h0
theorem PL.setCell (h : PL g st w0 N w) {p : Addr} {v : Value} (hg : N p.block) (h0 : w0.heap.size ≤ p.block) : PL g st w0 N (w.setCell p v) := LiveO.setCell (pst_thing g st) h hg h0
theorem PL.new (hb : Below w0.heap.size w0 w) : PL w.heap.size [] w0 (fun _ => False) (w.alloc (.cells #[.slice none 0 0] 28)) :=
  LiveO.new (F := fun i => i = w.heap.size) ⟨_, _, PstC.new⟩ (fun i hi => by rw [hi]; exact hb.size) (hb.alloc hb.size _)
/-- Its letters' slice. -/
theorem PL.cell (h : PL g st w0 N w) : ∃ A c, w.cell? ⟨g, 0, none⟩ = some (.slice A st.length c) := by
  obtain ⟨F, ⟨v, rs, hp⟩, _⟩ := h
  obtain ⟨A, c, hv, _⟩ := hp.row.form
  exact ⟨A, c, by rw [cell_of_row _ _ _ _ _ _ hp.blk, hv]; rfl⟩
theorem PL.len (h : PL g st w0 N w) : st.length ≤ 512 := by obtain ⟨F, ⟨v, rs, hp⟩, _⟩ := h; exact hp.len
/-- What a call on it leaves. -/
structure PLs (g : Nat) (st : List Ltr) (w0 : World) (N : Nat → Prop) (w w' : World) : Prop where
  live : PL g st w0 N w'
  kept : KeptO w0 N w w'
  keep : KeepU w w'
theorem live_len (h : PL g st w0 N w) : Calls Try.prog 11 #[.pointer (some ⟨g, 0, none⟩)] w fun e w' => e = .returned (.int .i64 (st.length : Nat)) ∧ w = w' := by
  obtain ⟨A, c, hc⟩ := h.cell
  exact len_any w g A _ c hc
theorem live_send (h : PL g st w0 N w) (hN : ∀ i, N i → i < w.heap.size) (to : Int) {bv : Value} {l : List Int} (hb : Bts w (fun _ => True) bv l) (hl : l.length ≤ 1000) :
    Calls Try.prog 7 #[.pointer (some ⟨g, 0, none⟩), .int .u8 to, bv] w fun e w' => e = .returned (.tuple #[]) ∧ PLs g (Pst.send st (to, l)) w0 N w w' := by
  obtain ⟨F, hp, h2, h3⟩ := h
  refine (send_any w F g st to bv l hp hb hl).mono fun e w' ⟨h4, h5, h6⟩ => ⟨h4, ?_⟩
  obtain ⟨h7, h8⟩ := LiveO.post hN h2 h3 h5
  exact ⟨h7, h8, h6⟩
/-- A letter that came. -/
def Took (g : Nat) (st : List Ltr) (s : Ltr) (w0 : World) (N : Nat → Prop) (w : World) (e : Ending) (w' : World) : Prop := ∃ A c, e = .returned (.tuple #[.agg #[.int .u8 s.1, .slice A s.2.length c], .int .i64 0]) ∧ Bts w' (fun _ => True) (.slice A s.2.length c) s.2 ∧ PLs g st w0 N w w'
theorem live_take (h : PL g st w0 N w) (hN : ∀ i, N i → i < w.heap.size) (i : Int) {s : Ltr} (h0 : 0 < st.length) (hs : st[Pst.pl st.length i]? = some s) :
    Calls Try.prog 10 #[.pointer (some ⟨g, 0, none⟩), .int .i64 i] w (Took g (Pst.out st (Pst.pl st.length i)) s w0 N w) := by
  obtain ⟨F, hp, h2, h3⟩ := h
  refine (take_any w F g st i s hp h0 hs).mono fun e w' ⟨u, h4, h5, h6, h7⟩ => ?_
  obtain ⟨h8, h9⟩ := LiveO.post hN h2 h3 h6
  obtain ⟨A, c, hu, _⟩ := h5.rd
  subst hu
  exact ⟨A, c, h4, h5.mono fun _ _ => trivial, h8, h9, h7⟩
theorem live_lose (h : PL g st w0 N w) (hN : ∀ i, N i → i < w.heap.size) (i : Int) {s : Ltr} (h0 : 0 < st.length) (hs : st[Pst.pl st.length i]? = some s) :
    Calls Try.prog 9 #[.pointer (some ⟨g, 0, none⟩), .int .i64 i] w fun e w' => e = .returned (.int .i64 0) ∧ PLs g (Pst.out st (Pst.pl st.length i)) w0 N w w' := by
  obtain ⟨F, hp, h2, h3⟩ := h
  refine (lose_any w F g st i s hp h0 hs).mono fun e w' ⟨h4, h5, h6⟩ => ⟨h4, ?_⟩
  obtain ⟨h7, h8⟩ := LiveO.post hN h2 h3 h5
  exact ⟨h7, h8, h6⟩
theorem live_double (h : PL g st w0 N w) (hN : ∀ i, N i → i < w.heap.size) (i : Int) {s : Ltr} (h0 : 0 < st.length) (hs : st[Pst.pl st.length i]? = some s) (hl : s.2.length ≤ 1000) :
    Calls Try.prog 8 #[.pointer (some ⟨g, 0, none⟩), .int .i64 i] w fun e w' => e = .returned (.int .i64 0) ∧ PLs g (Pst.send st s) w0 N w w' := by
  obtain ⟨F, hp, h2, h3⟩ := h
  refine (double_any w F g st i s hp h0 hs hl).mono fun e w' ⟨h4, h5, h6⟩ => ⟨h4, ?_⟩
  obtain ⟨h7, h8⟩ := LiveO.post hN h2 h3 h5
  exact ⟨h7, h8, h6⟩
end
theorem send_short {st : List Ltr} {x : Ltr} (h : st.length < 512) : Pst.send st x = st ++ [x] := by unfold Pst.send; rw [if_neg (by omega)]
/-- Bytes that a literal lays. -/
theorem bts_lit (w : World) (cs : Array Value) (l : List Int) (fr : Nat × Nat) (n : Nat) (hn : l.length = n) (h : cs.toList = cl .u8 l) (hl : n ≤ 1000) : Bts (w.alloc (.cells cs 5 fr)) (fun _ => True) (.slice (some ⟨w.heap.size, 0, none⟩) n n) l := by
  subst hn
  exact ⟨_, _, rfl, Nat.le_refl _, by unfold maxLen; omega, fun _ => ⟨w.heap.size, cs, fr, rfl, trivial, alloc_block, by rw [h, List.take_of_length_le (by rw [cl_length]; exact Nat.le_refl _)]⟩⟩

set_option maxHeartbeats 1000000 in
theorem awake_any (w : World) : Calls Try.prog 6 #[] w fun e w' => e = .returned (.bool true) ∧ Below w.heap.size w w' := by
  have HL := Lib.hid (PL.new (Below.refl w.heap.size w))
  have hk := Lib.run_convert_bytes_const (P := Try.prog) (w.alloc (.cells #[.slice none 0 0] 28)) 22 5 #[.int .u8 97] 1 1 Try.underlying22 Try.underlying5
  rw [World.size_alloc] at hk
  go_enter Try.func6, Try.ntmps6
  go_wp2_with (fail)
  have HB := Lib.hid (bts_lit (w.alloc (.cells #[.slice none 0 0] 28)) #[.int .u8 97] [97] (1, 2) 1 rfl rfl (by decide))
  have HL1 := Lib.hid (HL.out.below ((Below.refl _ _).alloc (Nat.le_refl _) (.cells #[.int .u8 97] 5 (1, 2))))
  rw [World.size_alloc] at HB
  refine (live_send HL1.out (fun i hi => hi.elim) 1 HB.out (by decide)).mono ?_
  rintro e w1 ⟨rfl, h1⟩
  have HL2 := Lib.hid h1.live
  clear h1 hk
  go_wp2_with (fail)
  refine (live_double HL2.out (fun i hi => hi.elim) 0 (s := (1, [97])) (by decide) rfl (by decide)).mono ?_
  rintro e w2 ⟨rfl, h2⟩
  have HL3 := Lib.hid h2.live
  clear h2
  go_wp2_with (fail)
  refine (live_len HL3.out).mono ?_
  rintro e w3 ⟨rfl, rfl⟩
  go_wp2_with (fail)
  go_ret
  exact ⟨rfl, HL3.out.old⟩
end Go.Proofs.Ytlldkcelkgnalaa
