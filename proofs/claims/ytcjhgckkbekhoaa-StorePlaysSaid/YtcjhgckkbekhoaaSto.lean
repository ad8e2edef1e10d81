/-
  A store, by what was said and what is aside: its words, and the contracts of allocate and release. No conditions but the sizes.
-/
import Derived.Test.YtcjhgckkbekhoaaMapE
import Derived.Test.YtcjhgckkbekhoaaLaneT
import Derived.Test.YtcjhgckkbekhoaaExec
import Derived.Test.YtcjhgckkbekhoaaTurn
namespace Go.Proofs.Ytcjhgckkbekhoaa
set_option maxRecDepth 20000
open Go.ChangeShapes Go.WideShapes Go.ChangeAt Go.RowKit

theorem sto_laid : laidOutB Try.prog = true := by kernel_rfl
theorem course_keyed : Maps.Keyed Try.prog 89 := Maps.Keyed.of_law (deep_law_gate sto_laid (of_decide_eq_true (by kernel_rfl)) (of_decide_eq_true (by kernel_rfl)) (by kernel_rfl) (by kernel_rfl))
/-- A pair's value. -/
def pv (p : Int × Int) : Value := .agg #[.int .i64 p.1, .int .i64 p.2]
def pok (p : Int × Int) : Prop := (Lit.int .i64 p.1).wf = true ∧ (Lit.int .i64 p.2).wf = true
theorem pv_inj (x y : Int × Int) (h : pv x = pv y) : x = y := by
  obtain ⟨a, b⟩ := x
  obtain ⟨c, d⟩ := y
  unfold pv at h
  simp at h
  simp [h]
theorem course_lit (p : Int × Int) (h : pok p) : ∃ l, keyOf Try.prog 89 (pv p) = some l :=
  lits_two Try.underlying89 Try.underlying3 (by kernel_rfl) (by kernel_rfl) (by kernel_rfl) (by decide) (by decide) rfl rfl rfl rfl ⟨Try.prog.types.size - 1, (by kernel_rfl)⟩ h.1 h.2
def courseE : Enc Try.prog 89 (Int × Int) := ⟨pv, pok, course_keyed, course_lit, pv_inj⟩

/-! What becomes of it. -/
structure Sto where
  said : Int × Int → Option Int
  aside : List (Int × Int)
def Sto.sd (st : Sto) : Int × Int → Option Value := fun k => (st.said k).map (Value.int .u8)
def Sto.ad (st : Sto) : Int × Int → Option Value := fun k => if k ∈ st.aside then some (.agg #[]) else none
def Sto.new : Sto := ⟨fun _ => none, []⟩
/-- What is said to an Allocate. -/
def Sto.ans (st : Sto) (k : Int × Int) (v : Int) : Int := (st.said k).getD (if v = 1 then 1 else 3)
def Sto.alloc (st : Sto) (k : Int × Int) (v : Int) : Sto := match st.said k with
  | some _ => st
  | none => ⟨fun j => if j = k then some (if v = 1 then 1 else 3) else st.said j, if v = 1 then k :: st.aside else st.aside⟩
def Sto.drop (st : Sto) (k : Int × Int) : Sto := ⟨(st.alloc k 3).said, (st.alloc k 3).aside.filter (· != k)⟩

/-- A store in memory: its struct at g, its maps at b1, b2. -/
structure StoC (w : World) (g b1 b2 : Nat) (st : Sto) (m : Nat) : Prop where
  blk : w.heap[g]? = some (.cells #[.map (some b1), .map (some b2)] 87 (0, 0))
  m1 : ∃ c, MapE courseE w b1 m st.sd c
  m2 : MapE courseE w b2 m st.ad st.aside.length
  ne : b1 ≠ b2
  nd : st.aside.Nodup
  sub : ∀ k ∈ st.aside, st.said k = some 1
/-- Only its maps turn. -/
abbrev stoF (b1 b2 : Nat) : Nat → Prop := fun i => i = b1 ∨ i = b2

theorem map_ne {w : World} {b g : Nat} {n c : Nat} {f : Int × Int → Option Value} {cs : Array Value} {t : TypeId} (h : MapE courseE w b n f c) (hg : w.heap[g]? = some (.cells cs t (0, 0))) : g ≠ b := by
  rintro rfl
  obtain ⟨es, c, h⟩ := h.isMap
  rw [hg] at h; cases h
theorem StoC.kept {w w' : World} {g b1 b2 : Nat} {st : Sto} {m : Nat} (h : StoC w g b1 b2 st m) (hg : w'.heap[g]? = w.heap[g]?) (h1 : w'.heap[b1]? = w.heap[b1]?) (h2 : w'.heap[b2]? = w.heap[b2]?) : StoC w' g b1 b2 st m :=
  ⟨hg.trans h.blk, h.m1.imp fun _ k => k.kept h1, h.m2.kept h2, h.ne, h.nd, h.sub⟩
theorem StoC.below {w w' : World} {g b1 b2 : Nat} {st : Sto} {m : Nat} (h : StoC w g b1 b2 st m) (hb : Below w.heap.size w w') : StoC w' g b1 b2 st m := by
  obtain ⟨c, h1⟩ := h.m1
  exact h.kept (hb.block g (Array.getElem?_eq_some_iff.1 h.blk).1) (hb.block b1 h1.lt) (hb.block b2 h.m2.lt)

theorem StoC.mono {w : World} {g b1 b2 : Nat} {st : Sto} {m m' : Nat} (h : StoC w g b1 b2 st m) (hm : m ≤ m') : StoC w g b1 b2 st m' := ⟨h.blk, h.m1.imp fun _ k => k.mono hm, h.m2.mono hm, h.ne, h.nd, h.sub⟩
theorem course_map : Try.prog.underlying 84 = some (.map 89 5) := Try.underlying84
theorem zero_u8 (w : World) : (zeroValue 5).run Try.prog w = .ok (.int .u8 0) w := by kernel_rfl
theorem zero_unit (w : World) : (zeroValue 92).run Try.prog w = .ok (.agg #[]) w := by kernel_rfl

theorem at_ne {w w' : World} {b : Nat} (h : w.grownBy w' (some b)) {j : Nat} {o : Obj} (hj : j ≠ b) (hl : w.heap[j]? = some o) : w'.heap[j]? = some o :=
  (h.block j (Array.getElem?_eq_some_iff.1 hl).1 fun e => hj (by injection e)).trans hl
theorem StoC.say {w : World} {g b1 b2 : Nat} {st : Sto} {m : Nat} (h : StoC w g b1 b2 st m) {k : Int × Int} (hk : pok k) (hs : st.said k = none) (hm : m ≤ 100000) (x : Int) :
    ∃ w', (Instr.mapUpdate 84 (.map (some b1)) (pv k) (.int .u8 x)).run Try.prog w = .ok () w' ∧ StoC w' g b1 b2 ⟨fun j => if j = k then some x else st.said j, st.aside⟩ (m + 1) ∧ w.grownBy w' (some b1) := by
  obtain ⟨c, h1⟩ := h.m1
  obtain ⟨w', hrun, hp, hg, _⟩ := h1.put course_map (by omega) k hk (.int .u8 x)
  refine ⟨w', hrun, ⟨at_ne hg (map_ne h1 h.blk) h.blk, ⟨if (st.sd k).isSome then c else c + 1, ?_⟩, ?_, h.ne, h.nd, fun j hj => ?_⟩, hg⟩
  · have e : (⟨fun j => if j = k then some x else st.said j, st.aside⟩ : Sto).sd = fun j => if j = k then some (.int .u8 x) else st.sd j := by
      funext j
      unfold Sto.sd
      by_cases hj : j = k <;> simp [hj]
    rw [e]
    exact hp
  · obtain ⟨es, cc, hh⟩ := h.m2.isMap
    exact (h.m2.kept ((at_ne hg (Ne.symm h.ne) hh).trans hh.symm)).mono (Nat.le_succ _)
  · have hne : j ≠ k := fun e => by subst e; rw [h.sub j hj] at hs; cases hs
    show (if j = k then some x else st.said j) = some 1
    rw [if_neg hne]
    exact h.sub j hj
theorem course_map2 : Try.prog.underlying 85 = some (.map 89 92) := Try.underlying85
theorem StoC.lay {w : World} {g b1 b2 : Nat} {st : Sto} {m : Nat} (h : StoC w g b1 b2 st m) {k : Int × Int} (hk : pok k) (hs : st.said k = some 1) (hn : k ∉ st.aside) (hm : m ≤ 100000) :
    ∃ w', (Instr.mapUpdate 85 (.map (some b2)) (pv k) (.agg #[])).run Try.prog w = .ok () w' ∧ StoC w' g b1 b2 ⟨st.said, k :: st.aside⟩ (m + 1) ∧ w.grownBy w' (some b2) := by
  obtain ⟨c, h1⟩ := h.m1
  obtain ⟨w', hrun, hp, hg, _⟩ := h.m2.put course_map2 (by omega) k hk (.agg #[])
  refine ⟨w', hrun, ⟨at_ne hg (map_ne h.m2 h.blk) h.blk, ⟨c, ?_⟩, ?_, h.ne, List.nodup_cons.2 ⟨hn, h.nd⟩, fun j hj => ?_⟩, hg⟩
  · obtain ⟨es, cc, hh⟩ := h1.isMap
    exact (h1.kept ((at_ne hg h.ne hh).trans hh.symm)).mono (Nat.le_succ _)
  · have e : (⟨st.said, k :: st.aside⟩ : Sto).ad = fun j => if j = k then some (.agg #[]) else st.ad j := by
      funext j
      unfold Sto.ad
      by_cases hj : j = k <;> simp [hj]
    have e2 : (st.ad k).isSome = false := by unfold Sto.ad; rw [if_neg hn]; rfl
    rw [e2] at hp
    rw [e]
    exact hp
  · rcases List.mem_cons.1 hj with rfl | hj
    · exact hs
    · exact h.sub j hj
theorem StoC.strike {w : World} {g b1 b2 : Nat} {st : Sto} {m : Nat} (h : StoC w g b1 b2 st m) {k : Int × Int} (hk : pok k) (ty : TypeId) :
    ∃ w', (Builtin.delete_ #[85, 89] ty #[.map (some b2), pv k]).run Try.prog w = .ok (.tuple #[]) w' ∧ StoC w' g b1 b2 ⟨st.said, st.aside.filter (· != k)⟩ m ∧ w.grownBy w' (some b2) := by
  obtain ⟨c, h1⟩ := h.m1
  obtain ⟨w', hrun, hp, hg, _⟩ := h.m2.del course_map2 k hk ty
  refine ⟨w', hrun, ⟨at_ne hg (map_ne h.m2 h.blk) h.blk, ⟨c, ?_⟩, ?_, h.ne, h.nd.filter _, fun j hj => h.sub j (List.mem_filter.1 hj).1⟩, hg⟩
  · obtain ⟨es, cc, hh⟩ := h1.isMap
    exact h1.kept ((at_ne hg h.ne hh).trans hh.symm)
  · have e : (⟨st.said, st.aside.filter (· != k)⟩ : Sto).ad = fun j => if j = k then none else st.ad j := by
      funext j
      unfold Sto.ad
      by_cases hj : j = k <;> simp [hj]
    have e2 : (if (st.ad k).isSome then st.aside.length - 1 else st.aside.length) = (st.aside.filter (· != k)).length := by
      unfold Sto.ad
      by_cases hm : k ∈ st.aside
      · rw [if_pos hm]
        show st.aside.length - 1 = _
        rw [← List.Nodup.erase_eq_filter h.nd, List.length_erase_of_mem hm]
      · rw [if_neg hm]
        show st.aside.length = _
        rw [List.filter_eq_self.2 fun x hx => by simp only [bne_iff_ne, ne_eq]; rintro rfl; exact hm hx]
    rw [e2] at hp
    rw [e]
    exact hp

set_option maxHeartbeats 1000000 in
theorem allocate_said (w : World) (g b1 b2 : Nat) (st : Sto) (m : Nat) (a b v x : Int) (h : StoC w g b1 b2 st m) (hk : pok (a, b)) (hs : st.said (a, b) = some x) :
    Calls Try.prog 33 #[.pointer (some ⟨g, 0, none⟩), .agg #[.int .i64 a, .int .i64 b], .int .u8 v] w fun e w' => e = .returned (.int .u8 x) ∧ Below w.heap.size w w' := by
  obtain ⟨c, h1⟩ := h.m1
  have hlk : ∀ (o : Obj) (n : Nat), (Instr.lookup 84 (.map (some b1)) (.agg #[.int .i64 a, .int .i64 b]) true).run Try.prog ((w.alloc o).drewN n) = .ok (.tuple #[.int .u8 x, .bool true]) ((w.alloc o).drewN n) := fun o n => by
    have := (h1.kept (w' := (w.alloc o).drewN n) (alloc_block_old (o := o) h1.lt)).look_ok course_map (zero_u8 _) (a, b) hk
    have e : st.sd (a, b) = some (.int .u8 x) := by simp [Sto.sd, hs]
    rw [e] at this
    exact this
  have hg : g < w.heap.size := (Array.getElem?_eq_some_iff.1 h.blk).1
  have hb := h.blk
  obtain ⟨w0, rfl, hg⟩ : ∃ w0, w = boxed w0 g #[.map (some b1), .map (some b2)] 87 ∧ g < w0.heap.size := ⟨w, boxed_self h.blk, hg⟩
  clear h h1 hb
  go_enter Try.func33, Try.ntmps33
  go_wp2_with (fail)
  go_quiet (fail)
  go_wp2
  go_ret
  exact ⟨rfl, Below.drewN' ((Below.refl _ _).alloc (Nat.le_refl _) _) _⟩

/-- The world behind the look. -/
structure StoL (w W : World) (g b1 b2 kb : Nat) (a b : Int) (st : Sto) (m : Nat) : Prop where
  sto : StoC W g b1 b2 st m
  key : W.heap[kb]? = some (.cells #[.int .i64 a, .int .i64 b] 89 (0, 0))
  new : w.heap.size ≤ kb
  turn : Turn (stoF b1 b2) w W
theorem StoC.drew {w : World} {g b1 b2 : Nat} {st : Sto} {m : Nat} (h : StoC w g b1 b2 st m) : StoC w.drew g b1 b2 st m := h.kept rfl rfl rfl
section
variable {w W W' : World} {g b1 b2 kb : Nat} {a b : Int} {st st' : Sto} {m m' : Nat}
theorem StoL.cells0 (h : StoL w W g b1 b2 kb a b st m) : W.cell? ⟨g, 0, none⟩ = some (.map (some b1)) ∧ W.cell? ⟨kb, 0, none⟩ = some (.int .i64 a) ∧ W.cell? ⟨kb, 1, none⟩ = some (.int .i64 b) :=
  ⟨by rw [cell_of_row _ _ _ _ _ _ h.sto.blk]; rfl, by rw [cell_of_row _ _ _ _ _ _ h.key]; rfl, by rw [cell_of_row _ _ _ _ _ _ h.key]; rfl⟩
theorem StoL.cells1 (h : StoL w W g b1 b2 kb a b st m) : W.cell? ⟨g, 1, none⟩ = some (.map (some b2)) ∧ W.cell? ⟨kb, 0, none⟩ = some (.int .i64 a) ∧ W.cell? ⟨kb, 1, none⟩ = some (.int .i64 b) :=
  ⟨by rw [cell_of_row _ _ _ _ _ _ h.sto.blk]; rfl, by rw [cell_of_row _ _ _ _ _ _ h.key]; rfl, by rw [cell_of_row _ _ _ _ _ _ h.key]; rfl⟩
theorem StoL.ne0 (h : StoL w W g b1 b2 kb a b st m) : kb ≠ b1 := by obtain ⟨c, h1⟩ := h.sto.m1; exact map_ne h1 h.key
theorem StoL.ne1 (h : StoL w W g b1 b2 kb a b st m) : kb ≠ b2 := map_ne h.sto.m2 h.key
theorem StoL.next {b' : Nat} (h : StoL w W g b1 b2 kb a b st m) (hs : StoC W' g b1 b2 st' m') (hg : W.drew.grownBy W' (some b')) (hne : kb ≠ b') (ht : b' = b1 ∨ b' = b2) : StoL w W' g b1 b2 kb a b st' m' :=
  ⟨hs, at_ne hg hne h.key, h.new, h.turn.trans (F' := stoF b1 b2) (Turn.grown (w := W) ⟨hg.os, hg.tape, hg.output, hg.size, hg.block⟩ fun i hi => by injection hi with hi; subst hi; exact ht) fun i hi => .inl hi⟩
end

set_option maxHeartbeats 1000000 in
theorem allocate_new (w : World) (g b1 b2 : Nat) (st : Sto) (m : Nat) (a b v : Int) (h : StoC w g b1 b2 st m) (hk : pok (a, b)) (hs : st.said (a, b) = none) (hm : m + 2 ≤ 100000) :
    Calls Try.prog 33 #[.pointer (some ⟨g, 0, none⟩), .agg #[.int .i64 a, .int .i64 b], .int .u8 v] w fun e w' => e = .returned (.int .u8 (if v = 1 then 1 else 3)) ∧ StoC w' g b1 b2 (st.alloc (a, b) v) (m + 2) ∧ Turn (stoF b1 b2) w w' := by
  obtain ⟨c, h1⟩ := h.m1
  have hlk : ∀ (o : Obj) (n : Nat), (Instr.lookup 84 (.map (some b1)) (.agg #[.int .i64 a, .int .i64 b]) true).run Try.prog ((w.alloc o).drewN n) = .ok (.tuple #[.int .u8 0, .bool false]) ((w.alloc o).drewN n) := fun o n => by
    have := (h1.kept (w' := (w.alloc o).drewN n) (alloc_block_old (o := o) h1.lt)).look_ok course_map (zero_u8 _) (a, b) hk
    have e : st.sd (a, b) = none := by simp [Sto.sd, hs]
    rw [e] at this
    exact this
  have hg : g < w.heap.size := (Array.getElem?_eq_some_iff.1 h.blk).1
  have hb := h.blk
  have hn : (a, b) ∉ st.aside := fun hm => by rw [h.sub _ hm] at hs; cases hs
  have HL : Hid (∀ n : Nat, StoL w ((w.alloc (.cells #[.int .i64 a, .int .i64 b] 89)).drewN n) g b1 b2 w.heap.size a b st m) := fun n =>
    ⟨h.kept (alloc_block_old hg) (alloc_block_old h1.lt) (alloc_block_old h.m2.lt), alloc_block, Nat.le_refl _, Turn.of_below (Below.drewN' ((Below.refl _ _).alloc (Nat.le_refl _) _) _)⟩
  obtain ⟨w0, rfl, hg⟩ : ∃ w0, w = boxed w0 g #[.map (some b1), .map (some b2)] 87 ∧ g < w0.heap.size := ⟨w, boxed_self h.blk, hg⟩
  clear h h1 hb
  go_enter Try.func33, Try.ntmps33
  go_wp2_with (fail)
  go_quiet (fail)
  have HL2 := Lib.hid (HL.out nq)
  rw [boxed_size] at HL2
  clear HL hlk
  generalize ((boxed w0 g #[.map (some b1), .map (some b2)] 87).alloc (.cells #[.int .i64 a, .int .i64 b] 89)).drewN nq = W1 at *
  generalize w0.heap.size = kb at *
  by_cases hv : v = 1
  · subst hv
    go_wp2
    refine lane_start (ord := [0, 1, 2, 3, 4, 5]) (S := fun w' => w'.cell? ⟨g, 0, none⟩ = some (.map (some b1)) ∧ w'.cell? ⟨kb, 0, none⟩ = some (.int .i64 a) ∧ w'.cell? ⟨kb, 1, none⟩ = some (.int .i64 b)) rfl (by kernel_rfl) (HL2.out.cells0) (fun hHeld => ?_)
    repeat (refine lane_take (v := ?_) rfl (by kernel_rfl) (by kernel_rfl) (by rfl) ?_ (by assumption) ?_; rotate_left; (focus (intro w hSw; obtain ⟨hS1, hS2, hS3⟩ := hSw; go_simp; try (with_reducible rfl))); simp only [Act.put, List.setIfInBounds_toArray, List.set_cons_zero, List.set_cons_succ])
    refine lane_alone rfl (by kernel_rfl) (by rfl) (fun K hK => ?_)
    obtain ⟨W2, hrun, hst, hgr⟩ := (HL2.out.sto.drew).say hk hs (by omega) 1
    refine wp_of_skip (exec_mapUpdate rfl rfl rfl rfl hrun) ?_
    have HL3 := Lib.hid (HL2.out.next hst hgr HL2.out.ne0 (.inl rfl))
    refine hK _ _ HL3.out.cells0 (fun _ => ?_)
    clear hK K hrun hst hgr hHeld
    refine lane_end (by kernel_rfl) ?_
    go_wp2
    refine lane_start (ord := [0, 1, 2, 3, 4, 5, 6]) (S := fun w' => w'.cell? ⟨g, 1, none⟩ = some (.map (some b2)) ∧ w'.cell? ⟨kb, 0, none⟩ = some (.int .i64 a) ∧ w'.cell? ⟨kb, 1, none⟩ = some (.int .i64 b)) rfl (by kernel_rfl) (HL3.out.cells1) (fun hHeld => ?_)
    repeat (refine lane_take (v := ?_) rfl (by kernel_rfl) (by kernel_rfl) (by rfl) ?_ (by assumption) ?_; rotate_left; (focus (intro w hSw; obtain ⟨hS1, hS2, hS3⟩ := hSw; go_simp; try (with_reducible rfl))); simp only [Act.put, List.setIfInBounds_toArray, List.set_cons_zero, List.set_cons_succ])
    refine lane_alone rfl (by kernel_rfl) (by rfl) (fun K hK => ?_)
    obtain ⟨W3, hrun, hst, hgr⟩ := (HL3.out.sto.drew).lay hk (by simp) hn (by omega)
    refine wp_of_skip (exec_mapUpdate rfl rfl rfl rfl hrun) ?_
    have HL4 := Lib.hid (HL3.out.next hst hgr HL3.out.ne1 (.inr rfl))
    refine hK _ _ HL4.out.cells1 (fun _ => ?_)
    clear hK K hrun hst hgr hHeld
    refine lane_end (by kernel_rfl) ?_
    go_wp2
    go_ret
    refine ⟨rfl, ?_, HL4.out.turn⟩
    have e : st.alloc (a, b) 1 = ⟨fun j => if j = (a, b) then some 1 else st.said j, (a, b) :: st.aside⟩ := by unfold Sto.alloc; rw [hs]; rfl
    rw [e]
    exact HL4.out.sto
  · skip
    go_wp2
    refine lane_start (ord := [0, 1, 2, 3, 4, 5]) (S := fun w' => w'.cell? ⟨g, 0, none⟩ = some (.map (some b1)) ∧ w'.cell? ⟨kb, 0, none⟩ = some (.int .i64 a) ∧ w'.cell? ⟨kb, 1, none⟩ = some (.int .i64 b)) rfl (by kernel_rfl) (HL2.out.cells0) (fun hHeld => ?_)
    repeat (refine lane_take (v := ?_) rfl (by kernel_rfl) (by kernel_rfl) (by rfl) ?_ (by assumption) ?_; rotate_left; (focus (intro w hSw; obtain ⟨hS1, hS2, hS3⟩ := hSw; go_simp; try (with_reducible rfl))); simp only [Act.put, List.setIfInBounds_toArray, List.set_cons_zero, List.set_cons_succ])
    refine lane_alone rfl (by kernel_rfl) (by rfl) (fun K hK => ?_)
    obtain ⟨W2, hrun, hst, hgr⟩ := (HL2.out.sto.drew).say hk hs (by omega) 3
    refine wp_of_skip (exec_mapUpdate rfl rfl rfl rfl hrun) ?_
    have HL3 := Lib.hid (HL2.out.next hst hgr HL2.out.ne0 (.inl rfl))
    refine hK _ _ HL3.out.cells0 (fun _ => ?_)
    clear hK K hrun hst hgr hHeld
    refine lane_end (by kernel_rfl) ?_
    go_wp2
    go_ret
    refine ⟨rfl, ?_, HL3.out.turn⟩
    have e : st.alloc (a, b) v = ⟨fun j => if j = (a, b) then some 3 else st.said j, st.aside⟩ := by unfold Sto.alloc; rw [hs]; simp [hv]
    rw [e]
    exact HL3.out.sto.mono (Nat.le_succ _)
/-- allocate. -/
theorem allocate_any (w : World) (g b1 b2 : Nat) (st : Sto) (m : Nat) (a b v : Int) (h : StoC w g b1 b2 st m) (hk : pok (a, b)) (hm : m + 2 ≤ 100000) :
    Calls Try.prog 33 #[.pointer (some ⟨g, 0, none⟩), .agg #[.int .i64 a, .int .i64 b], .int .u8 v] w fun e w' => e = .returned (.int .u8 (st.ans (a, b) v)) ∧ StoC w' g b1 b2 (st.alloc (a, b) v) (m + 2) ∧ Turn (stoF b1 b2) w w' := by
  cases hs : st.said (a, b) with
  | none =>
    have e : st.ans (a, b) v = if v = 1 then 1 else 3 := by unfold Sto.ans; rw [hs]; rfl
    rw [e]
    exact allocate_new w g b1 b2 st m a b v h hk hs hm
  | some x =>
    have e : st.ans (a, b) v = x := by unfold Sto.ans; rw [hs]; rfl
    have e2 : st.alloc (a, b) v = st := by unfold Sto.alloc; rw [hs]
    rw [e, e2]
    exact (allocate_said w g b1 b2 st m a b v x h hk hs).mono fun e w' ⟨h1, h2⟩ => ⟨h1, (h.below h2).mono (by omega), Turn.of_below h2⟩

set_option maxHeartbeats 1000000 in
theorem release_any (w : World) (g b1 b2 : Nat) (st : Sto) (m : Nat) (a b : Int) (h : StoC w g b1 b2 st m) (hk : pok (a, b)) (hm : m + 2 ≤ 100000) :
    Calls Try.prog 34 #[.pointer (some ⟨g, 0, none⟩), .agg #[.int .i64 a, .int .i64 b]] w fun e w' => e = .returned (.tuple #[]) ∧ StoC w' g b1 b2 (st.drop (a, b)) (m + 2) ∧ Turn (stoF b1 b2) w w' := by
  have hg : g < w.heap.size := (Array.getElem?_eq_some_iff.1 h.blk).1
  have HL : Hid (StoL w (w.alloc (.cells #[.int .i64 a, .int .i64 b] 89)) g b1 b2 w.heap.size a b st m) := by
    obtain ⟨c, h1⟩ := h.m1
    exact ⟨h.kept (alloc_block_old hg) (alloc_block_old h1.lt) (alloc_block_old h.m2.lt), alloc_block, Nat.le_refl _, Turn.of_below ((Below.refl _ _).alloc (Nat.le_refl _) _)⟩
  go_enter Try.func34, Try.ntmps34
  go_wp2_with (fail)
  refine (allocate_any _ g b1 b2 st m a b 3 HL.out.sto hk hm).mono ?_
  rintro e W1 ⟨rfl, hst, ht⟩
  have HL2 : Hid (StoL w W1 g b1 b2 w.heap.size a b (st.alloc (a, b) 3) (m + 2)) :=
    ⟨hst, (ht.block _ (by rw [World.size_alloc]; omega) (by rintro (e | e); exact HL.out.ne0 e; exact HL.out.ne1 e)).trans HL.out.key, Nat.le_refl _, HL.out.turn.trans ht fun i hi => .inl hi⟩
  clear hst ht
  go_wp2
  refine lane_start (ord := [0, 1, 2, 3, 4, 5]) (S := fun w' => w'.cell? ⟨g, 1, none⟩ = some (.map (some b2)) ∧ w'.cell? ⟨w.heap.size, 0, none⟩ = some (.int .i64 a) ∧ w'.cell? ⟨w.heap.size, 1, none⟩ = some (.int .i64 b)) rfl (by kernel_rfl) (HL2.out.cells1) (fun hHeld => ?_)
  repeat (refine lane_take (v := ?_) rfl (by kernel_rfl) (by kernel_rfl) (by rfl) ?_ (by assumption) ?_; rotate_left; (focus (intro w hSw; obtain ⟨hS1, hS2, hS3⟩ := hSw; go_simp; try (with_reducible rfl))); simp only [Act.put, List.setIfInBounds_toArray, List.set_cons_zero, List.set_cons_succ])
  refine lane_alone rfl (by kernel_rfl) (by rfl) (fun K hK => ?_)
  obtain ⟨W3, hrun, hst, hgr⟩ := (HL2.out.sto.drew).strike hk _
  refine wp_of_value (exec_delete rfl rfl rfl hrun) ?_
  have HL3 := Lib.hid (HL2.out.next hst hgr HL2.out.ne1 (.inr rfl))
  refine hK _ _ HL3.out.cells1 (fun _ => ?_)
  clear hK K hrun hst hgr hHeld
  refine lane_end (by kernel_rfl) ?_
  go_wp2
  refine bodyPost_end (v := .tuple #[]) (by simp [results, Try.results34, go_sem]) rfl ?_
  exact ⟨rfl, HL3.out.sto, HL3.out.turn⟩
end Go.Proofs.Ytcjhgckkbekhoaa
