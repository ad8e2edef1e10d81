/-
  A cart, by what was said and its trips: its words, and the contract of ship. No conditions but the sizes.
-/
import Derived.Test.YtcjhgckkbekhoaaMapE
import Derived.Test.YtcjhgckkbekhoaaLaneT
import Derived.Test.YtcjhgckkbekhoaaExec
import Derived.Test.YtcjhgckkbekhoaaLiveO
namespace Go.Proofs.Ytcjhgckkbekhoaa
set_option maxRecDepth 20000
open Go.ChangeShapes Go.WideShapes Go.ChangeAt Go.RowKit

theorem crt_laid : laidOutB Try.prog = true := by kernel_rfl
theorem trip_keyed : Maps.Keyed Try.prog 68 := Maps.Keyed.of_law (deep_law_gate crt_laid (of_decide_eq_true (by kernel_rfl)) (of_decide_eq_true (by kernel_rfl)) (by kernel_rfl) (by kernel_rfl))
def tpv (p : Int × Int) : Value := .agg #[.int .i64 p.1, .int .i64 p.2]
def tpok (p : Int × Int) : Prop := (Lit.int .i64 p.1).wf = true ∧ (Lit.int .i64 p.2).wf = true
theorem tpv_inj (x y : Int × Int) (h : tpv x = tpv y) : x = y := by
  obtain ⟨a, b⟩ := x
  obtain ⟨c, d⟩ := y
  unfold tpv at h
  simp at h
  simp [h]
theorem trip_lit (p : Int × Int) (h : tpok p) : ∃ l, keyOf Try.prog 68 (tpv p) = some l :=
  lits_two Try.underlying68 Try.underlying3 (by kernel_rfl) (by kernel_rfl) (by kernel_rfl) (by decide) (by decide) rfl rfl rfl rfl ⟨Try.prog.types.size - 1, (by kernel_rfl)⟩ h.1 h.2
def tripE : Enc Try.prog 68 (Int × Int) := ⟨tpv, tpok, trip_keyed, trip_lit, tpv_inj⟩

/-! What becomes of it. -/
structure Crt where
  said : Int × Int → Option Int
  trips : List (Int × Int)
def Crt.sd (st : Crt) : Int × Int → Option Value := fun k => (st.said k).map (Value.int .u8)
def Crt.new : Crt := ⟨fun _ => none, []⟩
/-- What is said to a Ship. -/
def Crt.ans (st : Crt) (k : Int × Int) (v : Int) : Int := (st.said k).getD (if v = 1 then 1 else 3)
def Crt.ship (st : Crt) (k : Int × Int) (v : Int) : Crt := match st.said k with
  | some _ => st
  | none => ⟨fun j => if j = k then some (if v = 1 then 1 else 3) else st.said j, if v = 1 then st.trips ++ [k] else st.trips⟩
/-- Trips as cells. -/
def tcl (l : List (Int × Int)) : List Value := l.flatMap fun p => [.int .i64 p.1, .int .i64 p.2]
theorem tcl_append (a b : List (Int × Int)) : tcl (a ++ b) = tcl a ++ tcl b := by simp [tcl]
theorem tcl_len (l : List (Int × Int)) : (tcl l).length = 2 * l.length := by
  induction l with
  | nil => rfl
  | cons p r ih => simp only [tcl, List.flatMap_cons, List.length_append, List.length_cons, List.length_nil] at ih ⊢; omega
theorem tcl_one (l : List (Int × Int)) : ∀ u ∈ tcl l, u.oneCell' = true := by
  intro u hu
  obtain ⟨p, _, hp⟩ := List.mem_flatMap.1 hu
  simp only [List.mem_cons, List.not_mem_nil, or_false] at hp
  rcases hp with rfl | rfl <;> rfl
theorem tcl_at {l : List (Int × Int)} {i : Nat} {p : Int × Int} (h : l[i]? = some p) : (tcl l)[i * 2]? = some (.int .i64 p.1) ∧ (tcl l)[i * 2 + 1]? = some (.int .i64 p.2) := by
  induction l generalizing i with
  | nil => simp at h
  | cons q r ih =>
    cases i with
    | zero => simp at h; subst h; exact ⟨rfl, rfl⟩
    | succ i =>
      simp at h
      have := ih h
      have e : tcl (q :: r) = .int .i64 q.1 :: .int .i64 q.2 :: tcl r := rfl
      rw [e]
      refine ⟨?_, ?_⟩
      · rw [show (i + 1) * 2 = i * 2 + 2 by omega]; exact this.1
      · rw [show (i + 1) * 2 + 1 = (i * 2 + 1) + 2 by omega]; exact this.2

/-- A cart in memory: its struct at g, its map at b1, its slice v; F: its blocks. -/
structure CrtC (w : World) (F : Nat → Prop) (g b1 : Nat) (v : Value) (st : Crt) (m : Nat) : Prop where
  blk : w.heap[g]? = some (.cells #[.map (some b1), v] 96 (0, 0))
  map : ∃ c, MapE tripE w b1 m st.sd c
  own : w.ownsRow 0 68 2 v st.trips.length (tcl st.trips)
  foot : F g ∧ F b1 ∧ ∀ i, v.ownBlock = some i → F i
  lt : ∀ i, F i → i < w.heap.size
  len : st.trips.length ≤ m
def CrtB (g : Nat) (st : Crt) (m : Nat) (w : World) (F : Nat → Prop) : Prop := ∃ b1 v, CrtC w F g b1 v st m

theorem tmap_ne {w : World} {b g : Nat} {n c : Nat} {f : Int × Int → Option Value} {cs : Array Value} {t : TypeId} (h : MapE tripE w b n f c) (hg : w.heap[g]? = some (.cells cs t (0, 0))) : g ≠ b := by
  rintro rfl
  obtain ⟨es, c, h⟩ := h.isMap
  rw [hg] at h; cases h
theorem own_map_ne {w : World} {base size n : Nat} {e : TypeId} {v : Value} {xs : List Value} {b : Nat} {es : Array MapEntry} {c : Nat} (h : w.ownsRow base e size v n xs) (hb : w.heap[b]? = some (.map es c)) : v.ownBlock ≠ some b := by
  rcases h.2 with ⟨rfl, _⟩ | ⟨g', cap, cur, rfl, _, hh, _⟩
  · simp [Value.ownBlock]
  · intro he
    have : g' = b := by simpa [Value.ownBlock] using he
    subst this
    rw [hh] at hb
    cases hb
theorem CrtC.kept {w w' : World} {F : Nat → Prop} {g b1 : Nat} {v : Value} {st : Crt} {m : Nat} (h : CrtC w F g b1 v st m) (hk : ∀ i, F i → w'.heap[i]? = w.heap[i]?) (hs : w.heap.size ≤ w'.heap.size) : CrtC w' F g b1 v st m :=
  ⟨(hk g h.foot.1).trans h.blk, h.map.imp fun _ k => k.kept (hk b1 h.foot.2.1), own_kept h.own fun i hi => hk i (h.foot.2.2 i hi), h.foot, fun i hi => Nat.lt_of_lt_of_le (h.lt i hi) hs, h.len⟩
theorem CrtC.mono {w : World} {F : Nat → Prop} {g b1 : Nat} {v : Value} {st : Crt} {m m' : Nat} (h : CrtC w F g b1 v st m) (hm : m ≤ m') : CrtC w F g b1 v st m' := ⟨h.blk, h.map.imp fun _ k => k.mono hm, h.own, h.foot, h.lt, Nat.le_trans h.len hm⟩
theorem CrtB.mono {w : World} {F : Nat → Prop} {g : Nat} {st : Crt} {m m' : Nat} (h : CrtB g st m w F) (hm : m ≤ m') : CrtB g st m' w F := by obtain ⟨b1, v, h⟩ := h; exact ⟨b1, v, h.mono hm⟩
theorem crt_thing (g : Nat) (st : Crt) (m : Nat) : Thing (CrtB g st m) :=
  ⟨fun h hk hs => by obtain ⟨b1, v, h⟩ := h; exact ⟨b1, v, h.kept hk hs⟩, fun h hi => by obtain ⟨b1, v, h⟩ := h; exact h.lt _ hi⟩
theorem CrtC.wide {w : World} {F F' : Nat → Prop} {g b1 : Nat} {v : Value} {st : Crt} {m : Nat} (h : CrtC w F g b1 v st m) (hF : ∀ i, F i → F' i) (hl : ∀ i, F' i → i < w.heap.size) : CrtC w F' g b1 v st m :=
  ⟨h.blk, h.map, h.own, ⟨hF _ h.foot.1, hF _ h.foot.2.1, fun i hi => hF _ (h.foot.2.2 i hi)⟩, hl, h.len⟩
theorem trip_map : Try.prog.underlying 94 = some (.map 68 5) := Try.underlying94
theorem zero_u8t (w : World) : (zeroValue 5).run Try.prog w = .ok (.int .u8 0) w := by kernel_rfl
theorem tat_ne {w w' : World} {b : Nat} (h : w.grownBy w' (some b)) {j : Nat} {o : Obj} (hj : j ≠ b) (hl : w.heap[j]? = some o) : w'.heap[j]? = some o :=
  (h.block j (Array.getElem?_eq_some_iff.1 hl).1 fun e => hj (by injection e)).trans hl
theorem CrtC.say {w : World} {F : Nat → Prop} {g b1 : Nat} {v : Value} {st : Crt} {m : Nat} (h : CrtC w F g b1 v st m) {k : Int × Int} (hk : tpok k) (hm : m ≤ 100000) (x : Int) :
    ∃ w', (Instr.mapUpdate 94 (.map (some b1)) (tpv k) (.int .u8 x)).run Try.prog w = .ok () w' ∧ CrtC w' F g b1 v ⟨fun j => if j = k then some x else st.said j, st.trips⟩ (m + 1) ∧ w.grownBy w' (some b1) := by
  obtain ⟨c, h1⟩ := h.map
  obtain ⟨w', hrun, hp, hg, hz⟩ := h1.put trip_map (by omega) k hk (.int .u8 x)
  refine ⟨w', hrun, ⟨tat_ne hg (tmap_ne h1 h.blk) h.blk, ⟨if (st.sd k).isSome then c else c + 1, ?_⟩, own_kept h.own fun i hi => ?_, h.foot, fun i hi => by rw [hz]; exact h.lt i hi, Nat.le_succ_of_le h.len⟩, hg⟩
  · have e : (⟨fun j => if j = k then some x else st.said j, st.trips⟩ : Crt).sd = fun j => if j = k then some (.int .u8 x) else st.sd j := by
      funext j
      unfold Crt.sd
      by_cases hj : j = k <;> simp [hj]
    rw [e]
    exact hp
  · obtain ⟨es, cc, hh⟩ := h1.isMap
    have hl := h.lt i (h.foot.2.2 i hi)
    exact hg.block i hl fun e => own_map_ne h.own hh (by rw [hi]; exact e)

set_option maxHeartbeats 1000000 in
theorem ship_said (w : World) (F : Nat → Prop) (g b1 : Nat) (vs : Value) (st : Crt) (m : Nat) (a b v x : Int) (h : CrtC w F g b1 vs st m) (hk : tpok (a, b)) (hs : st.said (a, b) = some x) :
    Calls Try.prog 35 #[.pointer (some ⟨g, 0, none⟩), .agg #[.int .i64 a, .int .i64 b], .int .u8 v] w fun e w' => e = .returned (.int .u8 x) ∧ Below w.heap.size w w' := by
  obtain ⟨c, h1⟩ := h.map
  have hlk : ∀ (o : Obj) (n : Nat), (Instr.lookup 94 (.map (some b1)) (.agg #[.int .i64 a, .int .i64 b]) true).run Try.prog ((w.alloc o).drewN n) = .ok (.tuple #[.int .u8 x, .bool true]) ((w.alloc o).drewN n) := fun o n => by
    have := (h1.kept (w' := (w.alloc o).drewN n) (alloc_block_old (o := o) h1.lt)).look_ok trip_map (zero_u8t _) (a, b) hk
    have e : st.sd (a, b) = some (.int .u8 x) := by simp [Crt.sd, hs]
    rw [e] at this
    exact this
  have hg : g < w.heap.size := (Array.getElem?_eq_some_iff.1 h.blk).1
  obtain ⟨w0, rfl, hg⟩ : ∃ w0, w = boxed w0 g #[.map (some b1), vs] 96 ∧ g < w0.heap.size := ⟨w, boxed_self h.blk, hg⟩
  clear h h1
  go_enter Try.func35, Try.ntmps35
  go_wp2_with (fail)
  go_quiet (fail)
  go_wp2
  go_ret
  exact ⟨rfl, Below.drewN' ((Below.refl _ _).alloc (Nat.le_refl _) _) _⟩

/-- The world behind the look. -/
structure CrtL (w W : World) (F : Nat → Prop) (g b1 kb : Nat) (vs : Value) (a b : Int) (st : Crt) (m : Nat) : Prop where
  crt : CrtC W F g b1 vs st m
  key : W.heap[kb]? = some (.cells #[.int .i64 a, .int .i64 b] 68 (0, 0))
  new : w.heap.size ≤ kb
  turn : Turn F w W
  flt : ∀ i, F i → i < w.heap.size
theorem CrtC.drew {w : World} {F : Nat → Prop} {g b1 : Nat} {v : Value} {st : Crt} {m : Nat} (h : CrtC w F g b1 v st m) : CrtC w.drew F g b1 v st m := h.kept (fun _ _ => rfl) (Nat.le_refl _)
section
variable {w W W' : World} {F : Nat → Prop} {g b1 kb : Nat} {vs : Value} {a b : Int} {st st' : Crt} {m m' : Nat}
theorem CrtL.cells0 (h : CrtL w W F g b1 kb vs a b st m) : W.cell? ⟨g, 0, none⟩ = some (.map (some b1)) ∧ W.cell? ⟨kb, 0, none⟩ = some (.int .i64 a) ∧ W.cell? ⟨kb, 1, none⟩ = some (.int .i64 b) :=
  ⟨by rw [cell_of_row _ _ _ _ _ _ h.crt.blk]; rfl, by rw [cell_of_row _ _ _ _ _ _ h.key]; rfl, by rw [cell_of_row _ _ _ _ _ _ h.key]; rfl⟩
theorem CrtL.cells1 (h : CrtL w W F g b1 kb vs a b st m) : W.cell? ⟨g, 1, none⟩ = some vs ∧ W.cell? ⟨kb, 0, none⟩ = some (.int .i64 a) ∧ W.cell? ⟨kb, 1, none⟩ = some (.int .i64 b) :=
  ⟨by rw [cell_of_row _ _ _ _ _ _ h.crt.blk]; rfl, by rw [cell_of_row _ _ _ _ _ _ h.key]; rfl, by rw [cell_of_row _ _ _ _ _ _ h.key]; rfl⟩
theorem CrtL.ne0 (h : CrtL w W F g b1 kb vs a b st m) : kb ≠ b1 := by obtain ⟨c, h1⟩ := h.crt.map; exact tmap_ne h1 h.key
theorem CrtL.next (h : CrtL w W F g b1 kb vs a b st m) (hs : CrtC W' F g b1 vs st' m') (hg : W.drew.grownBy W' (some b1)) (hne : kb ≠ b1) (_ : True) : CrtL w W' F g b1 kb vs a b st' m' :=
  ⟨hs, tat_ne hg hne h.key, h.new, h.turn.trans (F' := F) (Turn.grown (w := W) ⟨hg.os, hg.tape, hg.output, hg.size, hg.block⟩ fun i hi => by injection hi with hi; subst hi; exact h.crt.foot.2.1) fun i hi => .inl hi, h.flt⟩
end
theorem trip_info : (Try.prog.info? 68).map (fun i => (i.zero, i.size, i.bytes)) = some (some (.agg #[.int .i64 0, .int .i64 0]), 2, 16) := by kernel_rfl
theorem tslice_info : (Try.prog.info? 66).map (·.size) = some 1 := by kernel_rfl

set_option maxHeartbeats 1000000 in
theorem ship_new (w : World) (F : Nat → Prop) (g b1 : Nat) (vs : Value) (st : Crt) (m : Nat) (a b v : Int) (h : CrtC w F g b1 vs st m) (hk : tpok (a, b)) (hs : st.said (a, b) = none) (hm : m + 2 ≤ 100000) :
    Calls Try.prog 35 #[.pointer (some ⟨g, 0, none⟩), .agg #[.int .i64 a, .int .i64 b], .int .u8 v] w fun e w' => e = .returned (.int .u8 (if v = 1 then 1 else 3)) ∧ PostO w F (CrtB g (st.ship (a, b) v) (m + 1)) w' := by
  obtain ⟨c, h1⟩ := h.map
  have hlk : ∀ (o : Obj) (n : Nat), (Instr.lookup 94 (.map (some b1)) (.agg #[.int .i64 a, .int .i64 b]) true).run Try.prog ((w.alloc o).drewN n) = .ok (.tuple #[.int .u8 0, .bool false]) ((w.alloc o).drewN n) := fun o n => by
    have := (h1.kept (w' := (w.alloc o).drewN n) (alloc_block_old (o := o) h1.lt)).look_ok trip_map (zero_u8t _) (a, b) hk
    have e : st.sd (a, b) = none := by simp [Crt.sd, hs]
    rw [e] at this
    exact this
  have hg : g < w.heap.size := (Array.getElem?_eq_some_iff.1 h.blk).1
  have HL : Hid (∀ n : Nat, CrtL w ((w.alloc (.cells #[.int .i64 a, .int .i64 b] 68)).drewN n) F g b1 w.heap.size vs a b st m) := fun n =>
    ⟨h.kept (fun i hi => alloc_block_old (h.lt i hi)) (by show w.heap.size ≤ (w.alloc _).heap.size; rw [World.size_alloc]; omega), alloc_block, Nat.le_refl _, Turn.of_below (Below.drewN' ((Below.refl _ _).alloc (Nat.le_refl _) _) _), h.lt⟩
  have hc0 : w.cell? ⟨g, 0, none⟩ = some (.map (some b1)) := by rw [cell_of_row _ _ _ _ _ _ h.blk]; rfl
  clear h h1
  go_enter Try.func35, Try.ntmps35
  go_wp2_with (fail)
  go_quiet (fail)
  have HL2 := Lib.hid (HL.out nq)
  clear HL hlk
  generalize (w.alloc (.cells #[.int .i64 a, .int .i64 b] 68)).drewN nq = W1 at *
  obtain ⟨kb, hkb⟩ : ∃ kb, kb = w.heap.size := ⟨_, rfl⟩
  rw [← hkb] at HL2
  simp only [← hkb]
  clear hkb hc0
  by_cases hv : v = 1
  · subst hv
    go_wp2
    refine lane_start (ord := [0, 1, 2, 3, 4, 5]) (S := fun w' => w'.cell? ⟨g, 0, none⟩ = some (.map (some b1)) ∧ w'.cell? ⟨kb, 0, none⟩ = some (.int .i64 a) ∧ w'.cell? ⟨kb, 1, none⟩ = some (.int .i64 b)) rfl (by kernel_rfl) (HL2.out.cells0) (fun hHeld => ?_)
    repeat (refine lane_take (v := ?_) rfl (by kernel_rfl) (by kernel_rfl) (by rfl) ?_ (by assumption) ?_; rotate_left; (focus (intro w hSw; obtain ⟨hS1, hS2, hS3⟩ := hSw; go_simp; try (with_reducible rfl))); simp only [Act.put, List.setIfInBounds_toArray, List.set_cons_zero, List.set_cons_succ])
    refine lane_alone rfl (by kernel_rfl) (by rfl) (fun K hK => ?_)
    obtain ⟨W2, hrun, hst, hgr⟩ := (HL2.out.crt.drew).say hk (by omega) 1
    refine wp_of_skip (exec_mapUpdate rfl rfl rfl rfl hrun) ?_
    have HL3 := Lib.hid (HL2.out.next hst hgr HL2.out.ne0 (trivial))
    refine hK _ _ HL3.out.cells0 (fun _ => ?_)
    clear hK K hrun hst hgr hHeld
    refine lane_end (by kernel_rfl) ?_
    go_wp2
    obtain ⟨A, n', c', rfl⟩ : ∃ A n' c', vs = .slice A n' c' := by obtain ⟨A, c', e, _⟩ := own_form HL3.out.crt.own; exact ⟨A, _, c', e⟩
    refine laneT_start [0, 1, 2, 3, 4, 5, 6, 7, 8, 9, 10] 10 rfl (by kernel_rfl) (S := fun w' => w'.cell? ⟨g, 1, none⟩ = some (.slice A n' c') ∧ w'.cell? ⟨kb, 0, none⟩ = some (.int .i64 a) ∧ w'.cell? ⟨kb, 1, none⟩ = some (.int .i64 b)) ?_
    have hHeld : W2.drew.cell? ⟨g, 1, none⟩ = some (.slice A n' c') ∧ W2.drew.cell? ⟨kb, 0, none⟩ = some (.int .i64 a) ∧ W2.drew.cell? ⟨kb, 1, none⟩ = some (.int .i64 b) := HL3.out.cells1
    iterate 6 (refine laneT_take1 (v := ?_) rfl (by kernel_rfl) (by kernel_rfl) (by rfl) ?_ (by exact hHeld) ?_; rotate_left; (focus (intro w hSw; obtain ⟨hS1, hS2, hS3⟩ := hSw; go_simp; try (with_reducible rfl))); simp only [Act.put, List.setIfInBounds_toArray, List.set_cons_zero, List.set_cons_succ])
    refine laneT_alone rfl (by kernel_rfl) (by rfl) (fun K hK => ?_)
    go_simp
    refine hK _ _ (fun _ => ?_) ?_
    · exact ⟨(World.cell?_of_block (alloc_block_old (Array.getElem?_eq_some_iff.1 HL3.out.crt.blk).1)).trans hHeld.1, (World.cell?_of_block (alloc_block_old (Array.getElem?_eq_some_iff.1 HL3.out.key).1)).trans hHeld.2.1, (World.cell?_of_block (alloc_block_old (Array.getElem?_eq_some_iff.1 HL3.out.key).1)).trans hHeld.2.2⟩
    clear hK K
    refine laneT_alone rfl (by kernel_rfl) (by rfl) (fun K hK => ?_)
    obtain ⟨it, hit, hz0, hz1, hz2⟩ := info_parts trip_info
    have hn : n' = st.trips.length := by obtain ⟨A', c', e, _⟩ := own_form HL3.out.crt.own; injection e
    have hm3 := HL3.out.crt.len
    have hL3 : st.trips.length ≤ m + 1 := hm3
    have hO3 : (W2.alloc (.cells #[.int .i64 a, .int .i64 b] 68)).drew.ownsRow 0 68 2 (.slice A n' c') st.trips.length (tcl st.trips) := own_kept HL3.out.crt.own fun j hj => alloc_block_old (HL3.out.crt.own.lt j hj).2
    obtain ⟨v', W4, hrun4, hown4, hgr4, _, hat4⟩ := run_append_own_at (P := Try.prog) (w := (W2.alloc (.cells #[.int .i64 a, .int .i64 b] 68)).drew) 0 66 66 68 it _ 2 16 Try.underlying66 hit hz0 hz1 hz2 rfl (by decide)
      (.slice A n' c') st.trips.length (tcl st.trips) hO3 ⟨W2.heap.size, 0, none⟩ 1 1 (tcl [(a, b)]) rfl (fun j u hu => by rw [ad_head, cell_of_row (w := (W2.alloc (.cells #[.int .i64 a, .int .i64 b] 68)).drew) _ _ _ _ (0, 0) alloc_block]; simpa [tcl] using hu) (tcl_one _) (by unfold maxLen; omega) (by omega) (Nat.zero_le _)
    refine wp_of_value (exec_append rfl rfl rfl hrun4) ?_
    have hkeep : ∀ j o, W2.heap[j]? = some o → (Value.slice A n' c').ownBlock ≠ some j → W4.heap[j]? = some o := fun j o hj hne => by
      have hlt : j < W2.heap.size := (Array.getElem?_eq_some_iff.1 hj).1
      exact (hgr4.block j (by show j < (W2.alloc _).heap.size; rw [World.size_alloc]; exact Nat.lt_succ_of_lt hlt) fun e => hne e.symm).trans ((alloc_block_old hlt).trans hj)
    have hg4 := hkeep g _ HL3.out.crt.blk (own_ne HL3.out.crt.own HL3.out.crt.blk (by decide))
    have hk4 := hkeep kb _ HL3.out.key (fun e => by have := HL3.out.flt _ (HL3.out.crt.foot.2.2 _ e); have := HL3.out.new; omega)
    have HG4 := Lib.hid hg4
    have HM4 : Hid (∃ c, MapE tripE W4 b1 (m + 1) (⟨fun j => if j = (a, b) then some 1 else st.said j, st.trips⟩ : Crt).sd c) := by
      obtain ⟨cc, h1⟩ := HL3.out.crt.map
      obtain ⟨es, ck, hh⟩ := h1.isMap
      exact ⟨cc, h1.kept ((hkeep b1 _ hh (own_map_ne HL3.out.crt.own hh)).trans hh.symm)⟩
    have HT4 : Hid (Turn F w W4) := (HL3.out.turn.trans (F' := F) (Turn.of_below (Below.drew ((Below.refl _ _).alloc (Nat.le_refl _) _))) (fun _ h => .inl h)).trans (F' := F) (Turn.grown hgr4 fun j hj => HL3.out.crt.foot.2.2 j hj) (fun _ h => .inl h)
    have HO4 := Lib.hid hown4
    have HAT : Hid (∀ j, v'.ownBlock = some j → F j ∨ (w.heap.size ≤ j ∧ j < W4.heap.size)) := fun j hj => by
      have hl := (hown4.lt j hj).2
      rcases hat4 with e | e
      · exact .inl (HL3.out.crt.foot.2.2 j (e ▸ hj))
      · rw [e] at hj; injection hj with hj
        have h2s : w.heap.size ≤ (W2.alloc (.cells #[.int .i64 a, .int .i64 b] 68)).heap.size := by rw [World.size_alloc]; have := HL3.out.turn.size; omega
        exact .inr ⟨by subst hj; exact h2s, hl⟩
    obtain ⟨A', c'', rfl, _, _⟩ := own_form hown4
    have c0 : W4.cell? ⟨g, 1, none⟩ = some (.slice A n' c') := by rw [cell_of_row _ _ _ _ _ _ hg4]; rfl
    have c1 : W4.cell? ⟨kb, 0, none⟩ = some (.int .i64 a) := by rw [cell_of_row _ _ _ _ _ _ hk4]; rfl
    have c2 : W4.cell? ⟨kb, 1, none⟩ = some (.int .i64 b) := by rw [cell_of_row _ _ _ _ _ _ hk4]; rfl
    refine hK _ _ (fun _ => ⟨c0, c1, c2⟩) ?_
    clear hK K hown4 hgr4 hat4 hrun4 hkeep hO3 hk4
    simp only [Act.put, List.setIfInBounds_toArray, List.set_cons_zero, List.set_cons_succ]
    refine laneT_alone rfl (by kernel_rfl) (by rfl) (fun K hK => ?_)
    go_simp
    refine hK _ _ (fun _ => ⟨c0, c1, c2⟩) ?_
    clear hK K
    refine laneT_alone rfl (by kernel_rfl) (by rfl) (fun K hK => ?_)
    go_simp
    refine hK _ _ (fun _ => ⟨c0, c1, c2⟩) ?_
    clear hK K
    refine laneT_alone rfl (by kernel_rfl) (by rfl) (fun K hK => ?_)
    refine wp_of_skip (exec_store_one rfl rfl rfl tslice_info rfl c0 (by rw [World.frozen?, hg4]; rfl)) ?_
    refine hK _ _ (fun hne => absurd rfl hne) ?_
    clear hK K
    refine laneT_end (by kernel_rfl) ?_
    have hset : W4.setCell ⟨g, 1, none⟩ (.slice A' (st.trips.length + 1) c'') = boxed W4 g #[.map (some b1), .slice A' (st.trips.length + 1) c''] 96 := by
      conv => lhs; rw [boxed_self hg4]
      rw [boxed_set]; rfl
    change Exit.then _ _ Exit.normal _ (W4.setCell ⟨g, 1, none⟩ (.slice A' (st.trips.length + 1) c''))
    rw [hset]
    clear hset c0 c1 c2
    go_wp2
    go_ret
    have hg4l : g < W4.heap.size := (Array.getElem?_eq_some_iff.1 HG4.out).1
    have e : st.ship (a, b) 1 = ⟨fun j => if j = (a, b) then some 1 else st.said j, st.trips ++ [(a, b)]⟩ := by unfold Crt.ship; rw [hs]; rfl
    have hne := own_ne HO4.out HG4.out (by decide)
    have ht : Turn F w (boxed W4 g #[.map (some b1), .slice A' (st.trips.length + 1) c''] 96) := HT4.out.trans (F' := F) (⟨rfl, rfl, rfl, by rw [boxed_size]; exact Nat.le_refl _, fun i _ hn => boxed_block_other fun e => hn (by rw [e]; exact HL3.out.crt.foot.1)⟩) fun _ h => .inl h
    rw [e]
    refine ⟨rfl, ⟨b1, _, boxed_at hg4l, ?_, ?_, ⟨.inl HL3.out.crt.foot.1, .inl HL3.out.crt.foot.2.1, fun i hi => ?_⟩, fun i hi => ?_, by have := HL2.out.crt.len; simp; omega⟩, ht⟩
    · obtain ⟨cc, h1⟩ := HM4.out
      exact ⟨cc, h1.kept (boxed_block_other (Ne.symm (tmap_ne h1 HG4.out)))⟩
    · have := own_kept (w' := boxed W4 g #[.map (some b1), .slice A' (st.trips.length + 1) c''] 96) HO4.out fun i hi => boxed_block_other fun e => hne (by rw [hi, e])
      rw [← tcl_append] at this
      simpa using this
    · rcases HAT.out i hi with h' | h'
      · exact .inl h'
      · exact .inr (by rw [boxed_size]; exact h')
    · rw [boxed_size]
      rcases hi with h' | h'
      · have := HL3.out.flt i h'; have := HT4.out.size; omega
      · have := h'.2; rwa [boxed_size] at this
  · skip
    go_wp2
    refine lane_start (ord := [0, 1, 2, 3, 4, 5]) (S := fun w' => w'.cell? ⟨g, 0, none⟩ = some (.map (some b1)) ∧ w'.cell? ⟨kb, 0, none⟩ = some (.int .i64 a) ∧ w'.cell? ⟨kb, 1, none⟩ = some (.int .i64 b)) rfl (by kernel_rfl) (HL2.out.cells0) (fun hHeld => ?_)
    repeat (refine lane_take (v := ?_) rfl (by kernel_rfl) (by kernel_rfl) (by rfl) ?_ (by assumption) ?_; rotate_left; (focus (intro w hSw; obtain ⟨hS1, hS2, hS3⟩ := hSw; go_simp; try (with_reducible rfl))); simp only [Act.put, List.setIfInBounds_toArray, List.set_cons_zero, List.set_cons_succ])
    refine lane_alone rfl (by kernel_rfl) (by rfl) (fun K hK => ?_)
    obtain ⟨W2, hrun, hst, hgr⟩ := (HL2.out.crt.drew).say hk (by omega) 3
    refine wp_of_skip (exec_mapUpdate rfl rfl rfl rfl hrun) ?_
    have HL3 := Lib.hid (HL2.out.next hst hgr HL2.out.ne0 (trivial))
    refine hK _ _ HL3.out.cells0 (fun _ => ?_)
    clear hK K hrun hst hgr hHeld
    refine lane_end (by kernel_rfl) ?_
    go_wp2
    go_ret
    have e : st.ship (a, b) v = ⟨fun j => if j = (a, b) then some 3 else st.said j, st.trips⟩ := by unfold Crt.ship; rw [hs]; simp [hv]
    rw [e]
    exact ⟨rfl, ⟨b1, vs, HL3.out.crt.wide (fun i hi => .inl hi) fun i hi => hi.elim (HL3.out.crt.lt i) (·.2)⟩, HL3.out.turn⟩
/-- ship. -/
theorem ship_any (w : World) (F : Nat → Prop) (g : Nat) (st : Crt) (m : Nat) (a b v : Int) (h : CrtB g st m w F) (hk : tpok (a, b)) (hm : m + 2 ≤ 100000) :
    Calls Try.prog 35 #[.pointer (some ⟨g, 0, none⟩), .agg #[.int .i64 a, .int .i64 b], .int .u8 v] w fun e w' => e = .returned (.int .u8 (st.ans (a, b) v)) ∧ PostO w F (CrtB g (st.ship (a, b) v) (m + 1)) w' := by
  obtain ⟨b1, vs, h⟩ := h
  cases hs : st.said (a, b) with
  | none =>
    have e : st.ans (a, b) v = if v = 1 then 1 else 3 := by unfold Crt.ans; rw [hs]; rfl
    rw [e]
    exact ship_new w F g b1 vs st m a b v h hk hs hm
  | some x =>
    have e : st.ans (a, b) v = x := by unfold Crt.ans; rw [hs]; rfl
    have e2 : st.ship (a, b) v = st := by unfold Crt.ship; rw [hs]
    rw [e, e2]
    exact (ship_said w F g b1 vs st m a b v x h hk hs).mono fun e w' ⟨h1, h2⟩ => ⟨h1, ⟨b1, vs, ((h.kept (fun i hi => h2.block i (h.lt i hi)) h2.size).wide (fun i hi => .inl hi) fun i hi => hi.elim (fun k => Nat.lt_of_lt_of_le (h.lt i k) h2.size) (·.2)).mono (Nat.le_succ _)⟩, Turn.of_below h2⟩
end Go.Proofs.Ytcjhgckkbekhoaa
