/-
  A till's refund. No conditions but the sizes.
-/
import Derived.Test.YtcjhgckkbekhoaaTilA
namespace Go.Proofs.Ytcjhgckkbekhoaa
set_option maxRecDepth 20000
open Go.ChangeShapes Go.WideShapes Go.ChangeAt Go.RowKit


/-- The world behind the look: the till, the cycle at kb. -/
structure TilR (w W : World) (F : Nat → Prop) (g kb : Nat) (b : Tbs) (vs : Value) (S C : Int) (st : Til) (m : Nat) : Prop where
  til : TilC W F g b vs st m
  key : W.heap[kb]? = some (.cells #[.int .i64 S, .int .i64 C] 82 (0, 0))
  new : w.heap.size ≤ kb
  turn : Turn F w W
  flt : ∀ i, F i → i < w.heap.size
theorem TilR.next {w W W' : World} {F : Nat → Prop} {g kb B : Nat} {b : Tbs} {vs : Value} {S C : Int} {st st' : Til} {m m' : Nat} (h : TilR w W F g kb b vs S C st m) (hs : TilC W' F g b vs st' m') (hg : W.grownBy W' (some B)) (hB : F B) : TilR w W' F g kb b vs S C st' m' :=
  ⟨hs, grown_at hg (fun e => by have := h.flt _ hB; have := h.new; omega) h.key, h.new, h.turn.trans (F' := F) (Turn.grown hg fun i hi => by injection hi with hi; subst hi; exact hB) fun i hi => .inl hi, h.flt⟩
theorem TilR.drewN {w W : World} {F : Nat → Prop} {g kb : Nat} {b : Tbs} {vs : Value} {S C : Int} {st : Til} {m : Nat} (h : TilR w W F g kb b vs S C st m) (n : Nat) : TilR w (W.drewN n) F g kb b vs S C st m :=
  ⟨h.til.kept (fun _ _ => rfl) (Nat.le_refl _), h.key, h.new, h.turn.drewN n, h.flt⟩

set_option maxHeartbeats 1000000 in
theorem refund_said (w : World) (F : Nat → Prop) (g : Nat) (b : Tbs) (vs : Value) (st : Til) (m : Nat) (S C x : Int) (h : TilC w F g b vs st m) (hk : cpok (S, C)) (hs : st.rf (S, C) = some x) :
    Calls Try.prog 31 #[.pointer (some ⟨g, 0, none⟩), .agg #[.int .i64 S, .int .i64 C]] w fun e w' => e = .returned (.int .u8 x) ∧ Below w.heap.size w w' := by
  obtain ⟨c, h1⟩ := h.mr
  have hlk : ∀ (o : Obj) (n : Nat), (Instr.lookup 74 (.map (some b.r)) (.agg #[.int .i64 S, .int .i64 C]) true).run Try.prog ((w.alloc o).drewN n) = .ok (.tuple #[.int .u8 x, .bool true]) ((w.alloc o).drewN n) := fun o n => by
    have := (h1.kept (w' := (w.alloc o).drewN n) (alloc_block_old (o := o) h1.lt)).look_ok mr_map (tz_u8 _) (S, C) hk
    have e : st.fr (S, C) = some (.int .u8 x) := by simp [Til.fr, hs]
    rw [e] at this
    exact this
  have hg : g < w.heap.size := (Array.getElem?_eq_some_iff.1 h.blk).1
  have hc0 : w.cell? ⟨g, 1, none⟩ = some (.map (some b.r)) := by rw [cell_of_row _ _ _ _ _ _ h.blk]; rfl
  clear h h1
  go_enter Try.func31, Try.ntmps31
  go_wp2_with (fail)
  go_quiet (fail)
  go_wp2
  go_ret
  exact ⟨rfl, Below.drewN' ((Below.refl _ _).alloc (Nat.le_refl _) _) _⟩
set_option maxHeartbeats 2000000 in
theorem refund_none (w : World) (F : Nat → Prop) (g : Nat) (b : Tbs) (vs : Value) (st : Til) (m : Nat) (S C : Int) (h : TilC w F g b vs st m) (hk : cpok (S, C)) (hs : st.rf (S, C) = none) (hm : m + 4 ≤ 100000) (ha : (st.tk (S, C)).getD 0 = 0) :
    Calls Try.prog 31 #[.pointer (some ⟨g, 0, none⟩), .agg #[.int .i64 S, .int .i64 C]] w fun e w' => e = .returned (.int .u8 3) ∧ PostO w F (TilB g ⟨st.ch, fun j => if j = (S, C) then some 3 else st.rf j, st.tk, st.nt, st.es⟩ (m + 4)) w' := by
  obtain ⟨c, h1⟩ := h.mr
  have hlk : ∀ (o : Obj) (n : Nat), (Instr.lookup 74 (.map (some b.r)) (.agg #[.int .i64 S, .int .i64 C]) true).run Try.prog ((w.alloc o).drewN n) = .ok (.tuple #[.int .u8 0, .bool false]) ((w.alloc o).drewN n) := fun o n => by
    have := (h1.kept (w' := (w.alloc o).drewN n) (alloc_block_old (o := o) h1.lt)).look_ok mr_map (tz_u8 _) (S, C) hk
    have e : st.fr (S, C) = none := by simp [Til.fr, hs]
    rw [e] at this
    exact this
  have hg : g < w.heap.size := (Array.getElem?_eq_some_iff.1 h.blk).1
  have hc0 : w.cell? ⟨g, 1, none⟩ = some (.map (some b.r)) := by rw [cell_of_row _ _ _ _ _ _ h.blk]; rfl
  have HL : Hid (∀ n : Nat, TilR w ((w.alloc (.cells #[.int .i64 S, .int .i64 C] 82)).drewN n) F g w.heap.size b vs S C st m) := fun n => by
    have hb : Below w.heap.size w ((w.alloc (.cells #[.int .i64 S, .int .i64 C] 82)).drewN n) := Below.drewN' ((Below.refl _ _).alloc (Nat.le_refl _) _) _
    exact ⟨h.kept (fun i hi => hb.block i (h.lt i hi)) hb.size, alloc_at rfl, Nat.le_refl _, Turn.of_below hb, h.lt⟩
  clear h h1
  go_enter Try.func31, Try.ntmps31
  go_wp2_with (fail)
  go_quiet (fail)
  have HL2 := Lib.hid (HL.out nq)
  clear HL hlk
  generalize (w.alloc (.cells #[.int .i64 S, .int .i64 C] 82)).drewN nq = W1 at *
  obtain ⟨kb, hkb⟩ : ∃ kb, kb = w.heap.size := ⟨_, rfl⟩
  rw [← hkb] at HL2
  simp only [← hkb]
  clear hkb hc0
  have hlk2 : ∀ n : Nat, (Instr.lookup 75 (.map (some b.t)) (.agg #[.int .i64 S, .int .i64 C]) false).run Try.prog (W1.drewN n) = .ok (.int .i64 0) (W1.drewN n) := fun n => by
    obtain ⟨c, h1⟩ := (HL2.out.drewN n).til.mt
    have := h1.look mt_map (tz_i64 _) (S, C) hk
    rw [Til.ft_get, ha] at this
    exact this
  have x0 : W1.cell? ⟨g, 2, none⟩ = some (.map (some b.t)) := by rw [cell_of_row _ _ _ _ _ _ HL2.out.til.blk]; rfl
  have x1 : W1.cell? ⟨kb, 0, none⟩ = some (.int .i64 S) := by rw [cell_of_row _ _ _ _ _ _ HL2.out.key]; rfl
  have x2 : W1.cell? ⟨kb, 1, none⟩ = some (.int .i64 C) := by rw [cell_of_row _ _ _ _ _ _ HL2.out.key]; rfl
  have HA := Lib.hid ha
  clear ha
  go_wp2_with (fail)
  go_quiet (fail)
  have HL3 := Lib.hid (HL2.out.drewN nq)
  clear hlk2 x0 x1 x2
  generalize W1.drewN nq = W2 at *
  go_wp2
  have hHeld : (fun w' => w'.cell? ⟨g, 1, none⟩ = some (.map (some b.r)) ∧ w'.cell? ⟨kb, 0, none⟩ = some (.int .i64 S) ∧ w'.cell? ⟨kb, 1, none⟩ = some (.int .i64 C)) W2.drew := ⟨by rw [cell_of_row _ _ _ _ _ _ (show W2.drew.heap[_]? = _ from HL3.out.til.blk)]; rfl, by rw [cell_of_row _ _ _ _ _ _ (show W2.drew.heap[_]? = _ from HL3.out.key)]; rfl, by rw [cell_of_row _ _ _ _ _ _ (show W2.drew.heap[_]? = _ from HL3.out.key)]; rfl⟩
  refine lane_start (ord := [0, 1, 2, 3, 4, 5]) (S := (fun w' => w'.cell? ⟨g, 1, none⟩ = some (.map (some b.r)) ∧ w'.cell? ⟨kb, 0, none⟩ = some (.int .i64 S) ∧ w'.cell? ⟨kb, 1, none⟩ = some (.int .i64 C))) rfl (by kernel_rfl) hHeld (fun _ => ?_)
  iterate 5 (refine lane_take (v := ?_) rfl (by kernel_rfl) (by kernel_rfl) (by rfl) ?_ (by exact hHeld) ?_; rotate_left; (focus (intro w hSw; obtain ⟨x0, x1, x2⟩ := hSw; go_simp; try (with_reducible rfl))); simp only [Act.put, List.setIfInBounds_toArray, List.set_cons_zero, List.set_cons_succ])
  refine lane_alone rfl (by kernel_rfl) (by rfl) (fun KK hKK => ?_)
  obtain ⟨W3, hrun, hst, hgr⟩ := HL3.out.til.drew.sayr hk (by omega) 3
  refine wp_of_skip (exec_mapUpdate rfl rfl rfl rfl hrun) ?_
  have HL4 := Lib.hid (HL3.out.next hst (grown_drew hgr) HL3.out.til.foot.2.2.1)
  refine hKK _ _ ⟨by rw [cell_of_row _ _ _ _ _ _ HL4.out.til.blk]; rfl, by rw [cell_of_row _ _ _ _ _ _ HL4.out.key]; rfl, by rw [cell_of_row _ _ _ _ _ _ HL4.out.key]; rfl⟩ (fun _ => ?_)
  clear hKK KK hrun hst hgr hHeld
  refine lane_end (by kernel_rfl) ?_
  go_wp2
  go_ret
  exact ⟨rfl, ⟨b, vs, (HL4.out.til.wide (fun i hi => .inl hi) fun i hi => hi.elim (HL4.out.til.lt i) (·.2)).mono (by omega)⟩, HL4.out.turn⟩
set_option maxHeartbeats 2000000 in
theorem refund_some (w : World) (F : Nat → Prop) (g : Nat) (b : Tbs) (vs : Value) (st : Til) (m : Nat) (S C a : Int) (h : TilC w F g b vs st m) (hk : cpok (S, C)) (hs : st.rf (S, C) = none) (hm : m + 4 ≤ 100000) (ha : (st.tk (S, C)).getD 0 = a) (hz : ¬ a = 0) (hn : (Lit.int .i64 ((st.nt S).getD 0 - a)).wf = true) :
    Calls Try.prog 31 #[.pointer (some ⟨g, 0, none⟩), .agg #[.int .i64 S, .int .i64 C]] w fun e w' => e = .returned (.int .u8 1) ∧ PostO w F (TilB g ⟨st.ch, fun j => if j = (S, C) then some 1 else st.rf j, fun j => if j = (S, C) then none else st.tk j, fun j => if j = S then some ((st.nt S).getD 0 - a) else st.nt j, st.es ++ [⟨S, C, 0, a⟩]⟩ (m + 4)) w' := by
  obtain ⟨c, h1⟩ := h.mr
  have hlk : ∀ (o : Obj) (n : Nat), (Instr.lookup 74 (.map (some b.r)) (.agg #[.int .i64 S, .int .i64 C]) true).run Try.prog ((w.alloc o).drewN n) = .ok (.tuple #[.int .u8 0, .bool false]) ((w.alloc o).drewN n) := fun o n => by
    have := (h1.kept (w' := (w.alloc o).drewN n) (alloc_block_old (o := o) h1.lt)).look_ok mr_map (tz_u8 _) (S, C) hk
    have e : st.fr (S, C) = none := by simp [Til.fr, hs]
    rw [e] at this
    exact this
  have hg : g < w.heap.size := (Array.getElem?_eq_some_iff.1 h.blk).1
  have hc0 : w.cell? ⟨g, 1, none⟩ = some (.map (some b.r)) := by rw [cell_of_row _ _ _ _ _ _ h.blk]; rfl
  have HL : Hid (∀ n : Nat, TilR w ((w.alloc (.cells #[.int .i64 S, .int .i64 C] 82)).drewN n) F g w.heap.size b vs S C st m) := fun n => by
    have hb : Below w.heap.size w ((w.alloc (.cells #[.int .i64 S, .int .i64 C] 82)).drewN n) := Below.drewN' ((Below.refl _ _).alloc (Nat.le_refl _) _) _
    exact ⟨h.kept (fun i hi => hb.block i (h.lt i hi)) hb.size, alloc_at rfl, Nat.le_refl _, Turn.of_below hb, h.lt⟩
  clear h h1
  go_enter Try.func31, Try.ntmps31
  go_wp2_with (fail)
  go_quiet (fail)
  have HL2 := Lib.hid (HL.out nq)
  clear HL hlk
  generalize (w.alloc (.cells #[.int .i64 S, .int .i64 C] 82)).drewN nq = W1 at *
  obtain ⟨kb, hkb⟩ : ∃ kb, kb = w.heap.size := ⟨_, rfl⟩
  rw [← hkb] at HL2
  simp only [← hkb]
  clear hkb hc0
  have hlk2 : ∀ n : Nat, (Instr.lookup 75 (.map (some b.t)) (.agg #[.int .i64 S, .int .i64 C]) false).run Try.prog (W1.drewN n) = .ok (.int .i64 a) (W1.drewN n) := fun n => by
    obtain ⟨c, h1⟩ := (HL2.out.drewN n).til.mt
    have := h1.look mt_map (tz_i64 _) (S, C) hk
    rw [Til.ft_get, ha] at this
    exact this
  have x0 : W1.cell? ⟨g, 2, none⟩ = some (.map (some b.t)) := by rw [cell_of_row _ _ _ _ _ _ HL2.out.til.blk]; rfl
  have x1 : W1.cell? ⟨kb, 0, none⟩ = some (.int .i64 S) := by rw [cell_of_row _ _ _ _ _ _ HL2.out.key]; rfl
  have x2 : W1.cell? ⟨kb, 1, none⟩ = some (.int .i64 C) := by rw [cell_of_row _ _ _ _ _ _ HL2.out.key]; rfl
  have HA := Lib.hid ha
  clear ha
  go_wp2_with (fail)
  go_quiet (fail)
  have HL3 := Lib.hid (HL2.out.drewN nq)
  clear hlk2 x0 x1 x2
  generalize W1.drewN nq = W2 at *
  go_wp2
  have hHeld : (fun w' => w'.cell? ⟨g, 1, none⟩ = some (.map (some b.r)) ∧ w'.cell? ⟨kb, 0, none⟩ = some (.int .i64 S) ∧ w'.cell? ⟨kb, 1, none⟩ = some (.int .i64 C)) W2.drew := ⟨by rw [cell_of_row _ _ _ _ _ _ (show W2.drew.heap[_]? = _ from HL3.out.til.blk)]; rfl, by rw [cell_of_row _ _ _ _ _ _ (show W2.drew.heap[_]? = _ from HL3.out.key)]; rfl, by rw [cell_of_row _ _ _ _ _ _ (show W2.drew.heap[_]? = _ from HL3.out.key)]; rfl⟩
  refine lane_start (ord := [0, 1, 2, 3, 4, 5]) (S := (fun w' => w'.cell? ⟨g, 1, none⟩ = some (.map (some b.r)) ∧ w'.cell? ⟨kb, 0, none⟩ = some (.int .i64 S) ∧ w'.cell? ⟨kb, 1, none⟩ = some (.int .i64 C))) rfl (by kernel_rfl) hHeld (fun _ => ?_)
  iterate 5 (refine lane_take (v := ?_) rfl (by kernel_rfl) (by kernel_rfl) (by rfl) ?_ (by exact hHeld) ?_; rotate_left; (focus (intro w hSw; obtain ⟨x0, x1, x2⟩ := hSw; go_simp; try (with_reducible rfl))); simp only [Act.put, List.setIfInBounds_toArray, List.set_cons_zero, List.set_cons_succ])
  refine lane_alone rfl (by kernel_rfl) (by rfl) (fun KK hKK => ?_)
  obtain ⟨W3, hrun, hst, hgr⟩ := HL3.out.til.drew.sayr hk (by omega) 1
  refine wp_of_skip (exec_mapUpdate rfl rfl rfl rfl hrun) ?_
  have HL4 := Lib.hid (HL3.out.next hst (grown_drew hgr) HL3.out.til.foot.2.2.1)
  refine hKK _ _ ⟨by rw [cell_of_row _ _ _ _ _ _ HL4.out.til.blk]; rfl, by rw [cell_of_row _ _ _ _ _ _ HL4.out.key]; rfl, by rw [cell_of_row _ _ _ _ _ _ HL4.out.key]; rfl⟩ (fun _ => ?_)
  clear hKK KK hrun hst hgr hHeld
  refine lane_end (by kernel_rfl) ?_
  go_wp2
  have hHeld : (fun w' => w'.cell? ⟨g, 2, none⟩ = some (.map (some b.t)) ∧ w'.cell? ⟨kb, 0, none⟩ = some (.int .i64 S) ∧ w'.cell? ⟨kb, 1, none⟩ = some (.int .i64 C)) W3.drew := ⟨by rw [cell_of_row _ _ _ _ _ _ (show W3.drew.heap[_]? = _ from HL4.out.til.blk)]; rfl, by rw [cell_of_row _ _ _ _ _ _ (show W3.drew.heap[_]? = _ from HL4.out.key)]; rfl, by rw [cell_of_row _ _ _ _ _ _ (show W3.drew.heap[_]? = _ from HL4.out.key)]; rfl⟩
  refine lane_start (ord := [0, 1, 2, 3, 4, 5]) (S := (fun w' => w'.cell? ⟨g, 2, none⟩ = some (.map (some b.t)) ∧ w'.cell? ⟨kb, 0, none⟩ = some (.int .i64 S) ∧ w'.cell? ⟨kb, 1, none⟩ = some (.int .i64 C))) rfl (by kernel_rfl) hHeld (fun _ => ?_)
  iterate 5 (refine lane_take (v := ?_) rfl (by kernel_rfl) (by kernel_rfl) (by rfl) ?_ (by exact hHeld) ?_; rotate_left; (focus (intro w hSw; obtain ⟨x0, x1, x2⟩ := hSw; go_simp; try (with_reducible rfl))); simp only [Act.put, List.setIfInBounds_toArray, List.set_cons_zero, List.set_cons_succ])
  refine lane_alone rfl (by kernel_rfl) (by rfl) (fun KK hKK => ?_)
  obtain ⟨W5, hrun, hst, hgr⟩ := HL4.out.til.drew.strike hk (by omega) _
  refine wp_of_value (exec_delete rfl rfl rfl hrun) ?_
  have HL5 := Lib.hid (HL4.out.next hst (grown_drew hgr) HL4.out.til.foot.2.2.2.1)
  refine hKK _ _ ⟨by rw [cell_of_row _ _ _ _ _ _ HL5.out.til.blk]; rfl, by rw [cell_of_row _ _ _ _ _ _ HL5.out.key]; rfl, by rw [cell_of_row _ _ _ _ _ _ HL5.out.key]; rfl⟩ (fun _ => ?_)
  clear hKK KK hrun hst hgr hHeld
  refine lane_end (by kernel_rfl) ?_
  go_wp2
  obtain ⟨Y0, hY0⟩ : ∃ X0, X0 = (st.nt S).getD 0 := ⟨_, rfl⟩
  rw [← hY0] at hn
  have HY0 := Lib.hid hY0
  clear hY0
  have hw0 : IntKind.i64.wrap (Y0 - a) = Y0 - a := wrap64_of_wf hn
  have hlook : (Instr.lookup 76 (.map (some b.n)) (.int .i64 S) false).run Try.prog W5.drew = .ok (.int .i64 Y0) W5.drew := by
    obtain ⟨cc, h1⟩ := HL5.out.til.drew.mn
    have := h1.look mn_map (tz_i64 _) S hk.1
    rw [Til.fn_get] at this
    rw [HY0.out]
    exact this
  have hHeld : (fun w' => w'.cell? ⟨g, 3, none⟩ = some (.map (some b.n)) ∧ w'.cell? ⟨kb, 0, none⟩ = some (.int .i64 S) ∧ (Instr.lookup 76 (.map (some b.n)) (.int .i64 S) false).run Try.prog w' = .ok (.int .i64 Y0) w') W5.drew := ⟨by rw [cell_of_row _ _ _ _ _ _ (show W5.drew.heap[_]? = _ from HL5.out.til.blk)]; rfl, by rw [cell_of_row _ _ _ _ _ _ (show W5.drew.heap[_]? = _ from HL5.out.key)]; rfl, hlook⟩
  refine laneT_start [0, 1, 2, 3, 4, 5, 6, 7, 8, 9] 9 rfl (by kernel_rfl) (S := (fun w' => w'.cell? ⟨g, 3, none⟩ = some (.map (some b.n)) ∧ w'.cell? ⟨kb, 0, none⟩ = some (.int .i64 S) ∧ (Instr.lookup 76 (.map (some b.n)) (.int .i64 S) false).run Try.prog w' = .ok (.int .i64 Y0) w')) ?_
  iterate 9 (refine laneT_take1 (v := ?_) rfl (by kernel_rfl) (by kernel_rfl) (by rfl) ?_ (by exact hHeld) ?_; rotate_left; (focus (intro w hSw; obtain ⟨x0, x1, x2⟩ := hSw; go_simp; try (with_reducible rfl))); simp only [Act.put, List.setIfInBounds_toArray, List.set_cons_zero, List.set_cons_succ])
  try rw [hw0]
  refine laneT_alone rfl (by kernel_rfl) (by rfl) (fun KK hKK => ?_)
  obtain ⟨W6, hrun, hst, hgr⟩ := HL5.out.til.drew.sayn hk.1 (by omega) (Y0 - a)
  refine wp_of_skip (exec_mapUpdate rfl rfl rfl rfl hrun) ?_
  have HL6 := Lib.hid (HL5.out.next hst (grown_drew hgr) HL5.out.til.foot.2.2.2.2.1)
  refine hKK _ _ (fun hne => absurd rfl hne) ?_
  clear hKK KK hrun hst hgr hHeld hlook
  refine laneT_end (by kernel_rfl) ?_
  go_wp2
  obtain ⟨A, n0, c0, rfl⟩ : ∃ A n' c', vs = .slice A n' c' := by obtain ⟨A, c', e, _⟩ := own_form HL6.out.til.own; exact ⟨A, _, c', e⟩
  have hHeld : (fun w' => w'.cell? ⟨g, 4, none⟩ = some (.slice A n0 c0) ∧ w'.cell? ⟨kb, 0, none⟩ = some (.int .i64 S) ∧ w'.cell? ⟨kb, 1, none⟩ = some (.int .i64 C)) W6.drew := ⟨by rw [cell_of_row _ _ _ _ _ _ (show W6.drew.heap[_]? = _ from HL6.out.til.blk)]; rfl, by rw [cell_of_row _ _ _ _ _ _ (show W6.drew.heap[_]? = _ from HL6.out.key)]; rfl, by rw [cell_of_row _ _ _ _ _ _ (show W6.drew.heap[_]? = _ from HL6.out.key)]; rfl⟩
  refine laneT_start [0, 1, 2, 3, 4, 5, 6, 7, 8, 9, 10, 11, 12, 13, 14, 15] 15 rfl (by kernel_rfl) (S := (fun w' => w'.cell? ⟨g, 4, none⟩ = some (.slice A n0 c0) ∧ w'.cell? ⟨kb, 0, none⟩ = some (.int .i64 S) ∧ w'.cell? ⟨kb, 1, none⟩ = some (.int .i64 C))) ?_
  iterate 11 (refine laneT_take1 (v := ?_) rfl (by kernel_rfl) (by kernel_rfl) (by rfl) ?_ (by exact hHeld) ?_; rotate_left; (focus (intro w hSw; obtain ⟨x0, x1, x2⟩ := hSw; go_simp; try (with_reducible rfl))); simp only [Act.put, List.setIfInBounds_toArray, List.set_cons_zero, List.set_cons_succ])
  refine laneT_alone rfl (by kernel_rfl) (by rfl) (fun KK hKK => ?_)
  go_simp
  refine hKK _ _ (fun _ => ⟨(World.cell?_of_block (alloc_block_old (Array.getElem?_eq_some_iff.1 HL6.out.til.blk).1)).trans hHeld.1, (World.cell?_of_block (alloc_block_old (Array.getElem?_eq_some_iff.1 HL6.out.key).1)).trans hHeld.2.1, (World.cell?_of_block (alloc_block_old (Array.getElem?_eq_some_iff.1 HL6.out.key).1)).trans hHeld.2.2⟩) ?_
  clear hKK KK
  refine laneT_alone rfl (by kernel_rfl) (by rfl) (fun KK hKK => ?_)
  obtain ⟨it, hit, hz0, hz1, hz2⟩ := info_parts ent_info
  have hm3 := HL6.out.til.len
  have hm4 : st.es.length ≤ m + 4 := by have : st.es.length ≤ _ := hm3; omega
  have hO3 : (W6.alloc (.cells #[.int .i64 S, .int .i64 C, .int .i64 0, .int .i64 a] 39)).drew.ownsRow 0 39 4 (.slice A n0 c0) st.es.length (ecl st.es) := own_kept HL6.out.til.own fun j hj => alloc_block_old (HL6.out.til.own.lt j hj).2
  obtain ⟨v', W7, hrun4, hown4, hgr4, _, hat4⟩ := run_append_own_at (P := Try.prog) (w := (W6.alloc (.cells #[.int .i64 S, .int .i64 C, .int .i64 0, .int .i64 a] 39)).drew) 0 26 26 39 it _ 4 32 Try.underlying26 hit hz0 hz1 hz2 rfl (by decide) (.slice A n0 c0) st.es.length (ecl st.es) hO3 ⟨W6.heap.size, 0, none⟩ 1 1 (ecl [⟨S, C, 0, a⟩]) rfl (fun j u hu => by rw [ad_head, cell_of_row (w := (W6.alloc (.cells #[.int .i64 S, .int .i64 C, .int .i64 0, .int .i64 a] 39)).drew) _ _ _ _ (0, 0) alloc_block]; simpa [ecl] using hu) (ecl_one _) (by unfold maxLen; omega) (by omega) (Nat.zero_le _)
  refine wp_of_value (exec_append rfl rfl rfl hrun4) ?_
  have hkeep : ∀ j o, W6.heap[j]? = some o → (Value.slice A n0 c0).ownBlock ≠ some j → W7.heap[j]? = some o := fun j o hj hne => by
    have hlt : j < W6.heap.size := (Array.getElem?_eq_some_iff.1 hj).1
    exact (hgr4.block j (by show j < (W6.alloc _).heap.size; rw [World.size_alloc]; exact Nat.lt_succ_of_lt hlt) fun e => hne e.symm).trans ((alloc_block_old hlt).trans hj)
  have hg4 := hkeep g _ HL6.out.til.blk (own_ne HL6.out.til.own HL6.out.til.blk (by decide))
  have hk4 := hkeep _ _ HL6.out.key (fun e => by have := HL6.out.flt _ (HL6.out.til.foot.2.2.2.2.2 _ e); have := HL6.out.new; omega)
  have HG4 := Lib.hid hg4
  have HMc := Lib.hid (map_carry (n' := m + 4) HL6.out.til.mc HL6.out.til.own hkeep (by omega))
  have HMr := Lib.hid (map_carry (n' := m + 4) HL6.out.til.mr HL6.out.til.own hkeep (by omega))
  have HMt := Lib.hid (map_carry (n' := m + 4) HL6.out.til.mt HL6.out.til.own hkeep (by omega))
  have HMn := Lib.hid (map_carry (n' := m + 4) HL6.out.til.mn HL6.out.til.own hkeep (by omega))
  have HT4 : Hid (Turn F w W7) := (HL6.out.turn.trans (F' := F) (Turn.of_below (Below.drew ((Below.refl _ _).alloc (Nat.le_refl _) _))) (fun _ h => .inl h)).trans (F' := F) (Turn.grown hgr4 fun j hj => HL6.out.til.foot.2.2.2.2.2 j hj) (fun _ h => .inl h)
  have HO4 := Lib.hid hown4
  have HAT : Hid (∀ j, v'.ownBlock = some j → F j ∨ (w.heap.size ≤ j ∧ j < W7.heap.size)) := fun j hj => by
    have hl := (hown4.lt j hj).2
    rcases hat4 with e | e
    · exact .inl (HL6.out.til.foot.2.2.2.2.2 j (e ▸ hj))
    · rw [e] at hj; injection hj with hj
      have h2s : w.heap.size ≤ (W6.alloc (.cells #[.int .i64 S, .int .i64 C, .int .i64 0, .int .i64 a] 39)).heap.size := by rw [World.size_alloc]; have := HL6.out.turn.size; omega
      exact .inr ⟨by subst hj; exact h2s, hl⟩
  obtain ⟨A', c'', rfl, _, _⟩ := own_form hown4
  have hHeld4 : (fun w' => w'.cell? ⟨g, 4, none⟩ = some (.slice A n0 c0) ∧ w'.cell? ⟨kb, 0, none⟩ = some (.int .i64 S) ∧ w'.cell? ⟨kb, 1, none⟩ = some (.int .i64 C)) W7 := ⟨by rw [cell_of_row _ _ _ _ _ _ hg4]; rfl, by rw [cell_of_row _ _ _ _ _ _ hk4]; rfl, by rw [cell_of_row _ _ _ _ _ _ hk4]; rfl⟩
  have c0x : W7.cell? ⟨g, 4, none⟩ = some (.slice A n0 c0) := by rw [cell_of_row _ _ _ _ _ _ hg4]; rfl
  refine hKK _ _ (fun _ => hHeld4) ?_
  clear hKK KK hown4 hgr4 hat4 hrun4 hkeep hO3 hk4
  simp only [Act.put, List.setIfInBounds_toArray, List.set_cons_zero, List.set_cons_succ]
  refine laneT_alone rfl (by kernel_rfl) (by rfl) (fun KK hKK => ?_)
  go_simp
  refine hKK _ _ (fun _ => hHeld4) ?_
  clear hKK KK
  refine laneT_alone rfl (by kernel_rfl) (by rfl) (fun KK hKK => ?_)
  go_simp
  refine hKK _ _ (fun _ => hHeld4) ?_
  clear hKK KK
  refine laneT_alone rfl (by kernel_rfl) (by rfl) (fun KK hKK => ?_)
  refine wp_of_skip (exec_store_one rfl rfl rfl eslice_info rfl c0x (by rw [World.frozen?, hg4]; rfl)) ?_
  refine hKK _ _ (fun hne => absurd rfl hne) ?_
  clear hKK KK
  refine laneT_end (by kernel_rfl) ?_
  have hset : W7.setCell ⟨g, 4, none⟩ (.slice A' (st.es.length + 1) c'') = boxed W7 g #[.map (some b.c), .map (some b.r), .map (some b.t), .map (some b.n), .slice A' (st.es.length + 1) c''] 78 := by
    conv => lhs; rw [boxed_self hg4]
    rw [boxed_set]; rfl
  change Exit.then _ _ Exit.normal _ (W7.setCell ⟨g, 4, none⟩ (.slice A' (st.es.length + 1) c''))
  rw [hset]
  clear hset c0x hHeld hHeld4
  go_wp2
  go_ret
  have hg4l : g < W7.heap.size := (Array.getElem?_eq_some_iff.1 HG4.out).1
  have hne := own_ne HO4.out HG4.out (by decide)
  have ht : Turn F w (boxed W7 g #[.map (some b.c), .map (some b.r), .map (some b.t), .map (some b.n), .slice A' (st.es.length + 1) c''] 78) := HT4.out.trans (F' := F) (⟨rfl, rfl, rfl, by rw [boxed_size]; exact Nat.le_refl _, fun i _ hn => boxed_block_other fun e => hn (by rw [e]; exact HL6.out.til.foot.1)⟩) fun _ h => .inl h
  rw [← HY0.out]
  refine ⟨rfl, ⟨b, _, boxed_at hg4l, ?_, ?_, ?_, ?_, HL6.out.til.ne, ?_, ⟨.inl HL6.out.til.foot.1, .inl HL6.out.til.foot.2.1, .inl HL6.out.til.foot.2.2.1, .inl HL6.out.til.foot.2.2.2.1, .inl HL6.out.til.foot.2.2.2.2.1, fun i hi => ?_⟩, fun i hi => ?_, by have : st.es.length ≤ m := HL2.out.til.len; simp; omega⟩, ht⟩
  · obtain ⟨cc, h1⟩ := HMc.out
    exact ⟨cc, h1.kept (boxed_block_other (Ne.symm (emap_ne h1 HG4.out)))⟩
  · obtain ⟨cc, h1⟩ := HMr.out
    exact ⟨cc, h1.kept (boxed_block_other (Ne.symm (emap_ne h1 HG4.out)))⟩
  · obtain ⟨cc, h1⟩ := HMt.out
    exact ⟨cc, h1.kept (boxed_block_other (Ne.symm (emap_ne h1 HG4.out)))⟩
  · obtain ⟨cc, h1⟩ := HMn.out
    exact ⟨cc, h1.kept (boxed_block_other (Ne.symm (emap_ne h1 HG4.out)))⟩
  · have := own_kept (w' := boxed W7 g #[.map (some b.c), .map (some b.r), .map (some b.t), .map (some b.n), .slice A' (st.es.length + 1) c''] 78) HO4.out fun i hi => boxed_block_other fun e => hne (by rw [hi, e])
    rw [← ecl_append] at this
    simpa using this
  · rcases HAT.out i hi with h' | h'
    · exact .inl h'
    · exact .inr (by rw [boxed_size]; exact h')
  · rw [boxed_size]
    rcases hi with h' | h'
    · have := HL6.out.flt i h'; have := HT4.out.size; omega
    · have := h'.2; rwa [boxed_size] at this
end Go.Proofs.Ytcjhgckkbekhoaa
