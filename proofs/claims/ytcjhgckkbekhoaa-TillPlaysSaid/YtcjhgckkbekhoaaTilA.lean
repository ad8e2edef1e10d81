/-
  A till's told and charge. No conditions but the sizes.
-/
import Derived.Test.YtcjhgckkbekhoaaTil
import Derived.Test.YtcjhgckkbekhoaaNv
namespace Go.Proofs.Ytcjhgckkbekhoaa
set_option maxRecDepth 20000
open Go.ChangeShapes Go.WideShapes Go.ChangeAt Go.RowKit

/-- What the till makes of the bank's word. -/
def Til.told (T M v : Int) : Int := if T ≤ 0 ∨ M ≤ 0 then 3 else if v = 1 ∨ v = 2 then v else 3
set_option maxHeartbeats 1000000 in
theorem told_any (w : World) (K S C T M V v : Int) : Calls Try.prog 37 #[.agg #[.int .u8 K, .int .i64 S, .int .i64 C, .int .i64 T, .int .i64 M, .int .u8 V], .int .u8 v] w fun e w' => e = .returned (.int .u8 (Til.told T M v)) ∧ Below w.heap.size w w' := by
  have hb : ∀ o : Obj, Below w.heap.size w (w.alloc o) := fun o => (Below.refl _ _).alloc (Nat.le_refl _) _
  by_cases h1 : T ≤ 0
  · have d1 : decide (T ≤ 0) = true := by simpa using h1
    have e : Til.told T M v = 3 := if_pos (.inl h1)
    rw [e]
    go_enter Try.func37, Try.ntmps37
    go_wp2
    go_ret
    exact ⟨rfl, hb _⟩
  · have d1 : decide (T ≤ 0) = false := by simpa using h1
    by_cases h2 : M ≤ 0
    · have d2 : decide (M ≤ 0) = true := by simpa using h2
      have e : Til.told T M v = 3 := if_pos (.inr h2)
      rw [e]
      go_enter Try.func37, Try.ntmps37
      go_wp2
      go_ret
      exact ⟨rfl, hb _⟩
    · have d2 : decide (M ≤ 0) = false := by simpa using h2
      have e0 : Til.told T M v = if v = 1 ∨ v = 2 then v else 3 := if_neg (by rintro (h | h) <;> contradiction)
      rw [e0]
      by_cases h3 : v = 1
      · subst h3
        go_enter Try.func37, Try.ntmps37
        go_wp2
        go_ret
        exact ⟨rfl, hb _⟩
      · have d3 : (v == 1) = false := by simpa using h3
        by_cases h4 : v = 2
        · subst h4
          go_enter Try.func37, Try.ntmps37
          go_wp2
          go_ret
          exact ⟨rfl, hb _⟩
        · have d4 : (v == 2) = false := by simpa using h4
          have e5 : (if v = 1 ∨ v = 2 then v else 3) = 3 := if_neg (by rintro (h | h) <;> contradiction)
          rw [e5]
          go_enter Try.func37, Try.ntmps37
          go_wp2
          go_ret
          exact ⟨rfl, hb _⟩

/-- The world behind the look: the till, the notice at kb, its try behind it. -/
structure TilL (w W : World) (F : Nat → Prop) (g kb : Nat) (b : Tbs) (vs : Value) (K S C T M V : Int) (st : Til) (m : Nat) : Prop where
  til : TilC W F g b vs st m
  note : W.heap[kb]? = some (.cells #[.int .u8 K, .int .i64 S, .int .i64 C, .int .i64 T, .int .i64 M, .int .u8 V] 31 (0, 0))
  key : W.heap[kb + 1]? = some (.cells #[.int .i64 S, .int .i64 C, .int .i64 T] 100 (0, 0))
  new : w.heap.size ≤ kb
  turn : Turn F w W
  flt : ∀ i, F i → i < w.heap.size
theorem TilL.next {w W W' : World} {F : Nat → Prop} {g kb B : Nat} {b : Tbs} {vs : Value} {K S C T M V : Int} {st st' : Til} {m m' : Nat} (h : TilL w W F g kb b vs K S C T M V st m) (hs : TilC W' F g b vs st' m') (hg : W.grownBy W' (some B)) (hB : F B) : TilL w W' F g kb b vs K S C T M V st' m' :=
  ⟨hs, grown_at hg (fun e => by have := h.flt _ hB; have := h.new; omega) h.note, grown_at hg (fun e => by have := h.flt _ hB; have := h.new; omega) h.key, h.new, h.turn.trans (F' := F) (Turn.grown hg fun i hi => by injection hi with hi; subst hi; exact hB) fun i hi => .inl hi, h.flt⟩
theorem grown_drew {w w' : World} {r : Option Nat} (h : w.drew.grownBy w' r) : w.grownBy w' r := ⟨h.os, h.tape, h.output, h.size, h.block⟩

theorem wrap64_of_wf {x : Int} (h : (Lit.int .i64 x).wf = true) : IntKind.i64.wrap x = x := by
  have h1 : IntKind.i64.min = -9223372036854775808 := rfl
  have h2 : IntKind.i64.max = 9223372036854775807 := rfl
  simp only [Lit.wf, Bool.and_eq_true, decide_eq_true_eq] at h
  rw [IntWalk.i64_left]
  exact IntWalk.wrap64_in x (by omega)
theorem exec_mapEntry {P : Program} {o : Oper} {a : Act} {w w' : World} {t : TypeId} {m k : Operand} {mv kv v : Value} (ho : o.op = .mapEntry t m k) (hm : a.eval m = mv) (hk : a.eval k = kv) (hr : (Instr.mapEntry t mv kv).run P w = .ok v w') : (execOp a.eval o).run P w = .ok (.value v) w' := by
  unfold execOp; simp only [ho, hm, hk, Sem.run_bind, hr, Result.andThen_ok, Sem.run_pure]
theorem exec_entryStore {P : Program} {o : Oper} {a : Act} {w w' : World} {t : TypeId} {m s x : Operand} {mv sv xv : Value} (ho : o.op = .entryStore t m s x) (hm : a.eval m = mv) (hs : a.eval s = sv) (hx : a.eval x = xv) (hr : (Instr.entryStore t mv sv xv).run P w = .ok () w') : (execOp a.eval o).run P w = .ok .skip w' := by
  unfold execOp; simp only [ho, hm, hs, hx, Sem.run_bind, hr, Result.andThen_ok, Sem.run_pure]
set_option maxHeartbeats 1000000 in
theorem charge_said (w : World) (F : Nat → Prop) (g : Nat) (b : Tbs) (vs : Value) (st : Til) (m : Nat) (K S C T M V v x : Int) (h : TilC w F g b vs st m) (hk : ypok (S, C, T)) (hs : st.ch (S, C, T) = some x) :
    Calls Try.prog 30 #[.pointer (some ⟨g, 0, none⟩), .agg #[.int .u8 K, .int .i64 S, .int .i64 C, .int .i64 T, .int .i64 M, .int .u8 V], .int .u8 v] w fun e w' => e = .returned (.int .u8 x) ∧ Below w.heap.size w w' := by
  obtain ⟨c, h1⟩ := h.mc
  have hlk : ∀ (o o' : Obj) (n : Nat), (Instr.lookup 73 (.map (some b.c)) (.agg #[.int .i64 S, .int .i64 C, .int .i64 T]) true).run Try.prog (((w.alloc o).alloc o').drewN n) = .ok (.tuple #[.int .u8 x, .bool true]) (((w.alloc o).alloc o').drewN n) := fun o o' n => by
    have := (h1.kept (w' := ((w.alloc o).alloc o').drewN n) ((alloc_block_old (o := o') (by rw [World.size_alloc]; exact Nat.lt_succ_of_lt h1.lt)).trans (alloc_block_old (o := o) h1.lt))).look_ok mc_map (tz_u8 _) (S, C, T) hk
    have e : st.fc (S, C, T) = some (.int .u8 x) := by simp [Til.fc, hs]
    rw [e] at this
    exact this
  have hg : g < w.heap.size := (Array.getElem?_eq_some_iff.1 h.blk).1
  have hc0 : w.cell? ⟨g, 0, none⟩ = some (.map (some b.c)) := by rw [cell_of_row _ _ _ _ _ _ h.blk]; rfl
  clear h h1
  go_enter Try.func30, Try.ntmps30
  go_wp2_with (fail)
  go_quiet (fail)
  go_wp2
  go_ret
  exact ⟨rfl, Below.drewN' (((Below.refl _ _).alloc (Nat.le_refl _) _).alloc (by simp) _) _⟩
set_option maxHeartbeats 2000000 in
theorem charge_no (w : World) (F : Nat → Prop) (g : Nat) (b : Tbs) (vs : Value) (st : Til) (m : Nat) (K S C T M V v : Int) (h : TilC w F g b vs st m) (hk : ypok (S, C, T)) (hs : st.ch (S, C, T) = none) (hm : m + 4 ≤ 100000) (hv : ¬ Til.told T M v = 1) :
    Calls Try.prog 30 #[.pointer (some ⟨g, 0, none⟩), .agg #[.int .u8 K, .int .i64 S, .int .i64 C, .int .i64 T, .int .i64 M, .int .u8 V], .int .u8 v] w fun e w' => e = .returned (.int .u8 (Til.told T M v)) ∧ PostO w F (TilB g ⟨fun j => if j = (S, C, T) then some (Til.told T M v) else st.ch j, st.rf, st.tk, st.nt, st.es⟩ (m + 4)) w' := by
  obtain ⟨c, h1⟩ := h.mc
  have hlk : ∀ (o o' : Obj) (n : Nat), (Instr.lookup 73 (.map (some b.c)) (.agg #[.int .i64 S, .int .i64 C, .int .i64 T]) true).run Try.prog (((w.alloc o).alloc o').drewN n) = .ok (.tuple #[.int .u8 0, .bool false]) (((w.alloc o).alloc o').drewN n) := fun o o' n => by
    have := (h1.kept (w' := ((w.alloc o).alloc o').drewN n) ((alloc_block_old (o := o') (by rw [World.size_alloc]; exact Nat.lt_succ_of_lt h1.lt)).trans (alloc_block_old (o := o) h1.lt))).look_ok mc_map (tz_u8 _) (S, C, T) hk
    have e : st.fc (S, C, T) = none := by simp [Til.fc, hs]
    rw [e] at this
    exact this
  have hg : g < w.heap.size := (Array.getElem?_eq_some_iff.1 h.blk).1
  have hc0 : w.cell? ⟨g, 0, none⟩ = some (.map (some b.c)) := by rw [cell_of_row _ _ _ _ _ _ h.blk]; rfl
  have HL : Hid (∀ n : Nat, TilL w (((w.alloc (.cells #[.int .u8 K, .int .i64 S, .int .i64 C, .int .i64 T, .int .i64 M, .int .u8 V] 31)).alloc (.cells #[.int .i64 S, .int .i64 C, .int .i64 T] 100)).drewN n) F g w.heap.size b vs K S C T M V st m) := fun n => by
    have hb : Below w.heap.size w (((w.alloc (.cells #[.int .u8 K, .int .i64 S, .int .i64 C, .int .i64 T, .int .i64 M, .int .u8 V] 31)).alloc (.cells #[.int .i64 S, .int .i64 C, .int .i64 T] 100)).drewN n) := Below.drewN' (((Below.refl _ _).alloc (Nat.le_refl _) _).alloc (by simp) _) _
    exact ⟨h.kept (fun i hi => hb.block i (h.lt i hi)) hb.size, alloc_old (by simp) (alloc_at rfl), alloc_at (by simp), Nat.le_refl _, Turn.of_below hb, h.lt⟩
  clear h h1
  go_enter Try.func30, Try.ntmps30
  go_wp2_with (fail)
  go_quiet (fail)
  have HL2 := Lib.hid (HL.out nq)
  clear HL hlk
  generalize ((w.alloc (.cells #[.int .u8 K, .int .i64 S, .int .i64 C, .int .i64 T, .int .i64 M, .int .u8 V] 31)).alloc (.cells #[.int .i64 S, .int .i64 C, .int .i64 T] 100)).drewN nq = W1 at *
  obtain ⟨kb, hkb⟩ : ∃ kb, kb = w.heap.size := ⟨_, rfl⟩
  rw [← hkb] at HL2
  simp only [← hkb]
  clear hkb hc0
  have hnn : ∀ i u, #[.int .u8 K, .int .i64 S, .int .i64 C, .int .i64 T, .int .i64 M, .int .u8 V][i]? = some u → W1.cell? ⟨kb, i, none⟩ = some u := fun i u hu => by rw [cell_of_row _ _ _ _ _ _ HL2.out.note]; exact hu
  have n0 := hnn 0 _ rfl
  have n1 := hnn 1 _ rfl
  have n2 := hnn 2 _ rfl
  have n3 := hnn 3 _ rfl
  have n4 := hnn 4 _ rfl
  have n5 := hnn 5 _ rfl
  clear hnn
  go_wp2_with (fail)
  refine (told_any _ K S C T M V v).mono ?_
  rintro e W2 ⟨rfl, hb2⟩
  have HL3 : Hid (TilL w W2 F g kb b vs K S C T M V st m) :=
    ⟨HL2.out.til.kept (fun i hi => hb2.block i (HL2.out.til.lt i hi)) hb2.size, below_block hb2 HL2.out.note, below_block hb2 HL2.out.key, HL2.out.new, HL2.out.turn.trans (Turn.of_below (F := F) hb2) (fun i hi => .inl hi), HL2.out.flt⟩
  clear hb2 n0 n1 n2 n3 n4 n5
  generalize hX : Til.told T M v = x at *
  have HX := Lib.hid hX
  clear hX
  go_wp2
  have hHeld : (fun w' => w'.cell? ⟨g, 0, none⟩ = some (.map (some b.c)) ∧ w'.cell? ⟨(kb + 1), 0, none⟩ = some (.int .i64 S) ∧ w'.cell? ⟨(kb + 1), 1, none⟩ = some (.int .i64 C) ∧ w'.cell? ⟨(kb + 1), 2, none⟩ = some (.int .i64 T)) W2.drew := ⟨by rw [cell_of_row _ _ _ _ _ _ (show W2.drew.heap[_]? = _ from HL3.out.til.blk)]; rfl, by rw [cell_of_row _ _ _ _ _ _ (show W2.drew.heap[_]? = _ from HL3.out.key)]; rfl, by rw [cell_of_row _ _ _ _ _ _ (show W2.drew.heap[_]? = _ from HL3.out.key)]; rfl, by rw [cell_of_row _ _ _ _ _ _ (show W2.drew.heap[_]? = _ from HL3.out.key)]; rfl⟩
  refine lane_start (ord := [0, 1, 2, 3, 4, 5, 6]) (S := (fun w' => w'.cell? ⟨g, 0, none⟩ = some (.map (some b.c)) ∧ w'.cell? ⟨(kb + 1), 0, none⟩ = some (.int .i64 S) ∧ w'.cell? ⟨(kb + 1), 1, none⟩ = some (.int .i64 C) ∧ w'.cell? ⟨(kb + 1), 2, none⟩ = some (.int .i64 T))) rfl (by kernel_rfl) hHeld (fun _ => ?_)
  iterate 6 (refine lane_take (v := ?_) rfl (by kernel_rfl) (by kernel_rfl) (by rfl) ?_ (by exact hHeld) ?_; rotate_left; (focus (intro w hSw; obtain ⟨x0, x1, x2, x3⟩ := hSw; go_simp; try (with_reducible rfl))); simp only [Act.put, List.setIfInBounds_toArray, List.set_cons_zero, List.set_cons_succ])
  refine lane_alone rfl (by kernel_rfl) (by rfl) (fun KK hKK => ?_)
  obtain ⟨W3, hrun, hst, hgr⟩ := HL3.out.til.drew.sayc hk (by omega) x
  refine wp_of_skip (exec_mapUpdate rfl rfl rfl rfl hrun) ?_
  have HL4 := Lib.hid (HL3.out.next hst (grown_drew hgr) HL3.out.til.foot.2.1)
  refine hKK _ _ ⟨by rw [cell_of_row _ _ _ _ _ _ HL4.out.til.blk]; rfl, by rw [cell_of_row _ _ _ _ _ _ HL4.out.key]; rfl, by rw [cell_of_row _ _ _ _ _ _ HL4.out.key]; rfl, by rw [cell_of_row _ _ _ _ _ _ HL4.out.key]; rfl⟩ (fun _ => ?_)
  clear hKK KK hrun hst hgr hHeld
  refine lane_end (by kernel_rfl) ?_
  go_wp2
  go_ret
  rw [HX.out]
  exact ⟨rfl, ⟨b, vs, (HL4.out.til.wide (fun i hi => .inl hi) fun i hi => hi.elim (HL4.out.til.lt i) (·.2)).mono (by omega)⟩, HL4.out.turn⟩
set_option maxHeartbeats 2000000 in
theorem charge_yes (w : World) (F : Nat → Prop) (g : Nat) (b : Tbs) (vs : Value) (st : Til) (m : Nat) (K S C T M V v : Int) (h : TilC w F g b vs st m) (hk : ypok (S, C, T)) (hs : st.ch (S, C, T) = none) (hm : m + 4 ≤ 100000) (hv : Til.told T M v = 1) (ht : (Lit.int .i64 ((st.tk (S, C)).getD 0 + M)).wf = true) (hn : (Lit.int .i64 ((st.nt S).getD 0 + M)).wf = true) :
    Calls Try.prog 30 #[.pointer (some ⟨g, 0, none⟩), .agg #[.int .u8 K, .int .i64 S, .int .i64 C, .int .i64 T, .int .i64 M, .int .u8 V], .int .u8 v] w fun e w' => e = .returned (.int .u8 1) ∧ PostO w F (TilB g ⟨fun j => if j = (S, C, T) then some 1 else st.ch j, st.rf, fun j => if j = (S, C) then some ((st.tk (S, C)).getD 0 + M) else st.tk j, fun j => if j = S then some ((st.nt S).getD 0 + M) else st.nt j, st.es ++ [⟨S, C, T, M⟩]⟩ (m + 4)) w' := by
  obtain ⟨c, h1⟩ := h.mc
  have hlk : ∀ (o o' : Obj) (n : Nat), (Instr.lookup 73 (.map (some b.c)) (.agg #[.int .i64 S, .int .i64 C, .int .i64 T]) true).run Try.prog (((w.alloc o).alloc o').drewN n) = .ok (.tuple #[.int .u8 0, .bool false]) (((w.alloc o).alloc o').drewN n) := fun o o' n => by
    have := (h1.kept (w' := ((w.alloc o).alloc o').drewN n) ((alloc_block_old (o := o') (by rw [World.size_alloc]; exact Nat.lt_succ_of_lt h1.lt)).trans (alloc_block_old (o := o) h1.lt))).look_ok mc_map (tz_u8 _) (S, C, T) hk
    have e : st.fc (S, C, T) = none := by simp [Til.fc, hs]
    rw [e] at this
    exact this
  have hg : g < w.heap.size := (Array.getElem?_eq_some_iff.1 h.blk).1
  have hc0 : w.cell? ⟨g, 0, none⟩ = some (.map (some b.c)) := by rw [cell_of_row _ _ _ _ _ _ h.blk]; rfl
  have HL : Hid (∀ n : Nat, TilL w (((w.alloc (.cells #[.int .u8 K, .int .i64 S, .int .i64 C, .int .i64 T, .int .i64 M, .int .u8 V] 31)).alloc (.cells #[.int .i64 S, .int .i64 C, .int .i64 T] 100)).drewN n) F g w.heap.size b vs K S C T M V st m) := fun n => by
    have hb : Below w.heap.size w (((w.alloc (.cells #[.int .u8 K, .int .i64 S, .int .i64 C, .int .i64 T, .int .i64 M, .int .u8 V] 31)).alloc (.cells #[.int .i64 S, .int .i64 C, .int .i64 T] 100)).drewN n) := Below.drewN' (((Below.refl _ _).alloc (Nat.le_refl _) _).alloc (by simp) _) _
    exact ⟨h.kept (fun i hi => hb.block i (h.lt i hi)) hb.size, alloc_old (by simp) (alloc_at rfl), alloc_at (by simp), Nat.le_refl _, Turn.of_below hb, h.lt⟩
  clear h h1
  go_enter Try.func30, Try.ntmps30
  go_wp2_with (fail)
  go_quiet (fail)
  have HL2 := Lib.hid (HL.out nq)
  clear HL hlk
  generalize ((w.alloc (.cells #[.int .u8 K, .int .i64 S, .int .i64 C, .int .i64 T, .int .i64 M, .int .u8 V] 31)).alloc (.cells #[.int .i64 S, .int .i64 C, .int .i64 T] 100)).drewN nq = W1 at *
  obtain ⟨kb, hkb⟩ : ∃ kb, kb = w.heap.size := ⟨_, rfl⟩
  rw [← hkb] at HL2
  simp only [← hkb]
  clear hkb hc0
  have hnn : ∀ i u, #[.int .u8 K, .int .i64 S, .int .i64 C, .int .i64 T, .int .i64 M, .int .u8 V][i]? = some u → W1.cell? ⟨kb, i, none⟩ = some u := fun i u hu => by rw [cell_of_row _ _ _ _ _ _ HL2.out.note]; exact hu
  have n0 := hnn 0 _ rfl
  have n1 := hnn 1 _ rfl
  have n2 := hnn 2 _ rfl
  have n3 := hnn 3 _ rfl
  have n4 := hnn 4 _ rfl
  have n5 := hnn 5 _ rfl
  clear hnn
  go_wp2_with (fail)
  refine (told_any _ K S C T M V v).mono ?_
  rintro e W2 ⟨rfl, hb2⟩
  have HL3 : Hid (TilL w W2 F g kb b vs K S C T M V st m) :=
    ⟨HL2.out.til.kept (fun i hi => hb2.block i (HL2.out.til.lt i hi)) hb2.size, below_block hb2 HL2.out.note, below_block hb2 HL2.out.key, HL2.out.new, HL2.out.turn.trans (Turn.of_below (F := F) hb2) (fun i hi => .inl hi), HL2.out.flt⟩
  clear hb2 n0 n1 n2 n3 n4 n5
  rw [hv]
  go_wp2
  have hHeld : (fun w' => w'.cell? ⟨g, 0, none⟩ = some (.map (some b.c)) ∧ w'.cell? ⟨(kb + 1), 0, none⟩ = some (.int .i64 S) ∧ w'.cell? ⟨(kb + 1), 1, none⟩ = some (.int .i64 C) ∧ w'.cell? ⟨(kb + 1), 2, none⟩ = some (.int .i64 T)) W2.drew := ⟨by rw [cell_of_row _ _ _ _ _ _ (show W2.drew.heap[_]? = _ from HL3.out.til.blk)]; rfl, by rw [cell_of_row _ _ _ _ _ _ (show W2.drew.heap[_]? = _ from HL3.out.key)]; rfl, by rw [cell_of_row _ _ _ _ _ _ (show W2.drew.heap[_]? = _ from HL3.out.key)]; rfl, by rw [cell_of_row _ _ _ _ _ _ (show W2.drew.heap[_]? = _ from HL3.out.key)]; rfl⟩
  refine lane_start (ord := [0, 1, 2, 3, 4, 5, 6]) (S := (fun w' => w'.cell? ⟨g, 0, none⟩ = some (.map (some b.c)) ∧ w'.cell? ⟨(kb + 1), 0, none⟩ = some (.int .i64 S) ∧ w'.cell? ⟨(kb + 1), 1, none⟩ = some (.int .i64 C) ∧ w'.cell? ⟨(kb + 1), 2, none⟩ = some (.int .i64 T))) rfl (by kernel_rfl) hHeld (fun _ => ?_)
  iterate 6 (refine lane_take (v := ?_) rfl (by kernel_rfl) (by kernel_rfl) (by rfl) ?_ (by exact hHeld) ?_; rotate_left; (focus (intro w hSw; obtain ⟨x0, x1, x2, x3⟩ := hSw; go_simp; try (with_reducible rfl))); simp only [Act.put, List.setIfInBounds_toArray, List.set_cons_zero, List.set_cons_succ])
  refine lane_alone rfl (by kernel_rfl) (by rfl) (fun KK hKK => ?_)
  obtain ⟨W3, hrun, hst, hgr⟩ := HL3.out.til.drew.sayc hk (by omega) 1
  refine wp_of_skip (exec_mapUpdate rfl rfl rfl rfl hrun) ?_
  have HL4 := Lib.hid (HL3.out.next hst (grown_drew hgr) HL3.out.til.foot.2.1)
  refine hKK _ _ ⟨by rw [cell_of_row _ _ _ _ _ _ HL4.out.til.blk]; rfl, by rw [cell_of_row _ _ _ _ _ _ HL4.out.key]; rfl, by rw [cell_of_row _ _ _ _ _ _ HL4.out.key]; rfl, by rw [cell_of_row _ _ _ _ _ _ HL4.out.key]; rfl⟩ (fun _ => ?_)
  clear hKK KK hrun hst hgr hHeld
  refine lane_end (by kernel_rfl) ?_
  go_wp2
  obtain ⟨X0, hX0⟩ : ∃ X0, X0 = (st.tk (S, C)).getD 0 := ⟨_, rfl⟩
  rw [← hX0] at ht
  have HX0 := Lib.hid hX0
  clear hX0
  have hkc : cpok (S, C) := ⟨hk.1, hk.2.1⟩
  have hw0 : IntKind.i64.wrap (X0 + M) = X0 + M := wrap64_of_wf ht
  have hlook : (Instr.lookup 75 (.map (some b.t)) (.agg #[.int .i64 S, .int .i64 C]) false).run Try.prog W3.drew = .ok (.int .i64 X0) W3.drew := by
    obtain ⟨cc, h1⟩ := HL4.out.til.drew.mt
    have := h1.look mt_map (tz_i64 _) (S, C) hkc
    rw [Til.ft_get] at this
    rw [HX0.out]
    exact this
  have hHeld : (fun w' => w'.cell? ⟨g, 2, none⟩ = some (.map (some b.t)) ∧ w'.cell? ⟨kb, 1, none⟩ = some (.int .i64 S) ∧ w'.cell? ⟨kb, 2, none⟩ = some (.int .i64 C) ∧ w'.cell? ⟨kb, 4, none⟩ = some (.int .i64 M) ∧ (Instr.lookup 75 (.map (some b.t)) (.agg #[.int .i64 S, .int .i64 C]) false).run Try.prog w' = .ok (.int .i64 X0) w') W3.drew := ⟨by rw [cell_of_row _ _ _ _ _ _ (show W3.drew.heap[_]? = _ from HL4.out.til.blk)]; rfl, by rw [cell_of_row _ _ _ _ _ _ (show W3.drew.heap[_]? = _ from HL4.out.note)]; rfl, by rw [cell_of_row _ _ _ _ _ _ (show W3.drew.heap[_]? = _ from HL4.out.note)]; rfl, by rw [cell_of_row _ _ _ _ _ _ (show W3.drew.heap[_]? = _ from HL4.out.note)]; rfl, hlook⟩
  refine laneT_start [0, 1, 2, 3, 4, 5, 6, 7, 8, 10, 11, 9, 12, 13, 14, 15] 15 rfl (by kernel_rfl) (S := (fun w' => w'.cell? ⟨g, 2, none⟩ = some (.map (some b.t)) ∧ w'.cell? ⟨kb, 1, none⟩ = some (.int .i64 S) ∧ w'.cell? ⟨kb, 2, none⟩ = some (.int .i64 C) ∧ w'.cell? ⟨kb, 4, none⟩ = some (.int .i64 M) ∧ (Instr.lookup 75 (.map (some b.t)) (.agg #[.int .i64 S, .int .i64 C]) false).run Try.prog w' = .ok (.int .i64 X0) w')) ?_
  iterate 13 (refine laneT_take1 (v := ?_) rfl (by kernel_rfl) (by kernel_rfl) (by rfl) ?_ (by exact hHeld) ?_; rotate_left; (focus (intro w hSw; obtain ⟨x0, x1, x2, x3, x4⟩ := hSw; go_simp; try (with_reducible rfl))); simp only [Act.put, List.setIfInBounds_toArray, List.set_cons_zero, List.set_cons_succ])
  try rw [hw0]
  obtain ⟨v0, n0, W4, W5, hr1, hr2, hk1, hl1, hst, hgr⟩ := HL4.out.til.drew.take hkc (by omega) (X0 + M)
  have hl1 : (Instr.lookup 75 (.map (some b.t)) (.agg #[.int .i64 S, .int .i64 C]) false).run Try.prog W4 = .ok (.int .i64 X0) W4 := by rw [HX0.out]; exact hl1
  refine laneT_alone rfl (by kernel_rfl) (by rfl) (fun KK hKK => ?_)
  refine wp_of_value (exec_mapEntry rfl rfl rfl hr1) ?_
  simp only [Act.put, List.setIfInBounds_toArray, List.set_cons_zero, List.set_cons_succ]
  have b0 : W4.heap[g]? = some (.cells #[.map (some b.c), .map (some b.r), .map (some b.t), .map (some b.n), vs] 78 (0, 0)) := (hk1 g (by obtain ⟨cc, h1⟩ := HL4.out.til.mt; exact emap_ne h1 HL4.out.til.blk)).trans HL4.out.til.blk
  have b1 : W4.heap[kb]? = some (.cells #[.int .u8 K, .int .i64 S, .int .i64 C, .int .i64 T, .int .i64 M, .int .u8 V] 31 (0, 0)) := (hk1 kb (by obtain ⟨cc, h1⟩ := HL4.out.til.mt; exact emap_ne h1 HL4.out.note)).trans HL4.out.note
  have hHeld2 : (fun w' => w'.cell? ⟨g, 2, none⟩ = some (.map (some b.t)) ∧ w'.cell? ⟨kb, 1, none⟩ = some (.int .i64 S) ∧ w'.cell? ⟨kb, 2, none⟩ = some (.int .i64 C) ∧ w'.cell? ⟨kb, 4, none⟩ = some (.int .i64 M) ∧ (Instr.lookup 75 (.map (some b.t)) (.agg #[.int .i64 S, .int .i64 C]) false).run Try.prog w' = .ok (.int .i64 X0) w') W4 := ⟨by rw [cell_of_row _ _ _ _ _ _ b0]; rfl, by rw [cell_of_row _ _ _ _ _ _ b1]; rfl, by rw [cell_of_row _ _ _ _ _ _ b1]; rfl, by rw [cell_of_row _ _ _ _ _ _ b1]; rfl, hl1⟩
  refine hKK _ _ (fun _ => hHeld2) ?_
  clear hKK KK
  refine laneT_alone rfl (by kernel_rfl) (by rfl) (fun KK hKK => ?_)
  go_simp
  refine hKK _ _ (fun _ => hHeld2) ?_
  clear hKK KK
  refine laneT_alone rfl (by kernel_rfl) (by rfl) (fun KK hKK => ?_)
  refine wp_of_skip (exec_entryStore rfl rfl rfl rfl hr2) ?_
  have HL5 := Lib.hid (HL4.out.next hst (grown_drew hgr) HL4.out.til.foot.2.2.2.1)
  refine hKK _ _ (fun hne => absurd rfl hne) ?_
  clear hKK KK hr1 hr2 hk1 hl1 hst hgr hHeld hHeld2 hlook b0 b1
  refine laneT_end (by kernel_rfl) ?_
  go_wp2
  clear hw0
  obtain ⟨Y0, hY0⟩ : ∃ X0, X0 = (st.nt S).getD 0 := ⟨_, rfl⟩
  rw [← hY0] at hn
  have HY0 := Lib.hid hY0
  clear hY0
  have hw0 : IntKind.i64.wrap (Y0 + M) = Y0 + M := wrap64_of_wf hn
  have hlook : (Instr.lookup 76 (.map (some b.n)) (.int .i64 S) false).run Try.prog W5.drew = .ok (.int .i64 Y0) W5.drew := by
    obtain ⟨cc, h1⟩ := HL5.out.til.drew.mn
    have := h1.look mn_map (tz_i64 _) S hk.1
    rw [Til.fn_get] at this
    rw [HY0.out]
    exact this
  have hHeld : (fun w' => w'.cell? ⟨g, 3, none⟩ = some (.map (some b.n)) ∧ w'.cell? ⟨kb, 1, none⟩ = some (.int .i64 S) ∧ w'.cell? ⟨kb, 4, none⟩ = some (.int .i64 M) ∧ (Instr.lookup 76 (.map (some b.n)) (.int .i64 S) false).run Try.prog w' = .ok (.int .i64 Y0) w') W5.drew := ⟨by rw [cell_of_row _ _ _ _ _ _ (show W5.drew.heap[_]? = _ from HL5.out.til.blk)]; rfl, by rw [cell_of_row _ _ _ _ _ _ (show W5.drew.heap[_]? = _ from HL5.out.note)]; rfl, by rw [cell_of_row _ _ _ _ _ _ (show W5.drew.heap[_]? = _ from HL5.out.note)]; rfl, hlook⟩
  refine laneT_start [0, 1, 2, 3, 4, 5, 6, 7, 8, 9, 10] 10 rfl (by kernel_rfl) (S := (fun w' => w'.cell? ⟨g, 3, none⟩ = some (.map (some b.n)) ∧ w'.cell? ⟨kb, 1, none⟩ = some (.int .i64 S) ∧ w'.cell? ⟨kb, 4, none⟩ = some (.int .i64 M) ∧ (Instr.lookup 76 (.map (some b.n)) (.int .i64 S) false).run Try.prog w' = .ok (.int .i64 Y0) w')) ?_
  iterate 10 (refine laneT_take1 (v := ?_) rfl (by kernel_rfl) (by kernel_rfl) (by rfl) ?_ (by exact hHeld) ?_; rotate_left; (focus (intro w hSw; obtain ⟨x0, x1, x2, x3⟩ := hSw; go_simp; try (with_reducible rfl))); simp only [Act.put, List.setIfInBounds_toArray, List.set_cons_zero, List.set_cons_succ])
  try rw [hw0]
  refine laneT_alone rfl (by kernel_rfl) (by rfl) (fun KK hKK => ?_)
  obtain ⟨W6, hrun, hst, hgr⟩ := HL5.out.til.drew.sayn hk.1 (by omega) (Y0 + M)
  refine wp_of_skip (exec_mapUpdate rfl rfl rfl rfl hrun) ?_
  have HL6 := Lib.hid (HL5.out.next hst (grown_drew hgr) HL5.out.til.foot.2.2.2.2.1)
  refine hKK _ _ (fun hne => absurd rfl hne) ?_
  clear hKK KK hrun hst hgr hHeld hlook
  refine laneT_end (by kernel_rfl) ?_
  go_wp2
  obtain ⟨A, n0, c0, rfl⟩ : ∃ A n' c', vs = .slice A n' c' := by obtain ⟨A, c', e, _⟩ := own_form HL6.out.til.own; exact ⟨A, _, c', e⟩
  have hHeld : (fun w' => w'.cell? ⟨g, 4, none⟩ = some (.slice A n0 c0) ∧ w'.cell? ⟨kb, 1, none⟩ = some (.int .i64 S) ∧ w'.cell? ⟨kb, 2, none⟩ = some (.int .i64 C) ∧ w'.cell? ⟨kb, 3, none⟩ = some (.int .i64 T) ∧ w'.cell? ⟨kb, 4, none⟩ = some (.int .i64 M)) W6.drew := ⟨by rw [cell_of_row _ _ _ _ _ _ (show W6.drew.heap[_]? = _ from HL6.out.til.blk)]; rfl, by rw [cell_of_row _ _ _ _ _ _ (show W6.drew.heap[_]? = _ from HL6.out.note)]; rfl, by rw [cell_of_row _ _ _ _ _ _ (show W6.drew.heap[_]? = _ from HL6.out.note)]; rfl, by rw [cell_of_row _ _ _ _ _ _ (show W6.drew.heap[_]? = _ from HL6.out.note)]; rfl, by rw [cell_of_row _ _ _ _ _ _ (show W6.drew.heap[_]? = _ from HL6.out.note)]; rfl⟩
  refine laneT_start [0, 1, 2, 3, 4, 5, 6, 7, 8, 9, 10, 11, 12, 13, 14, 15, 16, 17, 18] 18 rfl (by kernel_rfl) (S := (fun w' => w'.cell? ⟨g, 4, none⟩ = some (.slice A n0 c0) ∧ w'.cell? ⟨kb, 1, none⟩ = some (.int .i64 S) ∧ w'.cell? ⟨kb, 2, none⟩ = some (.int .i64 C) ∧ w'.cell? ⟨kb, 3, none⟩ = some (.int .i64 T) ∧ w'.cell? ⟨kb, 4, none⟩ = some (.int .i64 M))) ?_
  iterate 14 (refine laneT_take1 (v := ?_) rfl (by kernel_rfl) (by kernel_rfl) (by rfl) ?_ (by exact hHeld) ?_; rotate_left; (focus (intro w hSw; obtain ⟨x0, x1, x2, x3, x4⟩ := hSw; go_simp; try (with_reducible rfl))); simp only [Act.put, List.setIfInBounds_toArray, List.set_cons_zero, List.set_cons_succ])
  refine laneT_alone rfl (by kernel_rfl) (by rfl) (fun KK hKK => ?_)
  go_simp
  refine hKK _ _ (fun _ => ⟨(World.cell?_of_block (alloc_block_old (Array.getElem?_eq_some_iff.1 HL6.out.til.blk).1)).trans hHeld.1, (World.cell?_of_block (alloc_block_old (Array.getElem?_eq_some_iff.1 HL6.out.note).1)).trans hHeld.2.1, (World.cell?_of_block (alloc_block_old (Array.getElem?_eq_some_iff.1 HL6.out.note).1)).trans hHeld.2.2.1, (World.cell?_of_block (alloc_block_old (Array.getElem?_eq_some_iff.1 HL6.out.note).1)).trans hHeld.2.2.2.1, (World.cell?_of_block (alloc_block_old (Array.getElem?_eq_some_iff.1 HL6.out.note).1)).trans hHeld.2.2.2.2⟩) ?_
  clear hKK KK
  refine laneT_alone rfl (by kernel_rfl) (by rfl) (fun KK hKK => ?_)
  obtain ⟨it, hit, hz0, hz1, hz2⟩ := info_parts ent_info
  have hm3 := HL6.out.til.len
  have hm4 : st.es.length ≤ m + 4 := by have : st.es.length ≤ _ := hm3; omega
  have hO3 : (W6.alloc (.cells #[.int .i64 S, .int .i64 C, .int .i64 T, .int .i64 M] 39)).drew.ownsRow 0 39 4 (.slice A n0 c0) st.es.length (ecl st.es) := own_kept HL6.out.til.own fun j hj => alloc_block_old (HL6.out.til.own.lt j hj).2
  obtain ⟨v', W7, hrun4, hown4, hgr4, _, hat4⟩ := run_append_own_at (P := Try.prog) (w := (W6.alloc (.cells #[.int .i64 S, .int .i64 C, .int .i64 T, .int .i64 M] 39)).drew) 0 26 26 39 it _ 4 32 Try.underlying26 hit hz0 hz1 hz2 rfl (by decide) (.slice A n0 c0) st.es.length (ecl st.es) hO3 ⟨W6.heap.size, 0, none⟩ 1 1 (ecl [⟨S, C, T, M⟩]) rfl (fun j u hu => by rw [ad_head, cell_of_row (w := (W6.alloc (.cells #[.int .i64 S, .int .i64 C, .int .i64 T, .int .i64 M] 39)).drew) _ _ _ _ (0, 0) alloc_block]; simpa [ecl] using hu) (ecl_one _) (by unfold maxLen; omega) (by omega) (Nat.zero_le _)
  refine wp_of_value (exec_append rfl rfl rfl hrun4) ?_
  have hkeep : ∀ j o, W6.heap[j]? = some o → (Value.slice A n0 c0).ownBlock ≠ some j → W7.heap[j]? = some o := fun j o hj hne => by
    have hlt : j < W6.heap.size := (Array.getElem?_eq_some_iff.1 hj).1
    exact (hgr4.block j (by show j < (W6.alloc _).heap.size; rw [World.size_alloc]; exact Nat.lt_succ_of_lt hlt) fun e => hne e.symm).trans ((alloc_block_old hlt).trans hj)
  have hg4 := hkeep g _ HL6.out.til.blk (own_ne HL6.out.til.own HL6.out.til.blk (by decide))
  have hk4 := hkeep _ _ HL6.out.note (fun e => by have := HL6.out.flt _ (HL6.out.til.foot.2.2.2.2.2 _ e); have := HL6.out.new; omega)
  have HG4 := Lib.hid hg4
  have HMc := Lib.hid (map_carry (n' := m + 4) HL6.out.til.mc HL6.out.til.own hkeep (by omega))
  have HMr := Lib.hid (map_carry (n' := m + 4) HL6.out.til.mr HL6.out.til.own hkeep (by omega))
  have HMt := Lib.hid (map_carry (n' := m + 4) HL6.out.til.mt HL6.out.til.own hkeep (by omega))
  have HMn := Lib.hid (map_carry (n' := m + 4) HL6.out.til.mn HL6.out.til.own hkeep (by omega))
  have HT4 : Hid (Turn F w W7) := (HL6.out.turn.trans (F' := F) (Turn.of_below (Below.drew ((Below.refl _ _).alloc (Nat.le_refl _) _))) (fun _ h => .inl h)).trans (F' := F) (Turn.grown hgr4 fun j hj => HL6.out.til.foot.2.2.2.2.2 j hj) (fun _ h => .inl h)
  have HO4 := Lib.hid hown4
  have HAT : Hid (∀ j, v'.ownBlock = some j → F j ∨ (w.heap.size ≤ j ∧ j < W7.heap.size)) := fun j hj => by
    have hl := (hown4.lt j hj).2
    rcases hat4 with e | e
    · exact .inl (HL6.out.til.foot.2.2.2.2.2 j (e ▸ hj))
    · rw [e] at hj; injection hj with hj
      have h2s : w.heap.size ≤ (W6.alloc (.cells #[.int .i64 S, .int .i64 C, .int .i64 T, .int .i64 M] 39)).heap.size := by rw [World.size_alloc]; have := HL6.out.turn.size; omega
      exact .inr ⟨by subst hj; exact h2s, hl⟩
  obtain ⟨A', c'', rfl, _, _⟩ := own_form hown4
  have hHeld4 : (fun w' => w'.cell? ⟨g, 4, none⟩ = some (.slice A n0 c0) ∧ w'.cell? ⟨kb, 1, none⟩ = some (.int .i64 S) ∧ w'.cell? ⟨kb, 2, none⟩ = some (.int .i64 C) ∧ w'.cell? ⟨kb, 3, none⟩ = some (.int .i64 T) ∧ w'.cell? ⟨kb, 4, none⟩ = some (.int .i64 M)) W7 := ⟨by rw [cell_of_row _ _ _ _ _ _ hg4]; rfl, by rw [cell_of_row _ _ _ _ _ _ hk4]; rfl, by rw [cell_of_row _ _ _ _ _ _ hk4]; rfl, by rw [cell_of_row _ _ _ _ _ _ hk4]; rfl, by rw [cell_of_row _ _ _ _ _ _ hk4]; rfl⟩
  have c0x : W7.cell? ⟨g, 4, none⟩ = some (.slice A n0 c0) := by rw [cell_of_row _ _ _ _ _ _ hg4]; rfl
  refine hKK _ _ (fun _ => hHeld4) ?_
  clear hKK KK hown4 hgr4 hat4 hrun4 hkeep hO3 hk4
  simp only [Act.put, List.setIfInBounds_toArray, List.set_cons_zero, List.set_cons_succ]
  refine laneT_alone rfl (by kernel_rfl) (by rfl) (fun KK hKK => ?_)
  go_simp
  refine hKK _ _ (fun _ => hHeld4) ?_
  clear hKK KK
  refine laneT_alone rfl (by kernel_rfl) (by rfl) (fun KK hKK => ?_)
  go_simp
  refine hKK _ _ (fun _ => hHeld4) ?_
  clear hKK KK
  refine laneT_alone rfl (by kernel_rfl) (by rfl) (fun KK hKK => ?_)
  refine wp_of_skip (exec_store_one rfl rfl rfl eslice_info rfl c0x (by rw [World.frozen?, hg4]; rfl)) ?_
  refine hKK _ _ (fun hne => absurd rfl hne) ?_
  clear hKK KK
  refine laneT_end (by kernel_rfl) ?_
  have hset : W7.setCell ⟨g, 4, none⟩ (.slice A' (st.es.length + 1) c'') = boxed W7 g #[.map (some b.c), .map (some b.r), .map (some b.t), .map (some b.n), .slice A' (st.es.length + 1) c''] 78 := by
    conv => lhs; rw [boxed_self hg4]
    rw [boxed_set]; rfl
  change Exit.then _ _ Exit.normal _ (W7.setCell ⟨g, 4, none⟩ (.slice A' (st.es.length + 1) c''))
  rw [hset]
  clear hset c0x hHeld hHeld4
  go_wp2
  go_ret
  have hg4l : g < W7.heap.size := (Array.getElem?_eq_some_iff.1 HG4.out).1
  have hne := own_ne HO4.out HG4.out (by decide)
  have ht : Turn F w (boxed W7 g #[.map (some b.c), .map (some b.r), .map (some b.t), .map (some b.n), .slice A' (st.es.length + 1) c''] 78) := HT4.out.trans (F' := F) (⟨rfl, rfl, rfl, by rw [boxed_size]; exact Nat.le_refl _, fun i _ hn => boxed_block_other fun e => hn (by rw [e]; exact HL6.out.til.foot.1)⟩) fun _ h => .inl h
  rw [← HX0.out, ← HY0.out]
  refine ⟨rfl, ⟨b, _, boxed_at hg4l, ?_, ?_, ?_, ?_, HL6.out.til.ne, ?_, ⟨.inl HL6.out.til.foot.1, .inl HL6.out.til.foot.2.1, .inl HL6.out.til.foot.2.2.1, .inl HL6.out.til.foot.2.2.2.1, .inl HL6.out.til.foot.2.2.2.2.1, fun i hi => ?_⟩, fun i hi => ?_, by have : st.es.length ≤ m := HL2.out.til.len; simp; omega⟩, ht⟩
  · obtain ⟨cc, h1⟩ := HMc.out
    exact ⟨cc, h1.kept (boxed_block_other (Ne.symm (emap_ne h1 HG4.out)))⟩
  · obtain ⟨cc, h1⟩ := HMr.out
    exact ⟨cc, h1.kept (boxed_block_other (Ne.symm (emap_ne h1 HG4.out)))⟩
  · obtain ⟨cc, h1⟩ := HMt.out
    exact ⟨cc, h1.kept (boxed_block_other (Ne.symm (emap_ne h1 HG4.out)))⟩
  · obtain ⟨cc, h1⟩ := HMn.out
    exact ⟨cc, h1.kept (boxed_block_other (Ne.symm (emap_ne h1 HG4.out)))⟩
  · have := own_kept (w' := boxed W7 g #[.map (some b.c), .map (some b.r), .map (some b.t), .map (some b.n), .slice A' (st.es.length + 1) c''] 78) HO4.out fun i hi => boxed_block_other fun e => hne (by rw [hi, e])
    rw [← ecl_append] at this
    simpa using this
  · rcases HAT.out i hi with h' | h'
    · exact .inl h'
    · exact .inr (by rw [boxed_size]; exact h')
  · rw [boxed_size]
    rcases hi with h' | h'
    · have := HL6.out.flt i h'; have := HT4.out.size; omega
    · have := h'.2; rwa [boxed_size] at this
/-- A charge, and what the till makes of the bank's word (x). -/
def Til.charge (st : Til) (S C T M x : Int) : Til := match st.ch (S, C, T) with
  | some _ => st
  | none => if x = 1 then ⟨fun j => if j = (S, C, T) then some 1 else st.ch j, st.rf, fun j => if j = (S, C) then some ((st.tk (S, C)).getD 0 + M) else st.tk j, fun j => if j = S then some ((st.nt S).getD 0 + M) else st.nt j, st.es ++ [⟨S, C, T, M⟩]⟩
    else ⟨fun j => if j = (S, C, T) then some x else st.ch j, st.rf, st.tk, st.nt, st.es⟩
def Til.chargeA (st : Til) (S C T x : Int) : Int := (st.ch (S, C, T)).getD x
/-- Sums that a charge of M keeps small. -/
def Til.room (st : Til) (S C M : Int) : Prop := (Lit.int .i64 ((st.tk (S, C)).getD 0 + M)).wf = true ∧ (Lit.int .i64 ((st.nt S).getD 0 + M)).wf = true
theorem charge_any (w : World) (F : Nat → Prop) (g : Nat) (st : Til) (m : Nat) (K S C T M V v : Int) (h : TilB g st m w F) (hk : ypok (S, C, T)) (hm : m + 4 ≤ 100000) (hr : Til.told T M v = 1 → st.room S C M) :
    Calls Try.prog 30 #[.pointer (some ⟨g, 0, none⟩), .agg #[.int .u8 K, .int .i64 S, .int .i64 C, .int .i64 T, .int .i64 M, .int .u8 V], .int .u8 v] w fun e w' => e = .returned (.int .u8 (st.chargeA S C T (Til.told T M v))) ∧ PostO w F (TilB g (st.charge S C T M (Til.told T M v)) (m + 4)) w' := by
  obtain ⟨b, vs, h⟩ := h
  cases hs : st.ch (S, C, T) with
  | none =>
    have e : st.chargeA S C T (Til.told T M v) = Til.told T M v := by unfold Til.chargeA; rw [hs]; rfl
    rw [e]
    by_cases hv : Til.told T M v = 1
    · have e2 : st.charge S C T M (Til.told T M v) = ⟨fun j => if j = (S, C, T) then some 1 else st.ch j, st.rf, fun j => if j = (S, C) then some ((st.tk (S, C)).getD 0 + M) else st.tk j, fun j => if j = S then some ((st.nt S).getD 0 + M) else st.nt j, st.es ++ [⟨S, C, T, M⟩]⟩ := by unfold Til.charge; rw [hs, if_pos hv]
      rw [e2]
      rw [hv]
      exact charge_yes w F g b vs st m K S C T M V v h hk hs hm hv (hr hv).1 (hr hv).2
    · have e2 : st.charge S C T M (Til.told T M v) = ⟨fun j => if j = (S, C, T) then some (Til.told T M v) else st.ch j, st.rf, st.tk, st.nt, st.es⟩ := by unfold Til.charge; rw [hs, if_neg hv]
      rw [e2]
      exact charge_no w F g b vs st m K S C T M V v h hk hs hm hv
  | some x =>
    have e : st.chargeA S C T (Til.told T M v) = x := by unfold Til.chargeA; rw [hs]; rfl
    have e2 : st.charge S C T M (Til.told T M v) = st := by unfold Til.charge; rw [hs]
    rw [e, e2]
    exact (charge_said w F g b vs st m K S C T M V v x h hk hs).mono fun e w' ⟨h1, h2⟩ => ⟨h1, ⟨b, vs, ((h.kept (fun i hi => h2.block i (h.lt i hi)) h2.size).wide (fun i hi => .inl hi) fun i hi => hi.elim (fun k => Nat.lt_of_lt_of_le (h.lt i k) h2.size) (·.2)).mono (by omega)⟩, Turn.of_below h2⟩
end Go.Proofs.Ytcjhgckkbekhoaa
