/-
  Contracts of the document's own plates: writes that become safe; flushed, and fallen. No conditions but the sizes.
-/
import Derived.Test.YtlbodpffkdfllaaRfAct
namespace Go.Proofs.Ytlbodpffkdfllaa
open Go.ChangeShapes Go.WideShapes Go.ChangeAt Go.RowKit
open Rf (sl ys rv)

/-- The blocks of what has become safe. -/
def bkeep (bs : List Nat) (ps : List (Int × Nat)) : List Nat := ps.foldl (fun s p => s.set p.1.toNat p.2) bs
theorem bkeep_length (bs : List Nat) (ps : List (Int × Nat)) : (bkeep bs ps).length = bs.length := by
  unfold bkeep
  induction ps generalizing bs with
  | nil => rfl
  | cons p t ih => rw [List.foldl_cons, ih, List.length_set]
theorem bkeep_succ {bs : List Nat} {ps : List (Int × Nat)} {j : Nat} {p : Int × Nat} (h : ps[j]? = some p) : bkeep bs (ps.take (j + 1)) = (bkeep bs (ps.take j)).set p.1.toNat p.2 := by
  obtain ⟨hl, rfl⟩ := List.getElem?_eq_some_iff.1 h
  rw [List.take_succ_eq_append_getElem hl]
  unfold bkeep; rw [List.foldl_append]; rfl
theorem keep_succ {safe : List (List Int)} {l : List (Int × List Int)} {j : Nat} (hj : j < l.length) : Pl.keep safe (l.take (j + 1)) = (Pl.keep safe (l.take j)).set l[j].1.toNat l[j].2 := by
  rw [List.take_succ_eq_append_getElem hj, Pl.keep_snoc]
/-- Which sectors lie in which blocks, as far as they are safe. -/
theorem bkeep_safe {w : World} {G : Nat → Prop} {v1 v2 : Value} {r : Rf.R} {bs : List Nat} {ps : List (Int × Nat)} (h : Rf.M w G v1 v2 r bs ps) : ∀ (n : Nat), n ≤ r.wet.length → ∀ (j : Nat) b l, (bkeep bs (ps.take n))[j]? = some b → (Pl.keep r.safe (r.wet.take n))[j]? = some l → G b ∧ w.heap[b]? = some (.cells (arr l) 5 (0, 0))
  | 0, _, j, b, l, hb, hl => h.safe j b l (by simpa [bkeep] using hb) (by simpa [Pl.keep] using hl)
  | n + 1, hn, j, b, l, hb, hl => by
    have hn' : n < r.wet.length := hn
    have hp : n < ps.length := by rw [h.len2]; exact hn'
    have hw := h.wet n ps[n] _ (List.getElem?_eq_getElem hp) (List.getElem?_eq_getElem hn')
    rw [bkeep_succ (List.getElem?_eq_getElem hp), hw.1] at hb
    rw [keep_succ hn'] at hl
    have hlen : (bkeep bs (ps.take n)).length = (Pl.keep r.safe (r.wet.take n)).length := by rw [bkeep_length, Pl.keep_length, h.len1]
    by_cases e : r.wet[n].1.toNat = j
    · subst e
      have h1 : r.wet[n].1.toNat < (bkeep bs (ps.take n)).length := by
        have := (List.getElem?_eq_some_iff.1 hb).1
        simpa using this
      rw [List.getElem?_set_self h1] at hb
      rw [List.getElem?_set_self (by rw [← hlen]; exact h1)] at hl
      injection hb with hb
      injection hl with hl
      subst hb hl
      exact hw.2
    · rw [List.getElem?_set_ne e] at hb hl
      exact bkeep_safe h n (by omega) j b l hb hl

section
variable {P : Program} {w : World} {t e ty : TypeId} {i : TypeInfo} {z : Value} {size bytes n : Nat} {v : Value} {xs : List Value}
/-- 'append(nil, row...)': a row of the call's own. -/
theorem run_append_copy (ht : P.underlying t = some (.slice e)) (hi : P.info? e = some i) (hz : i.zero = some z) (hsize : i.size = size) (hby : i.bytes = bytes) (hzs : z.cells.size = size) (hsz : 0 < size) (hb : bytes ≤ 1000)
    (h : w.ownsRow 0 e size v n xs) (h1 : ∀ u ∈ xs, u.oneCell' = true) (hn : n ≤ 1000) :
    ∃ v' w', (Builtin.append_ #[t, t] ty #[.slice none 0 0, v]).run P w = .ok v' w' ∧ w'.ownsRow w.heap.size e size v' n xs ∧ Below w.heap.size w w' := by
  rcases h.2 with ⟨rfl, rfl⟩ | ⟨q, cap, cur, rfl, _⟩
  · have hx : xs = [] := List.eq_nil_of_length_eq_zero (by have := h.1; simpa using this)
    subst hx
    refine ⟨.slice none 0 0, w, ?_, World.ownsRow_nil _ _ _ _, Below.refl _ _⟩
    simp [Builtin.append_, run_underlying ht, sizeOf, typeInfo, hi, Builtin.lenOf, Builtin.firstCells]
  · obtain ⟨v', w', hrun, h2, h3, _, _⟩ := run_append_own_at (P := P) (w := w) w.heap.size t ty e i z size bytes ht hi hz hsize hby hzs hsz (.slice none 0 0) 0 [] (World.ownsRow_nil _ _ _ _) ⟨q, 0, none⟩ n cap xs h.1 (fun j u hu => h.cells (g := q) rfl j u hu) h1 (by unfold maxLen; omega) (by
        have : (0 + n) * bytes ≤ 1000 * 1000 := Nat.mul_le_mul (by omega) hb
        omega) (Nat.le_refl _)
    rw [Nat.zero_add, List.nil_append] at h2
    exact ⟨v', w', hrun, h2, ⟨h3.os, h3.tape, h3.output, h3.size, fun i hi => h3.block i hi (by simp [Value.ownBlock])⟩⟩
theorem wpList_append_copy {ops : Array Oper} {rest : List Oper} {o : Oper} {a : Act} {Q : Exit → Act → World → Prop} (hgd : o.guard = none) (s x : Operand) (t : TypeId) (ho : o.op = .call { callee := .builtin .append, args := #[s, x], argTypes := #[t, t] })
    (e : TypeId) (i : TypeInfo) (z : Value) (size bytes : Nat) (ht : P.underlying t = some (.slice e)) (hi : P.info? e = some i) (hz : i.zero = some z) (hsize : i.size = size) (hby : i.bytes = bytes) (hzs : z.cells.size = size) (hsz : 0 < size) (hb : bytes ≤ 1000)
    (n : Nat) (v : Value) (xs : List Value) (hs : a.eval s = .slice none 0 0) (hx : a.eval x = v) (h : w.ownsRow 0 e size v n xs) (h1 : ∀ u ∈ xs, u.oneCell' = true) (hn : n ≤ 1000)
    (hK : ∀ v' w', w'.ownsRow w.heap.size e size v' n xs → Below w.heap.size w w' → wpList P ops Q rest (a.put o.dst v') w') : wpList P ops Q (o :: rest) a w := by
  refine wpList_plain hgd fun K hK' => ?_
  obtain ⟨v', w', hrun, h2, h3⟩ := run_append_copy (ty := o.type) ht hi hz hsize hby hzs hsz hb h h1 hn
  unfold Oper.wp execOp
  simp only [ho, resolve, invoke, builtin, Sem.run_bind, Sem.run_pure, Result.andThen_ok, List.map_toArray, List.map_cons, List.map_nil, hs, hx, hrun]
  exact hK' _ _ (hK v' w' h2 h3)
end

theorem grown_trans {a b w : World} {row : Option Nat} (h : a.grownBy b row) (k : b.grownBy w row) : a.grownBy w row :=
  ⟨k.os.trans h.os, k.tape.trans h.tape, k.output.trans h.output, Nat.le_trans h.size k.size, fun i hi hne => (k.block i (Nat.lt_of_lt_of_le hi h.size) hne).trans (h.block i hi hne)⟩
theorem grown_below_own' {a w : World} {row : Option Nat} (h : a.grownBy w row) {b : Nat} (hr : ∀ i, row = some i → b ≤ i) (hs : b ≤ a.heap.size) : Below b a w :=
  ⟨h.os, h.tape, h.output, h.size, fun i hi => h.block i (by omega) fun e => by have := hr i e.symm; omega⟩
/-- A cell of a row of the call's own. -/
theorem own_cell {w : World} {base n : Nat} {e : TypeId} {v : Value} {xs : List Value} (h : w.ownsRow base e 1 v n xs) {j : Nat} (hx : j < xs.length) (hj : j < n) :
    ∃ q cap cur, v = .slice (some ⟨q, 0, none⟩) n cap ∧ n ≤ cap ∧ base ≤ q ∧ q < w.heap.size ∧ w.heap[q]? = some (.cells cur e (0, 0)) ∧ w.cell? ⟨q, j, none⟩ = some xs[j] := by
  rcases h.2 with ⟨_, hz⟩ | ⟨q, cap, cur, rfl, hb, hg, hc, _⟩
  · omega
  · refine ⟨q, cap, cur, rfl, hc, hb, (Array.getElem?_eq_some_iff.1 hg).1, hg, ?_⟩
    have := h.cells (g := q) rfl j xs[j] (List.getElem?_eq_getElem hx)
    rwa [ad_head] at this
/-- A store of one cell. -/
theorem exec_store_one {P : Program} {o : Oper} {a : Act} {w : World} {ty : TypeId} {x y : Operand} {b p : Nat} {v u : Value} (ho : o.op = .store ty x y) (hx : a.eval x = .pointer (some ⟨b, p, none⟩)) (hy : a.eval y = v) (hs : (P.info? ty).map (·.size) = some 1) (h1 : v.oneCell' = true)
    (hc : w.cell? ⟨b, p, none⟩ = some u) (hf : w.frozen? ⟨b, p, none⟩ = false) : (execOp a.eval o).run P w = .ok .skip (w.setCell ⟨b, p, none⟩ v) := by
  have hst := run_storeCells_cells (P := P) b p [v] 0 w (fun j hj => by
    obtain rfl : j = 0 := by simpa using hj
    show (w.cell? ⟨b, p, none⟩).isSome = true; rw [hc]; rfl) (fun j hj => by
    obtain rfl : j = 0 := by simpa using hj
    exact hf) (fun z hz => by rw [List.mem_singleton] at hz; rw [hz]; exact h1)
  have hv : v.cells = #[v] := by cases v <;> first | rfl | cases h1
  cases hq : P.info? ty with
  | none => simp [hq] at hs
  | some i =>
    have hi : i.size = 1 := by simpa [hq] using hs
    have hrun : (storeVar ty ⟨b, p, none⟩ v).run P w = .ok () (w.setCell ⟨b, p, none⟩ v) := by
      simp [storeVar, sizeOf, typeInfo, hq, hv, hi, hst]
      rfl
    unfold execOp
    simp only [ho, hx, hy, Instr.storeAt, Instr.sureAddr, Sem.run_bind, Sem.run_pure, Result.andThen_ok, hrun]
/-- A plate of the document's own is handed back. -/
def RPost (w : World) (G : Nat → Prop) (r : Rf.R) (e : Ending) (w' : World) : Prop := ∃ v1 v2 bs ps, e = .returned (rv v1 v2 r) ∧ Rf.M w' (grow G w w') v1 v2 r bs ps ∧ Below w.heap.size w w'

theorem keep_fin {w wr : World} {G : Nat → Prop} {v1 v2 v3 : Value} {r : Rf.R} {bs : List Nat} {ps : List (Int × Nat)} {N : Nat} {C C' : Array Value} (h : Rf.M w G v1 v2 r bs ps) (ho : wr.ownsRow w.heap.size 31 1 v3 r.safe.length ((bkeep bs (ps.take N)).map sl))
    (hx : wr.heap[w.heap.size]? = some (.cells C 29 (0, 0))) (hy : wr.heap[w.heap.size + 1]? = some (.cells C' 29 (0, 0))) (hb : Below w.heap.size w wr) (hN : N ≤ r.wet.length) (C1 C2 : Array Value) :
    Rf.M (boxed (boxed wr w.heap.size C1 29) (w.heap.size + 1) C2 29) (grow G w (boxed (boxed wr w.heap.size C1 29) (w.heap.size + 1) C2 29)) v3 (.slice none 0 0) (r.keep N) (bkeep bs (ps.take N)) [] ∧
      Below w.heap.size w (boxed (boxed wr w.heap.size C1 29) (w.heap.size + 1) C2 29) := by
  have hz : w.heap.size + 1 < wr.heap.size := (Array.getElem?_eq_some_iff.1 hy).1
  have hbb : Below w.heap.size w (boxed (boxed wr w.heap.size C1 29) (w.heap.size + 1) C2 29) := boxed_below (boxed_below hb (Nat.le_refl _)) (Nat.le_succ _)
  have hs : (boxed (boxed wr w.heap.size C1 29) (w.heap.size + 1) C2 29).heap.size = wr.heap.size := by rw [boxed_size, boxed_size]
  have hlen : (r.keep N).safe.length = r.safe.length := Pl.keep_length _ _
  have hn1 : v3.ownBlock ≠ some w.heap.size := own_ne ho hx (by decide)
  have hn2 : v3.ownBlock ≠ some (w.heap.size + 1) := own_ne ho hy (by decide)
  refine ⟨⟨?_, World.ownsRow_nil _ _ _ _, fun i hi => .inr ?_, fun i hi => by simp [Value.ownBlock] at hi, fun j b l h1 h2 => ?_, fun j p q h1 h2 => (by simp at h1), h.ok.keep N, fun i hi => ?_⟩, hbb⟩
  · rw [hlen]
    refine own_kept (own_lower ho (Nat.zero_le _)) fun i hi => ?_
    rw [boxed_block_other (fun e => hn2 (by rw [← e]; exact hi)), boxed_block_other (fun e => hn1 (by rw [← e]; exact hi))]
  · rw [hs]; exact ho.lt i hi
  · have hk := bkeep_safe h N hN j b l h1 h2
    exact ⟨.inl hk.1, (hbb.block b (h.lt b hk.1)).trans hk.2⟩
  · rcases hi with h' | h'
    · have := h.lt i h'; rw [hs]; omega
    · exact h'.2

set_option maxRecDepth 20000 in
set_option maxHeartbeats 3200000 in
theorem refKeep_any (w : World) (G : Nat → Prop) (v1 v2 : Value) (r : Rf.R) (bs : List Nat) (ps : List (Int × Nat)) (n : Int) (h : Rf.M w G v1 v2 r bs ps) :
    Calls Try.prog 30 #[rv v1 v2 r, .int .i64 n] w (RPost w G (r.keep (min (max n 0) r.wet.length).toNat)) := by
  obtain ⟨A, c, rfl, hc, _⟩ := own_form h.own1
  obtain ⟨A2, c2, rfl, hc2, _⟩ := own_form h.own2
  have hsz := h.ok.size
  have H := Lib.hid h
  obtain ⟨it, hit, hz0, hz1, hz2⟩ := info_parts info31
  have ho1 : ∀ (o o' : Obj), ((w.alloc o).alloc o').ownsRow 0 31 1 (.slice A r.safe.length c) r.safe.length (bs.map sl) := fun o o' => own_kept h.own1 fun i hi => by
    have hl := (h.own1.lt i hi).2
    rw [alloc_block_old (by rw [World.size_alloc]; omega), alloc_block_old hl]
  have HO1 := Lib.hid ho1
  clear h ho1
  unfold rv
  go_enter Try.func30, Try.ntmps30
  go_wp2_with (at_builtin; refine wpList_append_copy rfl _ _ _ rfl _ it _ 1 24 Try.underlying26 hit hz0 hz1 hz2 rfl (by decide) (by decide) r.safe.length _ (bs.map sl) rfl rfl (HO1.out _ _) (Rf.sls_one _) hsz.1 ?_; intro v3 w3 ho3 hb3)
  have hbx : w3.heap[w.heap.size]? = some (.cells #[.slice A r.safe.length c, .slice A2 r.wet.length c2, .int .i64 r.left, .int .i64 r.spare, .bool r.off, .int .i64 r.acts] 29 (0, 0)) := below_block hb3 (by rw [alloc_block_old (by rw [World.size_alloc]; omega)]; exact alloc_block)
  have hby : w3.heap[w.heap.size + 1]? = some (.cells #[.slice none 0 0, .slice none 0 0, .int .i64 0, .int .i64 0, .bool false, .int .i64 0] 29 (0, 0)) := below_block hb3 (alloc_at (by rw [World.size_alloc]))
  have hbw : Below w.heap.size w w3 := (((Below.refl w.heap.size w).alloc (Nat.le_refl _) _).alloc (by rw [World.size_alloc]; omega) _).trans (hb3.mono (by rw [World.size_alloc, World.size_alloc]; omega))
  have ho3' : w3.ownsRow w.heap.size 31 1 v3 r.safe.length (bs.map sl) := own_lower ho3 (by rw [World.size_alloc, World.size_alloc]; omega)
  have HBX := Lib.hid hbx
  have HBY := Lib.hid hby
  have HBW := Lib.hid hbw
  have HO3 := Lib.hid ho3'
  clear hbx hby hbw ho3' ho3 hb3 HO1
  obtain ⟨N, hN⟩ : ∃ N : Nat, N = (min (max n 0) r.wet.length).toNat := ⟨_, rfl⟩
  have hN1 : N ≤ r.wet.length ∧ ((N : Int) ≤ max n 0) ∧ (N < r.wet.length → n ≤ N) := by omega
  have HNN := Lib.hid hN
  clear hN
  go_loopw [6] (fun t wr => ∃ j : Nat, j ≤ N ∧ t = .int .i64 j ∧ wr.ownsRow w.heap.size 31 1 v3 r.safe.length ((bkeep bs (ps.take j)).map sl) ∧ w3.grownBy wr v3.ownBlock) (fun t _ => N - (intOf t).toNat)
  case atStart => exact ⟨0, by omega, rfl, by rw [List.take_zero]; exact HO3.out, grown_refl _ _⟩
  case round =>
    obtain ⟨j, hj, rfl, ho, hg⟩ := hrel
    have hne : ∀ q cs, w3.heap[q]? = some (.cells cs 29 (0, 0)) → v3.ownBlock ≠ some q := fun q cs hq => own_ne HO3.out hq (by decide)
    have hbx : wr.heap[w.heap.size]? = some (.cells #[.slice A r.safe.length c, .slice A2 r.wet.length c2, .int .i64 r.left, .int .i64 r.spare, .bool r.off, .int .i64 r.acts] 29 (0, 0)) := (hg.block _ (Array.getElem?_eq_some_iff.1 HBX.out).1 fun e => hne _ _ HBX.out e.symm).trans HBX.out
    have hby : wr.heap[w.heap.size + 1]? = some (.cells #[.slice none 0 0, .slice none 0 0, .int .i64 0, .int .i64 0, .bool false, .int .i64 0] 29 (0, 0)) := (hg.block _ (Array.getElem?_eq_some_iff.1 HBY.out).1 fun e => hne _ _ HBY.out e.symm).trans HBY.out
    have hbw : Below w.heap.size w wr := HBW.out.trans (grown_below_own' hg (fun i hi => (HO3.out.lt i hi).1) HBW.out.size)
    have HO := Lib.hid ho
    have HG := Lib.hid hg
    have HX := Lib.hid hbx
    have HY := Lib.hid hby
    have HW := Lib.hid hbw
    have hx1 : wr.cell? ⟨w.heap.size, 1, none⟩ = some (.slice A2 r.wet.length c2) := by rw [cell_of_row _ _ _ _ _ _ hbx]; rfl
    clear ho hg hbx hby hbw hne
    by_cases hlt : j < N
    · have hjw : j < r.wet.length := by omega
      have hjn : (j : Int) < n := by omega
      have d1 : decide ((j : Int) < n) = true := by simpa using hjn
      have d2 : decide ((j : Int) < (r.wet.length : Int)) = true := by simp; omega
      obtain ⟨q2, c2', b2, hv2, _, hq2, k1, k2, hG2, hb2, hps⟩ := wet_cells H.out hjw
      injection hv2 with e1 _ e3
      subst e1 e3
      have hpw := H.out.ok.wet _ (List.getElem_mem hjw)
      have k1' : wr.cell? ⟨q2, j * 2, none⟩ = some (.int .i64 r.wet[j].1) := (World.cell?_of_block (HW.out.block q2 hq2)).trans k1
      have k2' : wr.cell? ⟨q2, j * 2 + 1, none⟩ = some (sl b2) := (World.cell?_of_block (HW.out.block q2 hq2)).trans k2
      clear k1 k2 hb2
      generalize r.wet[j] = p at *
      obtain ⟨at_, s⟩ := p
      obtain ⟨hp0, hp1, _⟩ := hpw
      obtain ⟨k, rfl⟩ : ∃ k : Nat, at_ = k := ⟨at_.toNat, by simp at hp0; omega⟩
      have hk : k < r.safe.length := by simp at hp1; omega
      have hbs := H.out.len1
      have HPS := Lib.hid hps
      obtain ⟨q3, cap3, cur, hv3, hcap, hq31, hq32, hheap, hcur⟩ := own_cell HO.out (j := k) (by rw [List.length_map, bkeep_length]; omega) (by omega)
      subst hv3
      have hfr : wr.frozen? ⟨q3, k, none⟩ = false := by unfold World.frozen?; rw [hheap]; simp
      have hst := HO.out.stored k (sl b2)
      have HST := Lib.hid hst
      clear hst hps hheap
      go_wp2
      have hq2b : q2 ≠ q3 := by omega
      have hxb : w.heap.size ≠ q3 := fun e => own_ne HO.out HX.out (by decide) (by rw [e]; rfl)
      refine lane_start (ord := [0, 1, 2, 3, 4, 5, 6, 7, 8, 9, 10, 11, 12, 13, 14]) (S := fun w' => w'.cell? ⟨w.heap.size, 1, none⟩ = some (.slice (some ⟨q2, 0, none⟩) r.wet.length c2) ∧ w'.cell? ⟨q2, j * 2, none⟩ = some (.int .i64 k) ∧ w'.cell? ⟨q2, j * 2 + 1, none⟩ = some (sl b2)) rfl (by kernel_rfl) ⟨hx1, k1', k2'⟩ (fun hHeld => ?_)
      iterate 14 (refine lane_take (v := ?_) rfl (by kernel_rfl) (by kernel_rfl) (by rfl) ?_ (by assumption) ?_; rotate_left; (focus (intro W hSw; obtain ⟨hS1, hS2, hS3⟩ := hSw; go_simp; try (with_reducible rfl))); simp only [Act.put, List.setIfInBounds_toArray, List.set_cons_zero, List.set_cons_succ])
      refine lane_alone rfl (by kernel_rfl) (by rfl) (fun K hK => ?_)
      refine wp_of_skip (exec_store_one (v := sl b2) rfl rfl rfl (by kernel_rfl) rfl (w := wr.drew) hcur hfr) ?_
      have hkp : ∀ x y, x ≠ q3 → (wr.drew.setCell ⟨q3, k, none⟩ (sl b2)).cell? ⟨x, y, none⟩ = wr.cell? ⟨x, y, none⟩ := fun x y hxy => World.cell?_setCell_other _ _ _ _ (fun e => hxy (by injection e with e _ _; exact e.symm))
      refine hK _ _ ⟨(hkp _ _ hxb).trans hx1, (hkp _ _ hq2b).trans k1', (hkp _ _ hq2b).trans k2'⟩ (fun _ => ?_)
      clear hK K hkp hHeld hx1 k1' k2' hcur hfr
      refine lane_end (by kernel_rfl) ?_
      have hbk := bkeep_succ (bs := bs) HPS.out
      have HBK := Lib.hid hbk
      clear hbk
      go_wp2
      go_roundw
      case rel => exact ⟨j + 1, by omega, by go_num, by rw [HBK.out, List.map_set]; exact HST.out.1, grown_trans HG.out (grown_drewN HST.out.2 1)⟩
      case measure => simp [intOf]; omega
    · obtain rfl : j = N := by omega
      have hw : wr = boxed (boxed wr w.heap.size #[.slice A r.safe.length c, .slice A2 r.wet.length c2, .int .i64 r.left, .int .i64 r.spare, .bool r.off, .int .i64 r.acts] 29) (w.heap.size + 1) #[.slice none 0 0, .slice none 0 0, .int .i64 0, .int .i64 0, .bool false, .int .i64 0] 29 := by rw [← boxed_self HX.out, ← boxed_self HY.out]
      have hzw : w.heap.size + 1 < wr.heap.size := (Array.getElem?_eq_some_iff.1 HY.out).1
      have HFIN : Hid (∀ C1 C2, Rf.M (boxed (boxed wr w.heap.size C1 29) (w.heap.size + 1) C2 29) (grow G w (boxed (boxed wr w.heap.size C1 29) (w.heap.size + 1) C2 29)) v3 (.slice none 0 0) (r.keep (min (max n 0) r.wet.length).toNat) (bkeep bs (ps.take j)) [] ∧
          Below w.heap.size w (boxed (boxed wr w.heap.size C1 29) (w.heap.size + 1) C2 29)) := by
        rw [← HNN.out]
        exact fun C1 C2 => keep_fin H.out HO.out HX.out HY.out HW.out hN1.1 C1 C2
      obtain ⟨A3, c3, hv3, _, _⟩ := own_form HO.out
      obtain ⟨w6, hw6, hz6, hfin⟩ : ∃ w6, wr = boxed (boxed w6 w.heap.size #[.slice A r.safe.length c, .slice A2 r.wet.length c2, .int .i64 r.left, .int .i64 r.spare, .bool r.off, .int .i64 r.acts] 29) (w.heap.size + 1) #[.slice none 0 0, .slice none 0 0, .int .i64 0, .int .i64 0, .bool false, .int .i64 0] 29 ∧ w.heap.size + 1 < w6.heap.size ∧ (∀ C1 C2, Rf.M (boxed (boxed w6 w.heap.size C1 29) (w.heap.size + 1) C2 29) (grow G w (boxed (boxed w6 w.heap.size C1 29) (w.heap.size + 1) C2 29)) v3 (.slice none 0 0) (r.keep (min (max n 0) r.wet.length).toNat) (bkeep bs (ps.take j)) [] ∧ Below w.heap.size w (boxed (boxed w6 w.heap.size C1 29) (w.heap.size + 1) C2 29)) := ⟨wr, hw, hzw, HFIN.out⟩
      clear HFIN
      have HFIN := Lib.hid hfin
      clear HO HG HX HY HW hx1 hw hzw hfin
      subst hw6 hv3
      have hz7 : w.heap.size < w6.heap.size := by omega
      have hne1 : w.heap.size ≠ w.heap.size + 1 := by omega
      by_cases hjn : (j : Int) < n
      · have d1 : decide ((j : Int) < n) = true := by simpa using hjn
        have d2 : decide ((j : Int) < (r.wet.length : Int)) = false := by simp; omega
        go_wp2
        exact bodyPost_ret (v := .agg #[.slice A3 r.safe.length c3, .slice none 0 0, .int .i64 r.left, .int .i64 r.spare, .bool r.off, .int .i64 r.acts]) (by simp [results, Try.results30, go_sem, *]) rfl ⟨_, _, _, _, rfl, HFIN.out _ _⟩
      · have d1 : decide ((j : Int) < n) = false := by simpa using hjn
        go_wp2
        exact bodyPost_ret (v := .agg #[.slice A3 r.safe.length c3, .slice none 0 0, .int .i64 r.left, .int .i64 r.spare, .bool r.off, .int .i64 r.acts]) (by simp [results, Try.results30, go_sem, *]) rfl ⟨_, _, _, _, rfl, HFIN.out _ _⟩
end Go.Proofs.Ytlbodpffkdfllaa
