/-
  Plans in memory; the first day of the next period: package account's 'begun'. No conditions but those that each law names.
-/
import Derived.Test.YtcgglphphdpplaaAvEach
import Derived.Laws.ResultCell
namespace Go.Proofs.Ytcgglphphdpplaa
set_option maxRecDepth 20000
open Go.ChangeShapes Go.WideShapes Go.ChangeAt Go.RowKit

def Pv.arr (p : Pv) : Array Value := #[.int .i64 p.a, .int .u8 p.u, .int .i64 p.e, .int .i64 p.t, .bool p.g, .bool p.l]
theorem Pv.arr_size (p : Pv) : p.arr.size = 6 := rfl
theorem Pv.arr_one (p : Pv) : p.arr.all (·.oneCell') = true := by simp [Pv.arr, Value.oneCell']
theorem info6p : (Try.prog.info? 26).map (·.size) = some 6 := by kernel_rfl
theorem Pv.at0 (p : Pv) : p.arr[0]? = some (.int .i64 p.a) := rfl
theorem Pv.at1 (p : Pv) : p.arr[1]? = some (.int .u8 p.u) := rfl
theorem Pv.at2 (p : Pv) : p.arr[2]? = some (.int .i64 p.e) := rfl
theorem Pv.at3 (p : Pv) : p.arr[3]? = some (.int .i64 p.t) := rfl
theorem Pv.at4 (p : Pv) : p.arr[4]? = some (.bool p.g) := rfl
theorem Pv.at5 (p : Pv) : p.arr[5]? = some (.bool p.l) := rfl
theorem Pv.set0 (p : Pv) (x : Int) : p.arr.setIfInBounds 0 (.int .i64 x) = ({ p with a := x } : Pv).arr := rfl
theorem Pv.set1 (p : Pv) (x : Int) : p.arr.setIfInBounds 1 (.int .u8 x) = ({ p with u := x } : Pv).arr := rfl
theorem Pv.set2 (p : Pv) (x : Int) : p.arr.setIfInBounds 2 (.int .i64 x) = ({ p with e := x } : Pv).arr := rfl
theorem Pv.set3 (p : Pv) (x : Int) : p.arr.setIfInBounds 3 (.int .i64 x) = ({ p with t := x } : Pv).arr := rfl
theorem Pv.set4 (p : Pv) (x : Bool) : p.arr.setIfInBounds 4 (.bool x) = ({ p with g := x } : Pv).arr := rfl
theorem Pv.set5 (p : Pv) (x : Bool) : p.arr.setIfInBounds 5 (.bool x) = ({ p with l := x } : Pv).arr := rfl
attribute [simp, go_sem] Pv.arr_size Pv.at0 Pv.set0 Pv.at1 Pv.set1 Pv.at2 Pv.set2 Pv.at3 Pv.set3 Pv.at4 Pv.set4 Pv.at5 Pv.set5
theorem run_loadAt_row {P : Program} (w : World) (g : Nat) (t ty : TypeId) (cs : Array Value) (fr : Nat × Nat) (d : TypeDesc) (hg : w.heap[g]? = some (.cells cs t fr))
    (hu : P.underlying ty = some d) (hd : (match d with | .struct _ | .array _ _ => true | _ => false) = true) (hi : (P.info? ty).map (·.size) = some cs.size) : (Instr.loadAt ty (.pointer (some ⟨g, 0, none⟩))).run P w = .ok (.agg cs) w := by
  simp only [Instr.loadAt, Instr.sureAddr, Sem.run_bind, Sem.run_pure, Result.andThen_ok, run_loadVar_row w g t ty cs fr d hg hu hd hi]
/-- A result in a block, and one in a slot. -/
theorem results_row_tmp {P : Program} {fn : Func} {p u : Tmp} {ty : TypeId} (h : fn.results = #[.cell p ty, .tmp u]) (tmps : Array Value) (w : World) (g : Nat) (t : TypeId) (cs : Array Value) (fr : Nat × Nat) (d : TypeDesc)
    (hp : tmps.getD p undef = .pointer (some ⟨g, 0, none⟩)) (hg : w.heap[g]? = some (.cells cs t fr)) (hu : P.underlying ty = some d) (hd : (match d with | .struct _ | .array _ _ => true | _ => false) = true) (hi : (P.info? ty).map (·.size) = some cs.size) :
    (results fn tmps).run P w = .ok (.tuple #[.agg cs, tmps.getD u undef]) w := by
  rw [results_cell_tmp h, hp]
  simp [asAddr, run_loadVar_row w g t ty cs fr d hg hu hd hi]
/-- When the next period begins, if it has. -/
def Begun (a : Av) (N : Int → Int) (c : Int) (w : World) (e : Ending) (w' : World) : Prop := (∃ x, e = .returned (.tuple #[.int .i64 x, .bool (decide (a.ix < c))]) ∧ (a.ix < c → x = N a.ix)) ∧ Below w.heap.size w w'
set_option maxHeartbeats 1000000 in
theorem begun_any {w : World} {v : Value} {a : Av} {p : Pv} {y c k d : Int} (hAt : Cal.At a.an k d) (hU : 0 ≤ p.u ∧ p.u ≤ 3) (hE : 1 ≤ p.e ∧ p.e ≤ 1000) (hix : 0 ≤ a.ix ∧ a.ix ≤ 3652058) (hc : Cal.Cnt p.u a.an k d p.e y c) :
    Calls Try.prog 35 #[.agg (a.arr v), .agg p.arr, .int .i64 y] w (Begun a (Cal.vN p.u a.an k d p.e) c w) := by
  have HAT := Lib.hid hAt
  have HC := Lib.hid hc
  obtain ⟨hu0, hu1⟩ := hU
  obtain ⟨he0, he1⟩ := hE
  obtain ⟨hi0, hi1⟩ := hix
  clear hAt hc
  cases ho : Cal.okN p.u a.an k p.e a.ix
  · have hd : decide (a.ix < c) = false := by
      have : ¬ a.ix < c := fun h => by have := (HC.out.all a.ix hi0 h).1; rw [ho] at this; cases this
      simpa using this
    have HD := Lib.hid hd
    have HO := Lib.hid ho
    clear hd ho
    go_enter Try.func35, Try.ntmps35
    go_wp2_with (fail)
    refine (nth_long _ _ _ _ _ _ _ HAT.out hu0 hu1 he0 he1 hi0 hi1 HO.out).mono ?_
    rintro e w1 ⟨rfl, hb⟩
    have HB := Lib.hid (((Below.refl _ w).alloc (Nat.le_refl _) (.cells (a.arr v) 33)).alloc (by simp) (.cells p.arr 26) |>.trans (hb.mono (by simp; omega)))
    clear hb
    go_wp2
    go_ret2
    exact ⟨⟨0, by rw [HD.out]; rfl, fun h => by have := HD.out; simp at this; omega⟩, HB.out⟩
  · obtain ⟨x, hx⟩ : ∃ x, Cal.vN p.u a.an k d p.e a.ix = x := ⟨_, rfl⟩
    have hd : decide (x ≤ y) = decide (a.ix < c) := by
      rw [decide_eq_decide]
      constructor
      · intro h
        by_cases h2 : a.ix < c
        · exact h2
        · exfalso
          have h3 : a.ix = c ∨ c < a.ix := by omega
          rcases h3 with h3 | h3
          · have := HC.out.out (by rw [← h3]; exact ho); rw [← h3, hx] at this; omega
          · have h5 := Cal.okN_le (u := p.u) he0 (show c ≤ a.ix by omega) ho
            have := HC.out.out h5
            have h6 := Cal.vN_lt (u := p.u) HAT.out he0 h3
            rw [hx] at h6; omega
      · intro h
        have := (HC.out.all a.ix hi0 h).2
        rw [hx] at this; exact this
    have HD := Lib.hid hd
    have HO := Lib.hid ho
    have HX := Lib.hid hx
    clear hd ho hx
    go_enter Try.func35, Try.ntmps35
    go_wp2_with (fail)
    refine (nth_yes _ _ _ _ _ _ _ HAT.out hu0 hu1 he0 he1 hi0 hi1 HO.out).mono ?_
    rw [HX.out]
    rintro e w1 ⟨rfl, hb⟩
    have HB := Lib.hid (((Below.refl _ w).alloc (Nat.le_refl _) (.cells (a.arr v) 33)).alloc (by simp) (.cells p.arr 26) |>.trans (hb.mono (by simp; omega)))
    clear hb
    go_wp2
    go_ret2
    exact ⟨⟨x, by rw [← HD.out]; rfl, fun _ => HX.out.symm⟩, HB.out⟩
end Go.Proofs.Ytcgglphphdpplaa
