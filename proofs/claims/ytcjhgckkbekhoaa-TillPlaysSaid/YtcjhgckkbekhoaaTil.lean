/-
  A till, by what was said and taken: its words, and how its maps turn. No conditions but the sizes.
-/
import Derived.Test.YtcjhgckkbekhoaaMapE
import Derived.Test.YtcjhgckkbekhoaaLaneT
import Derived.Test.YtcjhgckkbekhoaaExec
import Derived.Test.YtcjhgckkbekhoaaLiveO
namespace Go.Proofs.Ytcjhgckkbekhoaa
set_option maxRecDepth 20000
open Go.ChangeShapes Go.WideShapes Go.ChangeAt Go.RowKit

theorem til_laid : laidOutB Try.prog = true := by kernel_rfl
theorem tcourse_law : WideMaps.KeyLaw Try.prog 82 := deep_law_gate til_laid (of_decide_eq_true (by kernel_rfl)) (of_decide_eq_true (by kernel_rfl)) (by kernel_rfl) (by kernel_rfl)
theorem try_law : WideMaps.KeyLaw Try.prog 100 := deep_law_gate til_laid (of_decide_eq_true (by kernel_rfl)) (of_decide_eq_true (by kernel_rfl)) (by kernel_rfl) (by kernel_rfl)
def cpv (p : Int × Int) : Value := .agg #[.int .i64 p.1, .int .i64 p.2]
def cpok (p : Int × Int) : Prop := (Lit.int .i64 p.1).wf = true ∧ (Lit.int .i64 p.2).wf = true
theorem cpv_inj (x y : Int × Int) (h : cpv x = cpv y) : x = y := by
  obtain ⟨a, b⟩ := x
  obtain ⟨c, d⟩ := y
  unfold cpv at h
  simp at h
  simp [h]
def ypv (p : Int × Int × Int) : Value := .agg #[.int .i64 p.1, .int .i64 p.2.1, .int .i64 p.2.2]
def ypok (p : Int × Int × Int) : Prop := (Lit.int .i64 p.1).wf = true ∧ (Lit.int .i64 p.2.1).wf = true ∧ (Lit.int .i64 p.2.2).wf = true
theorem ypv_inj (x y : Int × Int × Int) (h : ypv x = ypv y) : x = y := by
  obtain ⟨a, b, e⟩ := x
  obtain ⟨c, d, f⟩ := y
  unfold ypv at h
  simp at h
  simp [h]
def courseT : Enc Try.prog 82 (Int × Int) := ⟨cpv, cpok, Maps.Keyed.of_law tcourse_law, fun p h =>
  lits_two Try.underlying82 Try.underlying3 (by kernel_rfl) (by kernel_rfl) (by kernel_rfl) (by decide) (by decide) rfl rfl rfl rfl ⟨Try.prog.types.size - 1, (by kernel_rfl)⟩ h.1 h.2, cpv_inj⟩
def tryT : Enc Try.prog 100 (Int × Int × Int) := ⟨ypv, ypok, Maps.Keyed.of_law try_law, fun p h =>
  lits_three Try.underlying100 Try.underlying3 (by kernel_rfl) (by kernel_rfl) (by kernel_rfl) (by decide) (by decide) (by decide) rfl rfl rfl rfl rfl rfl ⟨Try.prog.types.size - 1, (by kernel_rfl)⟩ h.1 h.2.1 h.2.2, ypv_inj⟩
def netT : Enc Try.prog 3 Int := ⟨fun x => .int .i64 x, fun x => (Lit.int .i64 x).wf = true, Maps.int_keyed Try.underlying3, fun x h => ⟨_, Maps.keyOf_int_mk Try.underlying3 h⟩, fun x y h => by injection h⟩
theorem mc_map : Try.prog.underlying 73 = some (.map 100 5) := Try.underlying73
theorem mr_map : Try.prog.underlying 74 = some (.map 82 5) := Try.underlying74
theorem mt_map : Try.prog.underlying 75 = some (.map 82 2) := Try.underlying75
theorem mn_map : Try.prog.underlying 76 = some (.map 3 2) := Try.underlying76
theorem tz_u8 (w : World) : (zeroValue 5).run Try.prog w = .ok (.int .u8 0) w := by kernel_rfl
theorem tz_i64 (w : World) : (zeroValue 2).run Try.prog w = .ok (.int .i64 0) w := by kernel_rfl

/-! What becomes of it. -/
/-- An entry. -/
structure Ent where
  s : Int
  c : Int
  t : Int
  a : Int
structure Til where
  ch : Int × Int × Int → Option Int
  rf : Int × Int → Option Int
  tk : Int × Int → Option Int
  nt : Int → Option Int
  es : List Ent
def Til.new : Til := ⟨fun _ => none, fun _ => none, fun _ => none, fun _ => none, []⟩
def Til.fc (st : Til) : Int × Int × Int → Option Value := fun k => (st.ch k).map (Value.int .u8)
def Til.fr (st : Til) : Int × Int → Option Value := fun k => (st.rf k).map (Value.int .u8)
def Til.ft (st : Til) : Int × Int → Option Value := fun k => (st.tk k).map (Value.int .i64)
def Til.fn (st : Til) : Int → Option Value := fun k => (st.nt k).map (Value.int .i64)
theorem Til.ft_get (st : Til) (k : Int × Int) : (st.ft k).getD (.int .i64 0) = .int .i64 ((st.tk k).getD 0) := by unfold Til.ft; cases st.tk k <;> rfl
theorem Til.fn_get (st : Til) (k : Int) : (st.fn k).getD (.int .i64 0) = .int .i64 ((st.nt k).getD 0) := by unfold Til.fn; cases st.nt k <;> rfl
/-- Entries as cells. -/
def ecl (l : List Ent) : List Value := l.flatMap fun p => [.int .i64 p.s, .int .i64 p.c, .int .i64 p.t, .int .i64 p.a]
theorem ecl_append (a b : List Ent) : ecl (a ++ b) = ecl a ++ ecl b := by simp [ecl]
theorem ecl_one (l : List Ent) : ∀ u ∈ ecl l, u.oneCell' = true := by
  intro u hu
  obtain ⟨p, _, hp⟩ := List.mem_flatMap.1 hu
  simp only [List.mem_cons, List.not_mem_nil, or_false] at hp
  rcases hp with rfl | rfl | rfl | rfl <;> rfl
theorem ecl_at {l : List Ent} {i : Nat} {p : Ent} (h : l[i]? = some p) : (ecl l)[i * 4]? = some (.int .i64 p.s) ∧ (ecl l)[i * 4 + 1]? = some (.int .i64 p.c) ∧ (ecl l)[i * 4 + 2]? = some (.int .i64 p.t) ∧ (ecl l)[i * 4 + 3]? = some (.int .i64 p.a) := by
  induction l generalizing i with
  | nil => simp at h
  | cons q r ih =>
    cases i with
    | zero => simp at h; subst h; exact ⟨rfl, rfl, rfl, rfl⟩
    | succ i =>
      simp at h
      have := ih h
      have e : ecl (q :: r) = .int .i64 q.s :: .int .i64 q.c :: .int .i64 q.t :: .int .i64 q.a :: ecl r := rfl
      rw [e]
      refine ⟨?_, ?_, ?_, ?_⟩
      · rw [show (i + 1) * 4 = i * 4 + 4 by omega]; exact this.1
      · rw [show (i + 1) * 4 + 1 = (i * 4 + 1) + 4 by omega]; exact this.2.1
      · rw [show (i + 1) * 4 + 2 = (i * 4 + 2) + 4 by omega]; exact this.2.2.1
      · rw [show (i + 1) * 4 + 3 = (i * 4 + 3) + 4 by omega]; exact this.2.2.2

/-- Where a till's maps lie. -/
structure Tbs where
  c : Nat
  r : Nat
  t : Nat
  n : Nat
/-- A till in memory: its struct at g, its maps at b, its slice v; F: its blocks. -/
structure TilC (w : World) (F : Nat → Prop) (g : Nat) (b : Tbs) (v : Value) (st : Til) (m : Nat) : Prop where
  blk : w.heap[g]? = some (.cells #[.map (some b.c), .map (some b.r), .map (some b.t), .map (some b.n), v] 78 (0, 0))
  mc : ∃ c, MapE tryT w b.c m st.fc c
  mr : ∃ c, MapE courseT w b.r m st.fr c
  mt : ∃ c, MapE courseT w b.t m st.ft c
  mn : ∃ c, MapE netT w b.n m st.fn c
  ne : b.c ≠ b.r ∧ b.c ≠ b.t ∧ b.c ≠ b.n ∧ b.r ≠ b.t ∧ b.r ≠ b.n ∧ b.t ≠ b.n
  own : w.ownsRow 0 39 4 v st.es.length (ecl st.es)
  foot : F g ∧ F b.c ∧ F b.r ∧ F b.t ∧ F b.n ∧ ∀ i, v.ownBlock = some i → F i
  lt : ∀ i, F i → i < w.heap.size
  len : st.es.length ≤ m
def TilB (g : Nat) (st : Til) (m : Nat) (w : World) (F : Nat → Prop) : Prop := ∃ b v, TilC w F g b v st m
theorem TilC.kept {w w' : World} {F : Nat → Prop} {g : Nat} {b : Tbs} {v : Value} {st : Til} {m : Nat} (h : TilC w F g b v st m) (hk : ∀ i, F i → w'.heap[i]? = w.heap[i]?) (hs : w.heap.size ≤ w'.heap.size) : TilC w' F g b v st m :=
  ⟨(hk g h.foot.1).trans h.blk, h.mc.imp fun _ k => k.kept (hk _ h.foot.2.1), h.mr.imp fun _ k => k.kept (hk _ h.foot.2.2.1), h.mt.imp fun _ k => k.kept (hk _ h.foot.2.2.2.1), h.mn.imp fun _ k => k.kept (hk _ h.foot.2.2.2.2.1), h.ne, own_kept h.own fun i hi => hk i (h.foot.2.2.2.2.2 i hi), h.foot, fun i hi => Nat.lt_of_lt_of_le (h.lt i hi) hs, h.len⟩
theorem TilC.mono {w : World} {F : Nat → Prop} {g : Nat} {b : Tbs} {v : Value} {st : Til} {m m' : Nat} (h : TilC w F g b v st m) (hm : m ≤ m') : TilC w F g b v st m' :=
  ⟨h.blk, h.mc.imp fun _ k => k.mono hm, h.mr.imp fun _ k => k.mono hm, h.mt.imp fun _ k => k.mono hm, h.mn.imp fun _ k => k.mono hm, h.ne, h.own, h.foot, h.lt, Nat.le_trans h.len hm⟩
theorem TilB.mono {w : World} {F : Nat → Prop} {g : Nat} {st : Til} {m m' : Nat} (h : TilB g st m w F) (hm : m ≤ m') : TilB g st m' w F := by obtain ⟨b, v, h⟩ := h; exact ⟨b, v, h.mono hm⟩
theorem til_thing (g : Nat) (st : Til) (m : Nat) : Thing (TilB g st m) :=
  ⟨fun h hk hs => by obtain ⟨b, v, h⟩ := h; exact ⟨b, v, h.kept hk hs⟩, fun h hi => by obtain ⟨b, v, h⟩ := h; exact h.lt _ hi⟩
theorem TilC.wide {w : World} {F F' : Nat → Prop} {g : Nat} {b : Tbs} {v : Value} {st : Til} {m : Nat} (h : TilC w F g b v st m) (hF : ∀ i, F i → F' i) (hl : ∀ i, F' i → i < w.heap.size) : TilC w F' g b v st m :=
  ⟨h.blk, h.mc, h.mr, h.mt, h.mn, h.ne, h.own, ⟨hF _ h.foot.1, hF _ h.foot.2.1, hF _ h.foot.2.2.1, hF _ h.foot.2.2.2.1, hF _ h.foot.2.2.2.2.1, fun i hi => hF _ (h.foot.2.2.2.2.2 i hi)⟩, hl, h.len⟩
theorem emap_ne {P : Program} {kt : TypeId} {κ : Type} {E : Enc P kt κ} {w : World} {b g : Nat} {n c : Nat} {f : κ → Option Value} {cs : Array Value} {t : TypeId} {fr : Nat × Nat} (h : MapE E w b n f c) (hg : w.heap[g]? = some (.cells cs t fr)) : g ≠ b := by
  rintro rfl
  obtain ⟨es, c, h⟩ := h.isMap
  rw [hg] at h; cases h
theorem eown_ne {P : Program} {kt : TypeId} {κ : Type} {E : Enc P kt κ} {w : World} {b base size k n c : Nat} {e : TypeId} {v : Value} {xs : List Value} {f : κ → Option Value} (h : w.ownsRow base e size v k xs) (hb : MapE E w b n f c) : v.ownBlock ≠ some b := by
  obtain ⟨es, cc, hb⟩ := hb.isMap
  rcases h.2 with ⟨rfl, _⟩ | ⟨g', cap, cur, rfl, _, hh, _⟩
  · simp [Value.ownBlock]
  · intro he
    have : g' = b := by simpa [Value.ownBlock] using he
    subst this
    rw [hh] at hb
    cases hb
theorem map_carry {P : Program} {kt : TypeId} {κ : Type} {E : Enc P kt κ} {w w' : World} {b base size k n n' : Nat} {e : TypeId} {v : Value} {xs : List Value} {f : κ → Option Value} (hm : ∃ c, MapE E w b n f c) (ho : w.ownsRow base e size v k xs)
    (hkeep : ∀ j o, w.heap[j]? = some o → v.ownBlock ≠ some j → w'.heap[j]? = some o) (hn : n ≤ n') : ∃ c, MapE E w' b n' f c := by
  obtain ⟨c, h1⟩ := hm
  obtain ⟨es, ck, hh⟩ := h1.isMap
  exact ⟨c, (h1.kept ((hkeep b _ hh (eown_ne ho h1)).trans hh.symm)).mono hn⟩
theorem grown_at {w w' : World} {b : Nat} (h : w.grownBy w' (some b)) {j : Nat} {o : Obj} (hj : j ≠ b) (hl : w.heap[j]? = some o) : w'.heap[j]? = some o :=
  (h.block j (Array.getElem?_eq_some_iff.1 hl).1 fun e => hj (by injection e)).trans hl
theorem grown_map {P : Program} {kt : TypeId} {κ : Type} {E : Enc P kt κ} {w w' : World} {b b' n c : Nat} {f : κ → Option Value} (h : w.grownBy w' (some b)) (hj : b' ≠ b) (hm : MapE E w b' n f c) : MapE E w' b' n f c := by
  obtain ⟨es, cc, hh⟩ := hm.isMap
  exact hm.kept ((grown_at h hj hh).trans hh.symm)
theorem TilC.sayc {w : World} {F : Nat → Prop} {g : Nat} {b : Tbs} {v : Value} {st : Til} {m : Nat} (h : TilC w F g b v st m) {k : Int × Int × Int} (hk : ypok k) (hm : m ≤ 100000) (x : Int) :
    ∃ w', (Instr.mapUpdate 73 (.map (some b.c)) (ypv k) (.int .u8 x)).run Try.prog w = .ok () w' ∧ TilC w' F g b v ⟨fun j => if j = k then some x else st.ch j, st.rf, st.tk, st.nt, st.es⟩ (m + 1) ∧ w.grownBy w' (some b.c) := by
  obtain ⟨c, h1⟩ := h.mc
  obtain ⟨w', hrun, hp, hg, hz⟩ := h1.put mc_map (by omega) k hk (.int .u8 x)
  obtain ⟨cc, hcc⟩ : ∃ cc, cc = (if (st.fc k).isSome then c else c + 1) := ⟨_, rfl⟩
  rw [← hcc] at hp
  clear hcc
  have e : (⟨fun j => if j = k then some x else st.ch j, st.rf, st.tk, st.nt, st.es⟩ : Til).fc = fun j => if j = k then some (.int .u8 x) else st.fc j := by
    funext j
    unfold Til.fc
    by_cases hj : j = k <;> simp [hj]
  have hpe : MapE tryT w' b.c (m + 1) (⟨fun j => if j = k then some x else st.ch j, st.rf, st.tk, st.nt, st.es⟩ : Til).fc cc := by rw [e]; exact hp
  exact ⟨w', hrun, ⟨grown_at hg (emap_ne h1 h.blk) h.blk, ⟨cc, hpe⟩, h.mr.imp fun _ k => (grown_map hg (Ne.symm h.ne.1) k).mono (Nat.le_succ _), h.mt.imp fun _ k => (grown_map hg (Ne.symm h.ne.2.1) k).mono (Nat.le_succ _), h.mn.imp fun _ k => (grown_map hg (Ne.symm h.ne.2.2.1) k).mono (Nat.le_succ _), h.ne, own_kept h.own fun i hi => hg.block i (h.lt i (h.foot.2.2.2.2.2 i hi)) fun e => eown_ne h.own h1 (by rw [hi]; exact e), h.foot, fun i hi => by rw [hz]; exact h.lt i hi, Nat.le_succ_of_le h.len⟩, hg⟩
theorem TilC.sayr {w : World} {F : Nat → Prop} {g : Nat} {b : Tbs} {v : Value} {st : Til} {m : Nat} (h : TilC w F g b v st m) {k : Int × Int} (hk : cpok k) (hm : m ≤ 100000) (x : Int) :
    ∃ w', (Instr.mapUpdate 74 (.map (some b.r)) (cpv k) (.int .u8 x)).run Try.prog w = .ok () w' ∧ TilC w' F g b v ⟨st.ch, fun j => if j = k then some x else st.rf j, st.tk, st.nt, st.es⟩ (m + 1) ∧ w.grownBy w' (some b.r) := by
  obtain ⟨c, h1⟩ := h.mr
  obtain ⟨w', hrun, hp, hg, hz⟩ := h1.put mr_map (by omega) k hk (.int .u8 x)
  obtain ⟨cc, hcc⟩ : ∃ cc, cc = (if (st.fr k).isSome then c else c + 1) := ⟨_, rfl⟩
  rw [← hcc] at hp
  clear hcc
  have e : (⟨st.ch, fun j => if j = k then some x else st.rf j, st.tk, st.nt, st.es⟩ : Til).fr = fun j => if j = k then some (.int .u8 x) else st.fr j := by
    funext j
    unfold Til.fr
    by_cases hj : j = k <;> simp [hj]
  have hpe : MapE courseT w' b.r (m + 1) (⟨st.ch, fun j => if j = k then some x else st.rf j, st.tk, st.nt, st.es⟩ : Til).fr cc := by rw [e]; exact hp
  exact ⟨w', hrun, ⟨grown_at hg (emap_ne h1 h.blk) h.blk, h.mc.imp fun _ k => (grown_map hg h.ne.1 k).mono (Nat.le_succ _), ⟨cc, hpe⟩, h.mt.imp fun _ k => (grown_map hg (Ne.symm h.ne.2.2.2.1) k).mono (Nat.le_succ _), h.mn.imp fun _ k => (grown_map hg (Ne.symm h.ne.2.2.2.2.1) k).mono (Nat.le_succ _), h.ne, own_kept h.own fun i hi => hg.block i (h.lt i (h.foot.2.2.2.2.2 i hi)) fun e => eown_ne h.own h1 (by rw [hi]; exact e), h.foot, fun i hi => by rw [hz]; exact h.lt i hi, Nat.le_succ_of_le h.len⟩, hg⟩
theorem TilC.sayn {w : World} {F : Nat → Prop} {g : Nat} {b : Tbs} {v : Value} {st : Til} {m : Nat} (h : TilC w F g b v st m) {k : Int} (hk : (fun x => (Lit.int .i64 x).wf = true) k) (hm : m ≤ 100000) (x : Int) :
    ∃ w', (Instr.mapUpdate 76 (.map (some b.n)) (.int .i64 k) (.int .i64 x)).run Try.prog w = .ok () w' ∧ TilC w' F g b v ⟨st.ch, st.rf, st.tk, fun j => if j = k then some x else st.nt j, st.es⟩ (m + 1) ∧ w.grownBy w' (some b.n) := by
  obtain ⟨c, h1⟩ := h.mn
  obtain ⟨w', hrun, hp, hg, hz⟩ := h1.put mn_map (by omega) k hk (.int .i64 x)
  obtain ⟨cc, hcc⟩ : ∃ cc, cc = (if (st.fn k).isSome then c else c + 1) := ⟨_, rfl⟩
  rw [← hcc] at hp
  clear hcc
  have e : (⟨st.ch, st.rf, st.tk, fun j => if j = k then some x else st.nt j, st.es⟩ : Til).fn = fun j => if j = k then some (.int .i64 x) else st.fn j := by
    funext j
    unfold Til.fn
    by_cases hj : j = k <;> simp [hj]
  have hpe : MapE netT w' b.n (m + 1) (⟨st.ch, st.rf, st.tk, fun j => if j = k then some x else st.nt j, st.es⟩ : Til).fn cc := by rw [e]; exact hp
  exact ⟨w', hrun, ⟨grown_at hg (emap_ne h1 h.blk) h.blk, h.mc.imp fun _ k => (grown_map hg h.ne.2.2.1 k).mono (Nat.le_succ _), h.mr.imp fun _ k => (grown_map hg h.ne.2.2.2.2.1 k).mono (Nat.le_succ _), h.mt.imp fun _ k => (grown_map hg h.ne.2.2.2.2.2 k).mono (Nat.le_succ _), ⟨cc, hpe⟩, h.ne, own_kept h.own fun i hi => hg.block i (h.lt i (h.foot.2.2.2.2.2 i hi)) fun e => eown_ne h.own h1 (by rw [hi]; exact e), h.foot, fun i hi => by rw [hz]; exact h.lt i hi, Nat.le_succ_of_le h.len⟩, hg⟩
theorem TilC.strike {w : World} {F : Nat → Prop} {g : Nat} {b : Tbs} {v : Value} {st : Til} {m : Nat} (h : TilC w F g b v st m) {k : Int × Int} (hk : cpok k) (_hm : m ≤ 100000) (ty : TypeId) :
    ∃ w', (Builtin.delete_ #[75, 82] ty #[.map (some b.t), cpv k]).run Try.prog w = .ok (.tuple #[]) w' ∧ TilC w' F g b v ⟨st.ch, st.rf, fun j => if j = k then none else st.tk j, st.nt, st.es⟩ (m + 1) ∧ w.grownBy w' (some b.t) := by
  obtain ⟨c, h1⟩ := h.mt
  obtain ⟨w', hrun, hp, hg, hz⟩ := h1.del mt_map k hk ty
  obtain ⟨cc, hcc⟩ : ∃ cc, cc = (if (st.ft k).isSome then c - 1 else c) := ⟨_, rfl⟩
  rw [← hcc] at hp
  clear hcc
  have e : (⟨st.ch, st.rf, fun j => if j = k then none else st.tk j, st.nt, st.es⟩ : Til).ft = fun j => if j = k then none else st.ft j := by
    funext j
    unfold Til.ft
    by_cases hj : j = k <;> simp [hj]
  have hpe : MapE courseT w' b.t (m + 1) (⟨st.ch, st.rf, fun j => if j = k then none else st.tk j, st.nt, st.es⟩ : Til).ft cc := by rw [e]; exact hp.mono (Nat.le_succ _)
  exact ⟨w', hrun, ⟨grown_at hg (emap_ne h1 h.blk) h.blk, h.mc.imp fun _ k => (grown_map hg h.ne.2.1 k).mono (Nat.le_succ _), h.mr.imp fun _ k => (grown_map hg h.ne.2.2.2.1 k).mono (Nat.le_succ _), ⟨cc, hpe⟩, h.mn.imp fun _ k => (grown_map hg (Ne.symm h.ne.2.2.2.2.2) k).mono (Nat.le_succ _), h.ne, own_kept h.own fun i hi => hg.block i (h.lt i (h.foot.2.2.2.2.2 i hi)) fun e => eown_ne h.own h1 (by rw [hi]; exact e), h.foot, fun i hi => by rw [hz]; exact h.lt i hi, Nat.le_succ_of_le h.len⟩, hg⟩
theorem TilC.take {w : World} {F : Nat → Prop} {g : Nat} {b : Tbs} {v : Value} {st : Til} {m : Nat} (h : TilC w F g b v st m) {k : Int × Int} (hk : cpok k) (hm : m ≤ 100000) (x : Int) :
    ∃ v0 n0 w1 w', (Instr.mapEntry 75 (.map (some b.t)) (cpv k)).run Try.prog w = .ok (.tuple #[v0, goInt n0]) w1 ∧ (Instr.entryStore 75 (.map (some b.t)) (goInt n0) (.int .i64 x)).run Try.prog w1 = .ok () w' ∧ (∀ j, j ≠ b.t → w1.heap[j]? = w.heap[j]?) ∧ (Instr.lookup 75 (.map (some b.t)) (cpv k) false).run Try.prog w1 = .ok (.int .i64 ((st.tk k).getD 0)) w1 ∧ TilC w' F g b v ⟨st.ch, st.rf, fun j => if j = k then some x else st.tk j, st.nt, st.es⟩ (m + 1) ∧ w.grownBy w' (some b.t) := by
  obtain ⟨c, h1⟩ := h.mt
  obtain ⟨v0, n0, w1, w', hr1, hr2, hk1, hl1, hp, hg, hz⟩ := h1.entry tcourse_law mt_map tz_i64 (by omega) k hk (.int .i64 x)
  obtain ⟨cc, hcc⟩ : ∃ cc, cc = (if (st.ft k).isSome then c else c + 1) := ⟨_, rfl⟩
  rw [← hcc] at hp
  clear hcc
  have e : (⟨st.ch, st.rf, fun j => if j = k then some x else st.tk j, st.nt, st.es⟩ : Til).ft = fun j => if j = k then some (.int .i64 x) else st.ft j := by
    funext j
    unfold Til.ft
    by_cases hj : j = k <;> simp [hj]
  have hpe : MapE courseT w' b.t (m + 1) (⟨st.ch, st.rf, fun j => if j = k then some x else st.tk j, st.nt, st.es⟩ : Til).ft cc := by rw [e]; exact hp
  exact ⟨v0, n0, w1, w', hr1, hr2, hk1, (by rw [Til.ft_get] at hl1; exact hl1), ⟨grown_at hg (emap_ne h1 h.blk) h.blk, h.mc.imp fun _ k => (grown_map hg h.ne.2.1 k).mono (Nat.le_succ _), h.mr.imp fun _ k => (grown_map hg h.ne.2.2.2.1 k).mono (Nat.le_succ _), ⟨cc, hpe⟩, h.mn.imp fun _ k => (grown_map hg (Ne.symm h.ne.2.2.2.2.2) k).mono (Nat.le_succ _), h.ne, own_kept h.own fun i hi => hg.block i (h.lt i (h.foot.2.2.2.2.2 i hi)) fun e => eown_ne h.own h1 (by rw [hi]; exact e), h.foot, fun i hi => by rw [hz]; exact h.lt i hi, Nat.le_succ_of_le h.len⟩, hg⟩
theorem TilC.drew {w : World} {F : Nat → Prop} {g : Nat} {b : Tbs} {v : Value} {st : Til} {m : Nat} (h : TilC w F g b v st m) : TilC w.drew F g b v st m := h.kept (fun _ _ => rfl) (Nat.le_refl _)
theorem ent_info : (Try.prog.info? 39).map (fun i => (i.zero, i.size, i.bytes)) = some (some (.agg #[.int .i64 0, .int .i64 0, .int .i64 0, .int .i64 0]), 4, 32) := by kernel_rfl
theorem eslice_info : (Try.prog.info? 26).map (·.size) = some 1 := by kernel_rfl
end Go.Proofs.Ytcjhgckkbekhoaa
