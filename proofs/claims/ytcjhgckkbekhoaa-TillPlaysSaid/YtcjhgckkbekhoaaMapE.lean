/-
  Words for maps whose keys are structs (or anything that is keyed), whose block the walk owns: 'MapE K w b n f c': block b is a map of at most n entries, c just now; f says of each key what lies there, as a value. No conditions but those that each law names.
-/
import Derived.Test.YtcjhgckkbekhoaaMem
import Derived.Test.YtcjhgckkbekhoaaWl
import Derived.Maps.OwnSet
import Derived.DeepKeys5
import Derived.WideKeyEntry
namespace Go.Proofs.Ytcjhgckkbekhoaa
set_option maxRecDepth 20000
open Go.ChangeShapes Go.WideShapes Go.ChangeAt Go.RowKit

/-- What a struct of two, or three, whole numbers reads as, as a key. -/
theorem lits_two {P : Program} {T I : TypeId} {f0 f1 : Field} (hu : P.underlying T = some (.struct #[f0, f1])) (hi : P.underlying I = some (.int .i64)) (hk : P.keyType T = true) (hc : P.cellsOf T = 2) (hci : P.cellsOf I = 1)
    (hn0 : (f0.name != "_") = true) (hn1 : (f1.name != "_") = true) (ht0 : f0.type = I) (ht1 : f1.type = I) (ho0 : f0.offset = 0) (ho1 : f1.offset = 1) (hs : ∃ d, P.types.size = d + 1) {a b : Int} (ha : (Lit.int .i64 a).wf = true) (hb : (Lit.int .i64 b).wf = true) :
    ∃ l, keyOf P T (.agg #[.int .i64 a, .int .i64 b]) = some l := by
  obtain ⟨d, hd⟩ := hs
  refine Option.isSome_iff_exists.1 ?_
  unfold keyOf
  rw [hu]
  have hnum : ∀ x, (Lit.int .i64 x).wf = true → P.keyLits (d + 1) I [.int .i64 x] = some [.int .i64 x] := fun x hx => by
    unfold Program.keyLits; simp [hi, hx]
  have hl : P.keyLits (d + 1 + 1) T [.int .i64 a, .int .i64 b] = some [.int .i64 a, .int .i64 b] := by
    unfold Program.keyLits
    simp [hu, hc, hn0, hn1, ht0, ht1, ho0, ho1, hci, hnum a ha, hnum b hb]
  simp [hk, Value.formed, Value.cells, hu, hc, hd, hl]
theorem lits_three {P : Program} {T I : TypeId} {f0 f1 f2 : Field} (hu : P.underlying T = some (.struct #[f0, f1, f2])) (hi : P.underlying I = some (.int .i64)) (hk : P.keyType T = true) (hc : P.cellsOf T = 3) (hci : P.cellsOf I = 1)
    (hn0 : (f0.name != "_") = true) (hn1 : (f1.name != "_") = true) (hn2 : (f2.name != "_") = true) (ht0 : f0.type = I) (ht1 : f1.type = I) (ht2 : f2.type = I) (ho0 : f0.offset = 0) (ho1 : f1.offset = 1) (ho2 : f2.offset = 2) (hs : ∃ d, P.types.size = d + 1)
    {a b c : Int} (ha : (Lit.int .i64 a).wf = true) (hb : (Lit.int .i64 b).wf = true) (hcc : (Lit.int .i64 c).wf = true) :
    ∃ l, keyOf P T (.agg #[.int .i64 a, .int .i64 b, .int .i64 c]) = some l := by
  obtain ⟨d, hd⟩ := hs
  refine Option.isSome_iff_exists.1 ?_
  unfold keyOf
  rw [hu]
  have hnum : ∀ x, (Lit.int .i64 x).wf = true → P.keyLits (d + 1) I [.int .i64 x] = some [.int .i64 x] := fun x hx => by
    unfold Program.keyLits; simp [hi, hx]
  have hl : P.keyLits (d + 1 + 1) T [.int .i64 a, .int .i64 b, .int .i64 c] = some [.int .i64 a, .int .i64 b, .int .i64 c] := by
    unfold Program.keyLits
    simp [hu, hc, hn0, hn1, hn2, ht0, ht1, ht2, ho0, ho1, ho2, hci, hnum a ha, hnum b hb, hnum c hcc]
  simp [hk, Value.formed, Value.cells, hu, hc, hd, hl]

/-- An element reads as itself. -/
def heldV (v : Value) : Option (DataW Value × List MemPlace) := some (.held v, [])

/-- Keys of type t, told by k's. -/
structure Enc (P : Program) (t : TypeId) (κ : Type) where
  ev : κ → Value
  ok : κ → Prop
  keyed : Maps.Keyed P t
  lit : ∀ x, ok x → ∃ l, keyOf P t (ev x) = some l
  inj : ∀ x y, ev x = ev y → x = y

section
variable {P : Program} {kt : TypeId} {κ : Type}

def MapE (E : Enc P kt κ) (w : World) (b n : Nat) (f : κ → Option Value) (c : Nat) : Prop :=
  ∃ D : DataW Value, w.ownsMap P kt heldV b n D ∧ Maps.size D = c ∧ ∀ k l, E.ok k → keyOf P kt (E.ev k) = some l → (∀ v, f k = some v → ∀ z, D.atKey l z = .held v) ∧ (f k = none → ∀ z, D.atKey l z = z) ∧ Maps.has D l = (f k).isSome

variable {E : Enc P kt κ} {w w' : World} {b n c : Nat} {f : κ → Option Value}
theorem MapE.lt (h : MapE E w b n f c) : b < w.heap.size := by obtain ⟨D, h, _⟩ := h; exact h.lt
theorem MapE.isMap (h : MapE E w b n f c) : ∃ es c, w.heap[b]? = some (.map es c) := by obtain ⟨D, ⟨es, c, h, _⟩, _⟩ := h; exact ⟨es, c, h⟩
theorem MapE.mono (h : MapE E w b n f c) {m : Nat} (hm : n ≤ m) : MapE E w b m f c := by obtain ⟨D, h, h2⟩ := h; exact ⟨D, h.mono hm, h2⟩
theorem MapE.kept (h : MapE E w b n f c) (hk : w'.heap[b]? = w.heap[b]?) : MapE E w' b n f c := by
  obtain ⟨D, ⟨es, c, h1, h2, h3, h4⟩, h5⟩ := h
  exact ⟨D, ⟨es, c, hk.trans h1, h2, h3, h4⟩, h5⟩
theorem mapE_made (E : Enc P kt κ) (w : World) : MapE E (w.alloc (.map #[] 0)) w.heap.size 0 (fun _ => none) 0 :=
  ⟨.map [], World.ownsMap_made _ _ _ _, rfl, fun _ _ _ _ => ⟨fun _ h => (nomatch h), fun _ _ => rfl, rfl⟩⟩
theorem MapE.look (h : MapE E w b n f c) {t e : TypeId} {z : Value} (ht : P.underlying t = some (.map kt e)) (hz : (zeroValue e).run P w = .ok z w) (k : κ) (hk : E.ok k) :
    (Instr.lookup t (.map (some b)) (E.ev k) false).run P w = .ok ((f k).getD z) w := by
  obtain ⟨D, h, _, hf⟩ := h
  obtain ⟨l, hl⟩ := E.lit k hk
  obtain ⟨v, ps, hrun, hv⟩ := h.lookup E.keyed ht hz (R := heldV) (zd := .held z) (zp := []) rfl hl
  have e : DataW.held v = D.atKey l (.held z) := by
    unfold heldV at hv
    injection hv with hv
    injection hv with hv _
  have hf := hf k l hk hl
  cases hfk : f k with
  | none => rw [hf.2.1 hfk] at e; injection e with e; subst e; exact hrun
  | some u => rw [hf.1 u hfk] at e; injection e with e; subst e; exact hrun
theorem MapE.look_ok (h : MapE E w b n f c) {t e : TypeId} {z : Value} (ht : P.underlying t = some (.map kt e)) (hz : (zeroValue e).run P w = .ok z w) (k : κ) (hk : E.ok k) :
    (Instr.lookup t (.map (some b)) (E.ev k) true).run P w = .ok (.tuple #[(f k).getD z, .bool (f k).isSome]) w := by
  obtain ⟨D, h, _, hf⟩ := h
  obtain ⟨l, hl⟩ := E.lit k hk
  obtain ⟨v, ps, hrun, hv⟩ := h.look_ok E.keyed ht hz (R := heldV) (zd := .held z) (zp := []) rfl hl
  have hf := hf k l hk hl
  rw [hf.2.2] at hrun
  have e : DataW.held v = D.atKey l (.held z) := by
    unfold heldV at hv
    injection hv with hv
    injection hv with hv _
  cases hfk : f k with
  | none => rw [hf.2.1 hfk] at e; injection e with e; subst e; rw [hfk] at hrun; exact hrun
  | some u => rw [hf.1 u hfk] at e; injection e with e; subst e; rw [hfk] at hrun; exact hrun
theorem MapE.len (h : MapE E w b n f c) {t e : TypeId} (ht : P.underlying t = some (.map kt e)) (ty : TypeId) : (Builtin.len_ #[t] ty #[.map (some b)]).run P w = .ok (.int .i64 c) w := by
  obtain ⟨D, h, hc, _⟩ := h
  rw [← hc]
  exact h.len ht ty
theorem turned_size {w w' : World} {b : Nat} (h : w.mapTurned w' b) : w'.heap.size = w.heap.size := by
  obtain ⟨es, clock, es', clock', hb, rfl⟩ := h
  simp [ChangeMaps.setBlock]
theorem MapE.put [DecidableEq κ] (h : MapE E w b n f c) {t e : TypeId} (ht : P.underlying t = some (.map kt e)) (hn : n < 1000000) (k : κ) (hk : E.ok k) (v : Value) :
    ∃ w', (Instr.mapUpdate t (.map (some b)) (E.ev k) v).run P w = .ok () w' ∧ MapE E w' b (n + 1) (fun j => if j = k then some v else f j) (if (f k).isSome then c else c + 1) ∧ w.grownBy w' (some b) ∧ w'.heap.size = w.heap.size := by
  obtain ⟨D, h, hc, hf⟩ := h
  obtain ⟨l, hkey⟩ := E.lit k hk
  have hlit : WideAt.IsKeyLit l := E.keyed.key hkey
  have hT := h.tidy E.keyed
  obtain ⟨w', hrun, h1, h2⟩ := h.store E.keyed ht (by unfold maxLen; omega) hkey (val := v) (d := .held v) (ps := []) rfl
  refine ⟨w', hrun, ⟨_, h1, ?_, fun j lj hj hlj => ?_⟩, h2.grown, turned_size h2⟩
  · rw [Maps.size_put hT, (hf k l hk hkey).2.2, hc]
  by_cases hjk : j = k
  · subst hjk
    obtain rfl : l = lj := by rw [hkey] at hlj; injection hlj
    simp only [if_true]
    refine ⟨fun u hu z => ?_, fun hu => (nomatch hu), ?_⟩
    · injection hu with hu; subst hu; exact Maps.atKey_put_same h.isMap hlit _ _
    · rw [Maps.has_put_same h.isMap hlit]; rfl
  · have hne : lj ≠ l := fun e => by subst e; exact hjk (E.inj _ _ (E.keyed.inj hlj hkey))
    simp only [if_neg hjk]
    refine ⟨fun u hu z => ?_, fun hu z => ?_, ?_⟩
    · rw [Maps.atKey_put_other hne]; exact (hf j lj hj hlj).1 u hu z
    · rw [Maps.atKey_put_other hne]; exact (hf j lj hj hlj).2.1 hu z
    · rw [Maps.has_put_other hne]; exact (hf j lj hj hlj).2.2
theorem MapE.del [DecidableEq κ] (h : MapE E w b n f c) {t e : TypeId} (ht : P.underlying t = some (.map kt e)) (k : κ) (hk : E.ok k) (ty : TypeId) :
    ∃ w', (Builtin.delete_ #[t, kt] ty #[.map (some b), E.ev k]).run P w = .ok (.tuple #[]) w' ∧ MapE E w' b n (fun j => if j = k then none else f j) (if (f k).isSome then c - 1 else c) ∧ w.grownBy w' (some b) ∧ w'.heap.size = w.heap.size := by
  obtain ⟨D, h, hc, hf⟩ := h
  obtain ⟨l, hkey⟩ := E.lit k hk
  have hT := h.tidy E.keyed
  obtain ⟨w', hrun, h1, h2⟩ := h.drop E.keyed ht hkey ty
  refine ⟨w', hrun, ⟨_, h1, ?_, fun j lj hj hlj => ?_⟩, h2.grown, turned_size h2⟩
  · have := Maps.size_del (k := l) hT
    rw [(hf k l hk hkey).2.2, hc] at this
    split at this <;> simp_all <;> omega
  by_cases hjk : j = k
  · subst hjk
    obtain rfl : l = lj := by rw [hkey] at hlj; injection hlj
    simp only [if_true]
    exact ⟨fun u hu z => (nomatch hu), fun hu z => Maps.atKey_del_same _, Maps.has_del_same⟩
  · have hne : lj ≠ l := fun e => by subst e; exact hjk (E.inj _ _ (E.keyed.inj hlj hkey))
    simp only [if_neg hjk]
    refine ⟨fun u hu z => ?_, fun hu z => ?_, ?_⟩
    · rw [Maps.atKey_del_other hne]; exact (hf j lj hj hlj).1 u hu z
    · rw [Maps.atKey_del_other hne]; exact (hf j lj hj hlj).2.1 hu z
    · rw [Maps.has_del_other hne]; exact (hf j lj hj hlj).2.2
/-- What finding the entry, or making it, leaves: a look says the same there. -/
theorem MapE.found [DecidableEq κ] (h : MapE E w b n f c) (KL : WideMaps.KeyLaw P kt) {t e : TypeId} (ht : P.underlying t = some (.map kt e)) {z : Value} (hz : ∀ u : World, (zeroValue e).run P u = .ok z u) (hn : n < 1000000) (k : κ) (hk : E.ok k) :
    ∃ r w1, (Instr.mapEntry t (.map (some b)) (E.ev k)).run P w = .ok r w1 ∧ (Instr.lookup t (.map (some b)) (E.ev k) false).run P w1 = .ok ((f k).getD z) w1 := by
  have hlook := h.look ht (hz w) k hk
  obtain ⟨w', hrun, hp, _, _⟩ := h.put ht hn k hk z
  have hlook2 := hp.look ht (hz w') k hk
  rw [if_pos rfl] at hlook2
  obtain ⟨l, hl⟩ := E.lit k hk
  obtain ⟨D, ⟨es, clock, hb, F, _, rfl⟩, _⟩ := h
  rcases KL.find w hl es.toList F.keys with ⟨h1, h2⟩ | ⟨j, e0, h1, h2, h3⟩
  · have hck : ∀ em : Bool, (Instr.checkKey em 10000 kt (E.ev k)).run P w = .ok () w := fun em => KL.check w em hl
    refine ⟨.tuple #[z, goInt clock], w', ?_, ?_⟩
    · simp [Instr.mapUpdate, run_underlying ht, MapKept.run_getObj_map hb, KL.check w false hl, h1, MapKept.run_setObj_map _ hb, Result.andThen] at hrun
      simp [Instr.mapEntry, run_underlying ht, MapKept.run_getObj_map hb, KL.check w false hl, h1, hz, MapKept.run_setObj_map _ hb, Result.andThen, hrun]
    · simp [Instr.lookup, run_underlying ht, MapKept.run_getObj_map hb, hck, h1, hz, Result.andThen] at hlook
      rw [← hlook]
      exact hlook2
  · refine ⟨.tuple #[e0.val, goInt e0.born], w, ?_, hlook⟩
    have hj : es[j]? = some e0 := by simpa using h2
    have hsame : es.modify j (fun e => { e with key := E.ev k }) = es := by
      apply Array.ext_getElem?
      intro i
      rw [Array.getElem?_modify]
      by_cases hi : j = i
      · subst hi
        rw [if_pos rfl, hj]
        show some ({ e0 with key := E.ev k } : MapEntry) = some e0
        rw [← h3]
      · rw [if_neg hi]
    have hw : ChangeMaps.setBlock w b (.map es clock) = w := by
      unfold ChangeMaps.setBlock
      congr 1
      apply Array.ext_getElem?
      intro i
      rw [Array.getElem?_setIfInBounds]
      by_cases hi : b = i
      · subst hi
        rw [if_pos rfl, if_pos (Array.getElem?_eq_some_iff.1 hb).1, hb]
      · rw [if_neg hi]
    have hs2 : ({ w with heap := w.heap.setIfInBounds b (.map es clock) } : World) = w := hw
    simp [Instr.mapEntry, run_underlying ht, MapKept.run_getObj_map hb, KL.check w false hl, h1, hj, h3, KL.stays w hl, hsame, MapKept.run_setObj_map _ hb, Result.andThen, hs2]
/-- 'm[k] += x': the entry is found, or made, then its value is stored. -/
theorem MapE.entry [DecidableEq κ] (h : MapE E w b n f c) (KL : WideMaps.KeyLaw P kt) {t e : TypeId} (ht : P.underlying t = some (.map kt e)) {z : Value} (hz : ∀ u : World, (zeroValue e).run P u = .ok z u) (hn : n < 1000000) (k : κ) (hk : E.ok k) (v : Value) :
    ∃ (v0 : Value) (st : Nat) (w1 w2 : World), (Instr.mapEntry t (.map (some b)) (E.ev k)).run P w = .ok (.tuple #[v0, goInt st]) w1 ∧ (Instr.entryStore t (.map (some b)) (goInt st) v).run P w1 = .ok () w2 ∧
      (∀ j, j ≠ b → w1.heap[j]? = w.heap[j]?) ∧ (Instr.lookup t (.map (some b)) (E.ev k) false).run P w1 = .ok ((f k).getD z) w1 ∧ MapE E w2 b (n + 1) (fun j => if j = k then some v else f j) (if (f k).isSome then c else c + 1) ∧ w.grownBy w2 (some b) ∧ w2.heap.size = w.heap.size := by
  obtain ⟨w', hrun, hp, hg, hsz⟩ := h.put ht hn k hk v
  obtain ⟨r1, u1, hr1, hlk1⟩ := h.found KL ht hz hn k hk
  obtain ⟨l, hl⟩ := E.lit k hk
  obtain ⟨D, ⟨es, clock, hb, F, _, rfl⟩, _⟩ := h
  obtain ⟨v0, st, es1, clock1, h1, _, h3⟩ := WideElems.entry_then_store KL ht hz hb F hl
  have hb1 : (ChangeMaps.setBlock w b (.map es1 clock1)).heap[b]? = some (.map es1 clock1) := ChangeMaps.heap_setBlock_same hb _
  obtain ⟨es', clock', h4, h5⟩ := h3 _ v hb1
  rw [hrun] at h5
  injection h5 with _ h5
  have e : ChangeMaps.setBlock (ChangeMaps.setBlock w b (.map es1 clock1)) b (.map es' clock') = w' := by
    rw [h5]
    simp [ChangeMaps.setBlock]
  rw [e] at h4
  rw [h1] at hr1
  injection hr1 with _ hu1
  rw [← hu1] at hlk1
  exact ⟨v0, st, _, w', h1, h4, fun j hj => ChangeMaps.heap_setBlock_other hb _ hj, hlk1, hp, hg, hsz⟩
end
end Go.Proofs.Ytcjhgckkbekhoaa
