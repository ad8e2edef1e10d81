/-
  A plate and one of the document's own: that they are one is kept by every act, and their errors are one. No program, no memory.
-/
import Derived.Test.YtlbodpffkdfllaaPlDo
namespace Go.Proofs.Ytlbodpffkdfllaa

structure Rel (st : Pl.St) (r : Rf.R) : Prop where
  safe : r.safe = st.safe
  wet : r.wet = st.wet
  off : r.off = st.off
  acts : r.acts = st.acts
  armed : st.armed = true → r.left = st.left ∧ 0 ≤ st.left ∧ st.spare = min (max r.spare 0) 64
  free : st.armed = false → r.left = -1
section
variable {st : Pl.St} {r : Rf.R}
theorem Rel.goes (h : Rel st r) (ho : st.off = false) : r.goes = st.goes := by
  unfold Rf.R.goes Pl.St.goes
  rw [h.off, ho]
  cases ha : st.armed
  · rw [h.free ha]; rfl
  · obtain ⟨h1, h2, _⟩ := h.armed ha
    rw [h1]
    by_cases e : st.left = 0
    · rw [e]; rfl
    · have e2 : (st.left == 0) = false := by simpa using e
      rw [e2]
      simp [e]
theorem Rel.act (h : Rel st r) (ho : st.off = false) : Rel st.act r.act := by
  have hg := h.goes ho
  unfold Pl.St.act Rf.R.act
  rw [hg]
  cases hs : st.goes
  · exact ⟨h.safe, h.wet, rfl, h.acts, h.armed, h.free⟩
  · refine ⟨h.safe, h.wet, h.off, by show r.acts + 1 = st.acts + 1; rw [h.acts], fun ha => ?_, fun ha => ?_⟩
    · obtain ⟨h1, h2, h3⟩ := h.armed ha
      have ha' : st.armed = true := ha
      have hn : st.left ≠ 0 := by
        intro e
        unfold Pl.St.goes at hs
        rw [ha', e] at hs
        exact absurd hs (by decide)
      refine ⟨?_, ?_, h3⟩
      · show (if 0 < r.left then r.left - 1 else r.left) = (if st.armed then st.left - 1 else st.left)
        rw [if_pos (by omega), if_pos ha', h1]
      · show 0 ≤ (if st.armed then st.left - 1 else st.left)
        rw [if_pos ha']; omega
    · have := h.free ha
      show (if 0 < r.left then r.left - 1 else r.left) = -1
      rw [if_neg (by omega)]; exact this
theorem Rel.rest (h : Rel st r) (ho : st.off = true) : r.goes = false ∧ r.act = r := by
  have hg : r.goes = false := by unfold Rf.R.goes; rw [h.off, ho]; rfl
  refine ⟨hg, ?_⟩
  unfold Rf.R.act
  rw [hg]
  have h2 := h.off
  rw [ho] at h2
  obtain ⟨_, _, _, _, off, _⟩ := r
  simp only at h2
  subst h2
  rfl
theorem Rel.read (h : Rel st r) (i : Int) : r.read i = st.read i := by unfold Rf.R.read Pl.St.read; rw [h.safe, h.wet]
theorem Rel.laid (h : Rel st r) (i : Int) (s : List Int) : Rel (st.lay i s) (r.laid i s) := ⟨h.safe, by show r.wet ++ _ = st.wet ++ _; rw [h.wet], h.off, h.acts, h.armed, h.free⟩
theorem Rel.keep (h : Rel st r) (n : Nat) : Rel (st.settle n) (r.keep n) := ⟨by show Pl.keep _ _ = Pl.keep _ _; rw [h.safe, h.wet], rfl, h.off, h.acts, h.armed, h.free⟩
theorem Rel.flush (h : Rel st r) : Rel st.flush r.flush ∧ st.flushE = r.flushE := by
  unfold Pl.St.flush Rf.R.flush Pl.St.flushE Rf.R.flushE
  cases ho : st.off
  · rw [h.goes ho]
    cases hs : st.goes
    · exact ⟨h.act ho, rfl⟩
    · refine ⟨?_, rfl⟩
      show Rel (st.act.settle st.wet.length) (r.act.keep r.wet.length)
      rw [h.wet]
      exact (h.act ho).keep _
  · obtain ⟨h1, h2⟩ := h.rest ho
    rw [h1, h2]
    exact ⟨h, rfl⟩
theorem Rel.fall (h : Rel st r) (n : Int) : Rel (st.fall n) (r.fall n) := by
  unfold Pl.St.fall Rf.R.fall
  rw [h.wet]
  have hk := h.keep (min (max n 0) st.wet.length).toNat
  exact ⟨hk.safe, hk.wet, rfl, hk.acts, fun ha => (by have hx : false = true := ha; cases hx), fun _ => rfl⟩
theorem Rel.arm (h : Rel st r) (a s : Int) : Rel (st.arm a s) (r.arm a s) := by
  refine ⟨h.safe, h.wet, h.off, h.acts, fun ha => ?_, fun ha => ?_⟩
  · have h0 : 0 ≤ a := by simpa [Pl.St.arm] using ha
    refine ⟨?_, h0, rfl⟩
    show (if a < 0 then -1 else a) = a
    rw [if_neg (by omega)]
  · have h0 : a < 0 := by simpa [Pl.St.arm] using ha
    show (if a < 0 then -1 else a) = -1
    rw [if_pos h0]
theorem Rel.bad (h : Rel st r) (i : Int) (b : List Int) : r.bad i b ↔ (st.there i = false ∨ 64 < b.length) := by
  unfold Rf.R.bad Pl.St.there
  rw [h.safe]
  simp only [Bool.and_eq_false_iff, decide_eq_false_iff_not]
  omega
theorem Rel.put (h : Rel st r) (i : Int) (b : List Int) : Rel (st.put i b) (r.put i b) ∧ st.putE i b = r.putE i b := by
  by_cases hb : st.there i = false ∨ 64 < b.length
  · rw [(put_no hb).1, (put_no hb).2, (rput_bad ((h.bad i b).2 hb)).1, (rput_bad ((h.bad i b).2 hb)).2]
    exact ⟨h, rfl⟩
  · have hb' : ¬ r.bad i b := fun hx => hb ((h.bad i b).1 hx)
    cases ho : st.off
    · cases hs : st.goes
      · have hg : r.goes = false := by rw [h.goes ho]; exact hs
        have hro : r.off = false := by rw [h.off]; exact ho
        have ha : st.armed = true := by
          cases e : st.armed
          · unfold Pl.St.goes at hs; rw [e] at hs; exact absurd hs (by simp)
          · rfl
        obtain ⟨_, _, h3⟩ := h.armed ha
        have hsp : st.act.spare = st.spare := by unfold Pl.St.act; rw [hs]; rfl
        rw [(put_stops hb ho hs).1, (put_stops hb ho hs).2]
        unfold Pl.St.tear
        rw [hsp]
        by_cases hz : 0 < r.spare
        · rw [(rput_torn hb' hg hro hz).1, (rput_torn hb' hg hro hz).2, if_neg (by omega)]
          refine ⟨?_, rfl⟩
          have ht : r.torn i b = Pl.torn st.spare (Pl.pad b) (st.act.read i) := by
            unfold Rf.R.torn Pl.torn headed
            rw [h.read, show st.act.read i = st.read i by unfold Pl.St.act; rw [hs]; rfl, h3, show (min (max r.spare 0) 64).toNat = min 64 r.spare.toNat by omega]
          rw [ht]
          exact (h.act ho).laid _ _
        · rw [(rput_none hb' hg (by rintro ⟨_, hx⟩; exact hz hx)).1, (rput_none hb' hg (by rintro ⟨_, hx⟩; exact hz hx)).2, if_pos (by omega)]
          exact ⟨h.act ho, rfl⟩
      · have hg : r.goes = true := by rw [h.goes ho]; exact hs
        rw [(put_goes hb ho hs).1, (put_goes hb ho hs).2, (rput_goes hb' hg).1, (rput_goes hb' hg).2]
        exact ⟨(h.act ho).laid _ _, rfl⟩
    · obtain ⟨h1, h2⟩ := h.rest ho
      have hro : r.off = true := by rw [h.off]; exact ho
      rw [(put_off hb ho).1, (put_off hb ho).2, (rput_none hb' h1 (by rw [hro]; simp)).1, (rput_none hb' h1 (by rw [hro]; simp)).2, h2]
      exact ⟨h, rfl⟩
theorem Rel.ac (h : Rel st r) (a : Ac) : Rel (a.st st) (a.rf r) ∧ (a.stE st == a.rfE r) = true := by
  unfold Ac.st Ac.rf Ac.stE Ac.rfE
  by_cases h45 : a.k % 8 = 4 ∨ a.k % 8 = 5
  · rw [if_pos h45, if_pos h45, if_pos h45, if_pos h45]
    exact ⟨h.flush.1, by rw [h.flush.2]; simp⟩
  · rw [if_neg h45, if_neg h45, if_neg h45, if_neg h45]
    by_cases h6 : a.k % 8 = 6
    · rw [if_pos h6, if_pos h6, if_pos h6, if_pos h6]
      exact ⟨h.arm _ _, rfl⟩
    · rw [if_neg h6, if_neg h6, if_neg h6, if_neg h6]
      by_cases h7 : a.k % 8 = 7
      · rw [if_pos h7, if_pos h7, if_pos h7, if_pos h7]
        exact ⟨h.fall _, rfl⟩
      · rw [if_neg h7, if_neg h7, if_neg h7, if_neg h7]
        exact ⟨(h.put _ _).1, by rw [(h.put _ _).2]; simp⟩
end
theorem rel_new (n : Int) : Rel (Pl.St.new n) (Rf.R.new n) := ⟨rfl, rfl, rfl, rfl, fun h => (by have hx : false = true := h; cases hx), fun _ => rfl⟩
end Go.Proofs.Ytlbodpffkdfllaa
