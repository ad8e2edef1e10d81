/-
  Plates, pure: what they are, as they are safe and with all writes, and what each act makes of them. No program, no memory.
-/
import Derived.WalkKit
namespace Go.Proofs.YticefepcoemkoaaDoor
set_option maxRecDepth 20000
namespace Pl

def zs : List Int := List.replicate 64 0
def pad (b : List Int) : List Int := b ++ List.replicate (64 - b.length) 0
/-- The first n of b, and behind them what was there. -/
def torn (n : Int) (b s : List Int) : List Int := b.take n.toNat ++ s.drop n.toNat
/-- A sector with all writes. -/
def now (wet : List (Int × List Int)) (k : Int) (s : List Int) : List Int := wet.foldl (fun s p => if p.1 = k then p.2 else s) s
/-- Writes that have become safe. -/
def keep (safe : List (List Int)) (l : List (Int × List Int)) : List (List Int) := l.foldl (fun s p => s.set p.1.toNat p.2) safe

structure St where
  safe : List (List Int)
  wet : List (Int × List Int)
  acts : Int
  off : Bool
  armed : Bool
  left : Int
  spare : Int

def St.read (st : St) (i : Int) : List Int := now st.wet i (st.safe.getD i.toNat zs)
def St.goes (st : St) : Bool := !(st.armed && decide (st.left = 0))
def St.act (st : St) : St := if st.goes then { st with left := if st.armed then st.left - 1 else st.left, acts := st.acts + 1 } else { st with off := true }
def St.lay (st : St) (i : Int) (s : List Int) : St := { st with wet := st.wet ++ [(i, s)] }
def St.settle (st : St) (n : Nat) : St := { st with safe := keep st.safe (st.wet.take n), wet := [] }
def St.tear (st : St) (i : Int) (s : List Int) : St := if st.spare = 0 then st else st.lay i (torn st.spare s (st.read i))
def St.there (st : St) (i : Int) : Bool := decide (0 ≤ i) && decide (i < st.safe.length)
def St.put (st : St) (i : Int) (b : List Int) : St :=
  if st.there i = false ∨ 64 < b.length then st else if st.off then st else if st.goes then st.act.lay i (pad b) else st.act.tear i (pad b)
def St.putE (st : St) (i : Int) (b : List Int) : Int :=
  if st.there i = false ∨ 64 < b.length then 1 else if st.off then 7 else if st.goes then 0 else 7
def St.flush (st : St) : St := if st.off then st else if st.goes then st.act.settle st.wet.length else st.act
def St.flushE (st : St) : Int := if st.off then 7 else if st.goes then 0 else 7
def St.fall (st : St) (n : Int) : St := { st.settle (min (max n 0) st.wet.length).toNat with armed := false, off := false }
def St.arm (st : St) (a s : Int) : St := { st with armed := decide (0 ≤ a), left := a, spare := min (max s 0) 64 }
def St.new (n : Int) : St := ⟨List.replicate n.toNat zs, [], 0, false, false, 0, 0⟩

/-- A sector's bytes. -/
def Sec (s : List Int) : Prop := s.length = 64 ∧ ∀ x ∈ s, 0 ≤ x ∧ x < 256
theorem sec_zs : Sec zs := ⟨by simp [zs], fun x hx => by rw [zs, List.mem_replicate] at hx; omega⟩
theorem sec_pad {b : List Int} (h : b.length ≤ 64) (hb : ∀ x ∈ b, 0 ≤ x ∧ x < 256) : Sec (pad b) := by
  refine ⟨by simp [pad]; omega, fun x hx => ?_⟩
  unfold pad at hx
  rcases List.mem_append.1 hx with h | h
  · exact hb x h
  · rw [List.mem_replicate] at h; omega
theorem sec_torn {n : Int} {b s : List Int} (hb : Sec b) (hs : Sec s) (h1 : n ≤ 64) : Sec (torn n b s) := by
  refine ⟨?_, fun x hx => ?_⟩
  · unfold torn; rw [List.length_append, List.length_take, List.length_drop, hb.1, hs.1]; omega
  · unfold torn at hx
    rcases List.mem_append.1 hx with h | h
    · exact hb.2 x (List.mem_of_mem_take h)
    · exact hs.2 x (List.mem_of_mem_drop h)

structure Ok (st : St) : Prop where
  safe : ∀ s ∈ st.safe, Sec s
  wet : ∀ p ∈ st.wet, 0 ≤ p.1 ∧ p.1 < st.safe.length ∧ Sec p.2
  size : st.safe.length ≤ 1000
  acts : 0 ≤ st.acts
  spare : 0 ≤ st.spare ∧ st.spare ≤ 64
  left : st.armed = true → 0 ≤ st.left
  left64 : -9223372036854775808 ≤ st.left ∧ st.left ≤ 9223372036854775807

theorem now_nil (k : Int) (s : List Int) : now [] k s = s := rfl
theorem now_snoc (l : List (Int × List Int)) (i : Int) (b : List Int) (k : Int) (s : List Int) : now (l ++ [(i, b)]) k s = if i = k then b else now l k s := by
  unfold now; rw [List.foldl_append]; rfl
theorem sec_now {l : List (Int × List Int)} (h : ∀ p ∈ l, Sec p.2) (k : Int) : ∀ {s : List Int}, Sec s → Sec (now l k s) := by
  induction l with
  | nil => intro s hs; exact hs
  | cons p r ih =>
    intro s hs
    show Sec (now r k (if p.1 = k then p.2 else s))
    refine ih (fun q hq => h q (by simp [hq])) ?_
    split
    · exact h p (by simp)
    · exact hs
theorem Ok.read {st : St} (h : Ok st) (i : Int) : Sec (st.read i) := by
  refine sec_now (fun p hp => (h.wet p hp).2.2) i ?_
  rw [List.getD_eq_getElem?_getD]
  cases e : st.safe[i.toNat]? with
  | none => exact sec_zs
  | some s => exact h.safe s (List.mem_of_getElem? e)

theorem keep_length (safe : List (List Int)) (l : List (Int × List Int)) : (keep safe l).length = safe.length := by
  unfold keep
  induction l generalizing safe with
  | nil => rfl
  | cons p r ih => rw [List.foldl_cons, ih, List.length_set]
theorem keep_snoc (safe : List (List Int)) (l : List (Int × List Int)) (p : Int × List Int) : keep safe (l ++ [p]) = (keep safe l).set p.1.toNat p.2 := by
  unfold keep; rw [List.foldl_append]; rfl
theorem keep_ok {safe : List (List Int)} {l : List (Int × List Int)} (h : ∀ s ∈ safe, Sec s) (hl : ∀ p ∈ l, Sec p.2) : ∀ s ∈ keep safe l, Sec s := by
  unfold keep
  induction l generalizing safe with
  | nil => exact h
  | cons p r ih =>
    rw [List.foldl_cons]
    refine ih (fun s hs => ?_) fun q hq => hl q (by simp [hq])
    rcases List.mem_or_eq_of_mem_set hs with h' | h'
    · exact h s h'
    · rw [h']; exact hl p (by simp)

theorem act_safe (st : St) : st.act.safe = st.safe := by unfold St.act; split <;> rfl
theorem act_wet (st : St) : st.act.wet = st.wet := by unfold St.act; split <;> rfl
theorem act_read (st : St) (i : Int) : st.act.read i = st.read i := by unfold St.read; rw [act_safe, act_wet]
theorem act_spare (st : St) : st.act.spare = st.spare := by unfold St.act; split <;> rfl
theorem Ok.act {st : St} (h : Ok st) : Ok st.act := by
  obtain ⟨h1, h2, h3, h4, h5, h6, h7⟩ := h
  unfold St.act
  split
  · rename_i hg
    refine ⟨h1, h2, h3, by show 0 ≤ st.acts + 1; omega, h5, fun ha => ?_, ?_⟩
    · have ha' : st.armed = true := ha
      have := h6 ha'
      simp [St.goes, ha'] at hg
      show 0 ≤ if st.armed then st.left - 1 else st.left
      rw [ha', if_pos rfl]; omega
    · show _ ≤ (if st.armed then st.left - 1 else st.left) ∧ (if st.armed then st.left - 1 else st.left) ≤ _
      by_cases ha : st.armed = true
      · have := h6 ha; rw [if_pos ha]; omega
      · rw [if_neg ha]; omega
  · exact ⟨h1, h2, h3, h4, h5, h6, h7⟩
theorem Ok.lay {st : St} (h : Ok st) {i : Int} {s : List Int} (h0 : 0 ≤ i) (h1 : i < st.safe.length) (hs : Sec s) : Ok (st.lay i s) :=
  ⟨h.safe, fun p hp => by
    rcases List.mem_append.1 hp with hp | hp
    · exact h.wet p hp
    · rw [List.mem_singleton] at hp; subst hp; exact ⟨h0, h1, hs⟩, h.size, h.acts, h.spare, h.left, h.left64⟩
theorem Ok.settle {st : St} (h : Ok st) (n : Nat) : Ok (st.settle n) :=
  ⟨keep_ok h.safe fun p hp => (h.wet p (List.mem_of_mem_take hp)).2.2, fun p hp => (nomatch hp), by show (keep _ _).length ≤ _; rw [keep_length]; exact h.size, h.acts, h.spare, h.left, h.left64⟩
theorem there_iff {st : St} {i : Int} : st.there i = true ↔ 0 ≤ i ∧ i < st.safe.length := by simp [St.there]
theorem Ok.tear {st : St} (h : Ok st) {i : Int} {s : List Int} (h0 : 0 ≤ i) (h1 : i < st.safe.length) (hs : Sec s) : Ok (st.tear i s) := by
  unfold St.tear
  split
  · exact h
  · exact h.lay h0 h1 (sec_torn hs (h.read i) h.spare.2)
theorem Ok.put {st : St} (h : Ok st) {i : Int} {b : List Int} (hb : ∀ x ∈ b, 0 ≤ x ∧ x < 256) : Ok (st.put i b) := by
  unfold St.put
  split
  · exact h
  · rename_i hn
    have ht : st.there i = true := by
      cases e : st.there i
      · exact absurd (.inl e) hn
      · rfl
    have hl : b.length ≤ 64 := by
      rcases Nat.lt_or_ge 64 b.length with h' | h'
      · exact absurd (.inr h') hn
      · exact h'
    obtain ⟨h0, h1⟩ := there_iff.1 ht
    split
    · exact h
    · split
      · exact h.act.lay h0 (by rw [act_safe]; exact h1) (sec_pad hl hb)
      · exact h.act.tear h0 (by rw [act_safe]; exact h1) (sec_pad hl hb)
theorem Ok.flush {st : St} (h : Ok st) : Ok st.flush := by
  unfold St.flush
  split
  · exact h
  · split
    · exact h.act.settle _
    · exact h.act
theorem Ok.fall {st : St} (h : Ok st) (n : Int) : Ok (st.fall n) := by
  obtain ⟨h1, h2, h3, h4, h5, h6, h7⟩ := h.settle (min (max n 0) st.wet.length).toNat
  exact ⟨h1, h2, h3, h4, h5, fun e => (nomatch e), h7⟩
theorem Ok.arm {st : St} (h : Ok st) (a s : Int) (h0 : -9223372036854775808 ≤ a) (h1 : a ≤ 9223372036854775807) : Ok (st.arm a s) := by
  refine ⟨h.safe, h.wet, h.size, h.acts, ?_, fun e => by simpa [St.arm] using e, ⟨h0, h1⟩⟩
  show 0 ≤ min (max s 0) 64 ∧ min (max s 0) 64 ≤ 64
  omega
theorem ok_new {n : Int} (h : n ≤ 1000) : Ok (St.new n) := by
  refine ⟨fun s hs => ?_, fun p hp => (nomatch hp), (by simp [St.new]; omega), by simp [St.new], by simp [St.new], fun e => (nomatch e), by simp [St.new]⟩
  simp only [St.new, List.mem_replicate] at hs
  rw [hs.2]; exact sec_zs
end Pl
end Go.Proofs.YticefepcoemkoaaDoor
