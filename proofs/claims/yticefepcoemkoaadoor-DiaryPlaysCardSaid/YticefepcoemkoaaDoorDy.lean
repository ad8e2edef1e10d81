/-
  Diaries, pure: a plate that doesn't stop, as sectors by their places; a half's bytes. No program, no memory.
-/
import Derived.Test.YticefepcoemkoaaDoorPl
import Derived.Test.YticefepcoemkoaaDoorSlTurn
namespace Go.Proofs.YticefepcoemkoaaDoor
namespace Pl
/-- It hasn't stopped, and won't. -/
def Calm (st : St) : Prop := st.off = false ∧ st.armed = false
theorem Calm.goes {st : St} (h : Calm st) : st.goes = true := by simp [St.goes, h.2]
/-- Its sectors are f's. -/
structure Sees (st : St) (N : Nat) (f : Nat → List Int) : Prop where
  calm : Calm st
  size : st.safe.length = N
  reads : ∀ i : Nat, i < N → st.read i = f i
/-- A sector is another one. -/
def up (f : Nat → List Int) (i : Nat) (s : List Int) : Nat → List Int := fun j => if j = i then s else f j
theorem Calm.act {st : St} (h : Calm st) : Calm st.act := by
  unfold St.act; rw [if_pos h.goes]; exact h
theorem Sees.put_eq {st : St} {N : Nat} {f : Nat → List Int} (h : Sees st N f) {i : Nat} {b : List Int} (hi : i < N) (hb : b.length ≤ 64) : st.put i b = st.act.lay i (pad b) := by
  have ht : st.there i = true := there_iff.2 ⟨by omega, by rw [h.size]; omega⟩
  unfold St.put
  rw [if_neg (by rw [ht]; simp; omega), h.calm.1, if_neg (by simp), if_pos h.calm.goes]
theorem Sees.putE {st : St} {N : Nat} {f : Nat → List Int} (h : Sees st N f) {i : Nat} {b : List Int} (hi : i < N) (hb : b.length ≤ 64) : st.putE i b = 0 := by
  have ht : st.there i = true := there_iff.2 ⟨by omega, by rw [h.size]; omega⟩
  unfold St.putE
  rw [if_neg (by rw [ht]; simp; omega), h.calm.1, if_neg (by simp), if_pos h.calm.goes]
theorem Sees.put {st : St} {N : Nat} {f : Nat → List Int} (h : Sees st N f) {i : Nat} {b : List Int} (hi : i < N) (hb : b.length ≤ 64) : Sees (st.put i b) N (up f i (pad b)) := by
  rw [h.put_eq hi hb]
  refine ⟨h.calm.act, by show st.act.safe.length = N; rw [act_safe, h.size], fun j hj => ?_⟩
  show now (st.act.wet ++ [((i : Int), pad b)]) j (st.act.safe.getD (j : Int).toNat zs) = _
  rw [now_snoc, act_wet, act_safe]
  unfold up
  by_cases e : j = i
  · rw [if_pos (by omega), if_pos e]
  · rw [if_neg (by omega), if_neg e]
    exact h.reads j hj
theorem keep_read (safe : List (List Int)) (l : List (Int × List Int)) (hl : ∀ p ∈ l, 0 ≤ p.1 ∧ p.1 < safe.length) (i : Nat) (hi : i < safe.length) : (keep safe l).getD i zs = now l i (safe.getD i zs) := by
  induction l generalizing safe with
  | nil => rfl
  | cons p r ih =>
    have hp := hl p (by simp)
    show (keep (safe.set p.1.toNat p.2) r).getD i zs = now r i (if p.1 = i then p.2 else safe.getD i zs)
    rw [ih _ (fun q hq => by rw [List.length_set]; exact hl q (by simp [hq])) (by rw [List.length_set]; exact hi)]
    congr 1
    rw [List.getD_eq_getElem?_getD, List.getElem?_set]
    by_cases e : p.1 = i
    · rw [if_pos (by omega), if_pos (by omega), if_pos e]; rfl
    · rw [if_neg (by omega), if_neg e, List.getD_eq_getElem?_getD]
theorem Sees.settle {st : St} {N : Nat} {f : Nat → List Int} (h : Sees st N f) (hok : Ok st) {n : Nat} (hn : n = st.wet.length) : Sees (st.settle n) N f := by
  subst hn
  refine ⟨h.calm, by show (keep _ _).length = N; rw [keep_length, h.size], fun j hj => ?_⟩
  show now [] j ((keep st.safe (st.wet.take st.wet.length)).getD (j : Int).toNat zs) = _
  rw [List.take_length, now_nil, Int.toNat_natCast, keep_read st.safe st.wet (fun p hp => ⟨(hok.wet p hp).1, (hok.wet p hp).2.1⟩) j (by rw [h.size]; exact hj)]
  exact h.reads j hj
theorem Sees.flushE {st : St} {N : Nat} {f : Nat → List Int} (h : Sees st N f) : st.flushE = 0 := by
  unfold St.flushE; rw [h.calm.1, if_neg (by simp), if_pos h.calm.goes]
theorem Sees.act {st : St} {N : Nat} {f : Nat → List Int} (h : Sees st N f) : Sees st.act N f := ⟨h.calm.act, by rw [act_safe]; exact h.size, fun j hj => by rw [act_read]; exact h.reads j hj⟩
theorem Sees.flush {st : St} {N : Nat} {f : Nat → List Int} (h : Sees st N f) (hok : Ok st) : Sees st.flush N f ∧ st.flush.wet = [] := by
  have e : st.flush = st.act.settle st.wet.length := by unfold St.flush; rw [h.calm.1, if_neg (by simp), if_pos h.calm.goes]
  rw [e]
  exact ⟨h.act.settle hok.act (by rw [act_wet]), rfl⟩
theorem Sees.fall {st : St} {N : Nat} {f : Nat → List Int} (h : Sees st N f) (hok : Ok st) (hw : st.wet = []) (k : Int) : Sees (st.fall k) N f ∧ (st.fall k).wet = [] := by
  have e : (min (max k 0) st.wet.length).toNat = st.wet.length := by rw [hw]; simp; omega
  have := h.settle hok (n := st.wet.length) rfl
  unfold St.fall
  rw [e]
  exact ⟨⟨⟨rfl, rfl⟩, this.size, this.reads⟩, rfl⟩
theorem Sees.new {n : Nat} : Sees (St.new n) n (fun _ => zs) := by
  refine ⟨⟨rfl, rfl⟩, by simp [St.new], fun i hi => ?_⟩
  show (List.replicate (n : Int).toNat zs).getD (i : Int).toNat zs = zs
  rw [List.getD_eq_getElem?_getD, List.getElem?_replicate]
  split <;> rfl
theorem Sees.sec {st : St} {N : Nat} {f : Nat → List Int} (h : Sees st N f) (hok : Ok st) {i : Nat} (hi : i < N) : Sec (f i) := by
  rw [← h.reads i hi]; exact hok.read i

/-- Some bytes, laid from sector p on. -/
def laid (f : Nat → List Int) (p : Nat) (row : List Int) : Nat → List Int := fun j => if p ≤ j ∧ j < p + (row.length + 63) / 64 then pad ((row.drop ((j - p) * 64)).take 64) else f j
/-- Of these the parts ks. -/
def part (f : Nat → List Int) (p : Nat) (row : List Int) (ks : List Nat) : Nat → List Int := ks.foldl (fun f k => up f (p + k) (pad ((row.drop (k * 64)).take 64))) f
theorem part_snoc (f : Nat → List Int) (p : Nat) (row : List Int) (ks : List Nat) (k : Nat) : part f p row (ks ++ [k]) = up (part f p row ks) (p + k) (pad ((row.drop (k * 64)).take 64)) := by unfold part; rw [List.foldl_append]; rfl
theorem part_at (p : Nat) (row : List Int) (j : Nat) : ∀ (ks : List Nat) (f : Nat → List Int), part f p row ks j = if p ≤ j ∧ j - p ∈ ks then pad ((row.drop ((j - p) * 64)).take 64) else f j := by
  intro ks
  induction ks with
  | nil => intro f; simp [part]
  | cons k r ih =>
    intro f
    show part (up f (p + k) _) p row r j = _
    rw [ih]
    by_cases h1 : p ≤ j ∧ j - p ∈ r
    · rw [if_pos h1, if_pos ⟨h1.1, by simp [h1.2]⟩]
    · rw [if_neg h1]
      unfold up
      by_cases h2 : j = p + k
      · rw [if_pos h2, if_pos ⟨by omega, by simp; left; omega⟩, show j - p = k by omega]
      · rw [if_neg h2, if_neg]
        rintro ⟨h3, h4⟩
        rcases List.mem_cons.1 h4 with h5 | h5
        · omega
        · exact h1 ⟨h3, h5⟩
/-- A half's bytes: sectors from one on. -/
structure Half (f : Nat → List Int) (p n : Nat) (L : List Int) : Prop where
  len : L.length = n * 64
  at_ : ∀ k, k < n → f (p + k) = (L.drop (k * 64)).take 64
/-- Some bytes, and noughts behind them. -/
def full (n : Nat) (l : List Int) : List Int := l ++ List.replicate (n * 64 - l.length) 0
theorem full_len {n : Nat} {l : List Int} (h : l.length ≤ n * 64) : (full n l).length = n * 64 := by unfold full; rw [List.length_append, List.length_replicate]; omega
theorem full_at {n : Nat} {l : List Int} (k : Nat) (hk : k < n) (h : l.length ≤ n * 64) : ((full n l).drop (k * 64)).take 64 = pad ((l.drop (k * 64)).take 64) := by
  unfold full pad
  rw [List.drop_append, List.take_append, List.drop_replicate, List.take_replicate]
  congr 2
  rw [List.length_take, List.length_drop]
  omega
theorem pad_of_len {l : List Int} (h : l.length = 64) : pad l = l := by unfold pad; rw [h]; simp
theorem pad_pad {l : List Int} (h : l.length ≤ 64) : pad (pad l) = pad l := pad_of_len (by simp [pad]; omega)
theorem Half.other {f : Nat → List Int} {p n q : Nat} {L row : List Int} (h : Half f p n L) (hq : q + (row.length + 63) / 64 ≤ p ∨ p + n ≤ q) : Half (laid f q row) p n L :=
  ⟨h.len, fun k hk => by unfold laid; rw [if_neg (by omega)]; exact h.at_ k hk⟩
theorem Half.new (p n : Nat) : Half (fun _ => zs) p n (full n []) := ⟨full_len (by simp), fun k hk => by rw [full_at k hk (by simp), List.drop_nil]; rfl⟩
/-- Behind what is there (up to some place within the first sector that is laid). -/
theorem Half.add {f : Nat → List Int} {p n : Nat} {l s : List Int} (h : Half f p n (full n l)) (hl : l.length + s.length ≤ n * 64) :
    Half (laid f (p + l.length / 64) (l.drop (l.length / 64 * 64) ++ s)) p n (full n (l ++ s)) := by
  refine ⟨full_len (by rw [List.length_append]; exact hl), fun k hk => ?_⟩
  have hm : (l.drop (l.length / 64 * 64) ++ s).length = l.length % 64 + s.length := by rw [List.length_append, List.length_drop]; omega
  rw [full_at k hk (by rw [List.length_append]; exact hl)]
  unfold laid
  rw [hm]
  by_cases h1 : k < l.length / 64
  · rw [if_neg (by omega), h.at_ k hk, full_at k hk (by omega)]
    rw [List.drop_append_of_le_length (by omega), List.take_append_of_le_length (by rw [List.length_drop]; omega)]
  · have e : l ++ s = l.take (l.length / 64 * 64) ++ (l.drop (l.length / 64 * 64) ++ s) := by rw [← List.append_assoc, List.take_append_drop]
    have e2 : (l ++ s).drop (k * 64) = (l.drop (l.length / 64 * 64) ++ s).drop ((p + k - (p + l.length / 64)) * 64) := by
      rw [e, List.drop_append]
      have : (l.take (l.length / 64 * 64)).length = l.length / 64 * 64 := by rw [List.length_take]; omega
      rw [this, List.drop_of_length_le (by rw [this]; omega), List.nil_append]
      congr 1
      omega
    by_cases h2 : k < l.length / 64 + (l.length % 64 + s.length + 63) / 64
    · rw [if_pos (by omega), e2]
    · rw [if_neg (by omega), h.at_ k hk, full_at k hk (by omega)]
      rw [List.drop_of_length_le (by omega), List.drop_of_length_le (by rw [List.length_append]; omega)]
/-- A half that is begun: what is behind the first sector, then that. -/
theorem Half.begin {f : Nat → List Int} {p n : Nat} {s : List Int} (h : Half f p n (full n [])) (hs : 64 < s.length) (hl : s.length ≤ n * 64) :
    Half (laid (laid f (p + 1) (s.drop 64)) (p + 0) (s.take 64)) p n (full n s) := by
  refine ⟨full_len hl, fun k hk => ?_⟩
  rw [full_at k hk hl]
  have h1 : (s.take 64).length = 64 := by rw [List.length_take]; omega
  have h2 : (s.drop 64).length = s.length - 64 := by rw [List.length_drop]
  unfold laid
  rw [h1, h2]
  by_cases e : k = 0
  · subst e
    rw [if_pos (by omega)]
    simp only [Nat.sub_self, Nat.add_zero, Nat.zero_mul, List.drop_zero, List.take_take, Nat.min_self]
  · rw [if_neg (by omega)]
    by_cases e2 : k < 1 + (s.length - 64 + 63) / 64
    · rw [if_pos (by omega), List.drop_drop]
      congr 3
      omega
    · rw [if_neg (by omega), h.at_ k hk, full_at k hk (by simp), List.drop_of_length_le (l := s) (by omega)]
      simp
/-- A half of which all behind a place is made noughts. -/
def wiped (f : Nat → List Int) (p n x : Nat) : Nat → List Int := fun j => if p + x / 64 ≤ j ∧ j < p + n then pad ((f j).take (x - (j - p) * 64)) else f j
theorem Half.wiped {f : Nat → List Int} {p n x : Nat} {L : List Int} (h : Half f p n L) (hx : x ≤ n * 64) : Half (wiped f p n x) p n (full n (L.take x)) := by
  have hl : (L.take x).length = x := by rw [List.length_take, h.len]; omega
  refine ⟨full_len (by omega), fun k hk => ?_⟩
  rw [full_at k hk (by omega)]
  unfold Pl.wiped
  by_cases e : x / 64 ≤ k
  · rw [if_pos (by omega), h.at_ k hk, show p + k - p = k by omega, List.drop_take, List.take_take, List.take_take, Nat.min_comm]
  · rw [if_neg (by omega), h.at_ k hk, List.drop_take, List.take_take, show min 64 (x - k * 64) = 64 by omega]
    rw [pad_of_len]
    rw [List.length_take, List.length_drop, h.len]; omega
theorem Half.wiped_other {f : Nat → List Int} {p n q m x : Nat} {L : List Int} (h : Half f p n L) (hq : q + m ≤ p ∨ p + n ≤ q) : Half (Pl.wiped f q m x) p n L :=
  ⟨h.len, fun k hk => by unfold Pl.wiped; rw [if_neg (by omega)]; exact h.at_ k hk⟩
end Pl
end Go.Proofs.YticefepcoemkoaaDoor
