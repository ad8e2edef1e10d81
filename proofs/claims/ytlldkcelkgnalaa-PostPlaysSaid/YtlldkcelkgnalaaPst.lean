/-
  Letters under way: a post's words, how many there are, and which one is meant. No conditions but the sizes.
-/
import Derived.Test.YtlldkcelkgnalaaPartyKit
import Derived.Test.YtlldkcelkgnalaaBuf
import Derived.Deep.MidRow
import Derived.IntWalk
namespace Go.Proofs.Ytlldkcelkgnalaa
set_option maxRecDepth 20000
open Go.ChangeShapes Go.WideShapes Go.ChangeAt Go.RowKit

/-- A walk stops where this is asked. -/
structure Hid3 (p : Prop) : Prop where
  out : p
theorem stop3 {p : Prop} (h : Hid3 p) : p := h.out
/-! Pure: letters are to whom, and bytes. -/
abbrev Ltr := Int × List Int
namespace Pst
/-- Which one is meant: modulo how many there are. -/
def pl (n : Nat) (i : Int) : Nat := ((i.tmod n + n).tmod n).toNat
def out (st : List Ltr) (k : Nat) : List Ltr := st.take k ++ st.drop (k + 1)
def send (st : List Ltr) (x : Ltr) : List Ltr := (if st.length = 512 then out st 0 else st) ++ [x]
theorem tmod_lt (i : Int) (n : Nat) (h : 0 < n) : -(n : Int) < i.tmod n ∧ i.tmod n < n := by
  have h1 := Int.tmod_lt_of_pos i (show (0 : Int) < n by omega)
  have h2 := Int.lt_tmod_of_pos i (show (0 : Int) < n by omega)
  exact ⟨h2, h1⟩
theorem pl_eq (n : Nat) (i : Int) (h : 0 < n) : (i.tmod n + n).tmod n = (pl n i : Nat) := by
  have h1 := tmod_lt i n h
  unfold pl
  rw [Int.toNat_of_nonneg]
  exact Int.tmod_nonneg _ (by omega)
theorem pl_lt (n : Nat) (i : Int) (h : 0 < n) : pl n i < n := by
  have h1 := tmod_lt (i.tmod n + n) n h
  have h2 := pl_eq n i h
  omega
theorem out_len {st : List Ltr} {k : Nat} (h : k < st.length) : (out st k).length = st.length - 1 := by unfold out; rw [List.length_append, List.length_take, List.length_drop]; omega
theorem send_len {st : List Ltr} {x : Ltr} (h : st.length ≤ 512) : (send st x).length ≤ 512 := by
  unfold send
  split
  · rw [List.length_append, out_len (by omega)]; simp; omega
  · rw [List.length_append]; simp; omega
end Pst
/-- Letters as cells: to whom, and a slice. -/
def lcl (rs : List (Int × Value)) : List Value := rs.flatMap fun p => [.int .u8 p.1, p.2]
theorem lcl_append (a b : List (Int × Value)) : lcl (a ++ b) = lcl a ++ lcl b := by simp [lcl]
theorem lcl_len (l : List (Int × Value)) : (lcl l).length = l.length * 2 := by
  induction l with
  | nil => rfl
  | cons p r ih => simp only [lcl, List.flatMap_cons, List.length_append, List.length_cons, List.length_nil] at ih ⊢; omega
theorem lcl_at {l : List (Int × Value)} {i : Nat} {p : Int × Value} (h : l[i]? = some p) : (lcl l)[i * 2]? = some (.int .u8 p.1) ∧ (lcl l)[i * 2 + 1]? = some p.2 := by
  induction l generalizing i with
  | nil => simp at h
  | cons q r ih =>
    cases i with
    | zero => simp at h; subst h; exact ⟨rfl, rfl⟩
    | succ i =>
      simp at h
      have := ih h
      have e : lcl (q :: r) = .int .u8 q.1 :: q.2 :: lcl r := rfl
      rw [e]
      refine ⟨?_, ?_⟩
      · rw [show (i + 1) * 2 = i * 2 + 2 by omega]; exact this.1
      · rw [show (i + 1) * 2 + 1 = (i * 2 + 1) + 2 by omega]; exact this.2
theorem lcl_take (l : List (Int × Value)) (k : Nat) : lcl (l.take k) = (lcl l).take (k * 2) := by
  induction l generalizing k with
  | nil => simp [lcl]
  | cons q r ih =>
    cases k with
    | zero => rfl
    | succ k =>
      have e : lcl (q :: r) = .int .u8 q.1 :: q.2 :: lcl r := rfl
      rw [e, show (k + 1) * 2 = k * 2 + 1 + 1 by omega, List.take_succ_cons, List.take_succ_cons, List.take_succ_cons, ← ih]; rfl
theorem lcl_drop (l : List (Int × Value)) (k : Nat) : lcl (l.drop k) = (lcl l).drop (k * 2) := by
  induction l generalizing k with
  | nil => simp [lcl]
  | cons q r ih =>
    cases k with
    | zero => rfl
    | succ k =>
      have e : lcl (q :: r) = .int .u8 q.1 :: q.2 :: lcl r := rfl
      rw [e, show (k + 1) * 2 = k * 2 + 1 + 1 by omega, List.drop_succ_cons, List.drop_succ_cons, List.drop_succ_cons, ← ih]

/-- A slice of bytes, in a block of bytes that is its own (F: of those), or none where there are no bytes. -/
def Bts (w : World) (F : Nat → Prop) (v : Value) (l : List Int) : Prop :=
  ∃ A c, v = .slice A l.length c ∧ l.length ≤ c ∧ c ≤ maxLen ∧ (l ≠ [] → ∃ b cs fr, A = some ⟨b, 0, none⟩ ∧ F b ∧ w.heap[b]? = some (.cells cs 5 fr) ∧ cs.toList.take l.length = cl .u8 l)
/-- Blocks of bytes stay. -/
def KeepU (w w' : World) : Prop := ∀ (b : Nat) (cs : Array Value) (fr : Nat × Nat), w.heap[b]? = some (.cells cs 5 fr) → w'.heap[b]? = some (.cells cs 5 fr)
theorem KeepU.refl (w : World) : KeepU w w := fun _ _ _ h => h
theorem KeepU.trans {a b c : World} (h : KeepU a b) (k : KeepU b c) : KeepU a c := fun i cs fr e => k i cs fr (h i cs fr e)
theorem KeepU.below {w w' : World} (h : Below w.heap.size w w')   : KeepU w w' := fun i _ _ e => (h.block i (Array.getElem?_eq_some_iff.1 e).1).trans e
theorem KeepU.boxed {w : World} {B : Nat} {cs cs' : Array Value} {t : TypeId} (hb : w.heap[B]? = some (.cells cs' t (0, 0))) (ht : t ≠ 5) : KeepU w (Go.Proofs.Ytlldkcelkgnalaa.boxed w B cs t) := fun i c fr e => by
  refine (boxed_block_other ?_).trans e
  rintro rfl
  rw [hb] at e
  injection e with e
  injection e with _ e
  exact ht e
theorem KeepU.alloc {w w' : World} (h : KeepU w w') (o : Obj) : KeepU w (w'.alloc o) := h.trans fun _ _ _ e => (alloc_block_old (Array.getElem?_eq_some_iff.1 e).1).trans e
theorem KeepU.drewN {w w' : World} (h : KeepU w w') (n : Nat) : KeepU w (w'.drewN n) := h
theorem KeepU.drew {w w' : World} (h : KeepU w w') : KeepU w w'.drew := h
theorem Bts.keep {w w' : World} {F F' : Nat → Prop} {v : Value} {l : List Int} (h : Bts w F v l) (hk : KeepU w w') (hF : ∀ i, F i → F' i) : Bts w' F' v l := by
  obtain ⟨A, c, e, h1, h2, h3⟩ := h
  refine ⟨A, c, e, h1, h2, fun hl => ?_⟩
  obtain ⟨b, cs, fr, e1, e2, e3, e4⟩ := h3 hl
  exact ⟨b, cs, fr, e1, hF b e2, hk b cs fr e3, e4⟩
theorem Bts.kept {w w' : World} {F : Nat → Prop} {v : Value} {l : List Int} (h : Bts w F v l) (hk : ∀ i, F i → w'.heap[i]? = w.heap[i]?) : Bts w' F v l := by
  obtain ⟨A, c, e, h1, h2, h3⟩ := h
  refine ⟨A, c, e, h1, h2, fun hl => ?_⟩
  obtain ⟨b, cs, fr, e1, e2, e3, e4⟩ := h3 hl
  exact ⟨b, cs, fr, e1, e2, (hk b e2).trans e3, e4⟩
/-- What it reads as. -/
theorem Bts.rd {w : World} {F : Nat → Prop} {v : Value} {l : List Int} (h : Bts w F v l) : ∃ A c, v = .slice A l.length c ∧ l.length ≤ c ∧ c ≤ maxLen ∧ Rd w .u8 w.heap.size A l := by
  obtain ⟨A, c, e, h1, h2, h3⟩ := h
  refine ⟨A, c, e, h1, h2, fun hl => ?_⟩
  obtain ⟨b, cs, fr, rfl, _, e3, e4⟩ := h3 hl
  refine ⟨_, rfl, (Array.getElem?_eq_some_iff.1 e3).1, fun j u hu => ?_⟩
  rw [ad_head, cell_of_row _ _ _ _ _ _ e3]
  exact cur_at e4 hu
theorem Bts.own {w : World} {base : Nat} {F : Nat → Prop} {v : Value} {l : List Int} (h : w.ownsRow base 5 1 v l.length (cl .u8 l)) (hF : ∀ i, base ≤ i → i < w.heap.size → F i) : Bts w F v l := by
  rcases h.2 with ⟨rfl, hn⟩ | ⟨g, cap, cur, rfl, hb, hg, h1, h2, h3, h4⟩
  · exact ⟨none, 0, by rw [hn], by rw [hn]; exact Nat.le_refl _, Nat.zero_le _, fun hl => absurd (List.eq_nil_of_length_eq_zero hn) hl⟩
  · exact ⟨_, cap, rfl, h1, h2, fun _ => ⟨g, cur, (0, 0), rfl, hF g hb (Array.getElem?_eq_some_iff.1 hg).1, hg, by rw [Nat.mul_one] at h4; exact h4⟩⟩
theorem Bts.mono {w : World} {F F' : Nat → Prop} {v : Value} {l : List Int} (h : Bts w F v l) (hF : ∀ i, F i → F' i) : Bts w F' v l := h.keep (KeepU.refl w) hF

/-- Letters: their cells tell of whom, and what. -/
def Lets (w : World) (F : Nat → Prop) (rs : List (Int × Value)) (st : List Ltr) : Prop := rs.length = st.length ∧ ∀ (i : Nat) (p : Int × Value) (s : Ltr), rs[i]? = some p → st[i]? = some s → p.1 = s.1 ∧ Bts w F p.2 s.2
theorem Lets.keep {w w' : World} {F F' : Nat → Prop} {rs : List (Int × Value)} {st : List Ltr} (h : Lets w F rs st) (hk : KeepU w w') (hF : ∀ i, F i → F' i) : Lets w' F' rs st := ⟨h.1, fun i p s hp hs => ⟨(h.2 i p s hp hs).1, (h.2 i p s hp hs).2.keep hk hF⟩⟩
theorem Lets.kept {w w' : World} {F : Nat → Prop} {rs : List (Int × Value)} {st : List Ltr} (h : Lets w F rs st) (hk : ∀ i, F i → w'.heap[i]? = w.heap[i]?) : Lets w' F rs st := ⟨h.1, fun i p s hp hs => ⟨(h.2 i p s hp hs).1, (h.2 i p s hp hs).2.kept hk⟩⟩
theorem Lets.nil (w : World) (F : Nat → Prop) : Lets w F [] [] := ⟨rfl, fun i p s hp => by simp at hp⟩
theorem Lets.at_ {w : World} {F : Nat → Prop} {rs : List (Int × Value)} {st : List Ltr} (h : Lets w F rs st) {i : Nat} {s : Ltr} (hs : st[i]? = some s) : ∃ v, rs[i]? = some (s.1, v) ∧ Bts w F v s.2 := by
  have hlt : i < rs.length := by rw [h.1]; exact (List.getElem?_eq_some_iff.1 hs).1
  have hp := List.getElem?_eq_getElem hlt
  have h2 := h.2 i _ s hp hs
  exact ⟨rs[i].2, by rw [hp, ← h2.1], h2.2⟩
theorem Lets.append {w : World} {F : Nat → Prop} {rs rs' : List (Int × Value)} {st st' : List Ltr} (h : Lets w F rs st) (h' : Lets w F rs' st') : Lets w F (rs ++ rs') (st ++ st') := by
  refine ⟨by rw [List.length_append, List.length_append, h.1, h'.1], fun i p s hp hs => ?_⟩
  by_cases hi : i < rs.length
  · rw [List.getElem?_append_left hi] at hp
    rw [List.getElem?_append_left (by rw [← h.1]; exact hi)] at hs
    exact h.2 i p s hp hs
  · rw [List.getElem?_append_right (by omega)] at hp
    rw [List.getElem?_append_right (by rw [← h.1]; omega), ← h.1] at hs
    exact h'.2 _ p s hp hs
theorem Lets.take {w : World} {F : Nat → Prop} {rs : List (Int × Value)} {st : List Ltr} (h : Lets w F rs st) (k : Nat) : Lets w F (rs.take k) (st.take k) := by
  refine ⟨by rw [List.length_take, List.length_take, h.1], fun i p s hp hs => ?_⟩
  rw [List.getElem?_take] at hp hs
  split at hp
  · rename_i hk; rw [if_pos hk] at hs; exact h.2 i p s hp hs
  · cases hp
theorem Lets.drop {w : World} {F : Nat → Prop} {rs : List (Int × Value)} {st : List Ltr} (h : Lets w F rs st) (k : Nat) : Lets w F (rs.drop k) (st.drop k) := by
  refine ⟨by rw [List.length_drop, List.length_drop, h.1], fun i p s hp hs => ?_⟩
  rw [List.getElem?_drop] at hp hs
  exact h.2 _ p s hp hs
theorem Lets.one {w : World} {F : Nat → Prop} {a : Int} {v : Value} {l : List Int} (h : Bts w F v l) : Lets w F [(a, v)] [(a, l)] := by
  refine ⟨rfl, fun i p s hp hs => ?_⟩
  cases i with
  | zero => simp at hp hs; subst hp hs; exact ⟨rfl, h⟩
  | succ i => simp at hp
theorem Bts.oneCell {w : World} {F : Nat → Prop} {v : Value} {l : List Int} (h : Bts w F v l) : v.oneCell' = true := by obtain ⟨A, c, rfl, _⟩ := h; rfl
theorem Lets.one_cell {w : World} {F : Nat → Prop} {rs : List (Int × Value)} {st : List Ltr} (h : Lets w F rs st) : ∀ u ∈ lcl rs, u.oneCell' = true := by
  intro u hu
  obtain ⟨p, hp, hu⟩ := List.mem_flatMap.1 hu
  obtain ⟨i, hi, rfl⟩ := List.getElem_of_mem hp
  simp only [List.mem_cons, List.not_mem_nil, or_false] at hu
  rcases hu with rfl | rfl
  · rfl
  · have hs := List.getElem?_eq_getElem (show i < st.length by rw [← h.1]; exact hi)
    exact (h.2 i _ _ (List.getElem?_eq_getElem hi) hs).2.oneCell

/-- A row of letters that has room for as many as it says, or more. -/
def Lrow (w : World) (v : Value) (n : Nat) (xs : List Value) : Prop :=
  xs.length = n * 2 ∧ ((v = .slice none 0 0 ∧ n = 0) ∨ ∃ g cap cur, v = .slice (some ⟨g, 0, none⟩) n cap ∧ w.heap[g]? = some (.cells cur 31 (0, 0)) ∧ n ≤ cap ∧ cap ≤ maxLen ∧ cap * 2 ≤ cur.size ∧ cur.toList.take (n * 2) = xs)
theorem Lrow.of_own {w : World} {base : Nat} {v : Value} {n : Nat} {xs : List Value} (h : w.ownsRow base 31 2 v n xs) : Lrow w v n xs := by
  refine ⟨h.1, ?_⟩
  rcases h.2 with h1 | ⟨g, cap, cur, e, _, hg, h1, h2, h3, h4⟩
  · exact .inl h1
  · exact .inr ⟨g, cap, cur, e, hg, h1, h2, by omega, h4⟩
theorem Lrow.kept {w w' : World} {v : Value} {n : Nat} {xs : List Value} (h : Lrow w v n xs) (hk : ∀ i, v.ownBlock = some i → w'.heap[i]? = w.heap[i]?) : Lrow w' v n xs := by
  refine ⟨h.1, ?_⟩
  rcases h.2 with h1 | ⟨g, cap, cur, rfl, hg, h1⟩
  · exact .inl h1
  · exact .inr ⟨g, cap, cur, rfl, (hk g rfl).trans hg, h1⟩
theorem Lrow.form {w : World} {v : Value} {n : Nat} {xs : List Value} (h : Lrow w v n xs) : ∃ A c, v = .slice A n c ∧ n ≤ c ∧ c ≤ maxLen := by
  rcases h.2 with ⟨rfl, rfl⟩ | ⟨g, cap, cur, rfl, _, h1, h2, _⟩
  · exact ⟨none, 0, rfl, Nat.le_refl _, Nat.zero_le _⟩
  · exact ⟨_, _, rfl, h1, h2⟩
theorem Lrow.lt {w : World} {v : Value} {n : Nat} {xs : List Value} (h : Lrow w v n xs) : ∀ i, v.ownBlock = some i → i < w.heap.size := by
  intro i hi
  rcases h.2 with ⟨rfl, _⟩ | ⟨g, cap, cur, rfl, hg, _⟩
  · simp [Value.ownBlock] at hi
  · simp [Value.ownBlock] at hi; subst hi; exact (Array.getElem?_eq_some_iff.1 hg).1
theorem Lrow.ne {w : World} {v : Value} {n : Nat} {xs : List Value} (h : Lrow w v n xs) {g : Nat} {cs : Array Value} {t : TypeId} {fr : Nat × Nat} (hg : w.heap[g]? = some (.cells cs t fr)) (ht : 31 ≠ t) : v.ownBlock ≠ some g := by
  rcases h.2 with ⟨rfl, _⟩ | ⟨g', cap, cur, rfl, hh, _⟩
  · simp [Value.ownBlock]
  · intro he
    have : g' = g := by simpa [Value.ownBlock] using he
    subst this
    rw [hh] at hg
    injection hg with hg
    injection hg with _ e _
    exact ht e
theorem Lrow.cell {w : World} {v : Value} {n : Nat} {xs : List Value} (h : Lrow w v n xs) {g c : Nat} (hv : v = .slice (some ⟨g, 0, none⟩) n c) : ∀ j u, xs[j]? = some u → w.cell? ⟨g, j, none⟩ = some u := by
  intro j u hu
  rcases h.2 with ⟨e, _⟩ | ⟨g', cap, cur, e, hh, _, _, _, ht⟩
  · rw [e] at hv; injection hv with hv; cases hv
  · rw [e] at hv
    injection hv with hv
    injection hv with hv
    injection hv with hv
    subst hv
    rw [cell_of_row _ _ _ _ _ _ hh]
    rw [← ht, List.getElem?_take] at hu
    split at hu
    · rwa [Array.getElem?_toList] at hu
    · cases hu
/-- Not empty: its block. -/
theorem Lrow.some_ {w : World} {v : Value} {n : Nat} {xs : List Value} (h : Lrow w v n xs) (hn : 0 < n) : ∃ g cap cur, v = .slice (some ⟨g, 0, none⟩) n cap ∧ w.heap[g]? = some (.cells cur 31 (0, 0)) ∧ n ≤ cap ∧ cap ≤ maxLen ∧ cap * 2 ≤ cur.size ∧ cur.toList.take (n * 2) = xs := by
  rcases h.2 with ⟨_, e⟩ | h1
  · omega
  · exact h1
/-- append to it, whatever is appended. -/
theorem Lrow.append {P : Program} {w : World} {t ty : TypeId} {i : TypeInfo} {z : Value} {bytes : Nat} (ht : P.underlying t = some (.slice 31)) (hi : P.info? 31 = some i) (hz : i.zero = some z)
    (hsize : i.size = 2) (hby : i.bytes = bytes) (hzs : z.cells.size = 2) {v : Value} {n : Nat} {xs : List Value} (hown : Lrow w v n xs)
    {a : Addr} {m c : Nat} {news : List Value} (hl : news.length = m * 2) (hnews : ∀ j u, news[j]? = some u → w.cell? (a.add j) = some u) (h1 : ∀ u ∈ news, u.oneCell' = true)
    (h63 : n + m ≤ 100000) (hbb : bytes ≤ 100) :
    ∃ v' w', (Builtin.append_ #[t, t] ty #[v, .slice (some a) m c]).run P w = .ok v' w' ∧ Lrow w' v' (n + m) (xs ++ news) ∧ w.grownBy w' v.ownBlock ∧ (v'.ownBlock = v.ownBlock ∨ v'.ownBlock = some w.heap.size) := by
  have hmx : n + m ≤ maxLen := by unfold maxLen; omega
  have hbytes : (n + m) * bytes ≤ 140737488355328 := by
    have : (n + m) * bytes ≤ 100000 * 100 := Nat.mul_le_mul h63 hbb
    omega
  rcases hown.2 with ⟨rfl, rfl⟩ | ⟨g, cap, cur, rfl, hg, hnc, hcm, hcs, htake⟩
  · have hx : xs = [] := List.eq_nil_of_length_eq_zero (by simpa using hown.1)
    subst hx
    obtain ⟨v', w', hr, h2, h3, _, h5⟩ := run_append_own_at (P := P) (w := w) 0 t ty 31 i z 2 bytes ht hi hz hsize hby hzs (by decide) _ 0 [] (World.ownsRow_nil w 0 31 2) a m c news hl hnews h1 hmx hbytes (Nat.zero_le _)
    exact ⟨v', w', hr, Lrow.of_own h2, h3, h5⟩
  · have hlen : (xs ++ news).length = (n + m) * 2 := by rw [List.length_append, hown.1, hl]; omega
    by_cases hroom : n + m ≤ cap
    · have hfit : n * i.size + news.length ≤ cur.size := by rw [hl, hsize]; omega
      have hr := run_append_room (P := P) w t ty 31 i ht hi g n cap cur hg a m c news (by rw [hl, hsize]) hnews h1 hroom hfit
      rw [hsize] at hr
      refine ⟨_, _, hr, ⟨hlen, .inr ⟨g, cap, _, rfl, setRow_heap w g cur _ 31 _ hg, hroom, hcm, ?_, ?_⟩⟩, ⟨rfl, rfl, rfl, by simp, fun k _ hk => setRow_other w g k _ (fun e => hk (by simp [Value.ownBlock, e]))⟩, .inl rfl⟩
      · simp only [List.size_toArray, List.length_append, List.length_take, List.length_drop, Array.length_toList]
        omega
      · rw [htake, ← hlen]
        exact List.take_left
    · have holds : ∀ j u, xs[j]? = some u → w.cell? ((⟨g, 0, none⟩ : Addr).add j) = some u := fun j u hu => by rw [ad_head]; exact hown.cell rfl j u hu
      have hr := run_append_grow (P := P) (ty := ty) w t 31 i z ht hi hz ⟨g, 0, none⟩ n cap xs (by rw [hown.1, hsize]) holds a m c news (by rw [hl, hsize]) hnews (by omega) (by omega) (growslice_fits (by omega) (by rw [hby]; exact hbytes))
      have hge := grownCap_ge w (n + m) cap 31
      have hcm : grownCap w (n + m) cap 31 ≤ maxLen := grownCap_le_maxLen w (n + m) cap 31 hmx
      refine ⟨_, _, hr, ⟨hlen, .inr ⟨w.heap.size, _, _, rfl, heap_alloc_new w.drew _, hge, hcm, ?_, ?_⟩⟩, ⟨rfl, rfl, rfl, by simp, fun k hk _ => alloc_block_old (w := w.drew) hk⟩, .inr rfl⟩
      · simp only [Array.size_append, List.size_toArray, size_zeroCells, hzs, hown.1, hl]
        omega
      · simp only [Array.toList_append, List.append_assoc]
        rw [← List.append_assoc, ← hlen]
        exact List.take_left

/-- A post in memory: its struct at g, its letters v, their cells rs; F: its blocks. -/
structure PstC (w : World) (F : Nat → Prop) (g : Nat) (v : Value) (rs : List (Int × Value)) (st : List Ltr) : Prop where
  blk : w.heap[g]? = some (.cells #[v] 28 (0, 0))
  row : Lrow w v st.length (lcl rs)
  lets : Lets w F rs st
  foot : F g ∧ ∀ i, v.ownBlock = some i → F i
  lt : ∀ i, F i → i < w.heap.size
  len : st.length ≤ 512
def PstB (g : Nat) (st : List Ltr) (w : World) (F : Nat → Prop) : Prop := ∃ v rs, PstC w F g v rs st
theorem PstC.kept {w w' : World} {F : Nat → Prop} {g : Nat} {v : Value} {rs : List (Int × Value)} {st : List Ltr} (h : PstC w F g v rs st) (hk : ∀ i, F i → w'.heap[i]? = w.heap[i]?) (hs : w.heap.size ≤ w'.heap.size) : PstC w' F g v rs st :=
  ⟨(hk g h.foot.1).trans h.blk, h.row.kept fun i hi => hk i (h.foot.2 i hi), h.lets.kept hk, h.foot, fun i hi => Nat.lt_of_lt_of_le (h.lt i hi) hs, h.len⟩
theorem pst_thing (g : Nat) (st : List Ltr) : Thing (PstB g st) :=
  ⟨fun h hk hs => by obtain ⟨v, rs, h⟩ := h; exact ⟨v, rs, h.kept hk hs⟩, fun h hi => by obtain ⟨v, rs, h⟩ := h; exact h.lt _ hi⟩
theorem PstC.ltg {w : World} {F : Nat → Prop} {g : Nat} {v : Value} {rs : List (Int × Value)} {st : List Ltr} (h : PstC w F g v rs st) : g < w.heap.size := (Array.getElem?_eq_some_iff.1 h.blk).1
theorem PstC.new {w : World} : PstC (w.alloc (.cells #[.slice none 0 0] 28)) (fun i => i = w.heap.size) w.heap.size (.slice none 0 0) [] [] :=
  ⟨alloc_block, ⟨rfl, .inl ⟨rfl, rfl⟩⟩, Lets.nil _ _, ⟨rfl, fun i hi => by simp [Value.ownBlock] at hi⟩, fun i hi => by rw [World.size_alloc, hi]; omega, Nat.zero_le _⟩

theorem KeepU.grown {w w' : World} {v : Value} {n : Nat} {xs : List Value} (h : Lrow w v n xs) (hg : w.grownBy w' v.ownBlock) : KeepU w w' := fun i _ _ e =>
  (hg.block i (Array.getElem?_eq_some_iff.1 e).1 fun q => h.ne e (by decide) q.symm).trans e
/-! Len, place. -/
theorem len_none (w : World) : Calls Try.prog 11 #[.pointer none] w fun e w' => e = .returned (.int .i64 0) ∧ w = w' := by
  go_enter Try.func11, Try.ntmps11
  go_wp2
  go_ret
  exact ⟨rfl, rfl⟩
theorem len_any (w : World) (g : Nat) (A : Option Addr) (n c : Nat) (h : w.cell? ⟨g, 0, none⟩ = some (.slice A n c)) : Calls Try.prog 11 #[.pointer (some ⟨g, 0, none⟩)] w fun e w' => e = .returned (.int .i64 n) ∧ w = w' := by
  go_enter Try.func11, Try.ntmps11
  go_wp2
  go_ret
  exact ⟨rfl, rfl⟩
theorem place_none (w : World) (i : Int) : Calls Try.prog 14 #[.pointer none, .int .i64 i] w fun e w' => e = .returned (.tuple #[.int .i64 0, .bool false]) ∧ w = w' := by
  go_enter Try.func14, Try.ntmps14
  go_wp2_with ((with_reducible refine (len_none _).mono ?_); rintro e w' ⟨rfl, rfl⟩)
  go_ret2
  exact ⟨rfl, rfl⟩
theorem place_empty (w : World) (g : Nat) (A : Option Addr) (c : Nat) (i : Int) (h : w.cell? ⟨g, 0, none⟩ = some (.slice A 0 c)) : Calls Try.prog 14 #[.pointer (some ⟨g, 0, none⟩), .int .i64 i] w fun e w' => e = .returned (.tuple #[.int .i64 0, .bool false]) ∧ w = w' := by
  go_enter Try.func14, Try.ntmps14
  go_wp2_with ((with_reducible refine (len_any _ _ _ _ _ (by assumption)).mono ?_); rintro e w' ⟨rfl, rfl⟩)
  go_ret2
  exact ⟨rfl, rfl⟩
set_option maxHeartbeats 1000000 in
theorem place_any (w : World) (g : Nat) (A : Option Addr) (n c : Nat) (i : Int) (h : w.cell? ⟨g, 0, none⟩ = some (.slice A n c)) (h0 : 0 < n) (h1 : n ≤ 512) :
    Calls Try.prog 14 #[.pointer (some ⟨g, 0, none⟩), .int .i64 i] w fun e w' => e = .returned (.tuple #[.int .i64 (Pst.pl n i : Nat), .bool true]) ∧ w = w' := by
  have hn : ((n : Int) == 0) = false := by simp; omega
  have hm := Pst.tmod_lt i n h0
  have hp := Lib.hid (show (wrap64 (i.tmod n + n)).tmod n = (Pst.pl n i : Nat) by rw [IntWalk.wrap64_in _ (by omega)]; exact Pst.pl_eq n i h0)
  clear hm
  go_enter Try.func14, Try.ntmps14
  go_wp2_with ((with_reducible refine (len_any _ _ _ _ _ (by assumption)).mono ?_); rintro e w' ⟨rfl, rfl⟩)
  go_ret2
  exact ⟨by rw [hp.out]; rfl, rfl⟩
end Go.Proofs.Ytlldkcelkgnalaa
