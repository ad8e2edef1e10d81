/-
  Numbers out of any box, whatever its bytes, with a fault or none: what is told, what is left; bytes that are read are just those of the numbers. No conditions.
-/
import Derived.Test.YtblikgbcakgdnaaGreatBr03
import Derived.Test.YtblikgbcakgdnaaGreatBr04
import Derived.Test.YtblikgbcakgdnaaGreatBr36
set_option linter.unusedSimpArgs false
set_option linter.unusedVariables false
namespace Go.Proofs.YtblikgbcakgdnaaGreat
set_option maxRecDepth 20000
open Go.ChangeShapes Go.WideShapes Go.ChangeAt Go.RowKit
namespace Pk
theorem zig_zag (u : Nat) : zig (zag u) = u := by unfold zig zag; split <;> split <;> omega
theorem dec_back (l : List Int) : ∀ (i a : Nat) (n : Int) (k : Nat), i ≤ 10 → a < 64 ^ i → (∀ x ∈ l, 0 ≤ x) → dec i a l = (n, k, 0) →
    ∃ u, (0 < i → 0 < u) ∧ a + u * 64 ^ i < 18446744073709551616 ∧ n = zag (a + u * 64 ^ i) ∧ k = i + (enc u).length ∧ l = enc u ++ l.drop (k - i) := by
  induction l with
  | nil => intro i a n k _ _ _ h; rw [dec_nil] at h; injection h with _ h; injection h with _ h; omega
  | cons c r ih =>
    intro i a n k hi ha h0 h
    have c0 := h0 c (by simp)
    cases hb : bad i c
    · have hg := of_good hb
      by_cases g : c < 64
      · rw [dec_last r hb g] at h
        injection h with h1 h2
        injection h2 with h2 _
        have e : take1 i a c = a + c.toNat * 64 ^ i := by unfold take1; congr 2; omega
        have hf := take1_fits hi c0 hb ha
        rw [e] at h1 hf
        refine ⟨c.toNat, by omega, hf, h1.symm, ?_, ?_⟩
        · rw [enc_less (by omega)]; simp; omega
        · rw [enc_less (by omega), show k - i = 1 by omega]
          simp; omega
      · rw [dec_next r hb g] at h
        have hi' : i ≠ 10 := by omega
        obtain ⟨u, hu, hf, hn, hk, hl⟩ := ih (i + 1) _ n k (by omega) (take1_lt (c := c) ha) (fun x hx => h0 x (by simp [hx])) h
        have hu := hu (by omega)
        have hc : c.toNat - 64 < 64 := by omega
        have he : ((u * 64 + (c.toNat - 64) : Nat) : Int) % 64 + 64 = c := by omega
        have hd : (u * 64 + (c.toNat - 64)) / 64 = u := by omega
        have hs : take1 i a c + u * 64 ^ (i + 1) = a + (u * 64 + (c.toNat - 64)) * 64 ^ i := by
          have := @enc_step i a (u * 64 + (c.toNat - 64))
          rw [he, hd] at this
          exact this
        refine ⟨u * 64 + (c.toNat - 64), by omega, by rw [← hs]; exact hf, by rw [← hs]; exact hn, ?_, ?_⟩
        · rw [enc_more (by omega), hd]; simp only [List.length_cons]; omega
        · rw [enc_more (by omega), hd, he, show k - i = (k - (i + 1)) + 1 by have := enc_pos u; omega, List.drop_succ_cons, List.cons_append, ← hl]
    · rw [dec_bad r hb] at h; injection h with _ h; injection h with _ h; omega
/-- Bytes that are read as a number begin with just its bytes. -/
theorem dec_canon {l : List Int} {n : Int} {k : Nat} (h0 : ∀ x ∈ l, 0 ≤ x) (h : dec 0 0 l = (n, k, 0)) : l = enc (zig n) ++ l.drop k ∧ k = (enc (zig n)).length := by
  obtain ⟨u, _, _, hn, hk, hl⟩ := dec_back l 0 0 n k (by omega) (by simp) h0 h
  simp only [Nat.zero_add, Nat.pow_zero, Nat.mul_one, Nat.sub_zero] at hn hk hl
  subst hn
  rw [zig_zag]
  exact ⟨hl, hk⟩
/-- A number out of a box: what is told, what is left, the fault behind it. -/
def step (lo hi : Int) (l : List Int) (f : Int) : Int × List Int × Int :=
  if f ≠ 0 then (0, l, f) else if (dec 0 0 l).2.2 ≠ 0 then (0, l, (dec 0 0 l).2.2) else if (dec 0 0 l).1 < lo ∨ hi < (dec 0 0 l).1 then (0, l, 1) else ((dec 0 0 l).1, l.drop (dec 0 0 l).2.1, 0)
def Step (lo hi : Int) (l : List Int) (f n : Int) (l' : List Int) (f' : Int) : Prop := step lo hi l f = (n, l', f')
theorem Step.ok {lo hi f n : Int} {l l' : List Int} (h : Step lo hi l f n l' 0) (h0 : ∀ x ∈ l, 0 ≤ x) : f = 0 ∧ lo ≤ n ∧ n ≤ hi ∧ l = enc (zig n) ++ l' := by
  unfold Step step at h
  split at h
  · next g => injection h with _ h; injection h with _ h; exact absurd h g
  next g =>
  split at h
  · next g' => injection h with _ h; injection h with _ h; exact absurd h g'
  next g' =>
  split at h
  · injection h with _ h; injection h with _ h; omega
  next g2 =>
    injection h with h1 h2; injection h2 with h2 _
    have hd : dec 0 0 l = (n, (dec 0 0 l).2.1, 0) := by rw [← h1]; have : (dec 0 0 l).2.2 = 0 := by omega
                                                        rw [← this]
    have hc := (dec_canon h0 hd).1
    refine ⟨by omega, by omega, by omega, ?_⟩
    rw [← h2]; exact hc
theorem Step.range {lo hi f n f' : Int} {l l' : List Int} (h : Step lo hi l f n l' f') (h0 : 0 ≤ lo) (h1 : 0 ≤ hi) : 0 ≤ n ∧ n ≤ hi := by
  unfold Step step at h
  split at h
  · injection h with h _; omega
  split at h
  · injection h with h _; omega
  split at h
  · injection h with h _; omega
  · injection h with h _; omega
theorem Step.mem {lo hi f n f' : Int} {l l' : List Int} (h : Step lo hi l f n l' f') : ∀ x ∈ l', x ∈ l := by
  unfold Step step at h
  split at h
  · injection h with _ h; injection h with h _; subst h; exact fun _ h => h
  split at h
  · injection h with _ h; injection h with h _; subst h; exact fun _ h => h
  split at h
  · injection h with _ h; injection h with h _; subst h; exact fun _ h => h
  · injection h with _ h; injection h with h _; subst h; exact fun _ h => List.mem_of_mem_drop h
end Pk
theorem GB.nn {w : World} {g : Nat} {l : List Int} {f : Int} (h : GB w g l f) : ∀ x ∈ l, 0 ≤ x := by
  obtain ⟨_, _, _, _, _, _, h3⟩ := h
  exact fun x hx => (h3 x hx).1
theorem get_any (w : World) (g : Nat) (l : List Int) (f lo hi : Int) (h : GB w g l f) :
    Calls Tryz.prog 44 #[.pointer (some ⟨g, 0, none⟩), .int .i64 lo, .int .i64 hi] w (fun e w' => ∃ n l' f', e = .returned (.int .i64 n) ∧ Pk.Step lo hi l f n l' f' ∧ w.grownBy w' (some g) ∧ GB w' g l' f') := by
  by_cases hf : f ≠ 0
  · have hx := h
    obtain ⟨A, c, hx, _⟩ := hx
    refine (get_fault w g _ f lo hi hx hf).mono ?_
    rintro e w' ⟨rfl, rfl⟩
    exact ⟨0, l, f, rfl, by unfold Pk.Step Pk.step; rw [if_pos hf], World.grownBy.refl _ _, h⟩
  · obtain rfl : f = 0 := by omega
    by_cases hd : (Pk.dec 0 0 l).2.2 ≠ 0
    · refine (get_bad w g l lo hi (Pk.dec 0 0 l).1 (Pk.dec 0 0 l).2.2 (Pk.dec 0 0 l).2.1 h rfl hd).mono ?_
      rintro e w' ⟨rfl, hg, hb⟩
      exact ⟨0, l, _, rfl, by unfold Pk.Step Pk.step; rw [if_neg (by simp), if_pos hd], hg, hb⟩
    · have hq : Pk.dec 0 0 l = ((Pk.dec 0 0 l).1, (Pk.dec 0 0 l).2.1, 0) := by
        have : (Pk.dec 0 0 l).2.2 = 0 := by omega
        rw [← this]
      by_cases hr : (Pk.dec 0 0 l).1 < lo ∨ hi < (Pk.dec 0 0 l).1
      · refine (get_out w g l lo hi _ _ h hq hr).mono ?_
        rintro e w' ⟨rfl, hg, hb⟩
        exact ⟨0, l, 1, rfl, by unfold Pk.Step Pk.step; rw [if_neg (by simp), if_neg hd, if_pos hr], hg, hb⟩
      · refine (get_ok w g l lo hi _ _ h hq (by omega) (by omega)).mono ?_
        rintro e w' ⟨rfl, hg, hb⟩
        exact ⟨_, _, 0, rfl, by unfold Pk.Step Pk.step; rw [if_neg (by simp), if_neg hd, if_neg hr], hg, hb⟩
theorem end_any (w : World) (g : Nat) (l : List Int) (f : Int) (h : GB w g l f) :
    Calls Tryz.prog 47 #[.pointer (some ⟨g, 0, none⟩)] w (fun e w' => (∃ x, e = .returned (.int .i64 x) ∧ ((x = 0 ∧ f = 0 ∧ l = []) ∨ (x ≠ 0 ∧ (f ≠ 0 ∨ l ≠ [])))) ∧ w = w') := by
  obtain ⟨A, c, hx, _⟩ := h
  by_cases hf : f ≠ 0
  · refine (end_fault w g _ f hx hf).mono ?_
    rintro e w' ⟨rfl, rfl⟩
    exact ⟨⟨f, rfl, .inr ⟨hf, .inl hf⟩⟩, rfl⟩
  · obtain rfl : f = 0 := by omega
    refine (end_ok w g A _ c hx).mono ?_
    rintro e w' ⟨rfl, rfl⟩
    refine ⟨⟨_, rfl, ?_⟩, rfl⟩
    cases l with
    | nil => exact .inl ⟨rfl, rfl, rfl⟩
    | cons x r => exact .inr ⟨by simp, .inr (by simp)⟩
set_option maxHeartbeats 1000000 in
theorem flag_any (w : World) (g : Nat) (l : List Int) (f : Int) (h : GB w g l f) :
    Calls Tryz.prog 78 #[.pointer (some ⟨g, 0, none⟩)] w (fun e w' => ∃ n l' f', e = .returned (.bool (n == 1)) ∧ Pk.Step 0 1 l f n l' f' ∧ w.grownBy w' (some g) ∧ GB w' g l' f') := by
  have H := Lib.hid h
  clear h
  go_enter Tryz.func78, Tryz.ntmps78
  go_wp2_with (fail)
  refine (get_any _ _ _ _ _ _ H.out).mono ?_
  rintro e w1 ⟨n, l', f', rfl, hs, hg, hb⟩
  have HS := Lib.hid hs
  have HG : Hid (w.grownBy w1 (some g)) := Lib.hid hg
  have HB := Lib.hid hb
  clear hs hg hb
  go_wp2
  go_ret
  exact ⟨n, l', f', rfl, HS.out, HG.out, HB.out⟩
end Go.Proofs.YtblikgbcakgdnaaGreat
/-
  Contracts of a box's makers and of the methods that put: numbers, truths, bytes; and of what is told of all of it. No conditions but the sizes.
-/
namespace Go.Proofs.YtblikgbcakgdnaaGreat
open Go.ChangeShapes Go.WideShapes Go.ChangeAt Go.RowKit

theorem new_any (w : World) : Calls Tryz.prog 39 #[] w fun e w' => e = .returned (.pointer (some ⟨w.heap.size, 0, none⟩)) ∧ w' = w.alloc (.cells #[.slice none 0 0, .int .i64 0] 109) := by
  go_enter Tryz.func39, Tryz.ntmps39
  go_wp2
  go_ret
  exact ⟨rfl, rfl⟩
theorem pb_new (w : World) (R : Nat) (hR : R ≤ w.heap.size) : PB (w.alloc (.cells #[.slice none 0 0, .int .i64 0] 109)) R w.heap.size [] :=
  ⟨.slice none 0 0, alloc_block, World.ownsRow_nil _ _ _ _, hR, by simp⟩

/-- A box is returned out of which l may be taken. -/
def OfP (w : World) (l : List Int) (e : Ending) (w' : World) : Prop := ∃ g, e = .returned (.pointer (some ⟨g, 0, none⟩)) ∧ GB w' g l 0 ∧ Below w.heap.size w w' ∧ w.heap.size ≤ g
set_option maxHeartbeats 400000 in
theorem of_any (A : Option Addr) (B c : Nat) (l : List Int) (w : World) (hr : Rd w .u8 B A l) (hB : B ≤ w.heap.size) (hl : l.length ≤ 90000000) (hb : ∀ x ∈ l, 0 ≤ x ∧ x < 256) :
    Calls Tryz.prog 19 #[.slice A l.length c] w (OfP w l) := by
  have HR := Lib.hid hr
  have H3 := Lib.hid hb
  clear hr hb
  go_enter Tryz.func19, Tryz.ntmps19
  go_wp2_with (fail)
  refine (clone_any _ _ _ _ _ HR.out hB hl).mono ?_
  rintro e w1 ⟨A2, c2, rfl, ho, hbl, h1, h2⟩
  have HO := Lib.hid ho
  have HB := Lib.hid hbl
  clear ho hbl
  go_wp2
  go_ret
  exact ⟨w1.heap.size, rfl, ⟨A2, c2, alloc_block, (Rd.own HO.out).kept fun i hi => alloc_block_old hi, h1, h2, H3.out⟩, HB.out.alloc HB.out.size _, HB.out.size⟩

theorem of_len (A : Option Addr) (B c m : Nat) (l : List Int) (w : World) (hr : Rd w .u8 B A l) (hB : B ≤ w.heap.size) (hl : l.length ≤ 90000000) (hb : ∀ x ∈ l, 0 ≤ x ∧ x < 256) (hm : l.length = m) :
    Calls Tryz.prog 19 #[.slice A m c] w (OfP w l) := by subst hm; exact of_any A B c l w hr hB hl hb

set_option maxHeartbeats 400000 in
theorem done_box (w : World) (g B : Nat) (A : Option Addr) (c : Nat) (l : List Int) (f : Int) (h : Bx w g (.slice A l.length c) f) (hr : Rd w .u8 B A l) (hB : B ≤ w.heap.size) (hl : l.length ≤ 90000000) :
    Calls Tryz.prog 43 #[.pointer (some ⟨g, 0, none⟩)] w (Owned w l) := by
  obtain ⟨w0, rfl, hg⟩ := h.boxed
  have HR := Lib.hid hr
  have HB := Lib.hid hB
  clear h hr hB
  go_enter Tryz.func43, Tryz.ntmps43
  go_wp2_with (fail)
  refine (clone_any _ _ _ _ _ HR.out HB.out hl).mono ?_
  rintro e w1 ⟨A2, c2, rfl, ho, hbl, h1, h2⟩
  have HO := Lib.hid ho
  have HB2 := Lib.hid hbl
  clear ho hbl
  go_wp2
  go_ret
  exact ⟨A2, c2, rfl, HO.out, HB2.out, h1, h2⟩
/-- The form of a box into which is put. -/
theorem PB.form {w : World} {R g : Nat} {l : List Int} (h : PB w R g l) : ∃ A c, Bx w g (.slice A l.length c) 0 ∧ Rd w .u8 w.heap.size A l ∧ l.length ≤ c ∧ c ≤ maxLen := by
  obtain ⟨v, hx, ho, hR, h3⟩ := h
  obtain ⟨A, c, rfl, h1, h2⟩ := own_form ho
  exact ⟨A, c, hx, Rd.own ho, h1, h2⟩
theorem done_put (w : World) (R g : Nat) (l : List Int) (h : PB w R g l) (hl : l.length ≤ 90000000) : Calls Tryz.prog 43 #[.pointer (some ⟨g, 0, none⟩)] w (Owned w l) := by
  obtain ⟨A, c, hx, hr, _, _⟩ := h.form
  exact done_box w g _ A c l 0 hx hr (Nat.le_refl _) hl

/-- A slice of numbers that stays while is put. -/
def Src (w : World) (R : Nat) (A : Option Addr) (ns : List Int) : Prop :=
  ns ≠ [] → ∃ a, A = some a ∧ (a.block < R ∨ ∃ cs, w.heap[a.block]? = some (.cells cs 2 (0, 0))) ∧ ∀ j u, ns[j]? = some u → w.cell? (a.add j) = some (.int .i64 u)
theorem Src.at_ {w : World} {R : Nat} {A : Option Addr} {ns : List Int} (h : Src w R A ns) {j : Nat} (hj : j < ns.length) : ∃ a, A = some a ∧ w.cell? (a.add j) = some (.int .i64 ns[j]) := by
  obtain ⟨a, e, _, hc⟩ := h (fun e => by subst e; simp at hj)
  exact ⟨a, e, hc j _ (List.getElem?_eq_getElem hj)⟩
theorem Src.kept {w w' : World} {R : Nat} {A : Option Addr} {ns : List Int} (h : Src w R A ns) (hl : R ≤ w.heap.size) (hk : ∀ i, i < w.heap.size → (i < R ∨ ∃ cs, w.heap[i]? = some (.cells cs 2 (0, 0))) → w'.heap[i]? = w.heap[i]?) : Src w' R A ns := fun hn => by
  obtain ⟨a, e, hb, hc⟩ := h hn
  have hlt : a.block < w.heap.size := by
    rcases hb with hb | ⟨cs, hb⟩
    · omega
    · exact (Array.getElem?_eq_some_iff.1 hb).1
  have he := hk _ hlt hb
  have hb' : a.block < R ∨ ∃ cs, w'.heap[a.block]? = some (.cells cs 2 (0, 0)) := by
    rcases hb with hb | ⟨cs, hb⟩
    · exact .inl hb
    · exact .inr ⟨cs, he.trans hb⟩
  exact ⟨a, e, hb', fun j u hu => (World.cell?_of_block (by rw [ad_block]; exact he)).trans (hc j u hu)⟩

/-- What is put: the box behind it; what was below R is as it was, and so are blocks that are no bytes and no boxes. -/
structure Put (w : World) (R g : Nat) (l : List Int) (w' : World) : Prop where
  box : PB w' R g l
  below : Below R w w'
  rest : ∀ (i : Nat) (cs : Array Value) (t : TypeId), t ≠ 5 → t ≠ 109 → w.heap[i]? = some (.cells cs t (0, 0)) → w'.heap[i]? = w.heap[i]?
theorem Put.refl {w : World} {R g : Nat} {l : List Int} (h : PB w R g l) : Put w R g l w := ⟨h, Below.refl _ _, fun _ _ _ _ _ _ => rfl⟩
theorem Put.nums {w w' : World} {R g : Nat} {l : List Int} (h : Put w R g l w') (i : Nat) (cs : Array Value) (hi : w.heap[i]? = some (.cells cs 2 (0, 0))) : w'.heap[i]? = w.heap[i]? := h.rest i cs _ (by decide) (by decide) hi
theorem Put.src {w w' : World} {R g : Nat} {l : List Int} {A : Option Addr} {ns : List Int} (h : Put w R g l w') (hs : Src w R A ns) (hl : R ≤ w.heap.size) : Src w' R A ns :=
  hs.kept hl fun i _ hi => by
    rcases hi with hi | ⟨cs, hi⟩
    · exact h.below.block i hi
    · exact h.nums i cs hi

/-- One number more: a row that has grown is stored into the box. -/
theorem Put.step {w w0 w1 : World} {R g : Nat} {l l' l2 : List Int} {v v' : Value} (h : Put w R g l (boxed w0 g #[v, .int .i64 0] 109)) (ho : (boxed w0 g #[v, .int .i64 0] 109).ownsRow R 5 1 v l2.length (cl .u8 l2))
    (hg : Grew (boxed w0 g #[v, .int .i64 0] 109) R v l' v' (boxed w1 g #[v, .int .i64 0] 109)) (hlt : g < w1.heap.size) (h3 : ∀ x ∈ l', 0 ≤ x ∧ x < 256) :
    Put w R g l' (boxed w1 g #[v', .int .i64 0] 109) := by
  have hRg := h.box.lt
  have hR : R ≤ g := hRg.1
  have hg1 : (boxed w1 g #[v, .int .i64 0] 109).heap[g]? = some (.cells #[v, .int .i64 0] 109) := boxed_block hlt
  have hne : v'.ownBlock ≠ some g := own_ne hg.own hg1 (by decide)
  have hb := hg.below (l0 := l2) ho (by have := hRg.2; omega)
  refine ⟨⟨v', boxed_block hlt, own_kept hg.own fun i hi => ?_, hR, h3⟩, h.below.trans (hb.trans ⟨rfl, rfl, rfl, by simp, fun i hi => ?_⟩), fun i cs t g1 g2 hi => ?_⟩
  · have : i ≠ g := fun e => hne (by rw [← e]; exact hi)
    rw [boxed_block_other this, boxed_block_other this]
  · rw [boxed_block_other (by omega), boxed_block_other (by omega)]
  · have hi2 := (h.rest i cs t g1 g2 hi).trans hi
    have hig : i ≠ g := by
      rintro rfl
      rw [boxed_block (by have := hRg.2; rwa [boxed_size] at this)] at hi2
      injection hi2 with hi2
      injection hi2 with _ ht
      exact g2 ht.symm
    have hiv : v.ownBlock ≠ some i := own_ne ho hi2 g1.symm
    rw [boxed_block_other hig, ← boxed_block_other (w := w1) (cs := #[v, .int .i64 0]) (t := 109) hig, hg.grown.block i (Array.getElem?_eq_some_iff.1 hi2).1 (fun e => hiv e.symm), hi2, hi]

theorem own_shape {w : World} {base : Nat} {e : TypeId} {size : Nat} {v : Value} {n : Nat} {xs : List Value} (h : w.ownsRow base e size v n xs) : ∃ A n c, v = .slice A n c := by
  obtain ⟨A, c, e, _⟩ := own_form h
  exact ⟨A, n, c, e⟩

def PutP (w : World) (R g : Nat) (l : List Int) (e : Ending) (w' : World) : Prop := e = .returned (.pointer (some ⟨g, 0, none⟩)) ∧ Put w R g l w'

set_option maxHeartbeats 1000000 in
theorem put_any (w : World) (R g : Nat) (l : List Int) (A : Option Addr) (c : Nat) (ns : List Int) (h : PB w R g l) (hs : Src w R A ns) (hl : l.length ≤ 80000000) (hn : ns.length ≤ 1000) (hi : I64 ns) :
    Calls Tryz.prog 40 #[.pointer (some ⟨g, 0, none⟩), .slice A ns.length c] w (PutP w R g (l ++ Pk.encs ns)) := by
  have hR : R ≤ w.heap.size := by have := h.lt; omega
  have H := Lib.hid h
  have HS := Lib.hid hs
  have HI := Lib.hid hi
  clear h hs hi
  go_enter Tryz.func40, Tryz.ntmps40
  go_wp2
  go_loopw [11] (fun t wr => ∃ k : Nat, k ≤ ns.length ∧ t = .int .i64 k ∧ Put w R g (l ++ Pk.encs (ns.take k)) wr) (fun t _ => ns.length - (intOf t).toNat)
  case atStart => exact ⟨0, by omega, rfl, by rw [List.take_zero, Pk.encs_nil, List.append_nil]; exact Put.refl H.out⟩
  case round =>
    obtain ⟨k, hk, rfl, hp⟩ := hrel
    have HP := Lib.hid hp
    clear hp
    by_cases hlt : k < ns.length
    · obtain ⟨a, rfl, hc⟩ := (HP.out.src HS.out hR).at_ hlt
      have hnk := HI.out _ (List.getElem_mem hlt)
      have HX := Lib.hid (encs_snoc hlt)
      have hsh := encs_short HI.out k hn
      have hl2 : (l ++ Pk.encs (ns.take k)).length ≤ 90000000 := by rw [List.length_append]; omega
      obtain ⟨v, hx, ho, hRg, h3⟩ := HP.out.box
      obtain ⟨w0, rfl, hg⟩ := hx.boxed
      generalize ns[k] = x at *
      obtain ⟨x0, x1⟩ := hnk
      have HV := Lib.hid hx
      have HO := Lib.hid ho
      have H3 := Lib.hid h3
      clear hx ho h3
      go_wp2_with (fail)
      refine (appendNumber_any _ _ _ _ _ HO.out (by rw [boxed_size]; omega) hl2 x0 x1).mono ?_
      rintro e w1 ⟨v', rfl, hgr⟩
      obtain ⟨A2, n2, c2, rfl⟩ := own_shape hgr.own
      have hx1 : Bx w1 g v 0 := HV.out.kept (hgr.grown.block g (by rw [boxed_size]; exact hg) (fun e => own_ne HO.out HV.out (by decide) e.symm))
      obtain ⟨w2, rfl, hg2⟩ := hx1.boxed
      have HG := Lib.hid hgr
      clear hx1 hgr
      go_wp2
      go_roundw
      case rel =>
        refine ⟨k + 1, by omega, by go_num, ?_⟩
        rw [← HX.out, ← List.append_assoc]
        refine Put.step HP.out HO.out HG.out hg2 fun y hy => ?_
        rcases List.mem_append.1 hy with hy | hy
        · exact H3.out y hy
        · have := Pk.enc_range _ y hy; omega
      case measure => simp [intOf]; omega
    · obtain rfl : k = ns.length := by omega
      have HX : Hid (ns.take ns.length = ns) := List.take_length
      go_wp2
      go_ret
      exact ⟨rfl, by have := HP.out; rwa [HX.out] at this⟩
/-- A literal of one number. -/
theorem src_one (w : World) (R : Nat) (x : Int) : Src (w.alloc (.cells #[.int .i64 x] 2)) R (some ⟨w.heap.size, 0, none⟩) [x] := fun _ =>
  ⟨_, rfl, .inr ⟨_, alloc_block⟩, fun j u hu => cell_one_new w (.int .i64 x) 2 j (.int .i64 u) (by
    match j, hu with
    | 0, hu => simp at hu; subst hu; rfl)⟩
theorem PB.alloc {w : World} {R g : Nat} {l : List Int} (h : PB w R g l) (o : Obj) : PB (w.alloc o) R g l := h.below ((Below.refl _ _).alloc (Nat.le_refl _) o)
theorem Put.of_alloc {w w' : World} {R g : Nat} {l : List Int} {o : Obj} (h : Put (w.alloc o) R g l w') (hR : R ≤ w.heap.size) : Put w R g l w' :=
  ⟨h.box, ((Below.refl _ _).alloc hR o).trans h.below, fun i cs t g1 g2 hi => (h.rest i cs t g1 g2 ((alloc_block_old (Array.getElem?_eq_some_iff.1 hi).1).trans hi)).trans (alloc_block_old (Array.getElem?_eq_some_iff.1 hi).1)⟩
theorem Put.trans {w w1 w2 : World} {R g : Nat} {l l2 : List Int} (h : Put w R g l w1) (k : Put w1 R g l2 w2) : Put w R g l2 w2 :=
  ⟨k.box, h.below.trans k.below, fun i cs t g1 g2 hi => (k.rest i cs t g1 g2 ((h.rest i cs t g1 g2 hi).trans hi)).trans (h.rest i cs t g1 g2 hi)⟩
theorem put_one (w : World) (R g : Nat) (l : List Int) (x : Int) (m c : Nat) (hm : m = 1) (h : PB w R g l) (hl : l.length ≤ 80000000) (h0 : -9223372036854775808 ≤ x) (h1 : x ≤ 9223372036854775807) :
    Calls Tryz.prog 40 #[.pointer (some ⟨g, 0, none⟩), .slice (some ⟨w.heap.size, 0, none⟩) m c] (w.alloc (.cells #[.int .i64 x] 2)) (PutP w R g (l ++ Pk.enc (Pk.zig x))) := by
  subst hm
  have hR : R ≤ w.heap.size := by have := h.lt; omega
  refine (put_any _ R g l _ c [x] (h.alloc _) (src_one w R x) hl (by simp) (fun n hn => by simp at hn; subst hn; exact ⟨h0, h1⟩)).mono fun e w' ⟨he, hp⟩ => ?_
  rw [Pk.encs_one] at hp
  exact ⟨he, hp.of_alloc hR⟩

set_option maxHeartbeats 400000 in
theorem flag_put (w : World) (R g : Nat) (l : List Int) (b : Bool) (h : PB w R g l) (hl : l.length ≤ 80000000) :
    Calls Tryz.prog 74 #[.pointer (some ⟨g, 0, none⟩), .bool b] w (PutP w R g (l ++ Pk.enc (Pk.zig (if b = true then 1 else 0)))) := by
  have H := Lib.hid h
  clear h
  cases b
  all_goals
    go_enter Tryz.func74, Tryz.ntmps74
    go_wp2_with (go_at_call 40; refine (put_one _ _ _ _ _ _ _ rfl H.out hl (by omega) (by omega)).mono ?_; rintro e w' ⟨rfl, hp⟩)
    go_ret
    exact ⟨rfl, hp⟩
end Go.Proofs.YtblikgbcakgdnaaGreat
/-
  Contracts of plan.Put and plan.Get: a plan into a box, and out of it. No conditions but the sizes.
-/
namespace Go.Proofs.YtblikgbcakgdnaaGreat
set_option maxRecDepth 20000
open Go.ChangeShapes Go.WideShapes Go.ChangeAt Go.RowKit

theorem Put.of_below {w w1 w' : World} {R b : Nat} {l : List Int} (h : Put w1 R b l w') (hb : Below w.heap.size w w1) (hR : R ≤ w.heap.size) : Put w R b l w' :=
  ⟨h.box, (hb.mono hR).trans h.below, fun i cs t g1 g2 hi => by
    have e := hb.block i (Array.getElem?_eq_some_iff.1 hi).1
    exact (h.rest i cs t g1 g2 (e.trans hi)).trans e⟩
namespace Pn
def one (b : Bool) : Int := if b = true then 1 else 0
theorem one_ok (b : Bool) : 0 ≤ one b ∧ one b ≤ 1 := by cases b <;> simp [one]
/-- A plan's bytes. -/
def bytes (a u e t : Int) (g l : Bool) : List Int := Pk.encs [a, u, e, t] ++ Pk.enc (Pk.zig (one g)) ++ Pk.enc (Pk.zig (one l))
theorem bytes_eq (a u e t : Int) (g l : Bool) : bytes a u e t g l = Pk.encs [a, u, e, t, one g, one l] := by
  unfold bytes; simp [Pk.encs_cons, Pk.encs_nil]
end Pn

set_option maxHeartbeats 4000000 in
theorem plput_any (w : World) (R b : Nat) (ls : List Int) (a u e t : Int) (g l : Bool) (h : PB w R b ls) (hl : ls.length ≤ 79000000) (wa : -9223372036854775808 ≤ a ∧ a ≤ 9223372036854775807) (wu : 0 ≤ u ∧ u < 256) (we : -9223372036854775808 ≤ e ∧ e ≤ 9223372036854775807) (wt : -9223372036854775808 ≤ t ∧ t ≤ 9223372036854775807) :
    Calls Tryz.prog 41 #[.pointer (some ⟨b, 0, none⟩), .agg #[.int .i64 a, .int .u8 u, .int .i64 e, .int .i64 t, .bool g, .bool l]] w fun x w' => x = .returned (.tuple #[]) ∧ Put w R b (ls ++ Pn.bytes a u e t g l) w' := by
  have hR : R ≤ w.heap.size := by have := h.lt; omega
  have H := Lib.hid h
  have WI : Hid (I64 [a, u, e, t]) := Lib.hid (fun n hn => by
    simp only [List.mem_cons, List.not_mem_nil, or_false] at hn
    rcases hn with rfl | rfl | rfl | rfl
    · exact wa
    · omega
    · exact we
    · exact wt)
  have hln : (Pk.encs [a, u, e, t]).length ≤ 44 := Pk.encs_len [a, u, e, t] WI.out
  have hlg : (Pk.enc (Pk.zig (Pn.one g))).length ≤ 11 := Pk.enc_eleven (Pk.zig_lt _ (by have := Pn.one_ok g; omega) (by have := Pn.one_ok g; omega))
  obtain ⟨wu0, wu1⟩ := wu
  have hwu : IntKind.i64.wrap u = u := by simp only [IntKind.wrap_i64]; omega
  clear h wa we wt
  go_enter Tryz.func41, Tryz.ntmps41
  go_wp2
  refine lane_start (ord := [0, 1, 2, 3, 4, 5, 6, 7, 8, 9, 12, 13, 15, 16, 10, 11, 14, 17]) (S := fun w' => Pn.At w.heap.size a u e t g l w') rfl (by kernel_rfl) (Pn.At.of (ty := 44) alloc_block) (fun hHeld => ?_)
  repeat (first
    | (refine lane_take (v := ?_) rfl (by kernel_rfl) (by kernel_rfl) (by rfl) ?_ (by assumption) ?_; rotate_left; (focus (intro w hSw; obtain ⟨s0, s1, s2, s3, s4, s5⟩ := hSw; (try dsimp only at s0 s1 s2 s3 s4 s5); go_simp; try (with_reducible rfl))); simp only [Act.put, List.setIfInBounds_toArray, List.set_cons_zero, List.set_cons_succ]))
  refine lane_alone rfl (by kernel_rfl) (by rfl) (fun K hK => ?_)
  go_simp
  have hb1 : Below w.heap.size w (((w.alloc (Obj.cells #[.int .i64 a, .int .u8 u, .int .i64 e, .int .i64 t, .bool g, .bool l] 44)).alloc (Obj.cells #[.int .i64 a, .int .i64 u, .int .i64 e, .int .i64 t] 2)).drew) := (((Below.refl _ w).alloc (Nat.le_refl _) _).alloc (by simp) _).drew
  have hz : (((w.alloc (Obj.cells #[.int .i64 a, .int .u8 u, .int .i64 e, .int .i64 t, .bool g, .bool l] 44)).alloc (Obj.cells #[.int .i64 a, .int .i64 u, .int .i64 e, .int .i64 t] 2)).drew).heap.size = w.heap.size + 2 := by simp
  have hp1 : (((w.alloc (Obj.cells #[.int .i64 a, .int .u8 u, .int .i64 e, .int .i64 t, .bool g, .bool l] 44)).alloc (Obj.cells #[.int .i64 a, .int .i64 u, .int .i64 e, .int .i64 t] 2)).drew).heap[w.heap.size]? = some (Obj.cells #[.int .i64 a, .int .u8 u, .int .i64 e, .int .i64 t, .bool g, .bool l] 44) := (alloc_block_old (by simp)).trans alloc_block
  have hn1 : (((w.alloc (Obj.cells #[.int .i64 a, .int .u8 u, .int .i64 e, .int .i64 t, .bool g, .bool l] 44)).alloc (Obj.cells #[.int .i64 a, .int .i64 u, .int .i64 e, .int .i64 t] 2)).drew).heap[w.heap.size + 1]? = some (Obj.cells #[.int .i64 a, .int .i64 u, .int .i64 e, .int .i64 t] 2) := by have := alloc_block (w := w.alloc (Obj.cells #[.int .i64 a, .int .u8 u, .int .i64 e, .int .i64 t, .bool g, .bool l] 44)) (o := (Obj.cells #[.int .i64 a, .int .i64 u, .int .i64 e, .int .i64 t] 2)); rw [World.size_alloc] at this; exact this
  have hs1 : Src (((w.alloc (Obj.cells #[.int .i64 a, .int .u8 u, .int .i64 e, .int .i64 t, .bool g, .bool l] 44)).alloc (Obj.cells #[.int .i64 a, .int .i64 u, .int .i64 e, .int .i64 t] 2)).drew) R (some ⟨w.heap.size + 1, 0, none⟩) [a, u, e, t] := fun _ => ⟨_, rfl, .inr ⟨_, hn1⟩, fun j v hj => by
    rw [ad_head, cell_of_row _ _ _ _ _ (0, 0) hn1]
    rcases j with _ | _ | _ | _ | j <;> simp at hj ⊢ <;> exact hj⟩
  generalize ((w.alloc (Obj.cells #[.int .i64 a, .int .u8 u, .int .i64 e, .int .i64 t, .bool g, .bool l] 44)).alloc (Obj.cells #[.int .i64 a, .int .i64 u, .int .i64 e, .int .i64 t] 2)).drew = w1 at *
  have hpb := H.out.below hb1
  refine hK _ _ (Pn.At.of hp1) (fun hHeld => ?_)
  clear hK K
  refine lane_alone rfl (by kernel_rfl) (by rfl) (fun K hK => ?_)
  go_simp
  refine (put_any w1 R b ls _ 4 [a, u, e, t] hpb hs1 (by omega) (by simp) WI.out).mono ?_
  rintro x w2 ⟨rfl, hp2⟩
  have hq2 := (hp2.rest _ _ _ (by decide) (by decide) hp1).trans hp1
  refine hK _ _ (Pn.At.of hq2) (fun hHeld => ?_)
  clear hK K
  refine lane_alone rfl (by kernel_rfl) (by rfl) (fun K hK => ?_)
  go_simp
  refine (flag_put w2 R b _ g hp2.box (by rw [List.length_append]; omega)).mono ?_
  rintro x w3 ⟨rfl, hp3⟩
  have hq3 := (hp3.rest _ _ _ (by decide) (by decide) hq2).trans hq2
  refine hK _ _ (Pn.At.of hq3) (fun hHeld => ?_)
  clear hK K
  refine lane_alone rfl (by kernel_rfl) (by rfl) (fun K hK => ?_)
  go_simp
  refine (flag_put w3 R b _ l hp3.box (by unfold Pn.one at hlg; simp only [List.length_append]; omega)).mono ?_
  rintro x w4 ⟨rfl, hp4⟩
  have hq4 := (hp4.rest _ _ _ (by decide) (by decide) hq3).trans hq3
  refine hK _ _ (Pn.At.of hq4) (fun hHeld => ?_)
  refine lane_end (by kernel_rfl) ?_
  go_wp2
  go_end0
  refine ⟨rfl, ?_⟩
  have := (((hp2.trans hp3).trans hp4).of_below hb1 hR)
  rw [Pn.bytes, ← List.append_assoc, ← List.append_assoc]
  exact this

theorem GB.more {w w' : World} {b : Nat} {l : List Int} {f : Int} (h : GB w b l f) (hb : Below w.heap.size w w') : GB w' b l f := h.kept fun i hi => hb.block i (by have := h.lt; omega)
end Go.Proofs.YtblikgbcakgdnaaGreat
