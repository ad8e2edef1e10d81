/-
  A plate in a walk: its blocks lie behind an old world, and apart from others (N); each act leaves it so. And the document's example. No conditions but the sizes.
-/
import Derived.Test.YtlbodpffkdfllaaPlRead
import Derived.Lib.SlBytesConst
namespace Go.Proofs.Ytlbodpffkdfllaa
open Go.ChangeShapes Go.WideShapes Go.ChangeAt Go.RowKit

def Live (w0 : World) (N : Nat → Prop) (w : World) (g : Nat) (st : Pl.St) (m : Nat) : Prop :=
  ∃ F, PlB w g F st m ∧ (∀ i, F i → w0.heap.size ≤ i ∧ ¬ N i) ∧ Below w0.heap.size w0 w
/-- What an act leaves. -/
structure Kept (w0 : World) (N : Nat → Prop) (w w' : World) : Prop where
  size : w.heap.size ≤ w'.heap.size
  block : ∀ i, N i → w'.heap[i]? = w.heap[i]?
  old : ∀ i, i < w0.heap.size → w'.heap[i]? = w.heap[i]?

section
variable {w0 : World} {N : Nat → Prop} {w w' : World} {g : Nat} {st st' : Pl.St} {m m' : Nat}
theorem Live.ok (h : Live w0 N w g st m) : Pl.Ok st := by obtain ⟨F, h, _⟩ := h; exact h.ok
theorem Live.old (h : Live w0 N w g st m) : Below w0.heap.size w0 w := by obtain ⟨F, _, _, h⟩ := h; exact h
theorem Live.mono (h : Live w0 N w g st m) (hm : m ≤ m') (hm' : m' ≤ 100000) : Live w0 N w g st m' := by obtain ⟨F, h, h2⟩ := h; exact ⟨F, h.mono hm hm', h2⟩
theorem Live.below (h : Live w0 N w g st m) (hb : Below w.heap.size w w') : Live w0 N w' g st m := by
  obtain ⟨F, h, h2, h3⟩ := h
  exact ⟨F, h.below hb, h2, h3.trans (hb.mono h3.size)⟩
/-- Other blocks too are apart from it: those that are new. -/
theorem Live.more (h : Live w0 N w g st m) (hb : Below w.heap.size w w') : Live w0 (fun i => N i ∨ (w.heap.size ≤ i ∧ i < w'.heap.size)) w' g st m := by
  obtain ⟨F, h, h2, h3⟩ := h
  refine ⟨F, h.below hb, fun i hi => ⟨(h2 i hi).1, ?_⟩, h3.trans (hb.mono h3.size)⟩
  rintro (h' | h')
  · exact (h2 i hi).2 h'
  · have := h.lt i hi; omega
theorem Live.less {N' : Nat → Prop} (h : Live w0 N w g st m) (hN : ∀ i, N' i → N i) : Live w0 N' w g st m := by
  obtain ⟨F, h, h2, h3⟩ := h
  exact ⟨F, h, fun i hi => ⟨(h2 i hi).1, fun hn => (h2 i hi).2 (hN i hn)⟩, h3⟩
/-- Other blocks may be written. -/
theorem Live.turned (h : Live w0 N w g st m) (hs : w.heap.size ≤ w'.heap.size) (hk : ∀ i, ¬ N i → w'.heap[i]? = w.heap[i]?) (hb : Below w0.heap.size w0 w') : Live w0 N w' g st m := by
  obtain ⟨F, h, h2, h3⟩ := h
  exact ⟨F, h.kept (fun i hi => hk i (h2 i hi).2) hs, h2, hb⟩
theorem Live.post {F : Nat → Prop} {r : Value} {e : Ending} (hN : ∀ i, N i → i < w.heap.size) (h2 : ∀ i, F i → w0.heap.size ≤ i ∧ ¬ N i) (h3 : Below w0.heap.size w0 w) (hp : PlPost w g F st' m' r e w') : e = .returned r ∧ Live w0 N w' g st' m' ∧ Kept w0 N w w' := by
  obtain ⟨h4, h5, h6⟩ := hp
  have hs := h3.size
  refine ⟨h4, ⟨_, h5, fun i hi => ?_, h3.trans (h6.below (fun i hi => (h2 i hi).1) hs)⟩, h6.size, fun i hi => h6.block i (hN i hi) fun hf => (h2 i hf).2 hi, fun i hi => h6.block i (by omega) fun hf => by have := (h2 i hf).1; omega⟩
  rcases hi with h' | h'
  · exact h2 i h'
  · exact ⟨by omega, fun hn => by have := hN i hn; omega⟩
end
section
variable {w0 : World} {N : Nat → Prop} {w : World} {g : Nat} {st : Pl.St} {m : Nat}
theorem write_live {i : Int} {A : Option Addr} {n c B : Nat} {b : List Int} (h : Live w0 N w g st m) (hN : ∀ i, N i → i < w.heap.size) (hm : m + 2 ≤ 100000) (hr : Rd w .u8 B A b) (hB : B ≤ w.heap.size) (hn : b.length = n) (hb : ∀ x ∈ b, 0 ≤ x ∧ x < 256) :
    Calls Try.prog 9 #[.pointer (some ⟨g, 0, none⟩), .int .i64 i, .slice A n c] w fun e w' => e = .returned (.int .i64 (st.putE i b)) ∧ Live w0 N w' g (st.put i b) (m + 2) ∧ Kept w0 N w w' := by
  obtain ⟨F, h1, h2, h3⟩ := h
  exact (write_any w g F st m i A n c B b h1 hm hr hB hn hb).mono fun e w' hp => Live.post hN h2 h3 hp
theorem flush_live (h : Live w0 N w g st m) (hN : ∀ i, N i → i < w.heap.size) (hm : m + 1 ≤ 50000) :
    Calls Try.prog 12 #[.pointer (some ⟨g, 0, none⟩)] w fun e w' => e = .returned (.int .i64 st.flushE) ∧ Live w0 N w' g st.flush (m + 1) ∧ Kept w0 N w w' := by
  obtain ⟨F, h1, h2, h3⟩ := h
  exact (flush_any w g F st m h1 hm).mono fun e w' hp => Live.post hN h2 h3 hp
theorem fall_live {x : Int} (h : Live w0 N w g st m) (hN : ∀ i, N i → i < w.heap.size) (hm : m ≤ 50000) :
    Calls Try.prog 10 #[.pointer (some ⟨g, 0, none⟩), .int .i64 x] w fun e w' => e = .returned (.tuple #[]) ∧ Live w0 N w' g (st.fall x) m ∧ Kept w0 N w w' := by
  obtain ⟨F, h1, h2, h3⟩ := h
  exact (fall_any w g F st m x h1 hm).mono fun e w' hp => Live.post hN h2 h3 hp
theorem arm_live {a s : Int} (h : Live w0 N w g st m) (hN : ∀ i, N i → i < w.heap.size) (h0 : -9223372036854775808 ≤ a) (h1 : a ≤ 9223372036854775807) :
    Calls Try.prog 14 #[.pointer (some ⟨g, 0, none⟩), .int .i64 a, .int .i64 s] w fun e w' => e = .returned (.tuple #[]) ∧ Live w0 N w' g (st.arm a s) m ∧ Kept w0 N w w' := by
  obtain ⟨F, h1', h2, h3⟩ := h
  exact (arm_any w g F st m a s h1' h0 h1).mono fun e w' hp => Live.post hN h2 h3 hp
theorem on_live (h : Live w0 N w g st m) : Calls Try.prog 17 #[.pointer (some ⟨g, 0, none⟩)] w fun e w' => e = .returned (.bool (!st.off)) ∧ w = w' := by
  obtain ⟨F, h1, _⟩ := h
  exact on_any w g F st m h1
theorem size_live (h : Live w0 N w g st m) : Calls Try.prog 20 #[.pointer (some ⟨g, 0, none⟩)] w fun e w' => e = .returned (.int .i64 st.safe.length) ∧ w = w' := by
  obtain ⟨F, h1, _⟩ := h
  exact size_any w g F st m h1
theorem acts_live (h : Live w0 N w g st m) : Calls Try.prog 18 #[.pointer (some ⟨g, 0, none⟩)] w fun e w' => e = .returned (.int .i64 st.acts) ∧ w = w' := by
  obtain ⟨F, h1, _⟩ := h
  exact acts_any w g F st m h1
theorem wet_live (h : Live w0 N w g st m) : Calls Try.prog 19 #[.pointer (some ⟨g, 0, none⟩)] w fun e w' => e = .returned (.int .i64 st.wet.length) ∧ w = w' := by
  obtain ⟨F, h1, _⟩ := h
  exact wet_any w g F st m h1
theorem read_live {i : Int} (h : Live w0 N w g st m) (ho : st.off = false) (h0 : 0 ≤ i) (h1 : i < st.safe.length) : Calls Try.prog 11 #[.pointer (some ⟨g, 0, none⟩), .int .i64 i] w (Told w (st.read i)) := by
  obtain ⟨F, h1', _⟩ := h
  exact read_any w g F st m i h1' ho h0 h1
theorem readoff_live {i : Int} (h : Live w0 N w g st m) (ho : st.off = true) : Calls Try.prog 11 #[.pointer (some ⟨g, 0, none⟩), .int .i64 i] w fun e w' => e = .returned (.tuple #[.slice none 0 0, .int .i64 7]) ∧ w = w' := by
  obtain ⟨F, h1', _⟩ := h
  exact read_off w g F st m i h1' ho
end
/-- A new plate. -/
theorem new_live {w0 : World} {N : Nat → Prop} (w : World) (n : Int) (hn : n ≤ 1000) (hb : Below w0.heap.size w0 w) (hN : ∀ i, N i → i < w.heap.size) :
    Calls Try.prog 5 #[.int .i64 n] w fun e w' => e = .returned (.pointer (some ⟨w.heap.size + 2, 0, none⟩)) ∧ Live w0 N w' (w.heap.size + 2) (Pl.St.new n) 0 ∧ Below w.heap.size w w' := by
  have hs := hb.size
  exact (new_any w n hn).mono fun e w' ⟨h1, h2, h3⟩ => ⟨h1, ⟨_, h2, fun i hi => ⟨by omega, fun hf => by have := hN i hf; omega⟩, hb.trans (h3.mono hs)⟩, h3⟩

/-! The document's example. -/
def hi : List Int := [104, 105]
theorem eg1 : (Pl.St.new 2).putE 0 hi = 0 := by kernel_rfl
theorem eg2 : (((Pl.St.new 2).put 0 hi).fall 0).read 0 = Pl.zs := by kernel_rfl
theorem eg2o : (((Pl.St.new 2).put 0 hi).fall 0).off = false := by kernel_rfl
theorem eg3 : ((((((Pl.St.new 2).put 0 hi).fall 0).put 0 hi).flush).fall 0).read 0 = Pl.pad hi := by kernel_rfl
theorem eg3o : ((((((Pl.St.new 2).put 0 hi).fall 0).put 0 hi).flush).fall 0).off = false := by kernel_rfl
theorem eg2l : (((((Pl.St.new 2).put 0 hi).fall 0)).safe.length : Int) = 2 := by kernel_rfl
theorem eg3l : (((((((Pl.St.new 2).put 0 hi).fall 0).put 0 hi).flush).fall 0).safe.length : Int) = 2 := by kernel_rfl
theorem hi_bytes : ∀ x ∈ hi, 0 ≤ x ∧ x < 256 := by unfold hi; intro x hx; simp at hx; omega

/-- What was told, and stays. -/
theorem Told.open_ {w w' : World} {l : List Int} {e : Ending} (h : Told w l e w') : ∃ A c, e = .returned (.tuple #[.slice A 64 c, .int .i64 0]) ∧ Hid (Rd w' .u8 w'.heap.size A l) ∧ Hid (Below w.heap.size w w') ∧ 64 ≤ c ∧ c ≤ maxLen ∧ Hid (w'.ownsRow w.heap.size 5 1 (.slice A 64 c) 64 (cl .u8 l)) := by
  obtain ⟨A, c, h1, h2, h3, h4, h5⟩ := h
  exact ⟨A, c, h1, Rd.own' h2 rfl, h3, h4, h5, h2⟩
theorem rd_own_kept {w w' : World} {base : Nat} {A : Option Addr} {c : Nat} {l : List Int} (ho : w.ownsRow base 5 1 (.slice A 64 c) 64 (cl .u8 l)) (hk : ∀ i, base ≤ i → i < w.heap.size → w'.heap[i]? = w.heap[i]?) : Rd w' .u8 w'.heap.size A l ∧ w'.ownsRow base 5 1 (.slice A 64 c) 64 (cl .u8 l) := by
  have := own_kept ho fun i hi => hk i (ho.lt i hi).1 (ho.lt i hi).2
  exact ⟨Rd.own' this rfl, this⟩

set_option maxRecDepth 20000 in
set_option maxHeartbeats 1600000 in
theorem awake_any (w : World) : Calls Try.prog 4 #[] w fun e w' => e = .returned (.bool true) ∧ Below w.heap.size w w' := by
  have hk := fun (w : World) (C : Array Value) (n c : Nat) => Lib.run_convert_bytes_const (P := Try.prog) w 31 5 C n c Try.underlying31 Try.underlying5
  go_enter Try.func4, Try.ntmps4
  go_wp2_with (go_at_call 5; refine (new_live (w0 := w) (N := fun _ => False) w 2 (by omega) (Below.refl _ _) (fun _ h => h.elim)).mono ?_; rintro e w1 ⟨rfl, h1, _⟩)
  generalize w.heap.size + 2 = g at *
  have hb1 : Below w1.heap.size w1 (w1.alloc (.cells #[.int .u8 104, .int .u8 105] 5 (2, 3))) := (Below.refl _ _).alloc (Nat.le_refl _) _
  refine (write_live (b := hi) (B := w1.heap.size + 1) (h1.below hb1) (fun _ h => h.elim) (by omega) (rd_lit w1 _ .u8 hi _ _ rfl) (by simp) rfl hi_bytes).mono ?_
  rintro e w2 ⟨rfl, h2, _⟩
  clear hb1 h1
  rw [eg1]
  go_wp2_with (fail)
  refine (fall_live h2 (fun _ h => h.elim) (by omega)).mono ?_
  rintro e w3 ⟨rfl, h3, _⟩
  clear h2
  go_wp2_with (fail)
  refine (read_live h3 eg2o (by omega) (by rw [eg2l]; omega)).mono ?_
  intro e w4 ht
  rw [eg2] at ht
  obtain ⟨A, c, rfl, HR4, HB4, hc1, hc2, HO4⟩ := ht.open_
  have h4 := h3.more HB4.out
  have hN4 : ∀ i, (False ∨ (w3.heap.size ≤ i ∧ i < w4.heap.size)) → i < w4.heap.size := fun i hi => by rcases hi with h | h; exact h.elim; exact h.2
  clear ht h3
  go_wp2_with (fail)
  have hb5 : Below w4.heap.size w4 (w4.alloc (.cells #[.int .u8 104, .int .u8 105] 5 (2, 3))) := (Below.refl _ _).alloc (Nat.le_refl _) _
  refine (write_live (b := hi) (B := w4.heap.size + 1) (h4.below hb5) (fun i hi => by have := hN4 i hi; rw [World.size_alloc]; omega) (by omega) (rd_lit w4 _ .u8 hi _ _ rfl) (by simp) rfl hi_bytes).mono ?_
  rintro e w5 ⟨rfl, h5, k5⟩
  have z5 : w4.heap.size ≤ w5.heap.size := by have := k5.size; rw [World.size_alloc] at this; omega
  go_wp2_with (fail)
  refine (flush_live h5 (fun i hi => by have := hN4 i hi; omega) (by omega)).mono ?_
  rintro e w6 ⟨rfl, h6, k6⟩
  have z6 := k6.size
  go_wp2_with (fail)
  refine (fall_live h6 (fun i hi => by have := hN4 i hi; omega) (by omega)).mono ?_
  rintro e w7 ⟨rfl, h7, k7⟩
  have z7 := k7.size
  have hk7 : ∀ i, w3.heap.size ≤ i → i < w4.heap.size → w7.heap[i]? = w4.heap[i]? := fun i h0 h1 => ((k7.block i (.inr ⟨h0, h1⟩)).trans (k6.block i (.inr ⟨h0, h1⟩))).trans ((k5.block i (.inr ⟨h0, h1⟩)).trans (alloc_block_old h1))
  have HO7 := Lib.hid (rd_own_kept HO4.out hk7).2
  clear h4 h5 h6 k5 k6 k7 hb5 hk7
  go_wp2_with (fail)
  refine (read_live h7 eg3o (by omega) (by rw [eg3l]; omega)).mono ?_
  intro e w8 ht
  rw [eg3] at ht
  obtain ⟨A', c', rfl, HR8, HB8, hc3, hc4, HO8⟩ := ht.open_
  have ho8 := rd_own_kept HO7.out (w' := w8) (fun i h0 h1 => HB8.out.block i h1)
  obtain ⟨a, rfl, _, hca⟩ := ho8.1.at_ (j := 0) (by rw [Pl.sec_zs.1]; omega)
  have hca' : w8.cell? a = some (.int .u8 0) := by rw [ad_zero] at hca; exact hca
  have hcv : (convert 31 9 (.slice A' 3 c')).run Try.prog w8 = .ok (.string (bst [104, 105, 0])) w8 := conv_len w8 A' _ c' 3 [104, 105, 0] (HR8.out.take 3) rfl
  have hold := h7.old.trans (HB8.out.mono h7.old.size)
  have HOLD := Lib.hid hold
  clear ho8 hca ht h7 hold
  go_wp2
  go_ret
  exact ⟨ret_bool (by kernel_rfl), HOLD.out⟩
end Go.Proofs.Ytlbodpffkdfllaa
