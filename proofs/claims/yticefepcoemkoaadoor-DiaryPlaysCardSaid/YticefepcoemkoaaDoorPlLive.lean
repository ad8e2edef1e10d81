/-
  A plate in a walk: its blocks lie behind an old world, and apart from others (N); each act leaves it so. And the document's example. No conditions but the sizes.
-/
import Derived.Test.YticefepcoemkoaaDoorPlRead
import Derived.Lib.SlBytesConst
namespace Go.Proofs.YticefepcoemkoaaDoor
set_option maxRecDepth 20000
open Go.ChangeShapes Go.WideShapes Go.ChangeAt Go.RowKit

def Live (w0 : World) (N : Nat → Prop) (w : World) (g : Nat) (st : Pl.St) (m : Nat) : Prop :=
  ∃ F, PlB w g F st m ∧ (∀ i, F i → w0.heap.size ≤ i ∧ ¬ N i) ∧ Below w0.heap.size w0 w
/-- What an act leaves. -/
structure Kept (w0 : World) (N : Nat → Prop) (w w' : World) : Prop where
  size : w.heap.size ≤ w'.heap.size
  block : ∀ i, N i → w'.heap[i]? = w.heap[i]?
  old : ∀ i, i < w0.heap.size → w'.heap[i]? = w.heap[i]?

section
variable {w0 : World} {N : Nat → Prop} {w w' : World} {g : Nat} {st st' : Pl.St} {m m' : Nat}
theorem Live.ok (h : Live w0 N w g st m) : Pl.Ok st := by obtain ⟨F, h, _⟩ := h; exact h.ok
theorem Live.old (h : Live w0 N w g st m) : Below w0.heap.size w0 w := by obtain ⟨F, _, _, h⟩ := h; exact h
theorem Live.mono (h : Live w0 N w g st m) (hm : m ≤ m') (hm' : m' ≤ 100000) : Live w0 N w g st m' := by obtain ⟨F, h, h2⟩ := h; exact ⟨F, h.mono hm hm', h2⟩
theorem Live.below (h : Live w0 N w g st m) (hb : Below w.heap.size w w') : Live w0 N w' g st m := by
  obtain ⟨F, h, h2, h3⟩ := h
  exact ⟨F, h.below hb, h2, h3.trans (hb.mono h3.size)⟩
/-- Other blocks too are apart from it: those that are new. -/
theorem Live.more (h : Live w0 N w g st m) (hb : Below w.heap.size w w') : Live w0 (fun i => N i ∨ (w.heap.size ≤ i ∧ i < w'.heap.size)) w' g st m := by
  obtain ⟨F, h, h2, h3⟩ := h
  refine ⟨F, h.below hb, fun i hi => ⟨(h2 i hi).1, ?_⟩, h3.trans (hb.mono h3.size)⟩
  rintro (h' | h')
  · exact (h2 i hi).2 h'
  · have := h.lt i hi; omega
theorem Live.less {N' : Nat → Prop} (h : Live w0 N w g st m) (hN : ∀ i, N' i → N i) : Live w0 N' w g st m := by
  obtain ⟨F, h, h2, h3⟩ := h
  exact ⟨F, h, fun i hi => ⟨(h2 i hi).1, fun hn => (h2 i hi).2 (hN i hn)⟩, h3⟩
/-- Other blocks may be written. -/
theorem Live.turned (h : Live w0 N w g st m) (hs : w.heap.size ≤ w'.heap.size) (hk : ∀ i, ¬ N i → w'.heap[i]? = w.heap[i]?) (hb : Below w0.heap.size w0 w') : Live w0 N w' g st m := by
  obtain ⟨F, h, h2, h3⟩ := h
  exact ⟨F, h.kept (fun i hi => hk i (h2 i hi).2) hs, h2, hb⟩
theorem Live.post {F : Nat → Prop} {r : Value} {e : Ending} (hN : ∀ i, N i → i < w.heap.size) (h2 : ∀ i, F i → w0.heap.size ≤ i ∧ ¬ N i) (h3 : Below w0.heap.size w0 w) (hp : PlPost w g F st' m' r e w') : e = .returned r ∧ Live w0 N w' g st' m' ∧ Kept w0 N w w' := by
  obtain ⟨h4, h5, h6⟩ := hp
  have hs := h3.size
  refine ⟨h4, ⟨_, h5, fun i hi => ?_, h3.trans (h6.below (fun i hi => (h2 i hi).1) hs)⟩, h6.size, fun i hi => h6.block i (hN i hi) fun hf => (h2 i hf).2 hi, fun i hi => h6.block i (by omega) fun hf => by have := (h2 i hf).1; omega⟩
  rcases hi with h' | h'
  · exact h2 i h'
  · exact ⟨by omega, fun hn => by have := hN i hn; omega⟩
end
section
variable {w0 : World} {N : Nat → Prop} {w : World} {g : Nat} {st : Pl.St} {m : Nat}
theorem write_live {i : Int} {A : Option Addr} {n c B : Nat} {b : List Int} (h : Live w0 N w g st m) (hN : ∀ i, N i → i < w.heap.size) (hm : m + 2 ≤ 100000) (hr : Rd w .u8 B A b) (hB : B ≤ w.heap.size) (hn : b.length = n) (hb : ∀ x ∈ b, 0 ≤ x ∧ x < 256) :
    Calls Tryd.prog 49 #[.pointer (some ⟨g, 0, none⟩), .int .i64 i, .slice A n c] w fun e w' => e = .returned (.int .i64 (st.putE i b)) ∧ Live w0 N w' g (st.put i b) (m + 2) ∧ Kept w0 N w w' := by
  obtain ⟨F, h1, h2, h3⟩ := h
  exact (write_any w g F st m i A n c B b h1 hm hr hB hn hb).mono fun e w' hp => Live.post hN h2 h3 hp
theorem flush_live (h : Live w0 N w g st m) (hN : ∀ i, N i → i < w.heap.size) (hm : m + 1 ≤ 50000) :
    Calls Tryd.prog 50 #[.pointer (some ⟨g, 0, none⟩)] w fun e w' => e = .returned (.int .i64 st.flushE) ∧ Live w0 N w' g st.flush (m + 1) ∧ Kept w0 N w w' := by
  obtain ⟨F, h1, h2, h3⟩ := h
  exact (flush_any w g F st m h1 hm).mono fun e w' hp => Live.post hN h2 h3 hp
theorem fall_live {x : Int} (h : Live w0 N w g st m) (hN : ∀ i, N i → i < w.heap.size) (hm : m ≤ 50000) :
    Calls Tryd.prog 17 #[.pointer (some ⟨g, 0, none⟩), .int .i64 x] w fun e w' => e = .returned (.tuple #[]) ∧ Live w0 N w' g (st.fall x) m ∧ Kept w0 N w w' := by
  obtain ⟨F, h1, h2, h3⟩ := h
  exact (fall_any w g F st m x h1 hm).mono fun e w' hp => Live.post hN h2 h3 hp
theorem on_live (h : Live w0 N w g st m) : Calls Tryd.prog 19 #[.pointer (some ⟨g, 0, none⟩)] w fun e w' => e = .returned (.bool (!st.off)) ∧ w = w' := by
  obtain ⟨F, h1, _⟩ := h
  exact on_any w g F st m h1
theorem size_live (h : Live w0 N w g st m) : Calls Tryd.prog 20 #[.pointer (some ⟨g, 0, none⟩)] w fun e w' => e = .returned (.int .i64 st.safe.length) ∧ w = w' := by
  obtain ⟨F, h1, _⟩ := h
  exact psize_any w g F st m h1
theorem wet_live (h : Live w0 N w g st m) : Calls Tryd.prog 16 #[.pointer (some ⟨g, 0, none⟩)] w fun e w' => e = .returned (.int .i64 st.wet.length) ∧ w = w' := by
  obtain ⟨F, h1, _⟩ := h
  exact wet_any w g F st m h1
theorem read_live {i : Int} (h : Live w0 N w g st m) (ho : st.off = false) (h0 : 0 ≤ i) (h1 : i < st.safe.length) : Calls Tryd.prog 15 #[.pointer (some ⟨g, 0, none⟩), .int .i64 i] w (Told w (st.read i)) := by
  obtain ⟨F, h1', _⟩ := h
  exact read_any w g F st m i h1' ho h0 h1
theorem readoff_live {i : Int} (h : Live w0 N w g st m) (ho : st.off = true) : Calls Tryd.prog 15 #[.pointer (some ⟨g, 0, none⟩), .int .i64 i] w fun e w' => e = .returned (.tuple #[.slice none 0 0, .int .i64 7]) ∧ w = w' := by
  obtain ⟨F, h1', _⟩ := h
  exact read_off w g F st m i h1' ho
end
/-- A new plate. -/
theorem new_live {w0 : World} {N : Nat → Prop} (w : World) (n : Int) (hn : n ≤ 1000) (hb : Below w0.heap.size w0 w) (hN : ∀ i, N i → i < w.heap.size) :
    Calls Tryd.prog 7 #[.int .i64 n] w fun e w' => e = .returned (.pointer (some ⟨w.heap.size + 2, 0, none⟩)) ∧ Live w0 N w' (w.heap.size + 2) (Pl.St.new n) 0 ∧ Below w.heap.size w w' := by
  have hs := hb.size
  exact (new_any w n hn).mono fun e w' ⟨h1, h2, h3⟩ => ⟨h1, ⟨_, h2, fun i hi => ⟨by omega, fun hf => by have := hN i hf; omega⟩, hb.trans (h3.mono hs)⟩, h3⟩

/-! The document's example. -/
def hi : List Int := [104, 105]
theorem eg1 : (Pl.St.new 2).putE 0 hi = 0 := by kernel_rfl
theorem eg2 : (((Pl.St.new 2).put 0 hi).fall 0).read 0 = Pl.zs := by kernel_rfl
theorem eg2o : (((Pl.St.new 2).put 0 hi).fall 0).off = false := by kernel_rfl
theorem eg3 : ((((((Pl.St.new 2).put 0 hi).fall 0).put 0 hi).flush).fall 0).read 0 = Pl.pad hi := by kernel_rfl
theorem eg3o : ((((((Pl.St.new 2).put 0 hi).fall 0).put 0 hi).flush).fall 0).off = false := by kernel_rfl
theorem eg2l : (((((Pl.St.new 2).put 0 hi).fall 0)).safe.length : Int) = 2 := by kernel_rfl
theorem eg3l : (((((((Pl.St.new 2).put 0 hi).fall 0).put 0 hi).flush).fall 0).safe.length : Int) = 2 := by kernel_rfl
theorem hi_bytes : ∀ x ∈ hi, 0 ≤ x ∧ x < 256 := by unfold hi; intro x hx; simp at hx; omega

/-- What was told, and stays. -/
theorem Told.open_ {w w' : World} {l : List Int} {e : Ending} (h : Told w l e w') : ∃ A c, e = .returned (.tuple #[.slice A 64 c, .int .i64 0]) ∧ Hid (Rd w' .u8 w'.heap.size A l) ∧ Hid (Below w.heap.size w w') ∧ 64 ≤ c ∧ c ≤ maxLen ∧ Hid (w'.ownsRow w.heap.size 5 1 (.slice A 64 c) 64 (cl .u8 l)) := by
  obtain ⟨A, c, h1, h2, h3, h4, h5⟩ := h
  exact ⟨A, c, h1, Rd.own' h2 rfl, h3, h4, h5, h2⟩
theorem rd_own_kept {w w' : World} {base : Nat} {A : Option Addr} {c : Nat} {l : List Int} (ho : w.ownsRow base 5 1 (.slice A 64 c) 64 (cl .u8 l)) (hk : ∀ i, base ≤ i → i < w.heap.size → w'.heap[i]? = w.heap[i]?) : Rd w' .u8 w'.heap.size A l ∧ w'.ownsRow base 5 1 (.slice A 64 c) 64 (cl .u8 l) := by
  have := own_kept ho fun i hi => hk i (ho.lt i hi).1 (ho.lt i hi).2
  exact ⟨Rd.own' this rfl, this⟩

end Go.Proofs.YticefepcoemkoaaDoor
