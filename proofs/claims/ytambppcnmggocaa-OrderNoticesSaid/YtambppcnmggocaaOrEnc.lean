/-
  Contract of order.Encode: an order's bytes, or none. No conditions but that its bytes are bytes.
-/
import Derived.Test.YtambppcnmggocaaOrPut
import Derived.Test.YtambppcnmggocaaPlanBox
namespace Go.Proofs.Ytambppcnmggocaa
set_option maxRecDepth 20000
open Go.ChangeShapes Go.WideShapes Go.ChangeAt Go.RowKit

/-- What an order's kind names, as bytes. -/
def Ov.rest (o : Ov) : List Int := if nm o.k = 1 then Pn.bytes o.P.a o.P.u o.P.e o.P.t o.P.g o.P.l else if nm o.k = 2 then Pk.encs [o.s, o.p] else if nm o.k = 3 then Pk.encs [o.s] else if nm o.k = 4 then Pk.encs [o.n] else if nm o.k = 5 then o.A.bytes else []
def Ov.bytes (o : Ov) : List Int := Pk.enc (Pk.zig o.k) ++ o.rest
def Ov.out (o : Ov) : List Int := if o.right = 0 then o.bytes else []

/-- An order that may be: what is known of its numbers. -/
theorem right_zero {o : Ov} (h : o.right = 0) : o.Num ∧ o = o.named ∧ (o.k = 1 → Pn.right o.P.a o.P.u o.P.e o.P.t = 0) := by
  by_cases g : o.Num ∧ o = o.named
  · rw [right_good g] at h
    exact ⟨g.1, g.2, fun c => by rwa [if_pos c] at h⟩
  · rw [right_bad g] at h; omega
theorem nm_one {k : Int} (h : nm k = 1) : k = 1 := by
  unfold nm at h
  split at h
  · assumption
  · split at h
    · omega
    · split at h
      · omega
      · split at h
        · omega
        · split at h <;> omega
theorem nm_range {k : Int} (h : nm k ≠ 0) : 1 ≤ k ∧ k ≤ 10 := by
  unfold nm at h
  split at h
  · omega
  · split at h
    · omega
    · split at h
      · omega
      · split at h
        · omega
        · split at h
          · omega
          · exact absurd rfl h
theorem num_range {o : Ov} (h : o.Num) : 1 ≤ o.k ∧ o.k ≤ 10 := by
  refine nm_range fun e => ?_
  unfold Ov.Num at h
  rw [e] at h
  omega
theorem pn_zero {a u e t : Int} (h : Pn.right a u e t = 0) : u ≤ 3 ∧ 1 ≤ e ∧ e ≤ 1000 ∧ 0 ≤ t ∧ t ≤ 1000 ∧ 0 ≤ a ∧ a ≤ 1073741824 := by
  unfold Pn.right at h
  split at h
  · omega
  · split at h <;> omega

set_option maxHeartbeats 4000000 in
theorem enc_none (k s p n a u e t : Int) (g l : Bool) (K S C T M V : Int) (w : World) (h : Ov.right ⟨k, s, p, n, ⟨a, u, e, t, g, l⟩, ⟨K, S, C, T, M, V⟩⟩ ≠ 0) :
    Calls Try.prog 17 #[.agg #[.int .u8 k, .int .i64 s, .int .i64 p, .int .i64 n, .int .i64 a, .int .u8 u, .int .i64 e, .int .i64 t, .bool g, .bool l, .int .u8 K, .int .i64 S, .int .i64 C, .int .i64 T, .int .i64 M, .int .u8 V]] w fun x w' => x = .returned (.slice none 0 0) ∧ Below w.heap.size w w' := by
  have hx : ∃ X, Ov.right ⟨k, s, p, n, ⟨a, u, e, t, g, l⟩, ⟨K, S, C, T, M, V⟩⟩ = X ∧ X ≠ 0 := ⟨_, rfl, h⟩
  obtain ⟨X, hX, hn⟩ := hx
  have HX := Lib.hid hX
  have d : (X != 0) = true := by simpa using hn
  clear h hX hn
  go_enter Try.func17, Try.ntmps17
  go_wp2_with (first | (with_reducible_and_instances (show wpList _ _ _ (Oper.mk _ (Op.load 27 _) _ _ _ _ :: _) _ _); refine wl_load Try.underlying27 rfl info16 rfl rfl rfl (by (repeat (first | assumption | (with_reducible refine alloc_at ?_; (focus (first | omega | (simp; done) | (simp; omega)))) | (with_reducible refine boxed_at ?_; (focus (first | omega | (simp; done) | (simp; omega)))) | (with_reducible refine alloc_old ?_ ?_; (focus (first | omega | (simp; done) | (simp; omega)))) | (with_reducible refine boxed_old ?_ ?_; (focus (first | omega | (simp; done) | (simp; omega)))) | (with_reducible refine drew_old ?_)))) (by rfl) ?_) | (go_at_call 13; refine (oright_any k s p n a u e t g l K S C T M V _).mono ?_; rw [HX.out]; rintro e w' ⟨rfl, hb⟩))
  go_ret
  exact ⟨rfl, ((Below.refl _ _).alloc (Nat.le_refl _) _).trans (hb.mono (by simp))⟩

theorem owned_n {w w' : World} {l : List Int} {A : Option Addr} {n c : Nat} (hn : l.length = n) (ho : w'.ownsRow w.heap.size 5 1 (.slice A n c) n (cl .u8 l)) (hb : Below w.heap.size w w') (h1 : n ≤ c) (h2 : c ≤ maxLen) : Owned w l (.returned (.slice A n c)) w' := by
  subst hn; exact ⟨A, c, rfl, ho, hb, h1, h2⟩
/-- What is there when the kind has been put: the order's block, and the box. -/
structure Begun (w0 : World) (B R g : Nat) (cs : Array Value) (ls : List Int) (w : World) : Prop where
  blk : w.heap[B]? = some (.cells cs 27 (0, 0))
  lt : B < R
  put : PB w R g ls
  below : Below B w0 w
theorem Begun.cell {w0 w : World} {B R g : Nat} {cs : Array Value} {ls : List Int} (h : Begun w0 B R g cs ls w) (i : Nat) : w.cell? ⟨B, i, none⟩ = cs[i]? := cell_of_row _ _ _ _ _ _ h.blk
theorem Begun.done {w0 w w' : World} {B R g : Nat} {cs : Array Value} {ls : List Int} {e : Ending} (h : Begun w0 B R g cs ls w) (hB : B = w0.heap.size) (ho : Owned w ls e w') : Owned w0 ls e w' := by
  subst hB; exact owned_back h.below ho
theorem Begun.more {w0 w w' : World} {B R g : Nat} {cs : Array Value} {ls l2 : List Int} (h : Begun w0 B R g cs ls w) (hp : Put w R g l2 w') : Begun w0 B R g cs l2 w' :=
  ⟨(hp.below.block B h.lt).trans h.blk, h.lt, hp.box, h.below.trans (hp.below.mono (Nat.le_of_lt h.lt))⟩


theorem num_2 {o : Ov} (hn : nm o.k = 2) (h : o.Num) : 0 ≤ o.s ∧ o.s < 32 ∧ 0 ≤ o.p ∧ o.p < 8 := by
  unfold Ov.Num at h; rw [hn] at h
  rcases h with x | ⟨_, x⟩ | ⟨x, _⟩ | ⟨x, _⟩ | ⟨x, _⟩
  all_goals first | (exact x) | omega
theorem num_3 {o : Ov} (hn : nm o.k = 3) (h : o.Num) : 0 ≤ o.s ∧ o.s < 32 := by
  unfold Ov.Num at h; rw [hn] at h
  rcases h with x | ⟨x, _⟩ | ⟨_, x⟩ | ⟨x, _⟩ | ⟨x, _⟩
  all_goals first | (exact x) | omega
theorem num_4 {o : Ov} (hn : nm o.k = 4) (h : o.Num) : 1 ≤ o.n ∧ o.n ≤ 60 := by
  unfold Ov.Num at h; rw [hn] at h
  rcases h with x | ⟨x, _⟩ | ⟨x, _⟩ | ⟨_, x⟩ | ⟨x, _⟩
  all_goals first | (exact x) | omega
theorem num_5 {o : Ov} (hn : nm o.k = 5) (h : o.Num) : o.A.Ans := by
  unfold Ov.Num at h; rw [hn] at h
  rcases h with x | ⟨x, _⟩ | ⟨x, _⟩ | ⟨x, _⟩ | ⟨_, x⟩
  all_goals first | (exact x) | omega
theorem num_0 {o : Ov} (hn : nm o.k = 0) (h : o.Num) : False := by
  unfold Ov.Num at h; rw [hn] at h
  rcases h with x | ⟨x, _⟩ | ⟨x, _⟩ | ⟨x, _⟩ | ⟨x, _⟩
  all_goals omega

theorem put_at (w : World) (R g : Nat) (l : List Int) (cs : Array Value) (ns : List Int) (m c B : Nat) (hb : w.heap[B]? = some (.cells cs 2 (0, 0))) (hc : cs.toList = cl .i64 ns) (hm : ns.length = m) (h : PB w R g l) (hl : l.length ≤ 100000) (hn : ns.length ≤ 1000) (hi : I64 ns) :
    Calls Try.prog 38 #[.pointer (some ⟨g, 0, none⟩), .slice (some ⟨B, 0, none⟩) m c] w (PutP w R g (l ++ Pk.encs ns)) := by
  subst hm
  refine put_any _ R g l _ c ns h (fun _ => ⟨_, rfl, .inr ⟨_, hb⟩, fun j u hu => ?_⟩) hl hn hi
  rw [ad_head, cell_of_row _ _ _ _ _ (0, 0) hb, ← Array.getElem?_toList, hc]
  unfold cl; rw [List.getElem?_map, hu]; rfl

set_option maxHeartbeats 4000000 in
theorem enc_1 (k s p n a u e t : Int) (g l : Bool) (K S C T M V : Int) (w : World) (h : Ov.right ⟨k, s, p, n, ⟨a, u, e, t, g, l⟩, ⟨K, S, C, T, M, V⟩⟩ = 0) (hn : nm k = 1) (wu : 0 ≤ u) :
    Calls Try.prog 17 #[.agg #[.int .u8 k, .int .i64 s, .int .i64 p, .int .i64 n, .int .i64 a, .int .u8 u, .int .i64 e, .int .i64 t, .bool g, .bool l, .int .u8 K, .int .i64 S, .int .i64 C, .int .i64 T, .int .i64 M, .int .u8 V]] w (Owned w (Pk.enc (Pk.zig k) ++ Pn.bytes a u e t g l)) := by
  have hk := num_range (right_zero h).1
  dsimp only at hk
  obtain ⟨hk1, hk2⟩ := hk
  have hk := nm_one hn
  subst hk
  obtain ⟨q1, q2, q3, q4, q5, q6, q7⟩ := pn_zero ((right_zero h).2.2 rfl)
  dsimp only at q1 q2 q3 q4 q5 q6 q7
  have hwk : IntKind.i64.wrap 1 = 1 := by simp only [IntKind.wrap_i64]; omega
  have H11 : (Pk.encs [1]).length ≤ 11 := Pk.encs_len [1] (by intro x hx; simp only [List.mem_cons, List.not_mem_nil, or_false] at hx; subst hx; omega)
  have HI : Hid (I64 [1]) := Lib.hid (by intro x hx; simp only [List.mem_cons, List.not_mem_nil, or_false] at hx; subst hx; omega)
  have HX := Lib.hid h
  have HN := Lib.hid hn
  have hlen : (Pn.bytes a u e t g l).length ≤ 66 := by rw [Pn.bytes_eq]; exact Pk.encs_len [a, u, e, t, Pn.one g, Pn.one l] (by have h1 := Pn.one_ok g; have h2 := Pn.one_ok l; intro x hx; simp only [List.mem_cons, List.not_mem_nil, or_false] at hx; rcases hx with rfl | rfl | rfl | rfl | rfl | rfl <;> omega)
  have HLEN := Lib.hid hlen
  clear h hn hlen
  go_enter Try.func17, Try.ntmps17
  go_wp2_with (first | (with_reducible_and_instances (show wpList _ _ _ (Oper.mk _ (Op.load 27 _) _ _ _ _ :: _) _ _); refine wl_load Try.underlying27 rfl info16 rfl rfl rfl (by (repeat (first | assumption | (with_reducible refine alloc_at ?_; (focus (first | omega | (simp; done) | (simp; omega)))) | (with_reducible refine boxed_at ?_; (focus (first | omega | (simp; done) | (simp; omega)))) | (with_reducible refine alloc_old ?_ ?_; (focus (first | omega | (simp; done) | (simp; omega)))) | (with_reducible refine boxed_old ?_ ?_; (focus (first | omega | (simp; done) | (simp; omega)))) | (with_reducible refine drew_old ?_)))) (by rfl) ?_) | (go_at_call 13; refine (oright_any 1 s p n a u e t g l K S C T M V _).mono ?_; rw [HX.out]; rintro e w1 ⟨rfl, hb1⟩))
  have hb0 : (w.alloc (.cells #[.int .u8 1, .int .i64 s, .int .i64 p, .int .i64 n, .int .i64 a, .int .u8 u, .int .i64 e, .int .i64 t, .bool g, .bool l, .int .u8 K, .int .i64 S, .int .i64 C, .int .i64 T, .int .i64 M, .int .u8 V] 27)).heap[w.heap.size]? = some (.cells #[.int .u8 1, .int .i64 s, .int .i64 p, .int .i64 n, .int .i64 a, .int .u8 u, .int .i64 e, .int .i64 t, .bool g, .bool l, .int .u8 K, .int .i64 S, .int .i64 C, .int .i64 T, .int .i64 M, .int .u8 V] 27 (0, 0)) := alloc_block
  have hw1 : Below w.heap.size w w1 := ((Below.refl _ _).alloc (Nat.le_refl _) _).trans (hb1.mono (by simp))
  have hz1 : w.heap.size < w1.heap.size := by have := hb1.size; simp at this; omega
  have hblk : w1.heap[w.heap.size]? = some (.cells #[.int .u8 1, .int .i64 s, .int .i64 p, .int .i64 n, .int .i64 a, .int .u8 u, .int .i64 e, .int .i64 t, .bool g, .bool l, .int .u8 K, .int .i64 S, .int .i64 C, .int .i64 T, .int .i64 M, .int .u8 V] 27 (0, 0)) := (hb1.block _ (by simp)).trans hb0
  clear hb0 hb1
  have HB1 := Lib.hid hblk
  have HW1 := Lib.hid hw1
  clear hw1
  refine lane_start (ord := [1, 2, 3, 0, 4, 5, 6]) (S := fun w' => w'.heap[w.heap.size]? = some (.cells #[.int .u8 1, .int .i64 s, .int .i64 p, .int .i64 n, .int .i64 a, .int .u8 u, .int .i64 e, .int .i64 t, .bool g, .bool l, .int .u8 K, .int .i64 S, .int .i64 C, .int .i64 T, .int .i64 M, .int .u8 V] 27 (0, 0))) rfl (by kernel_rfl) hblk (fun hHeld => ?_)
  clear hblk
  repeat (first
    | (refine lane_take (v := ?_) rfl (by kernel_rfl) (by kernel_rfl) (by rfl) ?_ (by assumption) ?_; rotate_left; (focus (intro w' hSw; have hc0 : w'.cell? ⟨w.heap.size, 0, none⟩ = some (.int .u8 1) := cell_of_row _ _ 0 _ _ _ hSw; go_simp; try (with_reducible rfl))); simp only [Act.put, List.setIfInBounds_toArray, List.set_cons_zero, List.set_cons_succ]))
  refine lane_two (i := 0) (j := 4) (ordJ := [0, 5, 6]) rfl rfl (by kernel_rfl) rfl (by rfl) (by rfl) (fun K' hK => ?_) (fun K' hK => ?_)
  · go_simp
    refine (new_any _).mono ?_
    rintro x w2 ⟨rfl, rfl⟩
    refine hK _ _ ((alloc_block_old (w := w1.drew) hz1).trans HB1.out) (fun hHeld => ?_)
    clear hK K'
    refine lane_alone rfl (by kernel_rfl) (by rfl) (fun K' hK => ?_)
    go_simp
    have hbx : (((w1.drew).alloc (.cells #[.slice none 0 0, .int .i64 0] 69)).alloc (.cells #[.int .i64 1] 2)).heap[w.heap.size]? = some (.cells #[.int .u8 1, .int .i64 s, .int .i64 p, .int .i64 n, .int .i64 a, .int .u8 u, .int .i64 e, .int .i64 t, .bool g, .bool l, .int .u8 K, .int .i64 S, .int .i64 C, .int .i64 T, .int .i64 M, .int .u8 V] 27 (0, 0)) := (alloc_block_old (by rw [World.size_alloc]; exact Nat.lt_succ_of_lt hz1)).trans ((alloc_block_old (w := w1.drew) hz1).trans HB1.out)
    refine hK _ _ hbx (fun hHeld => ?_)
    clear hK K'
    refine lane_alone rfl (by kernel_rfl) (by rfl) (fun K' hK => ?_)
    go_simp
    refine (put_at _ w1.heap.size w1.heap.size [] #[.int .i64 1] [1] 1 1 (w1.heap.size + 1) (alloc_at (by simp)) rfl rfl ((pb_new w1.drew w1.heap.size (Nat.le_refl _)).alloc _) (by simp) (by simp) HI.out).mono ?_
    rintro x w3 ⟨rfl, hp⟩
    have hg : ∃ g3, g3 = w1.heap.size ∧ Begun w w.heap.size w1.heap.size g3 #[.int .u8 1, .int .i64 s, .int .i64 p, .int .i64 n, .int .i64 a, .int .u8 u, .int .i64 e, .int .i64 t, .bool g, .bool l, .int .u8 K, .int .i64 S, .int .i64 C, .int .i64 T, .int .i64 M, .int .u8 V] ([] ++ Pk.encs [1]) w3 := ⟨_, rfl, (hp.below.block _ hz1).trans hbx, hz1, hp.box, HW1.out.trans (((((Below.refl _ w1).drew).alloc (Nat.le_refl _) _).alloc (by simp) _).trans (hp.below) |>.mono (Nat.le_of_lt hz1))⟩
    obtain ⟨g3, eg, HG⟩ := hg
    refine hK _ _ HG.blk (fun hHeld => ?_)
    clear hK K' hp hbx
    rw [← eg]
    clear eg
    rw [List.nil_append] at HG
    have HG := Lib.hid HG
    refine lane_take (v := ?_) rfl (by kernel_rfl) (by kernel_rfl) (by rfl) ?_ (by assumption) ?_
    rotate_left
    · intro w' hSw
      go_simp
      try (with_reducible rfl)
    simp only [Act.put, List.setIfInBounds_toArray, List.set_cons_zero, List.set_cons_succ]
    refine lane_end (by kernel_rfl) ?_
    clear hHeld
    have hc0 : w3.cell? ⟨w.heap.size, 0, none⟩ = some (.int .u8 1) := HG.out.cell 0
    have hc4 : w3.cell? ⟨w.heap.size, 4, none⟩ = some (.int .i64 a) := HG.out.cell 4
    have hc5 : w3.cell? ⟨w.heap.size, 5, none⟩ = some (.int .u8 u) := HG.out.cell 5
    have hc6 : w3.cell? ⟨w.heap.size, 6, none⟩ = some (.int .i64 e) := HG.out.cell 6
    have hc7 : w3.cell? ⟨w.heap.size, 7, none⟩ = some (.int .i64 t) := HG.out.cell 7
    have hc8 : w3.cell? ⟨w.heap.size, 8, none⟩ = some (.bool g) := HG.out.cell 8
    have hc9 : w3.cell? ⟨w.heap.size, 9, none⟩ = some (.bool l) := HG.out.cell 9
    go_wp2_with (go_at_call 39; refine (names_is _ _ _ HN.out).mono ?_; rintro e w' ⟨rfl, rfl⟩)
    refine (plput_any w3 (w1.heap.size) g3 _ a u e t g l HG.out.put (by omega) ⟨by omega, by omega⟩ ⟨by omega, by omega⟩ ⟨by omega, by omega⟩ ⟨by omega, by omega⟩).mono ?_
    rintro x w4 ⟨rfl, hp4⟩
    have HG4 := Lib.hid (HG.out.more hp4)
    clear hp4 hc0 hc4 hc5 hc6 hc7 hc8 hc9
    go_wp2_with (fail)
    refine (done_put _ _ _ _ HG4.out.put ?_).mono ?_
    · have := HLEN.out
      rw [List.length_append]; omega
    intro x w5 hO
    have hO5 := HG4.out.done rfl hO
    rw [Pk.encs_one] at hO5
    obtain ⟨n5, hn5⟩ : ∃ n5, (Pk.enc (Pk.zig 1) ++ Pn.bytes a u e t g l).length = n5 := ⟨_, rfl⟩
    obtain ⟨A5, c5, rfl, HO5, HB5, _, h51, h52⟩ := hO5.open_n n5 hn5
    have HN5 := Lib.hid hn5
    clear hO hO5 hn5
    go_wp2
    go_ret
    exact owned_n HN5.out HO5.out HB5.out h51 h52
  · go_simp
    have hbx1 : ((w1.drew).alloc (.cells #[.int .i64 1] 2)).heap[w.heap.size]? = some (.cells #[.int .u8 1, .int .i64 s, .int .i64 p, .int .i64 n, .int .i64 a, .int .u8 u, .int .i64 e, .int .i64 t, .bool g, .bool l, .int .u8 K, .int .i64 S, .int .i64 C, .int .i64 T, .int .i64 M, .int .u8 V] 27 (0, 0)) := (alloc_block_old (w := w1.drew) hz1).trans HB1.out
    refine hK _ _ hbx1 (fun hHeld => ?_)
    clear hK K'
    refine lane_alone rfl (by kernel_rfl) (by rfl) (fun K' hK => ?_)
    go_simp
    refine (new_any _).mono ?_
    rintro x w2 ⟨rfl, rfl⟩
    have hbx : (((w1.drew).alloc (.cells #[.int .i64 1] 2)).alloc (.cells #[.slice none 0 0, .int .i64 0] 69)).heap[w.heap.size]? = some (.cells #[.int .u8 1, .int .i64 s, .int .i64 p, .int .i64 n, .int .i64 a, .int .u8 u, .int .i64 e, .int .i64 t, .bool g, .bool l, .int .u8 K, .int .i64 S, .int .i64 C, .int .i64 T, .int .i64 M, .int .u8 V] 27 (0, 0)) := (alloc_block_old (by rw [World.size_alloc]; exact Nat.lt_succ_of_lt hz1)).trans hbx1
    refine hK _ _ hbx (fun hHeld => ?_)
    clear hK K'
    refine lane_alone rfl (by kernel_rfl) (by rfl) (fun K' hK => ?_)
    go_simp
    refine (put_at _ w1.heap.size (w1.heap.size + 1) [] #[.int .i64 1] [1] 1 1 w1.heap.size (alloc_old (by simp) (alloc_at (w := w1.drew) rfl)) rfl rfl (by have := pb_new ((w1.drew).alloc (.cells #[.int .i64 1] 2)) w1.heap.size (by simp); simpa using this) (by simp) (by simp) HI.out).mono ?_
    rintro x w3 ⟨rfl, hp⟩
    have hg : ∃ g3, g3 = w1.heap.size + 1 ∧ Begun w w.heap.size w1.heap.size g3 #[.int .u8 1, .int .i64 s, .int .i64 p, .int .i64 n, .int .i64 a, .int .u8 u, .int .i64 e, .int .i64 t, .bool g, .bool l, .int .u8 K, .int .i64 S, .int .i64 C, .int .i64 T, .int .i64 M, .int .u8 V] ([] ++ Pk.encs [1]) w3 := ⟨_, rfl, (hp.below.block _ hz1).trans hbx, hz1, hp.box, HW1.out.trans (((((Below.refl _ w1).drew).alloc (Nat.le_refl _) _).alloc (by simp) _).trans (hp.below) |>.mono (Nat.le_of_lt hz1))⟩
    obtain ⟨g3, eg, HG⟩ := hg
    refine hK _ _ HG.blk (fun hHeld => ?_)
    clear hK K' hp hbx
    rw [← eg]
    clear eg
    rw [List.nil_append] at HG
    have HG := Lib.hid HG
    refine lane_take (v := ?_) rfl (by kernel_rfl) (by kernel_rfl) (by rfl) ?_ (by assumption) ?_
    rotate_left
    · intro w' hSw
      go_simp
      try (with_reducible rfl)
    simp only [Act.put, List.setIfInBounds_toArray, List.set_cons_zero, List.set_cons_succ]
    refine lane_end (by kernel_rfl) ?_
    clear hHeld
    have hc0 : w3.cell? ⟨w.heap.size, 0, none⟩ = some (.int .u8 1) := HG.out.cell 0
    have hc4 : w3.cell? ⟨w.heap.size, 4, none⟩ = some (.int .i64 a) := HG.out.cell 4
    have hc5 : w3.cell? ⟨w.heap.size, 5, none⟩ = some (.int .u8 u) := HG.out.cell 5
    have hc6 : w3.cell? ⟨w.heap.size, 6, none⟩ = some (.int .i64 e) := HG.out.cell 6
    have hc7 : w3.cell? ⟨w.heap.size, 7, none⟩ = some (.int .i64 t) := HG.out.cell 7
    have hc8 : w3.cell? ⟨w.heap.size, 8, none⟩ = some (.bool g) := HG.out.cell 8
    have hc9 : w3.cell? ⟨w.heap.size, 9, none⟩ = some (.bool l) := HG.out.cell 9
    go_wp2_with (go_at_call 39; refine (names_is _ _ _ HN.out).mono ?_; rintro e w' ⟨rfl, rfl⟩)
    refine (plput_any w3 (w1.heap.size) g3 _ a u e t g l HG.out.put (by omega) ⟨by omega, by omega⟩ ⟨by omega, by omega⟩ ⟨by omega, by omega⟩ ⟨by omega, by omega⟩).mono ?_
    rintro x w4 ⟨rfl, hp4⟩
    have HG4 := Lib.hid (HG.out.more hp4)
    clear hp4 hc0 hc4 hc5 hc6 hc7 hc8 hc9
    go_wp2_with (fail)
    refine (done_put _ _ _ _ HG4.out.put ?_).mono ?_
    · have := HLEN.out
      rw [List.length_append]; omega
    intro x w5 hO
    have hO5 := HG4.out.done rfl hO
    rw [Pk.encs_one] at hO5
    obtain ⟨n5, hn5⟩ : ∃ n5, (Pk.enc (Pk.zig 1) ++ Pn.bytes a u e t g l).length = n5 := ⟨_, rfl⟩
    obtain ⟨A5, c5, rfl, HO5, HB5, _, h51, h52⟩ := hO5.open_n n5 hn5
    have HN5 := Lib.hid hn5
    clear hO hO5 hn5
    go_wp2
    go_ret
    exact owned_n HN5.out HO5.out HB5.out h51 h52

set_option maxHeartbeats 4000000 in
theorem enc_2 (k s p n a u e t : Int) (g l : Bool) (K S C T M V : Int) (w : World) (h : Ov.right ⟨k, s, p, n, ⟨a, u, e, t, g, l⟩, ⟨K, S, C, T, M, V⟩⟩ = 0) (hn : nm k = 2) :
    Calls Try.prog 17 #[.agg #[.int .u8 k, .int .i64 s, .int .i64 p, .int .i64 n, .int .i64 a, .int .u8 u, .int .i64 e, .int .i64 t, .bool g, .bool l, .int .u8 K, .int .i64 S, .int .i64 C, .int .i64 T, .int .i64 M, .int .u8 V]] w (Owned w (Pk.enc (Pk.zig k) ++ Pk.encs [s, p])) := by
  have hk := num_range (right_zero h).1
  dsimp only at hk
  obtain ⟨hk1, hk2⟩ := hk
  obtain ⟨q1, q2, q3, q4⟩ := num_2 hn (right_zero h).1
  dsimp only at q1 q2 q3 q4
  have hwk : IntKind.i64.wrap k = k := by simp only [IntKind.wrap_i64]; omega
  have H11 : (Pk.encs [k]).length ≤ 11 := Pk.encs_len [k] (by intro x hx; simp only [List.mem_cons, List.not_mem_nil, or_false] at hx; subst hx; omega)
  have HI : Hid (I64 [k]) := Lib.hid (by intro x hx; simp only [List.mem_cons, List.not_mem_nil, or_false] at hx; subst hx; omega)
  have HX := Lib.hid h
  have HN := Lib.hid hn
  have hlen : (Pk.encs [s, p]).length ≤ 66 := Nat.le_trans (Pk.encs_len [s, p] (by intro x hx; simp only [List.mem_cons, List.not_mem_nil, or_false] at hx; rcases hx with rfl | rfl <;> omega)) (by simp)
  have HLEN := Lib.hid hlen
  clear h hn hlen
  go_enter Try.func17, Try.ntmps17
  go_wp2_with (first | (with_reducible_and_instances (show wpList _ _ _ (Oper.mk _ (Op.load 27 _) _ _ _ _ :: _) _ _); refine wl_load Try.underlying27 rfl info16 rfl rfl rfl (by (repeat (first | assumption | (with_reducible refine alloc_at ?_; (focus (first | omega | (simp; done) | (simp; omega)))) | (with_reducible refine boxed_at ?_; (focus (first | omega | (simp; done) | (simp; omega)))) | (with_reducible refine alloc_old ?_ ?_; (focus (first | omega | (simp; done) | (simp; omega)))) | (with_reducible refine boxed_old ?_ ?_; (focus (first | omega | (simp; done) | (simp; omega)))) | (with_reducible refine drew_old ?_)))) (by rfl) ?_) | (go_at_call 13; refine (oright_any k s p n a u e t g l K S C T M V _).mono ?_; rw [HX.out]; rintro e w1 ⟨rfl, hb1⟩))
  have hb0 : (w.alloc (.cells #[.int .u8 k, .int .i64 s, .int .i64 p, .int .i64 n, .int .i64 a, .int .u8 u, .int .i64 e, .int .i64 t, .bool g, .bool l, .int .u8 K, .int .i64 S, .int .i64 C, .int .i64 T, .int .i64 M, .int .u8 V] 27)).heap[w.heap.size]? = some (.cells #[.int .u8 k, .int .i64 s, .int .i64 p, .int .i64 n, .int .i64 a, .int .u8 u, .int .i64 e, .int .i64 t, .bool g, .bool l, .int .u8 K, .int .i64 S, .int .i64 C, .int .i64 T, .int .i64 M, .int .u8 V] 27 (0, 0)) := alloc_block
  have hw1 : Below w.heap.size w w1 := ((Below.refl _ _).alloc (Nat.le_refl _) _).trans (hb1.mono (by simp))
  have hz1 : w.heap.size < w1.heap.size := by have := hb1.size; simp at this; omega
  have hblk : w1.heap[w.heap.size]? = some (.cells #[.int .u8 k, .int .i64 s, .int .i64 p, .int .i64 n, .int .i64 a, .int .u8 u, .int .i64 e, .int .i64 t, .bool g, .bool l, .int .u8 K, .int .i64 S, .int .i64 C, .int .i64 T, .int .i64 M, .int .u8 V] 27 (0, 0)) := (hb1.block _ (by simp)).trans hb0
  clear hb0 hb1
  have HB1 := Lib.hid hblk
  have HW1 := Lib.hid hw1
  clear hw1
  refine lane_start (ord := [1, 2, 3, 0, 4, 5, 6]) (S := fun w' => w'.heap[w.heap.size]? = some (.cells #[.int .u8 k, .int .i64 s, .int .i64 p, .int .i64 n, .int .i64 a, .int .u8 u, .int .i64 e, .int .i64 t, .bool g, .bool l, .int .u8 K, .int .i64 S, .int .i64 C, .int .i64 T, .int .i64 M, .int .u8 V] 27 (0, 0))) rfl (by kernel_rfl) hblk (fun hHeld => ?_)
  clear hblk
  repeat (first
    | (refine lane_take (v := ?_) rfl (by kernel_rfl) (by kernel_rfl) (by rfl) ?_ (by assumption) ?_; rotate_left; (focus (intro w' hSw; have hc0 : w'.cell? ⟨w.heap.size, 0, none⟩ = some (.int .u8 k) := cell_of_row _ _ 0 _ _ _ hSw; go_simp; try (with_reducible rfl))); simp only [Act.put, List.setIfInBounds_toArray, List.set_cons_zero, List.set_cons_succ]))
  refine lane_two (i := 0) (j := 4) (ordJ := [0, 5, 6]) rfl rfl (by kernel_rfl) rfl (by rfl) (by rfl) (fun K' hK => ?_) (fun K' hK => ?_)
  · go_simp
    refine (new_any _).mono ?_
    rintro x w2 ⟨rfl, rfl⟩
    refine hK _ _ ((alloc_block_old (w := w1.drew) hz1).trans HB1.out) (fun hHeld => ?_)
    clear hK K'
    refine lane_alone rfl (by kernel_rfl) (by rfl) (fun K' hK => ?_)
    go_simp
    have hbx : (((w1.drew).alloc (.cells #[.slice none 0 0, .int .i64 0] 69)).alloc (.cells #[.int .i64 k] 2)).heap[w.heap.size]? = some (.cells #[.int .u8 k, .int .i64 s, .int .i64 p, .int .i64 n, .int .i64 a, .int .u8 u, .int .i64 e, .int .i64 t, .bool g, .bool l, .int .u8 K, .int .i64 S, .int .i64 C, .int .i64 T, .int .i64 M, .int .u8 V] 27 (0, 0)) := (alloc_block_old (by rw [World.size_alloc]; exact Nat.lt_succ_of_lt hz1)).trans ((alloc_block_old (w := w1.drew) hz1).trans HB1.out)
    refine hK _ _ hbx (fun hHeld => ?_)
    clear hK K'
    refine lane_alone rfl (by kernel_rfl) (by rfl) (fun K' hK => ?_)
    go_simp
    refine (put_at _ w1.heap.size w1.heap.size [] #[.int .i64 k] [k] 1 1 (w1.heap.size + 1) (alloc_at (by simp)) rfl rfl ((pb_new w1.drew w1.heap.size (Nat.le_refl _)).alloc _) (by simp) (by simp) HI.out).mono ?_
    rintro x w3 ⟨rfl, hp⟩
    have hg : ∃ g3, g3 = w1.heap.size ∧ Begun w w.heap.size w1.heap.size g3 #[.int .u8 k, .int .i64 s, .int .i64 p, .int .i64 n, .int .i64 a, .int .u8 u, .int .i64 e, .int .i64 t, .bool g, .bool l, .int .u8 K, .int .i64 S, .int .i64 C, .int .i64 T, .int .i64 M, .int .u8 V] ([] ++ Pk.encs [k]) w3 := ⟨_, rfl, (hp.below.block _ hz1).trans hbx, hz1, hp.box, HW1.out.trans (((((Below.refl _ w1).drew).alloc (Nat.le_refl _) _).alloc (by simp) _).trans (hp.below) |>.mono (Nat.le_of_lt hz1))⟩
    obtain ⟨g3, eg, HG⟩ := hg
    refine hK _ _ HG.blk (fun hHeld => ?_)
    clear hK K' hp hbx
    rw [← eg]
    clear eg
    rw [List.nil_append] at HG
    have HG := Lib.hid HG
    refine lane_take (v := ?_) rfl (by kernel_rfl) (by kernel_rfl) (by rfl) ?_ (by assumption) ?_
    rotate_left
    · intro w' hSw
      go_simp
      try (with_reducible rfl)
    simp only [Act.put, List.setIfInBounds_toArray, List.set_cons_zero, List.set_cons_succ]
    refine lane_end (by kernel_rfl) ?_
    clear hHeld
    have hc0 : w3.cell? ⟨w.heap.size, 0, none⟩ = some (.int .u8 k) := HG.out.cell 0
    have hc1 : w3.cell? ⟨w.heap.size, 1, none⟩ = some (.int .i64 s) := HG.out.cell 1
    have hc2 : w3.cell? ⟨w.heap.size, 2, none⟩ = some (.int .i64 p) := HG.out.cell 2
    go_wp2_with (go_at_call 39; refine (names_is _ _ _ HN.out).mono ?_; rintro e w' ⟨rfl, rfl⟩)
    refine (put_lit w3 (w1.heap.size) g3 _ #[.int .i64 s, .int .i64 p] [s, p] 2 2 _ rfl rfl rfl HG.out.put (by omega) (by simp) (by intro x hx; simp only [List.mem_cons, List.not_mem_nil, or_false] at hx; rcases hx with rfl | rfl <;> omega)).mono ?_
    rintro x w4 ⟨rfl, hp4⟩
    have HG4 := Lib.hid (HG.out.more hp4)
    clear hp4 hc0 hc1 hc2
    go_wp2_with (fail)
    refine (done_put _ _ _ _ HG4.out.put ?_).mono ?_
    · have := HLEN.out
      rw [List.length_append]; omega
    intro x w5 hO
    have hO5 := HG4.out.done rfl hO
    rw [Pk.encs_one] at hO5
    obtain ⟨n5, hn5⟩ : ∃ n5, (Pk.enc (Pk.zig k) ++ Pk.encs [s, p]).length = n5 := ⟨_, rfl⟩
    obtain ⟨A5, c5, rfl, HO5, HB5, _, h51, h52⟩ := hO5.open_n n5 hn5
    have HN5 := Lib.hid hn5
    clear hO hO5 hn5
    go_wp2
    go_ret
    exact owned_n HN5.out HO5.out HB5.out h51 h52
  · go_simp
    have hbx1 : ((w1.drew).alloc (.cells #[.int .i64 k] 2)).heap[w.heap.size]? = some (.cells #[.int .u8 k, .int .i64 s, .int .i64 p, .int .i64 n, .int .i64 a, .int .u8 u, .int .i64 e, .int .i64 t, .bool g, .bool l, .int .u8 K, .int .i64 S, .int .i64 C, .int .i64 T, .int .i64 M, .int .u8 V] 27 (0, 0)) := (alloc_block_old (w := w1.drew) hz1).trans HB1.out
    refine hK _ _ hbx1 (fun hHeld => ?_)
    clear hK K'
    refine lane_alone rfl (by kernel_rfl) (by rfl) (fun K' hK => ?_)
    go_simp
    refine (new_any _).mono ?_
    rintro x w2 ⟨rfl, rfl⟩
    have hbx : (((w1.drew).alloc (.cells #[.int .i64 k] 2)).alloc (.cells #[.slice none 0 0, .int .i64 0] 69)).heap[w.heap.size]? = some (.cells #[.int .u8 k, .int .i64 s, .int .i64 p, .int .i64 n, .int .i64 a, .int .u8 u, .int .i64 e, .int .i64 t, .bool g, .bool l, .int .u8 K, .int .i64 S, .int .i64 C, .int .i64 T, .int .i64 M, .int .u8 V] 27 (0, 0)) := (alloc_block_old (by rw [World.size_alloc]; exact Nat.lt_succ_of_lt hz1)).trans hbx1
    refine hK _ _ hbx (fun hHeld => ?_)
    clear hK K'
    refine lane_alone rfl (by kernel_rfl) (by rfl) (fun K' hK => ?_)
    go_simp
    refine (put_at _ w1.heap.size (w1.heap.size + 1) [] #[.int .i64 k] [k] 1 1 w1.heap.size (alloc_old (by simp) (alloc_at (w := w1.drew) rfl)) rfl rfl (by have := pb_new ((w1.drew).alloc (.cells #[.int .i64 k] 2)) w1.heap.size (by simp); simpa using this) (by simp) (by simp) HI.out).mono ?_
    rintro x w3 ⟨rfl, hp⟩
    have hg : ∃ g3, g3 = w1.heap.size + 1 ∧ Begun w w.heap.size w1.heap.size g3 #[.int .u8 k, .int .i64 s, .int .i64 p, .int .i64 n, .int .i64 a, .int .u8 u, .int .i64 e, .int .i64 t, .bool g, .bool l, .int .u8 K, .int .i64 S, .int .i64 C, .int .i64 T, .int .i64 M, .int .u8 V] ([] ++ Pk.encs [k]) w3 := ⟨_, rfl, (hp.below.block _ hz1).trans hbx, hz1, hp.box, HW1.out.trans (((((Below.refl _ w1).drew).alloc (Nat.le_refl _) _).alloc (by simp) _).trans (hp.below) |>.mono (Nat.le_of_lt hz1))⟩
    obtain ⟨g3, eg, HG⟩ := hg
    refine hK _ _ HG.blk (fun hHeld => ?_)
    clear hK K' hp hbx
    rw [← eg]
    clear eg
    rw [List.nil_append] at HG
    have HG := Lib.hid HG
    refine lane_take (v := ?_) rfl (by kernel_rfl) (by kernel_rfl) (by rfl) ?_ (by assumption) ?_
    rotate_left
    · intro w' hSw
      go_simp
      try (with_reducible rfl)
    simp only [Act.put, List.setIfInBounds_toArray, List.set_cons_zero, List.set_cons_succ]
    refine lane_end (by kernel_rfl) ?_
    clear hHeld
    have hc0 : w3.cell? ⟨w.heap.size, 0, none⟩ = some (.int .u8 k) := HG.out.cell 0
    have hc1 : w3.cell? ⟨w.heap.size, 1, none⟩ = some (.int .i64 s) := HG.out.cell 1
    have hc2 : w3.cell? ⟨w.heap.size, 2, none⟩ = some (.int .i64 p) := HG.out.cell 2
    go_wp2_with (go_at_call 39; refine (names_is _ _ _ HN.out).mono ?_; rintro e w' ⟨rfl, rfl⟩)
    refine (put_lit w3 (w1.heap.size) g3 _ #[.int .i64 s, .int .i64 p] [s, p] 2 2 _ rfl rfl rfl HG.out.put (by omega) (by simp) (by intro x hx; simp only [List.mem_cons, List.not_mem_nil, or_false] at hx; rcases hx with rfl | rfl <;> omega)).mono ?_
    rintro x w4 ⟨rfl, hp4⟩
    have HG4 := Lib.hid (HG.out.more hp4)
    clear hp4 hc0 hc1 hc2
    go_wp2_with (fail)
    refine (done_put _ _ _ _ HG4.out.put ?_).mono ?_
    · have := HLEN.out
      rw [List.length_append]; omega
    intro x w5 hO
    have hO5 := HG4.out.done rfl hO
    rw [Pk.encs_one] at hO5
    obtain ⟨n5, hn5⟩ : ∃ n5, (Pk.enc (Pk.zig k) ++ Pk.encs [s, p]).length = n5 := ⟨_, rfl⟩
    obtain ⟨A5, c5, rfl, HO5, HB5, _, h51, h52⟩ := hO5.open_n n5 hn5
    have HN5 := Lib.hid hn5
    clear hO hO5 hn5
    go_wp2
    go_ret
    exact owned_n HN5.out HO5.out HB5.out h51 h52

set_option maxHeartbeats 4000000 in
theorem enc_3 (k s p n a u e t : Int) (g l : Bool) (K S C T M V : Int) (w : World) (h : Ov.right ⟨k, s, p, n, ⟨a, u, e, t, g, l⟩, ⟨K, S, C, T, M, V⟩⟩ = 0) (hn : nm k = 3) :
    Calls Try.prog 17 #[.agg #[.int .u8 k, .int .i64 s, .int .i64 p, .int .i64 n, .int .i64 a, .int .u8 u, .int .i64 e, .int .i64 t, .bool g, .bool l, .int .u8 K, .int .i64 S, .int .i64 C, .int .i64 T, .int .i64 M, .int .u8 V]] w (Owned w (Pk.enc (Pk.zig k) ++ Pk.encs [s])) := by
  have hk := num_range (right_zero h).1
  dsimp only at hk
  obtain ⟨hk1, hk2⟩ := hk
  obtain ⟨q1, q2⟩ := num_3 hn (right_zero h).1
  dsimp only at q1 q2
  have hwk : IntKind.i64.wrap k = k := by simp only [IntKind.wrap_i64]; omega
  have H11 : (Pk.encs [k]).length ≤ 11 := Pk.encs_len [k] (by intro x hx; simp only [List.mem_cons, List.not_mem_nil, or_false] at hx; subst hx; omega)
  have HI : Hid (I64 [k]) := Lib.hid (by intro x hx; simp only [List.mem_cons, List.not_mem_nil, or_false] at hx; subst hx; omega)
  have HX := Lib.hid h
  have HN := Lib.hid hn
  have hlen : (Pk.encs [s]).length ≤ 66 := Nat.le_trans (Pk.encs_len [s] (by intro x hx; simp only [List.mem_cons, List.not_mem_nil, or_false] at hx; subst hx; omega)) (by simp)
  have HLEN := Lib.hid hlen
  clear h hn hlen
  go_enter Try.func17, Try.ntmps17
  go_wp2_with (first | (with_reducible_and_instances (show wpList _ _ _ (Oper.mk _ (Op.load 27 _) _ _ _ _ :: _) _ _); refine wl_load Try.underlying27 rfl info16 rfl rfl rfl (by (repeat (first | assumption | (with_reducible refine alloc_at ?_; (focus (first | omega | (simp; done) | (simp; omega)))) | (with_reducible refine boxed_at ?_; (focus (first | omega | (simp; done) | (simp; omega)))) | (with_reducible refine alloc_old ?_ ?_; (focus (first | omega | (simp; done) | (simp; omega)))) | (with_reducible refine boxed_old ?_ ?_; (focus (first | omega | (simp; done) | (simp; omega)))) | (with_reducible refine drew_old ?_)))) (by rfl) ?_) | (go_at_call 13; refine (oright_any k s p n a u e t g l K S C T M V _).mono ?_; rw [HX.out]; rintro e w1 ⟨rfl, hb1⟩))
  have hb0 : (w.alloc (.cells #[.int .u8 k, .int .i64 s, .int .i64 p, .int .i64 n, .int .i64 a, .int .u8 u, .int .i64 e, .int .i64 t, .bool g, .bool l, .int .u8 K, .int .i64 S, .int .i64 C, .int .i64 T, .int .i64 M, .int .u8 V] 27)).heap[w.heap.size]? = some (.cells #[.int .u8 k, .int .i64 s, .int .i64 p, .int .i64 n, .int .i64 a, .int .u8 u, .int .i64 e, .int .i64 t, .bool g, .bool l, .int .u8 K, .int .i64 S, .int .i64 C, .int .i64 T, .int .i64 M, .int .u8 V] 27 (0, 0)) := alloc_block
  have hw1 : Below w.heap.size w w1 := ((Below.refl _ _).alloc (Nat.le_refl _) _).trans (hb1.mono (by simp))
  have hz1 : w.heap.size < w1.heap.size := by have := hb1.size; simp at this; omega
  have hblk : w1.heap[w.heap.size]? = some (.cells #[.int .u8 k, .int .i64 s, .int .i64 p, .int .i64 n, .int .i64 a, .int .u8 u, .int .i64 e, .int .i64 t, .bool g, .bool l, .int .u8 K, .int .i64 S, .int .i64 C, .int .i64 T, .int .i64 M, .int .u8 V] 27 (0, 0)) := (hb1.block _ (by simp)).trans hb0
  clear hb0 hb1
  have HB1 := Lib.hid hblk
  have HW1 := Lib.hid hw1
  clear hw1
  refine lane_start (ord := [1, 2, 3, 0, 4, 5, 6]) (S := fun w' => w'.heap[w.heap.size]? = some (.cells #[.int .u8 k, .int .i64 s, .int .i64 p, .int .i64 n, .int .i64 a, .int .u8 u, .int .i64 e, .int .i64 t, .bool g, .bool l, .int .u8 K, .int .i64 S, .int .i64 C, .int .i64 T, .int .i64 M, .int .u8 V] 27 (0, 0))) rfl (by kernel_rfl) hblk (fun hHeld => ?_)
  clear hblk
  repeat (first
    | (refine lane_take (v := ?_) rfl (by kernel_rfl) (by kernel_rfl) (by rfl) ?_ (by assumption) ?_; rotate_left; (focus (intro w' hSw; have hc0 : w'.cell? ⟨w.heap.size, 0, none⟩ = some (.int .u8 k) := cell_of_row _ _ 0 _ _ _ hSw; go_simp; try (with_reducible rfl))); simp only [Act.put, List.setIfInBounds_toArray, List.set_cons_zero, List.set_cons_succ]))
  refine lane_two (i := 0) (j := 4) (ordJ := [0, 5, 6]) rfl rfl (by kernel_rfl) rfl (by rfl) (by rfl) (fun K' hK => ?_) (fun K' hK => ?_)
  · go_simp
    refine (new_any _).mono ?_
    rintro x w2 ⟨rfl, rfl⟩
    refine hK _ _ ((alloc_block_old (w := w1.drew) hz1).trans HB1.out) (fun hHeld => ?_)
    clear hK K'
    refine lane_alone rfl (by kernel_rfl) (by rfl) (fun K' hK => ?_)
    go_simp
    have hbx : (((w1.drew).alloc (.cells #[.slice none 0 0, .int .i64 0] 69)).alloc (.cells #[.int .i64 k] 2)).heap[w.heap.size]? = some (.cells #[.int .u8 k, .int .i64 s, .int .i64 p, .int .i64 n, .int .i64 a, .int .u8 u, .int .i64 e, .int .i64 t, .bool g, .bool l, .int .u8 K, .int .i64 S, .int .i64 C, .int .i64 T, .int .i64 M, .int .u8 V] 27 (0, 0)) := (alloc_block_old (by rw [World.size_alloc]; exact Nat.lt_succ_of_lt hz1)).trans ((alloc_block_old (w := w1.drew) hz1).trans HB1.out)
    refine hK _ _ hbx (fun hHeld => ?_)
    clear hK K'
    refine lane_alone rfl (by kernel_rfl) (by rfl) (fun K' hK => ?_)
    go_simp
    refine (put_at _ w1.heap.size w1.heap.size [] #[.int .i64 k] [k] 1 1 (w1.heap.size + 1) (alloc_at (by simp)) rfl rfl ((pb_new w1.drew w1.heap.size (Nat.le_refl _)).alloc _) (by simp) (by simp) HI.out).mono ?_
    rintro x w3 ⟨rfl, hp⟩
    have hg : ∃ g3, g3 = w1.heap.size ∧ Begun w w.heap.size w1.heap.size g3 #[.int .u8 k, .int .i64 s, .int .i64 p, .int .i64 n, .int .i64 a, .int .u8 u, .int .i64 e, .int .i64 t, .bool g, .bool l, .int .u8 K, .int .i64 S, .int .i64 C, .int .i64 T, .int .i64 M, .int .u8 V] ([] ++ Pk.encs [k]) w3 := ⟨_, rfl, (hp.below.block _ hz1).trans hbx, hz1, hp.box, HW1.out.trans (((((Below.refl _ w1).drew).alloc (Nat.le_refl _) _).alloc (by simp) _).trans (hp.below) |>.mono (Nat.le_of_lt hz1))⟩
    obtain ⟨g3, eg, HG⟩ := hg
    refine hK _ _ HG.blk (fun hHeld => ?_)
    clear hK K' hp hbx
    rw [← eg]
    clear eg
    rw [List.nil_append] at HG
    have HG := Lib.hid HG
    refine lane_take (v := ?_) rfl (by kernel_rfl) (by kernel_rfl) (by rfl) ?_ (by assumption) ?_
    rotate_left
    · intro w' hSw
      go_simp
      try (with_reducible rfl)
    simp only [Act.put, List.setIfInBounds_toArray, List.set_cons_zero, List.set_cons_succ]
    refine lane_end (by kernel_rfl) ?_
    clear hHeld
    have hc0 : w3.cell? ⟨w.heap.size, 0, none⟩ = some (.int .u8 k) := HG.out.cell 0
    have hc1 : w3.cell? ⟨w.heap.size, 1, none⟩ = some (.int .i64 s) := HG.out.cell 1
    go_wp2_with (go_at_call 39; refine (names_is _ _ _ HN.out).mono ?_; rintro e w' ⟨rfl, rfl⟩)
    refine (put_lit w3 (w1.heap.size) g3 _ #[.int .i64 s] [s] 1 1 _ rfl rfl rfl HG.out.put (by omega) (by simp) (by intro x hx; simp only [List.mem_cons, List.not_mem_nil, or_false] at hx; rcases hx with rfl; omega)).mono ?_
    rintro x w4 ⟨rfl, hp4⟩
    have HG4 := Lib.hid (HG.out.more hp4)
    clear hp4 hc0 hc1
    go_wp2_with (fail)
    refine (done_put _ _ _ _ HG4.out.put ?_).mono ?_
    · have := HLEN.out
      rw [List.length_append]; omega
    intro x w5 hO
    have hO5 := HG4.out.done rfl hO
    rw [Pk.encs_one] at hO5
    obtain ⟨n5, hn5⟩ : ∃ n5, (Pk.enc (Pk.zig k) ++ Pk.encs [s]).length = n5 := ⟨_, rfl⟩
    obtain ⟨A5, c5, rfl, HO5, HB5, _, h51, h52⟩ := hO5.open_n n5 hn5
    have HN5 := Lib.hid hn5
    clear hO hO5 hn5
    go_wp2
    go_ret
    exact owned_n HN5.out HO5.out HB5.out h51 h52
  · go_simp
    have hbx1 : ((w1.drew).alloc (.cells #[.int .i64 k] 2)).heap[w.heap.size]? = some (.cells #[.int .u8 k, .int .i64 s, .int .i64 p, .int .i64 n, .int .i64 a, .int .u8 u, .int .i64 e, .int .i64 t, .bool g, .bool l, .int .u8 K, .int .i64 S, .int .i64 C, .int .i64 T, .int .i64 M, .int .u8 V] 27 (0, 0)) := (alloc_block_old (w := w1.drew) hz1).trans HB1.out
    refine hK _ _ hbx1 (fun hHeld => ?_)
    clear hK K'
    refine lane_alone rfl (by kernel_rfl) (by rfl) (fun K' hK => ?_)
    go_simp
    refine (new_any _).mono ?_
    rintro x w2 ⟨rfl, rfl⟩
    have hbx : (((w1.drew).alloc (.cells #[.int .i64 k] 2)).alloc (.cells #[.slice none 0 0, .int .i64 0] 69)).heap[w.heap.size]? = some (.cells #[.int .u8 k, .int .i64 s, .int .i64 p, .int .i64 n, .int .i64 a, .int .u8 u, .int .i64 e, .int .i64 t, .bool g, .bool l, .int .u8 K, .int .i64 S, .int .i64 C, .int .i64 T, .int .i64 M, .int .u8 V] 27 (0, 0)) := (alloc_block_old (by rw [World.size_alloc]; exact Nat.lt_succ_of_lt hz1)).trans hbx1
    refine hK _ _ hbx (fun hHeld => ?_)
    clear hK K'
    refine lane_alone rfl (by kernel_rfl) (by rfl) (fun K' hK => ?_)
    go_simp
    refine (put_at _ w1.heap.size (w1.heap.size + 1) [] #[.int .i64 k] [k] 1 1 w1.heap.size (alloc_old (by simp) (alloc_at (w := w1.drew) rfl)) rfl rfl (by have := pb_new ((w1.drew).alloc (.cells #[.int .i64 k] 2)) w1.heap.size (by simp); simpa using this) (by simp) (by simp) HI.out).mono ?_
    rintro x w3 ⟨rfl, hp⟩
    have hg : ∃ g3, g3 = w1.heap.size + 1 ∧ Begun w w.heap.size w1.heap.size g3 #[.int .u8 k, .int .i64 s, .int .i64 p, .int .i64 n, .int .i64 a, .int .u8 u, .int .i64 e, .int .i64 t, .bool g, .bool l, .int .u8 K, .int .i64 S, .int .i64 C, .int .i64 T, .int .i64 M, .int .u8 V] ([] ++ Pk.encs [k]) w3 := ⟨_, rfl, (hp.below.block _ hz1).trans hbx, hz1, hp.box, HW1.out.trans (((((Below.refl _ w1).drew).alloc (Nat.le_refl _) _).alloc (by simp) _).trans (hp.below) |>.mono (Nat.le_of_lt hz1))⟩
    obtain ⟨g3, eg, HG⟩ := hg
    refine hK _ _ HG.blk (fun hHeld => ?_)
    clear hK K' hp hbx
    rw [← eg]
    clear eg
    rw [List.nil_append] at HG
    have HG := Lib.hid HG
    refine lane_take (v := ?_) rfl (by kernel_rfl) (by kernel_rfl) (by rfl) ?_ (by assumption) ?_
    rotate_left
    · intro w' hSw
      go_simp
      try (with_reducible rfl)
    simp only [Act.put, List.setIfInBounds_toArray, List.set_cons_zero, List.set_cons_succ]
    refine lane_end (by kernel_rfl) ?_
    clear hHeld
    have hc0 : w3.cell? ⟨w.heap.size, 0, none⟩ = some (.int .u8 k) := HG.out.cell 0
    have hc1 : w3.cell? ⟨w.heap.size, 1, none⟩ = some (.int .i64 s) := HG.out.cell 1
    go_wp2_with (go_at_call 39; refine (names_is _ _ _ HN.out).mono ?_; rintro e w' ⟨rfl, rfl⟩)
    refine (put_lit w3 (w1.heap.size) g3 _ #[.int .i64 s] [s] 1 1 _ rfl rfl rfl HG.out.put (by omega) (by simp) (by intro x hx; simp only [List.mem_cons, List.not_mem_nil, or_false] at hx; rcases hx with rfl; omega)).mono ?_
    rintro x w4 ⟨rfl, hp4⟩
    have HG4 := Lib.hid (HG.out.more hp4)
    clear hp4 hc0 hc1
    go_wp2_with (fail)
    refine (done_put _ _ _ _ HG4.out.put ?_).mono ?_
    · have := HLEN.out
      rw [List.length_append]; omega
    intro x w5 hO
    have hO5 := HG4.out.done rfl hO
    rw [Pk.encs_one] at hO5
    obtain ⟨n5, hn5⟩ : ∃ n5, (Pk.enc (Pk.zig k) ++ Pk.encs [s]).length = n5 := ⟨_, rfl⟩
    obtain ⟨A5, c5, rfl, HO5, HB5, _, h51, h52⟩ := hO5.open_n n5 hn5
    have HN5 := Lib.hid hn5
    clear hO hO5 hn5
    go_wp2
    go_ret
    exact owned_n HN5.out HO5.out HB5.out h51 h52

set_option maxHeartbeats 4000000 in
theorem enc_4 (k s p n a u e t : Int) (g l : Bool) (K S C T M V : Int) (w : World) (h : Ov.right ⟨k, s, p, n, ⟨a, u, e, t, g, l⟩, ⟨K, S, C, T, M, V⟩⟩ = 0) (hn : nm k = 4) :
    Calls Try.prog 17 #[.agg #[.int .u8 k, .int .i64 s, .int .i64 p, .int .i64 n, .int .i64 a, .int .u8 u, .int .i64 e, .int .i64 t, .bool g, .bool l, .int .u8 K, .int .i64 S, .int .i64 C, .int .i64 T, .int .i64 M, .int .u8 V]] w (Owned w (Pk.enc (Pk.zig k) ++ Pk.encs [n])) := by
  have hk := num_range (right_zero h).1
  dsimp only at hk
  obtain ⟨hk1, hk2⟩ := hk
  obtain ⟨q1, q2⟩ := num_4 hn (right_zero h).1
  dsimp only at q1 q2
  have hwk : IntKind.i64.wrap k = k := by simp only [IntKind.wrap_i64]; omega
  have H11 : (Pk.encs [k]).length ≤ 11 := Pk.encs_len [k] (by intro x hx; simp only [List.mem_cons, List.not_mem_nil, or_false] at hx; subst hx; omega)
  have HI : Hid (I64 [k]) := Lib.hid (by intro x hx; simp only [List.mem_cons, List.not_mem_nil, or_false] at hx; subst hx; omega)
  have HX := Lib.hid h
  have HN := Lib.hid hn
  have hlen : (Pk.encs [n]).length ≤ 66 := Nat.le_trans (Pk.encs_len [n] (by intro x hx; simp only [List.mem_cons, List.not_mem_nil, or_false] at hx; subst hx; omega)) (by simp)
  have HLEN := Lib.hid hlen
  clear h hn hlen
  go_enter Try.func17, Try.ntmps17
  go_wp2_with (first | (with_reducible_and_instances (show wpList _ _ _ (Oper.mk _ (Op.load 27 _) _ _ _ _ :: _) _ _); refine wl_load Try.underlying27 rfl info16 rfl rfl rfl (by (repeat (first | assumption | (with_reducible refine alloc_at ?_; (focus (first | omega | (simp; done) | (simp; omega)))) | (with_reducible refine boxed_at ?_; (focus (first | omega | (simp; done) | (simp; omega)))) | (with_reducible refine alloc_old ?_ ?_; (focus (first | omega | (simp; done) | (simp; omega)))) | (with_reducible refine boxed_old ?_ ?_; (focus (first | omega | (simp; done) | (simp; omega)))) | (with_reducible refine drew_old ?_)))) (by rfl) ?_) | (go_at_call 13; refine (oright_any k s p n a u e t g l K S C T M V _).mono ?_; rw [HX.out]; rintro e w1 ⟨rfl, hb1⟩))
  have hb0 : (w.alloc (.cells #[.int .u8 k, .int .i64 s, .int .i64 p, .int .i64 n, .int .i64 a, .int .u8 u, .int .i64 e, .int .i64 t, .bool g, .bool l, .int .u8 K, .int .i64 S, .int .i64 C, .int .i64 T, .int .i64 M, .int .u8 V] 27)).heap[w.heap.size]? = some (.cells #[.int .u8 k, .int .i64 s, .int .i64 p, .int .i64 n, .int .i64 a, .int .u8 u, .int .i64 e, .int .i64 t, .bool g, .bool l, .int .u8 K, .int .i64 S, .int .i64 C, .int .i64 T, .int .i64 M, .int .u8 V] 27 (0, 0)) := alloc_block
  have hw1 : Below w.heap.size w w1 := ((Below.refl _ _).alloc (Nat.le_refl _) _).trans (hb1.mono (by simp))
  have hz1 : w.heap.size < w1.heap.size := by have := hb1.size; simp at this; omega
  have hblk : w1.heap[w.heap.size]? = some (.cells #[.int .u8 k, .int .i64 s, .int .i64 p, .int .i64 n, .int .i64 a, .int .u8 u, .int .i64 e, .int .i64 t, .bool g, .bool l, .int .u8 K, .int .i64 S, .int .i64 C, .int .i64 T, .int .i64 M, .int .u8 V] 27 (0, 0)) := (hb1.block _ (by simp)).trans hb0
  clear hb0 hb1
  have HB1 := Lib.hid hblk
  have HW1 := Lib.hid hw1
  clear hw1
  refine lane_start (ord := [1, 2, 3, 0, 4, 5, 6]) (S := fun w' => w'.heap[w.heap.size]? = some (.cells #[.int .u8 k, .int .i64 s, .int .i64 p, .int .i64 n, .int .i64 a, .int .u8 u, .int .i64 e, .int .i64 t, .bool g, .bool l, .int .u8 K, .int .i64 S, .int .i64 C, .int .i64 T, .int .i64 M, .int .u8 V] 27 (0, 0))) rfl (by kernel_rfl) hblk (fun hHeld => ?_)
  clear hblk
  repeat (first
    | (refine lane_take (v := ?_) rfl (by kernel_rfl) (by kernel_rfl) (by rfl) ?_ (by assumption) ?_; rotate_left; (focus (intro w' hSw; have hc0 : w'.cell? ⟨w.heap.size, 0, none⟩ = some (.int .u8 k) := cell_of_row _ _ 0 _ _ _ hSw; go_simp; try (with_reducible rfl))); simp only [Act.put, List.setIfInBounds_toArray, List.set_cons_zero, List.set_cons_succ]))
  refine lane_two (i := 0) (j := 4) (ordJ := [0, 5, 6]) rfl rfl (by kernel_rfl) rfl (by rfl) (by rfl) (fun K' hK => ?_) (fun K' hK => ?_)
  · go_simp
    refine (new_any _).mono ?_
    rintro x w2 ⟨rfl, rfl⟩
    refine hK _ _ ((alloc_block_old (w := w1.drew) hz1).trans HB1.out) (fun hHeld => ?_)
    clear hK K'
    refine lane_alone rfl (by kernel_rfl) (by rfl) (fun K' hK => ?_)
    go_simp
    have hbx : (((w1.drew).alloc (.cells #[.slice none 0 0, .int .i64 0] 69)).alloc (.cells #[.int .i64 k] 2)).heap[w.heap.size]? = some (.cells #[.int .u8 k, .int .i64 s, .int .i64 p, .int .i64 n, .int .i64 a, .int .u8 u, .int .i64 e, .int .i64 t, .bool g, .bool l, .int .u8 K, .int .i64 S, .int .i64 C, .int .i64 T, .int .i64 M, .int .u8 V] 27 (0, 0)) := (alloc_block_old (by rw [World.size_alloc]; exact Nat.lt_succ_of_lt hz1)).trans ((alloc_block_old (w := w1.drew) hz1).trans HB1.out)
    refine hK _ _ hbx (fun hHeld => ?_)
    clear hK K'
    refine lane_alone rfl (by kernel_rfl) (by rfl) (fun K' hK => ?_)
    go_simp
    refine (put_at _ w1.heap.size w1.heap.size [] #[.int .i64 k] [k] 1 1 (w1.heap.size + 1) (alloc_at (by simp)) rfl rfl ((pb_new w1.drew w1.heap.size (Nat.le_refl _)).alloc _) (by simp) (by simp) HI.out).mono ?_
    rintro x w3 ⟨rfl, hp⟩
    have hg : ∃ g3, g3 = w1.heap.size ∧ Begun w w.heap.size w1.heap.size g3 #[.int .u8 k, .int .i64 s, .int .i64 p, .int .i64 n, .int .i64 a, .int .u8 u, .int .i64 e, .int .i64 t, .bool g, .bool l, .int .u8 K, .int .i64 S, .int .i64 C, .int .i64 T, .int .i64 M, .int .u8 V] ([] ++ Pk.encs [k]) w3 := ⟨_, rfl, (hp.below.block _ hz1).trans hbx, hz1, hp.box, HW1.out.trans (((((Below.refl _ w1).drew).alloc (Nat.le_refl _) _).alloc (by simp) _).trans (hp.below) |>.mono (Nat.le_of_lt hz1))⟩
    obtain ⟨g3, eg, HG⟩ := hg
    refine hK _ _ HG.blk (fun hHeld => ?_)
    clear hK K' hp hbx
    rw [← eg]
    clear eg
    rw [List.nil_append] at HG
    have HG := Lib.hid HG
    refine lane_take (v := ?_) rfl (by kernel_rfl) (by kernel_rfl) (by rfl) ?_ (by assumption) ?_
    rotate_left
    · intro w' hSw
      go_simp
      try (with_reducible rfl)
    simp only [Act.put, List.setIfInBounds_toArray, List.set_cons_zero, List.set_cons_succ]
    refine lane_end (by kernel_rfl) ?_
    clear hHeld
    have hc0 : w3.cell? ⟨w.heap.size, 0, none⟩ = some (.int .u8 k) := HG.out.cell 0
    have hc3 : w3.cell? ⟨w.heap.size, 3, none⟩ = some (.int .i64 n) := HG.out.cell 3
    go_wp2_with (go_at_call 39; refine (names_is _ _ _ HN.out).mono ?_; rintro e w' ⟨rfl, rfl⟩)
    refine (put_lit w3 (w1.heap.size) g3 _ #[.int .i64 n] [n] 1 1 _ rfl rfl rfl HG.out.put (by omega) (by simp) (by intro x hx; simp only [List.mem_cons, List.not_mem_nil, or_false] at hx; rcases hx with rfl; omega)).mono ?_
    rintro x w4 ⟨rfl, hp4⟩
    have HG4 := Lib.hid (HG.out.more hp4)
    clear hp4 hc0 hc3
    go_wp2_with (fail)
    refine (done_put _ _ _ _ HG4.out.put ?_).mono ?_
    · have := HLEN.out
      rw [List.length_append]; omega
    intro x w5 hO
    have hO5 := HG4.out.done rfl hO
    rw [Pk.encs_one] at hO5
    obtain ⟨n5, hn5⟩ : ∃ n5, (Pk.enc (Pk.zig k) ++ Pk.encs [n]).length = n5 := ⟨_, rfl⟩
    obtain ⟨A5, c5, rfl, HO5, HB5, _, h51, h52⟩ := hO5.open_n n5 hn5
    have HN5 := Lib.hid hn5
    clear hO hO5 hn5
    go_wp2
    go_ret
    exact owned_n HN5.out HO5.out HB5.out h51 h52
  · go_simp
    have hbx1 : ((w1.drew).alloc (.cells #[.int .i64 k] 2)).heap[w.heap.size]? = some (.cells #[.int .u8 k, .int .i64 s, .int .i64 p, .int .i64 n, .int .i64 a, .int .u8 u, .int .i64 e, .int .i64 t, .bool g, .bool l, .int .u8 K, .int .i64 S, .int .i64 C, .int .i64 T, .int .i64 M, .int .u8 V] 27 (0, 0)) := (alloc_block_old (w := w1.drew) hz1).trans HB1.out
    refine hK _ _ hbx1 (fun hHeld => ?_)
    clear hK K'
    refine lane_alone rfl (by kernel_rfl) (by rfl) (fun K' hK => ?_)
    go_simp
    refine (new_any _).mono ?_
    rintro x w2 ⟨rfl, rfl⟩
    have hbx : (((w1.drew).alloc (.cells #[.int .i64 k] 2)).alloc (.cells #[.slice none 0 0, .int .i64 0] 69)).heap[w.heap.size]? = some (.cells #[.int .u8 k, .int .i64 s, .int .i64 p, .int .i64 n, .int .i64 a, .int .u8 u, .int .i64 e, .int .i64 t, .bool g, .bool l, .int .u8 K, .int .i64 S, .int .i64 C, .int .i64 T, .int .i64 M, .int .u8 V] 27 (0, 0)) := (alloc_block_old (by rw [World.size_alloc]; exact Nat.lt_succ_of_lt hz1)).trans hbx1
    refine hK _ _ hbx (fun hHeld => ?_)
    clear hK K'
    refine lane_alone rfl (by kernel_rfl) (by rfl) (fun K' hK => ?_)
    go_simp
    refine (put_at _ w1.heap.size (w1.heap.size + 1) [] #[.int .i64 k] [k] 1 1 w1.heap.size (alloc_old (by simp) (alloc_at (w := w1.drew) rfl)) rfl rfl (by have := pb_new ((w1.drew).alloc (.cells #[.int .i64 k] 2)) w1.heap.size (by simp); simpa using this) (by simp) (by simp) HI.out).mono ?_
    rintro x w3 ⟨rfl, hp⟩
    have hg : ∃ g3, g3 = w1.heap.size + 1 ∧ Begun w w.heap.size w1.heap.size g3 #[.int .u8 k, .int .i64 s, .int .i64 p, .int .i64 n, .int .i64 a, .int .u8 u, .int .i64 e, .int .i64 t, .bool g, .bool l, .int .u8 K, .int .i64 S, .int .i64 C, .int .i64 T, .int .i64 M, .int .u8 V] ([] ++ Pk.encs [k]) w3 := ⟨_, rfl, (hp.below.block _ hz1).trans hbx, hz1, hp.box, HW1.out.trans (((((Below.refl _ w1).drew).alloc (Nat.le_refl _) _).alloc (by simp) _).trans (hp.below) |>.mono (Nat.le_of_lt hz1))⟩
    obtain ⟨g3, eg, HG⟩ := hg
    refine hK _ _ HG.blk (fun hHeld => ?_)
    clear hK K' hp hbx
    rw [← eg]
    clear eg
    rw [List.nil_append] at HG
    have HG := Lib.hid HG
    refine lane_take (v := ?_) rfl (by kernel_rfl) (by kernel_rfl) (by rfl) ?_ (by assumption) ?_
    rotate_left
    · intro w' hSw
      go_simp
      try (with_reducible rfl)
    simp only [Act.put, List.setIfInBounds_toArray, List.set_cons_zero, List.set_cons_succ]
    refine lane_end (by kernel_rfl) ?_
    clear hHeld
    have hc0 : w3.cell? ⟨w.heap.size, 0, none⟩ = some (.int .u8 k) := HG.out.cell 0
    have hc3 : w3.cell? ⟨w.heap.size, 3, none⟩ = some (.int .i64 n) := HG.out.cell 3
    go_wp2_with (go_at_call 39; refine (names_is _ _ _ HN.out).mono ?_; rintro e w' ⟨rfl, rfl⟩)
    refine (put_lit w3 (w1.heap.size) g3 _ #[.int .i64 n] [n] 1 1 _ rfl rfl rfl HG.out.put (by omega) (by simp) (by intro x hx; simp only [List.mem_cons, List.not_mem_nil, or_false] at hx; rcases hx with rfl; omega)).mono ?_
    rintro x w4 ⟨rfl, hp4⟩
    have HG4 := Lib.hid (HG.out.more hp4)
    clear hp4 hc0 hc3
    go_wp2_with (fail)
    refine (done_put _ _ _ _ HG4.out.put ?_).mono ?_
    · have := HLEN.out
      rw [List.length_append]; omega
    intro x w5 hO
    have hO5 := HG4.out.done rfl hO
    rw [Pk.encs_one] at hO5
    obtain ⟨n5, hn5⟩ : ∃ n5, (Pk.enc (Pk.zig k) ++ Pk.encs [n]).length = n5 := ⟨_, rfl⟩
    obtain ⟨A5, c5, rfl, HO5, HB5, _, h51, h52⟩ := hO5.open_n n5 hn5
    have HN5 := Lib.hid hn5
    clear hO hO5 hn5
    go_wp2
    go_ret
    exact owned_n HN5.out HO5.out HB5.out h51 h52

set_option maxHeartbeats 4000000 in
theorem enc_5 (k s p n a u e t : Int) (g l : Bool) (K S C T M V : Int) (w : World) (h : Ov.right ⟨k, s, p, n, ⟨a, u, e, t, g, l⟩, ⟨K, S, C, T, M, V⟩⟩ = 0) (hn : nm k = 5) :
    Calls Try.prog 17 #[.agg #[.int .u8 k, .int .i64 s, .int .i64 p, .int .i64 n, .int .i64 a, .int .u8 u, .int .i64 e, .int .i64 t, .bool g, .bool l, .int .u8 K, .int .i64 S, .int .i64 C, .int .i64 T, .int .i64 M, .int .u8 V]] w (Owned w (Pk.enc (Pk.zig k) ++ Pk.encs [K, S, C, T, M, V])) := by
  have hk := num_range (right_zero h).1
  dsimp only at hk
  obtain ⟨hk1, hk2⟩ := hk
  have HA := Lib.hid (num_5 hn (right_zero h).1).ok.i64
  have hwk : IntKind.i64.wrap k = k := by simp only [IntKind.wrap_i64]; omega
  have H11 : (Pk.encs [k]).length ≤ 11 := Pk.encs_len [k] (by intro x hx; simp only [List.mem_cons, List.not_mem_nil, or_false] at hx; subst hx; omega)
  have HI : Hid (I64 [k]) := Lib.hid (by intro x hx; simp only [List.mem_cons, List.not_mem_nil, or_false] at hx; subst hx; omega)
  have HX := Lib.hid h
  have HN := Lib.hid hn
  have hlen : (Pk.encs [K, S, C, T, M, V]).length ≤ 66 := Pk.encs_len [K, S, C, T, M, V] HA.out
  have HLEN := Lib.hid hlen
  clear h hn hlen
  go_enter Try.func17, Try.ntmps17
  go_wp2_with (first | (with_reducible_and_instances (show wpList _ _ _ (Oper.mk _ (Op.load 27 _) _ _ _ _ :: _) _ _); refine wl_load Try.underlying27 rfl info16 rfl rfl rfl (by (repeat (first | assumption | (with_reducible refine alloc_at ?_; (focus (first | omega | (simp; done) | (simp; omega)))) | (with_reducible refine boxed_at ?_; (focus (first | omega | (simp; done) | (simp; omega)))) | (with_reducible refine alloc_old ?_ ?_; (focus (first | omega | (simp; done) | (simp; omega)))) | (with_reducible refine boxed_old ?_ ?_; (focus (first | omega | (simp; done) | (simp; omega)))) | (with_reducible refine drew_old ?_)))) (by rfl) ?_) | (go_at_call 13; refine (oright_any k s p n a u e t g l K S C T M V _).mono ?_; rw [HX.out]; rintro e w1 ⟨rfl, hb1⟩))
  have hb0 : (w.alloc (.cells #[.int .u8 k, .int .i64 s, .int .i64 p, .int .i64 n, .int .i64 a, .int .u8 u, .int .i64 e, .int .i64 t, .bool g, .bool l, .int .u8 K, .int .i64 S, .int .i64 C, .int .i64 T, .int .i64 M, .int .u8 V] 27)).heap[w.heap.size]? = some (.cells #[.int .u8 k, .int .i64 s, .int .i64 p, .int .i64 n, .int .i64 a, .int .u8 u, .int .i64 e, .int .i64 t, .bool g, .bool l, .int .u8 K, .int .i64 S, .int .i64 C, .int .i64 T, .int .i64 M, .int .u8 V] 27 (0, 0)) := alloc_block
  have hw1 : Below w.heap.size w w1 := ((Below.refl _ _).alloc (Nat.le_refl _) _).trans (hb1.mono (by simp))
  have hz1 : w.heap.size < w1.heap.size := by have := hb1.size; simp at this; omega
  have hblk : w1.heap[w.heap.size]? = some (.cells #[.int .u8 k, .int .i64 s, .int .i64 p, .int .i64 n, .int .i64 a, .int .u8 u, .int .i64 e, .int .i64 t, .bool g, .bool l, .int .u8 K, .int .i64 S, .int .i64 C, .int .i64 T, .int .i64 M, .int .u8 V] 27 (0, 0)) := (hb1.block _ (by simp)).trans hb0
  clear hb0 hb1
  have HB1 := Lib.hid hblk
  have HW1 := Lib.hid hw1
  clear hw1
  refine lane_start (ord := [1, 2, 3, 0, 4, 5, 6]) (S := fun w' => w'.heap[w.heap.size]? = some (.cells #[.int .u8 k, .int .i64 s, .int .i64 p, .int .i64 n, .int .i64 a, .int .u8 u, .int .i64 e, .int .i64 t, .bool g, .bool l, .int .u8 K, .int .i64 S, .int .i64 C, .int .i64 T, .int .i64 M, .int .u8 V] 27 (0, 0))) rfl (by kernel_rfl) hblk (fun hHeld => ?_)
  clear hblk
  repeat (first
    | (refine lane_take (v := ?_) rfl (by kernel_rfl) (by kernel_rfl) (by rfl) ?_ (by assumption) ?_; rotate_left; (focus (intro w' hSw; have hc0 : w'.cell? ⟨w.heap.size, 0, none⟩ = some (.int .u8 k) := cell_of_row _ _ 0 _ _ _ hSw; go_simp; try (with_reducible rfl))); simp only [Act.put, List.setIfInBounds_toArray, List.set_cons_zero, List.set_cons_succ]))
  refine lane_two (i := 0) (j := 4) (ordJ := [0, 5, 6]) rfl rfl (by kernel_rfl) rfl (by rfl) (by rfl) (fun K' hK => ?_) (fun K' hK => ?_)
  · go_simp
    refine (new_any _).mono ?_
    rintro x w2 ⟨rfl, rfl⟩
    refine hK _ _ ((alloc_block_old (w := w1.drew) hz1).trans HB1.out) (fun hHeld => ?_)
    clear hK K'
    refine lane_alone rfl (by kernel_rfl) (by rfl) (fun K' hK => ?_)
    go_simp
    have hbx : (((w1.drew).alloc (.cells #[.slice none 0 0, .int .i64 0] 69)).alloc (.cells #[.int .i64 k] 2)).heap[w.heap.size]? = some (.cells #[.int .u8 k, .int .i64 s, .int .i64 p, .int .i64 n, .int .i64 a, .int .u8 u, .int .i64 e, .int .i64 t, .bool g, .bool l, .int .u8 K, .int .i64 S, .int .i64 C, .int .i64 T, .int .i64 M, .int .u8 V] 27 (0, 0)) := (alloc_block_old (by rw [World.size_alloc]; exact Nat.lt_succ_of_lt hz1)).trans ((alloc_block_old (w := w1.drew) hz1).trans HB1.out)
    refine hK _ _ hbx (fun hHeld => ?_)
    clear hK K'
    refine lane_alone rfl (by kernel_rfl) (by rfl) (fun K' hK => ?_)
    go_simp
    refine (put_at _ w1.heap.size w1.heap.size [] #[.int .i64 k] [k] 1 1 (w1.heap.size + 1) (alloc_at (by simp)) rfl rfl ((pb_new w1.drew w1.heap.size (Nat.le_refl _)).alloc _) (by simp) (by simp) HI.out).mono ?_
    rintro x w3 ⟨rfl, hp⟩
    have hg : ∃ g3, g3 = w1.heap.size ∧ Begun w w.heap.size w1.heap.size g3 #[.int .u8 k, .int .i64 s, .int .i64 p, .int .i64 n, .int .i64 a, .int .u8 u, .int .i64 e, .int .i64 t, .bool g, .bool l, .int .u8 K, .int .i64 S, .int .i64 C, .int .i64 T, .int .i64 M, .int .u8 V] ([] ++ Pk.encs [k]) w3 := ⟨_, rfl, (hp.below.block _ hz1).trans hbx, hz1, hp.box, HW1.out.trans (((((Below.refl _ w1).drew).alloc (Nat.le_refl _) _).alloc (by simp) _).trans (hp.below) |>.mono (Nat.le_of_lt hz1))⟩
    obtain ⟨g3, eg, HG⟩ := hg
    refine hK _ _ HG.blk (fun hHeld => ?_)
    clear hK K' hp hbx
    rw [← eg]
    clear eg
    rw [List.nil_append] at HG
    have HG := Lib.hid HG
    refine lane_take (v := ?_) rfl (by kernel_rfl) (by kernel_rfl) (by rfl) ?_ (by assumption) ?_
    rotate_left
    · intro w' hSw
      go_simp
      try (with_reducible rfl)
    simp only [Act.put, List.setIfInBounds_toArray, List.set_cons_zero, List.set_cons_succ]
    refine lane_end (by kernel_rfl) ?_
    clear hHeld
    have hc0 : w3.cell? ⟨w.heap.size, 0, none⟩ = some (.int .u8 k) := HG.out.cell 0
    have hc10 : w3.cell? ⟨w.heap.size, 10, none⟩ = some (.int .u8 K) := HG.out.cell 10
    have hc11 : w3.cell? ⟨w.heap.size, 11, none⟩ = some (.int .i64 S) := HG.out.cell 11
    have hc12 : w3.cell? ⟨w.heap.size, 12, none⟩ = some (.int .i64 C) := HG.out.cell 12
    have hc13 : w3.cell? ⟨w.heap.size, 13, none⟩ = some (.int .i64 T) := HG.out.cell 13
    have hc14 : w3.cell? ⟨w.heap.size, 14, none⟩ = some (.int .i64 M) := HG.out.cell 14
    have hc15 : w3.cell? ⟨w.heap.size, 15, none⟩ = some (.int .u8 V) := HG.out.cell 15
    go_wp2_with (go_at_call 39; refine (names_is _ _ _ HN.out).mono ?_; rintro e w' ⟨rfl, rfl⟩)
    refine (oput_any w3 (w1.heap.size) g3 _ K S C T M V HG.out.put (by omega) HA.out).mono ?_
    rintro x w4 ⟨rfl, hp4⟩
    have HG4 := Lib.hid (HG.out.more hp4)
    clear hp4 hc0 hc10 hc11 hc12 hc13 hc14 hc15
    go_wp2_with (fail)
    refine (done_put _ _ _ _ HG4.out.put ?_).mono ?_
    · have := HLEN.out
      rw [List.length_append]; omega
    intro x w5 hO
    have hO5 := HG4.out.done rfl hO
    rw [Pk.encs_one] at hO5
    obtain ⟨n5, hn5⟩ : ∃ n5, (Pk.enc (Pk.zig k) ++ Pk.encs [K, S, C, T, M, V]).length = n5 := ⟨_, rfl⟩
    obtain ⟨A5, c5, rfl, HO5, HB5, _, h51, h52⟩ := hO5.open_n n5 hn5
    have HN5 := Lib.hid hn5
    clear hO hO5 hn5
    go_wp2
    go_ret
    exact owned_n HN5.out HO5.out HB5.out h51 h52
  · go_simp
    have hbx1 : ((w1.drew).alloc (.cells #[.int .i64 k] 2)).heap[w.heap.size]? = some (.cells #[.int .u8 k, .int .i64 s, .int .i64 p, .int .i64 n, .int .i64 a, .int .u8 u, .int .i64 e, .int .i64 t, .bool g, .bool l, .int .u8 K, .int .i64 S, .int .i64 C, .int .i64 T, .int .i64 M, .int .u8 V] 27 (0, 0)) := (alloc_block_old (w := w1.drew) hz1).trans HB1.out
    refine hK _ _ hbx1 (fun hHeld => ?_)
    clear hK K'
    refine lane_alone rfl (by kernel_rfl) (by rfl) (fun K' hK => ?_)
    go_simp
    refine (new_any _).mono ?_
    rintro x w2 ⟨rfl, rfl⟩
    have hbx : (((w1.drew).alloc (.cells #[.int .i64 k] 2)).alloc (.cells #[.slice none 0 0, .int .i64 0] 69)).heap[w.heap.size]? = some (.cells #[.int .u8 k, .int .i64 s, .int .i64 p, .int .i64 n, .int .i64 a, .int .u8 u, .int .i64 e, .int .i64 t, .bool g, .bool l, .int .u8 K, .int .i64 S, .int .i64 C, .int .i64 T, .int .i64 M, .int .u8 V] 27 (0, 0)) := (alloc_block_old (by rw [World.size_alloc]; exact Nat.lt_succ_of_lt hz1)).trans hbx1
    refine hK _ _ hbx (fun hHeld => ?_)
    clear hK K'
    refine lane_alone rfl (by kernel_rfl) (by rfl) (fun K' hK => ?_)
    go_simp
    refine (put_at _ w1.heap.size (w1.heap.size + 1) [] #[.int .i64 k] [k] 1 1 w1.heap.size (alloc_old (by simp) (alloc_at (w := w1.drew) rfl)) rfl rfl (by have := pb_new ((w1.drew).alloc (.cells #[.int .i64 k] 2)) w1.heap.size (by simp); simpa using this) (by simp) (by simp) HI.out).mono ?_
    rintro x w3 ⟨rfl, hp⟩
    have hg : ∃ g3, g3 = w1.heap.size + 1 ∧ Begun w w.heap.size w1.heap.size g3 #[.int .u8 k, .int .i64 s, .int .i64 p, .int .i64 n, .int .i64 a, .int .u8 u, .int .i64 e, .int .i64 t, .bool g, .bool l, .int .u8 K, .int .i64 S, .int .i64 C, .int .i64 T, .int .i64 M, .int .u8 V] ([] ++ Pk.encs [k]) w3 := ⟨_, rfl, (hp.below.block _ hz1).trans hbx, hz1, hp.box, HW1.out.trans (((((Below.refl _ w1).drew).alloc (Nat.le_refl _) _).alloc (by simp) _).trans (hp.below) |>.mono (Nat.le_of_lt hz1))⟩
    obtain ⟨g3, eg, HG⟩ := hg
    refine hK _ _ HG.blk (fun hHeld => ?_)
    clear hK K' hp hbx
    rw [← eg]
    clear eg
    rw [List.nil_append] at HG
    have HG := Lib.hid HG
    refine lane_take (v := ?_) rfl (by kernel_rfl) (by kernel_rfl) (by rfl) ?_ (by assumption) ?_
    rotate_left
    · intro w' hSw
      go_simp
      try (with_reducible rfl)
    simp only [Act.put, List.setIfInBounds_toArray, List.set_cons_zero, List.set_cons_succ]
    refine lane_end (by kernel_rfl) ?_
    clear hHeld
    have hc0 : w3.cell? ⟨w.heap.size, 0, none⟩ = some (.int .u8 k) := HG.out.cell 0
    have hc10 : w3.cell? ⟨w.heap.size, 10, none⟩ = some (.int .u8 K) := HG.out.cell 10
    have hc11 : w3.cell? ⟨w.heap.size, 11, none⟩ = some (.int .i64 S) := HG.out.cell 11
    have hc12 : w3.cell? ⟨w.heap.size, 12, none⟩ = some (.int .i64 C) := HG.out.cell 12
    have hc13 : w3.cell? ⟨w.heap.size, 13, none⟩ = some (.int .i64 T) := HG.out.cell 13
    have hc14 : w3.cell? ⟨w.heap.size, 14, none⟩ = some (.int .i64 M) := HG.out.cell 14
    have hc15 : w3.cell? ⟨w.heap.size, 15, none⟩ = some (.int .u8 V) := HG.out.cell 15
    go_wp2_with (go_at_call 39; refine (names_is _ _ _ HN.out).mono ?_; rintro e w' ⟨rfl, rfl⟩)
    refine (oput_any w3 (w1.heap.size) g3 _ K S C T M V HG.out.put (by omega) HA.out).mono ?_
    rintro x w4 ⟨rfl, hp4⟩
    have HG4 := Lib.hid (HG.out.more hp4)
    clear hp4 hc0 hc10 hc11 hc12 hc13 hc14 hc15
    go_wp2_with (fail)
    refine (done_put _ _ _ _ HG4.out.put ?_).mono ?_
    · have := HLEN.out
      rw [List.length_append]; omega
    intro x w5 hO
    have hO5 := HG4.out.done rfl hO
    rw [Pk.encs_one] at hO5
    obtain ⟨n5, hn5⟩ : ∃ n5, (Pk.enc (Pk.zig k) ++ Pk.encs [K, S, C, T, M, V]).length = n5 := ⟨_, rfl⟩
    obtain ⟨A5, c5, rfl, HO5, HB5, _, h51, h52⟩ := hO5.open_n n5 hn5
    have HN5 := Lib.hid hn5
    clear hO hO5 hn5
    go_wp2
    go_ret
    exact owned_n HN5.out HO5.out HB5.out h51 h52

theorem enc_any (k s p n a u e t : Int) (g l : Bool) (K S C T M V : Int) (w : World) (wu : 0 ≤ u) :
    Calls Try.prog 17 #[.agg #[.int .u8 k, .int .i64 s, .int .i64 p, .int .i64 n, .int .i64 a, .int .u8 u, .int .i64 e, .int .i64 t, .bool g, .bool l, .int .u8 K, .int .i64 S, .int .i64 C, .int .i64 T, .int .i64 M, .int .u8 V]] w (Owned w (Ov.out ⟨k, s, p, n, ⟨a, u, e, t, g, l⟩, ⟨K, S, C, T, M, V⟩⟩)) := by
  by_cases h : Ov.right ⟨k, s, p, n, ⟨a, u, e, t, g, l⟩, ⟨K, S, C, T, M, V⟩⟩ = 0
  · rw [show Ov.out ⟨k, s, p, n, ⟨a, u, e, t, g, l⟩, ⟨K, S, C, T, M, V⟩⟩ = Ov.bytes ⟨k, s, p, n, ⟨a, u, e, t, g, l⟩, ⟨K, S, C, T, M, V⟩⟩ from if_pos h]
    unfold Ov.bytes Ov.rest Nv.bytes
    refine nm_ways k ?_ ?_ ?_ ?_ ?_ ?_
    · intro hn _
      exact absurd (num_0 hn (right_zero h).1) id
    · intro hn _
      simp only [hn, Int.reduceEq, if_true, if_false]
      exact enc_1 k s p n a u e t g l K S C T M V w h hn wu
    · intro hn _
      simp only [hn, Int.reduceEq, if_true, if_false]
      exact enc_2 k s p n a u e t g l K S C T M V w h hn
    · intro hn _
      simp only [hn, Int.reduceEq, if_true, if_false]
      exact enc_3 k s p n a u e t g l K S C T M V w h hn
    · intro hn _
      simp only [hn, Int.reduceEq, if_true, if_false]
      exact enc_4 k s p n a u e t g l K S C T M V w h hn
    · intro hn _
      simp only [hn, Int.reduceEq, if_true, if_false]
      exact enc_5 k s p n a u e t g l K S C T M V w h hn
  · rw [show Ov.out ⟨k, s, p, n, ⟨a, u, e, t, g, l⟩, ⟨K, S, C, T, M, V⟩⟩ = [] from if_neg h]
    exact (enc_none k s p n a u e t g l K S C T M V w h).mono fun e w' ⟨he, hb⟩ => ⟨none, 0, he, World.ownsRow_nil _ _ _ _, hb, Nat.le_refl _, Nat.zero_le _⟩
end Go.Proofs.Ytambppcnmggocaa
