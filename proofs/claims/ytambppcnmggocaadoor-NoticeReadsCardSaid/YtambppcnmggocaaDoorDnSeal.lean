/-
  Contracts of notice.Encode and notice.Decode: a notice under its seal, and back; what any bytes are. Condition: the table holds what the program's text lays.
-/
import Derived.Test.YtambppcnmggocaaDoorDn
import Derived.Test.YtambppcnmggocaaDoorSlTurn
namespace Go.Proofs.YtambppcnmggocaaDoor
set_option maxRecDepth 20000
open Go.ChangeShapes Go.WideShapes Go.ChangeAt Go.RowKit
namespace Sl
theorem four_numb {d : List Int} (h : d.length = 4) (hb : BytesOk d) : four (numb d) = d := by
  obtain ⟨a, b, c, e, rfl⟩ := four_items h
  have ha := hb a (by simp)
  have hb' := hb b (by simp)
  have hc := hb c (by simp)
  have he := hb e (by simp)
  have hn : numb [a, b, c, e] = ((a.toNat * 256 + b.toNat) * 256 + c.toNat) * 256 + e.toNat := by
    show (((0 * 256 + a.toNat) * 256 + b.toNat) * 256 + c.toNat) * 256 + e.toNat = _
    omega
  rw [hn]
  unfold four
  simp only [List.cons.injEq, and_true]
  refine ⟨?_, ?_, ?_, ?_⟩ <;> omega
theorem words_back {l : List Int} (hb : BytesOk l) (h : 16 ≤ l.length) : l = four (wordAt l 0) ++ (four (wordAt l 1) ++ (four (wordAt l 2) ++ (four (wordAt l 3) ++ l.drop 16))) := by
  have hq : ∀ j, j ≤ 3 → four (wordAt l j) = (l.drop (j * 4)).take 4 := fun j hj => by
    unfold wordAt
    refine four_numb ?_ fun x hx => hb x (List.mem_of_mem_drop (List.mem_of_mem_take hx))
    rw [List.length_take, List.length_drop]; omega
  rw [hq 0 (by omega), hq 1 (by omega), hq 2 (by omega), hq 3 (by omega)]
  have e : ∀ k, (l.drop k).take 4 ++ l.drop (k + 4) = l.drop k := fun k => by
    rw [← List.drop_drop]; exact List.take_append_drop 4 (l.drop k)
  rw [show l.drop 16 = l.drop (3 * 4 + 4) from rfl, e (3 * 4), show l.drop (3 * 4) = l.drop (2 * 4 + 4) from rfl, e (2 * 4), show l.drop (2 * 4) = l.drop (1 * 4 + 4) from rfl, e (1 * 4), show l.drop (1 * 4) = l.drop (0 * 4 + 4) from rfl, e (0 * 4)]
  rfl
/-- Bytes that are opened whole are just a seal's. -/
theorem closed_back {age place : Nat} {l u : List Int} (hb : BytesOk l) (h : open1 age place l = (u, l.length, 0)) : l = closed age place u ∧ 16 ≤ l.length := by
  by_cases h0 : (looked place l).2.2 = 0
  · by_cases h1 : (looked place l).1 = age
    · obtain ⟨m, hm, hml, ho⟩ := looked_le h0
      rw [open1_yes h0 h1 hm] at h
      injection h with hu h
      injection h with hl _
      rw [h1] at ho
      have g1 : ¬ l.length < 16 := by omega
      by_cases g2 : 1048576 < wordAt l 0
      · rw [opened_long g1 g2] at ho; simp only [Prod.mk.injEq] at ho; omega
      by_cases g3 : l.length < 16 + wordAt l 0
      · rw [opened_short g1 g2 g3] at ho; simp only [Prod.mk.injEq] at ho; omega
      by_cases g4 : sum (l.take 12 ++ (l.drop 16).take (wordAt l 0)) = wordAt l 3
      · rw [opened_yes g1 g2 g3 g4] at ho
        simp only [Prod.mk.injEq] at ho
        obtain ⟨e0, e1, e2, _⟩ := ho
        have hw := words_back hb (by omega)
        have hd : (l.drop 16).take m = l.drop 16 := List.take_of_length_le (by rw [List.length_drop]; omega)
        rw [hd] at hu
        rw [e0, hd] at g4
        have hul : u.length = m := by rw [← hu, List.length_drop]; omega
        refine ⟨?_, by omega⟩
        have h12 : l.take 12 = head age place m := by
          rw [hw, take12_made, e0, e1, e2]
        rw [h12, hu] at g4
        unfold closed
        rw [hul, g4]
        rw [hu] at hw
        conv => lhs; rw [hw]
        rw [e0, e1, e2]
        unfold head
        simp only [List.append_assoc]
      · rw [opened_form g1 g2 g3 g4] at ho; simp only [Prod.mk.injEq] at ho; omega
    · rw [open1_old h0 h1] at h; simp only [Prod.mk.injEq] at h; omega
  · rw [open1_no h0] at h; simp only [Prod.mk.injEq] at h; omega
end Sl
def Nv.arr (n : Nv) : Array Value := #[.int .u8 n.k, .int .i64 n.s, .int .i64 n.c, .int .i64 n.t, .int .i64 n.a, .int .u8 n.v]
theorem Nv.val_arr (n : Nv) : n.val = .agg n.arr := rfl
theorem Nv.arr_one (n : Nv) : n.arr.all (·.oneCell') = true := by cases n; simp [Nv.arr, Value.oneCell']
/-- A notice's bytes under its seal. -/
def Nv.seal (n : Nv) : List Int := Sl.closed 0 0 n.bytes
theorem Nv.bytes_ok (n : Nv) : BytesOk n.bytes := fun x hx => by have := Pk.encs_range _ x hx; omega
theorem Nv.seal_ok (n : Nv) : BytesOk n.seal := closed_ok n.bytes_ok
theorem Nv.seal_len (n : Nv) : n.seal.length = 16 + n.bytes.length := Sl.closed_len _ _ _
theorem Nv.seal_open (n : Nv) (h : n.Ok) (r : List Int) : Sl.open1 0 0 (n.seal ++ r) = (n.bytes, n.seal.length, 0) := by
  rw [Nv.seal_len]; exact Sl.open1_closed r (by omega) (by omega) (by have := (n.len h).2; omega)
theorem Nv.bytes_inj {m n : Nv} (hm : m.Ok) (hn : n.Ok) (h : m.bytes = n.bytes) : m = n := by
  have := Pk.encs_inj [m.k, m.s, m.c, m.t, m.a, m.v] [n.k, n.s, n.c, n.t, n.a, n.v] rfl hm.i64 hn.i64 h
  cases m; cases n
  simp only [List.cons.injEq, and_true] at this
  obtain ⟨rfl, rfl, rfl, rfl, rfl, rfl⟩ := this
  rfl
theorem Nv.seal_inj {m n : Nv} (hm : m.Ok) (hn : n.Ok) (h : m.seal = n.seal) : m = n := by
  have h1 := m.seal_open hm []
  have h2 := n.seal_open hn []
  rw [h, h2] at h1
  injection h1 with e _
  exact (Nv.bytes_inj hn hm e).symm
/-- What Decode tells of bytes. -/
def Nv.Dec (l : List Int) (m : Nv) (e : Int) : Prop := (e = 0 ∧ m.Ok ∧ l = m.seal) ∨ (e = 4 ∧ m = Nv.zero ∧ ∀ n : Nv, n.Ok → l ≠ n.seal)
theorem Nv.Dec.is {n m : Nv} {e : Int} (h : Nv.Dec n.seal m e) (hn : n.Ok) : m = n ∧ e = 0 := by
  rcases h with ⟨rfl, hm, hl⟩ | ⟨_, _, hx⟩
  · exact ⟨(Nv.seal_inj hn hm hl).symm, rfl⟩
  · exact absurd rfl (hx n hn)
theorem Nv.Dec.none {l : List Int} {m : Nv} {e : Int} (h : Nv.Dec l m e) (hx : ∀ n : Nv, n.Ok → l ≠ n.seal) : e = 4 ∧ m = Nv.zero := by
  rcases h with ⟨_, hm, hl⟩ | ⟨he, hm, _⟩
  · exact absurd hl (hx m hm)
  · exact ⟨he, hm⟩
theorem Nv.Dec.ways {l : List Int} {m : Nv} {e : Int} {P : Prop} (h : Nv.Dec l m e) (h1 : e = 0 → m.Ok → l = m.seal → P) (h2 : e = 4 → m = Nv.zero → P) : P := by
  rcases h with ⟨h, h', h3⟩ | ⟨h, h', _⟩
  · exact h1 h h' h3
  · exact h2 h h'
theorem near_n (n : Nv) (h : n.Wf) (w : World) : Calls Tryd.prog 6 #[.agg n.arr] w fun x w' => x = .returned (.agg n.nearA.arr) ∧ Below w.heap.size w w' := by
  cases n; exact nneara_any _ _ _ _ _ _ w h.1 h.2.2.2.2.2.1
theorem right_n (n : Nv) (h : 0 ≤ n.v) (w : World) : Calls Tryd.prog 15 #[.agg n.arr] w fun x w' => x = .returned (.bool (decide n.Ok)) ∧ Below w.heap.size w w' := by
  cases n; exact nright_any _ _ _ _ _ _ w h
theorem results_two6 {fn : Func} {p q : Tmp} (h : fn.results = #[.cell p 23, .tmp q]) (tmps : Array Value) (w : World) (g : Nat) (t : TypeId) (cs : Array Value) (fr : Nat × Nat) (v : Value)
    (hp : tmps.getD p undef = .pointer (some ⟨g, 0, none⟩)) (hq : tmps.getD q undef = v) (hg : w.heap[g]? = some (.cells cs t fr)) (hs : cs.size = 6) :
    (results fn tmps).run Tryd.prog w = .ok (.tuple #[.agg cs, v]) w := by
  have hp' : tmps[p]?.getD undef = .pointer (some ⟨g, 0, none⟩) := by simpa using hp
  have hq' : tmps[q]?.getD undef = v := by simpa using hq
  have hl := run_loadVar_row (P := Tryd.prog) w g t 23 cs fr _ hg Tryd.underlying23 rfl (by rw [info6, hs])
  simp [results, h, hp', hq', asAddr, hl]

set_option maxHeartbeats 4000000 in
theorem nenc_n (n : Nv) (h : n.Ok) (w : World) (ht : Lines w) : Calls Tryd.prog 7 #[.agg n.arr] w (Owned w n.seal) := by
  have HT := Lib.hid ht
  have HO := Lib.hid h
  have HL := Lib.hid (n.len h).2
  have hR : ∀ w, Calls Tryd.prog 15 #[.agg n.arr] w fun x w' => x = .returned (.bool true) ∧ Below w.heap.size w w' := fun w => by
    have := right_n n (by have := h.2.2.1; omega) w
    rwa [decide_eq_true h] at this
  have HR := Lib.hid hR
  clear hR ht h
  go_enter Tryd.func7, Tryd.ntmps7
  go_wp2_with (first | ((with_reducible_and_instances (show wpList _ _ _ (Oper.mk _ (Op.load 23 _) _ _ _ _ :: _) _ _)); refine wl_load Tryd.underlying23 rfl info6 rfl rfl rfl (by (repeat (first | assumption | (with_reducible refine alloc_at ?_; (focus (first | omega | (simp; done) | (simp; omega)))) | (with_reducible refine boxed_at ?_; (focus (first | omega | (simp; done) | (simp; omega)))) | (with_reducible refine alloc_old ?_ ?_; (focus (first | omega | (simp; done) | (simp; omega)))) | (with_reducible refine boxed_old ?_ ?_; (focus (first | omega | (simp; done) | (simp; omega)))) | (with_reducible refine drew_old ?_)))) (by rfl) ?_) | ((with_reducible_and_instances (show wpList _ _ _ (Oper.mk _ (Op.store 23 _ _) _ _ _ _ :: _) _ _)); refine wl_store info6 rfl rfl rfl rfl (by (repeat (first | assumption | (with_reducible refine alloc_at ?_; (focus (first | omega | (simp; done) | (simp; omega)))) | (with_reducible refine boxed_at ?_; (focus (first | omega | (simp; done) | (simp; omega)))) | (with_reducible refine alloc_old ?_ ?_; (focus (first | omega | (simp; done) | (simp; omega)))) | (with_reducible refine boxed_old ?_ ?_; (focus (first | omega | (simp; done) | (simp; omega)))) | (with_reducible refine drew_old ?_)))) (by rfl) (by rfl) (by first | exact Nv.arr_one _ | simp [Value.oneCell']) ?_))
  refine (HR.out _).mono ?_
  rintro x w1 ⟨rfl, hb1⟩
  have h1 : w1.heap[w.heap.size]? = some (.cells n.arr 23 (0, 0)) := (hb1.block _ (by simp)).trans alloc_block
  have H1 : Hid (Below w.heap.size w w1) := Lib.hid (((Below.refl _ w).alloc (Nat.le_refl _) _).trans (hb1.mono (by simp)))
  have s1 : w.heap.size < w1.heap.size := by have := hb1.size; simp at this; omega
  clear hb1
  go_wp2_with (fail)
  refine (new_any _).mono ?_
  rintro x w2 ⟨rfl, rfl⟩
  have HPB := Lib.hid (pb_new w1 w1.heap.size (Nat.le_refl _))
  go_wp2_with (first | ((with_reducible_and_instances (show wpList _ _ _ (Oper.mk _ (Op.load 23 _) _ _ _ _ :: _) _ _)); refine wl_load Tryd.underlying23 rfl info6 rfl rfl rfl (by (repeat (first | assumption | (with_reducible refine alloc_at ?_; (focus (first | omega | (simp; done) | (simp; omega)))) | (with_reducible refine boxed_at ?_; (focus (first | omega | (simp; done) | (simp; omega)))) | (with_reducible refine alloc_old ?_ ?_; (focus (first | omega | (simp; done) | (simp; omega)))) | (with_reducible refine boxed_old ?_ ?_; (focus (first | omega | (simp; done) | (simp; omega)))) | (with_reducible refine drew_old ?_)))) (by rfl) ?_) | ((with_reducible_and_instances (show wpList _ _ _ (Oper.mk _ (Op.store 23 _ _) _ _ _ _ :: _) _ _)); refine wl_store info6 rfl rfl rfl rfl (by (repeat (first | assumption | (with_reducible refine alloc_at ?_; (focus (first | omega | (simp; done) | (simp; omega)))) | (with_reducible refine boxed_at ?_; (focus (first | omega | (simp; done) | (simp; omega)))) | (with_reducible refine alloc_old ?_ ?_; (focus (first | omega | (simp; done) | (simp; omega)))) | (with_reducible refine boxed_old ?_ ?_; (focus (first | omega | (simp; done) | (simp; omega)))) | (with_reducible refine drew_old ?_)))) (by rfl) (by rfl) (by first | exact Nv.arr_one _ | simp [Value.oneCell']) ?_))
  refine (oput_any _ w1.heap.size w1.heap.size [] n.k n.s n.c n.t n.a n.v HPB.out (by simp) HO.out.i64).mono ?_
  rintro x w3 ⟨rfl, hp⟩
  have HP := Lib.hid hp.box
  have H3 : Hid (Below w1.heap.size w1 w3) := Lib.hid (((Below.refl _ w1).alloc (Nat.le_refl _) _).trans hp.below)
  rw [List.nil_append, show Pk.encs [n.k, n.s, n.c, n.t, n.a, n.v] = n.bytes from rfl] at HP
  clear hp HPB h1
  go_wp2_with (fail)
  refine (done_put _ _ _ _ HP.out (Nat.le_trans HL.out (by omega))).mono ?_
  intro x w4 hO
  obtain ⟨A4, n4, c4, rfl, HN4, _, HB4, HR4, _, _⟩ := hO.open_
  have HW4 : Hid (Below w.heap.size w w4) := Lib.hid (H1.out.trans ((H3.out.trans (HB4.out.mono H3.out.size)).mono H1.out.size))
  clear hO HP
  go_wp2_with (fail)
  refine (close_any 0 0 A4 w4.heap.size c4 n4 n.bytes w4 (HT.out.below HW4.out) (by omega) (by omega) HR4.out (Nat.le_refl _) n.bytes_ok HN4.out (by have := HN4.out; have := HL.out; omega)).mono ?_
  intro x w5 hO
  obtain ⟨A5, c5, rfl, HO5, HB5, _, h51, h52⟩ := hO.open_n _ n.seal_len
  have HO5' : Hid (w5.ownsRow w.heap.size 5 1 (.slice A5 (16 + n.bytes.length) c5) (16 + n.bytes.length) (cl .u8 n.seal)) := Lib.hid (own_base HO5.out HW4.out.size)
  clear hO
  go_wp2
  go_ret
  exact ⟨A5, c5, by rw [Nv.seal_len]; rfl, by rw [Nv.seal_len]; exact HO5'.out, HW4.out.trans (HB5.out.mono HW4.out.size), by rw [Nv.seal_len]; exact h51, h52⟩

set_option maxHeartbeats 4000000 in
theorem ndec_n (w : World) (A : Option Addr) (n c : Nat) (l : List Int) (ht : Lines w) (hr : Rd w .u8 w.heap.size A l) (hl : n ≤ 5000) (hb : BytesOk l) (hm : l.length = n) (hc : n ≤ c) :
    Calls Tryd.prog 8 #[.slice A n c] w fun x w' => ∃ (m : Nv) (e : Int), x = .returned (.tuple #[.agg m.arr, .int .i64 e]) ∧ Nv.Dec l m e ∧ Below w.heap.size w w' := by
  have HT := Lib.hid ht
  have HR0 := Lib.hid hr
  have HM := Lib.hid hm
  have HBO := Lib.hid hb
  clear ht hr hm hb
  go_enter Tryd.func8, Tryd.ntmps8
  have HB : Hid (Below w.heap.size w (w.alloc (Obj.cells #[.int .u8 0, .int .i64 0, .int .i64 0, .int .i64 0, .int .i64 0, .int .u8 0] 23))) := (Below.refl _ w).alloc (Nat.le_refl _) _
  have HZ : Hid ((w.alloc (Obj.cells #[.int .u8 0, .int .i64 0, .int .i64 0, .int .i64 0, .int .i64 0, .int .u8 0] 23)).heap[w.heap.size]? = some (Obj.cells #[.int .u8 0, .int .i64 0, .int .i64 0, .int .i64 0, .int .i64 0, .int .u8 0] 23)) := alloc_block
  have HS : Hid (w.heap.size < (w.alloc (Obj.cells #[.int .u8 0, .int .i64 0, .int .i64 0, .int .i64 0, .int .i64 0, .int .u8 0] 23)).heap.size) := by show w.heap.size < (w.alloc (Obj.cells #[.int .u8 0, .int .i64 0, .int .i64 0, .int .i64 0, .int .i64 0, .int .u8 0] 23)).heap.size; simp
  go_wp2_with (fail)
  generalize w.alloc (Obj.cells #[.int .u8 0, .int .i64 0, .int .i64 0, .int .i64 0, .int .i64 0, .int .u8 0] 23) = W at *
  refine (open_any 0 0 A w.heap.size c n l W (HT.out.below HB.out) (HR0.out.below HB.out) (Nat.le_of_lt HS.out) HBO.out HM.out hc hl).mono ?_
  rintro x w1 ⟨A1, n1, c1, rfl, HN1, HR1, HB1⟩
  have hnot : ∀ m : Nv, m.Ok → l = m.seal → Sl.open1 0 0 l = (m.bytes, n, 0) := fun m hm e => by
    rw [← HM.out, e]
    have := m.seal_open hm []
    rwa [List.append_nil] at this
  have HNOT := Lib.hid hnot
  have hback : ∀ u, Sl.open1 0 0 l = (u, n, 0) → l = Sl.closed 0 0 u ∧ 16 ≤ n := fun u hu => by
    have := Sl.closed_back (age := 0) (place := 0) (l := l) (u := u) HBO.out (by rw [HM.out]; exact hu)
    rwa [HM.out] at this
  have HBACK := Lib.hid hback
  clear hnot hback
  generalize Sl.open1 0 0 l = r at *
  obtain ⟨u, sz, fe⟩ := r
  dsimp only at HN1 HR1 ⊢
  have hR1 : w1.heap[w.heap.size]? = some (Obj.cells #[.int .u8 0, .int .i64 0, .int .i64 0, .int .i64 0, .int .i64 0, .int .u8 0] 23 (0, 0)) := (HB1.out.block _ HS.out).trans HZ.out
  have H1 : Hid (Below w.heap.size w w1) := Lib.hid (HB.out.trans (HB1.out.mono HB.out.size))
  have s1 : w.heap.size < w1.heap.size := Nat.lt_of_lt_of_le HS.out HB1.out.size
  clear HB HZ HS HB1 HR0
  by_cases d : fe = 0
  · subst d
    by_cases d2 : sz = n
    · subst d2
      have hcu := (HBACK.out u rfl).1
      have HCU := Lib.hid hcu
      have hul : u.length ≤ 5000 := by have := Sl.closed_len 0 0 u; rw [← hcu, HM.out] at this; omega
      have hub : BytesOk u := fun x hx => HBO.out x (by rw [hcu]; unfold Sl.closed; simp [hx])
      have HUB := Lib.hid hub
      have HUL := Lib.hid hul
      clear hcu hub hul
      go_wp2_with (fail)
      refine (of_len A1 w1.heap.size c1 n1 u w1 HR1.out (Nat.le_refl _) (Nat.le_trans HUL.out (by omega)) HUB.out HN1.out).mono ?_
      rintro x w2 ⟨gb, rfl, hg2, hb2, hl2⟩
      have HG2 := Lib.hid hg2
      have hR2 := (hb2.block _ s1).trans hR1
      have H2 : Hid (Below w.heap.size w w2) := Lib.hid (H1.out.trans (hb2.mono H1.out.size))
      have s2 : w.heap.size < w2.heap.size := Nat.lt_of_lt_of_le s1 hb2.size
      have hgb : w.heap.size < gb := Nat.lt_of_lt_of_le s1 hl2
      clear hg2 hb2 hR1 hl2 HR1
      go_wp2_with (fail)
      refine (oget_any _ _ _ _ HG2.out).mono ?_
      rintro x w3 ⟨m, l', f', rfl, hgot, hgr, hg3⟩
      have hR3 := (hgr.block _ s2 (by intro e; injection e; omega)).trans hR2
      have H3 : Hid (Below w.heap.size w w3) := Lib.hid (H2.out.trans (grown_below hgr (Nat.le_of_lt hgb) H2.out.size))
      have s3 : w.heap.size < w3.heap.size := Nat.lt_of_lt_of_le s2 hgr.size
      have HGOT := Lib.hid hgot
      have HG3 := Lib.hid hg3
      have HNN := Lib.hid HG2.out.nn
      have HG3' : Hid (∀ cs, GB (boxed (w3.alloc (.cells #[.int .u8 0, .int .i64 0, .int .i64 0, .int .i64 0, .int .i64 0, .int .u8 0] 23)) w3.heap.size cs 23) gb l' f') := Lib.hid (fun cs => HG3.out.kept fun i hi => by have := HG3.out.lt; rw [boxed_block_other (by omega), alloc_block_old (by omega)])
      rw [Nv.val_arr]
      clear hgot hgr hg3 hR2 H2 s2 HG2
      go_wp2_with (first | ((with_reducible_and_instances (show wpList _ _ _ (Oper.mk _ (Op.load 23 _) _ _ _ _ :: _) _ _)); refine wl_load Tryd.underlying23 rfl info6 rfl rfl rfl (by (repeat (first | assumption | (with_reducible refine alloc_at ?_; (focus (first | omega | (simp; done) | (simp; omega)))) | (with_reducible refine boxed_at ?_; (focus (first | omega | (simp; done) | (simp; omega)))) | (with_reducible refine alloc_old ?_ ?_; (focus (first | omega | (simp; done) | (simp; omega)))) | (with_reducible refine boxed_old ?_ ?_; (focus (first | omega | (simp; done) | (simp; omega)))) | (with_reducible refine drew_old ?_)))) (by rfl) ?_) | ((with_reducible_and_instances (show wpList _ _ _ (Oper.mk _ (Op.store 23 _ _) _ _ _ _ :: _) _ _)); refine wl_store info6 rfl rfl rfl rfl (by (repeat (first | assumption | (with_reducible refine alloc_at ?_; (focus (first | omega | (simp; done) | (simp; omega)))) | (with_reducible refine boxed_at ?_; (focus (first | omega | (simp; done) | (simp; omega)))) | (with_reducible refine alloc_old ?_ ?_; (focus (first | omega | (simp; done) | (simp; omega)))) | (with_reducible refine boxed_old ?_ ?_; (focus (first | omega | (simp; done) | (simp; omega)))) | (with_reducible refine drew_old ?_)))) (by rfl) (by rfl) (by first | exact Nv.arr_one _ | simp [Value.oneCell']) ?_))
      refine (end_any _ _ _ _ (HG3'.out _)).mono ?_
      rintro x w9 ⟨⟨X, rfl, hX⟩, rfl⟩
      rcases hX with ⟨rfl, hf, hl'⟩ | ⟨hx, hf⟩
      · subst hf hl'
        obtain ⟨_, hmo, hu⟩ := HGOT.out.ok HNN.out
        rw [List.append_nil] at hu
        have HD : Hid (Nv.Dec l m 0) := Lib.hid (.inl ⟨rfl, hmo, by unfold Nv.seal; rw [← hu]; exact HCU.out⟩)
        clear hmo hu
        go_wp2_with (first | ((with_reducible_and_instances (show wpList _ _ _ (Oper.mk _ (Op.load 23 _) _ _ _ _ :: _) _ _)); refine wl_load Tryd.underlying23 rfl info6 rfl rfl rfl (by (repeat (first | assumption | (with_reducible refine alloc_at ?_; (focus (first | omega | (simp; done) | (simp; omega)))) | (with_reducible refine boxed_at ?_; (focus (first | omega | (simp; done) | (simp; omega)))) | (with_reducible refine alloc_old ?_ ?_; (focus (first | omega | (simp; done) | (simp; omega)))) | (with_reducible refine boxed_old ?_ ?_; (focus (first | omega | (simp; done) | (simp; omega)))) | (with_reducible refine drew_old ?_)))) (by rfl) ?_) | ((with_reducible_and_instances (show wpList _ _ _ (Oper.mk _ (Op.store 23 _ _) _ _ _ _ :: _) _ _)); refine wl_store info6 rfl rfl rfl rfl (by (repeat (first | assumption | (with_reducible refine alloc_at ?_; (focus (first | omega | (simp; done) | (simp; omega)))) | (with_reducible refine boxed_at ?_; (focus (first | omega | (simp; done) | (simp; omega)))) | (with_reducible refine alloc_old ?_ ?_; (focus (first | omega | (simp; done) | (simp; omega)))) | (with_reducible refine boxed_old ?_ ?_; (focus (first | omega | (simp; done) | (simp; omega)))) | (with_reducible refine drew_old ?_)))) (by rfl) (by rfl) (by first | exact Nv.arr_one _ | simp [Value.oneCell']) ?_))
        refine bodyPost_ret (v := .tuple #[.agg m.arr, .int .i64 0]) (results_two6 rfl _ _ w.heap.size 23 _ (0, 0) (.int .i64 0) rfl rfl (by (repeat (first | assumption | (with_reducible refine alloc_at ?_; (focus (first | omega | (simp; done) | (simp; omega)))) | (with_reducible refine boxed_at ?_; (focus (first | omega | (simp; done) | (simp; omega)))) | (with_reducible refine alloc_old ?_ ?_; (focus (first | omega | (simp; done) | (simp; omega)))) | (with_reducible refine boxed_old ?_ ?_; (focus (first | omega | (simp; done) | (simp; omega)))) | (with_reducible refine drew_old ?_)))) rfl) rfl ⟨m, 0, rfl, HD.out, boxed_below (boxed_below (H3.out.trans ((Below.refl _ _).alloc H3.out.size _)) (Nat.le_of_lt s3)) (Nat.le_refl _)⟩
      · have z : (X != 0) = true := by simpa using hx
        have HD : Hid (Nv.Dec l Nv.zero 4) := Lib.hid (.inr ⟨rfl, rfl, fun m' hm' he => by
          have e := HNOT.out m' hm' he
          injection e with e _
          have hg := HGOT.out
          rw [e, ← List.append_nil m'.bytes] at hg
          obtain ⟨_, h2, h3⟩ := hg.go hm'
          rcases hf with h | h
          · exact h h3
          · exact h h2⟩)
        clear hf hx
        go_wp2_with (first | ((with_reducible_and_instances (show wpList _ _ _ (Oper.mk _ (Op.load 23 _) _ _ _ _ :: _) _ _)); refine wl_load Tryd.underlying23 rfl info6 rfl rfl rfl (by (repeat (first | assumption | (with_reducible refine alloc_at ?_; (focus (first | omega | (simp; done) | (simp; omega)))) | (with_reducible refine boxed_at ?_; (focus (first | omega | (simp; done) | (simp; omega)))) | (with_reducible refine alloc_old ?_ ?_; (focus (first | omega | (simp; done) | (simp; omega)))) | (with_reducible refine boxed_old ?_ ?_; (focus (first | omega | (simp; done) | (simp; omega)))) | (with_reducible refine drew_old ?_)))) (by rfl) ?_) | ((with_reducible_and_instances (show wpList _ _ _ (Oper.mk _ (Op.store 23 _ _) _ _ _ _ :: _) _ _)); refine wl_store info6 rfl rfl rfl rfl (by (repeat (first | assumption | (with_reducible refine alloc_at ?_; (focus (first | omega | (simp; done) | (simp; omega)))) | (with_reducible refine boxed_at ?_; (focus (first | omega | (simp; done) | (simp; omega)))) | (with_reducible refine alloc_old ?_ ?_; (focus (first | omega | (simp; done) | (simp; omega)))) | (with_reducible refine boxed_old ?_ ?_; (focus (first | omega | (simp; done) | (simp; omega)))) | (with_reducible refine drew_old ?_)))) (by rfl) (by rfl) (by first | exact Nv.arr_one _ | simp [Value.oneCell']) ?_))
        refine bodyPost_ret (v := .tuple #[.agg #[.int .u8 0, .int .i64 0, .int .i64 0, .int .i64 0, .int .i64 0, .int .u8 0], .int .i64 4]) (results_two6 rfl _ _ w.heap.size 23 _ (0, 0) (.int .i64 4) rfl rfl (by (repeat (first | assumption | (with_reducible refine alloc_at ?_; (focus (first | omega | (simp; done) | (simp; omega)))) | (with_reducible refine boxed_at ?_; (focus (first | omega | (simp; done) | (simp; omega)))) | (with_reducible refine alloc_old ?_ ?_; (focus (first | omega | (simp; done) | (simp; omega)))) | (with_reducible refine boxed_old ?_ ?_; (focus (first | omega | (simp; done) | (simp; omega)))) | (with_reducible refine drew_old ?_)))) rfl) rfl ⟨Nv.zero, 4, rfl, HD.out, boxed_below (boxed_below (H3.out.trans ((Below.refl _ _).alloc H3.out.size _)) (Nat.le_of_lt s3)) (Nat.le_refl _)⟩
    · have HD : Hid (Nv.Dec l Nv.zero 4) := Lib.hid (.inr ⟨rfl, rfl, fun m hm he => by have e := HNOT.out m hm he; injection e with _ e; injection e with e _; exact d2 e⟩)
      have z : ((sz : Int) != (n : Int)) = true := by rw [bne_iff_ne]; omega
      clear d2
      go_wp2_with (first | ((with_reducible_and_instances (show wpList _ _ _ (Oper.mk _ (Op.load 23 _) _ _ _ _ :: _) _ _)); refine wl_load Tryd.underlying23 rfl info6 rfl rfl rfl (by (repeat (first | assumption | (with_reducible refine alloc_at ?_; (focus (first | omega | (simp; done) | (simp; omega)))) | (with_reducible refine boxed_at ?_; (focus (first | omega | (simp; done) | (simp; omega)))) | (with_reducible refine alloc_old ?_ ?_; (focus (first | omega | (simp; done) | (simp; omega)))) | (with_reducible refine boxed_old ?_ ?_; (focus (first | omega | (simp; done) | (simp; omega)))) | (with_reducible refine drew_old ?_)))) (by rfl) ?_) | ((with_reducible_and_instances (show wpList _ _ _ (Oper.mk _ (Op.store 23 _ _) _ _ _ _ :: _) _ _)); refine wl_store info6 rfl rfl rfl rfl (by (repeat (first | assumption | (with_reducible refine alloc_at ?_; (focus (first | omega | (simp; done) | (simp; omega)))) | (with_reducible refine boxed_at ?_; (focus (first | omega | (simp; done) | (simp; omega)))) | (with_reducible refine alloc_old ?_ ?_; (focus (first | omega | (simp; done) | (simp; omega)))) | (with_reducible refine boxed_old ?_ ?_; (focus (first | omega | (simp; done) | (simp; omega)))) | (with_reducible refine drew_old ?_)))) (by rfl) (by rfl) (by first | exact Nv.arr_one _ | simp [Value.oneCell']) ?_))
      refine bodyPost_ret (v := .tuple #[.agg #[.int .u8 0, .int .i64 0, .int .i64 0, .int .i64 0, .int .i64 0, .int .u8 0], .int .i64 4]) (results_two6 rfl _ _ w.heap.size 23 _ (0, 0) (.int .i64 4) rfl rfl (by (repeat (first | assumption | (with_reducible refine alloc_at ?_; (focus (first | omega | (simp; done) | (simp; omega)))) | (with_reducible refine boxed_at ?_; (focus (first | omega | (simp; done) | (simp; omega)))) | (with_reducible refine alloc_old ?_ ?_; (focus (first | omega | (simp; done) | (simp; omega)))) | (with_reducible refine boxed_old ?_ ?_; (focus (first | omega | (simp; done) | (simp; omega)))) | (with_reducible refine drew_old ?_)))) rfl) rfl ⟨Nv.zero, 4, rfl, HD.out, boxed_below H1.out (Nat.le_refl _)⟩
  · have HD : Hid (Nv.Dec l Nv.zero 4) := Lib.hid (.inr ⟨rfl, rfl, fun m hm he => by have e := HNOT.out m hm he; injection e with _ e; injection e with _ e; exact d e⟩)
    have z : ((fe : Int) != 0) = true := by rw [bne_iff_ne]; omega
    clear d
    go_wp2_with (first | ((with_reducible_and_instances (show wpList _ _ _ (Oper.mk _ (Op.load 23 _) _ _ _ _ :: _) _ _)); refine wl_load Tryd.underlying23 rfl info6 rfl rfl rfl (by (repeat (first | assumption | (with_reducible refine alloc_at ?_; (focus (first | omega | (simp; done) | (simp; omega)))) | (with_reducible refine boxed_at ?_; (focus (first | omega | (simp; done) | (simp; omega)))) | (with_reducible refine alloc_old ?_ ?_; (focus (first | omega | (simp; done) | (simp; omega)))) | (with_reducible refine boxed_old ?_ ?_; (focus (first | omega | (simp; done) | (simp; omega)))) | (with_reducible refine drew_old ?_)))) (by rfl) ?_) | ((with_reducible_and_instances (show wpList _ _ _ (Oper.mk _ (Op.store 23 _ _) _ _ _ _ :: _) _ _)); refine wl_store info6 rfl rfl rfl rfl (by (repeat (first | assumption | (with_reducible refine alloc_at ?_; (focus (first | omega | (simp; done) | (simp; omega)))) | (with_reducible refine boxed_at ?_; (focus (first | omega | (simp; done) | (simp; omega)))) | (with_reducible refine alloc_old ?_ ?_; (focus (first | omega | (simp; done) | (simp; omega)))) | (with_reducible refine boxed_old ?_ ?_; (focus (first | omega | (simp; done) | (simp; omega)))) | (with_reducible refine drew_old ?_)))) (by rfl) (by rfl) (by first | exact Nv.arr_one _ | simp [Value.oneCell']) ?_))
    refine bodyPost_ret (v := .tuple #[.agg #[.int .u8 0, .int .i64 0, .int .i64 0, .int .i64 0, .int .i64 0, .int .u8 0], .int .i64 4]) (results_two6 rfl _ _ w.heap.size 23 _ (0, 0) (.int .i64 4) rfl rfl (by (repeat (first | assumption | (with_reducible refine alloc_at ?_; (focus (first | omega | (simp; done) | (simp; omega)))) | (with_reducible refine boxed_at ?_; (focus (first | omega | (simp; done) | (simp; omega)))) | (with_reducible refine alloc_old ?_ ?_; (focus (first | omega | (simp; done) | (simp; omega)))) | (with_reducible refine boxed_old ?_ ?_; (focus (first | omega | (simp; done) | (simp; omega)))) | (with_reducible refine drew_old ?_)))) rfl) rfl ⟨Nv.zero, 4, rfl, HD.out, boxed_below H1.out (Nat.le_refl _)⟩
end Go.Proofs.YtambppcnmggocaaDoor
