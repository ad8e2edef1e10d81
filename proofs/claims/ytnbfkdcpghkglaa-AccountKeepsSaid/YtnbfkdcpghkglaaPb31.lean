/-
  The law's own world behind so many acts, and what each act leaves. No conditions but those that each law names.
-/
import Derived.Test.YtnbfkdcpghkglaaPb25
import Derived.Test.YtnbfkdcpghkglaaPb27
import Derived.Test.YtnbfkdcpghkglaaPb29
import Derived.Test.YtnbfkdcpghkglaaPb30
set_option linter.unusedSimpArgs false
set_option linter.unusedVariables false
namespace Go.Proofs.Ytnbfkdcpghkglaa
set_option maxRecDepth 100000
open Go.ChangeShapes Go.WideShapes Go.ChangeAt Go.RowKit

theorem okList {ps : Nat → Pv} {k : Nat} (h : k < 2) : [ps 0, ps 1][k]? = some (ps k) := by
  have : k = 0 ∨ k = 1 := by omega
  rcases this with rfl | rfl <;> rfl
/-- A list that reads as cycles is a slice. -/
theorem Cys.one {w : World} {b B : Nat} {v : Value} {l : List Cv} (h : Cys w b B v l) : v.oneCell' = true := by
  obtain ⟨A, c, rfl, _⟩ := h; rfl
/-- The law's world as it may stand, behind so many acts; its lists lie below a block, or from another one on. -/
structure Rel (ps : Nat → Pv) (i lo hi : Nat) (w : World) (b : Wd) : Prop where
  p : ∃ p0 : Nat, p0 < 2 ∧ b.pl = (p0 : Int) ∧ b.s.pl = (p0 : Int) ∧ Sta (((i : Int) + 1) * 1100000000) (40 * (i : Int) + 1) (ps p0) b.td b.s
  a : b.a = b.s.tell
  td : 700000 ≤ b.td ∧ b.td ≤ 765535 + 40 * (i : Int)
  va : b.va.oneCell' = true
  vs : b.vs.oneCell' = true
  ca : Parted 0 lo hi w b.va b.a.l
  cs : Parted 0 lo hi w b.vs b.s.l
  lo_le : lo ≤ w.heap.size
  hi_le : hi ≤ w.heap.size
def RelPost (ps : Nat → Pv) (i lo hi : Nat) (w : World) (e : Ending) (w' : World) : Prop := ∃ b' : Wd, e = .returned (.tuple #[.agg b'.arr, .bool true]) ∧ Rel ps i lo hi w' b' ∧ Below w.heap.size w w'
theorem Rel.grow {ps : Nat → Pv} {i lo hi : Nat} {w w' : World} {b : Wd} (h : Rel ps i lo hi w b) (hb : Below w.heap.size w w') : Rel ps (i + 1) lo hi w' b := by
  obtain ⟨p0, h1, h2, h3, h4⟩ := h.p
  have htd := h.td
  exact ⟨⟨p0, h1, h2, h3, h4.more (by omega) (by omega)⟩, h.a, by omega, h.va, h.vs, h.ca.below hb h.lo_le, h.cs.below hb h.lo_le, Nat.le_trans h.lo_le hb.size, Nat.le_trans h.hi_le hb.size⟩
/-- Where its list of cycles lies. -/
theorem Rel.place {ps : Nat → Pv} {i lo hi : Nat} {w : World} {b : Wd} (h : Rel ps i lo hi w b) : ∃ b0 c0, c0 ≤ w.heap.size ∧ Cys w b0 c0 b.vs b.s.l ∧ ∀ (w' : World) (v : Value) (l : List Cv), w.heap.size ≤ w'.heap.size → Cys w' b0 c0 v l → Parted 0 lo hi w' v l := by
  rcases h.cs with g | g
  · exact ⟨0, lo, h.lo_le, g, fun w' v l _ hc => .inl hc⟩
  · exact ⟨hi, w.heap.size, Nat.le_refl _, g, fun w' v l hw hc => .inr (hc.more (Nat.le_refl _) hw)⟩
/-- What is so where both answer by OK. -/
structure Good (ps : Nat → Pv) (i : Nat) (A' : Av) (S' : Sv) (T' : Int) : Prop where
  a : A' = S'.tell
  p : ∃ p0 : Nat, p0 < 2 ∧ S'.pl = (p0 : Int) ∧ Sta (((i : Int) + 2) * 1100000000) (40 * (i : Int) + 41) (ps p0) T' S'
  td : 700000 ≤ T' ∧ T' ≤ 765575 + 40 * (i : Int)
theorem DoPost.rel {ps : Nat → Pv} {i lo hi b0 c0 : Nat} {w : World} {b : Wd} {x : Int} {A' : Av} {S' : Sv} {T' : Int} (h : Rel ps i lo hi w b) (hback : ∀ (w' : World) (v : Value) (l : List Cv), w.heap.size ≤ w'.heap.size → Cys w' b0 c0 v l → Parted 0 lo hi w' v l) (hg : x = 0 → Good ps i A' S' T') : ∀ e w', DoPost b0 c0 w b x A' S' T' e w' → RelPost ps (i + 1) lo hi w e w' := by
  rintro e w' ⟨b', he, h1, h2, hb⟩
  by_cases hx : x = 0
  · obtain ⟨ga, ⟨p0, gp1, gp2, gp3⟩, gt⟩ := hg hx
    obtain ⟨k1, k2, k3, k4, k5, k6, k7, k8⟩ := h2 hx
    refine ⟨b', he, ⟨⟨p0, gp1, by rw [k4, gp2], by rw [k2, gp2], ?_⟩, by rw [k1, k2, ga], by rw [k3]; omega, k5, k6, by rw [k1]; exact k7.elim (hback _ _ _ hb.size) (fun g => .inr (g.more h.hi_le (Nat.le_refl _))), by rw [k2]; exact k8.elim (hback _ _ _ hb.size) (fun g => .inr (g.more h.hi_le (Nat.le_refl _))), Nat.le_trans h.lo_le hb.size, Nat.le_trans h.hi_le hb.size⟩, hb⟩
    rw [k2, k3]
    exact gp3.more (by omega) (by omega)
  · have := h1 hx
    subst this
    exact ⟨b', he, h.grow hb, hb⟩
theorem News.ans {W : World} {a : Av} : ∀ e w', News W a e w' → Ans 0 a W e w' := by
  rintro e w' ⟨v', rfl, ho, hb⟩
  exact ⟨a, v', rfl, ho.one, fun _ => ⟨rfl, ho.cys⟩, hb⟩
theorem Refused.ans {W : World} {A' : Av} {x : Int} (hx : x ≠ 0) : ∀ e w', Refused W x e w' → Ans x A' W e w' := by
  rintro e w' ⟨rfl, hb⟩
  exact ⟨Av.zero, _, rfl, rfl, fun h => absurd h hx, hb⟩
def StepPost (b0 c0 : Nat) (x : Int) (S' : Sv) (T' : Int) (W : World) (e : Ending) (w' : World) : Prop := ∃ bk' : Bk, e = .returned (.tuple #[.agg bk'.arr, .int .i64 x]) ∧ bk'.One ∧ (x = 0 → bk'.s 0 = S' ∧ bk'.td = T' ∧ (Cys w' b0 c0 (bk'.v 0) S'.l ∨ Cys w' W.heap.size w'.heap.size (bk'.v 0) S'.l)) ∧ Below W.heap.size W w'
/-- The book that 'do' lays: the day, the plans, one subscription. -/
def Bk.lone (td : Int) (vp : Value) (s : Sv) (vs : Value) : Bk := (Bk.new td vp).put 0 s vs
section
variable {td : Int} {vp vs : Value} {s : Sv}
theorem Bk.lone_s : (Bk.lone td vp s vs).s 0 = s := ((Bk.new td vp).put_same 0 s vs).1
theorem Bk.lone_v : (Bk.lone td vp s vs).v 0 = vs := ((Bk.new td vp).put_same 0 s vs).2
theorem Bk.lone_one (hp : vp.oneCell' = true) (hs : vs.oneCell' = true) : (Bk.lone td vp s vs).One := (Bk.new_one vp hp).put 0 s hs
theorem Bk.lone_put (s' : Sv) (v' : Value) : (Bk.lone td vp s vs).put 0 s' v' = Bk.lone td vp s' v' := by
  unfold Bk.lone Bk.put
  congr 1
  · funext j; dsimp only; split <;> rfl
  · funext j; dsimp only; split <;> rfl
theorem step_no {b0 c0 : Nat} {W w' : World} {x T' : Int} {S' : Sv} {e : Ending} {bk : Bk} (ho : bk.One) (hx : x ≠ 0) (h : Books W bk x e w') : StepPost b0 c0 x S' T' W e w' := ⟨bk, h.1, ho, fun g => absurd g hx, h.2⟩
theorem step_old {b0 c0 : Nat} {w0 W w' : World} {S' : Sv} {e : Ending} (hp : vp.oneCell' = true) (hs : vs.oneCell' = true) (hlow : Below w0.heap.size w0 W) (hc0 : c0 ≤ w0.heap.size) (hcs : Cys w0 b0 c0 vs S'.l) (h : Books W (Bk.lone td vp S' vs) 0 e w') : StepPost b0 c0 0 S' td W e w' :=
  ⟨_, h.1, Bk.lone_one hp hs, fun _ => ⟨Bk.lone_s, rfl, .inl (by rw [Bk.lone_v]; exact (hcs.kept fun i _ hi => hlow.block i (by omega)).kept fun i _ hi => h.2.block i (by have := hlow.size; omega))⟩, h.2⟩
end
/-- All of an act, given what both sides' own calls answer. -/
theorem rel_do {ps : Nat → Pv} {i lo hi : Nat} {w : World} {b : Wd} {K A B x : Int} {A' : Av} {S' : Sv} {T' : Int} {oc : Array Value} (h : Rel ps i lo hi w b) (ha0 : 0 ≤ A) (ha1 : A < 256) (hb0 : 0 ≤ B) (hi5 : i < 50)
    (HW : DoWay w b ps K A B x A' oc)
    (HS : x ≠ 77 → ∀ (b0 c0 : Nat), c0 ≤ w.heap.size → Cys w b0 c0 b.vs b.s.l → ∀ (vp : Value) (W : World), vp.oneCell' = true → Below w.heap.size w W → Pls W W.heap.size vp [ps 0, ps 1] → Calls Try.prog 32 #[.agg (Bk.lone b.td vp b.s b.vs).arr, .agg oc] W (StepPost b0 c0 x S' T' W))
    (hg : x = 0 → Good ps i A' S' T') :
    Calls Try.prog 10 #[.agg b.arr, .agg (Tw.arr ps), .agg #[.int .u8 K, .int .u8 A, .int .u8 B]] w (RelPost ps (i + 1) lo hi w) := by
  obtain ⟨p0, hp1, hp2, hp3, hsta⟩ := h.p
  obtain ⟨b0, c0, hc0, hcs, hback⟩ := h.place
  refine (do_any (S' := S') (T' := T') (b0 := b0) (c0 := c0) hc0 ha0 ha1 hb0 (Lib.hid HW) (Lib.hid (fun hx W hW hpl => HS hx b0 c0 hc0 hcs _ W rfl hW hpl)) (Lib.hid (fun hx => ?_)) (Lib.hid (fun _ => ?_)) (Lib.hid ⟨h.ca.whole h.lo_le, h.cs.whole h.lo_le⟩) h.va h.vs).mono (DoPost.rel h hback hg)
  · obtain ⟨ga, ⟨q0, gp1, gp2, gp3⟩, gt⟩ := hg hx
    rw [ga]
    exact gp3.told (by omega) (by omega)
  · rw [h.a]
    exact hsta.told (by omega) (by omega)
section
variable {ps : Nat → Pv} {i lo hi : Nat} {w : World} {b : Wd} {K A B : Int}
/-- The old list of cycles, at a later world. -/
theorem Rel.late_a (h : Rel ps i lo hi w b) {W : World} (hW : Below w.heap.size w W) : Cys W 0 W.heap.size b.va b.a.l := (h.ca.below hW h.lo_le).whole (Nat.le_trans h.lo_le hW.size)
theorem Rel.late_s (h : Rel ps i lo hi w b) {W : World} (hW : Below w.heap.size w W) : Cys W 0 W.heap.size b.vs b.s.l := (h.cs.below hW h.lo_le).whole (Nat.le_trans h.lo_le hW.size)
theorem Rel.len (h : Rel ps i lo hi w b) (hi5 : i < 50) : b.s.l.length ≤ 2001 ∧ b.a.l.length ≤ 2001 := by
  obtain ⟨p0, _, _, _, hsta⟩ := h.p
  have h1 := hsta.len
  have h2 := opn_len b.s.l
  have h3 : b.a.l = opn b.s.l := by rw [h.a]; rfl
  rw [h3]
  omega
theorem Rel.fits (h : Rel ps i lo hi w b) (hi5 : i < 50) : b.a.Fit 2002 ∧ (∀ c ∈ b.a.l, c.Fit) ∧ (∀ c ∈ b.a.l, (Cv.over c).Fit) ∧ (∀ c ∈ b.a.l, (Cv.card c).Fit) ∧ (-100000000000 ≤ b.s.cr ∧ b.s.cr ≤ 100000000000) ∧ ∀ c ∈ b.s.l, (-1000000000000 ≤ c.u ∧ c.u ≤ 1000000000000) ∧ 0 ≤ c.t ∧ c.t ≤ 1000 := by
  obtain ⟨p0, _, _, _, hsta⟩ := h.p
  have hM : ((i : Int) + 1) * 1100000000 ≤ 100000000000 := by omega
  have hl := (h.len hi5).1
  have hcr := hsta.ok.cr
  have mem : ∀ c ∈ b.a.l, c ∈ b.s.l := fun c hc => by rw [h.a] at hc; exact (opn_mem hc).1
  refine ⟨by rw [h.a]; exact (hsta.ok.fit hM).more (by omega), fun c hc => (hsta.ok.cs c (mem c hc)).fit hM, fun c hc => (hsta.ok.cs c (mem c hc)).over.fit hM, fun c hc => (hsta.ok.cs c (mem c hc)).card.fit hM, by omega, hsta.ok.us hM⟩
theorem Good.of {p0 : Nat} {S' : Sv} (h : Rel ps i lo hi w b) (hp0 : p0 < 2) (hpl : S'.pl = (p0 : Int)) (hs : Sta (((i : Int) + 1) * 1100000000) (40 * (i : Int) + 1) (ps p0) b.td S') : Good ps i S'.tell S' b.td :=
  ⟨rfl, ⟨p0, hp0, hpl, hs.more (by omega) (by omega)⟩, by have := h.td; omega⟩
theorem rel_pause (h : Rel ps i lo hi w b) (ha0 : 0 ≤ A) (ha1 : A < 256) (hb0 : 0 ≤ B) (hi5 : i < 50) (hk : K.tmod 16 = 5) : Calls Try.prog 10 #[.agg b.arr, .agg (Tw.arr ps), .agg #[.int .u8 K, .int .u8 A, .int .u8 B]] w (RelPost ps (i + 1) lo hi w) := by
  obtain ⟨p0, hp1, hp2, hp3, hsta⟩ := h.p
  have hl := (h.len hi5).2
  by_cases hst : b.s.st = 1
  · refine rel_do (x := 0) (A' := { b.a with st := 2 }) (S' := { b.s with st := 2 }) (T' := b.td) h ha0 ha1 hb0 hi5 (.pause hk (fun W hW => (pause_yes (by rw [h.a]; exact hst) (h.late_a hW) (by omega)).mono News.ans) (by decide)) (fun _ b0 c0 hc0 hcs vp W hv hW _ => ?_) (fun _ => by rw [h.a]; exact Good.of (S' := { b.s with st := 2 }) h hp1 hp3 (hsta.state 2 (.inr rfl) (by omega)))
    refine (step_pause_yes (b := Bk.lone b.td vp b.s b.vs) (i := 0) (by omega) (Bk.lone_one hv h.vs) (by rw [Bk.lone_s]; exact hst)).mono ?_
    rw [Bk.lone_s, Bk.lone_v, Bk.lone_put]
    exact fun e w' hb => step_old hv h.vs hW hc0 hcs hb
  · have h23 := hsta.ok.st
    refine rel_do (x := 8) (A' := b.a) (S' := b.s) (T' := b.td) h ha0 ha1 hb0 hi5 (.pause hk (fun W hW => (pause_no (by rw [h.a]; exact hst)).mono (Refused.ans (by decide))) (by decide)) (fun _ b0 c0 hc0 hcs vp W hv hW _ => ?_) (fun g => absurd g (by decide))
    exact (step_pause_no (b := Bk.lone b.td vp b.s b.vs) (i := 0) (by omega) (Bk.lone_one hv h.vs) (by rw [Bk.lone_s]; omega)).mono fun e w' hb => step_no (Bk.lone_one hv h.vs) (by decide) hb
theorem rel_resume (h : Rel ps i lo hi w b) (ha0 : 0 ≤ A) (ha1 : A < 256) (hb0 : 0 ≤ B) (hi5 : i < 50) (hk : K.tmod 16 = 6) : Calls Try.prog 10 #[.agg b.arr, .agg (Tw.arr ps), .agg #[.int .u8 K, .int .u8 A, .int .u8 B]] w (RelPost ps (i + 1) lo hi w) := by
  obtain ⟨p0, hp1, hp2, hp3, hsta⟩ := h.p
  have hl := (h.len hi5).2
  by_cases hst : b.s.st = 2
  · refine rel_do (x := 0) (A' := { b.a with st := 1 }) (S' := { b.s with st := 1 }) (T' := b.td) h ha0 ha1 hb0 hi5 (.resume hk (fun W hW => (resume_yes (by rw [h.a]; exact hst) (h.late_a hW) (by omega)).mono News.ans) (by decide)) (fun _ b0 c0 hc0 hcs vp W hv hW _ => ?_) (fun _ => by rw [h.a]; exact Good.of (S' := { b.s with st := 1 }) h hp1 hp3 (hsta.state 1 (.inl rfl) (by omega)))
    refine (step_resume_yes (b := Bk.lone b.td vp b.s b.vs) (i := 0) (by omega) (Bk.lone_one hv h.vs) (by rw [Bk.lone_s]; exact hst)).mono ?_
    rw [Bk.lone_s, Bk.lone_v, Bk.lone_put]
    exact fun e w' hb => step_old hv h.vs hW hc0 hcs hb
  · have h23 := hsta.ok.st
    refine rel_do (x := 8) (A' := b.a) (S' := b.s) (T' := b.td) h ha0 ha1 hb0 hi5 (.resume hk (fun W hW => (resume_no (by rw [h.a]; exact hst)).mono (Refused.ans (by decide))) (by decide)) (fun _ b0 c0 hc0 hcs vp W hv hW _ => ?_) (fun g => absurd g (by decide))
    exact (step_resume_no (b := Bk.lone b.td vp b.s b.vs) (i := 0) (by omega) (Bk.lone_one hv h.vs) (by rw [Bk.lone_s]; omega)).mono fun e w' hb => step_no (Bk.lone_one hv h.vs) (by decide) hb
theorem rel_skip (h : Rel ps i lo hi w b) (ha0 : 0 ≤ A) (ha1 : A < 256) (hb0 : 0 ≤ B) (hi5 : i < 50) (hk : K.tmod 16 = 7) : Calls Try.prog 10 #[.agg b.arr, .agg (Tw.arr ps), .agg #[.int .u8 K, .int .u8 A, .int .u8 B]] w (RelPost ps (i + 1) lo hi w) := by
  obtain ⟨p0, hp1, hp2, hp3, hsta⟩ := h.p
  have hl := (h.len hi5).2
  have h123 := hsta.ok.st
  have e1 : b.a.st = b.s.st := by rw [h.a]; rfl
  have e2 : b.a.sk = b.s.sk := by rw [h.a]; rfl
  by_cases hst : b.s.st = 3
  · refine rel_do (x := 8) (A' := b.a) (S' := b.s) (T' := b.td) h ha0 ha1 hb0 hi5 (.skip hk (fun W hW => (skip_no (.inl (by unfold Av.live; rw [e1, hst]; rfl))).mono (Refused.ans (by decide))) (by decide)) (fun _ b0 c0 hc0 hcs vp W hv hW _ => ?_) (fun g => absurd g (by decide))
    exact (step_skip_dead (b := Bk.lone b.td vp b.s b.vs) (i := 0) (by omega) (Bk.lone_one hv h.vs) (by rw [Bk.lone_s]; exact hst)).mono fun e w' hb => step_no (Bk.lone_one hv h.vs) (by decide) hb
  have hlive : b.a.live = true := by
    unfold Av.live
    rw [e1]
    rcases h123 with g | g | g
    · rw [g]; rfl
    · rw [g]; rfl
    · exact absurd g hst
  cases hsk : b.s.sk
  · refine rel_do (x := 0) (A' := { b.a with sk := true }) (S' := { b.s with sk := true }) (T' := b.td) h ha0 ha1 hb0 hi5 (.skip hk (fun W hW => (skip_yes hlive (e2.trans hsk) (h.late_a hW) (by omega)).mono News.ans) (by decide)) (fun _ b0 c0 hc0 hcs vp W hv hW _ => ?_) (fun _ => by rw [h.a]; exact Good.of (S' := { b.s with sk := true }) h hp1 hp3 (hsta.skips true))
    rcases h123 with g | g | g
    · refine (step_skip_one (b := Bk.lone b.td vp b.s b.vs) (i := 0) (by omega) (Bk.lone_one hv h.vs) (by rw [Bk.lone_s]; exact g) (by rw [Bk.lone_s]; exact hsk)).mono ?_
      rw [Bk.lone_s, Bk.lone_v, Bk.lone_put]
      exact fun e w' hb => step_old hv h.vs hW hc0 hcs hb
    · refine (step_skip_two (b := Bk.lone b.td vp b.s b.vs) (i := 0) (by omega) (Bk.lone_one hv h.vs) (by rw [Bk.lone_s]; exact g) (by rw [Bk.lone_s]; exact hsk)).mono ?_
      rw [Bk.lone_s, Bk.lone_v, Bk.lone_put]
      exact fun e w' hb => step_old hv h.vs hW hc0 hcs hb
    · exact absurd g hst
  · refine rel_do (x := 8) (A' := b.a) (S' := b.s) (T' := b.td) h ha0 ha1 hb0 hi5 (.skip hk (fun W hW => (skip_no (.inr ⟨hlive, e2.trans hsk⟩)).mono (Refused.ans (by decide))) (by decide)) (fun _ b0 c0 hc0 hcs vp W hv hW _ => ?_) (fun g => absurd g (by decide))
    exact (step_skip_twice (b := Bk.lone b.td vp b.s b.vs) (i := 0) (by omega) (Bk.lone_one hv h.vs) (by rw [Bk.lone_s]; omega) (by rw [Bk.lone_s]; exact hsk)).mono fun e w' hb => step_no (Bk.lone_one hv h.vs) (by decide) hb
theorem step_list {b0 c0 : Nat} {W w' : World} {x : Int} {S' : Sv} {e : Ending} {td : Int} {vp v' : Value} (hp : vp.oneCell' = true) (he : e = .returned (.tuple #[.agg (Bk.lone td vp S' v').arr, .int .i64 x])) (hc : Cys w' b0 c0 v' S'.l ∨ Cys w' W.heap.size w'.heap.size v' S'.l) (hb : Below W.heap.size W w') : StepPost b0 c0 x S' td W e w' :=
  ⟨_, he, Bk.lone_one hp (hc.elim Cys.one Cys.one), fun _ => ⟨Bk.lone_s, rfl, by rw [Bk.lone_v]; exact hc⟩, hb⟩
theorem rel_cancel (h : Rel ps i lo hi w b) (ha0 : 0 ≤ A) (ha1 : A < 256) (hb0 : 0 ≤ B) (hi5 : i < 50) (hk : K.tmod 16 = 9) (hk2 : (A % 4 == 0) = true) : Calls Try.prog 10 #[.agg b.arr, .agg (Tw.arr ps), .agg #[.int .u8 K, .int .u8 A, .int .u8 B]] w (RelPost ps (i + 1) lo hi w) := by
  obtain ⟨p0, hp1, hp2, hp3, hsta⟩ := h.p
  obtain ⟨hl1, hl⟩ := h.len hi5
  obtain ⟨f1, f2, f3, f4, f5, f6⟩ := h.fits hi5
  have h123 := hsta.ok.st
  have e1 : b.a.st = b.s.st := by rw [h.a]; rfl
  by_cases hst : b.s.st = 3
  · refine rel_do (x := 8) (A' := b.a) (S' := b.s) (T' := b.td) h ha0 ha1 hb0 hi5 (.cancel hk hk2 (fun W hW => (cancel_no (by unfold Av.live; rw [e1, hst]; rfl)).mono (Refused.ans (by decide))) (by decide)) (fun _ b0 c0 hc0 hcs vp W hv hW _ => ?_) (fun g => absurd g (by decide))
    exact (step_cancel_no (b := Bk.lone b.td vp b.s b.vs) (i := 0) (by omega) (Bk.lone_one hv h.vs) (by rw [Bk.lone_s]; exact hst)).mono fun e w' hb => step_no (Bk.lone_one hv h.vs) (by decide) hb
  have hlive : b.a.live = true := by
    unfold Av.live
    rw [e1]
    rcases h123 with g | g | g
    · rw [g]; rfl
    · rw [g]; rfl
    · exact absurd g hst
  refine rel_do (x := 0) (A' := Av.each { b.a with st := 3 } (fun c => Cv.over c)) (S' := { b.s with st := 3, cr := b.s.cr + gainOf (fun c => c.over) b.s.l, l := b.s.l.map (fun c => c.over) }) (T' := b.td) h ha0 ha1 hb0 hi5 (.cancel hk hk2 (fun W hW => (cancel_yes (m := 2002) hlive (h.late_a hW) (by omega) f1 (by omega) f2 f3).mono News.ans) (by decide)) (fun _ b0 c0 hc0 hcs vp W hv hW _ => ?_) (fun _ => by rw [h.a]; rw [← hsta.ok.cancelled.2]; exact Good.of h hp1 hp3 hsta.cancelled)
  rcases h123 with g | g | g
  · refine (step_cancel_one (b := Bk.lone b.td vp b.s b.vs) (i := 0) (b0 := b0) (c0 := c0) (by omega) (Bk.lone_one hv h.vs) (by rw [Bk.lone_s]; exact g) (by have := hW.size; omega) (by rw [Bk.lone_v, Bk.lone_s]; exact hcs.kept fun i _ hi => hW.block i (by omega)) (by rw [Bk.lone_s]; omega) (by rw [Bk.lone_s]; exact f5) (by rw [Bk.lone_s]; exact f6)).mono ?_
    rw [Bk.lone_s]
    rintro e w' ⟨v', he, hc, hb⟩
    rw [Bk.lone_put] at he
    exact step_list hv he hc hb
  · refine (step_cancel_two (b := Bk.lone b.td vp b.s b.vs) (i := 0) (b0 := b0) (c0 := c0) (by omega) (Bk.lone_one hv h.vs) (by rw [Bk.lone_s]; exact g) (by have := hW.size; omega) (by rw [Bk.lone_v, Bk.lone_s]; exact hcs.kept fun i _ hi => hW.block i (by omega)) (by rw [Bk.lone_s]; omega) (by rw [Bk.lone_s]; exact f5) (by rw [Bk.lone_s]; exact f6)).mono ?_
    rw [Bk.lone_s]
    rintro e w' ⟨v', he, hc, hb⟩
    rw [Bk.lone_put] at he
    exact step_list hv he hc hb
  · exact absurd g hst
theorem rel_card (h : Rel ps i lo hi w b) (ha0 : 0 ≤ A) (ha1 : A < 256) (hb0 : 0 ≤ B) (hi5 : i < 50) (hk : K.tmod 16 = 8) : Calls Try.prog 10 #[.agg b.arr, .agg (Tw.arr ps), .agg #[.int .u8 K, .int .u8 A, .int .u8 B]] w (RelPost ps (i + 1) lo hi w) := by
  obtain ⟨p0, hp1, hp2, hp3, hsta⟩ := h.p
  obtain ⟨hl1, hl⟩ := h.len hi5
  obtain ⟨f1, f2, f3, f4, f5, f6⟩ := h.fits hi5
  have h123 := hsta.ok.st
  have e1 : b.a.st = b.s.st := by rw [h.a]; rfl
  by_cases hst : b.s.st = 3
  · refine rel_do (x := 8) (A' := b.a) (S' := b.s) (T' := b.td) h ha0 ha1 hb0 hi5 (.card hk (fun W hW => (acard_no (by unfold Av.live; rw [e1, hst]; rfl)).mono (Refused.ans (by decide))) (by decide)) (fun _ b0 c0 hc0 hcs vp W hv hW _ => ?_) (fun g => absurd g (by decide))
    exact (step_card_no (b := Bk.lone b.td vp b.s b.vs) (i := 0) (by omega) (Bk.lone_one hv h.vs) (by rw [Bk.lone_s]; exact hst)).mono fun e w' hb => step_no (Bk.lone_one hv h.vs) (by decide) hb
  have hlive : b.a.live = true := by
    unfold Av.live
    rw [e1]
    rcases h123 with g | g | g
    · rw [g]; rfl
    · rw [g]; rfl
    · exact absurd g hst
  refine rel_do (x := 0) (A' := b.a.each (fun c => Cv.card c)) (S' := { b.s with l := b.s.l.map (fun c => c.card) }) (T' := b.td) h ha0 ha1 hb0 hi5 (.card hk (fun W hW => (acard_yes (m := 2002) hlive (h.late_a hW) (by omega) f1 (by omega) f2 f4).mono News.ans) (by decide)) (fun _ b0 c0 hc0 hcs vp W hv hW _ => ?_) (fun _ => by rw [h.a]; rw [← hsta.ok.carded.2]; exact Good.of h hp1 hp3 hsta.carded)
  rcases h123 with g | g | g
  · refine (step_card_one (b := Bk.lone b.td vp b.s b.vs) (i := 0) (b0 := b0) (c0 := c0) (by omega) (Bk.lone_one hv h.vs) (by rw [Bk.lone_s]; exact g) (by have := hW.size; omega) (by rw [Bk.lone_v, Bk.lone_s]; exact hcs.kept fun i _ hi => hW.block i (by omega)) (by rw [Bk.lone_s]; omega) (by rw [Bk.lone_s]; exact f5) (by rw [Bk.lone_s]; exact f6)).mono ?_
    rw [Bk.lone_s]
    rintro e w' ⟨v', he, hc, hb⟩
    rw [Bk.lone_put] at he
    exact step_list hv he hc hb
  · refine (step_card_two (b := Bk.lone b.td vp b.s b.vs) (i := 0) (b0 := b0) (c0 := c0) (by omega) (Bk.lone_one hv h.vs) (by rw [Bk.lone_s]; exact g) (by have := hW.size; omega) (by rw [Bk.lone_v, Bk.lone_s]; exact hcs.kept fun i _ hi => hW.block i (by omega)) (by rw [Bk.lone_s]; omega) (by rw [Bk.lone_s]; exact f5) (by rw [Bk.lone_s]; exact f6)).mono ?_
    rw [Bk.lone_s]
    rintro e w' ⟨v', he, hc, hb⟩
    rw [Bk.lone_put] at he
    exact step_list hv he hc hb
  · exact absurd g hst
theorem rel_pass (hps : ∀ k, k < 2 → (ps k).Ok) (h : Rel ps i lo hi w b) (ha0 : 0 ≤ A) (ha1 : A < 256) (hb0 : 0 ≤ B) (hi5 : i < 50) (hk : decide (K.tmod 16 < 5) = true) : Calls Try.prog 10 #[.agg b.arr, .agg (Tw.arr ps), .agg #[.int .u8 K, .int .u8 A, .int .u8 B]] w (RelPost ps (i + 1) lo hi w) := by
  obtain ⟨p0, hp1, hp2, hp3, hsta⟩ := h.p
  have htd := h.td
  obtain ⟨N, hN⟩ : ∃ N, 1 + A % 40 = N := ⟨_, rfl⟩
  have hNb : 1 ≤ N ∧ N ≤ 40 := by omega
  obtain ⟨s', D⟩ := hsta.day (y' := b.td + N) (hps p0 hp1) (by omega) (by omega) (by omega) (by omega) (by omega) (by omega)
  have hs' : Sta (((i : Int) + 2) * 1100000000) (40 * (i : Int) + 41) (ps p0) (b.td + N) s' := D.sta.more (by omega) (by omega)
  refine rel_do (x := 0) (A' := s'.tell) (S' := s') (T' := b.td + N) h ha0 ha1 hb0 hi5 (.pass N p0 hk hN hp1 hp2 (by rw [IntKind.wrap_i64]; omega) (fun W hW => ?_) (by decide)) (fun _ b0 c0 hc0 hcs vp W hv hW hpls => ?_) (fun _ => ⟨rfl, ⟨p0, hp1, by rw [D.pl, hp3], hs'⟩, by omega⟩)
  · have := D.calls W b.va (by have := h.late_a hW; rw [h.a] at this; exact this)
    rw [h.a]
    exact this.mono News.ans
  · have hst := hsta.ok.st
    have off : ∀ k, k ≠ 0 → (Bk.lone b.td vp b.s b.vs).s k = Sv.zero ∧ (Bk.lone b.td vp b.s b.vs).v k = .slice none 0 0 := fun k hk => ⟨if_neg hk, if_neg hk⟩
    refine (step_pass (b := Bk.lone b.td vp b.s b.vs) (ps := [ps 0, ps 1]) (n := N) (D := fun k => if k = 0 then s' else Sv.zero) (b0 := fun _ => b0) (c0 := fun _ => c0) (Bk.lone_one hv h.vs) hpls (fun k _ => by have := hW.size; omega) (fun k hk => ?_) (by show 0 ≤ b.td + N ∧ b.td + N ≤ 3652058; omega) (fun k hk h0 => ?_) (fun k hk h0 => ?_)).mono ?_
    · by_cases e : k = 0
      · subst e; rw [Bk.lone_s, Bk.lone_v]; exact hcs.kept fun i _ hi => hW.block i (by omega)
      · rw [(off k e).1, (off k e).2]; exact Cys.nil
    · by_cases e : k = 0
      · subst e; rw [Bk.lone_s] at h0; omega
      · rw [(off k e).1]; exact if_neg e
    · by_cases e : k = 0
      · subst e
        rw [Bk.lone_s]
        exact D.comes _ p0 hp3 (okList hp1)
      · rw [(off k e).1] at h0; exact absurd rfl h0
    · rintro e w' ⟨vv, he, hc, hb⟩
      refine ⟨_, he, ⟨hv, fun k hk => ?_⟩, fun _ => ⟨?_, rfl, ?_⟩, hb⟩
      · show (if k < 32 then vv k else _).oneCell' = true
        rw [if_pos hk]
        exact (hc k hk).elim Cys.one Cys.one
      · show (if 0 < 32 then (if 0 = 0 then s' else Sv.zero) else (Bk.lone b.td vp b.s b.vs).s 0) = s'
        rw [if_pos (by omega), if_pos rfl]
      · have g := hc 0 (by omega)
        rw [if_pos rfl] at g
        show Cys w' b0 c0 (if 0 < 32 then vv 0 else (Bk.lone b.td vp b.s b.vs).v 0) s'.l ∨ Cys w' W.heap.size w'.heap.size (if 0 < 32 then vv 0 else (Bk.lone b.td vp b.s b.vs).v 0) s'.l
        rw [if_pos (by omega)]
        exact g
theorem rel_change (hps : ∀ k, k < 2 → (ps k).Ok ∧ (ps k).e ≤ 12) (h : Rel ps i lo hi w b) (ha0 : 0 ≤ A) (ha1 : A < 256) (hb0 : 0 ≤ B) (hi5 : i < 50) (hk : K.tmod 16 = 9 ∧ (A % 4 == 0) = false ∨ K.tmod 16 = 10) : Calls Try.prog 10 #[.agg b.arr, .agg (Tw.arr ps), .agg #[.int .u8 K, .int .u8 A, .int .u8 B]] w (RelPost ps (i + 1) lo hi w) := by
  obtain ⟨p0, hp1, hp2, hp3, hsta⟩ := h.p
  have htd := h.td
  obtain ⟨hl1, hl⟩ := h.len hi5
  obtain ⟨f1, f2, f3, f4, f5, f6⟩ := h.fits hi5
  obtain ⟨n0, hn⟩ : ∃ n0 : Nat, B % 2 = (n0 : Int) := ⟨(B % 2).toNat, by omega⟩
  have hn2 : n0 < 2 := by omega
  have e1 : b.a.st = b.s.st := by rw [h.a]; rfl
  have e2 : b.a.an = b.s.an := by rw [h.a]; rfl
  have e3 : b.a.pl = b.s.pl := by rw [h.a]; rfl
  have e4 : b.a.ix = b.s.ix := by rw [h.a]; rfl
  have e5 : b.a.cr = b.s.cr := by rw [h.a]; rfl
  obtain ⟨hP, hP12⟩ := hps p0 hp1
  obtain ⟨hQ, _⟩ := hps n0 hn2
  obtain ⟨k, d, c, hAt, hcn, hix, hic, hcL⟩ := hsta.ex
  have hpl1 : ∀ (vp : Value) (W : World), Pls W W.heap.size vp [ps 0, ps 1] → ∃ A c, vp = .slice A 2 c := fun vp W hpls => by
    obtain ⟨A, c, hv, _⟩ := hpls
    exact ⟨A, c, hv⟩
  by_cases hst : b.s.st = 1
  · by_cases hne : n0 = p0
    · refine rel_do (x := 8) (A' := b.a) (S' := b.s) (T' := b.td) h ha0 ha1 hb0 hi5 (.change n0 p0 hk hn hn2 hp1 hp2 (fun W hW => (change_same (k := k) (d := d) _ _ (by rw [e1]; exact hst) (by rw [e3, hp3, hne]) (by rw [e2]; exact hAt) hP.u hP.e (by omega)).mono (Refused.ans (by decide))) (by decide)) (fun _ b0 c0 hc0 hcs vp W hv hW hpls => ?_) (fun g => absurd g (by decide))
      exact (step_change_same (b := Bk.lone b.td vp b.s b.vs) (i := 0) (np := 2) (by omega) (Bk.lone_one hv h.vs) (hpl1 vp W hpls) (by omega) (by rw [Bk.lone_s]; exact hst) (by rw [Bk.lone_s, hp3, hne])).mono fun e w' hb => step_no (Bk.lone_one hv h.vs) (by decide) hb
    have hnp : (n0 : Int) ≠ b.s.pl := by omega
    have hixc := hix (by omega)
    by_cases hay : b.td < b.s.an
    · have hix0 : b.s.ix = 0 := by
        have := (Cal.Cnt.before (u := (ps p0).u) (e := (ps p0).e) hAt hay).one hcn
        omega
      refine rel_do (x := 0) (A' := b.a.changed n0 b.a.an b.a.cr) (S' := { b.s with pl := (n0 : Int), ix := 0 }) (T' := b.td) h ha0 ha1 hb0 hi5 (.change n0 p0 hk hn hn2 hp1 hp2 (fun W hW => (change_free (x1 := 0) (x2 := 0) (x3 := 2) _ _ (by rw [e1]; exact hst) (by rw [e3]; exact hnp) (h.late_a hW) (by omega) (fun W => by rw [e2]; exact span_before _ k d _ _ _ W hAt hP.u.1 hP.u.2 hP.e.1 hP.e.2 (by omega) (by omega) hay) (by decide) (.inl (by decide))).mono News.ans) (by decide)) (fun _ b0 c0 hc0 hcs vp W hv hW hpls => ?_) (fun _ => ⟨by rw [h.a]; rfl, ⟨n0, hn2, rfl, (hsta.change_free (q := ps n0) (n0 : Int) hay (by omega)).more (by omega) (by omega)⟩, by omega⟩)
      refine (step_change_free (b := Bk.lone b.td vp b.s b.vs) (i := 0) (kp := p0) (kq := n0) (by omega) (Bk.lone_one hv h.vs) (by rw [Bk.lone_s]; exact hst) (by rw [Bk.lone_s]; exact hp3) (fun g => hne g.symm) hpls (okList hp1) (okList hn2) (by rw [Bk.lone_s]; exact hay)).mono ?_
      rw [Bk.lone_s, Bk.lone_v, Bk.lone_put]
      exact fun e w' hb => step_old hv h.vs hW hc0 hcs hb
    · have hcn2 : Cal.Cnt (ps p0).u b.s.an k d (ps p0).e b.td b.s.ix := by rw [hixc]; exact hcn
      have hok := Cal.okN_near hAt ⟨hP.e.1, hP12⟩ hcn2 (by omega) (by omega)
      have hpos := hcn2.pos hAt (by omega)
      refine rel_do (x := 0) (A' := b.a.changed n0 (Cal.vN (ps p0).u b.a.an k d (ps p0).e b.s.ix) (b.a.cr + (ps p0).a * (Cal.vN (ps p0).u b.a.an k d (ps p0).e b.s.ix - b.td) / (Cal.vN (ps p0).u b.a.an k d (ps p0).e b.s.ix - Cal.vN (ps p0).u b.a.an k d (ps p0).e (b.s.ix - 1)) - (ps n0).a * (Cal.vN (ps p0).u b.a.an k d (ps p0).e b.s.ix - b.td) / (Cal.vN (ps p0).u b.a.an k d (ps p0).e b.s.ix - Cal.vN (ps p0).u b.a.an k d (ps p0).e (b.s.ix - 1)))) (S' := { b.s with cr := b.s.cr + ((ps p0).a * (Cal.vN (ps p0).u b.s.an k d (ps p0).e b.s.ix - b.td) / (Cal.vN (ps p0).u b.s.an k d (ps p0).e b.s.ix - Cal.vN (ps p0).u b.s.an k d (ps p0).e (b.s.ix - 1)) - (ps n0).a * (Cal.vN (ps p0).u b.s.an k d (ps p0).e b.s.ix - b.td) / (Cal.vN (ps p0).u b.s.an k d (ps p0).e b.s.ix - Cal.vN (ps p0).u b.s.an k d (ps p0).e (b.s.ix - 1))), an := Cal.vN (ps p0).u b.s.an k d (ps p0).e b.s.ix, pl := (n0 : Int), ix := 0 }) (T' := b.td) h ha0 ha1 hb0 hi5 (.change n0 p0 hk hn hn2 hp1 hp2 (fun W hW => (change_go (k := k) (d := d) (c := b.s.ix) _ _ (by rw [e1]; exact hst) (by rw [e3]; exact hnp) (by rw [e4]; omega) (h.late_a hW) (by omega) (by rw [e2]; exact hAt) hP.u hP.e (by omega) (by rw [e2]; omega) (by rw [e2]; exact hcn2) (by rw [e2]; exact hok) (by have := hP.a; omega) (by have := hQ.a; omega) (by rw [e5]; exact f5)).mono News.ans) (by decide)) (fun _ b0 c0 hc0 hcs vp W hv hW hpls => ?_) (fun _ => ⟨?_, ⟨n0, hn2, rfl, (hsta.change_go hP hQ (n0 : Int) hst (by omega) (by omega) hAt hcn2 hok).more (by omega) (by omega)⟩, by omega⟩)
      · refine (step_change_go (b := Bk.lone b.td vp b.s b.vs) (i := 0) (kp := p0) (kq := n0) (k := k) (d := d) (by omega) (Bk.lone_one hv h.vs) (by rw [Bk.lone_s]; exact hst) (by rw [Bk.lone_s]; exact hp3) (fun g => hne g.symm) hpls (okList hp1) (okList hn2) (by rw [Bk.lone_s]; exact hAt) hP.u hP.e (by rw [Bk.lone_s]; exact (by omega : b.s.an ≤ b.td)) (by rw [Bk.lone_s]; exact hcn2) (by rw [Bk.lone_s]; exact hok) (by rw [Bk.lone_s]; omega) (by have := hP.a; omega) (by have := hQ.a; omega) (by rw [Bk.lone_s]; omega)).mono ?_
        rw [Bk.lone_s, Bk.lone_v, Bk.lone_put]
        exact fun e w' hb => step_old hv h.vs hW hc0 hcs hb
      · rw [e2, e5, h.a]
        unfold Av.changed Sv.tell
        dsimp only
        rw [Int.add_sub_assoc]
  · have h23 := hsta.ok.st
    refine rel_do (x := 8) (A' := b.a) (S' := b.s) (T' := b.td) h ha0 ha1 hb0 hi5 (.change n0 p0 hk hn hn2 hp1 hp2 (fun W hW => (change_off (k := k) (d := d) _ _ (by rw [e1]; exact hst) (by rw [e2]; exact hAt) hP.u hP.e (by omega)).mono (Refused.ans (by decide))) (by decide)) (fun _ b0 c0 hc0 hcs vp W hv hW hpls => ?_) (fun g => absurd g (by decide))
    exact (step_change_dead (b := Bk.lone b.td vp b.s b.vs) (i := 0) (np := 2) (by omega) (Bk.lone_one hv h.vs) (hpl1 vp W hpls) (by omega) (by rw [Bk.lone_s]; omega)).mono fun e w' hb => step_no (Bk.lone_one hv h.vs) (by decide) hb
theorem rel_hear (h : Rel ps i lo hi w b) (ha0 : 0 ≤ A) (ha1 : A < 256) (hb0 : 0 ≤ B) (hi5 : i < 50) (hk : decide (K.tmod 16 ≤ 10) = false) : Calls Try.prog 10 #[.agg b.arr, .agg (Tw.arr ps), .agg #[.int .u8 K, .int .u8 A, .int .u8 B]] w (RelPost ps (i + 1) lo hi w) := by
  obtain ⟨p0, hp1, hp2, hp3, hsta⟩ := h.p
  have htd := h.td
  obtain ⟨hl1, hl⟩ := h.len hi5
  obtain ⟨f1, f2, f3, f4, f5, f6⟩ := h.fits hi5
  have hM : ((i : Int) + 1) * 1100000000 ≤ 100000000000 := by omega
  have e1 : b.a.st = b.s.st := by rw [h.a]; rfl
  have e2 : b.a.l = opn b.s.l := by rw [h.a]; rfl
  have e3 := asksOf_len 0 b.a.l
  have hasks : ∀ W, Below w.heap.size w W → Calls Try.prog 30 #[.int .i64 0, .agg (b.a.arr b.va)] W fun e w' => ∃ v', e = .returned v' ∧ w'.ownsRow W.heap.size 59 6 v' (asksOf 0 b.a.l).length (ncs (asksOf 0 b.a.l)) ∧ Below W.heap.size W w' := fun W hW => asks_any 0 (h.late_a hW) (by omega)
  obtain ⟨l, hlq⟩ : ∃ l, asksOf 0 b.a.l = l := ⟨_, rfl⟩
  rw [hlq] at hasks e3
  by_cases hnil : l = []
  · subst hnil
    exact rel_do (x := 77) (A' := b.a) (S' := b.s) (T' := b.td) h ha0 ha1 hb0 hi5 (.idle hk hasks rfl) (fun g => absurd rfl g) (fun g => absurd g (by decide))
  have hlpos : 0 < l.length := List.length_pos_iff.2 hnil
  obtain ⟨q, hq⟩ : ∃ q : Nat, A % (l.length : Int) = (q : Int) := ⟨(A % (l.length : Int)).toNat, by have := Int.emod_nonneg A (show (l.length : Int) ≠ 0 by omega); omega⟩
  have hql : q < l.length := by have := Int.emod_lt_of_pos A (show (0 : Int) < l.length by omega); omega
  obtain ⟨v0, hv0⟩ : ∃ v0 : Nat, B % 4 = (v0 : Int) := ⟨(B % 4).toNat, by omega⟩
  obtain ⟨V, hV⟩ : ∃ V : Int, V = if v0 < 2 then 1 else (v0 : Int) := ⟨_, rfl⟩
  have hVne : V ≠ 0 := by rw [hV]; split <;> omega
  obtain ⟨nv, hnv⟩ : ∃ nv, l[q]? = some nv := ⟨_, List.getElem?_eq_getElem hql⟩
  obtain ⟨m, z, hm, hzp, hask, hs0, hc0, hv00, hheard⟩ := hsta.ok.asked (i := 0) (q := q) (nv := nv) (by rw [← e2, hlq]; exact hnv)
  have hH := hheard V hVne
  obtain ⟨NK, NS, NC, NT, NM, NV⟩ := nv
  dsimp only at hs0 hc0 hv00 hH
  subst hs0 hc0 hv00
  clear hheard hask
  have hzok := hsta.ok.cs z (List.mem_of_getElem? hm)
  have hzn := hzok.next V b.td (b.s.st == 3)
  obtain ⟨hzu, hznn⟩ := next_same z V b.td (b.s.st == 3)
  obtain ⟨hsok, j, hj1, hj2, htell⟩ := hsta.ok.heard hm hzp hzn hzu hznn
  have hsta' := hsta.heard hm hzp hzn hzu hznn
  have hz0 := hzok.c1
  have hzub := f6 z (List.mem_of_getElem? hm)
  obtain ⟨zn, zd, zp, za, zu, zt, zx, zg⟩ := z
  have hherr : Cv.herr 0 ⟨zn, zd, zp, za, zu, zt, zx, zg⟩ ⟨NK, 0, (m : Int), NT, NM, V⟩ = 0 := if_pos hH
  have hhear : Cv.hear 0 ⟨zn, zd, zp, za, zu, zt, zx, zg⟩ ⟨NK, 0, (m : Int), NT, NM, V⟩ b.td (b.a.st == 3) = Cv.next ⟨zn, zd, zp, za, zu, zt, zx, zg⟩ V b.td (b.s.st == 3) := by rw [e1]; exact if_pos hH
  refine rel_do (x := 0) (A' := Av.settled { b.a with l := b.a.l.set j (Cv.next ⟨zn, zd, zp, za, zu, zt, zx, zg⟩ V b.td (b.s.st == 3)) }) (S' := { b.s with cr := Cy.gain b.s.cr ⟨zn, zd, zp, za, zu, zt, zx, zg⟩ (Cv.next ⟨zn, zd, zp, za, zu, zt, zx, zg⟩ V b.td (b.s.st == 3)), l := b.s.l.set m (Cv.next ⟨zn, zd, zp, za, zu, zt, zx, zg⟩ V b.td (b.s.st == 3)) }) (T' := b.td) h ha0 ha1 hb0 hi5 (.hear l q v0 NK m NT NM V hk hasks hq hnv hv0 hV (by omega) (fun W hW => ?_) (by decide)) (fun _ b0 c0 hc0 hcs vp W hv hW hpls => ?_) (fun _ => ?_)
  · refine (hear_some (j := j) (m := 2002) 0 b.td zn zd zp za zu zt zx zg NK 0 m NT NM V (h.late_a hW) (by omega) (by rw [e2]; exact hj2) (by rw [e2]; exact hj1) (by omega) (by omega) (Lib.hid f1) (by omega) f2 (by rw [hhear]; exact hzn.fit hM)).mono ?_
    rintro e w' ⟨g1, _⟩
    rw [hhear] at g1
    exact News.ans _ _ (g1 hherr)
  · refine (step_hear (b := Bk.lone b.td vp b.s b.vs) (i := 0) (m := m) NK NT NM V (by omega) (Bk.lone_one hv h.vs) (by rw [Bk.lone_v, Bk.lone_s]; exact h.late_s hW) (by rw [Bk.lone_s]; omega) (by rw [Bk.lone_s]; exact hsta.ok.num) (by rw [Bk.lone_s]; exact hm) hzp hH hz0 (by show 0 ≤ b.td ∧ b.td ≤ 3652058; omega) (by rw [Bk.lone_s]; exact f5) hzub.1).mono ?_
    rw [Bk.lone_s]
    rintro e w' ⟨v', he, hc, hb⟩
    rw [Bk.lone_put] at he
    exact step_list hv he (.inr hc) hb
  · have := Good.of (S' := { b.s with cr := Cy.gain b.s.cr ⟨zn, zd, zp, za, zu, zt, zx, zg⟩ (Cv.next ⟨zn, zd, zp, za, zu, zt, zx, zg⟩ V b.td (b.s.st == 3)), l := b.s.l.set m (Cv.next ⟨zn, zd, zp, za, zu, zt, zx, zg⟩ V b.td (b.s.st == 3)) }) h hp1 hp3 hsta'
    rw [htell, ← h.a, ← e2] at this
    exact this
end
/-- An act, whatever it is. -/
theorem rel_any {ps : Nat → Pv} (hps : ∀ k, k < 2 → (ps k).Ok ∧ (ps k).e ≤ 12) {i lo hi : Nat} {w : World} {b : Wd} {K A B : Int} (h : Rel ps i lo hi w b) (hk0 : 0 ≤ K) (ha0 : 0 ≤ A) (ha1 : A < 256) (hb0 : 0 ≤ B) (hi5 : i < 50) : Calls Try.prog 10 #[.agg b.arr, .agg (Tw.arr ps), .agg #[.int .u8 K, .int .u8 A, .int .u8 B]] w (RelPost ps (i + 1) lo hi w) := by
  have hm := Int.tmod_eq_emod_of_nonneg (b := 16) hk0
  by_cases c1 : K.tmod 16 < 5
  · exact rel_pass (fun k hk => (hps k hk).1) h ha0 ha1 hb0 hi5 (by simpa using c1)
  by_cases c5 : K.tmod 16 = 5
  · exact rel_pause h ha0 ha1 hb0 hi5 c5
  by_cases c6 : K.tmod 16 = 6
  · exact rel_resume h ha0 ha1 hb0 hi5 c6
  by_cases c7 : K.tmod 16 = 7
  · exact rel_skip h ha0 ha1 hb0 hi5 c7
  by_cases c8 : K.tmod 16 = 8
  · exact rel_card h ha0 ha1 hb0 hi5 c8
  by_cases c9 : K.tmod 16 = 9
  · cases e : (A % 4 == 0)
    · exact rel_change hps h ha0 ha1 hb0 hi5 (.inl ⟨c9, e⟩)
    · exact rel_cancel h ha0 ha1 hb0 hi5 c9 e
  by_cases c10 : K.tmod 16 = 10
  · exact rel_change hps h ha0 ha1 hb0 hi5 (.inr c10)
  · exact rel_hear h ha0 ha1 hb0 hi5 (by simp; omega)
end Go.Proofs.Ytnbfkdcpghkglaa
