/-
  One act of paybookref12's that comes in. No conditions.
-/
import Derived.Lib.SmallJoins
import Derived.ChangeMaps5
import Derived.Test.YtkdajjbhmmgbkaaGreatBk05
import Derived.Test.YtkdajjbhmmgbkaaGreatBk48
import Derived.Test.YtkdajjbhmmgbkaaGreatBk54
set_option linter.unusedSimpArgs false
set_option linter.unusedVariables false
namespace Go.Proofs.YtkdajjbhmmgbkaaGreat
set_option maxRecDepth 20000
open Go.ChangeShapes Go.WideShapes Go.RowKit

theorem open_act4 {H : Type} {enc : TypeId × Value → H} {W : World} {base : Nat} {v : Value} {d : DataW H} {ps : List MemPlace}
    (hval : Value.okWide Tryz.prog W .any base 51 v) (hd : DataW.Trod enc Tryz.prog W 0 (fun _ => true) true 51 v d ps) :
    ∃ (k a b c : Int), v = .agg #[.int .u8 k, .int .u8 a, .int .u8 b, .int .u8 c] ∧ Ac4.Wf ⟨k, a, b, c⟩ := by
  obtain ⟨cs, rfl, hsz⟩ := okWide_struct Tryz.underlying51 hval
  obtain ⟨fuel, hf⟩ := hd
  have h4 : Tryz.prog.cellsOf 51 = 4 := by kernel_rfl
  obtain ⟨p, hp, hw⟩ := cells_Ac4 (by rw [← Array.length_toList] at hsz; simpa [Value.cells, h4] using hsz) hf
  refine ⟨p.k, p.a, p.b, p.c, ?_, hw⟩
  obtain ⟨cs⟩ := cs
  simp [Value.cells] at hp
  rw [hp]; rfl
end Go.Proofs.YtkdajjbhmmgbkaaGreat
/-
  'paybooklaw14.BookKeeps' returns true for every input, and each argument reads afterwards as it did. No conditions.
-/
namespace Go.Proofs.YtkdajjbhmmgbkaaGreat.bookKeeps
open Go.ChangeShapes Go.WideShapes Go.ChangeAt Go.RowKit

theorem laidOut : laidOutB Tryz.prog = true := by kernel_rfl
theorem own : ownKnob Tryz.prog.godebug = none := by kernel_rfl

set_option maxRecDepth 100000 in
theorem lifted (os : Os) (started : os.Started) (H : Type) (enc : TypeId × Value → H) :
    ReturnsInHanded {} Tryz.checked os 6 .any (Rows.bookKeepsSpec.pre6 enc Tryz.prog Tryz.f6 Rows.bookKeepsRow.domain false) (Rows.bookKeepsSpec.post enc Tryz.prog Tryz.f6 false true false false) := by
  refine returnsInHanded_of_change (C := Tryz.checked) own started (by kernel_rfl) Tryz.func6
    (ChangeSpec.witness6 (enc := enc) (C := Tryz.checked) false ⟨#[], #[.int .u16 0, .slice none 0 0, .agg #[.int .u8 0, .int .u8 0, .int .u8 0, .int .u8 0], .agg #[.int .u8 0, .int .u8 0, .int .u8 0, .int .u8 0]], []⟩ 8 (by kernel_rfl) (by kernel_rfl) (by kernel_rfl) (by kernel_rfl)) ?_
  intro W base args ds gs before hval0 hW hcnd _
  have hval : ∀ (j : Nat) t v, Tryz.f6.params[j]? = some t → args[j]? = some v → Value.okWide Tryz.prog W .any base t v := hval0
  have hW' := hW
  obtain ⟨p, q, hA0, hV, rfl, hfz, hnd⟩ := hW
  have hA : DataW.TrodAll enc Tryz.prog W 0 (fun _ => true) true Tryz.f6.params.toList args.toList ds p := hA0
  rw [Tryz.params6] at hA hval
  obtain ⟨v0, vs0, d0, ds0, p0, q0, hargs, rfl, rfl, h0, r0⟩ := trodAll_cons hA
  obtain ⟨v1, vs1, d1, ds1, p1, q1, rfl, rfl, rfl, h1, r1⟩ := trodAll_cons r0
  obtain ⟨v2, vs2, d2, ds2, p2, q2, rfl, rfl, rfl, h2, r2⟩ := trodAll_cons r1
  obtain ⟨v3, vs3, d3, ds3, p3, q3, rfl, rfl, rfl, h3, r3⟩ := trodAll_cons r2
  obtain ⟨rfl, rfl, rfl⟩ := trodAll_nil r3
  obtain rfl : args = #[v0, v1, v2, v3] := by cases args; simp_all
  obtain ⟨rfl, rfl⟩ := trodVars_none hV
  obtain ⟨a0, rfl, rfl, rfl, w0⟩ := open_int Tryz.underlying62 (hval 0 62 v0 rfl rfl) h0
  obtain ⟨A1, c1, l1, rfl, _, _, r1_, w1⟩ := open_Ac4 (hval 1 23 v1 rfl rfl) h1
  obtain ⟨k2, a2, b2, c2, rfl, w2⟩ := open_act4 (hval 2 51 v2 rfl rfl) h2
  obtain ⟨k3, a3, b3, c3, rfl, w3⟩ := open_act4 (hval 3 51 v3 rfl rfl) h3
  clear hA0 hval0
  simp only [List.append_nil] at hW'
  refine (bookKeeps_walk (w := W) a0 w0 A1 c1 l1 r1_ w1 k2 a2 b2 c2 w2 k3 a3 b3 c3 w3).mono fun e W' ⟨he, hb⟩ => ?_
  subst he
  exact ⟨_, rfl, post_law2 hW' (fun _ _ _ => (trodAll_cons_mk (shut_bool Tryz.underlying4 _) trodAll_mk0)) (trodAll_cons_mk (shut_int Tryz.underlying62 w0) (trodAll_cons_mk (Below.trod laidOut (by kernel_rfl) (of_decide_eq_true (by kernel_rfl)) h1 hb (fun x hx => hW'.lt x (by simp [hx]))) (trodAll_cons_mk (Below.trod laidOut (by kernel_rfl) (of_decide_eq_true (by kernel_rfl)) h2 hb (fun x hx => hW'.lt x (by simp [hx]))) (trodAll_cons_mk (Below.trod laidOut (by kernel_rfl) (of_decide_eq_true (by kernel_rfl)) h3 hb (fun x hx => hW'.lt x (by simp [hx]))) trodAll_mk0)))) (fun _ => rfl) (by simp) hb⟩

theorem proved : Rows.BookKeepsSaid :=
  OpenClaim.holds_of_wide 6 Tryz.f6 rfl rfl rfl rfl rfl rfl rfl ⟨rfl, rfl, rfl, rfl, rfl⟩ rfl rfl rfl rfl rfl (by kernel_rfl) Tryz.func6 (by kernel_rfl)
    (of_decide_eq_true (by kernel_rfl)) (by unfold Func.isWrapper; first | (rw [if_pos (by decide +kernel)]; kernel_rfl) | (rw [if_neg (by decide +kernel)]; exact ⟨rfl, rfl⟩))
    (fun os started H enc _ => lifted os started H enc)
#print axioms proved
end Go.Proofs.YtkdajjbhmmgbkaaGreat.bookKeeps
