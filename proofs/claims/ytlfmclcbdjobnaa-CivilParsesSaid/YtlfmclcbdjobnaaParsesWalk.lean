/-
  The walk of the law CivilParses: it returns true, whatever the input, and makes new blocks alone. No conditions but that a text fits memory.
-/
import Derived.Test.YtlfmclcbdjobnaaCalV
import Derived.Test.YtlfmclcbdjobnaaRefOf
import Derived.Test.YtlfmclcbdjobnaaRRight
import Derived.Test.YtlfmclcbdjobnaaText
import Derived.Test.YtlfmclcbdjobnaaParse
import Derived.Laws.IdiomStrings
import Derived.Lib.ConvBytes
import Derived.Deep.RegionHeld3
import Derived.Laws.AppendOwn
namespace Go.Proofs.Ytlfmclcbdjobnaa
open Go.ChangeShapes Go.WideShapes Go.ChangeAt Go.RowKit

/-- The conversion's new row: below it all is as it was; its cells are the text's bytes, and may be written. -/
theorem bytes_below (w : World) (e : TypeId) (s : ByteArray) : Below w.heap.size w (Lib.bytesWorld w e s) :=
  ⟨rfl, rfl, rfl, by rw [Lib.bytesWorld_size]; omega, fun k hk => Lib.bytesWorld_at_old w e s k hk⟩

theorem bytes_free (w : World) (e : TypeId) (s : ByteArray) (j : Nat) (hj : j < s.size) : (Lib.bytesWorld w e s).frozen? ⟨w.heap.size, j, none⟩ = false := by
  unfold World.frozen?
  rw [Lib.bytesWorld_at_new]
  have : s.size ≤ (Lib.bytesCells w e s).size := by
    unfold Lib.bytesCells
    rw [Array.size_append, Array.size_map]
    exact Nat.le_add_right _ _
  simp only [Bool.and_eq_false_iff, decide_eq_false_iff_not]
  left; omega

/-- The text that the bytes of a row make. -/
theorem conv_row (w : World) (B cap : Nat) (l : List UInt8) (hc : ∀ j, j < l.length → w.cell? ⟨B, j, none⟩ = some (.int .u8 ((l.getD j 0).toNat : Int))) :
    (convert 43 9 (.slice (some ⟨B, 0, none⟩) l.length cap)).run Try.prog w = .ok (.string ⟨l.toArray⟩) w := by
  refine run_convert_bytes_back w _ _ 5 ⟨B, 0, none⟩ cap l Try.underlying43 Try.underlying5 Try.underlying9 (fun j hj => ?_)
  have h := hc j hj
  have ha : (⟨B, 0, none⟩ : Addr).add j = ⟨B, j, none⟩ := by
    unfold Addr.add
    by_cases c : j = 0
    · rw [if_pos c, c]
    · rw [if_neg c]; simp
  rw [ha, h]
  simp [List.getD_eq_getElem?_getD, List.getElem?_eq_getElem hj]

/-- The row of bytes gives the two texts, whatever new blocks there are. -/
theorem texts_of_row (w : World) (B cap : Nat) (l : List UInt8) (hl : l.length = 10) (hc : ∀ j, j < 10 → w.cell? ⟨B, j, none⟩ = some (.int .u8 ((l.getD j 0).toNat : Int))) :
    ∃ x1 x3 : ByteArray, x1.size = 10 ∧ x3.size = 9 ∧ ∀ w' : World, (∀ j, w'.cell? ⟨B, j, none⟩ = w.cell? ⟨B, j, none⟩) →
      (convert 43 9 (.slice (some ⟨B, 0, none⟩) 10 cap)).run Try.prog w' = .ok (.string x1) w' ∧ (convert 43 9 (.slice (some ⟨B, 0, none⟩) 9 cap)).run Try.prog w' = .ok (.string x3) w' := by
  have h9 : (l.take 9).length = 9 := by rw [List.length_take]; omega
  refine ⟨⟨l.toArray⟩, ⟨(l.take 9).toArray⟩, by show l.toArray.size = 10; simpa using hl, by show (l.take 9).toArray.size = 9; simpa using h9, fun w' hw => ⟨?_, ?_⟩⟩
  · have := conv_row w' B cap l (fun j hj => by rw [hw]; exact hc j (by omega))
    rwa [hl] at this
  · have := conv_row w' B cap (l.take 9) (fun j hj => by
      rw [hw, hc j (by omega)]
      have : j < 9 := by omega
      simp [List.getD_eq_getElem?_getD, this])
    rwa [h9] at this

set_option maxHeartbeats 3200000 in
theorem civilParses_long (s : ByteArray) (a1 a2 a3 : Int) (w : World) (hs : s.size ≤ 9223372036854775807) (h : 40 < s.size) :
    Calls Try.prog 8 #[.string s, .int .u32 a1, .int .u8 a2, .int .u8 a3] w fun e w' => e = .returned (.bool true) ∧ Below w.heap.size w w' := by
  have h40 : 40 < (s.size : Int) := by omega
  go_enter Try.func8, Try.ntmps8
  go_wp2_with fail
  refine (awake_any _).mono ?_
  rintro e w1 ⟨rfl, hb1⟩
  go_wp2_with fail
  refine (awake_any _).mono ?_
  rintro e w2 ⟨rfl, hb2⟩
  go_wp2
  go_ret
  exact ⟨rfl, hb1.trans (hb2.mono hb1.size)⟩

/-- The shape so far. -/
def shTo (x : ByteArray) (b : Bool) (j : Nat) : Bool := b && Cal.okTo x j
theorem shTo_succ (x : ByteArray) (b : Bool) (j : Nat) : shTo x b (j + 1) = (shTo x b j && Cal.okAt x j) := by
  unfold shTo; rw [Cal.okTo, Bool.and_assoc]
theorem shTo_false {x : ByteArray} {b : Bool} {j : Nat} (h : shTo x b j = false) : shTo x b (j + 1) = false := by rw [shTo_succ, h]; rfl
theorem shTo_true {x : ByteArray} {b : Bool} {j : Nat} (h : shTo x b j = true) : shTo x b (j + 1) = Cal.okAt x j := by rw [shTo_succ, h]; rfl

theorem not_dash {x : ByteArray} {j : Nat} (hd : j = 4 ∨ j = 7) (h : ¬ Cal.bt x j = 45) : Cal.okAt x j = false := by
  unfold Cal.okAt; rw [if_pos hd]; exact decide_eq_false h
theorem not_digit {x : ByteArray} {j : Nat} (hd : ¬ (j = 4 ∨ j = 7)) (h : ¬ (48 ≤ Cal.bt x j ∧ Cal.bt x j ≤ 57)) : Cal.okAt x j = false := by
  unfold Cal.okAt; rw [if_neg hd]; exact decide_eq_false h
theorem shape_end {x : ByteArray} {b : Bool} {j : Nat} (hb : ((x.size : Int) == 10) = b) (j1 : j ≤ 10) (j2 : j ≤ x.size) (h : ¬ j < x.size ∨ ¬ j < 10) : shTo x b j = Cal.shape x := by
  unfold shTo Cal.shape
  by_cases c : x.size = 10
  · obtain rfl : j = 10 := by omega
    have : b = true := by rw [← hb, c]; rfl
    rw [this, decide_eq_true c]
  · have : b = false := by rw [← hb, beq_eq_false_iff_ne]; omega
    rw [this, decide_eq_false c, Bool.false_and, Bool.false_and]

/-- What the reading of any text gives. -/
theorem parse_some (x : ByteArray) : ∃ Y M D ec : Int, (∀ w : World, Calls Try.prog 24 #[.string x] w fun e w' => e = .returned (.tuple #[.agg #[.int .i64 Y, .int .i64 M, .int .i64 D], .int .i64 ec]) ∧ Below w.heap.size w w') ∧
    (ec = 0 ∧ Cal.shape x = true ∧ Cal.right Y M D = true ∧ Cal.txt Y M D = x ∨ ec = 1 ∧ Cal.shape x = true ∨ ec = 4 ∧ Cal.shape x = false) := by
  cases h : Cal.shape x
  · exact ⟨_, _, _, _, fun w => parse_form x w h, Or.inr (Or.inr ⟨rfl, rfl⟩)⟩
  · cases hr : Cal.right (Cal.year x) (Cal.month x) (Cal.day x)
    · exact ⟨_, _, _, _, fun w => parse_arg x w h hr, Or.inr (Or.inl ⟨rfl, rfl⟩)⟩
    · exact ⟨_, _, _, _, fun w => parse_yes x w h hr, Or.inl ⟨rfl, rfl, hr, Cal.txt_of_shape h⟩⟩

set_option maxRecDepth 100000 in
set_option maxHeartbeats 3200000 in
theorem civilParses_short (s : ByteArray) (a1 a2 a3 y m d : Int) (w : World) (hs : s.size ≤ 40) (u0 : 0 ≤ a1) (u1 : a1 ≤ 4294967295) (v0 : 0 ≤ a2) (v1 : a2 ≤ 255) (c0 : 0 ≤ a3) (c1 : a3 ≤ 255)
    (h : Cal.right y m d = true) (hn : Cal.num y m d = a1 % 3652059) :
    Calls Try.prog 8 #[.string s, .int .u32 a1, .int .u8 a2, .int .u8 a3] w fun e w' => e = .returned (.bool true) ∧ Below w.heap.size w w' := by
  have h40 : ¬ 40 < (s.size : Int) := by omega
  obtain ⟨m1, m2⟩ := Cal.right_month h
  obtain ⟨y1, y2, d1, d2⟩ := Cal.right_true.1 h
  have d3 := (Cal.mon_lo y m).2
  have H := Lib.hid h
  have HN := Lib.hid hn
  clear h hn
  go_enter Try.func8, Try.ntmps8
  go_wp2_with fail
  refine (awake_any _).mono ?_
  rintro e w1 ⟨rfl, h1⟩
  have H1 := Lib.hid h1
  clear h1
  go_wp2_with fail
  refine (rof_yes _ _ _ _ _ H.out HN.out).mono ?_
  rintro e w2 ⟨rfl, h2⟩
  have H2 := Lib.hid (H1.out.trans (h2.mono H1.out.size))
  clear h2
  go_wp2_with fail
  refine (rtext_any _ _ _ _ (by omega) (by omega) (by omega) (by omega) (by omega) (by omega)).mono ?_
  rintro e w3 ⟨rfl, h3⟩
  have H3 := Lib.hid (H2.out.trans (h3.mono H2.out.size))
  clear h3
  have hcv := Lib.run_convert_string_bytes (P := Try.prog) w3 9 43 5 (Cal.txt y m d) Try.underlying9 Try.underlying43 Try.underlying5
  rw [Cal.txt_size] at hcv
  have hcap : 10 ≤ grownCap w3 10 0 5 := grownCap_ge _ _ _ _
  generalize grownCap w3 10 0 5 = cap at hcv hcap
  have W3 := Lib.hid (bytes_below w3 5 (Cal.txt y m d))
  have z3 := Lib.bytesWorld_size w3 5 (Cal.txt y m d)
  have hcell : ∀ j, j < 10 → (Lib.bytesWorld w3 5 (Cal.txt y m d)).cell? ⟨w3.heap.size, j, none⟩ = some (.int .u8 ((Cal.txt y m d).data.toList.getD j 0).toNat) := fun j hj => Lib.bytesWorld_cell w3 5 (Cal.txt y m d) j hj
  have hfree : ∀ j, j < 10 → (Lib.bytesWorld w3 5 (Cal.txt y m d)).frozen? ⟨w3.heap.size, j, none⟩ = false := fun j hj => bytes_free w3 5 (Cal.txt y m d) j hj
  generalize Lib.bytesWorld w3 5 (Cal.txt y m d) = w4 at hcv W3 z3 hcell hfree
  have hi0 : 0 ≤ a2 % 10 := by omega
  have hi1 : a2 % 10 < 10 := by omega
  obtain ⟨i, hi⟩ := Int.eq_ofNat_of_zero_le hi0
  have hi2 : i < 10 := by omega
  have hic := hcell i hi2
  have hif := hfree i hi2
  have HC := Lib.hid hcell
  have HF := Lib.hid hfree
  have Z3 := Lib.hid z3
  have HI := Lib.hid hi
  clear hcell hfree z3
  go_wp2
  have hc5 : ∀ j, j < 10 → (w4.setCell ⟨w3.heap.size, i, none⟩ (.int .u8 a3)).cell? ⟨w3.heap.size, j, none⟩ = some (.int .u8 ((((Cal.txt y m d).data.toList.set i (UInt8.ofNat a3.toNat)).getD j 0).toNat : Int)) := fun j hj => by
    by_cases e : i = j
    · subst e
      rw [World.cell?_setCell_same (h := hic)]
      have hl : i < (Cal.txt y m d).size := by rw [Cal.txt_size]; exact hi2
      simp [List.getD_eq_getElem?_getD, hl]
      omega
    · rw [World.cell?_setCell_other (h := fun q => e (congrArg Addr.off q)), HC.out j hj]
      simp [List.getD_eq_getElem?_getD, e]
  obtain ⟨x1, x3, s1, s3, hx⟩ := texts_of_row _ w3.heap.size cap _ (by rw [List.length_set, Cal.txt_list]; rfl) hc5
  have H5 := Lib.hid ((H3.out.trans (W3.out.mono H3.out.size)).setCell (p := ⟨w3.heap.size, i, none⟩) H3.out.size (.int .u8 a3))
  have Z5 := Lib.hid (show w3.heap.size < (w4.setCell ⟨w3.heap.size, i, none⟩ (.int .u8 a3)).heap.size by rw [World.size_setCell, Z3.out]; omega)
  have HX := Lib.hid hx
  clear hc5 hx hic hif
  generalize w4.setCell ⟨w3.heap.size, i, none⟩ (.int .u8 a3) = w5 at *
  have q1 : (9 : Int) ≤ (cap : Int) := by omega
  have q2 : 9 ≤ cap := by omega
  go_region_held3 (fun w' => (convert 43 9 (.slice (some ⟨w3.heap.size, 0, none⟩) 10 cap)).run Try.prog w' = .ok (.string x1) w' ∧ (convert 43 9 (.slice (some ⟨w3.heap.size, 0, none⟩) 9 cap)).run Try.prog w' = .ok (.string x3) w')
    (first | exact HX.out _ (fun _ => rfl) | exact HX.out _ (fun _ => World.cell?_alloc_past _ _ _ (by simpa using Z5.out))) (fail)
  generalize hcs : (#[Value.string s, Value.string x1, Value.string (x1 ++ { data := #[48] }), Value.string x3] : Array Value) = cs
  have hX : ∀ k : Nat, k < 4 → ∃ x : ByteArray, cs[k]? = some (.string x) ∧ x.size ≤ 40 := fun k hk => by
    subst hcs
    have hk' : k = 0 ∨ k = 1 ∨ k = 2 ∨ k = 3 := by omega
    rcases hk' with rfl | rfl | rfl | rfl
    · exact ⟨s, rfl, hs⟩
    · exact ⟨x1, rfl, by omega⟩
    · exact ⟨_, rfl, by rw [ByteArray.size_append, s1]; show 10 + 1 ≤ 40; omega⟩
    · exact ⟨x3, rfl, by omega⟩
  have HX4 := Lib.hid hX
  clear hcs hX HX s1 s3 q1 q2
  go_wp2
  go_loopw [48] (fun kv wr => ∃ (k : Nat) (wx : World), k ≤ 4 ∧ kv = .int .i64 k ∧ wr = boxed wx w5.heap.size cs 9 ∧ Below w.heap.size w wx ∧ w5.heap.size < wx.heap.size) (fun kv _ => (4 - intOf kv).toNat)
  case atStart =>
    exact ⟨0, _, by omega, rfl, boxed_self (by show (w5.alloc (.cells cs 9)).heap[w5.heap.size]? = _; exact alloc_block), (H5.out.alloc H5.out.size _).drew, by show w5.heap.size < (w5.alloc _).heap.size; rw [World.size_alloc]; omega⟩
  case round =>
    obtain ⟨k, wx, hk, rfl, rfl, h6, z6⟩ := hrel
    have H6 := Lib.hid h6
    clear h6
    have hB : w.heap.size ≤ w5.heap.size := H5.out.size
    by_cases hk4 : k < 4
    · obtain ⟨x, hxk, hxs⟩ := HX4.out k hk4
      obtain ⟨Y, M, D, ec, hp, hcase⟩ := parse_some x
      have HP := Lib.hid hp
      have HCASE := Lib.hid hcase
      clear hp hcase
      go_wp2_with fail
      refine (HP.out _).mono ?_
      rintro e w7 ⟨rfl, hb⟩
      obtain ⟨h7, z7, e7⟩ := keep1 H6.out hB z6 hb
      rw [e7]
      have H7 := Lib.hid h7
      clear hb h7 e7
      obtain ⟨b, hb10⟩ : ∃ b : Bool, ((x.size : Int) == 10) = b := ⟨_, rfl⟩
      go_wp2
      have HB10 := Lib.hid hb10
      clear hb10
      go_loop [14, 15] (fun sh iv => ∃ j : Nat, j ≤ 10 ∧ j ≤ x.size ∧ iv = .int .i64 j ∧ sh = .bool (shTo x b j)) (fun _ iv => (10 - intOf iv).toNat)
      case atStart => exact ⟨0, by omega, by omega, rfl, by unfold shTo Cal.okTo; rw [Bool.and_true]⟩
      case round =>
        obtain ⟨j, j1, j2, rfl, rfl⟩ := hrel
        by_cases hjs : j < x.size
        · by_cases hjt : j < 10
          · have hv := Cal.bt_at x j hjs
            have vb := Cal.bt_bd x j
            rw [hv] at vb
            cases hsh : shTo x b j
            · have hnext := Lib.hid (show shTo x b (j + 1) = false from shTo_false hsh)
              clear hv
              by_cases g1 : 48 ≤ (x[j].toNat : Int)
              · by_cases g2 : (x[j].toNat : Int) ≤ 57
                all_goals
                  go_wp2
                  exact ⟨⟨j + 1, by omega, by omega, by go_num, by rw [hnext.out]⟩, by simp [intOf]; omega⟩
              · go_wp2
                exact ⟨⟨j + 1, by omega, by omega, by go_num, by rw [hnext.out]⟩, by simp [intOf]; omega⟩
            · have hn1 := shTo_true hsh
              by_cases hd : j = 4 ∨ j = 7
              · by_cases h45 : (x[j].toNat : Int) = 45
                · have hnext := Lib.hid (show shTo x b (j + 1) = true by rw [hn1]; exact Cal.ok_dash hd (by rw [hv]; exact h45))
                  have e45 : ((x[j].toNat : Int) == 45) = true := by rw [h45]; rfl
                  have g1 : ¬ 48 ≤ (x[j].toNat : Int) := by omega
                  clear hv h45 hn1
                  rcases hd with rfl | rfl
                  all_goals
                    go_wp2
                    first
                      | exact ⟨⟨5, by omega, by omega, rfl, (congrArg Value.bool hnext.out).symm⟩, by simp [intOf]⟩
                      | exact ⟨⟨8, by omega, by omega, rfl, (congrArg Value.bool hnext.out).symm⟩, by simp [intOf]⟩
                · have hnext := Lib.hid (show shTo x b (j + 1) = false by rw [hn1]; exact not_dash hd (by rw [hv]; exact h45))
                  have e45 : ((x[j].toNat : Int) == 45) = false := by rw [beq_eq_false_iff_ne]; exact h45
                  clear hv h45 hn1
                  by_cases g1 : 48 ≤ (x[j].toNat : Int)
                  · by_cases g2 : (x[j].toNat : Int) ≤ 57
                    all_goals
                      rcases hd with rfl | rfl
                      all_goals
                        go_wp2
                        first
                          | exact ⟨⟨5, by omega, by omega, rfl, (congrArg Value.bool hnext.out).symm⟩, by simp [intOf]⟩
                          | exact ⟨⟨8, by omega, by omega, rfl, (congrArg Value.bool hnext.out).symm⟩, by simp [intOf]⟩
                  · rcases hd with rfl | rfl
                    all_goals
                      go_wp2
                      first
                        | exact ⟨⟨5, by omega, by omega, rfl, (congrArg Value.bool hnext.out).symm⟩, by simp [intOf]⟩
                        | exact ⟨⟨8, by omega, by omega, rfl, (congrArg Value.bool hnext.out).symm⟩, by simp [intOf]⟩
              · have ne4 : ((j : Int) != 4) = true := by rw [bne_iff_ne]; omega
                have ne7 : ((j : Int) != 7) = true := by rw [bne_iff_ne]; omega
                have eq4 : ((j : Int) == 4) = false := by rw [beq_eq_false_iff_ne]; omega
                have eq7 : ((j : Int) == 7) = false := by rw [beq_eq_false_iff_ne]; omega
                by_cases g1 : 48 ≤ (x[j].toNat : Int)
                · by_cases g2 : (x[j].toNat : Int) ≤ 57
                  · have hnext := Lib.hid (show shTo x b (j + 1) = true by rw [hn1]; exact Cal.ok_digit hd (by rw [hv]; exact ⟨g1, g2⟩))
                    clear hv hn1
                    go_wp2
                    exact ⟨⟨j + 1, by omega, by omega, by go_num, by rw [hnext.out]⟩, by simp [intOf]; omega⟩
                  · have hnext := Lib.hid (show shTo x b (j + 1) = false by rw [hn1]; exact not_digit hd (by rw [hv]; omega))
                    have e45 : ((x[j].toNat : Int) == 45) = false := by rw [beq_eq_false_iff_ne]; omega
                    clear hv hn1
                    go_wp2
                    exact ⟨⟨j + 1, by omega, by omega, by go_num, by rw [hnext.out]⟩, by simp [intOf]; omega⟩
                · have hnext := Lib.hid (show shTo x b (j + 1) = false by rw [hn1]; exact not_digit hd (by rw [hv]; omega))
                  clear hv hn1
                  by_cases h45 : (x[j].toNat : Int) = 45
                  · have e45 : ((x[j].toNat : Int) == 45) = true := by rw [h45]; rfl
                    clear h45
                    go_wp2
                    exact ⟨⟨j + 1, by omega, by omega, by go_num, by rw [hnext.out]⟩, by simp [intOf]; omega⟩
                  · have e45 : ((x[j].toNat : Int) == 45) = false := by rw [beq_eq_false_iff_ne]; exact h45
                    clear h45
                    go_wp2
                    exact ⟨⟨j + 1, by omega, by omega, by go_num, by rw [hnext.out]⟩, by simp [intOf]; omega⟩
          · have hend := shape_end HB10.out j1 j2 (Or.inr hjt)
            have HE := Lib.hid hend
            clear hend
            rcases HCASE.out with ⟨he, c1, c2, c3⟩ | ⟨he, c1⟩ | ⟨he, c1⟩
            · subst he
              have HSH := Lib.hid (HE.out.trans c1)
              obtain ⟨p1, p2, p3, p4⟩ := Cal.right_true.1 c2
              have p5 := (Cal.mon_lo Y M).2
              obtain ⟨p6, p7⟩ := Cal.right_month c2
              have HR := Lib.hid c2
              have HT := Lib.hid c3
              clear c1 c2 c3
              rw [HSH.out]
              go_wp2_with fail
              refine (rtext_any _ _ _ _ (by omega) (by omega) (by omega) (by omega) (by omega) (by omega)).mono ?_
              rintro e w8 ⟨rfl, hb⟩
              obtain ⟨h8, z8, y8, e8⟩ := keep1_alloc H7.out hB z7 hb
              rw [e8, HT.out]
              have H8 := Lib.hid h8
              have n1 : w5.heap.size ≠ w7.heap.size := by omega
              have n2 : w7.heap.size ≠ w5.heap.size := by omega
              clear hb h8 e8
              go_wp2_with fail
              refine (rright_any _ _ _ _).mono ?_
              rintro e w9 ⟨rfl, hb⟩
              obtain ⟨h9, z9, y9, e9⟩ := keep2 H8.out hB z7 y8 hb
              rw [e9, HR.out]
              have H9 := Lib.hid h9
              clear hb h9 e9
              go_wp2
              exact ⟨⟨k + 1, _, by omega, by go_num, boxed_self (by rw [boxed_block_other n1, boxed_block z9]), boxed_below (boxed_below H9.out hB) (by omega), by rw [boxed_size, boxed_size]; exact z9⟩, by simp [intOf]; omega⟩
            all_goals
              subst he
              have HSH := Lib.hid (HE.out.trans c1)
              clear c1
              rw [HSH.out]
              go_wp2
              exact ⟨⟨k + 1, _, by omega, by go_num, boxed_self (by rw [alloc_block_old (by rw [boxed_size]; exact z7), boxed_block z7]), (boxed_below H7.out hB).alloc (by rw [boxed_size]; omega) _, by rw [World.size_alloc, boxed_size]; omega⟩, by simp [intOf]; omega⟩
        · have hend := shape_end HB10.out j1 j2 (Or.inl hjs)
          have HE := Lib.hid hend
          clear hend
          rcases HCASE.out with ⟨he, c1, c2, c3⟩ | ⟨he, c1⟩ | ⟨he, c1⟩
          · subst he
            have HSH := Lib.hid (HE.out.trans c1)
            obtain ⟨p1, p2, p3, p4⟩ := Cal.right_true.1 c2
            have p5 := (Cal.mon_lo Y M).2
            obtain ⟨p6, p7⟩ := Cal.right_month c2
            have HR := Lib.hid c2
            have HT := Lib.hid c3
            clear c1 c2 c3
            rw [HSH.out]
            go_wp2_with fail
            refine (rtext_any _ _ _ _ (by omega) (by omega) (by omega) (by omega) (by omega) (by omega)).mono ?_
            rintro e w8 ⟨rfl, hb⟩
            obtain ⟨h8, z8, y8, e8⟩ := keep1_alloc H7.out hB z7 hb
            rw [e8, HT.out]
            have H8 := Lib.hid h8
            have n1 : w5.heap.size ≠ w7.heap.size := by omega
            have n2 : w7.heap.size ≠ w5.heap.size := by omega
            clear hb h8 e8
            go_wp2_with fail
            refine (rright_any _ _ _ _).mono ?_
            rintro e w9 ⟨rfl, hb⟩
            obtain ⟨h9, z9, y9, e9⟩ := keep2 H8.out hB z7 y8 hb
            rw [e9, HR.out]
            have H9 := Lib.hid h9
            clear hb h9 e9
            go_wp2
            exact ⟨⟨k + 1, _, by omega, by go_num, boxed_self (by rw [boxed_block_other n1, boxed_block z9]), boxed_below (boxed_below H9.out hB) (by omega), by rw [boxed_size, boxed_size]; exact z9⟩, by simp [intOf]; omega⟩
          all_goals
            subst he
            have HSH := Lib.hid (HE.out.trans c1)
            clear c1
            rw [HSH.out]
            go_wp2
            exact ⟨⟨k + 1, _, by omega, by go_num, boxed_self (by rw [alloc_block_old (by rw [boxed_size]; exact z7), boxed_block z7]), (boxed_below H7.out hB).alloc (by rw [boxed_size]; omega) _, by rw [World.size_alloc, boxed_size]; omega⟩, by simp [intOf]; omega⟩
    · obtain rfl : k = 4 := by omega
      go_wp2
      go_ret
      exact ⟨rfl, boxed_below H6.out hB⟩

theorem civilParses_walk (s : ByteArray) (hs : s.size ≤ maxLen) (a1 : Int) (w1 : (Lit.int .u32 a1).wf = true) (a2 : Int) (w2 : (Lit.int .u8 a2).wf = true) (a3 : Int) (w3 : (Lit.int .u8 a3).wf = true) (w : World) :
    Calls Try.prog 8 #[.string s, .int .u32 a1, .int .u8 a2, .int .u8 a3] w fun e w' => e = .returned (.bool true) ∧ Below w.heap.size w w' := by
  unfold maxLen at hs
  have u1 : 0 ≤ a1 ∧ a1 ≤ 4294967295 := by simpa [Lit.wf, IntKind.min, IntKind.max, IntKind.bits, IntKind.signed] using w1
  have u2 : 0 ≤ a2 ∧ a2 ≤ 255 := by simpa [Lit.wf, IntKind.min, IntKind.max, IntKind.bits, IntKind.signed] using w2
  have u3 : 0 ≤ a3 ∧ a3 ≤ 255 := by simpa [Lit.wf, IntKind.min, IntKind.max, IntKind.bits, IntKind.signed] using w3
  by_cases h : 40 < s.size
  · exact civilParses_long s a1 a2 a3 w (by omega) h
  · obtain ⟨y, m, d, hr, hn⟩ := Cal.day_of (a1 % 3652059) (by omega) (by omega)
    exact civilParses_short s a1 a2 a3 y m d w (by omega) u1.1 u1.2 u2.1 u2.2 u3.1 u3.2 hr hn
end Go.Proofs.Ytlfmclcbdjobnaa
