/-
  DERIVED. GIVEN WITH THE SEED: THE CARDS: each row of YtlbodpffkdfllaaDoorRows.lean that lists a variable, with what it lists TIED to the program's text (the seventh form; the later family's looks); each row that meets fmt, with fmt's text TOLD by the authors' own Lean function (tested against real Go, not proved from fmt's source: count such statements apart). THE CARD IS WHAT COUNTS. Prove the row's statement (the work); the ties are given (YtlbodpffkdfllaaDoorTie.lean); close each card by the builder's one call (the guide's Derived/Test/ToyasCard.lean, 'card_holds'). Laid BY PROGRAM, IN A SANDBOX (cutbox-door.mjs). By AI agents, Wed Nov 11 2026. No macro, syntax, notation, axiom, sorry.
-/
import Derived.Test.YtlbodpffkdfllaaDoorRows
import GoSem.ClaimSeven
namespace Go.Proofs.YtlbodpffkdfllaaDoor
namespace Rows

/-- THE TIED CARD OF 'paybooklaw08.DiaryPlays'. -/
def diaryPlaysCard : Claim7 := { stood := { row := diaryPlaysRow, standIns := [], harness := (true, "e66e749f6271ac168225697a5a11e504574bfc07973e74c3122ae96cf9fe2994"), looks := false }, kinds := [], alts := [], laidByText := true, laidKinds := [.data], laidTests := true, laidLooks := .later }
def DiaryPlaysCardSaid : Prop := Claim7.holds Tryd.pinned (.plain (OpenSpec.ofChange diaryPlaysSpec)) diaryPlaysCard

/-- THE TIED CARD OF 'paybooklaw08.DiaryBytes'. -/
def diaryBytesCard : Claim7 := { stood := { row := diaryBytesRow, standIns := [], harness := (true, "e66e749f6271ac168225697a5a11e504574bfc07973e74c3122ae96cf9fe2994"), looks := false }, kinds := [], alts := [], laidByText := true, laidKinds := [.data], laidTests := true, laidLooks := .later }
def DiaryBytesCardSaid : Prop := Claim7.holds Tryd.pinned (.plain (OpenSpec.ofChange diaryBytesSpec)) diaryBytesCard

/-- THE TIED CARD OF 'paybooklaw08.DiaryErrs'. -/
def diaryErrsCard : Claim7 := { stood := { row := diaryErrsRow, standIns := [], harness := (true, "e66e749f6271ac168225697a5a11e504574bfc07973e74c3122ae96cf9fe2994"), looks := false }, kinds := [], alts := [], laidByText := true, laidKinds := [.data], laidTests := true, laidLooks := .later }
def DiaryErrsCardSaid : Prop := Claim7.holds Tryd.pinned (.plain (OpenSpec.ofChange diaryErrsSpec)) diaryErrsCard

/-- THE TIED CARD OF 'paybooklaw08.DiaryFits'. -/
def diaryFitsCard : Claim7 := { stood := { row := diaryFitsRow, standIns := [], harness := (true, "e66e749f6271ac168225697a5a11e504574bfc07973e74c3122ae96cf9fe2994"), looks := false }, kinds := [], alts := [], laidByText := true, laidKinds := [.data], laidTests := true, laidLooks := .later }
def DiaryFitsCardSaid : Prop := Claim7.holds Tryd.pinned (.plain (OpenSpec.ofChange diaryFitsSpec)) diaryFitsCard

/-- THE SECOND FORM's CARD OF 'paybooklaw08.DiaryPlays'. -/
def diaryPlaysUptoCard : Claim7 := { stood := { row := diaryPlaysUptoRow, standIns := [], harness := (true, "e66e749f6271ac168225697a5a11e504574bfc07973e74c3122ae96cf9fe2994"), looks := false }, kinds := [], alts := [], laidByText := true, laidKinds := [.data], laidTests := true, laidLooks := .later }
def DiaryPlaysUptoCardSaid : Prop := Claim7.holds Tryd.pinned (.plain (OpenSpec.upto diaryPlaysSpec)) diaryPlaysUptoCard

/-- THE SECOND FORM's CARD OF 'paybooklaw08.DiaryBytes'. -/
def diaryBytesUptoCard : Claim7 := { stood := { row := diaryBytesUptoRow, standIns := [], harness := (true, "e66e749f6271ac168225697a5a11e504574bfc07973e74c3122ae96cf9fe2994"), looks := false }, kinds := [], alts := [], laidByText := true, laidKinds := [.data], laidTests := true, laidLooks := .later }
def DiaryBytesUptoCardSaid : Prop := Claim7.holds Tryd.pinned (.plain (OpenSpec.upto diaryBytesSpec)) diaryBytesUptoCard

/-- THE SECOND FORM's CARD OF 'paybooklaw08.DiaryErrs'. -/
def diaryErrsUptoCard : Claim7 := { stood := { row := diaryErrsUptoRow, standIns := [], harness := (true, "e66e749f6271ac168225697a5a11e504574bfc07973e74c3122ae96cf9fe2994"), looks := false }, kinds := [], alts := [], laidByText := true, laidKinds := [.data], laidTests := true, laidLooks := .later }
def DiaryErrsUptoCardSaid : Prop := Claim7.holds Tryd.pinned (.plain (OpenSpec.upto diaryErrsSpec)) diaryErrsUptoCard

/-- THE SECOND FORM's CARD OF 'paybooklaw08.DiaryFits'. -/
def diaryFitsUptoCard : Claim7 := { stood := { row := diaryFitsUptoRow, standIns := [], harness := (true, "e66e749f6271ac168225697a5a11e504574bfc07973e74c3122ae96cf9fe2994"), looks := false }, kinds := [], alts := [], laidByText := true, laidKinds := [.data], laidTests := true, laidLooks := .later }
def DiaryFitsUptoCardSaid : Prop := Claim7.holds Tryd.pinned (.plain (OpenSpec.upto diaryFitsSpec)) diaryFitsUptoCard
end Rows
end Go.Proofs.YtlbodpffkdfllaaDoor
