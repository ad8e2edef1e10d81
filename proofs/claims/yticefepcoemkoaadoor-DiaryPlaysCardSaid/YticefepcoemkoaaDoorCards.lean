/-
  DERIVED. GIVEN WITH THE SEED: THE CARDS: each row of YticefepcoemkoaaDoorRows.lean that lists a variable, with what it lists TIED to the program's text (the seventh form; the later family's looks); each row that meets fmt, with fmt's text TOLD by the authors' own Lean function (tested against real Go, not proved from fmt's source: count such statements apart). THE CARD IS WHAT COUNTS. Prove the row's statement (the work); the ties are given (YticefepcoemkoaaDoorTie.lean); close each card by the builder's one call (the guide's Derived/Test/ToyasCard.lean, 'card_holds'). Laid BY PROGRAM, IN A SANDBOX (cutbox-door.mjs). By AI agents, Wed Nov 11 2026. No macro, syntax, notation, axiom, sorry.
-/
import Derived.Test.YticefepcoemkoaaDoorRows
import GoSem.ClaimSeven
namespace Go.Proofs.YticefepcoemkoaaDoor
namespace Rows

/-- THE TIED CARD OF 'paybooklaw08.DiaryPlays'. -/
def diaryPlaysCard : Claim7 := { stood := { row := diaryPlaysRow, standIns := [], harness := (true, "32398f40d927e741911ba3481ec69c5eb3807c6df8f1578ad19093c8a8cd723b"), looks := false }, kinds := [], alts := [], laidByText := true, laidKinds := [.data], laidTests := true, laidLooks := .later }
def DiaryPlaysCardSaid : Prop := Claim7.holds Tryd.pinned (.plain (OpenSpec.ofChange diaryPlaysSpec)) diaryPlaysCard

/-- THE TIED CARD OF 'paybooklaw08.DiaryBytes'. -/
def diaryBytesCard : Claim7 := { stood := { row := diaryBytesRow, standIns := [], harness := (true, "32398f40d927e741911ba3481ec69c5eb3807c6df8f1578ad19093c8a8cd723b"), looks := false }, kinds := [], alts := [], laidByText := true, laidKinds := [.data], laidTests := true, laidLooks := .later }
def DiaryBytesCardSaid : Prop := Claim7.holds Tryd.pinned (.plain (OpenSpec.ofChange diaryBytesSpec)) diaryBytesCard

/-- THE SECOND FORM's CARD OF 'paybooklaw08.DiaryPlays'. -/
def diaryPlaysUptoCard : Claim7 := { stood := { row := diaryPlaysUptoRow, standIns := [], harness := (true, "32398f40d927e741911ba3481ec69c5eb3807c6df8f1578ad19093c8a8cd723b"), looks := false }, kinds := [], alts := [], laidByText := true, laidKinds := [.data], laidTests := true, laidLooks := .later }
def DiaryPlaysUptoCardSaid : Prop := Claim7.holds Tryd.pinned (.plain (OpenSpec.upto diaryPlaysSpec)) diaryPlaysUptoCard

/-- THE SECOND FORM's CARD OF 'paybooklaw08.DiaryBytes'. -/
def diaryBytesUptoCard : Claim7 := { stood := { row := diaryBytesUptoRow, standIns := [], harness := (true, "32398f40d927e741911ba3481ec69c5eb3807c6df8f1578ad19093c8a8cd723b"), looks := false }, kinds := [], alts := [], laidByText := true, laidKinds := [.data], laidTests := true, laidLooks := .later }
def DiaryBytesUptoCardSaid : Prop := Claim7.holds Tryd.pinned (.plain (OpenSpec.upto diaryBytesSpec)) diaryBytesUptoCard
end Rows
end Go.Proofs.YticefepcoemkoaaDoor
