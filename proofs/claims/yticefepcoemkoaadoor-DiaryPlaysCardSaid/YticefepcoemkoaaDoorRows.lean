/-
  NARROWER THAN 'FOR EVERY INPUT', by the rows' own cells (each row's printed sentence says how): DiaryPlays: laid · DiaryBytes: laid.
  DERIVED. THE GIVEN ROWS OF THIS SEAT. 2 by the template 'for every input the law returns true; each argument reads behind the call as it read before'; 0 by the template 'total and deterministic' (their statements: YticefepcoemkoaaDoorTotals.lean).
  GIVEN WITH THE SEED: the statements are not yours to turn. If you find one false, say at which input.
  Laid BY PROGRAM, IN A SANDBOX (cutbox-rows.mjs): the forced cells as the released guide's own fill.sh prints them over the translation 9c5dbbf3533255ba… (all of the seat's roots in one cut). By AI agents, Wed Nov 11 2026. No macro, syntax, notation, axiom, sorry.
-/
import Derived.Test.YticefepcoemkoaaDoorChecked
import GoSem.Claim
import GoSem.ClaimJoined
import GoSem.ClaimMapViews
import Derived.JoinedTies
import Derived.KernelRfl
namespace Go.Proofs.YticefepcoemkoaaDoor
/- THE CELL 'sum', in the pinned program and in every row, IS THE sha256 OF THE DUMP (.gsa) THAT YticefepcoemkoaaDoorProg.lean LOADS. Nothing in Lean hashes anything: it is a label: what it is worth is what the hold of that sum in a sandbox is worth. -/
noncomputable def Tryd.pinned : Pinned := { name := "yticefepcoemkoaadoor", sum := "9c5dbbf3533255babf1ebd0429ef4d6808462fa205135416923d6ec472104b11", checked := Tryd.checked }
namespace Rows
def none {H : Type} : Left H := { results := [], args := [] }

/- WHAT THE LISTED PACKAGE-LEVEL VARIABLES READ AS WHEN THE CALL BEGINS. Each datum BY PROGRAM (the guide's laid-datum.mjs) off the statement by which the dump's own 'gosem.cut.vars' lays the variable. In a bare row this is a premise. The card (YticefepcoemkoaaDoorCards.lean) ties it to the program's text. -/
def laid_paybook_seal_lines {H : Type} : DataW H := .agg [.lit (.int .u32 0), .lit (.int .u32 498536548), .lit (.int .u32 997073096), .lit (.int .u32 651767980), .lit (.int .u32 1994146192), .lit (.int .u32 1802195444), .lit (.int .u32 1303535960), .lit (.int .u32 1342533948), .lit (.int .u32 3988292384), .lit (.int .u32 4027552580), .lit (.int .u32 3604390888), .lit (.int .u32 3412177804), .lit (.int .u32 2607071920), .lit (.int .u32 2262029012), .lit (.int .u32 2685067896), .lit (.int .u32 3183342108)]

/-- 'paybooklaw08.DiaryPlays': WHATEVER THE INPUT: true; the input reads as it did. -/
def diaryPlaysSpec : ChangeSpec := { name := "diaryPlays", fn := fun _ => fun
  | [d1, d2] => { results := [.lit (.bool true)], args := [d1, d2] }
  | _ => none }
def diaryPlaysRow : OpenClaim := { program := "yticefepcoemkoaadoor", sum := "9c5dbbf3533255babf1ebd0429ef4d6808462fa205135416923d6ec472104b11", func := "paybook/paybooklaw08.DiaryPlays", spec := "diaryPlays", unfollowed := true, recurses := true, named := ["paybook/seal.lines"], apart := false, laid := [("paybook/seal.lines", laid_paybook_seal_lines)] }
def DiaryPlaysSaid : Prop := diaryPlaysRow.holds Tryd.pinned (OpenSpec.ofChange diaryPlaysSpec)

/-- ITS FALSE NEIGHBOUR: 'it returns false'. Refute it at one input. -/
def diaryPlaysWrong : ChangeSpec := { name := "diaryPlays", fn := fun _ => fun
  | [d1, d2] => { results := [.lit (.bool false)], args := [d1, d2] }
  | _ => none }
def DiaryPlaysWrongFalsely : Prop := diaryPlaysRow.holds Tryd.pinned (OpenSpec.ofChange diaryPlaysWrong)

/-- 'paybooklaw08.DiaryBytes': WHATEVER THE INPUT: true; the input reads as it did. -/
def diaryBytesSpec : ChangeSpec := { name := "diaryBytes", fn := fun _ => fun
  | [d1, d2] => { results := [.lit (.bool true)], args := [d1, d2] }
  | _ => none }
def diaryBytesRow : OpenClaim := { program := "yticefepcoemkoaadoor", sum := "9c5dbbf3533255babf1ebd0429ef4d6808462fa205135416923d6ec472104b11", func := "paybook/paybooklaw08.DiaryBytes", spec := "diaryBytes", unfollowed := true, recurses := true, named := ["paybook/seal.lines"], apart := false, laid := [("paybook/seal.lines", laid_paybook_seal_lines)] }
def DiaryBytesSaid : Prop := diaryBytesRow.holds Tryd.pinned (OpenSpec.ofChange diaryBytesSpec)

/-- ITS FALSE NEIGHBOUR: 'it returns false'. Refute it at one input. -/
def diaryBytesWrong : ChangeSpec := { name := "diaryBytes", fn := fun _ => fun
  | [d1, d2] => { results := [.lit (.bool false)], args := [d1, d2] }
  | _ => none }
def DiaryBytesWrongFalsely : Prop := diaryBytesRow.holds Tryd.pinned (OpenSpec.ofChange diaryBytesWrong)

/- THE SECOND FORM. 'bulk': how many values and letters a reading holds, each counted each time it is reached (what is shared counts as often as it is met; a slice's spare places count too). A statement '..UptoSaid' is the law's where the arguments, and the package variables that the reading takes, are together of bulk at most 1048576: NARROWER than '..Said'. Prove '..Said' where nothing that the law and all that it calls make is longer than what came in: it says more and counts as full. Else prove '..UptoSaid'. A law counts once. -/
mutual
def uptoBulk {H : Type} : DataW H → Nat
  | .lit (.string bytes) => bytes.length + 1
  | .lit _ => 1
  | .nil => 1
  | .ptr d => uptoBulk d + 1
  | .slice elems spare => uptoBulkAll elems + uptoBulkAll spare + 1
  | .agg parts => uptoBulkAll parts + 1
  | .iface _ d => uptoBulk d + 1
  | .map entries => uptoBulkEntries entries + 1
  | .held _ => 1
def uptoBulkAll {H : Type} : List (DataW H) → Nat
  | [] => 0
  | d :: r => uptoBulk d + uptoBulkAll r
def uptoBulkEntries {H : Type} : List (Lit × DataW H) → Nat
  | [] => 0
  | x :: r => uptoBulkEntry x + uptoBulkEntries r
def uptoBulkEntry {H : Type} : Lit × DataW H → Nat
  | (.string bytes, d) => bytes.length + uptoBulk d + 1
  | (_, d) => uptoBulk d + 1
 end
def uptoSmall : (H : Type) → List (DataW H) → Bool := fun _ ds => decide (uptoBulkAll ds ≤ 1048576)
def OpenSpec.upto (s : _root_.Go.ChangeSpec) : _root_.Go.OpenSpec := { _root_.Go.OpenSpec.ofChange s with cond := some uptoSmall }

/-- 'paybooklaw08.DiaryPlays', WHERE WHAT IT READS IS OF BULK AT MOST 1048576: true; the input reads as it did. -/
def diaryPlaysUptoRow : OpenClaim := { program := "yticefepcoemkoaadoor", sum := "9c5dbbf3533255babf1ebd0429ef4d6808462fa205135416923d6ec472104b11", func := "paybook/paybooklaw08.DiaryPlays", spec := "diaryPlays", unfollowed := true, recurses := true, named := ["paybook/seal.lines"], apart := false, laid := [("paybook/seal.lines", laid_paybook_seal_lines)], narrowed := true }
def DiaryPlaysUptoSaid : Prop := diaryPlaysUptoRow.holds Tryd.pinned (OpenSpec.upto diaryPlaysSpec)

/-- 'paybooklaw08.DiaryBytes', WHERE WHAT IT READS IS OF BULK AT MOST 1048576: true; the input reads as it did. -/
def diaryBytesUptoRow : OpenClaim := { program := "yticefepcoemkoaadoor", sum := "9c5dbbf3533255babf1ebd0429ef4d6808462fa205135416923d6ec472104b11", func := "paybook/paybooklaw08.DiaryBytes", spec := "diaryBytes", unfollowed := true, recurses := true, named := ["paybook/seal.lines"], apart := false, laid := [("paybook/seal.lines", laid_paybook_seal_lines)], narrowed := true }
def DiaryBytesUptoSaid : Prop := diaryBytesUptoRow.holds Tryd.pinned (OpenSpec.upto diaryBytesSpec)

end Rows
end Go.Proofs.YticefepcoemkoaaDoor
