/-
  No cell of these rows narrows 'for every input' (looked for: loops, veiled, ifaces, maps, wideKeys, modest, calm, conditions, laid).
  DERIVED. THE GIVEN ROWS OF THIS SEAT. 6 by the template 'for every input the law returns true; each argument reads behind the call as it read before'; 0 by the template 'total and deterministic' (their statements: YtblikgbcakgdnaaGreatTotals.lean).
  GIVEN WITH THE SEED: the statements are not yours to turn. If you find one false, say at which input.
  Laid BY PROGRAM, IN A SANDBOX (cutbox-rows.mjs): the forced cells as the released guide's own fill.sh prints them over the translation d60b98942ab2a0f5… (all of the seat's roots in one cut). By AI agents, Wed Nov 11 2026. No macro, syntax, notation, axiom, sorry.
-/
import Derived.Test.YtblikgbcakgdnaaGreatChecked
import GoSem.Claim
import GoSem.ClaimJoined
import GoSem.ClaimMapViews
import Derived.JoinedTies
import Derived.KernelRfl
namespace Go.Proofs.YtblikgbcakgdnaaGreat
/- THE CELL 'sum', in the pinned program and in every row, IS THE sha256 OF THE DUMP (.gsa) THAT YtblikgbcakgdnaaGreatProg.lean LOADS. Nothing in Lean hashes anything: it is a label: what it is worth is what the hold of that sum in a sandbox is worth. -/
noncomputable def Tryz.pinned : Pinned := { name := "ytblikgbcakgdnaagreat", sum := "d60b98942ab2a0f519c33b4f78bc7eb3f16dc58d8fa30f3a9ac2db1bff709ea0", checked := Tryz.checked }
namespace Rows
def none {H : Type} : Left H := { results := [], args := [] }

/-- 'paybooklaw14.BookPlays': WHATEVER THE INPUT: true; the input reads as it did. -/
def bookPlaysSpec : ChangeSpec := { name := "bookPlays", fn := fun _ => fun
  | [d1, d2, d3] => { results := [.lit (.bool true)], args := [d1, d2, d3] }
  | _ => none }
def bookPlaysRow : OpenClaim := { program := "ytblikgbcakgdnaagreat", sum := "d60b98942ab2a0f519c33b4f78bc7eb3f16dc58d8fa30f3a9ac2db1bff709ea0", func := "paybook/paybooklaw14.BookPlays", spec := "bookPlays", unfollowed := true, recurses := true, named := ["math/bits.divideError", "math/bits.overflowError"], apart := false }
def BookPlaysSaid : Prop := bookPlaysRow.holds Tryz.pinned (OpenSpec.ofChange bookPlaysSpec)

/-- ITS FALSE NEIGHBOUR: 'it returns false'. Refute it at one input. -/
def bookPlaysWrong : ChangeSpec := { name := "bookPlays", fn := fun _ => fun
  | [d1, d2, d3] => { results := [.lit (.bool false)], args := [d1, d2, d3] }
  | _ => none }
def BookPlaysWrongFalsely : Prop := bookPlaysRow.holds Tryz.pinned (OpenSpec.ofChange bookPlaysWrong)

/-- 'paybooklaw14.BookBytes': WHATEVER THE INPUT: true; the input reads as it did. -/
def bookBytesSpec : ChangeSpec := { name := "bookBytes", fn := fun _ => fun
  | [d1, d2, d3] => { results := [.lit (.bool true)], args := [d1, d2, d3] }
  | _ => none }
def bookBytesRow : OpenClaim := { program := "ytblikgbcakgdnaagreat", sum := "d60b98942ab2a0f519c33b4f78bc7eb3f16dc58d8fa30f3a9ac2db1bff709ea0", func := "paybook/paybooklaw14.BookBytes", spec := "bookBytes", unfollowed := true, recurses := true, named := ["math/bits.divideError", "math/bits.overflowError"], apart := false }
def BookBytesSaid : Prop := bookBytesRow.holds Tryz.pinned (OpenSpec.ofChange bookBytesSpec)

/-- ITS FALSE NEIGHBOUR: 'it returns false'. Refute it at one input. -/
def bookBytesWrong : ChangeSpec := { name := "bookBytes", fn := fun _ => fun
  | [d1, d2, d3] => { results := [.lit (.bool false)], args := [d1, d2, d3] }
  | _ => none }
def BookBytesWrongFalsely : Prop := bookBytesRow.holds Tryz.pinned (OpenSpec.ofChange bookBytesWrong)

/-- 'paybooklaw14.BookReads': WHATEVER THE INPUT: true; the input reads as it did. -/
def bookReadsSpec : ChangeSpec := { name := "bookReads", fn := fun _ => fun
  | [d1, d2, d3, d4] => { results := [.lit (.bool true)], args := [d1, d2, d3, d4] }
  | _ => none }
def bookReadsRow : OpenClaim := { program := "ytblikgbcakgdnaagreat", sum := "d60b98942ab2a0f519c33b4f78bc7eb3f16dc58d8fa30f3a9ac2db1bff709ea0", func := "paybook/paybooklaw14.BookReads", spec := "bookReads", unfollowed := true, recurses := true, named := ["math/bits.divideError", "math/bits.overflowError"], apart := false }
def BookReadsSaid : Prop := bookReadsRow.holds Tryz.pinned (OpenSpec.ofChange bookReadsSpec)

/-- ITS FALSE NEIGHBOUR: 'it returns false'. Refute it at one input. -/
def bookReadsWrong : ChangeSpec := { name := "bookReads", fn := fun _ => fun
  | [d1, d2, d3, d4] => { results := [.lit (.bool false)], args := [d1, d2, d3, d4] }
  | _ => none }
def BookReadsWrongFalsely : Prop := bookReadsRow.holds Tryz.pinned (OpenSpec.ofChange bookReadsWrong)

/-- 'paybooklaw14.BookKeeps': WHATEVER THE INPUT: true; the input reads as it did. -/
def bookKeepsSpec : ChangeSpec := { name := "bookKeeps", fn := fun _ => fun
  | [d1, d2, d3, d4] => { results := [.lit (.bool true)], args := [d1, d2, d3, d4] }
  | _ => none }
def bookKeepsRow : OpenClaim := { program := "ytblikgbcakgdnaagreat", sum := "d60b98942ab2a0f519c33b4f78bc7eb3f16dc58d8fa30f3a9ac2db1bff709ea0", func := "paybook/paybooklaw14.BookKeeps", spec := "bookKeeps", unfollowed := true, recurses := true, named := ["math/bits.divideError", "math/bits.overflowError"], apart := false }
def BookKeepsSaid : Prop := bookKeepsRow.holds Tryz.pinned (OpenSpec.ofChange bookKeepsSpec)

/-- ITS FALSE NEIGHBOUR: 'it returns false'. Refute it at one input. -/
def bookKeepsWrong : ChangeSpec := { name := "bookKeeps", fn := fun _ => fun
  | [d1, d2, d3, d4] => { results := [.lit (.bool false)], args := [d1, d2, d3, d4] }
  | _ => none }
def BookKeepsWrongFalsely : Prop := bookKeepsRow.holds Tryz.pinned (OpenSpec.ofChange bookKeepsWrong)

/-- 'paybooklaw14.BookEnds': WHATEVER THE INPUT: true; the input reads as it did. -/
def bookEndsSpec : ChangeSpec := { name := "bookEnds", fn := fun _ => fun
  | [d1, d2, d3] => { results := [.lit (.bool true)], args := [d1, d2, d3] }
  | _ => none }
def bookEndsRow : OpenClaim := { program := "ytblikgbcakgdnaagreat", sum := "d60b98942ab2a0f519c33b4f78bc7eb3f16dc58d8fa30f3a9ac2db1bff709ea0", func := "paybook/paybooklaw14.BookEnds", spec := "bookEnds", unfollowed := true, recurses := true, named := ["math/bits.divideError", "math/bits.overflowError"], apart := false }
def BookEndsSaid : Prop := bookEndsRow.holds Tryz.pinned (OpenSpec.ofChange bookEndsSpec)

/-- ITS FALSE NEIGHBOUR: 'it returns false'. Refute it at one input. -/
def bookEndsWrong : ChangeSpec := { name := "bookEnds", fn := fun _ => fun
  | [d1, d2, d3] => { results := [.lit (.bool false)], args := [d1, d2, d3] }
  | _ => none }
def BookEndsWrongFalsely : Prop := bookEndsRow.holds Tryz.pinned (OpenSpec.ofChange bookEndsWrong)

/-- 'paybooklaw14.BookParts': WHATEVER THE INPUT: true; the input reads as it did. -/
def bookPartsSpec : ChangeSpec := { name := "bookParts", fn := fun _ => fun
  | [d1, d2, d3, d4, d5, d6] => { results := [.lit (.bool true)], args := [d1, d2, d3, d4, d5, d6] }
  | _ => none }
def bookPartsRow : OpenClaim := { program := "ytblikgbcakgdnaagreat", sum := "d60b98942ab2a0f519c33b4f78bc7eb3f16dc58d8fa30f3a9ac2db1bff709ea0", func := "paybook/paybooklaw14.BookParts", spec := "bookParts", unfollowed := true, recurses := true, named := ["math/bits.divideError", "math/bits.overflowError"], apart := false }
def BookPartsSaid : Prop := bookPartsRow.holds Tryz.pinned (OpenSpec.ofChange bookPartsSpec)

/-- ITS FALSE NEIGHBOUR: 'it returns false'. Refute it at one input. -/
def bookPartsWrong : ChangeSpec := { name := "bookParts", fn := fun _ => fun
  | [d1, d2, d3, d4, d5, d6] => { results := [.lit (.bool false)], args := [d1, d2, d3, d4, d5, d6] }
  | _ => none }
def BookPartsWrongFalsely : Prop := bookPartsRow.holds Tryz.pinned (OpenSpec.ofChange bookPartsWrong)

/- THE SECOND FORM. 'bulk': how many values and letters a reading holds, each counted each time it is reached (what is shared counts as often as it is met; a slice's spare places count too). A statement '..UptoSaid' is the law's where the arguments, and the package variables that the reading takes, are together of bulk at most 1048576: NARROWER than '..Said'. Prove '..Said' where nothing that the law and all that it calls make is longer than what came in: it says more and counts as full. Else prove '..UptoSaid'. A law counts once. -/
mutual
def uptoBulk {H : Type} : DataW H → Nat
  | .lit (.string bytes) => bytes.length + 1
  | .lit _ => 1
  | .nil => 1
  | .ptr d => uptoBulk d + 1
  | .slice elems spare => uptoBulkAll elems + uptoBulkAll spare + 1
  | .agg parts => uptoBulkAll parts + 1
  | .iface _ d => uptoBulk d + 1
  | .map entries => uptoBulkEntries entries + 1
  | .held _ => 1
def uptoBulkAll {H : Type} : List (DataW H) → Nat
  | [] => 0
  | d :: r => uptoBulk d + uptoBulkAll r
def uptoBulkEntries {H : Type} : List (Lit × DataW H) → Nat
  | [] => 0
  | x :: r => uptoBulkEntry x + uptoBulkEntries r
def uptoBulkEntry {H : Type} : Lit × DataW H → Nat
  | (.string bytes, d) => bytes.length + uptoBulk d + 1
  | (_, d) => uptoBulk d + 1
 end
def uptoSmall : (H : Type) → List (DataW H) → Bool := fun _ ds => decide (uptoBulkAll ds ≤ 1048576)
def OpenSpec.upto (s : _root_.Go.ChangeSpec) : _root_.Go.OpenSpec := { _root_.Go.OpenSpec.ofChange s with cond := some uptoSmall }

/-- 'paybooklaw14.BookPlays', WHERE WHAT IT READS IS OF BULK AT MOST 1048576: true; the input reads as it did. -/
def bookPlaysUptoRow : OpenClaim := { program := "ytblikgbcakgdnaagreat", sum := "d60b98942ab2a0f519c33b4f78bc7eb3f16dc58d8fa30f3a9ac2db1bff709ea0", func := "paybook/paybooklaw14.BookPlays", spec := "bookPlays", unfollowed := true, recurses := true, named := ["math/bits.divideError", "math/bits.overflowError"], apart := false, narrowed := true }
def BookPlaysUptoSaid : Prop := bookPlaysUptoRow.holds Tryz.pinned (OpenSpec.upto bookPlaysSpec)

/-- 'paybooklaw14.BookBytes', WHERE WHAT IT READS IS OF BULK AT MOST 1048576: true; the input reads as it did. -/
def bookBytesUptoRow : OpenClaim := { program := "ytblikgbcakgdnaagreat", sum := "d60b98942ab2a0f519c33b4f78bc7eb3f16dc58d8fa30f3a9ac2db1bff709ea0", func := "paybook/paybooklaw14.BookBytes", spec := "bookBytes", unfollowed := true, recurses := true, named := ["math/bits.divideError", "math/bits.overflowError"], apart := false, narrowed := true }
def BookBytesUptoSaid : Prop := bookBytesUptoRow.holds Tryz.pinned (OpenSpec.upto bookBytesSpec)

/-- 'paybooklaw14.BookReads', WHERE WHAT IT READS IS OF BULK AT MOST 1048576: true; the input reads as it did. -/
def bookReadsUptoRow : OpenClaim := { program := "ytblikgbcakgdnaagreat", sum := "d60b98942ab2a0f519c33b4f78bc7eb3f16dc58d8fa30f3a9ac2db1bff709ea0", func := "paybook/paybooklaw14.BookReads", spec := "bookReads", unfollowed := true, recurses := true, named := ["math/bits.divideError", "math/bits.overflowError"], apart := false, narrowed := true }
def BookReadsUptoSaid : Prop := bookReadsUptoRow.holds Tryz.pinned (OpenSpec.upto bookReadsSpec)

/-- 'paybooklaw14.BookKeeps', WHERE WHAT IT READS IS OF BULK AT MOST 1048576: true; the input reads as it did. -/
def bookKeepsUptoRow : OpenClaim := { program := "ytblikgbcakgdnaagreat", sum := "d60b98942ab2a0f519c33b4f78bc7eb3f16dc58d8fa30f3a9ac2db1bff709ea0", func := "paybook/paybooklaw14.BookKeeps", spec := "bookKeeps", unfollowed := true, recurses := true, named := ["math/bits.divideError", "math/bits.overflowError"], apart := false, narrowed := true }
def BookKeepsUptoSaid : Prop := bookKeepsUptoRow.holds Tryz.pinned (OpenSpec.upto bookKeepsSpec)

/-- 'paybooklaw14.BookEnds', WHERE WHAT IT READS IS OF BULK AT MOST 1048576: true; the input reads as it did. -/
def bookEndsUptoRow : OpenClaim := { program := "ytblikgbcakgdnaagreat", sum := "d60b98942ab2a0f519c33b4f78bc7eb3f16dc58d8fa30f3a9ac2db1bff709ea0", func := "paybook/paybooklaw14.BookEnds", spec := "bookEnds", unfollowed := true, recurses := true, named := ["math/bits.divideError", "math/bits.overflowError"], apart := false, narrowed := true }
def BookEndsUptoSaid : Prop := bookEndsUptoRow.holds Tryz.pinned (OpenSpec.upto bookEndsSpec)

/-- 'paybooklaw14.BookParts', WHERE WHAT IT READS IS OF BULK AT MOST 1048576: true; the input reads as it did. -/
def bookPartsUptoRow : OpenClaim := { program := "ytblikgbcakgdnaagreat", sum := "d60b98942ab2a0f519c33b4f78bc7eb3f16dc58d8fa30f3a9ac2db1bff709ea0", func := "paybook/paybooklaw14.BookParts", spec := "bookParts", unfollowed := true, recurses := true, named := ["math/bits.divideError", "math/bits.overflowError"], apart := false, narrowed := true }
def BookPartsUptoSaid : Prop := bookPartsUptoRow.holds Tryz.pinned (OpenSpec.upto bookPartsSpec)

end Rows
end Go.Proofs.YtblikgbcakgdnaaGreat
