/-
  No cell of these rows narrows 'for every input' (looked for: loops, veiled, ifaces, maps, wideKeys, modest, calm, conditions, laid).
  DERIVED. THE GIVEN ROWS OF THIS SEAT. 8 by the template 'for every input the law returns true; each argument reads behind the call as it read before'; 0 by the template 'total and deterministic' (their statements: YtnlcaonempngbaaTotals.lean).
  GIVEN WITH THE SEED: the statements are not yours to turn. If you find one false, say at which input.
  Laid BY PROGRAM, IN A SANDBOX (cutbox-rows.mjs): the forced cells as the released guide's own fill.sh prints them over the translation 30a245b0e147e4fb… (all of the seat's roots in one cut). By AI agents, Wed Nov 11 2026. No macro, syntax, notation, axiom, sorry.
-/
import Derived.Test.YtnlcaonempngbaaChecked
import GoSem.Claim
import GoSem.ClaimJoined
import GoSem.ClaimMapViews
import Derived.JoinedTies
import Derived.KernelRfl
namespace Go.Proofs.Ytnlcaonempngbaa
/- THE CELL 'sum', in the pinned program and in every row, IS THE sha256 OF THE DUMP (.gsa) THAT YtnlcaonempngbaaProg.lean LOADS. Nothing in Lean hashes anything: it is a label: what it is worth is what the hold of that sum in a sandbox is worth. -/
noncomputable def Try.pinned : Pinned := { name := "ytnlcaonempngbaa", sum := "30a245b0e147e4fb536365096920795e4413fd4ce91f225412dc5466c0b9558a", checked := Try.checked }
namespace Rows
def none {H : Type} : Left H := { results := [], args := [] }

/-- 'exlaw1.FsSafe': WHATEVER THE INPUT: true; the input reads as it did. -/
def fsSafeSpec : ChangeSpec := { name := "fsSafe", fn := fun _ => fun
  | [d1, d2, d3, d4, d5, d6, d7] => { results := [.lit (.bool true)], args := [d1, d2, d3, d4, d5, d6, d7] }
  | _ => none }
def fsSafeRow : OpenClaim := { program := "ytnlcaonempngbaa", sum := "30a245b0e147e4fb536365096920795e4413fd4ce91f225412dc5466c0b9558a", func := "exchequer/exlaw1.FsSafe", spec := "fsSafe", unfollowed := true, recurses := true, apart := false }
def FsSafeSaid : Prop := fsSafeRow.holds Try.pinned (OpenSpec.ofChange fsSafeSpec)

/-- ITS FALSE NEIGHBOUR: 'it returns false'. Refute it at one input. -/
def fsSafeWrong : ChangeSpec := { name := "fsSafe", fn := fun _ => fun
  | [d1, d2, d3, d4, d5, d6, d7] => { results := [.lit (.bool false)], args := [d1, d2, d3, d4, d5, d6, d7] }
  | _ => none }
def FsSafeWrongFalsely : Prop := fsSafeRow.holds Try.pinned (OpenSpec.ofChange fsSafeWrong)

/-- 'exlaw1.FsPlays': WHATEVER THE INPUT: true; the input reads as it did. -/
def fsPlaysSpec : ChangeSpec := { name := "fsPlays", fn := fun _ => fun
  | [d1, d2, d3] => { results := [.lit (.bool true)], args := [d1, d2, d3] }
  | _ => none }
def fsPlaysRow : OpenClaim := { program := "ytnlcaonempngbaa", sum := "30a245b0e147e4fb536365096920795e4413fd4ce91f225412dc5466c0b9558a", func := "exchequer/exlaw1.FsPlays", spec := "fsPlays", unfollowed := true, recurses := true, apart := false }
def FsPlaysSaid : Prop := fsPlaysRow.holds Try.pinned (OpenSpec.ofChange fsPlaysSpec)

/-- ITS FALSE NEIGHBOUR: 'it returns false'. Refute it at one input. -/
def fsPlaysWrong : ChangeSpec := { name := "fsPlays", fn := fun _ => fun
  | [d1, d2, d3] => { results := [.lit (.bool false)], args := [d1, d2, d3] }
  | _ => none }
def FsPlaysWrongFalsely : Prop := fsPlaysRow.holds Try.pinned (OpenSpec.ofChange fsPlaysWrong)

/-- 'exlaw1.FsRefused': WHATEVER THE INPUT: true; the input reads as it did. -/
def fsRefusedSpec : ChangeSpec := { name := "fsRefused", fn := fun _ => fun
  | [d1, d2] => { results := [.lit (.bool true)], args := [d1, d2] }
  | _ => none }
def fsRefusedRow : OpenClaim := { program := "ytnlcaonempngbaa", sum := "30a245b0e147e4fb536365096920795e4413fd4ce91f225412dc5466c0b9558a", func := "exchequer/exlaw1.FsRefused", spec := "fsRefused", unfollowed := true, recurses := true, apart := false }
def FsRefusedSaid : Prop := fsRefusedRow.holds Try.pinned (OpenSpec.ofChange fsRefusedSpec)

/-- ITS FALSE NEIGHBOUR: 'it returns false'. Refute it at one input. -/
def fsRefusedWrong : ChangeSpec := { name := "fsRefused", fn := fun _ => fun
  | [d1, d2] => { results := [.lit (.bool false)], args := [d1, d2] }
  | _ => none }
def FsRefusedWrongFalsely : Prop := fsRefusedRow.holds Try.pinned (OpenSpec.ofChange fsRefusedWrong)

/-- 'exlaw1.FsArmed': WHATEVER THE INPUT: true; the input reads as it did. -/
def fsArmedSpec : ChangeSpec := { name := "fsArmed", fn := fun _ => fun
  | [d1, d2, d3] => { results := [.lit (.bool true)], args := [d1, d2, d3] }
  | _ => none }
def fsArmedRow : OpenClaim := { program := "ytnlcaonempngbaa", sum := "30a245b0e147e4fb536365096920795e4413fd4ce91f225412dc5466c0b9558a", func := "exchequer/exlaw1.FsArmed", spec := "fsArmed", unfollowed := true, recurses := true, apart := false }
def FsArmedSaid : Prop := fsArmedRow.holds Try.pinned (OpenSpec.ofChange fsArmedSpec)

/-- ITS FALSE NEIGHBOUR: 'it returns false'. Refute it at one input. -/
def fsArmedWrong : ChangeSpec := { name := "fsArmed", fn := fun _ => fun
  | [d1, d2, d3] => { results := [.lit (.bool false)], args := [d1, d2, d3] }
  | _ => none }
def FsArmedWrongFalsely : Prop := fsArmedRow.holds Try.pinned (OpenSpec.ofChange fsArmedWrong)

/-- 'exlaw1.FsApart': WHATEVER THE INPUT: true; the input reads as it did. -/
def fsApartSpec : ChangeSpec := { name := "fsApart", fn := fun _ => fun
  | [d1, d2, d3] => { results := [.lit (.bool true)], args := [d1, d2, d3] }
  | _ => none }
def fsApartRow : OpenClaim := { program := "ytnlcaonempngbaa", sum := "30a245b0e147e4fb536365096920795e4413fd4ce91f225412dc5466c0b9558a", func := "exchequer/exlaw1.FsApart", spec := "fsApart", unfollowed := true, recurses := true, apart := false }
def FsApartSaid : Prop := fsApartRow.holds Try.pinned (OpenSpec.ofChange fsApartSpec)

/-- ITS FALSE NEIGHBOUR: 'it returns false'. Refute it at one input. -/
def fsApartWrong : ChangeSpec := { name := "fsApart", fn := fun _ => fun
  | [d1, d2, d3] => { results := [.lit (.bool false)], args := [d1, d2, d3] }
  | _ => none }
def FsApartWrongFalsely : Prop := fsApartRow.holds Try.pinned (OpenSpec.ofChange fsApartWrong)

/-- 'exlaw1.FsRenames': WHATEVER THE INPUT: true; the input reads as it did. -/
def fsRenamesSpec : ChangeSpec := { name := "fsRenames", fn := fun _ => fun
  | [d1, d2, d3, d4, d5] => { results := [.lit (.bool true)], args := [d1, d2, d3, d4, d5] }
  | _ => none }
def fsRenamesRow : OpenClaim := { program := "ytnlcaonempngbaa", sum := "30a245b0e147e4fb536365096920795e4413fd4ce91f225412dc5466c0b9558a", func := "exchequer/exlaw1.FsRenames", spec := "fsRenames", unfollowed := true, recurses := true, apart := false }
def FsRenamesSaid : Prop := fsRenamesRow.holds Try.pinned (OpenSpec.ofChange fsRenamesSpec)

/-- ITS FALSE NEIGHBOUR: 'it returns false'. Refute it at one input. -/
def fsRenamesWrong : ChangeSpec := { name := "fsRenames", fn := fun _ => fun
  | [d1, d2, d3, d4, d5] => { results := [.lit (.bool false)], args := [d1, d2, d3, d4, d5] }
  | _ => none }
def FsRenamesWrongFalsely : Prop := fsRenamesRow.holds Try.pinned (OpenSpec.ofChange fsRenamesWrong)

/-- 'exlaw1.FsTruncates': WHATEVER THE INPUT: true; the input reads as it did. -/
def fsTruncatesSpec : ChangeSpec := { name := "fsTruncates", fn := fun _ => fun
  | [d1, d2, d3, d4, d5] => { results := [.lit (.bool true)], args := [d1, d2, d3, d4, d5] }
  | _ => none }
def fsTruncatesRow : OpenClaim := { program := "ytnlcaonempngbaa", sum := "30a245b0e147e4fb536365096920795e4413fd4ce91f225412dc5466c0b9558a", func := "exchequer/exlaw1.FsTruncates", spec := "fsTruncates", unfollowed := true, recurses := true, apart := false }
def FsTruncatesSaid : Prop := fsTruncatesRow.holds Try.pinned (OpenSpec.ofChange fsTruncatesSpec)

/-- ITS FALSE NEIGHBOUR: 'it returns false'. Refute it at one input. -/
def fsTruncatesWrong : ChangeSpec := { name := "fsTruncates", fn := fun _ => fun
  | [d1, d2, d3, d4, d5] => { results := [.lit (.bool false)], args := [d1, d2, d3, d4, d5] }
  | _ => none }
def FsTruncatesWrongFalsely : Prop := fsTruncatesRow.holds Try.pinned (OpenSpec.ofChange fsTruncatesWrong)

/-- 'exlaw1.FsNames': WHATEVER THE INPUT: true; the input reads as it did. -/
def fsNamesSpec : ChangeSpec := { name := "fsNames", fn := fun _ => fun
  | [d1, d2, d3] => { results := [.lit (.bool true)], args := [d1, d2, d3] }
  | _ => none }
def fsNamesRow : OpenClaim := { program := "ytnlcaonempngbaa", sum := "30a245b0e147e4fb536365096920795e4413fd4ce91f225412dc5466c0b9558a", func := "exchequer/exlaw1.FsNames", spec := "fsNames", unfollowed := true, recurses := true, apart := false }
def FsNamesSaid : Prop := fsNamesRow.holds Try.pinned (OpenSpec.ofChange fsNamesSpec)

/-- ITS FALSE NEIGHBOUR: 'it returns false'. Refute it at one input. -/
def fsNamesWrong : ChangeSpec := { name := "fsNames", fn := fun _ => fun
  | [d1, d2, d3] => { results := [.lit (.bool false)], args := [d1, d2, d3] }
  | _ => none }
def FsNamesWrongFalsely : Prop := fsNamesRow.holds Try.pinned (OpenSpec.ofChange fsNamesWrong)

/- THE SECOND FORM. 'bulk': how many values and letters a reading holds, each counted each time it is reached (what is shared counts as often as it is met; a slice's spare places count too). A statement '..UptoSaid' is the law's where the arguments, and the package variables that the reading takes, are together of bulk at most 1048576: NARROWER than '..Said'. Prove '..Said' where nothing that the law and all that it calls make is longer than what came in: it says more and counts as full. Else prove '..UptoSaid'. A law counts once. -/
mutual
def uptoBulk {H : Type} : DataW H → Nat
  | .lit (.string bytes) => bytes.length + 1
  | .lit _ => 1
  | .nil => 1
  | .ptr d => uptoBulk d + 1
  | .slice elems spare => uptoBulkAll elems + uptoBulkAll spare + 1
  | .agg parts => uptoBulkAll parts + 1
  | .iface _ d => uptoBulk d + 1
  | .map entries => uptoBulkEntries entries + 1
  | .held _ => 1
def uptoBulkAll {H : Type} : List (DataW H) → Nat
  | [] => 0
  | d :: r => uptoBulk d + uptoBulkAll r
def uptoBulkEntries {H : Type} : List (Lit × DataW H) → Nat
  | [] => 0
  | x :: r => uptoBulkEntry x + uptoBulkEntries r
def uptoBulkEntry {H : Type} : Lit × DataW H → Nat
  | (.string bytes, d) => bytes.length + uptoBulk d + 1
  | (_, d) => uptoBulk d + 1
 end
def uptoSmall : (H : Type) → List (DataW H) → Bool := fun _ ds => decide (uptoBulkAll ds ≤ 1048576)
def OpenSpec.upto (s : _root_.Go.ChangeSpec) : _root_.Go.OpenSpec := { _root_.Go.OpenSpec.ofChange s with cond := some uptoSmall }

/-- 'exlaw1.FsSafe', WHERE WHAT IT READS IS OF BULK AT MOST 1048576: true; the input reads as it did. -/
def fsSafeUptoRow : OpenClaim := { program := "ytnlcaonempngbaa", sum := "30a245b0e147e4fb536365096920795e4413fd4ce91f225412dc5466c0b9558a", func := "exchequer/exlaw1.FsSafe", spec := "fsSafe", unfollowed := true, recurses := true, apart := false, narrowed := true }
def FsSafeUptoSaid : Prop := fsSafeUptoRow.holds Try.pinned (OpenSpec.upto fsSafeSpec)

/-- 'exlaw1.FsPlays', WHERE WHAT IT READS IS OF BULK AT MOST 1048576: true; the input reads as it did. -/
def fsPlaysUptoRow : OpenClaim := { program := "ytnlcaonempngbaa", sum := "30a245b0e147e4fb536365096920795e4413fd4ce91f225412dc5466c0b9558a", func := "exchequer/exlaw1.FsPlays", spec := "fsPlays", unfollowed := true, recurses := true, apart := false, narrowed := true }
def FsPlaysUptoSaid : Prop := fsPlaysUptoRow.holds Try.pinned (OpenSpec.upto fsPlaysSpec)

/-- 'exlaw1.FsRefused', WHERE WHAT IT READS IS OF BULK AT MOST 1048576: true; the input reads as it did. -/
def fsRefusedUptoRow : OpenClaim := { program := "ytnlcaonempngbaa", sum := "30a245b0e147e4fb536365096920795e4413fd4ce91f225412dc5466c0b9558a", func := "exchequer/exlaw1.FsRefused", spec := "fsRefused", unfollowed := true, recurses := true, apart := false, narrowed := true }
def FsRefusedUptoSaid : Prop := fsRefusedUptoRow.holds Try.pinned (OpenSpec.upto fsRefusedSpec)

/-- 'exlaw1.FsArmed', WHERE WHAT IT READS IS OF BULK AT MOST 1048576: true; the input reads as it did. -/
def fsArmedUptoRow : OpenClaim := { program := "ytnlcaonempngbaa", sum := "30a245b0e147e4fb536365096920795e4413fd4ce91f225412dc5466c0b9558a", func := "exchequer/exlaw1.FsArmed", spec := "fsArmed", unfollowed := true, recurses := true, apart := false, narrowed := true }
def FsArmedUptoSaid : Prop := fsArmedUptoRow.holds Try.pinned (OpenSpec.upto fsArmedSpec)

/-- 'exlaw1.FsApart', WHERE WHAT IT READS IS OF BULK AT MOST 1048576: true; the input reads as it did. -/
def fsApartUptoRow : OpenClaim := { program := "ytnlcaonempngbaa", sum := "30a245b0e147e4fb536365096920795e4413fd4ce91f225412dc5466c0b9558a", func := "exchequer/exlaw1.FsApart", spec := "fsApart", unfollowed := true, recurses := true, apart := false, narrowed := true }
def FsApartUptoSaid : Prop := fsApartUptoRow.holds Try.pinned (OpenSpec.upto fsApartSpec)

/-- 'exlaw1.FsRenames', WHERE WHAT IT READS IS OF BULK AT MOST 1048576: true; the input reads as it did. -/
def fsRenamesUptoRow : OpenClaim := { program := "ytnlcaonempngbaa", sum := "30a245b0e147e4fb536365096920795e4413fd4ce91f225412dc5466c0b9558a", func := "exchequer/exlaw1.FsRenames", spec := "fsRenames", unfollowed := true, recurses := true, apart := false, narrowed := true }
def FsRenamesUptoSaid : Prop := fsRenamesUptoRow.holds Try.pinned (OpenSpec.upto fsRenamesSpec)

/-- 'exlaw1.FsTruncates', WHERE WHAT IT READS IS OF BULK AT MOST 1048576: true; the input reads as it did. -/
def fsTruncatesUptoRow : OpenClaim := { program := "ytnlcaonempngbaa", sum := "30a245b0e147e4fb536365096920795e4413fd4ce91f225412dc5466c0b9558a", func := "exchequer/exlaw1.FsTruncates", spec := "fsTruncates", unfollowed := true, recurses := true, apart := false, narrowed := true }
def FsTruncatesUptoSaid : Prop := fsTruncatesUptoRow.holds Try.pinned (OpenSpec.upto fsTruncatesSpec)

/-- 'exlaw1.FsNames', WHERE WHAT IT READS IS OF BULK AT MOST 1048576: true; the input reads as it did. -/
def fsNamesUptoRow : OpenClaim := { program := "ytnlcaonempngbaa", sum := "30a245b0e147e4fb536365096920795e4413fd4ce91f225412dc5466c0b9558a", func := "exchequer/exlaw1.FsNames", spec := "fsNames", unfollowed := true, recurses := true, apart := false, narrowed := true }
def FsNamesUptoSaid : Prop := fsNamesUptoRow.holds Try.pinned (OpenSpec.upto fsNamesSpec)

end Rows
end Go.Proofs.Ytnlcaonempngbaa
