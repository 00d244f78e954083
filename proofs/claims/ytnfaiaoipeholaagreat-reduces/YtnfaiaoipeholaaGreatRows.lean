/-
  No cell of these rows narrows 'for every input' (looked for: loops, veiled, ifaces, maps, wideKeys, modest, calm, conditions, laid).
  DERIVED. THE GIVEN ROWS OF THIS SEAT. 8 by the template 'for every input the law returns true; each argument reads behind the call as it read before'; 0 by the template 'total and deterministic' (their statements: YtnfaiaoipeholaaGreatTotals.lean).
  GIVEN WITH THE SEED: the statements are not yours to turn. If you find one false, say at which input.
  Laid BY PROGRAM, IN A SANDBOX (cutbox-rows.mjs): the forced cells as the released guide's own fill.sh prints them over the translation 7f36b0a64746e330… (all of the seat's roots in one cut). By AI agents, Wed Nov 11 2026. No macro, syntax, notation, axiom, sorry.
-/
import Derived.Test.YtnfaiaoipeholaaGreatChecked
import GoSem.Claim
import GoSem.ClaimJoined
import GoSem.ClaimMapViews
import Derived.JoinedTies
import Derived.KernelRfl
namespace Go.Proofs.YtnfaiaoipeholaaGreat
/- THE CELL 'sum', in the pinned program and in every row, IS THE sha256 OF THE DUMP (.gsa) THAT YtnfaiaoipeholaaGreatProg.lean LOADS. Nothing in Lean hashes anything: it is a label: what it is worth is what the hold of that sum in a sandbox is worth. -/
noncomputable def Tryz.pinned : Pinned := { name := "ytnfaiaoipeholaagreat", sum := "7f36b0a64746e3306785168c5e6975e8a01789dfe4d0756dbdd58735c764d7af", checked := Tryz.checked }
namespace Rows
def none {H : Type} : Left H := { results := [], args := [] }

/-- 'winnowlaw.Checks': WHATEVER THE INPUT: true; the input reads as it did. -/
def checksSpec : ChangeSpec := { name := "checks", fn := fun _ => fun
  | [d] => { results := [.lit (.bool true)], args := [d] }
  | _ => none }
def checksRow : OpenClaim := { program := "ytnfaiaoipeholaagreat", sum := "7f36b0a64746e3306785168c5e6975e8a01789dfe4d0756dbdd58735c764d7af", func := "winnow/winnowlaw.Checks", spec := "checks", recurses := true, apart := false }
def ChecksSaid : Prop := checksRow.holds Tryz.pinned (OpenSpec.ofChange checksSpec)

/-- ITS FALSE NEIGHBOUR: 'it returns false'. Refute it at one input. -/
def checksWrong : ChangeSpec := { name := "checks", fn := fun _ => fun
  | [d] => { results := [.lit (.bool false)], args := [d] }
  | _ => none }
def ChecksWrongFalsely : Prop := checksRow.holds Tryz.pinned (OpenSpec.ofChange checksWrong)

/-- 'winnowlaw.Heights': WHATEVER THE INPUT: true; the input reads as it did. -/
def heightsSpec : ChangeSpec := { name := "heights", fn := fun _ => fun
  | [d] => { results := [.lit (.bool true)], args := [d] }
  | _ => none }
def heightsRow : OpenClaim := { program := "ytnfaiaoipeholaagreat", sum := "7f36b0a64746e3306785168c5e6975e8a01789dfe4d0756dbdd58735c764d7af", func := "winnow/winnowlaw.Heights", spec := "heights", recurses := true, apart := false }
def HeightsSaid : Prop := heightsRow.holds Tryz.pinned (OpenSpec.ofChange heightsSpec)

/-- ITS FALSE NEIGHBOUR: 'it returns false'. Refute it at one input. -/
def heightsWrong : ChangeSpec := { name := "heights", fn := fun _ => fun
  | [d] => { results := [.lit (.bool false)], args := [d] }
  | _ => none }
def HeightsWrongFalsely : Prop := heightsRow.holds Tryz.pinned (OpenSpec.ofChange heightsWrong)

/-- 'winnowlaw.Makes': WHATEVER THE INPUT: true; the input reads as it did. -/
def makesSpec : ChangeSpec := { name := "makes", fn := fun _ => fun
  | [d] => { results := [.lit (.bool true)], args := [d] }
  | _ => none }
def makesRow : OpenClaim := { program := "ytnfaiaoipeholaagreat", sum := "7f36b0a64746e3306785168c5e6975e8a01789dfe4d0756dbdd58735c764d7af", func := "winnow/winnowlaw.Makes", spec := "makes", recurses := true, apart := false }
def MakesSaid : Prop := makesRow.holds Tryz.pinned (OpenSpec.ofChange makesSpec)

/-- ITS FALSE NEIGHBOUR: 'it returns false'. Refute it at one input. -/
def makesWrong : ChangeSpec := { name := "makes", fn := fun _ => fun
  | [d] => { results := [.lit (.bool false)], args := [d] }
  | _ => none }
def MakesWrongFalsely : Prop := makesRow.holds Tryz.pinned (OpenSpec.ofChange makesWrong)

/-- 'winnowlaw.Recalls': WHATEVER THE INPUT: true; the input reads as it did. -/
def recallsSpec : ChangeSpec := { name := "recalls", fn := fun _ => fun
  | [d] => { results := [.lit (.bool true)], args := [d] }
  | _ => none }
def recallsRow : OpenClaim := { program := "ytnfaiaoipeholaagreat", sum := "7f36b0a64746e3306785168c5e6975e8a01789dfe4d0756dbdd58735c764d7af", func := "winnow/winnowlaw.Recalls", spec := "recalls", recurses := true, apart := false }
def RecallsSaid : Prop := recallsRow.holds Tryz.pinned (OpenSpec.ofChange recallsSpec)

/-- ITS FALSE NEIGHBOUR: 'it returns false'. Refute it at one input. -/
def recallsWrong : ChangeSpec := { name := "recalls", fn := fun _ => fun
  | [d] => { results := [.lit (.bool false)], args := [d] }
  | _ => none }
def RecallsWrongFalsely : Prop := recallsRow.holds Tryz.pinned (OpenSpec.ofChange recallsWrong)

/-- 'winnowlaw.Parses': WHATEVER THE INPUT: true; the input reads as it did. -/
def parsesSpec : ChangeSpec := { name := "parses", fn := fun _ => fun
  | [d] => { results := [.lit (.bool true)], args := [d] }
  | _ => none }
def parsesRow : OpenClaim := { program := "ytnfaiaoipeholaagreat", sum := "7f36b0a64746e3306785168c5e6975e8a01789dfe4d0756dbdd58735c764d7af", func := "winnow/winnowlaw.Parses", spec := "parses", recurses := true, apart := false }
def ParsesSaid : Prop := parsesRow.holds Tryz.pinned (OpenSpec.ofChange parsesSpec)

/-- ITS FALSE NEIGHBOUR: 'it returns false'. Refute it at one input. -/
def parsesWrong : ChangeSpec := { name := "parses", fn := fun _ => fun
  | [d] => { results := [.lit (.bool false)], args := [d] }
  | _ => none }
def ParsesWrongFalsely : Prop := parsesRow.holds Tryz.pinned (OpenSpec.ofChange parsesWrong)

/-- 'winnowkeep.Wrapped': WHATEVER THE INPUT: true; the input reads as it did. -/
def wrappedSpec : ChangeSpec := { name := "wrapped", fn := fun _ => fun
  | [d1, d2, d3, d4] => { results := [.lit (.bool true)], args := [d1, d2, d3, d4] }
  | _ => none }
def wrappedRow : OpenClaim := { program := "ytnfaiaoipeholaagreat", sum := "7f36b0a64746e3306785168c5e6975e8a01789dfe4d0756dbdd58735c764d7af", func := "winnow/winnowkeep.Wrapped", spec := "wrapped", recurses := true, apart := false }
def WrappedSaid : Prop := wrappedRow.holds Tryz.pinned (OpenSpec.ofChange wrappedSpec)

/-- ITS FALSE NEIGHBOUR: 'it returns false'. Refute it at one input. -/
def wrappedWrong : ChangeSpec := { name := "wrapped", fn := fun _ => fun
  | [d1, d2, d3, d4] => { results := [.lit (.bool false)], args := [d1, d2, d3, d4] }
  | _ => none }
def WrappedWrongFalsely : Prop := wrappedRow.holds Tryz.pinned (OpenSpec.ofChange wrappedWrong)

/-- 'winnowkeep.Swapped': WHATEVER THE INPUT: true; the input reads as it did. -/
def swappedSpec : ChangeSpec := { name := "swapped", fn := fun _ => fun
  | [d1, d2, d3, d4, d5, d6] => { results := [.lit (.bool true)], args := [d1, d2, d3, d4, d5, d6] }
  | _ => none }
def swappedRow : OpenClaim := { program := "ytnfaiaoipeholaagreat", sum := "7f36b0a64746e3306785168c5e6975e8a01789dfe4d0756dbdd58735c764d7af", func := "winnow/winnowkeep.Swapped", spec := "swapped", recurses := true, apart := false }
def SwappedSaid : Prop := swappedRow.holds Tryz.pinned (OpenSpec.ofChange swappedSpec)

/-- ITS FALSE NEIGHBOUR: 'it returns false'. Refute it at one input. -/
def swappedWrong : ChangeSpec := { name := "swapped", fn := fun _ => fun
  | [d1, d2, d3, d4, d5, d6] => { results := [.lit (.bool false)], args := [d1, d2, d3, d4, d5, d6] }
  | _ => none }
def SwappedWrongFalsely : Prop := swappedRow.holds Tryz.pinned (OpenSpec.ofChange swappedWrong)

/-- 'winnowlaw.Reduces': WHATEVER THE INPUT: true; the input reads as it did. -/
def reducesSpec : ChangeSpec := { name := "reduces", fn := fun _ => fun
  | [d] => { results := [.lit (.bool true)], args := [d] }
  | _ => none }
def reducesRow : OpenClaim := { program := "ytnfaiaoipeholaagreat", sum := "7f36b0a64746e3306785168c5e6975e8a01789dfe4d0756dbdd58735c764d7af", func := "winnow/winnowlaw.Reduces", spec := "reduces", recurses := true, apart := false }
def ReducesSaid : Prop := reducesRow.holds Tryz.pinned (OpenSpec.ofChange reducesSpec)

/-- ITS FALSE NEIGHBOUR: 'it returns false'. Refute it at one input. -/
def reducesWrong : ChangeSpec := { name := "reduces", fn := fun _ => fun
  | [d] => { results := [.lit (.bool false)], args := [d] }
  | _ => none }
def ReducesWrongFalsely : Prop := reducesRow.holds Tryz.pinned (OpenSpec.ofChange reducesWrong)

/- THE SECOND FORM. 'bulk': how many values and letters a reading holds, each counted each time it is reached (what is shared counts as often as it is met; a slice's spare places count too). A statement '..UptoSaid' is the law's where the arguments, and the package variables that the reading takes, are together of bulk at most 1048576: NARROWER than '..Said'. Prove '..Said' where nothing that the law and all that it calls make is longer than what came in: it says more and counts as full. Else prove '..UptoSaid'. A law counts once. -/
mutual
def uptoBulk {H : Type} : DataW H → Nat
  | .lit (.string bytes) => bytes.length + 1
  | .lit _ => 1
  | .nil => 1
  | .ptr d => uptoBulk d + 1
  | .slice elems spare => uptoBulkAll elems + uptoBulkAll spare + 1
  | .agg parts => uptoBulkAll parts + 1
  | .iface _ d => uptoBulk d + 1
  | .map entries => uptoBulkEntries entries + 1
  | .held _ => 1
def uptoBulkAll {H : Type} : List (DataW H) → Nat
  | [] => 0
  | d :: r => uptoBulk d + uptoBulkAll r
def uptoBulkEntries {H : Type} : List (Lit × DataW H) → Nat
  | [] => 0
  | x :: r => uptoBulkEntry x + uptoBulkEntries r
def uptoBulkEntry {H : Type} : Lit × DataW H → Nat
  | (.string bytes, d) => bytes.length + uptoBulk d + 1
  | (_, d) => uptoBulk d + 1
 end
def uptoSmall : (H : Type) → List (DataW H) → Bool := fun _ ds => decide (uptoBulkAll ds ≤ 1048576)
def OpenSpec.upto (s : _root_.Go.ChangeSpec) : _root_.Go.OpenSpec := { _root_.Go.OpenSpec.ofChange s with cond := some uptoSmall }

/-- 'winnowlaw.Checks', WHERE WHAT IT READS IS OF BULK AT MOST 1048576: true; the input reads as it did. -/
def checksUptoRow : OpenClaim := { program := "ytnfaiaoipeholaagreat", sum := "7f36b0a64746e3306785168c5e6975e8a01789dfe4d0756dbdd58735c764d7af", func := "winnow/winnowlaw.Checks", spec := "checks", recurses := true, apart := false, narrowed := true }
def ChecksUptoSaid : Prop := checksUptoRow.holds Tryz.pinned (OpenSpec.upto checksSpec)

/-- 'winnowlaw.Heights', WHERE WHAT IT READS IS OF BULK AT MOST 1048576: true; the input reads as it did. -/
def heightsUptoRow : OpenClaim := { program := "ytnfaiaoipeholaagreat", sum := "7f36b0a64746e3306785168c5e6975e8a01789dfe4d0756dbdd58735c764d7af", func := "winnow/winnowlaw.Heights", spec := "heights", recurses := true, apart := false, narrowed := true }
def HeightsUptoSaid : Prop := heightsUptoRow.holds Tryz.pinned (OpenSpec.upto heightsSpec)

/-- 'winnowlaw.Makes', WHERE WHAT IT READS IS OF BULK AT MOST 1048576: true; the input reads as it did. -/
def makesUptoRow : OpenClaim := { program := "ytnfaiaoipeholaagreat", sum := "7f36b0a64746e3306785168c5e6975e8a01789dfe4d0756dbdd58735c764d7af", func := "winnow/winnowlaw.Makes", spec := "makes", recurses := true, apart := false, narrowed := true }
def MakesUptoSaid : Prop := makesUptoRow.holds Tryz.pinned (OpenSpec.upto makesSpec)

/-- 'winnowlaw.Recalls', WHERE WHAT IT READS IS OF BULK AT MOST 1048576: true; the input reads as it did. -/
def recallsUptoRow : OpenClaim := { program := "ytnfaiaoipeholaagreat", sum := "7f36b0a64746e3306785168c5e6975e8a01789dfe4d0756dbdd58735c764d7af", func := "winnow/winnowlaw.Recalls", spec := "recalls", recurses := true, apart := false, narrowed := true }
def RecallsUptoSaid : Prop := recallsUptoRow.holds Tryz.pinned (OpenSpec.upto recallsSpec)

/-- 'winnowlaw.Parses', WHERE WHAT IT READS IS OF BULK AT MOST 1048576: true; the input reads as it did. -/
def parsesUptoRow : OpenClaim := { program := "ytnfaiaoipeholaagreat", sum := "7f36b0a64746e3306785168c5e6975e8a01789dfe4d0756dbdd58735c764d7af", func := "winnow/winnowlaw.Parses", spec := "parses", recurses := true, apart := false, narrowed := true }
def ParsesUptoSaid : Prop := parsesUptoRow.holds Tryz.pinned (OpenSpec.upto parsesSpec)

/-- 'winnowkeep.Wrapped', WHERE WHAT IT READS IS OF BULK AT MOST 1048576: true; the input reads as it did. -/
def wrappedUptoRow : OpenClaim := { program := "ytnfaiaoipeholaagreat", sum := "7f36b0a64746e3306785168c5e6975e8a01789dfe4d0756dbdd58735c764d7af", func := "winnow/winnowkeep.Wrapped", spec := "wrapped", recurses := true, apart := false, narrowed := true }
def WrappedUptoSaid : Prop := wrappedUptoRow.holds Tryz.pinned (OpenSpec.upto wrappedSpec)

/-- 'winnowkeep.Swapped', WHERE WHAT IT READS IS OF BULK AT MOST 1048576: true; the input reads as it did. -/
def swappedUptoRow : OpenClaim := { program := "ytnfaiaoipeholaagreat", sum := "7f36b0a64746e3306785168c5e6975e8a01789dfe4d0756dbdd58735c764d7af", func := "winnow/winnowkeep.Swapped", spec := "swapped", recurses := true, apart := false, narrowed := true }
def SwappedUptoSaid : Prop := swappedUptoRow.holds Tryz.pinned (OpenSpec.upto swappedSpec)

/-- 'winnowlaw.Reduces', WHERE WHAT IT READS IS OF BULK AT MOST 1048576: true; the input reads as it did. -/
def reducesUptoRow : OpenClaim := { program := "ytnfaiaoipeholaagreat", sum := "7f36b0a64746e3306785168c5e6975e8a01789dfe4d0756dbdd58735c764d7af", func := "winnow/winnowlaw.Reduces", spec := "reduces", recurses := true, apart := false, narrowed := true }
def ReducesUptoSaid : Prop := reducesUptoRow.holds Tryz.pinned (OpenSpec.upto reducesSpec)

end Rows
end Go.Proofs.YtnfaiaoipeholaaGreat
