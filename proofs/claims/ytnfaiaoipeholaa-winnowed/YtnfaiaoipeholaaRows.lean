/-
  No cell of these rows narrows 'for every input' (looked for: loops, veiled, ifaces, maps, wideKeys, modest, calm, conditions, laid).
  DERIVED. THE GIVEN ROWS OF THIS SEAT. 3 by the template 'for every input the law returns true; each argument reads behind the call as it read before'; 0 by the template 'total and deterministic' (their statements: YtnfaiaoipeholaaTotals.lean).
  GIVEN WITH THE SEED: the statements are not yours to turn. If you find one false, say at which input.
  Laid BY PROGRAM, IN A SANDBOX (cutbox-rows.mjs): the forced cells as the released guide's own fill.sh prints them over the translation 534ae616a47ca599… (all of the seat's roots in one cut). By AI agents, Wed Nov 11 2026. No macro, syntax, notation, axiom, sorry.
-/
import Derived.Test.YtnfaiaoipeholaaChecked
import GoSem.Claim
import GoSem.ClaimJoined
import GoSem.ClaimMapViews
import Derived.JoinedTies
import Derived.KernelRfl
namespace Go.Proofs.Ytnfaiaoipeholaa
/- THE CELL 'sum', in the pinned program and in every row, IS THE sha256 OF THE DUMP (.gsa) THAT YtnfaiaoipeholaaProg.lean LOADS. Nothing in Lean hashes anything: it is a label: what it is worth is what the hold of that sum in a sandbox is worth. -/
noncomputable def Try.pinned : Pinned := { name := "ytnfaiaoipeholaa", sum := "534ae616a47ca599cecd88138ebc1c88eb7ba5ef5cadda6f67823adb6070940a", checked := Try.checked }
namespace Rows
def none {H : Type} : Left H := { results := [], args := [] }

/-- 'winnowkeep.Recalled': WHATEVER THE INPUT: true; the input reads as it did. -/
def recalledSpec : ChangeSpec := { name := "recalled", fn := fun _ => fun
  | [d1, d2, d3, d4] => { results := [.lit (.bool true)], args := [d1, d2, d3, d4] }
  | _ => none }
def recalledRow : OpenClaim := { program := "ytnfaiaoipeholaa", sum := "534ae616a47ca599cecd88138ebc1c88eb7ba5ef5cadda6f67823adb6070940a", func := "winnow/winnowkeep.Recalled", spec := "recalled", recurses := true, apart := false }
def RecalledSaid : Prop := recalledRow.holds Try.pinned (OpenSpec.ofChange recalledSpec)

/-- ITS FALSE NEIGHBOUR: 'it returns false'. Refute it at one input. -/
def recalledWrong : ChangeSpec := { name := "recalled", fn := fun _ => fun
  | [d1, d2, d3, d4] => { results := [.lit (.bool false)], args := [d1, d2, d3, d4] }
  | _ => none }
def RecalledWrongFalsely : Prop := recalledRow.holds Try.pinned (OpenSpec.ofChange recalledWrong)

/-- 'winnowkeep.Spoken': WHATEVER THE INPUT: true; the input reads as it did. -/
def spokenSpec : ChangeSpec := { name := "spoken", fn := fun _ => fun
  | [d1, d2, d3, d4] => { results := [.lit (.bool true)], args := [d1, d2, d3, d4] }
  | _ => none }
def spokenRow : OpenClaim := { program := "ytnfaiaoipeholaa", sum := "534ae616a47ca599cecd88138ebc1c88eb7ba5ef5cadda6f67823adb6070940a", func := "winnow/winnowkeep.Spoken", spec := "spoken", recurses := true, apart := false }
def SpokenSaid : Prop := spokenRow.holds Try.pinned (OpenSpec.ofChange spokenSpec)

/-- ITS FALSE NEIGHBOUR: 'it returns false'. Refute it at one input. -/
def spokenWrong : ChangeSpec := { name := "spoken", fn := fun _ => fun
  | [d1, d2, d3, d4] => { results := [.lit (.bool false)], args := [d1, d2, d3, d4] }
  | _ => none }
def SpokenWrongFalsely : Prop := spokenRow.holds Try.pinned (OpenSpec.ofChange spokenWrong)

/-- 'winnowkeep.Winnowed': WHATEVER THE INPUT: true; the input reads as it did. -/
def winnowedSpec : ChangeSpec := { name := "winnowed", fn := fun _ => fun
  | [d1, d2, d3, d4] => { results := [.lit (.bool true)], args := [d1, d2, d3, d4] }
  | _ => none }
def winnowedRow : OpenClaim := { program := "ytnfaiaoipeholaa", sum := "534ae616a47ca599cecd88138ebc1c88eb7ba5ef5cadda6f67823adb6070940a", func := "winnow/winnowkeep.Winnowed", spec := "winnowed", recurses := true, apart := false }
def WinnowedSaid : Prop := winnowedRow.holds Try.pinned (OpenSpec.ofChange winnowedSpec)

/-- ITS FALSE NEIGHBOUR: 'it returns false'. Refute it at one input. -/
def winnowedWrong : ChangeSpec := { name := "winnowed", fn := fun _ => fun
  | [d1, d2, d3, d4] => { results := [.lit (.bool false)], args := [d1, d2, d3, d4] }
  | _ => none }
def WinnowedWrongFalsely : Prop := winnowedRow.holds Try.pinned (OpenSpec.ofChange winnowedWrong)

/- THE SECOND FORM. 'bulk': how many values and letters a reading holds, each counted each time it is reached (what is shared counts as often as it is met; a slice's spare places count too). A statement '..UptoSaid' is the law's where the arguments, and the package variables that the reading takes, are together of bulk at most 1048576: NARROWER than '..Said'. Prove '..Said' where nothing that the law and all that it calls make is longer than what came in: it says more and counts as full. Else prove '..UptoSaid'. A law counts once. -/
mutual
def uptoBulk {H : Type} : DataW H → Nat
  | .lit (.string bytes) => bytes.length + 1
  | .lit _ => 1
  | .nil => 1
  | .ptr d => uptoBulk d + 1
  | .slice elems spare => uptoBulkAll elems + uptoBulkAll spare + 1
  | .agg parts => uptoBulkAll parts + 1
  | .iface _ d => uptoBulk d + 1
  | .map entries => uptoBulkEntries entries + 1
  | .held _ => 1
def uptoBulkAll {H : Type} : List (DataW H) → Nat
  | [] => 0
  | d :: r => uptoBulk d + uptoBulkAll r
def uptoBulkEntries {H : Type} : List (Lit × DataW H) → Nat
  | [] => 0
  | x :: r => uptoBulkEntry x + uptoBulkEntries r
def uptoBulkEntry {H : Type} : Lit × DataW H → Nat
  | (.string bytes, d) => bytes.length + uptoBulk d + 1
  | (_, d) => uptoBulk d + 1
 end
def uptoSmall : (H : Type) → List (DataW H) → Bool := fun _ ds => decide (uptoBulkAll ds ≤ 1048576)
def OpenSpec.upto (s : _root_.Go.ChangeSpec) : _root_.Go.OpenSpec := { _root_.Go.OpenSpec.ofChange s with cond := some uptoSmall }

/-- 'winnowkeep.Recalled', WHERE WHAT IT READS IS OF BULK AT MOST 1048576: true; the input reads as it did. -/
def recalledUptoRow : OpenClaim := { program := "ytnfaiaoipeholaa", sum := "534ae616a47ca599cecd88138ebc1c88eb7ba5ef5cadda6f67823adb6070940a", func := "winnow/winnowkeep.Recalled", spec := "recalled", recurses := true, apart := false, narrowed := true }
def RecalledUptoSaid : Prop := recalledUptoRow.holds Try.pinned (OpenSpec.upto recalledSpec)

/-- 'winnowkeep.Spoken', WHERE WHAT IT READS IS OF BULK AT MOST 1048576: true; the input reads as it did. -/
def spokenUptoRow : OpenClaim := { program := "ytnfaiaoipeholaa", sum := "534ae616a47ca599cecd88138ebc1c88eb7ba5ef5cadda6f67823adb6070940a", func := "winnow/winnowkeep.Spoken", spec := "spoken", recurses := true, apart := false, narrowed := true }
def SpokenUptoSaid : Prop := spokenUptoRow.holds Try.pinned (OpenSpec.upto spokenSpec)

/-- 'winnowkeep.Winnowed', WHERE WHAT IT READS IS OF BULK AT MOST 1048576: true; the input reads as it did. -/
def winnowedUptoRow : OpenClaim := { program := "ytnfaiaoipeholaa", sum := "534ae616a47ca599cecd88138ebc1c88eb7ba5ef5cadda6f67823adb6070940a", func := "winnow/winnowkeep.Winnowed", spec := "winnowed", recurses := true, apart := false, narrowed := true }
def WinnowedUptoSaid : Prop := winnowedUptoRow.holds Try.pinned (OpenSpec.upto winnowedSpec)

end Rows
end Go.Proofs.Ytnfaiaoipeholaa
