/-
  No cell of these rows narrows 'for every input' (looked for: loops, veiled, ifaces, maps, wideKeys, modest, calm, conditions, laid).
  DERIVED. THE GIVEN ROWS OF THIS SEAT. 2 by the template 'for every input the law returns true; each argument reads behind the call as it read before'; 0 by the template 'total and deterministic' (their statements: YtpbaodjmkdcihaaTotals.lean).
  GIVEN WITH THE SEED: the statements are not yours to turn. If you find one false, say at which input.
  Laid BY PROGRAM, IN A SANDBOX (cutbox-rows.mjs): the forced cells as the released guide's own fill.sh prints them over the translation 0a5b1c492b53ffcd… (all of the seat's roots in one cut). By AI agents, Wed Nov 11 2026. No macro, syntax, notation, axiom, sorry.
-/
import Derived.Test.YtpbaodjmkdcihaaChecked
import GoSem.Claim
import GoSem.ClaimJoined
import GoSem.ClaimMapViews
import Derived.JoinedTies
import Derived.KernelRfl
namespace Go.Proofs.Ytpbaodjmkdcihaa
/- THE CELL 'sum', in the pinned program and in every row, IS THE sha256 OF THE DUMP (.gsa) THAT YtpbaodjmkdcihaaProg.lean LOADS. Nothing in Lean hashes anything: it is a label: what it is worth is what the hold of that sum in a sandbox is worth. -/
noncomputable def Try.pinned : Pinned := { name := "ytpbaodjmkdcihaa", sum := "0a5b1c492b53ffcdabd62efb404c044ebe48215c4eb05659758bfe244dee543d", checked := Try.checked }
namespace Rows
def none {H : Type} : Left H := { results := [], args := [] }

/-- 'rootstocklaw11.BigTells': WHATEVER THE INPUT: true; the input reads as it did. -/
def bigTellsSpec : ChangeSpec := { name := "bigTells", fn := fun _ => fun
  | [d1, d2, d3, d4, d5, d6] => { results := [.lit (.bool true)], args := [d1, d2, d3, d4, d5, d6] }
  | _ => none }
def bigTellsRow : OpenClaim := { program := "ytpbaodjmkdcihaa", sum := "0a5b1c492b53ffcdabd62efb404c044ebe48215c4eb05659758bfe244dee543d", func := "rootstock/rootstocklaw11.BigTells", spec := "bigTells", inPlace := ["internal/abi.NoEscape"], unfollowed := true, recurses := true, apart := false }
def BigTellsSaid : Prop := bigTellsRow.holds Try.pinned (OpenSpec.ofChange bigTellsSpec)

/-- ITS FALSE NEIGHBOUR: 'it returns false'. Refute it at one input. -/
def bigTellsWrong : ChangeSpec := { name := "bigTells", fn := fun _ => fun
  | [d1, d2, d3, d4, d5, d6] => { results := [.lit (.bool false)], args := [d1, d2, d3, d4, d5, d6] }
  | _ => none }
def BigTellsWrongFalsely : Prop := bigTellsRow.holds Try.pinned (OpenSpec.ofChange bigTellsWrong)

/-- 'rootstocklaw11.BigParts': WHATEVER THE INPUT: true; the input reads as it did. -/
def bigPartsSpec : ChangeSpec := { name := "bigParts", fn := fun _ => fun
  | [d1, d2, d3] => { results := [.lit (.bool true)], args := [d1, d2, d3] }
  | _ => none }
def bigPartsRow : OpenClaim := { program := "ytpbaodjmkdcihaa", sum := "0a5b1c492b53ffcdabd62efb404c044ebe48215c4eb05659758bfe244dee543d", func := "rootstock/rootstocklaw11.BigParts", spec := "bigParts", apart := false }
def BigPartsSaid : Prop := bigPartsRow.holds Try.pinned (OpenSpec.ofChange bigPartsSpec)

/-- ITS FALSE NEIGHBOUR: 'it returns false'. Refute it at one input. -/
def bigPartsWrong : ChangeSpec := { name := "bigParts", fn := fun _ => fun
  | [d1, d2, d3] => { results := [.lit (.bool false)], args := [d1, d2, d3] }
  | _ => none }
def BigPartsWrongFalsely : Prop := bigPartsRow.holds Try.pinned (OpenSpec.ofChange bigPartsWrong)

/- THE SECOND FORM. 'bulk': how many values and letters a reading holds, each counted each time it is reached (what is shared counts as often as it is met; a slice's spare places count too). A statement '..UptoSaid' is the law's where the arguments, and the package variables that the reading takes, are together of bulk at most 1048576: NARROWER than '..Said'. Prove '..Said' where nothing that the law and all that it calls make is longer than what came in: it says more and counts as full. Else prove '..UptoSaid'. A law counts once. -/
mutual
def uptoBulk {H : Type} : DataW H → Nat
  | .lit (.string bytes) => bytes.length + 1
  | .lit _ => 1
  | .nil => 1
  | .ptr d => uptoBulk d + 1
  | .slice elems spare => uptoBulkAll elems + uptoBulkAll spare + 1
  | .agg parts => uptoBulkAll parts + 1
  | .iface _ d => uptoBulk d + 1
  | .map entries => uptoBulkEntries entries + 1
  | .held _ => 1
def uptoBulkAll {H : Type} : List (DataW H) → Nat
  | [] => 0
  | d :: r => uptoBulk d + uptoBulkAll r
def uptoBulkEntries {H : Type} : List (Lit × DataW H) → Nat
  | [] => 0
  | x :: r => uptoBulkEntry x + uptoBulkEntries r
def uptoBulkEntry {H : Type} : Lit × DataW H → Nat
  | (.string bytes, d) => bytes.length + uptoBulk d + 1
  | (_, d) => uptoBulk d + 1
 end
def uptoSmall : (H : Type) → List (DataW H) → Bool := fun _ ds => decide (uptoBulkAll ds ≤ 1048576)
def OpenSpec.upto (s : _root_.Go.ChangeSpec) : _root_.Go.OpenSpec := { _root_.Go.OpenSpec.ofChange s with cond := some uptoSmall }

/-- 'rootstocklaw11.BigTells', WHERE WHAT IT READS IS OF BULK AT MOST 1048576: true; the input reads as it did. -/
def bigTellsUptoRow : OpenClaim := { program := "ytpbaodjmkdcihaa", sum := "0a5b1c492b53ffcdabd62efb404c044ebe48215c4eb05659758bfe244dee543d", func := "rootstock/rootstocklaw11.BigTells", spec := "bigTells", inPlace := ["internal/abi.NoEscape"], unfollowed := true, recurses := true, apart := false, narrowed := true }
def BigTellsUptoSaid : Prop := bigTellsUptoRow.holds Try.pinned (OpenSpec.upto bigTellsSpec)

/-- 'rootstocklaw11.BigParts', WHERE WHAT IT READS IS OF BULK AT MOST 1048576: true; the input reads as it did. -/
def bigPartsUptoRow : OpenClaim := { program := "ytpbaodjmkdcihaa", sum := "0a5b1c492b53ffcdabd62efb404c044ebe48215c4eb05659758bfe244dee543d", func := "rootstock/rootstocklaw11.BigParts", spec := "bigParts", apart := false, narrowed := true }
def BigPartsUptoSaid : Prop := bigPartsUptoRow.holds Try.pinned (OpenSpec.upto bigPartsSpec)

end Rows
end Go.Proofs.Ytpbaodjmkdcihaa
