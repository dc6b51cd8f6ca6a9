/-
  No cell of these rows narrows 'for every input' (looked for: loops, veiled, ifaces, maps, wideKeys, modest, calm, conditions, laid).
  DERIVED. THE GIVEN ROWS OF THIS SEAT. 5 by the template 'for every input the law returns true; each argument reads behind the call as it read before'; 0 by the template 'total and deterministic' (their statements: YtapcecjbmcoliaaTotals.lean).
  GIVEN WITH THE SEED: the statements are not yours to turn. If you find one false, say at which input.
  Laid BY PROGRAM, IN A SANDBOX (cutbox-rows.mjs): the forced cells as the released guide's own fill.sh prints them over the translation f23dbed77640dabe… (all of the seat's roots in one cut). By AI agents, Wed Nov 11 2026. No macro, syntax, notation, axiom, sorry.
-/
import Derived.Test.YtapcecjbmcoliaaChecked
import GoSem.Claim
import GoSem.ClaimJoined
import GoSem.ClaimMapViews
import Derived.JoinedTies
import Derived.KernelRfl
namespace Go.Proofs.Ytapcecjbmcoliaa
/- THE CELL 'sum', in the pinned program and in every row, IS THE sha256 OF THE DUMP (.gsa) THAT YtapcecjbmcoliaaProg.lean LOADS. Nothing in Lean hashes anything: it is a label: what it is worth is what the hold of that sum in a sandbox is worth. -/
noncomputable def Try.pinned : Pinned := { name := "ytapcecjbmcoliaa", sum := "f23dbed77640dabec49b5d0695351b0effc9512362687f750610021bd4671c87", checked := Try.checked }
namespace Rows
def none {H : Type} : Left H := { results := [], args := [] }

/-- 'sparselaw12.GraphMade': WHATEVER THE INPUT: true; the input reads as it did. -/
def graphMadeSpec : ChangeSpec := { name := "graphMade", fn := fun _ => fun
  | [d1, d2, d3, d4] => { results := [.lit (.bool true)], args := [d1, d2, d3, d4] }
  | _ => none }
def graphMadeRow : OpenClaim := { program := "ytapcecjbmcoliaa", sum := "f23dbed77640dabec49b5d0695351b0effc9512362687f750610021bd4671c87", func := "sparse/sparselaw12.GraphMade", spec := "graphMade", unfollowed := true, recurses := true, apart := false }
def GraphMadeSaid : Prop := graphMadeRow.holds Try.pinned (OpenSpec.ofChange graphMadeSpec)

/-- ITS FALSE NEIGHBOUR: 'it returns false'. Refute it at one input. -/
def graphMadeWrong : ChangeSpec := { name := "graphMade", fn := fun _ => fun
  | [d1, d2, d3, d4] => { results := [.lit (.bool false)], args := [d1, d2, d3, d4] }
  | _ => none }
def GraphMadeWrongFalsely : Prop := graphMadeRow.holds Try.pinned (OpenSpec.ofChange graphMadeWrong)

/-- 'sparselaw12.GraphLevels': WHATEVER THE INPUT: true; the input reads as it did. -/
def graphLevelsSpec : ChangeSpec := { name := "graphLevels", fn := fun _ => fun
  | [d1, d2, d3] => { results := [.lit (.bool true)], args := [d1, d2, d3] }
  | _ => none }
def graphLevelsRow : OpenClaim := { program := "ytapcecjbmcoliaa", sum := "f23dbed77640dabec49b5d0695351b0effc9512362687f750610021bd4671c87", func := "sparse/sparselaw12.GraphLevels", spec := "graphLevels", unfollowed := true, recurses := true, apart := false }
def GraphLevelsSaid : Prop := graphLevelsRow.holds Try.pinned (OpenSpec.ofChange graphLevelsSpec)

/-- ITS FALSE NEIGHBOUR: 'it returns false'. Refute it at one input. -/
def graphLevelsWrong : ChangeSpec := { name := "graphLevels", fn := fun _ => fun
  | [d1, d2, d3] => { results := [.lit (.bool false)], args := [d1, d2, d3] }
  | _ => none }
def GraphLevelsWrongFalsely : Prop := graphLevelsRow.holds Try.pinned (OpenSpec.ofChange graphLevelsWrong)

/-- 'sparselaw12.GraphComponents': WHATEVER THE INPUT: true; the input reads as it did. -/
def graphComponentsSpec : ChangeSpec := { name := "graphComponents", fn := fun _ => fun
  | [d1, d2] => { results := [.lit (.bool true)], args := [d1, d2] }
  | _ => none }
def graphComponentsRow : OpenClaim := { program := "ytapcecjbmcoliaa", sum := "f23dbed77640dabec49b5d0695351b0effc9512362687f750610021bd4671c87", func := "sparse/sparselaw12.GraphComponents", spec := "graphComponents", unfollowed := true, recurses := true, apart := false }
def GraphComponentsSaid : Prop := graphComponentsRow.holds Try.pinned (OpenSpec.ofChange graphComponentsSpec)

/-- ITS FALSE NEIGHBOUR: 'it returns false'. Refute it at one input. -/
def graphComponentsWrong : ChangeSpec := { name := "graphComponents", fn := fun _ => fun
  | [d1, d2] => { results := [.lit (.bool false)], args := [d1, d2] }
  | _ => none }
def GraphComponentsWrongFalsely : Prop := graphComponentsRow.holds Try.pinned (OpenSpec.ofChange graphComponentsWrong)

/-- 'sparselaw12.GraphPeripheral': WHATEVER THE INPUT: true; the input reads as it did. -/
def graphPeripheralSpec : ChangeSpec := { name := "graphPeripheral", fn := fun _ => fun
  | [d1, d2, d3] => { results := [.lit (.bool true)], args := [d1, d2, d3] }
  | _ => none }
def graphPeripheralRow : OpenClaim := { program := "ytapcecjbmcoliaa", sum := "f23dbed77640dabec49b5d0695351b0effc9512362687f750610021bd4671c87", func := "sparse/sparselaw12.GraphPeripheral", spec := "graphPeripheral", unfollowed := true, recurses := true, apart := false }
def GraphPeripheralSaid : Prop := graphPeripheralRow.holds Try.pinned (OpenSpec.ofChange graphPeripheralSpec)

/-- ITS FALSE NEIGHBOUR: 'it returns false'. Refute it at one input. -/
def graphPeripheralWrong : ChangeSpec := { name := "graphPeripheral", fn := fun _ => fun
  | [d1, d2, d3] => { results := [.lit (.bool false)], args := [d1, d2, d3] }
  | _ => none }
def GraphPeripheralWrongFalsely : Prop := graphPeripheralRow.holds Try.pinned (OpenSpec.ofChange graphPeripheralWrong)

/-- 'sparselaw16.MindegAny': WHATEVER THE INPUT: true; the input reads as it did. -/
def mindegAnySpec : ChangeSpec := { name := "mindegAny", fn := fun _ => fun
  | [d1, d2] => { results := [.lit (.bool true)], args := [d1, d2] }
  | _ => none }
def mindegAnyRow : OpenClaim := { program := "ytapcecjbmcoliaa", sum := "f23dbed77640dabec49b5d0695351b0effc9512362687f750610021bd4671c87", func := "sparse/sparselaw16.MindegAny", spec := "mindegAny", unfollowed := true, recurses := true, apart := false }
def MindegAnySaid : Prop := mindegAnyRow.holds Try.pinned (OpenSpec.ofChange mindegAnySpec)

/-- ITS FALSE NEIGHBOUR: 'it returns false'. Refute it at one input. -/
def mindegAnyWrong : ChangeSpec := { name := "mindegAny", fn := fun _ => fun
  | [d1, d2] => { results := [.lit (.bool false)], args := [d1, d2] }
  | _ => none }
def MindegAnyWrongFalsely : Prop := mindegAnyRow.holds Try.pinned (OpenSpec.ofChange mindegAnyWrong)

/- THE SECOND FORM. 'bulk': how many values and letters a reading holds, each counted each time it is reached (what is shared counts as often as it is met; a slice's spare places count too). A statement '..UptoSaid' is the law's where the arguments, and the package variables that the reading takes, are together of bulk at most 1048576: NARROWER than '..Said'. Prove '..Said' where nothing that the law and all that it calls make is longer than what came in: it says more and counts as full. Else prove '..UptoSaid'. A law counts once. -/
mutual
def uptoBulk {H : Type} : DataW H → Nat
  | .lit (.string bytes) => bytes.length + 1
  | .lit _ => 1
  | .nil => 1
  | .ptr d => uptoBulk d + 1
  | .slice elems spare => uptoBulkAll elems + uptoBulkAll spare + 1
  | .agg parts => uptoBulkAll parts + 1
  | .iface _ d => uptoBulk d + 1
  | .map entries => uptoBulkEntries entries + 1
  | .held _ => 1
def uptoBulkAll {H : Type} : List (DataW H) → Nat
  | [] => 0
  | d :: r => uptoBulk d + uptoBulkAll r
def uptoBulkEntries {H : Type} : List (Lit × DataW H) → Nat
  | [] => 0
  | x :: r => uptoBulkEntry x + uptoBulkEntries r
def uptoBulkEntry {H : Type} : Lit × DataW H → Nat
  | (.string bytes, d) => bytes.length + uptoBulk d + 1
  | (_, d) => uptoBulk d + 1
 end
def uptoSmall : (H : Type) → List (DataW H) → Bool := fun _ ds => decide (uptoBulkAll ds ≤ 1048576)
def OpenSpec.upto (s : _root_.Go.ChangeSpec) : _root_.Go.OpenSpec := { _root_.Go.OpenSpec.ofChange s with cond := some uptoSmall }

/-- 'sparselaw12.GraphMade', WHERE WHAT IT READS IS OF BULK AT MOST 1048576: true; the input reads as it did. -/
def graphMadeUptoRow : OpenClaim := { program := "ytapcecjbmcoliaa", sum := "f23dbed77640dabec49b5d0695351b0effc9512362687f750610021bd4671c87", func := "sparse/sparselaw12.GraphMade", spec := "graphMade", unfollowed := true, recurses := true, apart := false, narrowed := true }
def GraphMadeUptoSaid : Prop := graphMadeUptoRow.holds Try.pinned (OpenSpec.upto graphMadeSpec)

/-- 'sparselaw12.GraphLevels', WHERE WHAT IT READS IS OF BULK AT MOST 1048576: true; the input reads as it did. -/
def graphLevelsUptoRow : OpenClaim := { program := "ytapcecjbmcoliaa", sum := "f23dbed77640dabec49b5d0695351b0effc9512362687f750610021bd4671c87", func := "sparse/sparselaw12.GraphLevels", spec := "graphLevels", unfollowed := true, recurses := true, apart := false, narrowed := true }
def GraphLevelsUptoSaid : Prop := graphLevelsUptoRow.holds Try.pinned (OpenSpec.upto graphLevelsSpec)

/-- 'sparselaw12.GraphComponents', WHERE WHAT IT READS IS OF BULK AT MOST 1048576: true; the input reads as it did. -/
def graphComponentsUptoRow : OpenClaim := { program := "ytapcecjbmcoliaa", sum := "f23dbed77640dabec49b5d0695351b0effc9512362687f750610021bd4671c87", func := "sparse/sparselaw12.GraphComponents", spec := "graphComponents", unfollowed := true, recurses := true, apart := false, narrowed := true }
def GraphComponentsUptoSaid : Prop := graphComponentsUptoRow.holds Try.pinned (OpenSpec.upto graphComponentsSpec)

/-- 'sparselaw12.GraphPeripheral', WHERE WHAT IT READS IS OF BULK AT MOST 1048576: true; the input reads as it did. -/
def graphPeripheralUptoRow : OpenClaim := { program := "ytapcecjbmcoliaa", sum := "f23dbed77640dabec49b5d0695351b0effc9512362687f750610021bd4671c87", func := "sparse/sparselaw12.GraphPeripheral", spec := "graphPeripheral", unfollowed := true, recurses := true, apart := false, narrowed := true }
def GraphPeripheralUptoSaid : Prop := graphPeripheralUptoRow.holds Try.pinned (OpenSpec.upto graphPeripheralSpec)

/-- 'sparselaw16.MindegAny', WHERE WHAT IT READS IS OF BULK AT MOST 1048576: true; the input reads as it did. -/
def mindegAnyUptoRow : OpenClaim := { program := "ytapcecjbmcoliaa", sum := "f23dbed77640dabec49b5d0695351b0effc9512362687f750610021bd4671c87", func := "sparse/sparselaw16.MindegAny", spec := "mindegAny", unfollowed := true, recurses := true, apart := false, narrowed := true }
def MindegAnyUptoSaid : Prop := mindegAnyUptoRow.holds Try.pinned (OpenSpec.upto mindegAnySpec)

end Rows
end Go.Proofs.Ytapcecjbmcoliaa
