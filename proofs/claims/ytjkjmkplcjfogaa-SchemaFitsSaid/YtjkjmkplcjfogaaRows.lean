/-
  NARROWER THAN 'FOR EVERY INPUT', by the rows' own cells (each row's printed sentence says how): PredicateColumns: loops · SchemaChecks: loops · SchemaFinds: loops · SchemaFits: loops.
  DERIVED. THE GIVEN ROWS OF THIS SEAT. 6 by the template 'for every input the law returns true; each argument reads behind the call as it read before'; 0 by the template 'total and deterministic' (their statements: YtjkjmkplcjfogaaTotals.lean).
  GIVEN WITH THE SEED: the statements are not yours to turn. If you find one false, say at which input.
  Laid BY PROGRAM, IN A SANDBOX (cutbox-rows.mjs): the forced cells as the released guide's own fill.sh prints them over the translation 86793ceae59febd7… (all of the seat's roots in one cut). By AI agents, Wed Nov 11 2026. No macro, syntax, notation, axiom, sorry.
-/
import Derived.Test.YtjkjmkplcjfogaaChecked
import GoSem.Claim
import GoSem.ClaimJoined
import GoSem.ClaimMapViews
import Derived.JoinedTies
import Derived.KernelRfl
namespace Go.Proofs.Ytjkjmkplcjfogaa
/- THE CELL 'sum', in the pinned program and in every row, IS THE sha256 OF THE DUMP (.gsa) THAT YtjkjmkplcjfogaaProg.lean LOADS. Nothing in Lean hashes anything: it is a label: what it is worth is what the hold of that sum in a sandbox is worth. -/
noncomputable def Try.pinned : Pinned := { name := "ytjkjmkplcjfogaa", sum := "86793ceae59febd7ca89d3910607696e29dac980dd0c6e2fb31d90a6cad0c8ce", checked := Try.checked }
namespace Rows
def none {H : Type} : Left H := { results := [], args := [] }

/-- 'partsynclaw05.PredicateColumns': WHATEVER THE INPUT: true; the input reads as it did. -/
def predicateColumnsSpec : ChangeSpec := { name := "predicateColumns", fn := fun _ => fun
  | [d1, d2] => { results := [.lit (.bool true)], args := [d1, d2] }
  | _ => none }
def predicateColumnsRow : OpenClaim := { program := "ytjkjmkplcjfogaa", sum := "86793ceae59febd7ca89d3910607696e29dac980dd0c6e2fb31d90a6cad0c8ce", func := "partsync/partsynclaw05.PredicateColumns", spec := "predicateColumns", unfollowed := true, recurses := true, loops := true, apart := false }
def PredicateColumnsSaid : Prop := predicateColumnsRow.holds Try.pinned (OpenSpec.ofChange predicateColumnsSpec)

/-- ITS FALSE NEIGHBOUR: 'it returns false'. Refute it at one input. -/
def predicateColumnsWrong : ChangeSpec := { name := "predicateColumns", fn := fun _ => fun
  | [d1, d2] => { results := [.lit (.bool false)], args := [d1, d2] }
  | _ => none }
def PredicateColumnsWrongFalsely : Prop := predicateColumnsRow.holds Try.pinned (OpenSpec.ofChange predicateColumnsWrong)

/-- 'partsynclaw07.SchemaChecks': WHATEVER THE INPUT: true; the input reads as it did. -/
def schemaChecksSpec : ChangeSpec := { name := "schemaChecks", fn := fun _ => fun
  | [d1, d2] => { results := [.lit (.bool true)], args := [d1, d2] }
  | _ => none }
def schemaChecksRow : OpenClaim := { program := "ytjkjmkplcjfogaa", sum := "86793ceae59febd7ca89d3910607696e29dac980dd0c6e2fb31d90a6cad0c8ce", func := "partsync/partsynclaw07.SchemaChecks", spec := "schemaChecks", unfollowed := true, recurses := true, loops := true, apart := false }
def SchemaChecksSaid : Prop := schemaChecksRow.holds Try.pinned (OpenSpec.ofChange schemaChecksSpec)

/-- ITS FALSE NEIGHBOUR: 'it returns false'. Refute it at one input. -/
def schemaChecksWrong : ChangeSpec := { name := "schemaChecks", fn := fun _ => fun
  | [d1, d2] => { results := [.lit (.bool false)], args := [d1, d2] }
  | _ => none }
def SchemaChecksWrongFalsely : Prop := schemaChecksRow.holds Try.pinned (OpenSpec.ofChange schemaChecksWrong)

/-- 'partsynclaw07.SchemaNames': WHATEVER THE INPUT: true; the input reads as it did. -/
def schemaNamesSpec : ChangeSpec := { name := "schemaNames", fn := fun _ => fun
  | [d1, d2] => { results := [.lit (.bool true)], args := [d1, d2] }
  | _ => none }
def schemaNamesRow : OpenClaim := { program := "ytjkjmkplcjfogaa", sum := "86793ceae59febd7ca89d3910607696e29dac980dd0c6e2fb31d90a6cad0c8ce", func := "partsync/partsynclaw07.SchemaNames", spec := "schemaNames", unfollowed := true, recurses := true, apart := false }
def SchemaNamesSaid : Prop := schemaNamesRow.holds Try.pinned (OpenSpec.ofChange schemaNamesSpec)

/-- ITS FALSE NEIGHBOUR: 'it returns false'. Refute it at one input. -/
def schemaNamesWrong : ChangeSpec := { name := "schemaNames", fn := fun _ => fun
  | [d1, d2] => { results := [.lit (.bool false)], args := [d1, d2] }
  | _ => none }
def SchemaNamesWrongFalsely : Prop := schemaNamesRow.holds Try.pinned (OpenSpec.ofChange schemaNamesWrong)

/-- 'partsynclaw07.SchemaFinds': WHATEVER THE INPUT: true; the input reads as it did. -/
def schemaFindsSpec : ChangeSpec := { name := "schemaFinds", fn := fun _ => fun
  | [d1, d2, d3, d4, d5] => { results := [.lit (.bool true)], args := [d1, d2, d3, d4, d5] }
  | _ => none }
def schemaFindsRow : OpenClaim := { program := "ytjkjmkplcjfogaa", sum := "86793ceae59febd7ca89d3910607696e29dac980dd0c6e2fb31d90a6cad0c8ce", func := "partsync/partsynclaw07.SchemaFinds", spec := "schemaFinds", unfollowed := true, recurses := true, loops := true, apart := false }
def SchemaFindsSaid : Prop := schemaFindsRow.holds Try.pinned (OpenSpec.ofChange schemaFindsSpec)

/-- ITS FALSE NEIGHBOUR: 'it returns false'. Refute it at one input. -/
def schemaFindsWrong : ChangeSpec := { name := "schemaFinds", fn := fun _ => fun
  | [d1, d2, d3, d4, d5] => { results := [.lit (.bool false)], args := [d1, d2, d3, d4, d5] }
  | _ => none }
def SchemaFindsWrongFalsely : Prop := schemaFindsRow.holds Try.pinned (OpenSpec.ofChange schemaFindsWrong)

/-- 'partsynclaw07.SchemaFits': WHATEVER THE INPUT: true; the input reads as it did. -/
def schemaFitsSpec : ChangeSpec := { name := "schemaFits", fn := fun _ => fun
  | [d1, d2, d3, d4, d5] => { results := [.lit (.bool true)], args := [d1, d2, d3, d4, d5] }
  | _ => none }
def schemaFitsRow : OpenClaim := { program := "ytjkjmkplcjfogaa", sum := "86793ceae59febd7ca89d3910607696e29dac980dd0c6e2fb31d90a6cad0c8ce", func := "partsync/partsynclaw07.SchemaFits", spec := "schemaFits", unfollowed := true, recurses := true, loops := true, apart := false }
def SchemaFitsSaid : Prop := schemaFitsRow.holds Try.pinned (OpenSpec.ofChange schemaFitsSpec)

/-- ITS FALSE NEIGHBOUR: 'it returns false'. Refute it at one input. -/
def schemaFitsWrong : ChangeSpec := { name := "schemaFits", fn := fun _ => fun
  | [d1, d2, d3, d4, d5] => { results := [.lit (.bool false)], args := [d1, d2, d3, d4, d5] }
  | _ => none }
def SchemaFitsWrongFalsely : Prop := schemaFitsRow.holds Try.pinned (OpenSpec.ofChange schemaFitsWrong)

/-- 'partsynclaw07.SchemaModes': WHATEVER THE INPUT: true; the input reads as it did. -/
def schemaModesSpec : ChangeSpec := { name := "schemaModes", fn := fun _ => fun
  | [d1, d2] => { results := [.lit (.bool true)], args := [d1, d2] }
  | _ => none }
def schemaModesRow : OpenClaim := { program := "ytjkjmkplcjfogaa", sum := "86793ceae59febd7ca89d3910607696e29dac980dd0c6e2fb31d90a6cad0c8ce", func := "partsync/partsynclaw07.SchemaModes", spec := "schemaModes", unfollowed := true, recurses := true, apart := false }
def SchemaModesSaid : Prop := schemaModesRow.holds Try.pinned (OpenSpec.ofChange schemaModesSpec)

/-- ITS FALSE NEIGHBOUR: 'it returns false'. Refute it at one input. -/
def schemaModesWrong : ChangeSpec := { name := "schemaModes", fn := fun _ => fun
  | [d1, d2] => { results := [.lit (.bool false)], args := [d1, d2] }
  | _ => none }
def SchemaModesWrongFalsely : Prop := schemaModesRow.holds Try.pinned (OpenSpec.ofChange schemaModesWrong)

/- THE SECOND FORM. 'bulk': how many values and letters a reading holds, each counted each time it is reached (what is shared counts as often as it is met; a slice's spare places count too). A statement '..UptoSaid' is the law's where the arguments, and the package variables that the reading takes, are together of bulk at most 1048576: NARROWER than '..Said'. Prove '..Said' where nothing that the law and all that it calls make is longer than what came in: it says more and counts as full. Else prove '..UptoSaid'. A law counts once. -/
mutual
def uptoBulk {H : Type} : DataW H → Nat
  | .lit (.string bytes) => bytes.length + 1
  | .lit _ => 1
  | .nil => 1
  | .ptr d => uptoBulk d + 1
  | .slice elems spare => uptoBulkAll elems + uptoBulkAll spare + 1
  | .agg parts => uptoBulkAll parts + 1
  | .iface _ d => uptoBulk d + 1
  | .map entries => uptoBulkEntries entries + 1
  | .held _ => 1
def uptoBulkAll {H : Type} : List (DataW H) → Nat
  | [] => 0
  | d :: r => uptoBulk d + uptoBulkAll r
def uptoBulkEntries {H : Type} : List (Lit × DataW H) → Nat
  | [] => 0
  | x :: r => uptoBulkEntry x + uptoBulkEntries r
def uptoBulkEntry {H : Type} : Lit × DataW H → Nat
  | (.string bytes, d) => bytes.length + uptoBulk d + 1
  | (_, d) => uptoBulk d + 1
 end
def uptoSmall : (H : Type) → List (DataW H) → Bool := fun _ ds => decide (uptoBulkAll ds ≤ 1048576)
def OpenSpec.upto (s : _root_.Go.ChangeSpec) : _root_.Go.OpenSpec := { _root_.Go.OpenSpec.ofChange s with cond := some uptoSmall }

/-- 'partsynclaw05.PredicateColumns', WHERE WHAT IT READS IS OF BULK AT MOST 1048576: true; the input reads as it did. -/
def predicateColumnsUptoRow : OpenClaim := { program := "ytjkjmkplcjfogaa", sum := "86793ceae59febd7ca89d3910607696e29dac980dd0c6e2fb31d90a6cad0c8ce", func := "partsync/partsynclaw05.PredicateColumns", spec := "predicateColumns", unfollowed := true, recurses := true, loops := true, apart := false, narrowed := true }
def PredicateColumnsUptoSaid : Prop := predicateColumnsUptoRow.holds Try.pinned (OpenSpec.upto predicateColumnsSpec)

/-- 'partsynclaw07.SchemaChecks', WHERE WHAT IT READS IS OF BULK AT MOST 1048576: true; the input reads as it did. -/
def schemaChecksUptoRow : OpenClaim := { program := "ytjkjmkplcjfogaa", sum := "86793ceae59febd7ca89d3910607696e29dac980dd0c6e2fb31d90a6cad0c8ce", func := "partsync/partsynclaw07.SchemaChecks", spec := "schemaChecks", unfollowed := true, recurses := true, loops := true, apart := false, narrowed := true }
def SchemaChecksUptoSaid : Prop := schemaChecksUptoRow.holds Try.pinned (OpenSpec.upto schemaChecksSpec)

/-- 'partsynclaw07.SchemaNames', WHERE WHAT IT READS IS OF BULK AT MOST 1048576: true; the input reads as it did. -/
def schemaNamesUptoRow : OpenClaim := { program := "ytjkjmkplcjfogaa", sum := "86793ceae59febd7ca89d3910607696e29dac980dd0c6e2fb31d90a6cad0c8ce", func := "partsync/partsynclaw07.SchemaNames", spec := "schemaNames", unfollowed := true, recurses := true, apart := false, narrowed := true }
def SchemaNamesUptoSaid : Prop := schemaNamesUptoRow.holds Try.pinned (OpenSpec.upto schemaNamesSpec)

/-- 'partsynclaw07.SchemaFinds', WHERE WHAT IT READS IS OF BULK AT MOST 1048576: true; the input reads as it did. -/
def schemaFindsUptoRow : OpenClaim := { program := "ytjkjmkplcjfogaa", sum := "86793ceae59febd7ca89d3910607696e29dac980dd0c6e2fb31d90a6cad0c8ce", func := "partsync/partsynclaw07.SchemaFinds", spec := "schemaFinds", unfollowed := true, recurses := true, loops := true, apart := false, narrowed := true }
def SchemaFindsUptoSaid : Prop := schemaFindsUptoRow.holds Try.pinned (OpenSpec.upto schemaFindsSpec)

/-- 'partsynclaw07.SchemaFits', WHERE WHAT IT READS IS OF BULK AT MOST 1048576: true; the input reads as it did. -/
def schemaFitsUptoRow : OpenClaim := { program := "ytjkjmkplcjfogaa", sum := "86793ceae59febd7ca89d3910607696e29dac980dd0c6e2fb31d90a6cad0c8ce", func := "partsync/partsynclaw07.SchemaFits", spec := "schemaFits", unfollowed := true, recurses := true, loops := true, apart := false, narrowed := true }
def SchemaFitsUptoSaid : Prop := schemaFitsUptoRow.holds Try.pinned (OpenSpec.upto schemaFitsSpec)

/-- 'partsynclaw07.SchemaModes', WHERE WHAT IT READS IS OF BULK AT MOST 1048576: true; the input reads as it did. -/
def schemaModesUptoRow : OpenClaim := { program := "ytjkjmkplcjfogaa", sum := "86793ceae59febd7ca89d3910607696e29dac980dd0c6e2fb31d90a6cad0c8ce", func := "partsync/partsynclaw07.SchemaModes", spec := "schemaModes", unfollowed := true, recurses := true, apart := false, narrowed := true }
def SchemaModesUptoSaid : Prop := schemaModesUptoRow.holds Try.pinned (OpenSpec.upto schemaModesSpec)

end Rows
end Go.Proofs.Ytjkjmkplcjfogaa
