/-
  No cell of these rows narrows 'for every input' (looked for: loops, veiled, ifaces, maps, wideKeys, modest, calm, conditions, laid).
  DERIVED. THE GIVEN ROWS OF THIS SEAT. 5 by the template 'for every input the law returns true; each argument reads behind the call as it read before'; 0 by the template 'total and deterministic' (their statements: YtmhgmlnnipdomaaTotals.lean).
  GIVEN WITH THE SEED: the statements are not yours to turn. If you find one false, say at which input.
  Laid BY PROGRAM, IN A SANDBOX (cutbox-rows.mjs): the forced cells as the released guide's own fill.sh prints them over the translation bfbc1dc405f7bf74… (all of the seat's roots in one cut). By AI agents, Wed Nov 11 2026. No macro, syntax, notation, axiom, sorry.
-/
import Derived.Test.YtmhgmlnnipdomaaChecked
import GoSem.Claim
import GoSem.ClaimJoined
import GoSem.ClaimMapViews
import Derived.JoinedTies
import Derived.KernelRfl
namespace Go.Proofs.Ytmhgmlnnipdomaa
/- THE CELL 'sum', in the pinned program and in every row, IS THE sha256 OF THE DUMP (.gsa) THAT YtmhgmlnnipdomaaProg.lean LOADS. Nothing in Lean hashes anything: it is a label: what it is worth is what the hold of that sum in a sandbox is worth. -/
noncomputable def Try.pinned : Pinned := { name := "ytmhgmlnnipdomaa", sum := "bfbc1dc405f7bf7494e57c3eef802ec0e54ea6419540d49821f20cab456de58e", checked := Try.checked }
namespace Rows
def none {H : Type} : Left H := { results := [], args := [] }

/-- 'partsynclaw03.IntervalForms': WHATEVER THE INPUT: true; the input reads as it did. -/
def intervalFormsSpec : ChangeSpec := { name := "intervalForms", fn := fun _ => fun
  | [d1, d2, d3] => { results := [.lit (.bool true)], args := [d1, d2, d3] }
  | _ => none }
def intervalFormsRow : OpenClaim := { program := "ytmhgmlnnipdomaa", sum := "bfbc1dc405f7bf7494e57c3eef802ec0e54ea6419540d49821f20cab456de58e", func := "partsync/partsynclaw03.IntervalForms", spec := "intervalForms", unfollowed := true, recurses := true, apart := false }
def IntervalFormsSaid : Prop := intervalFormsRow.holds Try.pinned (OpenSpec.ofChange intervalFormsSpec)

/-- ITS FALSE NEIGHBOUR: 'it returns false'. Refute it at one input. -/
def intervalFormsWrong : ChangeSpec := { name := "intervalForms", fn := fun _ => fun
  | [d1, d2, d3] => { results := [.lit (.bool false)], args := [d1, d2, d3] }
  | _ => none }
def IntervalFormsWrongFalsely : Prop := intervalFormsRow.holds Try.pinned (OpenSpec.ofChange intervalFormsWrong)

/-- 'partsynclaw03.IntervalCombines': WHATEVER THE INPUT: true; the input reads as it did. -/
def intervalCombinesSpec : ChangeSpec := { name := "intervalCombines", fn := fun _ => fun
  | [d1, d2] => { results := [.lit (.bool true)], args := [d1, d2] }
  | _ => none }
def intervalCombinesRow : OpenClaim := { program := "ytmhgmlnnipdomaa", sum := "bfbc1dc405f7bf7494e57c3eef802ec0e54ea6419540d49821f20cab456de58e", func := "partsync/partsynclaw03.IntervalCombines", spec := "intervalCombines", unfollowed := true, recurses := true, apart := false }
def IntervalCombinesSaid : Prop := intervalCombinesRow.holds Try.pinned (OpenSpec.ofChange intervalCombinesSpec)

/-- ITS FALSE NEIGHBOUR: 'it returns false'. Refute it at one input. -/
def intervalCombinesWrong : ChangeSpec := { name := "intervalCombines", fn := fun _ => fun
  | [d1, d2] => { results := [.lit (.bool false)], args := [d1, d2] }
  | _ => none }
def IntervalCombinesWrongFalsely : Prop := intervalCombinesRow.holds Try.pinned (OpenSpec.ofChange intervalCombinesWrong)

/-- 'partsynclaw03.IntervalPoints': WHATEVER THE INPUT: true; the input reads as it did. -/
def intervalPointsSpec : ChangeSpec := { name := "intervalPoints", fn := fun _ => fun
  | [d] => { results := [.lit (.bool true)], args := [d] }
  | _ => none }
def intervalPointsRow : OpenClaim := { program := "ytmhgmlnnipdomaa", sum := "bfbc1dc405f7bf7494e57c3eef802ec0e54ea6419540d49821f20cab456de58e", func := "partsync/partsynclaw03.IntervalPoints", spec := "intervalPoints", unfollowed := true, recurses := true, apart := false }
def IntervalPointsSaid : Prop := intervalPointsRow.holds Try.pinned (OpenSpec.ofChange intervalPointsSpec)

/-- ITS FALSE NEIGHBOUR: 'it returns false'. Refute it at one input. -/
def intervalPointsWrong : ChangeSpec := { name := "intervalPoints", fn := fun _ => fun
  | [d] => { results := [.lit (.bool false)], args := [d] }
  | _ => none }
def IntervalPointsWrongFalsely : Prop := intervalPointsRow.holds Try.pinned (OpenSpec.ofChange intervalPointsWrong)

/-- 'partsynclaw03.IntervalAlgebra': WHATEVER THE INPUT: true; the input reads as it did. -/
def intervalAlgebraSpec : ChangeSpec := { name := "intervalAlgebra", fn := fun _ => fun
  | [d] => { results := [.lit (.bool true)], args := [d] }
  | _ => none }
def intervalAlgebraRow : OpenClaim := { program := "ytmhgmlnnipdomaa", sum := "bfbc1dc405f7bf7494e57c3eef802ec0e54ea6419540d49821f20cab456de58e", func := "partsync/partsynclaw03.IntervalAlgebra", spec := "intervalAlgebra", unfollowed := true, recurses := true, apart := false }
def IntervalAlgebraSaid : Prop := intervalAlgebraRow.holds Try.pinned (OpenSpec.ofChange intervalAlgebraSpec)

/-- ITS FALSE NEIGHBOUR: 'it returns false'. Refute it at one input. -/
def intervalAlgebraWrong : ChangeSpec := { name := "intervalAlgebra", fn := fun _ => fun
  | [d] => { results := [.lit (.bool false)], args := [d] }
  | _ => none }
def IntervalAlgebraWrongFalsely : Prop := intervalAlgebraRow.holds Try.pinned (OpenSpec.ofChange intervalAlgebraWrong)

/-- 'partsynclaw03.IntervalOnce': WHATEVER THE INPUT: true; the input reads as it did. -/
def intervalOnceSpec : ChangeSpec := { name := "intervalOnce", fn := fun _ => fun
  | [d] => { results := [.lit (.bool true)], args := [d] }
  | _ => none }
def intervalOnceRow : OpenClaim := { program := "ytmhgmlnnipdomaa", sum := "bfbc1dc405f7bf7494e57c3eef802ec0e54ea6419540d49821f20cab456de58e", func := "partsync/partsynclaw03.IntervalOnce", spec := "intervalOnce", unfollowed := true, recurses := true, apart := false }
def IntervalOnceSaid : Prop := intervalOnceRow.holds Try.pinned (OpenSpec.ofChange intervalOnceSpec)

/-- ITS FALSE NEIGHBOUR: 'it returns false'. Refute it at one input. -/
def intervalOnceWrong : ChangeSpec := { name := "intervalOnce", fn := fun _ => fun
  | [d] => { results := [.lit (.bool false)], args := [d] }
  | _ => none }
def IntervalOnceWrongFalsely : Prop := intervalOnceRow.holds Try.pinned (OpenSpec.ofChange intervalOnceWrong)

/- THE SECOND FORM. 'bulk': how many values and letters a reading holds, each counted each time it is reached (what is shared counts as often as it is met; a slice's spare places count too). A statement '..UptoSaid' is the law's where the arguments, and the package variables that the reading takes, are together of bulk at most 1048576: NARROWER than '..Said'. Prove '..Said' where nothing that the law and all that it calls make is longer than what came in: it says more and counts as full. Else prove '..UptoSaid'. A law counts once. -/
mutual
def uptoBulk {H : Type} : DataW H → Nat
  | .lit (.string bytes) => bytes.length + 1
  | .lit _ => 1
  | .nil => 1
  | .ptr d => uptoBulk d + 1
  | .slice elems spare => uptoBulkAll elems + uptoBulkAll spare + 1
  | .agg parts => uptoBulkAll parts + 1
  | .iface _ d => uptoBulk d + 1
  | .map entries => uptoBulkEntries entries + 1
  | .held _ => 1
def uptoBulkAll {H : Type} : List (DataW H) → Nat
  | [] => 0
  | d :: r => uptoBulk d + uptoBulkAll r
def uptoBulkEntries {H : Type} : List (Lit × DataW H) → Nat
  | [] => 0
  | x :: r => uptoBulkEntry x + uptoBulkEntries r
def uptoBulkEntry {H : Type} : Lit × DataW H → Nat
  | (.string bytes, d) => bytes.length + uptoBulk d + 1
  | (_, d) => uptoBulk d + 1
 end
def uptoSmall : (H : Type) → List (DataW H) → Bool := fun _ ds => decide (uptoBulkAll ds ≤ 1048576)
def OpenSpec.upto (s : _root_.Go.ChangeSpec) : _root_.Go.OpenSpec := { _root_.Go.OpenSpec.ofChange s with cond := some uptoSmall }

/-- 'partsynclaw03.IntervalForms', WHERE WHAT IT READS IS OF BULK AT MOST 1048576: true; the input reads as it did. -/
def intervalFormsUptoRow : OpenClaim := { program := "ytmhgmlnnipdomaa", sum := "bfbc1dc405f7bf7494e57c3eef802ec0e54ea6419540d49821f20cab456de58e", func := "partsync/partsynclaw03.IntervalForms", spec := "intervalForms", unfollowed := true, recurses := true, apart := false, narrowed := true }
def IntervalFormsUptoSaid : Prop := intervalFormsUptoRow.holds Try.pinned (OpenSpec.upto intervalFormsSpec)

/-- 'partsynclaw03.IntervalCombines', WHERE WHAT IT READS IS OF BULK AT MOST 1048576: true; the input reads as it did. -/
def intervalCombinesUptoRow : OpenClaim := { program := "ytmhgmlnnipdomaa", sum := "bfbc1dc405f7bf7494e57c3eef802ec0e54ea6419540d49821f20cab456de58e", func := "partsync/partsynclaw03.IntervalCombines", spec := "intervalCombines", unfollowed := true, recurses := true, apart := false, narrowed := true }
def IntervalCombinesUptoSaid : Prop := intervalCombinesUptoRow.holds Try.pinned (OpenSpec.upto intervalCombinesSpec)

/-- 'partsynclaw03.IntervalPoints', WHERE WHAT IT READS IS OF BULK AT MOST 1048576: true; the input reads as it did. -/
def intervalPointsUptoRow : OpenClaim := { program := "ytmhgmlnnipdomaa", sum := "bfbc1dc405f7bf7494e57c3eef802ec0e54ea6419540d49821f20cab456de58e", func := "partsync/partsynclaw03.IntervalPoints", spec := "intervalPoints", unfollowed := true, recurses := true, apart := false, narrowed := true }
def IntervalPointsUptoSaid : Prop := intervalPointsUptoRow.holds Try.pinned (OpenSpec.upto intervalPointsSpec)

/-- 'partsynclaw03.IntervalAlgebra', WHERE WHAT IT READS IS OF BULK AT MOST 1048576: true; the input reads as it did. -/
def intervalAlgebraUptoRow : OpenClaim := { program := "ytmhgmlnnipdomaa", sum := "bfbc1dc405f7bf7494e57c3eef802ec0e54ea6419540d49821f20cab456de58e", func := "partsync/partsynclaw03.IntervalAlgebra", spec := "intervalAlgebra", unfollowed := true, recurses := true, apart := false, narrowed := true }
def IntervalAlgebraUptoSaid : Prop := intervalAlgebraUptoRow.holds Try.pinned (OpenSpec.upto intervalAlgebraSpec)

/-- 'partsynclaw03.IntervalOnce', WHERE WHAT IT READS IS OF BULK AT MOST 1048576: true; the input reads as it did. -/
def intervalOnceUptoRow : OpenClaim := { program := "ytmhgmlnnipdomaa", sum := "bfbc1dc405f7bf7494e57c3eef802ec0e54ea6419540d49821f20cab456de58e", func := "partsync/partsynclaw03.IntervalOnce", spec := "intervalOnce", unfollowed := true, recurses := true, apart := false, narrowed := true }
def IntervalOnceUptoSaid : Prop := intervalOnceUptoRow.holds Try.pinned (OpenSpec.upto intervalOnceSpec)

end Rows
end Go.Proofs.Ytmhgmlnnipdomaa
