/-
  No cell of these rows narrows 'for every input' (looked for: loops, veiled, ifaces, maps, wideKeys, modest, calm, conditions, laid).
  DERIVED. THE GIVEN ROWS OF THIS SEAT. 7 by the template 'for every input the law returns true; each argument reads behind the call as it read before'; 0 by the template 'total and deterministic' (their statements: YtcfjgllkpfkhfaaTotals.lean).
  GIVEN WITH THE SEED: the statements are not yours to turn. If you find one false, say at which input.
  Laid BY PROGRAM, IN A SANDBOX (cutbox-rows.mjs): the forced cells as the released guide's own fill.sh prints them over the translation 1549fafe4591cecf… (all of the seat's roots in one cut). By AI agents, Wed Nov 11 2026. No macro, syntax, notation, axiom, sorry.
-/
import Derived.Test.YtcfjgllkpfkhfaaChecked
import GoSem.Claim
import GoSem.ClaimJoined
import GoSem.ClaimMapViews
import Derived.JoinedTies
import Derived.KernelRfl
namespace Go.Proofs.Ytcfjgllkpfkhfaa
/- THE CELL 'sum', in the pinned program and in every row, IS THE sha256 OF THE DUMP (.gsa) THAT YtcfjgllkpfkhfaaProg.lean LOADS. Nothing in Lean hashes anything: it is a label: what it is worth is what the hold of that sum in a sandbox is worth. -/
noncomputable def Try.pinned : Pinned := { name := "ytcfjgllkpfkhfaa", sum := "1549fafe4591cecfed8b94ca2fd2f6627210d0af9332cc788bea3db1a407a8e7", checked := Try.checked }
namespace Rows
def none {H : Type} : Left H := { results := [], args := [] }

/-- 'chafflaw07.TapeReads': WHATEVER THE INPUT: true; the input reads as it did. -/
def tapeReadsSpec : ChangeSpec := { name := "tapeReads", fn := fun _ => fun
  | [d1, d2] => { results := [.lit (.bool true)], args := [d1, d2] }
  | _ => none }
def tapeReadsRow : OpenClaim := { program := "ytcfjgllkpfkhfaa", sum := "1549fafe4591cecfed8b94ca2fd2f6627210d0af9332cc788bea3db1a407a8e7", func := "chaff/chafflaw07.TapeReads", spec := "tapeReads", inPlace := ["internal/abi.NoEscape", "internal/bytealg.MakeNoZero"], apart := false }
def TapeReadsSaid : Prop := tapeReadsRow.holds Try.pinned (OpenSpec.ofChange tapeReadsSpec)

/-- ITS FALSE NEIGHBOUR: 'it returns false'. Refute it at one input. -/
def tapeReadsWrong : ChangeSpec := { name := "tapeReads", fn := fun _ => fun
  | [d1, d2] => { results := [.lit (.bool false)], args := [d1, d2] }
  | _ => none }
def TapeReadsWrongFalsely : Prop := tapeReadsRow.holds Try.pinned (OpenSpec.ofChange tapeReadsWrong)

/-- 'chafflaw07.TapeParts': WHATEVER THE INPUT: true; the input reads as it did. -/
def tapePartsSpec : ChangeSpec := { name := "tapeParts", fn := fun _ => fun
  | [d1, d2, d3, d4] => { results := [.lit (.bool true)], args := [d1, d2, d3, d4] }
  | _ => none }
def tapePartsRow : OpenClaim := { program := "ytcfjgllkpfkhfaa", sum := "1549fafe4591cecfed8b94ca2fd2f6627210d0af9332cc788bea3db1a407a8e7", func := "chaff/chafflaw07.TapeParts", spec := "tapeParts", apart := false }
def TapePartsSaid : Prop := tapePartsRow.holds Try.pinned (OpenSpec.ofChange tapePartsSpec)

/-- ITS FALSE NEIGHBOUR: 'it returns false'. Refute it at one input. -/
def tapePartsWrong : ChangeSpec := { name := "tapeParts", fn := fun _ => fun
  | [d1, d2, d3, d4] => { results := [.lit (.bool false)], args := [d1, d2, d3, d4] }
  | _ => none }
def TapePartsWrongFalsely : Prop := tapePartsRow.holds Try.pinned (OpenSpec.ofChange tapePartsWrong)

/-- 'chafflaw07.TapeWhole': WHATEVER THE INPUT: true; the input reads as it did. -/
def tapeWholeSpec : ChangeSpec := { name := "tapeWhole", fn := fun _ => fun
  | [d] => { results := [.lit (.bool true)], args := [d] }
  | _ => none }
def tapeWholeRow : OpenClaim := { program := "ytcfjgllkpfkhfaa", sum := "1549fafe4591cecfed8b94ca2fd2f6627210d0af9332cc788bea3db1a407a8e7", func := "chaff/chafflaw07.TapeWhole", spec := "tapeWhole", inPlace := ["internal/abi.NoEscape", "internal/bytealg.MakeNoZero"], apart := false }
def TapeWholeSaid : Prop := tapeWholeRow.holds Try.pinned (OpenSpec.ofChange tapeWholeSpec)

/-- ITS FALSE NEIGHBOUR: 'it returns false'. Refute it at one input. -/
def tapeWholeWrong : ChangeSpec := { name := "tapeWhole", fn := fun _ => fun
  | [d] => { results := [.lit (.bool false)], args := [d] }
  | _ => none }
def TapeWholeWrongFalsely : Prop := tapeWholeRow.holds Try.pinned (OpenSpec.ofChange tapeWholeWrong)

/-- 'chafflaw08.CoinBelow': WHATEVER THE INPUT: true; the input reads as it did. -/
def coinBelowSpec : ChangeSpec := { name := "coinBelow", fn := fun _ => fun
  | [d1, d2, d3] => { results := [.lit (.bool true)], args := [d1, d2, d3] }
  | _ => none }
def coinBelowRow : OpenClaim := { program := "ytcfjgllkpfkhfaa", sum := "1549fafe4591cecfed8b94ca2fd2f6627210d0af9332cc788bea3db1a407a8e7", func := "chaff/chafflaw08.CoinBelow", spec := "coinBelow", apart := false }
def CoinBelowSaid : Prop := coinBelowRow.holds Try.pinned (OpenSpec.ofChange coinBelowSpec)

/-- ITS FALSE NEIGHBOUR: 'it returns false'. Refute it at one input. -/
def coinBelowWrong : ChangeSpec := { name := "coinBelow", fn := fun _ => fun
  | [d1, d2, d3] => { results := [.lit (.bool false)], args := [d1, d2, d3] }
  | _ => none }
def CoinBelowWrongFalsely : Prop := coinBelowRow.holds Try.pinned (OpenSpec.ofChange coinBelowWrong)

/-- 'chafflaw08.CoinDecays': WHATEVER THE INPUT: true; the input reads as it did. -/
def coinDecaysSpec : ChangeSpec := { name := "coinDecays", fn := fun _ => fun
  | [d1, d2, d3] => { results := [.lit (.bool true)], args := [d1, d2, d3] }
  | _ => none }
def coinDecaysRow : OpenClaim := { program := "ytcfjgllkpfkhfaa", sum := "1549fafe4591cecfed8b94ca2fd2f6627210d0af9332cc788bea3db1a407a8e7", func := "chaff/chafflaw08.CoinDecays", spec := "coinDecays", apart := false }
def CoinDecaysSaid : Prop := coinDecaysRow.holds Try.pinned (OpenSpec.ofChange coinDecaysSpec)

/-- ITS FALSE NEIGHBOUR: 'it returns false'. Refute it at one input. -/
def coinDecaysWrong : ChangeSpec := { name := "coinDecays", fn := fun _ => fun
  | [d1, d2, d3] => { results := [.lit (.bool false)], args := [d1, d2, d3] }
  | _ => none }
def CoinDecaysWrongFalsely : Prop := coinDecaysRow.holds Try.pinned (OpenSpec.ofChange coinDecaysWrong)

/-- 'chafflaw08.CoinLonger': WHATEVER THE INPUT: true; the input reads as it did. -/
def coinLongerSpec : ChangeSpec := { name := "coinLonger", fn := fun _ => fun
  | [d1, d2, d3, d4] => { results := [.lit (.bool true)], args := [d1, d2, d3, d4] }
  | _ => none }
def coinLongerRow : OpenClaim := { program := "ytcfjgllkpfkhfaa", sum := "1549fafe4591cecfed8b94ca2fd2f6627210d0af9332cc788bea3db1a407a8e7", func := "chaff/chafflaw08.CoinLonger", spec := "coinLonger", apart := false }
def CoinLongerSaid : Prop := coinLongerRow.holds Try.pinned (OpenSpec.ofChange coinLongerSpec)

/-- ITS FALSE NEIGHBOUR: 'it returns false'. Refute it at one input. -/
def coinLongerWrong : ChangeSpec := { name := "coinLonger", fn := fun _ => fun
  | [d1, d2, d3, d4] => { results := [.lit (.bool false)], args := [d1, d2, d3, d4] }
  | _ => none }
def CoinLongerWrongFalsely : Prop := coinLongerRow.holds Try.pinned (OpenSpec.ofChange coinLongerWrong)

/-- 'chafflaw08.CoinEven': WHATEVER THE INPUT: true; the input reads as it did. -/
def coinEvenSpec : ChangeSpec := { name := "coinEven", fn := fun _ => fun
  | [d] => { results := [.lit (.bool true)], args := [d] }
  | _ => none }
def coinEvenRow : OpenClaim := { program := "ytcfjgllkpfkhfaa", sum := "1549fafe4591cecfed8b94ca2fd2f6627210d0af9332cc788bea3db1a407a8e7", func := "chaff/chafflaw08.CoinEven", spec := "coinEven", apart := false }
def CoinEvenSaid : Prop := coinEvenRow.holds Try.pinned (OpenSpec.ofChange coinEvenSpec)

/-- ITS FALSE NEIGHBOUR: 'it returns false'. Refute it at one input. -/
def coinEvenWrong : ChangeSpec := { name := "coinEven", fn := fun _ => fun
  | [d] => { results := [.lit (.bool false)], args := [d] }
  | _ => none }
def CoinEvenWrongFalsely : Prop := coinEvenRow.holds Try.pinned (OpenSpec.ofChange coinEvenWrong)

/- THE SECOND FORM. 'bulk': how many values and letters a reading holds, each counted each time it is reached (what is shared counts as often as it is met; a slice's spare places count too). A statement '..UptoSaid' is the law's where the arguments, and the package variables that the reading takes, are together of bulk at most 1048576: NARROWER than '..Said'. Prove '..Said' where nothing that the law and all that it calls make is longer than what came in: it says more and counts as full. Else prove '..UptoSaid'. A law counts once. -/
mutual
def uptoBulk {H : Type} : DataW H → Nat
  | .lit (.string bytes) => bytes.length + 1
  | .lit _ => 1
  | .nil => 1
  | .ptr d => uptoBulk d + 1
  | .slice elems spare => uptoBulkAll elems + uptoBulkAll spare + 1
  | .agg parts => uptoBulkAll parts + 1
  | .iface _ d => uptoBulk d + 1
  | .map entries => uptoBulkEntries entries + 1
  | .held _ => 1
def uptoBulkAll {H : Type} : List (DataW H) → Nat
  | [] => 0
  | d :: r => uptoBulk d + uptoBulkAll r
def uptoBulkEntries {H : Type} : List (Lit × DataW H) → Nat
  | [] => 0
  | x :: r => uptoBulkEntry x + uptoBulkEntries r
def uptoBulkEntry {H : Type} : Lit × DataW H → Nat
  | (.string bytes, d) => bytes.length + uptoBulk d + 1
  | (_, d) => uptoBulk d + 1
 end
def uptoSmall : (H : Type) → List (DataW H) → Bool := fun _ ds => decide (uptoBulkAll ds ≤ 1048576)
def OpenSpec.upto (s : _root_.Go.ChangeSpec) : _root_.Go.OpenSpec := { _root_.Go.OpenSpec.ofChange s with cond := some uptoSmall }

/-- 'chafflaw07.TapeReads', WHERE WHAT IT READS IS OF BULK AT MOST 1048576: true; the input reads as it did. -/
def tapeReadsUptoRow : OpenClaim := { program := "ytcfjgllkpfkhfaa", sum := "1549fafe4591cecfed8b94ca2fd2f6627210d0af9332cc788bea3db1a407a8e7", func := "chaff/chafflaw07.TapeReads", spec := "tapeReads", inPlace := ["internal/abi.NoEscape", "internal/bytealg.MakeNoZero"], apart := false, narrowed := true }
def TapeReadsUptoSaid : Prop := tapeReadsUptoRow.holds Try.pinned (OpenSpec.upto tapeReadsSpec)

/-- 'chafflaw07.TapeParts', WHERE WHAT IT READS IS OF BULK AT MOST 1048576: true; the input reads as it did. -/
def tapePartsUptoRow : OpenClaim := { program := "ytcfjgllkpfkhfaa", sum := "1549fafe4591cecfed8b94ca2fd2f6627210d0af9332cc788bea3db1a407a8e7", func := "chaff/chafflaw07.TapeParts", spec := "tapeParts", apart := false, narrowed := true }
def TapePartsUptoSaid : Prop := tapePartsUptoRow.holds Try.pinned (OpenSpec.upto tapePartsSpec)

/-- 'chafflaw07.TapeWhole', WHERE WHAT IT READS IS OF BULK AT MOST 1048576: true; the input reads as it did. -/
def tapeWholeUptoRow : OpenClaim := { program := "ytcfjgllkpfkhfaa", sum := "1549fafe4591cecfed8b94ca2fd2f6627210d0af9332cc788bea3db1a407a8e7", func := "chaff/chafflaw07.TapeWhole", spec := "tapeWhole", inPlace := ["internal/abi.NoEscape", "internal/bytealg.MakeNoZero"], apart := false, narrowed := true }
def TapeWholeUptoSaid : Prop := tapeWholeUptoRow.holds Try.pinned (OpenSpec.upto tapeWholeSpec)

/-- 'chafflaw08.CoinBelow', WHERE WHAT IT READS IS OF BULK AT MOST 1048576: true; the input reads as it did. -/
def coinBelowUptoRow : OpenClaim := { program := "ytcfjgllkpfkhfaa", sum := "1549fafe4591cecfed8b94ca2fd2f6627210d0af9332cc788bea3db1a407a8e7", func := "chaff/chafflaw08.CoinBelow", spec := "coinBelow", apart := false, narrowed := true }
def CoinBelowUptoSaid : Prop := coinBelowUptoRow.holds Try.pinned (OpenSpec.upto coinBelowSpec)

/-- 'chafflaw08.CoinDecays', WHERE WHAT IT READS IS OF BULK AT MOST 1048576: true; the input reads as it did. -/
def coinDecaysUptoRow : OpenClaim := { program := "ytcfjgllkpfkhfaa", sum := "1549fafe4591cecfed8b94ca2fd2f6627210d0af9332cc788bea3db1a407a8e7", func := "chaff/chafflaw08.CoinDecays", spec := "coinDecays", apart := false, narrowed := true }
def CoinDecaysUptoSaid : Prop := coinDecaysUptoRow.holds Try.pinned (OpenSpec.upto coinDecaysSpec)

/-- 'chafflaw08.CoinLonger', WHERE WHAT IT READS IS OF BULK AT MOST 1048576: true; the input reads as it did. -/
def coinLongerUptoRow : OpenClaim := { program := "ytcfjgllkpfkhfaa", sum := "1549fafe4591cecfed8b94ca2fd2f6627210d0af9332cc788bea3db1a407a8e7", func := "chaff/chafflaw08.CoinLonger", spec := "coinLonger", apart := false, narrowed := true }
def CoinLongerUptoSaid : Prop := coinLongerUptoRow.holds Try.pinned (OpenSpec.upto coinLongerSpec)

/-- 'chafflaw08.CoinEven', WHERE WHAT IT READS IS OF BULK AT MOST 1048576: true; the input reads as it did. -/
def coinEvenUptoRow : OpenClaim := { program := "ytcfjgllkpfkhfaa", sum := "1549fafe4591cecfed8b94ca2fd2f6627210d0af9332cc788bea3db1a407a8e7", func := "chaff/chafflaw08.CoinEven", spec := "coinEven", apart := false, narrowed := true }
def CoinEvenUptoSaid : Prop := coinEvenUptoRow.holds Try.pinned (OpenSpec.upto coinEvenSpec)

end Rows
end Go.Proofs.Ytcfjgllkpfkhfaa
