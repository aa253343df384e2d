/-
  No cell of these rows narrows 'for every input' (looked for: loops, veiled, ifaces, maps, wideKeys, modest, calm, conditions, laid).
  DERIVED. THE GIVEN ROWS OF THIS SEAT. 13 by the template 'for every input the law returns true; each argument reads behind the call as it read before'; 0 by the template 'total and deterministic' (their statements: YtlmimlnflcfccaaTotals.lean).
  GIVEN WITH THE SEED: the statements are not yours to turn. If you find one false, say at which input.
  Laid BY PROGRAM, IN A SANDBOX (cutbox-rows.mjs): the forced cells as the released guide's own fill.sh prints them over the translation e7918e8cb34786cd… (all of the seat's roots in one cut). By AI agents, Wed Nov 11 2026. No macro, syntax, notation, axiom, sorry.
-/
import Derived.Test.YtlmimlnflcfccaaChecked
import GoSem.Claim
import GoSem.ClaimJoined
import GoSem.ClaimMapViews
import Derived.JoinedTies
import Derived.KernelRfl
namespace Go.Proofs.Ytlmimlnflcfccaa
/- THE CELL 'sum', in the pinned program and in every row, IS THE sha256 OF THE DUMP (.gsa) THAT YtlmimlnflcfccaaProg.lean LOADS. Nothing in Lean hashes anything: it is a label: what it is worth is what the hold of that sum in a sandbox is worth. -/
noncomputable def Try.pinned : Pinned := { name := "ytlmimlnflcfccaa", sum := "e7918e8cb34786cdc8ed842e18c8f0c6243a34293b2f44b9f17939c57aa039a7", checked := Try.checked }
namespace Rows
def none {H : Type} : Left H := { results := [], args := [] }

/-- 'dobbylaw01.LebPuts': WHATEVER THE INPUT: true; the input reads as it did. -/
def lebPutsSpec : ChangeSpec := { name := "lebPuts", fn := fun _ => fun
  | [d1, d2] => { results := [.lit (.bool true)], args := [d1, d2] }
  | _ => none }
def lebPutsRow : OpenClaim := { program := "ytlmimlnflcfccaa", sum := "e7918e8cb34786cdc8ed842e18c8f0c6243a34293b2f44b9f17939c57aa039a7", func := "dobby/dobbylaw01.LebPuts", spec := "lebPuts", unfollowed := true, recurses := true, plainKeys := false, apart := false }
def LebPutsSaid : Prop := lebPutsRow.holds Try.pinned (OpenSpec.ofChange lebPutsSpec)

/-- ITS FALSE NEIGHBOUR: 'it returns false'. Refute it at one input. -/
def lebPutsWrong : ChangeSpec := { name := "lebPuts", fn := fun _ => fun
  | [d1, d2] => { results := [.lit (.bool false)], args := [d1, d2] }
  | _ => none }
def LebPutsWrongFalsely : Prop := lebPutsRow.holds Try.pinned (OpenSpec.ofChange lebPutsWrong)

/-- 'dobbylaw01.LebTakes': WHATEVER THE INPUT: true; the input reads as it did. -/
def lebTakesSpec : ChangeSpec := { name := "lebTakes", fn := fun _ => fun
  | [d1, d2] => { results := [.lit (.bool true)], args := [d1, d2] }
  | _ => none }
def lebTakesRow : OpenClaim := { program := "ytlmimlnflcfccaa", sum := "e7918e8cb34786cdc8ed842e18c8f0c6243a34293b2f44b9f17939c57aa039a7", func := "dobby/dobbylaw01.LebTakes", spec := "lebTakes", unfollowed := true, recurses := true, plainKeys := false, apart := false }
def LebTakesSaid : Prop := lebTakesRow.holds Try.pinned (OpenSpec.ofChange lebTakesSpec)

/-- ITS FALSE NEIGHBOUR: 'it returns false'. Refute it at one input. -/
def lebTakesWrong : ChangeSpec := { name := "lebTakes", fn := fun _ => fun
  | [d1, d2] => { results := [.lit (.bool false)], args := [d1, d2] }
  | _ => none }
def LebTakesWrongFalsely : Prop := lebTakesRow.holds Try.pinned (OpenSpec.ofChange lebTakesWrong)

/-- 'dobbylaw01.LebBack': WHATEVER THE INPUT: true; the input reads as it did. -/
def lebBackSpec : ChangeSpec := { name := "lebBack", fn := fun _ => fun
  | [d1, d2, d3] => { results := [.lit (.bool true)], args := [d1, d2, d3] }
  | _ => none }
def lebBackRow : OpenClaim := { program := "ytlmimlnflcfccaa", sum := "e7918e8cb34786cdc8ed842e18c8f0c6243a34293b2f44b9f17939c57aa039a7", func := "dobby/dobbylaw01.LebBack", spec := "lebBack", unfollowed := true, recurses := true, plainKeys := false, apart := false }
def LebBackSaid : Prop := lebBackRow.holds Try.pinned (OpenSpec.ofChange lebBackSpec)

/-- ITS FALSE NEIGHBOUR: 'it returns false'. Refute it at one input. -/
def lebBackWrong : ChangeSpec := { name := "lebBack", fn := fun _ => fun
  | [d1, d2, d3] => { results := [.lit (.bool false)], args := [d1, d2, d3] }
  | _ => none }
def LebBackWrongFalsely : Prop := lebBackRow.holds Try.pinned (OpenSpec.ofChange lebBackWrong)

/-- 'dobbylaw01.LebSmall': WHATEVER THE INPUT: true; the input reads as it did. -/
def lebSmallSpec : ChangeSpec := { name := "lebSmall", fn := fun _ => fun
  | [d1, d2, d3] => { results := [.lit (.bool true)], args := [d1, d2, d3] }
  | _ => none }
def lebSmallRow : OpenClaim := { program := "ytlmimlnflcfccaa", sum := "e7918e8cb34786cdc8ed842e18c8f0c6243a34293b2f44b9f17939c57aa039a7", func := "dobby/dobbylaw01.LebSmall", spec := "lebSmall", unfollowed := true, recurses := true, plainKeys := false, apart := false }
def LebSmallSaid : Prop := lebSmallRow.holds Try.pinned (OpenSpec.ofChange lebSmallSpec)

/-- ITS FALSE NEIGHBOUR: 'it returns false'. Refute it at one input. -/
def lebSmallWrong : ChangeSpec := { name := "lebSmall", fn := fun _ => fun
  | [d1, d2, d3] => { results := [.lit (.bool false)], args := [d1, d2, d3] }
  | _ => none }
def LebSmallWrongFalsely : Prop := lebSmallRow.holds Try.pinned (OpenSpec.ofChange lebSmallWrong)

/-- 'dobbylaw02.SpanAdds': WHATEVER THE INPUT: true; the input reads as it did. -/
def spanAddsSpec : ChangeSpec := { name := "spanAdds", fn := fun _ => fun
  | [d1, d2, d3] => { results := [.lit (.bool true)], args := [d1, d2, d3] }
  | _ => none }
def spanAddsRow : OpenClaim := { program := "ytlmimlnflcfccaa", sum := "e7918e8cb34786cdc8ed842e18c8f0c6243a34293b2f44b9f17939c57aa039a7", func := "dobby/dobbylaw02.SpanAdds", spec := "spanAdds", plainKeys := false, apart := false }
def SpanAddsSaid : Prop := spanAddsRow.holds Try.pinned (OpenSpec.ofChange spanAddsSpec)

/-- ITS FALSE NEIGHBOUR: 'it returns false'. Refute it at one input. -/
def spanAddsWrong : ChangeSpec := { name := "spanAdds", fn := fun _ => fun
  | [d1, d2, d3] => { results := [.lit (.bool false)], args := [d1, d2, d3] }
  | _ => none }
def SpanAddsWrongFalsely : Prop := spanAddsRow.holds Try.pinned (OpenSpec.ofChange spanAddsWrong)

/-- 'dobbylaw02.SpanCounts': WHATEVER THE INPUT: true; the input reads as it did. -/
def spanCountsSpec : ChangeSpec := { name := "spanCounts", fn := fun _ => fun
  | [d1, d2, d3] => { results := [.lit (.bool true)], args := [d1, d2, d3] }
  | _ => none }
def spanCountsRow : OpenClaim := { program := "ytlmimlnflcfccaa", sum := "e7918e8cb34786cdc8ed842e18c8f0c6243a34293b2f44b9f17939c57aa039a7", func := "dobby/dobbylaw02.SpanCounts", spec := "spanCounts", plainKeys := false, apart := false }
def SpanCountsSaid : Prop := spanCountsRow.holds Try.pinned (OpenSpec.ofChange spanCountsSpec)

/-- ITS FALSE NEIGHBOUR: 'it returns false'. Refute it at one input. -/
def spanCountsWrong : ChangeSpec := { name := "spanCounts", fn := fun _ => fun
  | [d1, d2, d3] => { results := [.lit (.bool false)], args := [d1, d2, d3] }
  | _ => none }
def SpanCountsWrongFalsely : Prop := spanCountsRow.holds Try.pinned (OpenSpec.ofChange spanCountsWrong)

/-- 'dobbylaw02.SpanSizes': WHATEVER THE INPUT: true; the input reads as it did. -/
def spanSizesSpec : ChangeSpec := { name := "spanSizes", fn := fun _ => fun
  | [d1, d2, d3] => { results := [.lit (.bool true)], args := [d1, d2, d3] }
  | _ => none }
def spanSizesRow : OpenClaim := { program := "ytlmimlnflcfccaa", sum := "e7918e8cb34786cdc8ed842e18c8f0c6243a34293b2f44b9f17939c57aa039a7", func := "dobby/dobbylaw02.SpanSizes", spec := "spanSizes", plainKeys := false, apart := false }
def SpanSizesSaid : Prop := spanSizesRow.holds Try.pinned (OpenSpec.ofChange spanSizesSpec)

/-- ITS FALSE NEIGHBOUR: 'it returns false'. Refute it at one input. -/
def spanSizesWrong : ChangeSpec := { name := "spanSizes", fn := fun _ => fun
  | [d1, d2, d3] => { results := [.lit (.bool false)], args := [d1, d2, d3] }
  | _ => none }
def SpanSizesWrongFalsely : Prop := spanSizesRow.holds Try.pinned (OpenSpec.ofChange spanSizesWrong)

/-- 'dobbylaw02.SpanFits': WHATEVER THE INPUT: true; the input reads as it did. -/
def spanFitsSpec : ChangeSpec := { name := "spanFits", fn := fun _ => fun
  | [d1, d2, d3] => { results := [.lit (.bool true)], args := [d1, d2, d3] }
  | _ => none }
def spanFitsRow : OpenClaim := { program := "ytlmimlnflcfccaa", sum := "e7918e8cb34786cdc8ed842e18c8f0c6243a34293b2f44b9f17939c57aa039a7", func := "dobby/dobbylaw02.SpanFits", spec := "spanFits", plainKeys := false, apart := false }
def SpanFitsSaid : Prop := spanFitsRow.holds Try.pinned (OpenSpec.ofChange spanFitsSpec)

/-- ITS FALSE NEIGHBOUR: 'it returns false'. Refute it at one input. -/
def spanFitsWrong : ChangeSpec := { name := "spanFits", fn := fun _ => fun
  | [d1, d2, d3] => { results := [.lit (.bool false)], args := [d1, d2, d3] }
  | _ => none }
def SpanFitsWrongFalsely : Prop := spanFitsRow.holds Try.pinned (OpenSpec.ofChange spanFitsWrong)

/-- 'dobbylaw02.SpanDigits': WHATEVER THE INPUT: true; the input reads as it did. -/
def spanDigitsSpec : ChangeSpec := { name := "spanDigits", fn := fun _ => fun
  | [d1, d2] => { results := [.lit (.bool true)], args := [d1, d2] }
  | _ => none }
def spanDigitsRow : OpenClaim := { program := "ytlmimlnflcfccaa", sum := "e7918e8cb34786cdc8ed842e18c8f0c6243a34293b2f44b9f17939c57aa039a7", func := "dobby/dobbylaw02.SpanDigits", spec := "spanDigits", plainKeys := false, apart := false }
def SpanDigitsSaid : Prop := spanDigitsRow.holds Try.pinned (OpenSpec.ofChange spanDigitsSpec)

/-- ITS FALSE NEIGHBOUR: 'it returns false'. Refute it at one input. -/
def spanDigitsWrong : ChangeSpec := { name := "spanDigits", fn := fun _ => fun
  | [d1, d2] => { results := [.lit (.bool false)], args := [d1, d2] }
  | _ => none }
def SpanDigitsWrongFalsely : Prop := spanDigitsRow.holds Try.pinned (OpenSpec.ofChange spanDigitsWrong)

/-- 'dobbylaw03.UtfNeeds': WHATEVER THE INPUT: true; the input reads as it did. -/
def utfNeedsSpec : ChangeSpec := { name := "utfNeeds", fn := fun _ => fun
  | [d] => { results := [.lit (.bool true)], args := [d] }
  | _ => none }
def utfNeedsRow : OpenClaim := { program := "ytlmimlnflcfccaa", sum := "e7918e8cb34786cdc8ed842e18c8f0c6243a34293b2f44b9f17939c57aa039a7", func := "dobby/dobbylaw03.UtfNeeds", spec := "utfNeeds", plainKeys := false, apart := false }
def UtfNeedsSaid : Prop := utfNeedsRow.holds Try.pinned (OpenSpec.ofChange utfNeedsSpec)

/-- ITS FALSE NEIGHBOUR: 'it returns false'. Refute it at one input. -/
def utfNeedsWrong : ChangeSpec := { name := "utfNeeds", fn := fun _ => fun
  | [d] => { results := [.lit (.bool false)], args := [d] }
  | _ => none }
def UtfNeedsWrongFalsely : Prop := utfNeedsRow.holds Try.pinned (OpenSpec.ofChange utfNeedsWrong)

/-- 'dobbylaw03.UtfSigns': WHATEVER THE INPUT: true; the input reads as it did. -/
def utfSignsSpec : ChangeSpec := { name := "utfSigns", fn := fun _ => fun
  | [d] => { results := [.lit (.bool true)], args := [d] }
  | _ => none }
def utfSignsRow : OpenClaim := { program := "ytlmimlnflcfccaa", sum := "e7918e8cb34786cdc8ed842e18c8f0c6243a34293b2f44b9f17939c57aa039a7", func := "dobby/dobbylaw03.UtfSigns", spec := "utfSigns", plainKeys := false, apart := false }
def UtfSignsSaid : Prop := utfSignsRow.holds Try.pinned (OpenSpec.ofChange utfSignsSpec)

/-- ITS FALSE NEIGHBOUR: 'it returns false'. Refute it at one input. -/
def utfSignsWrong : ChangeSpec := { name := "utfSigns", fn := fun _ => fun
  | [d] => { results := [.lit (.bool false)], args := [d] }
  | _ => none }
def UtfSignsWrongFalsely : Prop := utfSignsRow.holds Try.pinned (OpenSpec.ofChange utfSignsWrong)

/-- 'dobbylaw06.OpFinds': WHATEVER THE INPUT: true; the input reads as it did. -/
def opFindsSpec : ChangeSpec := { name := "opFinds", fn := fun _ => fun
  | [d1, d2, d3] => { results := [.lit (.bool true)], args := [d1, d2, d3] }
  | _ => none }
def opFindsRow : OpenClaim := { program := "ytlmimlnflcfccaa", sum := "e7918e8cb34786cdc8ed842e18c8f0c6243a34293b2f44b9f17939c57aa039a7", func := "dobby/dobbylaw06.OpFinds", spec := "opFinds", plainKeys := false, apart := false }
def OpFindsSaid : Prop := opFindsRow.holds Try.pinned (OpenSpec.ofChange opFindsSpec)

/-- ITS FALSE NEIGHBOUR: 'it returns false'. Refute it at one input. -/
def opFindsWrong : ChangeSpec := { name := "opFinds", fn := fun _ => fun
  | [d1, d2, d3] => { results := [.lit (.bool false)], args := [d1, d2, d3] }
  | _ => none }
def OpFindsWrongFalsely : Prop := opFindsRow.holds Try.pinned (OpenSpec.ofChange opFindsWrong)

/-- 'dobbylaw06.OpCodes': WHATEVER THE INPUT: true; the input reads as it did. -/
def opCodesSpec : ChangeSpec := { name := "opCodes", fn := fun _ => fun
  | [d1, d2] => { results := [.lit (.bool true)], args := [d1, d2] }
  | _ => none }
def opCodesRow : OpenClaim := { program := "ytlmimlnflcfccaa", sum := "e7918e8cb34786cdc8ed842e18c8f0c6243a34293b2f44b9f17939c57aa039a7", func := "dobby/dobbylaw06.OpCodes", spec := "opCodes", unfollowed := true, recurses := true, plainKeys := false, apart := false }
def OpCodesSaid : Prop := opCodesRow.holds Try.pinned (OpenSpec.ofChange opCodesSpec)

/-- ITS FALSE NEIGHBOUR: 'it returns false'. Refute it at one input. -/
def opCodesWrong : ChangeSpec := { name := "opCodes", fn := fun _ => fun
  | [d1, d2] => { results := [.lit (.bool false)], args := [d1, d2] }
  | _ => none }
def OpCodesWrongFalsely : Prop := opCodesRow.holds Try.pinned (OpenSpec.ofChange opCodesWrong)

/- THE SECOND FORM. 'bulk': how many values and letters a reading holds, each counted each time it is reached (what is shared counts as often as it is met; a slice's spare places count too). A statement '..UptoSaid' is the law's where the arguments, and the package variables that the reading takes, are together of bulk at most 1048576: NARROWER than '..Said'. Prove '..Said' where nothing that the law and all that it calls make is longer than what came in: it says more and counts as full. Else prove '..UptoSaid'. A law counts once. -/
mutual
def uptoBulk {H : Type} : DataW H → Nat
  | .lit (.string bytes) => bytes.length + 1
  | .lit _ => 1
  | .nil => 1
  | .ptr d => uptoBulk d + 1
  | .slice elems spare => uptoBulkAll elems + uptoBulkAll spare + 1
  | .agg parts => uptoBulkAll parts + 1
  | .iface _ d => uptoBulk d + 1
  | .map entries => uptoBulkEntries entries + 1
  | .held _ => 1
def uptoBulkAll {H : Type} : List (DataW H) → Nat
  | [] => 0
  | d :: r => uptoBulk d + uptoBulkAll r
def uptoBulkEntries {H : Type} : List (Lit × DataW H) → Nat
  | [] => 0
  | x :: r => uptoBulkEntry x + uptoBulkEntries r
def uptoBulkEntry {H : Type} : Lit × DataW H → Nat
  | (.string bytes, d) => bytes.length + uptoBulk d + 1
  | (_, d) => uptoBulk d + 1
 end
def uptoSmall : (H : Type) → List (DataW H) → Bool := fun _ ds => decide (uptoBulkAll ds ≤ 1048576)
def OpenSpec.upto (s : _root_.Go.ChangeSpec) : _root_.Go.OpenSpec := { _root_.Go.OpenSpec.ofChange s with cond := some uptoSmall }

/-- 'dobbylaw01.LebPuts', WHERE WHAT IT READS IS OF BULK AT MOST 1048576: true; the input reads as it did. -/
def lebPutsUptoRow : OpenClaim := { program := "ytlmimlnflcfccaa", sum := "e7918e8cb34786cdc8ed842e18c8f0c6243a34293b2f44b9f17939c57aa039a7", func := "dobby/dobbylaw01.LebPuts", spec := "lebPuts", unfollowed := true, recurses := true, plainKeys := false, apart := false, narrowed := true }
def LebPutsUptoSaid : Prop := lebPutsUptoRow.holds Try.pinned (OpenSpec.upto lebPutsSpec)

/-- 'dobbylaw01.LebTakes', WHERE WHAT IT READS IS OF BULK AT MOST 1048576: true; the input reads as it did. -/
def lebTakesUptoRow : OpenClaim := { program := "ytlmimlnflcfccaa", sum := "e7918e8cb34786cdc8ed842e18c8f0c6243a34293b2f44b9f17939c57aa039a7", func := "dobby/dobbylaw01.LebTakes", spec := "lebTakes", unfollowed := true, recurses := true, plainKeys := false, apart := false, narrowed := true }
def LebTakesUptoSaid : Prop := lebTakesUptoRow.holds Try.pinned (OpenSpec.upto lebTakesSpec)

/-- 'dobbylaw01.LebBack', WHERE WHAT IT READS IS OF BULK AT MOST 1048576: true; the input reads as it did. -/
def lebBackUptoRow : OpenClaim := { program := "ytlmimlnflcfccaa", sum := "e7918e8cb34786cdc8ed842e18c8f0c6243a34293b2f44b9f17939c57aa039a7", func := "dobby/dobbylaw01.LebBack", spec := "lebBack", unfollowed := true, recurses := true, plainKeys := false, apart := false, narrowed := true }
def LebBackUptoSaid : Prop := lebBackUptoRow.holds Try.pinned (OpenSpec.upto lebBackSpec)

/-- 'dobbylaw01.LebSmall', WHERE WHAT IT READS IS OF BULK AT MOST 1048576: true; the input reads as it did. -/
def lebSmallUptoRow : OpenClaim := { program := "ytlmimlnflcfccaa", sum := "e7918e8cb34786cdc8ed842e18c8f0c6243a34293b2f44b9f17939c57aa039a7", func := "dobby/dobbylaw01.LebSmall", spec := "lebSmall", unfollowed := true, recurses := true, plainKeys := false, apart := false, narrowed := true }
def LebSmallUptoSaid : Prop := lebSmallUptoRow.holds Try.pinned (OpenSpec.upto lebSmallSpec)

/-- 'dobbylaw02.SpanAdds', WHERE WHAT IT READS IS OF BULK AT MOST 1048576: true; the input reads as it did. -/
def spanAddsUptoRow : OpenClaim := { program := "ytlmimlnflcfccaa", sum := "e7918e8cb34786cdc8ed842e18c8f0c6243a34293b2f44b9f17939c57aa039a7", func := "dobby/dobbylaw02.SpanAdds", spec := "spanAdds", plainKeys := false, apart := false, narrowed := true }
def SpanAddsUptoSaid : Prop := spanAddsUptoRow.holds Try.pinned (OpenSpec.upto spanAddsSpec)

/-- 'dobbylaw02.SpanCounts', WHERE WHAT IT READS IS OF BULK AT MOST 1048576: true; the input reads as it did. -/
def spanCountsUptoRow : OpenClaim := { program := "ytlmimlnflcfccaa", sum := "e7918e8cb34786cdc8ed842e18c8f0c6243a34293b2f44b9f17939c57aa039a7", func := "dobby/dobbylaw02.SpanCounts", spec := "spanCounts", plainKeys := false, apart := false, narrowed := true }
def SpanCountsUptoSaid : Prop := spanCountsUptoRow.holds Try.pinned (OpenSpec.upto spanCountsSpec)

/-- 'dobbylaw02.SpanSizes', WHERE WHAT IT READS IS OF BULK AT MOST 1048576: true; the input reads as it did. -/
def spanSizesUptoRow : OpenClaim := { program := "ytlmimlnflcfccaa", sum := "e7918e8cb34786cdc8ed842e18c8f0c6243a34293b2f44b9f17939c57aa039a7", func := "dobby/dobbylaw02.SpanSizes", spec := "spanSizes", plainKeys := false, apart := false, narrowed := true }
def SpanSizesUptoSaid : Prop := spanSizesUptoRow.holds Try.pinned (OpenSpec.upto spanSizesSpec)

/-- 'dobbylaw02.SpanFits', WHERE WHAT IT READS IS OF BULK AT MOST 1048576: true; the input reads as it did. -/
def spanFitsUptoRow : OpenClaim := { program := "ytlmimlnflcfccaa", sum := "e7918e8cb34786cdc8ed842e18c8f0c6243a34293b2f44b9f17939c57aa039a7", func := "dobby/dobbylaw02.SpanFits", spec := "spanFits", plainKeys := false, apart := false, narrowed := true }
def SpanFitsUptoSaid : Prop := spanFitsUptoRow.holds Try.pinned (OpenSpec.upto spanFitsSpec)

/-- 'dobbylaw02.SpanDigits', WHERE WHAT IT READS IS OF BULK AT MOST 1048576: true; the input reads as it did. -/
def spanDigitsUptoRow : OpenClaim := { program := "ytlmimlnflcfccaa", sum := "e7918e8cb34786cdc8ed842e18c8f0c6243a34293b2f44b9f17939c57aa039a7", func := "dobby/dobbylaw02.SpanDigits", spec := "spanDigits", plainKeys := false, apart := false, narrowed := true }
def SpanDigitsUptoSaid : Prop := spanDigitsUptoRow.holds Try.pinned (OpenSpec.upto spanDigitsSpec)

/-- 'dobbylaw03.UtfNeeds', WHERE WHAT IT READS IS OF BULK AT MOST 1048576: true; the input reads as it did. -/
def utfNeedsUptoRow : OpenClaim := { program := "ytlmimlnflcfccaa", sum := "e7918e8cb34786cdc8ed842e18c8f0c6243a34293b2f44b9f17939c57aa039a7", func := "dobby/dobbylaw03.UtfNeeds", spec := "utfNeeds", plainKeys := false, apart := false, narrowed := true }
def UtfNeedsUptoSaid : Prop := utfNeedsUptoRow.holds Try.pinned (OpenSpec.upto utfNeedsSpec)

/-- 'dobbylaw03.UtfSigns', WHERE WHAT IT READS IS OF BULK AT MOST 1048576: true; the input reads as it did. -/
def utfSignsUptoRow : OpenClaim := { program := "ytlmimlnflcfccaa", sum := "e7918e8cb34786cdc8ed842e18c8f0c6243a34293b2f44b9f17939c57aa039a7", func := "dobby/dobbylaw03.UtfSigns", spec := "utfSigns", plainKeys := false, apart := false, narrowed := true }
def UtfSignsUptoSaid : Prop := utfSignsUptoRow.holds Try.pinned (OpenSpec.upto utfSignsSpec)

/-- 'dobbylaw06.OpFinds', WHERE WHAT IT READS IS OF BULK AT MOST 1048576: true; the input reads as it did. -/
def opFindsUptoRow : OpenClaim := { program := "ytlmimlnflcfccaa", sum := "e7918e8cb34786cdc8ed842e18c8f0c6243a34293b2f44b9f17939c57aa039a7", func := "dobby/dobbylaw06.OpFinds", spec := "opFinds", plainKeys := false, apart := false, narrowed := true }
def OpFindsUptoSaid : Prop := opFindsUptoRow.holds Try.pinned (OpenSpec.upto opFindsSpec)

/-- 'dobbylaw06.OpCodes', WHERE WHAT IT READS IS OF BULK AT MOST 1048576: true; the input reads as it did. -/
def opCodesUptoRow : OpenClaim := { program := "ytlmimlnflcfccaa", sum := "e7918e8cb34786cdc8ed842e18c8f0c6243a34293b2f44b9f17939c57aa039a7", func := "dobby/dobbylaw06.OpCodes", spec := "opCodes", unfollowed := true, recurses := true, plainKeys := false, apart := false, narrowed := true }
def OpCodesUptoSaid : Prop := opCodesUptoRow.holds Try.pinned (OpenSpec.upto opCodesSpec)

end Rows
end Go.Proofs.Ytlmimlnflcfccaa
