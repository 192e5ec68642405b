/-
  NARROWER THAN 'FOR EVERY INPUT', by the rows' own cells (each row's printed sentence says how): BytesetKnown: laid · BytesetSays: laid · BytesetLaws: laid · BytesetRuns: laid · BytesetList: laid.
  DERIVED. THE GIVEN ROWS OF THIS SEAT. 5 by the template 'for every input the law returns true; each argument reads behind the call as it read before'; 0 by the template 'total and deterministic' (their statements: YtebodglhcnpfeaaDoorTotals.lean).
  GIVEN WITH THE SEED: the statements are not yours to turn. If you find one false, say at which input.
  Laid BY PROGRAM, IN A SANDBOX (cutbox-rows.mjs): the forced cells as the released guide's own fill.sh prints them over the translation 176fa7f3c265075d… (all of the seat's roots in one cut). By AI agents, Wed Nov 11 2026. No macro, syntax, notation, axiom, sorry.
-/
import Derived.Test.YtebodglhcnpfeaaDoorChecked
import GoSem.Claim
import GoSem.ClaimJoined
import GoSem.ClaimMapViews
import Derived.JoinedTies
import Derived.KernelRfl
namespace Go.Proofs.YtebodglhcnpfeaaDoor
/- THE CELL 'sum', in the pinned program and in every row, IS THE sha256 OF THE DUMP (.gsa) THAT YtebodglhcnpfeaaDoorProg.lean LOADS. Nothing in Lean hashes anything: it is a label: what it is worth is what the hold of that sum in a sandbox is worth. -/
noncomputable def Tryd.pinned : Pinned := { name := "ytebodglhcnpfeaadoor", sum := "176fa7f3c265075dfd04dd868bfac61320be5fc72a95812a66d3c1687ecd57b8", checked := Tryd.checked }
namespace Rows
def none {H : Type} : Left H := { results := [], args := [] }

/- WHAT THE LISTED PACKAGE-LEVEL VARIABLES READ AS WHEN THE CALL BEGINS. Each datum BY PROGRAM (the guide's laid-datum.mjs) off the statement by which the dump's own 'gosem.cut.vars' lays the variable. In a bare row this is a premise. The card (YtebodglhcnpfeaaDoorCards.lean) ties it to the program's text. -/
def laid_math_bits_deBruijn64tab {H : Type} : DataW H := .agg [.lit (.int .u8 0), .lit (.int .u8 1), .lit (.int .u8 56), .lit (.int .u8 2), .lit (.int .u8 57), .lit (.int .u8 49), .lit (.int .u8 28), .lit (.int .u8 3), .lit (.int .u8 61), .lit (.int .u8 58), .lit (.int .u8 42), .lit (.int .u8 50), .lit (.int .u8 38), .lit (.int .u8 29), .lit (.int .u8 17), .lit (.int .u8 4), .lit (.int .u8 62), .lit (.int .u8 47), .lit (.int .u8 59), .lit (.int .u8 36), .lit (.int .u8 45), .lit (.int .u8 43), .lit (.int .u8 51), .lit (.int .u8 22), .lit (.int .u8 53), .lit (.int .u8 39), .lit (.int .u8 33), .lit (.int .u8 30), .lit (.int .u8 24), .lit (.int .u8 18), .lit (.int .u8 12), .lit (.int .u8 5), .lit (.int .u8 63), .lit (.int .u8 55), .lit (.int .u8 48), .lit (.int .u8 27), .lit (.int .u8 60), .lit (.int .u8 41), .lit (.int .u8 37), .lit (.int .u8 16), .lit (.int .u8 46), .lit (.int .u8 35), .lit (.int .u8 44), .lit (.int .u8 21), .lit (.int .u8 52), .lit (.int .u8 32), .lit (.int .u8 23), .lit (.int .u8 11), .lit (.int .u8 54), .lit (.int .u8 26), .lit (.int .u8 40), .lit (.int .u8 15), .lit (.int .u8 34), .lit (.int .u8 20), .lit (.int .u8 31), .lit (.int .u8 10), .lit (.int .u8 25), .lit (.int .u8 14), .lit (.int .u8 19), .lit (.int .u8 9), .lit (.int .u8 13), .lit (.int .u8 8), .lit (.int .u8 7), .lit (.int .u8 6)]

/-- 'catchpolelaw1.BytesetKnown': WHATEVER THE INPUT: true; the input reads as it did. -/
def bytesetKnownSpec : ChangeSpec := { name := "bytesetKnown", fn := fun _ => fun
  | [] => { results := [.lit (.bool true)], args := [] }
  | _ => none }
def bytesetKnownRow : OpenClaim := { program := "ytebodglhcnpfeaadoor", sum := "176fa7f3c265075dfd04dd868bfac61320be5fc72a95812a66d3c1687ecd57b8", func := "catchpole/catchpolelaw1.BytesetKnown", spec := "bytesetKnown", inPlace := ["internal/bytealg.Compare"], named := ["math/bits.deBruijn64tab"], apart := false, laid := [("math/bits.deBruijn64tab", laid_math_bits_deBruijn64tab)] }
def BytesetKnownSaid : Prop := bytesetKnownRow.holds Tryd.pinned (OpenSpec.ofChange bytesetKnownSpec)

/-- ITS FALSE NEIGHBOUR: 'it returns false'. Refute it at one input. -/
def bytesetKnownWrong : ChangeSpec := { name := "bytesetKnown", fn := fun _ => fun
  | [] => { results := [.lit (.bool false)], args := [] }
  | _ => none }
def BytesetKnownWrongFalsely : Prop := bytesetKnownRow.holds Tryd.pinned (OpenSpec.ofChange bytesetKnownWrong)

/-- 'catchpolelaw1.BytesetSays': WHATEVER THE INPUT: true; the input reads as it did. -/
def bytesetSaysSpec : ChangeSpec := { name := "bytesetSays", fn := fun _ => fun
  | [d1, d2, d3, d4, d5] => { results := [.lit (.bool true)], args := [d1, d2, d3, d4, d5] }
  | _ => none }
def bytesetSaysRow : OpenClaim := { program := "ytebodglhcnpfeaadoor", sum := "176fa7f3c265075dfd04dd868bfac61320be5fc72a95812a66d3c1687ecd57b8", func := "catchpole/catchpolelaw1.BytesetSays", spec := "bytesetSays", inPlace := ["internal/bytealg.Compare"], named := ["math/bits.deBruijn64tab"], apart := false, laid := [("math/bits.deBruijn64tab", laid_math_bits_deBruijn64tab)] }
def BytesetSaysSaid : Prop := bytesetSaysRow.holds Tryd.pinned (OpenSpec.ofChange bytesetSaysSpec)

/-- ITS FALSE NEIGHBOUR: 'it returns false'. Refute it at one input. -/
def bytesetSaysWrong : ChangeSpec := { name := "bytesetSays", fn := fun _ => fun
  | [d1, d2, d3, d4, d5] => { results := [.lit (.bool false)], args := [d1, d2, d3, d4, d5] }
  | _ => none }
def BytesetSaysWrongFalsely : Prop := bytesetSaysRow.holds Tryd.pinned (OpenSpec.ofChange bytesetSaysWrong)

/-- 'catchpolelaw1.BytesetLaws': WHATEVER THE INPUT: true; the input reads as it did. -/
def bytesetLawsSpec : ChangeSpec := { name := "bytesetLaws", fn := fun _ => fun
  | [d1, d2, d3] => { results := [.lit (.bool true)], args := [d1, d2, d3] }
  | _ => none }
def bytesetLawsRow : OpenClaim := { program := "ytebodglhcnpfeaadoor", sum := "176fa7f3c265075dfd04dd868bfac61320be5fc72a95812a66d3c1687ecd57b8", func := "catchpole/catchpolelaw1.BytesetLaws", spec := "bytesetLaws", inPlace := ["internal/bytealg.Compare"], named := ["math/bits.deBruijn64tab"], apart := false, laid := [("math/bits.deBruijn64tab", laid_math_bits_deBruijn64tab)] }
def BytesetLawsSaid : Prop := bytesetLawsRow.holds Tryd.pinned (OpenSpec.ofChange bytesetLawsSpec)

/-- ITS FALSE NEIGHBOUR: 'it returns false'. Refute it at one input. -/
def bytesetLawsWrong : ChangeSpec := { name := "bytesetLaws", fn := fun _ => fun
  | [d1, d2, d3] => { results := [.lit (.bool false)], args := [d1, d2, d3] }
  | _ => none }
def BytesetLawsWrongFalsely : Prop := bytesetLawsRow.holds Tryd.pinned (OpenSpec.ofChange bytesetLawsWrong)

/-- 'catchpolelaw1.BytesetRuns': WHATEVER THE INPUT: true; the input reads as it did. -/
def bytesetRunsSpec : ChangeSpec := { name := "bytesetRuns", fn := fun _ => fun
  | [d] => { results := [.lit (.bool true)], args := [d] }
  | _ => none }
def bytesetRunsRow : OpenClaim := { program := "ytebodglhcnpfeaadoor", sum := "176fa7f3c265075dfd04dd868bfac61320be5fc72a95812a66d3c1687ecd57b8", func := "catchpole/catchpolelaw1.BytesetRuns", spec := "bytesetRuns", named := ["math/bits.deBruijn64tab"], apart := false, laid := [("math/bits.deBruijn64tab", laid_math_bits_deBruijn64tab)] }
def BytesetRunsSaid : Prop := bytesetRunsRow.holds Tryd.pinned (OpenSpec.ofChange bytesetRunsSpec)

/-- ITS FALSE NEIGHBOUR: 'it returns false'. Refute it at one input. -/
def bytesetRunsWrong : ChangeSpec := { name := "bytesetRuns", fn := fun _ => fun
  | [d] => { results := [.lit (.bool false)], args := [d] }
  | _ => none }
def BytesetRunsWrongFalsely : Prop := bytesetRunsRow.holds Tryd.pinned (OpenSpec.ofChange bytesetRunsWrong)

/-- 'catchpolelaw1.BytesetList': WHATEVER THE INPUT: true; the input reads as it did. -/
def bytesetListSpec : ChangeSpec := { name := "bytesetList", fn := fun _ => fun
  | [d1, d2] => { results := [.lit (.bool true)], args := [d1, d2] }
  | _ => none }
def bytesetListRow : OpenClaim := { program := "ytebodglhcnpfeaadoor", sum := "176fa7f3c265075dfd04dd868bfac61320be5fc72a95812a66d3c1687ecd57b8", func := "catchpole/catchpolelaw1.BytesetList", spec := "bytesetList", named := ["math/bits.deBruijn64tab"], apart := false, laid := [("math/bits.deBruijn64tab", laid_math_bits_deBruijn64tab)] }
def BytesetListSaid : Prop := bytesetListRow.holds Tryd.pinned (OpenSpec.ofChange bytesetListSpec)

/-- ITS FALSE NEIGHBOUR: 'it returns false'. Refute it at one input. -/
def bytesetListWrong : ChangeSpec := { name := "bytesetList", fn := fun _ => fun
  | [d1, d2] => { results := [.lit (.bool false)], args := [d1, d2] }
  | _ => none }
def BytesetListWrongFalsely : Prop := bytesetListRow.holds Tryd.pinned (OpenSpec.ofChange bytesetListWrong)

/- THE SECOND FORM. 'bulk': how many values and letters a reading holds, each counted each time it is reached (what is shared counts as often as it is met; a slice's spare places count too). A statement '..UptoSaid' is the law's where the arguments, and the package variables that the reading takes, are together of bulk at most 1048576: NARROWER than '..Said'. Prove '..Said' where nothing that the law and all that it calls make is longer than what came in: it says more and counts as full. Else prove '..UptoSaid'. A law counts once. -/
mutual
def uptoBulk {H : Type} : DataW H → Nat
  | .lit (.string bytes) => bytes.length + 1
  | .lit _ => 1
  | .nil => 1
  | .ptr d => uptoBulk d + 1
  | .slice elems spare => uptoBulkAll elems + uptoBulkAll spare + 1
  | .agg parts => uptoBulkAll parts + 1
  | .iface _ d => uptoBulk d + 1
  | .map entries => uptoBulkEntries entries + 1
  | .held _ => 1
def uptoBulkAll {H : Type} : List (DataW H) → Nat
  | [] => 0
  | d :: r => uptoBulk d + uptoBulkAll r
def uptoBulkEntries {H : Type} : List (Lit × DataW H) → Nat
  | [] => 0
  | x :: r => uptoBulkEntry x + uptoBulkEntries r
def uptoBulkEntry {H : Type} : Lit × DataW H → Nat
  | (.string bytes, d) => bytes.length + uptoBulk d + 1
  | (_, d) => uptoBulk d + 1
 end
def uptoSmall : (H : Type) → List (DataW H) → Bool := fun _ ds => decide (uptoBulkAll ds ≤ 1048576)
def OpenSpec.upto (s : _root_.Go.ChangeSpec) : _root_.Go.OpenSpec := { _root_.Go.OpenSpec.ofChange s with cond := some uptoSmall }

/-- 'catchpolelaw1.BytesetKnown', WHERE WHAT IT READS IS OF BULK AT MOST 1048576: true; the input reads as it did. -/
def bytesetKnownUptoRow : OpenClaim := { program := "ytebodglhcnpfeaadoor", sum := "176fa7f3c265075dfd04dd868bfac61320be5fc72a95812a66d3c1687ecd57b8", func := "catchpole/catchpolelaw1.BytesetKnown", spec := "bytesetKnown", inPlace := ["internal/bytealg.Compare"], named := ["math/bits.deBruijn64tab"], apart := false, laid := [("math/bits.deBruijn64tab", laid_math_bits_deBruijn64tab)], narrowed := true }
def BytesetKnownUptoSaid : Prop := bytesetKnownUptoRow.holds Tryd.pinned (OpenSpec.upto bytesetKnownSpec)

/-- 'catchpolelaw1.BytesetSays', WHERE WHAT IT READS IS OF BULK AT MOST 1048576: true; the input reads as it did. -/
def bytesetSaysUptoRow : OpenClaim := { program := "ytebodglhcnpfeaadoor", sum := "176fa7f3c265075dfd04dd868bfac61320be5fc72a95812a66d3c1687ecd57b8", func := "catchpole/catchpolelaw1.BytesetSays", spec := "bytesetSays", inPlace := ["internal/bytealg.Compare"], named := ["math/bits.deBruijn64tab"], apart := false, laid := [("math/bits.deBruijn64tab", laid_math_bits_deBruijn64tab)], narrowed := true }
def BytesetSaysUptoSaid : Prop := bytesetSaysUptoRow.holds Tryd.pinned (OpenSpec.upto bytesetSaysSpec)

/-- 'catchpolelaw1.BytesetLaws', WHERE WHAT IT READS IS OF BULK AT MOST 1048576: true; the input reads as it did. -/
def bytesetLawsUptoRow : OpenClaim := { program := "ytebodglhcnpfeaadoor", sum := "176fa7f3c265075dfd04dd868bfac61320be5fc72a95812a66d3c1687ecd57b8", func := "catchpole/catchpolelaw1.BytesetLaws", spec := "bytesetLaws", inPlace := ["internal/bytealg.Compare"], named := ["math/bits.deBruijn64tab"], apart := false, laid := [("math/bits.deBruijn64tab", laid_math_bits_deBruijn64tab)], narrowed := true }
def BytesetLawsUptoSaid : Prop := bytesetLawsUptoRow.holds Tryd.pinned (OpenSpec.upto bytesetLawsSpec)

/-- 'catchpolelaw1.BytesetRuns', WHERE WHAT IT READS IS OF BULK AT MOST 1048576: true; the input reads as it did. -/
def bytesetRunsUptoRow : OpenClaim := { program := "ytebodglhcnpfeaadoor", sum := "176fa7f3c265075dfd04dd868bfac61320be5fc72a95812a66d3c1687ecd57b8", func := "catchpole/catchpolelaw1.BytesetRuns", spec := "bytesetRuns", named := ["math/bits.deBruijn64tab"], apart := false, laid := [("math/bits.deBruijn64tab", laid_math_bits_deBruijn64tab)], narrowed := true }
def BytesetRunsUptoSaid : Prop := bytesetRunsUptoRow.holds Tryd.pinned (OpenSpec.upto bytesetRunsSpec)

/-- 'catchpolelaw1.BytesetList', WHERE WHAT IT READS IS OF BULK AT MOST 1048576: true; the input reads as it did. -/
def bytesetListUptoRow : OpenClaim := { program := "ytebodglhcnpfeaadoor", sum := "176fa7f3c265075dfd04dd868bfac61320be5fc72a95812a66d3c1687ecd57b8", func := "catchpole/catchpolelaw1.BytesetList", spec := "bytesetList", named := ["math/bits.deBruijn64tab"], apart := false, laid := [("math/bits.deBruijn64tab", laid_math_bits_deBruijn64tab)], narrowed := true }
def BytesetListUptoSaid : Prop := bytesetListUptoRow.holds Tryd.pinned (OpenSpec.upto bytesetListSpec)

end Rows
end Go.Proofs.YtebodglhcnpfeaaDoor
