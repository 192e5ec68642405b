/-
  NARROWER THAN 'FOR EVERY INPUT', by the rows' own cells (each row's printed sentence says how): EagerSays: loops · EagerTotal: loops · EagerParts: loops.
  DERIVED. THE GIVEN ROWS OF THIS SEAT. 4 by the template 'for every input the law returns true; each argument reads behind the call as it read before'; 0 by the template 'total and deterministic' (their statements: YtblgjcolmaidlaaTotals.lean).
  GIVEN WITH THE SEED: the statements are not yours to turn. If you find one false, say at which input.
  Laid BY PROGRAM, IN A SANDBOX (cutbox-rows.mjs): the forced cells as the released guide's own fill.sh prints them over the translation 42a3e123b99c21eb… (all of the seat's roots in one cut). By AI agents, Wed Nov 11 2026. No macro, syntax, notation, axiom, sorry.
-/
import Derived.Test.YtblgjcolmaidlaaChecked
import GoSem.Claim
import GoSem.ClaimJoined
import GoSem.ClaimMapViews
import Derived.JoinedTies
import Derived.KernelRfl
namespace Go.Proofs.Ytblgjcolmaidlaa
/- THE CELL 'sum', in the pinned program and in every row, IS THE sha256 OF THE DUMP (.gsa) THAT YtblgjcolmaidlaaProg.lean LOADS. Nothing in Lean hashes anything: it is a label: what it is worth is what the hold of that sum in a sandbox is worth. -/
noncomputable def Try.pinned : Pinned := { name := "ytblgjcolmaidlaa", sum := "42a3e123b99c21eb02c745206260183e19d62a0e41af51fa59a2373360d88ccb", checked := Try.checked }
namespace Rows
def none {H : Type} : Left H := { results := [], args := [] }

/-- 'catchpolelaw14.EagerKnown': WHATEVER THE INPUT: true; the input reads as it did. -/
def eagerKnownSpec : ChangeSpec := { name := "eagerKnown", fn := fun _ => fun
  | [] => { results := [.lit (.bool true)], args := [] }
  | _ => none }
def eagerKnownRow : OpenClaim := { program := "ytblgjcolmaidlaa", sum := "42a3e123b99c21eb02c745206260183e19d62a0e41af51fa59a2373360d88ccb", func := "catchpole/catchpolelaw14.EagerKnown", spec := "eagerKnown", inPlace := ["internal/abi.NoEscape", "internal/bytealg.abigen_runtime_cmpstring"], recurses := true, apart := false }
def EagerKnownSaid : Prop := eagerKnownRow.holds Try.pinned (OpenSpec.ofChange eagerKnownSpec)

/-- ITS FALSE NEIGHBOUR: 'it returns false'. Refute it at one input. -/
def eagerKnownWrong : ChangeSpec := { name := "eagerKnown", fn := fun _ => fun
  | [] => { results := [.lit (.bool false)], args := [] }
  | _ => none }
def EagerKnownWrongFalsely : Prop := eagerKnownRow.holds Try.pinned (OpenSpec.ofChange eagerKnownWrong)

/-- 'catchpolelaw14.EagerSays': WHATEVER THE INPUT: true; the input reads as it did. -/
def eagerSaysSpec : ChangeSpec := { name := "eagerSays", fn := fun _ => fun
  | [d1, d2, d3] => { results := [.lit (.bool true)], args := [d1, d2, d3] }
  | _ => none }
def eagerSaysRow : OpenClaim := { program := "ytblgjcolmaidlaa", sum := "42a3e123b99c21eb02c745206260183e19d62a0e41af51fa59a2373360d88ccb", func := "catchpole/catchpolelaw14.EagerSays", spec := "eagerSays", inPlace := ["internal/abi.NoEscape", "internal/bytealg.abigen_runtime_cmpstring"], recurses := true, loops := true, apart := false }
def EagerSaysSaid : Prop := eagerSaysRow.holds Try.pinned (OpenSpec.ofChange eagerSaysSpec)

/-- ITS FALSE NEIGHBOUR: 'it returns false'. Refute it at one input. -/
def eagerSaysWrong : ChangeSpec := { name := "eagerSays", fn := fun _ => fun
  | [d1, d2, d3] => { results := [.lit (.bool false)], args := [d1, d2, d3] }
  | _ => none }
def EagerSaysWrongFalsely : Prop := eagerSaysRow.holds Try.pinned (OpenSpec.ofChange eagerSaysWrong)

/-- 'catchpolelaw14.EagerTotal': WHATEVER THE INPUT: true; the input reads as it did. -/
def eagerTotalSpec : ChangeSpec := { name := "eagerTotal", fn := fun _ => fun
  | [d1, d2, d3] => { results := [.lit (.bool true)], args := [d1, d2, d3] }
  | _ => none }
def eagerTotalRow : OpenClaim := { program := "ytblgjcolmaidlaa", sum := "42a3e123b99c21eb02c745206260183e19d62a0e41af51fa59a2373360d88ccb", func := "catchpole/catchpolelaw14.EagerTotal", spec := "eagerTotal", inPlace := ["internal/abi.NoEscape", "internal/bytealg.abigen_runtime_cmpstring"], recurses := true, loops := true, apart := false }
def EagerTotalSaid : Prop := eagerTotalRow.holds Try.pinned (OpenSpec.ofChange eagerTotalSpec)

/-- ITS FALSE NEIGHBOUR: 'it returns false'. Refute it at one input. -/
def eagerTotalWrong : ChangeSpec := { name := "eagerTotal", fn := fun _ => fun
  | [d1, d2, d3] => { results := [.lit (.bool false)], args := [d1, d2, d3] }
  | _ => none }
def EagerTotalWrongFalsely : Prop := eagerTotalRow.holds Try.pinned (OpenSpec.ofChange eagerTotalWrong)

/-- 'catchpolelaw14.EagerParts': WHATEVER THE INPUT: true; the input reads as it did. -/
def eagerPartsSpec : ChangeSpec := { name := "eagerParts", fn := fun _ => fun
  | [d1, d2, d3] => { results := [.lit (.bool true)], args := [d1, d2, d3] }
  | _ => none }
def eagerPartsRow : OpenClaim := { program := "ytblgjcolmaidlaa", sum := "42a3e123b99c21eb02c745206260183e19d62a0e41af51fa59a2373360d88ccb", func := "catchpole/catchpolelaw14.EagerParts", spec := "eagerParts", inPlace := ["internal/abi.NoEscape", "internal/bytealg.abigen_runtime_cmpstring"], recurses := true, loops := true, apart := false }
def EagerPartsSaid : Prop := eagerPartsRow.holds Try.pinned (OpenSpec.ofChange eagerPartsSpec)

/-- ITS FALSE NEIGHBOUR: 'it returns false'. Refute it at one input. -/
def eagerPartsWrong : ChangeSpec := { name := "eagerParts", fn := fun _ => fun
  | [d1, d2, d3] => { results := [.lit (.bool false)], args := [d1, d2, d3] }
  | _ => none }
def EagerPartsWrongFalsely : Prop := eagerPartsRow.holds Try.pinned (OpenSpec.ofChange eagerPartsWrong)

/- THE SECOND FORM. 'bulk': how many values and letters a reading holds, each counted each time it is reached (what is shared counts as often as it is met; a slice's spare places count too). A statement '..UptoSaid' is the law's where the arguments, and the package variables that the reading takes, are together of bulk at most 1048576: NARROWER than '..Said'. Prove '..Said' where nothing that the law and all that it calls make is longer than what came in: it says more and counts as full. Else prove '..UptoSaid'. A law counts once. -/
mutual
def uptoBulk {H : Type} : DataW H → Nat
  | .lit (.string bytes) => bytes.length + 1
  | .lit _ => 1
  | .nil => 1
  | .ptr d => uptoBulk d + 1
  | .slice elems spare => uptoBulkAll elems + uptoBulkAll spare + 1
  | .agg parts => uptoBulkAll parts + 1
  | .iface _ d => uptoBulk d + 1
  | .map entries => uptoBulkEntries entries + 1
  | .held _ => 1
def uptoBulkAll {H : Type} : List (DataW H) → Nat
  | [] => 0
  | d :: r => uptoBulk d + uptoBulkAll r
def uptoBulkEntries {H : Type} : List (Lit × DataW H) → Nat
  | [] => 0
  | x :: r => uptoBulkEntry x + uptoBulkEntries r
def uptoBulkEntry {H : Type} : Lit × DataW H → Nat
  | (.string bytes, d) => bytes.length + uptoBulk d + 1
  | (_, d) => uptoBulk d + 1
 end
def uptoSmall : (H : Type) → List (DataW H) → Bool := fun _ ds => decide (uptoBulkAll ds ≤ 1048576)
def OpenSpec.upto (s : _root_.Go.ChangeSpec) : _root_.Go.OpenSpec := { _root_.Go.OpenSpec.ofChange s with cond := some uptoSmall }

/-- 'catchpolelaw14.EagerKnown', WHERE WHAT IT READS IS OF BULK AT MOST 1048576: true; the input reads as it did. -/
def eagerKnownUptoRow : OpenClaim := { program := "ytblgjcolmaidlaa", sum := "42a3e123b99c21eb02c745206260183e19d62a0e41af51fa59a2373360d88ccb", func := "catchpole/catchpolelaw14.EagerKnown", spec := "eagerKnown", inPlace := ["internal/abi.NoEscape", "internal/bytealg.abigen_runtime_cmpstring"], recurses := true, apart := false, narrowed := true }
def EagerKnownUptoSaid : Prop := eagerKnownUptoRow.holds Try.pinned (OpenSpec.upto eagerKnownSpec)

/-- 'catchpolelaw14.EagerSays', WHERE WHAT IT READS IS OF BULK AT MOST 1048576: true; the input reads as it did. -/
def eagerSaysUptoRow : OpenClaim := { program := "ytblgjcolmaidlaa", sum := "42a3e123b99c21eb02c745206260183e19d62a0e41af51fa59a2373360d88ccb", func := "catchpole/catchpolelaw14.EagerSays", spec := "eagerSays", inPlace := ["internal/abi.NoEscape", "internal/bytealg.abigen_runtime_cmpstring"], recurses := true, loops := true, apart := false, narrowed := true }
def EagerSaysUptoSaid : Prop := eagerSaysUptoRow.holds Try.pinned (OpenSpec.upto eagerSaysSpec)

/-- 'catchpolelaw14.EagerTotal', WHERE WHAT IT READS IS OF BULK AT MOST 1048576: true; the input reads as it did. -/
def eagerTotalUptoRow : OpenClaim := { program := "ytblgjcolmaidlaa", sum := "42a3e123b99c21eb02c745206260183e19d62a0e41af51fa59a2373360d88ccb", func := "catchpole/catchpolelaw14.EagerTotal", spec := "eagerTotal", inPlace := ["internal/abi.NoEscape", "internal/bytealg.abigen_runtime_cmpstring"], recurses := true, loops := true, apart := false, narrowed := true }
def EagerTotalUptoSaid : Prop := eagerTotalUptoRow.holds Try.pinned (OpenSpec.upto eagerTotalSpec)

/-- 'catchpolelaw14.EagerParts', WHERE WHAT IT READS IS OF BULK AT MOST 1048576: true; the input reads as it did. -/
def eagerPartsUptoRow : OpenClaim := { program := "ytblgjcolmaidlaa", sum := "42a3e123b99c21eb02c745206260183e19d62a0e41af51fa59a2373360d88ccb", func := "catchpole/catchpolelaw14.EagerParts", spec := "eagerParts", inPlace := ["internal/abi.NoEscape", "internal/bytealg.abigen_runtime_cmpstring"], recurses := true, loops := true, apart := false, narrowed := true }
def EagerPartsUptoSaid : Prop := eagerPartsUptoRow.holds Try.pinned (OpenSpec.upto eagerPartsSpec)

end Rows
end Go.Proofs.Ytblgjcolmaidlaa
