/-
  No cell of these rows narrows 'for every input' (looked for: loops, veiled, ifaces, maps, wideKeys, modest, calm, conditions, laid).
  DERIVED. THE GIVEN ROWS OF THIS SEAT. 6 by the template 'for every input the law returns true; each argument reads behind the call as it read before'; 0 by the template 'total and deterministic' (their statements: YtagfnpakpncbmaaTotals.lean).
  GIVEN WITH THE SEED: the statements are not yours to turn. If you find one false, say at which input.
  Laid BY PROGRAM, IN A SANDBOX (cutbox-rows.mjs): the forced cells as the released guide's own fill.sh prints them over the translation 6498a0de3eff4742… (all of the seat's roots in one cut). By AI agents, Wed Nov 11 2026. No macro, syntax, notation, axiom, sorry.
-/
import Derived.Test.YtagfnpakpncbmaaChecked
import GoSem.Claim
import GoSem.ClaimJoined
import GoSem.ClaimMapViews
import Derived.JoinedTies
import Derived.KernelRfl
namespace Go.Proofs.Ytagfnpakpncbmaa
/- THE CELL 'sum', in the pinned program and in every row, IS THE sha256 OF THE DUMP (.gsa) THAT YtagfnpakpncbmaaProg.lean LOADS. Nothing in Lean hashes anything: it is a label: what it is worth is what the hold of that sum in a sandbox is worth. -/
noncomputable def Try.pinned : Pinned := { name := "ytagfnpakpncbmaa", sum := "6498a0de3eff47426fdd2dd9c594782d5b5df369c68fe550ba6844c98737484d", checked := Try.checked }
namespace Rows
def none {H : Type} : Left H := { results := [], args := [] }

/-- 'hornbooklaw04.ChunkWeighs': WHATEVER THE INPUT: true; the input reads as it did. -/
def chunkWeighsSpec : ChangeSpec := { name := "chunkWeighs", fn := fun _ => fun
  | [d] => { results := [.lit (.bool true)], args := [d] }
  | _ => none }
def chunkWeighsRow : OpenClaim := { program := "ytagfnpakpncbmaa", sum := "6498a0de3eff47426fdd2dd9c594782d5b5df369c68fe550ba6844c98737484d", func := "hornbook/hornbooklaw04.ChunkWeighs", spec := "chunkWeighs", apart := false }
def ChunkWeighsSaid : Prop := chunkWeighsRow.holds Try.pinned (OpenSpec.ofChange chunkWeighsSpec)

/-- ITS FALSE NEIGHBOUR: 'it returns false'. Refute it at one input. -/
def chunkWeighsWrong : ChangeSpec := { name := "chunkWeighs", fn := fun _ => fun
  | [d] => { results := [.lit (.bool false)], args := [d] }
  | _ => none }
def ChunkWeighsWrongFalsely : Prop := chunkWeighsRow.holds Try.pinned (OpenSpec.ofChange chunkWeighsWrong)

/-- 'hornbooklaw04.ChunkCuts': WHATEVER THE INPUT: true; the input reads as it did. -/
def chunkCutsSpec : ChangeSpec := { name := "chunkCuts", fn := fun _ => fun
  | [d] => { results := [.lit (.bool true)], args := [d] }
  | _ => none }
def chunkCutsRow : OpenClaim := { program := "ytagfnpakpncbmaa", sum := "6498a0de3eff47426fdd2dd9c594782d5b5df369c68fe550ba6844c98737484d", func := "hornbook/hornbooklaw04.ChunkCuts", spec := "chunkCuts", unfollowed := true, recurses := true, apart := false }
def ChunkCutsSaid : Prop := chunkCutsRow.holds Try.pinned (OpenSpec.ofChange chunkCutsSpec)

/-- ITS FALSE NEIGHBOUR: 'it returns false'. Refute it at one input. -/
def chunkCutsWrong : ChangeSpec := { name := "chunkCuts", fn := fun _ => fun
  | [d] => { results := [.lit (.bool false)], args := [d] }
  | _ => none }
def ChunkCutsWrongFalsely : Prop := chunkCutsRow.holds Try.pinned (OpenSpec.ofChange chunkCutsWrong)

/-- 'hornbooklaw04.ChunkWhole': WHATEVER THE INPUT: true; the input reads as it did. -/
def chunkWholeSpec : ChangeSpec := { name := "chunkWhole", fn := fun _ => fun
  | [d] => { results := [.lit (.bool true)], args := [d] }
  | _ => none }
def chunkWholeRow : OpenClaim := { program := "ytagfnpakpncbmaa", sum := "6498a0de3eff47426fdd2dd9c594782d5b5df369c68fe550ba6844c98737484d", func := "hornbook/hornbooklaw04.ChunkWhole", spec := "chunkWhole", inPlace := ["internal/abi.NoEscape", "internal/bytealg.MakeNoZero"], unfollowed := true, recurses := true, apart := false }
def ChunkWholeSaid : Prop := chunkWholeRow.holds Try.pinned (OpenSpec.ofChange chunkWholeSpec)

/-- ITS FALSE NEIGHBOUR: 'it returns false'. Refute it at one input. -/
def chunkWholeWrong : ChangeSpec := { name := "chunkWhole", fn := fun _ => fun
  | [d] => { results := [.lit (.bool false)], args := [d] }
  | _ => none }
def ChunkWholeWrongFalsely : Prop := chunkWholeRow.holds Try.pinned (OpenSpec.ofChange chunkWholeWrong)

/-- 'hornbooklaw04.ChunkBehind': WHATEVER THE INPUT: true; the input reads as it did. -/
def chunkBehindSpec : ChangeSpec := { name := "chunkBehind", fn := fun _ => fun
  | [d1, d2] => { results := [.lit (.bool true)], args := [d1, d2] }
  | _ => none }
def chunkBehindRow : OpenClaim := { program := "ytagfnpakpncbmaa", sum := "6498a0de3eff47426fdd2dd9c594782d5b5df369c68fe550ba6844c98737484d", func := "hornbook/hornbooklaw04.ChunkBehind", spec := "chunkBehind", inPlace := ["internal/abi.NoEscape", "internal/bytealg.MakeNoZero"], unfollowed := true, recurses := true, apart := false }
def ChunkBehindSaid : Prop := chunkBehindRow.holds Try.pinned (OpenSpec.ofChange chunkBehindSpec)

/-- ITS FALSE NEIGHBOUR: 'it returns false'. Refute it at one input. -/
def chunkBehindWrong : ChangeSpec := { name := "chunkBehind", fn := fun _ => fun
  | [d1, d2] => { results := [.lit (.bool false)], args := [d1, d2] }
  | _ => none }
def ChunkBehindWrongFalsely : Prop := chunkBehindRow.holds Try.pinned (OpenSpec.ofChange chunkBehindWrong)

/-- 'hornbooklaw04.ChunkAhead': WHATEVER THE INPUT: true; the input reads as it did. -/
def chunkAheadSpec : ChangeSpec := { name := "chunkAhead", fn := fun _ => fun
  | [d1, d2, d3] => { results := [.lit (.bool true)], args := [d1, d2, d3] }
  | _ => none }
def chunkAheadRow : OpenClaim := { program := "ytagfnpakpncbmaa", sum := "6498a0de3eff47426fdd2dd9c594782d5b5df369c68fe550ba6844c98737484d", func := "hornbook/hornbooklaw04.ChunkAhead", spec := "chunkAhead", unfollowed := true, recurses := true, apart := false }
def ChunkAheadSaid : Prop := chunkAheadRow.holds Try.pinned (OpenSpec.ofChange chunkAheadSpec)

/-- ITS FALSE NEIGHBOUR: 'it returns false'. Refute it at one input. -/
def chunkAheadWrong : ChangeSpec := { name := "chunkAhead", fn := fun _ => fun
  | [d1, d2, d3] => { results := [.lit (.bool false)], args := [d1, d2, d3] }
  | _ => none }
def ChunkAheadWrongFalsely : Prop := chunkAheadRow.holds Try.pinned (OpenSpec.ofChange chunkAheadWrong)

/-- 'hornbooklaw04.ChunkWhy': WHATEVER THE INPUT: true; the input reads as it did. -/
def chunkWhySpec : ChangeSpec := { name := "chunkWhy", fn := fun _ => fun
  | [d] => { results := [.lit (.bool true)], args := [d] }
  | _ => none }
def chunkWhyRow : OpenClaim := { program := "ytagfnpakpncbmaa", sum := "6498a0de3eff47426fdd2dd9c594782d5b5df369c68fe550ba6844c98737484d", func := "hornbook/hornbooklaw04.ChunkWhy", spec := "chunkWhy", unfollowed := true, recurses := true, apart := false }
def ChunkWhySaid : Prop := chunkWhyRow.holds Try.pinned (OpenSpec.ofChange chunkWhySpec)

/-- ITS FALSE NEIGHBOUR: 'it returns false'. Refute it at one input. -/
def chunkWhyWrong : ChangeSpec := { name := "chunkWhy", fn := fun _ => fun
  | [d] => { results := [.lit (.bool false)], args := [d] }
  | _ => none }
def ChunkWhyWrongFalsely : Prop := chunkWhyRow.holds Try.pinned (OpenSpec.ofChange chunkWhyWrong)

/- THE SECOND FORM. 'bulk': how many values and letters a reading holds, each counted each time it is reached (what is shared counts as often as it is met; a slice's spare places count too). A statement '..UptoSaid' is the law's where the arguments, and the package variables that the reading takes, are together of bulk at most 1048576: NARROWER than '..Said'. Prove '..Said' where nothing that the law and all that it calls make is longer than what came in: it says more and counts as full. Else prove '..UptoSaid'. A law counts once. -/
mutual
def uptoBulk {H : Type} : DataW H → Nat
  | .lit (.string bytes) => bytes.length + 1
  | .lit _ => 1
  | .nil => 1
  | .ptr d => uptoBulk d + 1
  | .slice elems spare => uptoBulkAll elems + uptoBulkAll spare + 1
  | .agg parts => uptoBulkAll parts + 1
  | .iface _ d => uptoBulk d + 1
  | .map entries => uptoBulkEntries entries + 1
  | .held _ => 1
def uptoBulkAll {H : Type} : List (DataW H) → Nat
  | [] => 0
  | d :: r => uptoBulk d + uptoBulkAll r
def uptoBulkEntries {H : Type} : List (Lit × DataW H) → Nat
  | [] => 0
  | x :: r => uptoBulkEntry x + uptoBulkEntries r
def uptoBulkEntry {H : Type} : Lit × DataW H → Nat
  | (.string bytes, d) => bytes.length + uptoBulk d + 1
  | (_, d) => uptoBulk d + 1
 end
def uptoSmall : (H : Type) → List (DataW H) → Bool := fun _ ds => decide (uptoBulkAll ds ≤ 1048576)
def OpenSpec.upto (s : _root_.Go.ChangeSpec) : _root_.Go.OpenSpec := { _root_.Go.OpenSpec.ofChange s with cond := some uptoSmall }

/-- 'hornbooklaw04.ChunkWeighs', WHERE WHAT IT READS IS OF BULK AT MOST 1048576: true; the input reads as it did. -/
def chunkWeighsUptoRow : OpenClaim := { program := "ytagfnpakpncbmaa", sum := "6498a0de3eff47426fdd2dd9c594782d5b5df369c68fe550ba6844c98737484d", func := "hornbook/hornbooklaw04.ChunkWeighs", spec := "chunkWeighs", apart := false, narrowed := true }
def ChunkWeighsUptoSaid : Prop := chunkWeighsUptoRow.holds Try.pinned (OpenSpec.upto chunkWeighsSpec)

/-- 'hornbooklaw04.ChunkCuts', WHERE WHAT IT READS IS OF BULK AT MOST 1048576: true; the input reads as it did. -/
def chunkCutsUptoRow : OpenClaim := { program := "ytagfnpakpncbmaa", sum := "6498a0de3eff47426fdd2dd9c594782d5b5df369c68fe550ba6844c98737484d", func := "hornbook/hornbooklaw04.ChunkCuts", spec := "chunkCuts", unfollowed := true, recurses := true, apart := false, narrowed := true }
def ChunkCutsUptoSaid : Prop := chunkCutsUptoRow.holds Try.pinned (OpenSpec.upto chunkCutsSpec)

/-- 'hornbooklaw04.ChunkWhole', WHERE WHAT IT READS IS OF BULK AT MOST 1048576: true; the input reads as it did. -/
def chunkWholeUptoRow : OpenClaim := { program := "ytagfnpakpncbmaa", sum := "6498a0de3eff47426fdd2dd9c594782d5b5df369c68fe550ba6844c98737484d", func := "hornbook/hornbooklaw04.ChunkWhole", spec := "chunkWhole", inPlace := ["internal/abi.NoEscape", "internal/bytealg.MakeNoZero"], unfollowed := true, recurses := true, apart := false, narrowed := true }
def ChunkWholeUptoSaid : Prop := chunkWholeUptoRow.holds Try.pinned (OpenSpec.upto chunkWholeSpec)

/-- 'hornbooklaw04.ChunkBehind', WHERE WHAT IT READS IS OF BULK AT MOST 1048576: true; the input reads as it did. -/
def chunkBehindUptoRow : OpenClaim := { program := "ytagfnpakpncbmaa", sum := "6498a0de3eff47426fdd2dd9c594782d5b5df369c68fe550ba6844c98737484d", func := "hornbook/hornbooklaw04.ChunkBehind", spec := "chunkBehind", inPlace := ["internal/abi.NoEscape", "internal/bytealg.MakeNoZero"], unfollowed := true, recurses := true, apart := false, narrowed := true }
def ChunkBehindUptoSaid : Prop := chunkBehindUptoRow.holds Try.pinned (OpenSpec.upto chunkBehindSpec)

/-- 'hornbooklaw04.ChunkAhead', WHERE WHAT IT READS IS OF BULK AT MOST 1048576: true; the input reads as it did. -/
def chunkAheadUptoRow : OpenClaim := { program := "ytagfnpakpncbmaa", sum := "6498a0de3eff47426fdd2dd9c594782d5b5df369c68fe550ba6844c98737484d", func := "hornbook/hornbooklaw04.ChunkAhead", spec := "chunkAhead", unfollowed := true, recurses := true, apart := false, narrowed := true }
def ChunkAheadUptoSaid : Prop := chunkAheadUptoRow.holds Try.pinned (OpenSpec.upto chunkAheadSpec)

/-- 'hornbooklaw04.ChunkWhy', WHERE WHAT IT READS IS OF BULK AT MOST 1048576: true; the input reads as it did. -/
def chunkWhyUptoRow : OpenClaim := { program := "ytagfnpakpncbmaa", sum := "6498a0de3eff47426fdd2dd9c594782d5b5df369c68fe550ba6844c98737484d", func := "hornbook/hornbooklaw04.ChunkWhy", spec := "chunkWhy", unfollowed := true, recurses := true, apart := false, narrowed := true }
def ChunkWhyUptoSaid : Prop := chunkWhyUptoRow.holds Try.pinned (OpenSpec.upto chunkWhySpec)

end Rows
end Go.Proofs.Ytagfnpakpncbmaa
