/-
  NARROWER THAN 'FOR EVERY INPUT', by the rows' own cells (each row's printed sentence says how): PluralReads: laid · PluralPrints: laid · PluralHolds: laid · PluralTells: laid · PluralBack: laid · PluralTables: laid.
  DERIVED. THE GIVEN ROWS OF THIS SEAT. 6 by the template 'for every input the law returns true; each argument reads behind the call as it read before'; 0 by the template 'total and deterministic' (their statements: YtlgodcbffimcoaaDoorTotals.lean).
  GIVEN WITH THE SEED: the statements are not yours to turn. If you find one false, say at which input.
  Laid BY PROGRAM, IN A SANDBOX (cutbox-rows.mjs): the forced cells as the released guide's own fill.sh prints them over the translation e16599491192305b… (all of the seat's roots in one cut). By AI agents, Wed Nov 11 2026. No macro, syntax, notation, axiom, sorry.
-/
import Derived.Test.YtlgodcbffimcoaaDoorChecked
import GoSem.Claim
import GoSem.ClaimJoined
import GoSem.ClaimMapViews
import Derived.JoinedTies
import Derived.KernelRfl
namespace Go.Proofs.YtlgodcbffimcoaaDoor
/- THE CELL 'sum', in the pinned program and in every row, IS THE sha256 OF THE DUMP (.gsa) THAT YtlgodcbffimcoaaDoorProg.lean LOADS. Nothing in Lean hashes anything: it is a label: what it is worth is what the hold of that sum in a sandbox is worth. -/
noncomputable def Tryd.pinned : Pinned := { name := "ytlgodcbffimcoaadoor", sum := "e16599491192305b7f51ef0ac424b0a1c8e89562e1ffd53f5cc2b8a7f94d4111", checked := Tryd.checked }
namespace Rows
def none {H : Type} : Left H := { results := [], args := [] }

/- WHAT THE LISTED PACKAGE-LEVEL VARIABLES READ AS WHEN THE CALL BEGINS. Each datum BY PROGRAM (the guide's laid-datum.mjs) off the statement by which the dump's own 'gosem.cut.vars' lays the variable. In a bare row this is a premise. The card (YtlgodcbffimcoaaDoorCards.lean) ties it to the program's text. -/
def laid_math_bits_deBruijn32tab {H : Type} : DataW H := .agg [.lit (.int .u8 0), .lit (.int .u8 1), .lit (.int .u8 28), .lit (.int .u8 2), .lit (.int .u8 29), .lit (.int .u8 14), .lit (.int .u8 24), .lit (.int .u8 3), .lit (.int .u8 30), .lit (.int .u8 22), .lit (.int .u8 20), .lit (.int .u8 15), .lit (.int .u8 25), .lit (.int .u8 17), .lit (.int .u8 4), .lit (.int .u8 8), .lit (.int .u8 31), .lit (.int .u8 27), .lit (.int .u8 13), .lit (.int .u8 23), .lit (.int .u8 21), .lit (.int .u8 19), .lit (.int .u8 16), .lit (.int .u8 7), .lit (.int .u8 26), .lit (.int .u8 12), .lit (.int .u8 18), .lit (.int .u8 6), .lit (.int .u8 11), .lit (.int .u8 5), .lit (.int .u8 10), .lit (.int .u8 9)]
def laid_math_bits_deBruijn64tab {H : Type} : DataW H := .agg [.lit (.int .u8 0), .lit (.int .u8 1), .lit (.int .u8 56), .lit (.int .u8 2), .lit (.int .u8 57), .lit (.int .u8 49), .lit (.int .u8 28), .lit (.int .u8 3), .lit (.int .u8 61), .lit (.int .u8 58), .lit (.int .u8 42), .lit (.int .u8 50), .lit (.int .u8 38), .lit (.int .u8 29), .lit (.int .u8 17), .lit (.int .u8 4), .lit (.int .u8 62), .lit (.int .u8 47), .lit (.int .u8 59), .lit (.int .u8 36), .lit (.int .u8 45), .lit (.int .u8 43), .lit (.int .u8 51), .lit (.int .u8 22), .lit (.int .u8 53), .lit (.int .u8 39), .lit (.int .u8 33), .lit (.int .u8 30), .lit (.int .u8 24), .lit (.int .u8 18), .lit (.int .u8 12), .lit (.int .u8 5), .lit (.int .u8 63), .lit (.int .u8 55), .lit (.int .u8 48), .lit (.int .u8 27), .lit (.int .u8 60), .lit (.int .u8 41), .lit (.int .u8 37), .lit (.int .u8 16), .lit (.int .u8 46), .lit (.int .u8 35), .lit (.int .u8 44), .lit (.int .u8 21), .lit (.int .u8 52), .lit (.int .u8 32), .lit (.int .u8 23), .lit (.int .u8 11), .lit (.int .u8 54), .lit (.int .u8 26), .lit (.int .u8 40), .lit (.int .u8 15), .lit (.int .u8 34), .lit (.int .u8 20), .lit (.int .u8 31), .lit (.int .u8 10), .lit (.int .u8 25), .lit (.int .u8 14), .lit (.int .u8 19), .lit (.int .u8 9), .lit (.int .u8 13), .lit (.int .u8 8), .lit (.int .u8 7), .lit (.int .u8 6)]
def laid_internal_strconv_uint64pow10 {H : Type} : DataW H := .agg [.lit (.int .u64 1), .lit (.int .u64 10), .lit (.int .u64 100), .lit (.int .u64 1000), .lit (.int .u64 10000), .lit (.int .u64 100000), .lit (.int .u64 1000000), .lit (.int .u64 10000000), .lit (.int .u64 100000000), .lit (.int .u64 1000000000), .lit (.int .u64 10000000000), .lit (.int .u64 100000000000), .lit (.int .u64 1000000000000), .lit (.int .u64 10000000000000), .lit (.int .u64 100000000000000), .lit (.int .u64 1000000000000000), .lit (.int .u64 10000000000000000), .lit (.int .u64 100000000000000000), .lit (.int .u64 1000000000000000000), .lit (.int .u64 10000000000000000000)]

/-- 'hornbooklaw08.PluralReads': WHATEVER THE INPUT: true; the input reads as it did. -/
def pluralReadsSpec : ChangeSpec := { name := "pluralReads", fn := fun _ => fun
  | [d] => { results := [.lit (.bool true)], args := [d] }
  | _ => none }
def pluralReadsRow : OpenClaim := { program := "ytlgodcbffimcoaadoor", sum := "e16599491192305b7f51ef0ac424b0a1c8e89562e1ffd53f5cc2b8a7f94d4111", func := "hornbook/hornbooklaw08.PluralReads", spec := "pluralReads", inPlace := ["internal/abi.NoEscape", "internal/bytealg.MakeNoZero"], unfollowed := true, recurses := true, named := ["internal/strconv.uint64pow10", "math/bits.deBruijn32tab", "math/bits.deBruijn64tab"], apart := false, laid := [("math/bits.deBruijn32tab", laid_math_bits_deBruijn32tab), ("math/bits.deBruijn64tab", laid_math_bits_deBruijn64tab), ("internal/strconv.uint64pow10", laid_internal_strconv_uint64pow10)] }
def PluralReadsSaid : Prop := pluralReadsRow.holds Tryd.pinned (OpenSpec.ofChange pluralReadsSpec)

/-- ITS FALSE NEIGHBOUR: 'it returns false'. Refute it at one input. -/
def pluralReadsWrong : ChangeSpec := { name := "pluralReads", fn := fun _ => fun
  | [d] => { results := [.lit (.bool false)], args := [d] }
  | _ => none }
def PluralReadsWrongFalsely : Prop := pluralReadsRow.holds Tryd.pinned (OpenSpec.ofChange pluralReadsWrong)

/-- 'hornbooklaw08.PluralPrints': WHATEVER THE INPUT: true; the input reads as it did. -/
def pluralPrintsSpec : ChangeSpec := { name := "pluralPrints", fn := fun _ => fun
  | [d] => { results := [.lit (.bool true)], args := [d] }
  | _ => none }
def pluralPrintsRow : OpenClaim := { program := "ytlgodcbffimcoaadoor", sum := "e16599491192305b7f51ef0ac424b0a1c8e89562e1ffd53f5cc2b8a7f94d4111", func := "hornbook/hornbooklaw08.PluralPrints", spec := "pluralPrints", inPlace := ["internal/abi.NoEscape", "internal/bytealg.MakeNoZero"], unfollowed := true, recurses := true, named := ["internal/strconv.uint64pow10", "math/bits.deBruijn32tab", "math/bits.deBruijn64tab"], apart := false, laid := [("math/bits.deBruijn32tab", laid_math_bits_deBruijn32tab), ("math/bits.deBruijn64tab", laid_math_bits_deBruijn64tab), ("internal/strconv.uint64pow10", laid_internal_strconv_uint64pow10)] }
def PluralPrintsSaid : Prop := pluralPrintsRow.holds Tryd.pinned (OpenSpec.ofChange pluralPrintsSpec)

/-- ITS FALSE NEIGHBOUR: 'it returns false'. Refute it at one input. -/
def pluralPrintsWrong : ChangeSpec := { name := "pluralPrints", fn := fun _ => fun
  | [d] => { results := [.lit (.bool false)], args := [d] }
  | _ => none }
def PluralPrintsWrongFalsely : Prop := pluralPrintsRow.holds Tryd.pinned (OpenSpec.ofChange pluralPrintsWrong)

/-- 'hornbooklaw08.PluralHolds': WHATEVER THE INPUT: true; the input reads as it did. -/
def pluralHoldsSpec : ChangeSpec := { name := "pluralHolds", fn := fun _ => fun
  | [d1, d2] => { results := [.lit (.bool true)], args := [d1, d2] }
  | _ => none }
def pluralHoldsRow : OpenClaim := { program := "ytlgodcbffimcoaadoor", sum := "e16599491192305b7f51ef0ac424b0a1c8e89562e1ffd53f5cc2b8a7f94d4111", func := "hornbook/hornbooklaw08.PluralHolds", spec := "pluralHolds", inPlace := ["internal/abi.NoEscape", "internal/bytealg.MakeNoZero"], unfollowed := true, recurses := true, named := ["internal/strconv.uint64pow10", "math/bits.deBruijn32tab", "math/bits.deBruijn64tab"], apart := false, laid := [("math/bits.deBruijn32tab", laid_math_bits_deBruijn32tab), ("math/bits.deBruijn64tab", laid_math_bits_deBruijn64tab), ("internal/strconv.uint64pow10", laid_internal_strconv_uint64pow10)] }
def PluralHoldsSaid : Prop := pluralHoldsRow.holds Tryd.pinned (OpenSpec.ofChange pluralHoldsSpec)

/-- ITS FALSE NEIGHBOUR: 'it returns false'. Refute it at one input. -/
def pluralHoldsWrong : ChangeSpec := { name := "pluralHolds", fn := fun _ => fun
  | [d1, d2] => { results := [.lit (.bool false)], args := [d1, d2] }
  | _ => none }
def PluralHoldsWrongFalsely : Prop := pluralHoldsRow.holds Tryd.pinned (OpenSpec.ofChange pluralHoldsWrong)

/-- 'hornbooklaw08.PluralTells': WHATEVER THE INPUT: true; the input reads as it did. -/
def pluralTellsSpec : ChangeSpec := { name := "pluralTells", fn := fun _ => fun
  | [d1, d2] => { results := [.lit (.bool true)], args := [d1, d2] }
  | _ => none }
def pluralTellsRow : OpenClaim := { program := "ytlgodcbffimcoaadoor", sum := "e16599491192305b7f51ef0ac424b0a1c8e89562e1ffd53f5cc2b8a7f94d4111", func := "hornbook/hornbooklaw08.PluralTells", spec := "pluralTells", inPlace := ["internal/abi.NoEscape", "internal/bytealg.MakeNoZero"], unfollowed := true, recurses := true, named := ["internal/strconv.uint64pow10", "math/bits.deBruijn32tab", "math/bits.deBruijn64tab"], apart := false, laid := [("math/bits.deBruijn32tab", laid_math_bits_deBruijn32tab), ("math/bits.deBruijn64tab", laid_math_bits_deBruijn64tab), ("internal/strconv.uint64pow10", laid_internal_strconv_uint64pow10)] }
def PluralTellsSaid : Prop := pluralTellsRow.holds Tryd.pinned (OpenSpec.ofChange pluralTellsSpec)

/-- ITS FALSE NEIGHBOUR: 'it returns false'. Refute it at one input. -/
def pluralTellsWrong : ChangeSpec := { name := "pluralTells", fn := fun _ => fun
  | [d1, d2] => { results := [.lit (.bool false)], args := [d1, d2] }
  | _ => none }
def PluralTellsWrongFalsely : Prop := pluralTellsRow.holds Tryd.pinned (OpenSpec.ofChange pluralTellsWrong)

/-- 'hornbooklaw08.PluralBack': WHATEVER THE INPUT: true; the input reads as it did. -/
def pluralBackSpec : ChangeSpec := { name := "pluralBack", fn := fun _ => fun
  | [d1, d2] => { results := [.lit (.bool true)], args := [d1, d2] }
  | _ => none }
def pluralBackRow : OpenClaim := { program := "ytlgodcbffimcoaadoor", sum := "e16599491192305b7f51ef0ac424b0a1c8e89562e1ffd53f5cc2b8a7f94d4111", func := "hornbook/hornbooklaw08.PluralBack", spec := "pluralBack", inPlace := ["internal/abi.NoEscape", "internal/bytealg.MakeNoZero"], unfollowed := true, recurses := true, named := ["internal/strconv.uint64pow10", "math/bits.deBruijn32tab", "math/bits.deBruijn64tab"], apart := false, laid := [("math/bits.deBruijn32tab", laid_math_bits_deBruijn32tab), ("math/bits.deBruijn64tab", laid_math_bits_deBruijn64tab), ("internal/strconv.uint64pow10", laid_internal_strconv_uint64pow10)] }
def PluralBackSaid : Prop := pluralBackRow.holds Tryd.pinned (OpenSpec.ofChange pluralBackSpec)

/-- ITS FALSE NEIGHBOUR: 'it returns false'. Refute it at one input. -/
def pluralBackWrong : ChangeSpec := { name := "pluralBack", fn := fun _ => fun
  | [d1, d2] => { results := [.lit (.bool false)], args := [d1, d2] }
  | _ => none }
def PluralBackWrongFalsely : Prop := pluralBackRow.holds Tryd.pinned (OpenSpec.ofChange pluralBackWrong)

/-- 'hornbooklaw08.PluralTables': WHATEVER THE INPUT: true; the input reads as it did. -/
def pluralTablesSpec : ChangeSpec := { name := "pluralTables", fn := fun _ => fun
  | [d1, d2] => { results := [.lit (.bool true)], args := [d1, d2] }
  | _ => none }
def pluralTablesRow : OpenClaim := { program := "ytlgodcbffimcoaadoor", sum := "e16599491192305b7f51ef0ac424b0a1c8e89562e1ffd53f5cc2b8a7f94d4111", func := "hornbook/hornbooklaw08.PluralTables", spec := "pluralTables", inPlace := ["internal/abi.NoEscape", "internal/bytealg.MakeNoZero"], unfollowed := true, recurses := true, named := ["internal/strconv.uint64pow10", "math/bits.deBruijn32tab", "math/bits.deBruijn64tab"], apart := false, laid := [("math/bits.deBruijn32tab", laid_math_bits_deBruijn32tab), ("math/bits.deBruijn64tab", laid_math_bits_deBruijn64tab), ("internal/strconv.uint64pow10", laid_internal_strconv_uint64pow10)] }
def PluralTablesSaid : Prop := pluralTablesRow.holds Tryd.pinned (OpenSpec.ofChange pluralTablesSpec)

/-- ITS FALSE NEIGHBOUR: 'it returns false'. Refute it at one input. -/
def pluralTablesWrong : ChangeSpec := { name := "pluralTables", fn := fun _ => fun
  | [d1, d2] => { results := [.lit (.bool false)], args := [d1, d2] }
  | _ => none }
def PluralTablesWrongFalsely : Prop := pluralTablesRow.holds Tryd.pinned (OpenSpec.ofChange pluralTablesWrong)

/- THE SECOND FORM. 'bulk': how many values and letters a reading holds, each counted each time it is reached (what is shared counts as often as it is met; a slice's spare places count too). A statement '..UptoSaid' is the law's where the arguments, and the package variables that the reading takes, are together of bulk at most 1048576: NARROWER than '..Said'. Prove '..Said' where nothing that the law and all that it calls make is longer than what came in: it says more and counts as full. Else prove '..UptoSaid'. A law counts once. -/
mutual
def uptoBulk {H : Type} : DataW H → Nat
  | .lit (.string bytes) => bytes.length + 1
  | .lit _ => 1
  | .nil => 1
  | .ptr d => uptoBulk d + 1
  | .slice elems spare => uptoBulkAll elems + uptoBulkAll spare + 1
  | .agg parts => uptoBulkAll parts + 1
  | .iface _ d => uptoBulk d + 1
  | .map entries => uptoBulkEntries entries + 1
  | .held _ => 1
def uptoBulkAll {H : Type} : List (DataW H) → Nat
  | [] => 0
  | d :: r => uptoBulk d + uptoBulkAll r
def uptoBulkEntries {H : Type} : List (Lit × DataW H) → Nat
  | [] => 0
  | x :: r => uptoBulkEntry x + uptoBulkEntries r
def uptoBulkEntry {H : Type} : Lit × DataW H → Nat
  | (.string bytes, d) => bytes.length + uptoBulk d + 1
  | (_, d) => uptoBulk d + 1
 end
def uptoSmall : (H : Type) → List (DataW H) → Bool := fun _ ds => decide (uptoBulkAll ds ≤ 1048576)
def OpenSpec.upto (s : _root_.Go.ChangeSpec) : _root_.Go.OpenSpec := { _root_.Go.OpenSpec.ofChange s with cond := some uptoSmall }

/-- 'hornbooklaw08.PluralReads', WHERE WHAT IT READS IS OF BULK AT MOST 1048576: true; the input reads as it did. -/
def pluralReadsUptoRow : OpenClaim := { program := "ytlgodcbffimcoaadoor", sum := "e16599491192305b7f51ef0ac424b0a1c8e89562e1ffd53f5cc2b8a7f94d4111", func := "hornbook/hornbooklaw08.PluralReads", spec := "pluralReads", inPlace := ["internal/abi.NoEscape", "internal/bytealg.MakeNoZero"], unfollowed := true, recurses := true, named := ["internal/strconv.uint64pow10", "math/bits.deBruijn32tab", "math/bits.deBruijn64tab"], apart := false, laid := [("math/bits.deBruijn32tab", laid_math_bits_deBruijn32tab), ("math/bits.deBruijn64tab", laid_math_bits_deBruijn64tab), ("internal/strconv.uint64pow10", laid_internal_strconv_uint64pow10)], narrowed := true }
def PluralReadsUptoSaid : Prop := pluralReadsUptoRow.holds Tryd.pinned (OpenSpec.upto pluralReadsSpec)

/-- 'hornbooklaw08.PluralPrints', WHERE WHAT IT READS IS OF BULK AT MOST 1048576: true; the input reads as it did. -/
def pluralPrintsUptoRow : OpenClaim := { program := "ytlgodcbffimcoaadoor", sum := "e16599491192305b7f51ef0ac424b0a1c8e89562e1ffd53f5cc2b8a7f94d4111", func := "hornbook/hornbooklaw08.PluralPrints", spec := "pluralPrints", inPlace := ["internal/abi.NoEscape", "internal/bytealg.MakeNoZero"], unfollowed := true, recurses := true, named := ["internal/strconv.uint64pow10", "math/bits.deBruijn32tab", "math/bits.deBruijn64tab"], apart := false, laid := [("math/bits.deBruijn32tab", laid_math_bits_deBruijn32tab), ("math/bits.deBruijn64tab", laid_math_bits_deBruijn64tab), ("internal/strconv.uint64pow10", laid_internal_strconv_uint64pow10)], narrowed := true }
def PluralPrintsUptoSaid : Prop := pluralPrintsUptoRow.holds Tryd.pinned (OpenSpec.upto pluralPrintsSpec)

/-- 'hornbooklaw08.PluralHolds', WHERE WHAT IT READS IS OF BULK AT MOST 1048576: true; the input reads as it did. -/
def pluralHoldsUptoRow : OpenClaim := { program := "ytlgodcbffimcoaadoor", sum := "e16599491192305b7f51ef0ac424b0a1c8e89562e1ffd53f5cc2b8a7f94d4111", func := "hornbook/hornbooklaw08.PluralHolds", spec := "pluralHolds", inPlace := ["internal/abi.NoEscape", "internal/bytealg.MakeNoZero"], unfollowed := true, recurses := true, named := ["internal/strconv.uint64pow10", "math/bits.deBruijn32tab", "math/bits.deBruijn64tab"], apart := false, laid := [("math/bits.deBruijn32tab", laid_math_bits_deBruijn32tab), ("math/bits.deBruijn64tab", laid_math_bits_deBruijn64tab), ("internal/strconv.uint64pow10", laid_internal_strconv_uint64pow10)], narrowed := true }
def PluralHoldsUptoSaid : Prop := pluralHoldsUptoRow.holds Tryd.pinned (OpenSpec.upto pluralHoldsSpec)

/-- 'hornbooklaw08.PluralTells', WHERE WHAT IT READS IS OF BULK AT MOST 1048576: true; the input reads as it did. -/
def pluralTellsUptoRow : OpenClaim := { program := "ytlgodcbffimcoaadoor", sum := "e16599491192305b7f51ef0ac424b0a1c8e89562e1ffd53f5cc2b8a7f94d4111", func := "hornbook/hornbooklaw08.PluralTells", spec := "pluralTells", inPlace := ["internal/abi.NoEscape", "internal/bytealg.MakeNoZero"], unfollowed := true, recurses := true, named := ["internal/strconv.uint64pow10", "math/bits.deBruijn32tab", "math/bits.deBruijn64tab"], apart := false, laid := [("math/bits.deBruijn32tab", laid_math_bits_deBruijn32tab), ("math/bits.deBruijn64tab", laid_math_bits_deBruijn64tab), ("internal/strconv.uint64pow10", laid_internal_strconv_uint64pow10)], narrowed := true }
def PluralTellsUptoSaid : Prop := pluralTellsUptoRow.holds Tryd.pinned (OpenSpec.upto pluralTellsSpec)

/-- 'hornbooklaw08.PluralBack', WHERE WHAT IT READS IS OF BULK AT MOST 1048576: true; the input reads as it did. -/
def pluralBackUptoRow : OpenClaim := { program := "ytlgodcbffimcoaadoor", sum := "e16599491192305b7f51ef0ac424b0a1c8e89562e1ffd53f5cc2b8a7f94d4111", func := "hornbook/hornbooklaw08.PluralBack", spec := "pluralBack", inPlace := ["internal/abi.NoEscape", "internal/bytealg.MakeNoZero"], unfollowed := true, recurses := true, named := ["internal/strconv.uint64pow10", "math/bits.deBruijn32tab", "math/bits.deBruijn64tab"], apart := false, laid := [("math/bits.deBruijn32tab", laid_math_bits_deBruijn32tab), ("math/bits.deBruijn64tab", laid_math_bits_deBruijn64tab), ("internal/strconv.uint64pow10", laid_internal_strconv_uint64pow10)], narrowed := true }
def PluralBackUptoSaid : Prop := pluralBackUptoRow.holds Tryd.pinned (OpenSpec.upto pluralBackSpec)

/-- 'hornbooklaw08.PluralTables', WHERE WHAT IT READS IS OF BULK AT MOST 1048576: true; the input reads as it did. -/
def pluralTablesUptoRow : OpenClaim := { program := "ytlgodcbffimcoaadoor", sum := "e16599491192305b7f51ef0ac424b0a1c8e89562e1ffd53f5cc2b8a7f94d4111", func := "hornbook/hornbooklaw08.PluralTables", spec := "pluralTables", inPlace := ["internal/abi.NoEscape", "internal/bytealg.MakeNoZero"], unfollowed := true, recurses := true, named := ["internal/strconv.uint64pow10", "math/bits.deBruijn32tab", "math/bits.deBruijn64tab"], apart := false, laid := [("math/bits.deBruijn32tab", laid_math_bits_deBruijn32tab), ("math/bits.deBruijn64tab", laid_math_bits_deBruijn64tab), ("internal/strconv.uint64pow10", laid_internal_strconv_uint64pow10)], narrowed := true }
def PluralTablesUptoSaid : Prop := pluralTablesUptoRow.holds Tryd.pinned (OpenSpec.upto pluralTablesSpec)

end Rows
end Go.Proofs.YtlgodcbffimcoaaDoor
