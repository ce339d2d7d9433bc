/- The document's Do. -/
import Derived.Deep.RegionHeld3
import Derived.Test.YtdkkkeoicekdgaaGreatDoorZBMto
import Derived.Test.YtdkkkeoicekdgaaGreatDoorZBg34
import Derived.Test.YtdkkkeoicekdgaaGreatDoorZBRy

namespace Go.Proofs.YtdkkkeoicekdgaaGreatDoor.Md
open Go.RowKit Go.Maps Go.WideShapes Go.WideMaps Go.Proofs.YtdkkkeoicekdgaaGreatDoor Go.Proofs.YtdkkkeoicekdgaaGreatDoor.Ca
theorem no_textM {v : Int} {a c : Option Addr} {n1 n2 n3 n4 : Nat} : ∀ (i : Nat) s, [Value.int .i64 v, Value.slice a n1 n2, Value.slice c n3 n4][i]? ≠ some (.string s)
 | 0, s, h => by cases h
 | 1, s, h => by cases h
 | 2, s, h => by cases h
 | _ + 3, s, h => by simp at h
theorem sle_but {w w' : World} {v : Value} {xs : List Ent} {A : Nat} {t : TypeId} {cs : List Value} (h : SlE w (Old w) v xs) (hA : Row w A t cs) (hn : ∀ (i : Nat) s, cs[i]? ≠ some (.string s)) (hb : But A w w') : SlE w' (Old w') v xs :=
 Sl.keep (z1k h hA hn) (fun b hb2 => hb.block b hb2.2) (fun b hb2 => by have h1 : b < w.heap.size := hb2.1; have h2 := hb.size; show b < _; omega) (fun _ _ h => h)
end Go.Proofs.YtdkkkeoicekdgaaGreatDoor.Md
