/- Package code's Put: the closure that writes a value: what it adds to what is written. -/
import Derived.Test.YtdkkkeoicekdgaaGreatDoorZECRead

namespace Go.Proofs.YtdkkkeoicekdgaaGreatDoor.Co
open Go.RowKit
mutual
def enc : Tree -> List UInt8
 | .num n => 105 :: (Lib.itoa n ++ [101])
 | .text bs => Lib.itoa bs.length ++ 58 :: bs
 | .list ts => 108 :: (encL ts ++ [101])
def encL : List Tree -> List UInt8
 | [] => []
 | t :: ts => enc t ++ encL ts
end
mutual
def Ok : Tree -> Prop
 | .num n => -9223372036854775808 <= n /\ n <= 9223372036854775807
 | .text _ => True
 | .list ts => OkL ts
def OkL : List Tree -> Prop
 | [] => True
 | t :: ts => Ok t /\ OkL ts
end
abbrev addFn (fb b : Nat) : Value := .func (.func 89) #[] #[.pointer (some ⟨fb, 0, none⟩), .pointer (some ⟨b, 0, none⟩)]
abbrev z5p (ab wb : Nat) : Value := .func (.func 91) #[] #[.pointer (some ⟨ab, 0, none⟩), .pointer (some ⟨wb, 0, none⟩)]
section
variable {B b fb ab wb : Nat} {w w' : World} {l l' : List UInt8}
theorem zcq (hh : Holds B b l w) (hb : Below w.heap.size w w') : Holds B b l w' := by
 have hk : ∀ {p : Value}, Lib.BuilderAtF 117 5 B b p (Lib.byteCells l) w -> Lib.BuilderAtF 117 5 B b p (Lib.byteCells l) w' := fun h => by
  obtain ⟨hB, v, c, a, d⟩ := h;refine ⟨hB, v, (hb.block b (z04 c)).trans c, ⟨a.1, ?_⟩, d⟩
  rcases a.2 with h0 | ⟨g, cap, cur, fz, hv, h1, h2, hr⟩
  ·exact .inl h0
  ·exact .inr ⟨g, cap, cur, fz, hv, h1, (hb.block g (z04 h2)).trans h2, hr⟩
 exact hh.imp hk hk
end
theorem z3g (w : World) (k : Nat) (os : Array Obj) : Below w.heap.size w (Sort.grow (w.drewN k) os) := by
 refine ⟨rfl, rfl, rfl, ?_, fun j hj => ?_⟩
 ·show w.heap.size <= (w.heap ++ os).size
  simp
 ·show (w.heap ++ os)[j]? = w.heap[j]?
  rw [Array.getElem?_append_left hj]
theorem zi1 (n : Int) (h0 : -9223372036854775808 <= n) (h1 : n <= 9223372036854775807) (B : Nat) (w : World) (_ : B <= w.heap.size) (htab : Lib.TabBelow Tryz.prog B w "internal/strconv.uint64pow10" .u64 Lib.pow10Tab) :
  Calls Tryz.prog 92 #[.int .i64 n, .int .i64 10] w fun e w' => e = .returned (.string ⟨(Lib.itoa n).toArray⟩) /\ Below w.heap.size w w' :=
 (Tryz.strconv_FormatInt_10 n h0 h1 w htab.here).mono fun _ _ ⟨he, k, os, hw⟩ => ⟨he, by subst hw; exact z3g w k os⟩
theorem ze4 (n : Int) (h0 : -9223372036854775808 <= n) (h1 : n <= 9223372036854775807) (B : Nat) (w : World) (_ : B <= w.heap.size) (htab : Lib.TabBelow Tryz.prog B w "internal/strconv.uint64pow10" .u64 Lib.pow10Tab) :
  Calls Tryz.prog 93 #[.int .i64 n] w fun e w' => e = .returned (.string ⟨(Lib.itoa n).toArray⟩) /\ Below w.heap.size w w' :=
 (Tryz.strconv_Itoa n h0 h1 w htab.here).mono fun _ _ ⟨he, k, os, hw⟩ => ⟨he, by subst hw; exact z3g w k os⟩
theorem zd7 {B : Nat} {w : World} {name : String} {k : IntKind} {zs : List Int} (h : Lib.TabBelow Tryz.prog B w name k zs) : Lib.TabBelow Tryz.prog B w.drew name k zs := fun w'' hb => h w'' ⟨hb.os, hb.tape, hb.output, hb.size, hb.block⟩
theorem z69 {B : Nat} {w w' : World} (hb : Below B w.drew w') : Below B w w' := ⟨hb.os, hb.tape, hb.output, hb.size, hb.block⟩
end Go.Proofs.YtdkkkeoicekdgaaGreatDoor.Co
