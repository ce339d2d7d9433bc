/- Package code's Put: the closure that writes a value: what it adds to what is written. -/
import Derived.Test.YtdkkkeoicekdgaaGreatDoorZFCRead

namespace Go.Proofs.YtdkkkeoicekdgaaGreatDoor.Co
open Go.RowKit
mutual
def enc : Tree -> List UInt8
 | .num n => 105 :: (Lib.itoa n ++ [101])
 | .text bs => Lib.itoa bs.length ++ 58 :: bs
 | .list ts => 108 :: (encL ts ++ [101])
def encL : List Tree -> List UInt8
 | [] => []
 | t :: ts => enc t ++ encL ts
end
mutual
def Ok : Tree -> Prop
 | .num n => -9223372036854775808 <= n /\ n <= 9223372036854775807
 | .text _ => True
 | .list ts => OkL ts
def OkL : List Tree -> Prop
 | [] => True
 | t :: ts => Ok t /\ OkL ts
end
abbrev addFn (fb b : Nat) : Value := .func (.func 89) #[] #[.pointer (some ⟨fb, 0, none⟩), .pointer (some ⟨b, 0, none⟩)]
abbrev z4n (ab wb : Nat) : Value := .func (.func 91) #[] #[.pointer (some ⟨ab, 0, none⟩), .pointer (some ⟨wb, 0, none⟩)]
structure WEnv (B b fb ab wb : Nat) (w : World) : Prop where
 fits : w.heap[fb]? = some (.cells #[.bool true] 4 (0, 0))
 add : w.heap[ab]? = some (.cells #[addFn fb b] 141 (0, 0))
 wr : w.heap[wb]? = some (.cells #[z4n ab wb] 142 (0, 0))
 tab : Lib.TabBelow Tryz.prog B w "internal/strconv.uint64pow10" .u64 Lib.pow10Tab
 hB : B <= w.heap.size
structure Wrote (B b : Nat) (l' : List UInt8) (w w' : World) : Prop where
 holds : Holds B b l' w'
 below : Below B w w'
 others : Lib.OthersKept 5 (some b) w w'
section
variable {B b fb ab wb : Nat} {w w' : World} {l l' : List UInt8}
theorem WEnv.kept (h : WEnv B b fb ab wb w) (hh : Holds B b l w) (hb : Below B w w') (ho : Lib.OthersKept 5 (some b) w w') : WEnv B b fb ab wb w' :=
 ⟨z3f ho h.fits (fun e => hh.ne h.fits (by decide) (by injection e)) (by decide), z3f ho h.add (fun e => hh.ne h.add (by decide) (by injection e)) (by decide), z3f ho h.wr (fun e => hh.ne h.wr (by decide) (by injection e)) (by decide),
  fun w'' hb'' => h.tab w'' (hb.trans hb''), Nat.le_trans h.hB hb.size⟩
theorem Wrote.trans {w'' : World} (h : Wrote B b l w w') (h' : Wrote B b l' w' w'') : Wrote B b l' w w'' := ⟨h'.holds, h.below.trans h'.below, h.others.trans h'.others⟩
theorem WEnv.after (h : WEnv B b fb ab wb w) (hh : Holds B b l w) (hw : Wrote B b l' w w') : WEnv B b fb ab wb w' := h.kept hh hw.below hw.others
theorem WEnv.alloc (h : WEnv B b fb ab wb w) (hh : Holds B b l w) (o : Obj) : WEnv B b fb ab wb (w.alloc o) := h.kept hh ((Below.refl _ _).alloc h.hB o) ((Lib.OthersKept.refl _ _ _).alloc o)
theorem zcm (hh : Holds B b l w) (hb : Below w.heap.size w w') : Holds B b l w' := by
 have hk : ∀ {p : Value}, Lib.BuilderAtF 117 5 B b p (Lib.byteCells l) w -> Lib.BuilderAtF 117 5 B b p (Lib.byteCells l) w' := fun h => by
  obtain ⟨hB, v, c, a, d⟩ := h;refine ⟨hB, v, (hb.block b (z03 c)).trans c, ⟨a.1, ?_⟩, d⟩
  rcases a.2 with h0 | ⟨g, cap, cur, fz, hv, h1, h2, hr⟩
  ·exact .inl h0
  ·exact .inr ⟨g, cap, cur, fz, hv, h1, (hb.block g (z03 h2)).trans h2, hr⟩
 exact hh.imp hk hk
end
theorem z3h (w : World) (k : Nat) (os : Array Obj) : Below w.heap.size w (Sort.grow (w.drewN k) os) := by
 refine ⟨rfl, rfl, rfl, ?_, fun j hj => ?_⟩
 ·show w.heap.size <= (w.heap ++ os).size
  simp
 ·show (w.heap ++ os)[j]? = w.heap[j]?
  rw [Array.getElem?_append_left hj]
theorem zi1 (n : Int) (h0 : -9223372036854775808 <= n) (h1 : n <= 9223372036854775807) (B : Nat) (w : World) (_ : B <= w.heap.size) (htab : Lib.TabBelow Tryz.prog B w "internal/strconv.uint64pow10" .u64 Lib.pow10Tab) :
  Calls Tryz.prog 92 #[.int .i64 n, .int .i64 10] w fun e w' => e = .returned (.string ⟨(Lib.itoa n).toArray⟩) /\ Below w.heap.size w w' :=
 (Tryz.strconv_FormatInt_10 n h0 h1 w htab.here).mono fun _ _ ⟨he, k, os, hw⟩ => ⟨he, by subst hw; exact z3h w k os⟩
theorem ze0 (n : Int) (h0 : -9223372036854775808 <= n) (h1 : n <= 9223372036854775807) (B : Nat) (w : World) (_ : B <= w.heap.size) (htab : Lib.TabBelow Tryz.prog B w "internal/strconv.uint64pow10" .u64 Lib.pow10Tab) :
  Calls Tryz.prog 93 #[.int .i64 n] w fun e w' => e = .returned (.string ⟨(Lib.itoa n).toArray⟩) /\ Below w.heap.size w w' :=
 (Tryz.strconv_Itoa n h0 h1 w htab.here).mono fun _ _ ⟨he, k, os, hw⟩ => ⟨he, by subst hw; exact z3h w k os⟩
theorem zd4 {B : Nat} {w : World} {name : String} {k : IntKind} {zs : List Int} (h : Lib.TabBelow Tryz.prog B w name k zs) : Lib.TabBelow Tryz.prog B w.drew name k zs := fun w'' hb => h w'' ⟨hb.os, hb.tape, hb.output, hb.size, hb.block⟩
theorem z62 {B : Nat} {w w' : World} (hb : Below B w.drew w') : Below B w w' := ⟨hb.os, hb.tape, hb.output, hb.size, hb.block⟩
end Go.Proofs.YtdkkkeoicekdgaaGreatDoor.Co
