/- Package code's list: the loop over a list's elements, by what reading one element answers and leaves. -/
import Derived.Test.YtdkkkeoicekdgaaGreatDoorZFCRead

namespace Go.Proofs.YtdkkkeoicekdgaaGreatDoor.Co
open Go.RowKit
structure Inv (s : ByteArray) (c sb rb lb level h : Nat) (w : World) (cnt : Nat) (L : Value) (ts : List Tree) (xs : List Value) (wr : World) : Prop where
 fr : Fr (· = c) w wr
 env : Env s c sb rb wr
 cnt : Cnt c cnt wr
 lev : wr.heap[lb]? = some (.cells #[.int .i64 level] 3 (0, 0))
 res : wr.heap[h]? = some (.cells #[.int .i64 0, .int .i64 0, .string ⟨#[]⟩, .slice none 0 0] 88 (0, 0))
 own : wr.ownsRow (h + 1) 88 4 L ts.length xs
 rep : z0h wr (fun b => h + 1 <= b /\ b < wr.heap.size /\ L.ownBlock ≠ some b) ts xs
theorem zc6 {w : World} {base : Nat} {e : TypeId} {size : Nat} {v : Value} {n : Nat} {xs : List Value} (h : w.ownsRow base e size v n xs) : w.ownsRow 0 e size v n xs :=
 ⟨h.1, h.2.imp id (fun ⟨g, cap, cur, hv, _, hr⟩ => ⟨g, cap, cur, hv, Nat.zero_le _, hr⟩)⟩
theorem Inv.done {s : ByteArray} {c sb rb lb level : Nat} {w : World} {cnt k : Nat} {L : Value} {ts : List Tree} {xs : List Value} {wr w4 : World} (hI : Inv s c sb rb lb level w.heap.size w cnt L ts xs wr) (hb : But w.heap.size wr w4) (hc : c < w.heap.size) :
  Post (.ok (.list ts) k, cnt) c w (.returned (.tuple #[listV L, .int .i64 0, .int .i64 k])) w4 := by
 have a : ∀ g, L.ownBlock = some g -> w.heap.size + 1 <= g /\ g < wr.heap.size := fun g hg => hI.own.lt g hg
 refine ⟨⟨_, rfl, ?_⟩, (hb.block c (by omega)).trans hI.cnt, ?_⟩
 ·rw [Rep]
  refine ⟨L, xs, rfl, ?_, fun g hg => ?_, z0h.keep (fun g hg => hb.block g (by omega)) (fun g hg => ⟨by omega, by rw [hb.size]; exact hg.2.1⟩) _ _ hI.rep⟩
  ·exact zc6 (z0a hI.own (fun g hg => hb.block g (by have := a g hg; omega)))
  ·have := a g hg
   exact ⟨by omega, by rw [hb.size]; omega⟩
 ·have hx := hI.fr
  exact ⟨hb.os.trans hx.os, hb.tape.trans hx.tape, hb.output.trans hx.output, by rw [hb.size]; exact hx.size, fun k hk hk2 => (hb.block k (by omega)).trans (hx.block k hk hk2)⟩
theorem Inv.step {s : ByteArray} {c sb rb lb level count : Nat} {w : World} {cnt cn : Nat} {L : Value} {ts : List Tree} {xs : List Value} {wr w1 w2 : World} {t : Tree} {c0 c1 c2 c3 : Value} {o1 o2 : Obj} {g2 cap2 : Nat}
  (hI : Inv s c sb rb lb level w.heap.size w cnt L ts xs wr) (env : Env s c sb rb w) (hc : Cnt c count w) (hlb : w.heap[lb]? = some (.cells #[.int .i64 level] 3 (0, 0))) (hlc : lb ≠ c)
  (hrep : Rep w1 (fun b => wr.heap.size <= b /\ b < w1.heap.size) t (.agg #[c0, c1, c2, c3])) (hcn : Cnt c cn w1) (hfr : Fr (· = c) wr w1)
  (hown2 : w2.ownsRow (w.heap.size + 1) 88 4 (.slice (some ⟨g2, 0, none⟩) (ts.length + 1) cap2) (ts.length + 1) (xs ++ [c0, c1, c2, c3]))
  (hgrow : ((w1.alloc o1).alloc o2).grownBy w2 L.ownBlock) (hlies : L.ownBlock = some g2 ∨ g2 = w1.heap.size + 2) :
  Inv s c sb rb lb level w.heap.size w cn (.slice (some ⟨g2, 0, none⟩) (ts.length + 1) cap2) (ts ++ [t]) (xs ++ [c0, c1, c2, c3]) w2 := by
 have i := z03 hc
 have a : ∀ g, L.ownBlock = some g -> w.heap.size + 1 <= g /\ g < wr.heap.size := fun g hg => hI.own.lt g hg
 have j := hfr.size;have f := hgrow.size;simp only [World.size_alloc] at f
 have hk : ∀ b, b < w1.heap.size -> L.ownBlock ≠ some b -> w2.heap[b]? = w1.heap[b]? := fun b hb hne => by
  rw [hgrow.block b (by simp; omega) (fun e => hne e.symm), Below.heap_alloc _ _ _ (by simp; omega), Below.heap_alloc _ _ _ hb]
 have hF : Fr (· = c) w w2 := ((((hI.fr.trans hfr).alloc o1).alloc o2).grown hgrow (fun g hg => .inl (by have := a g hg; omega)));have d := z03 hI.res;refine ⟨hF, env.fr ⟨_, hc⟩ hF, ?_, (hF.block lb (z03 hlb) hlc).trans hlb, ?_, by simpa using hown2, ?_⟩
 ·exact (hk c (by omega) (fun e => by have := a c e; omega)).trans hcn
 ·exact ((hk w.heap.size (by omega) (fun e => by have := a _ e; omega)).trans (hfr.block _ d (by omega))).trans hI.res
 ·refine z0h.snoc (Rep.keep (fun b hb => hk b hb.2 (fun e => by have := a b e; omega)) (fun b hb => ⟨by omega, by omega, ?_⟩) _ _ hrep) ts xs
   (z0h.keep (fun b hb => (hk b (by omega) hb.2.2).trans (hfr.block b hb.2.1 (by omega))) (fun b hb => ⟨hb.1, by omega, ?_⟩) _ _ hI.rep)
  ·show some g2 ≠ some b
   rintro ⟨⟩
   rcases hlies with h | h
   ·have := a g2 h; omega
   ·omega
  ·show some g2 ≠ some b
   rintro ⟨⟩
   rcases hlies with h | h
   ·exact hb.2.2 h
   ·omega
end Go.Proofs.YtdkkkeoicekdgaaGreatDoor.Co
