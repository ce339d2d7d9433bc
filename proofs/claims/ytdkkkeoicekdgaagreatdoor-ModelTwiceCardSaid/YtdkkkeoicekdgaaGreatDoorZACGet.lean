/- Package code's Get: what the call answers and leaves. -/
import Derived.Laws.EntriesVeiled
import Derived.Test.YtdkkkeoicekdgaaGreatDoorZACList

namespace Go.Proofs.YtdkkkeoicekdgaaGreatDoor.Co
open Go.RowKit
def z6q (r : Res) (w : World) (e : Ending) (w' : World) : Prop :=
  (match r with
   | .ok t k => ∃ v, e = .returned (.tuple #[v, .int .i64 0, .int .i64 k]) /\ Rep w' (fun b => w.heap.size <= b /\ b < w'.heap.size) t v
   | .bad er k => e = .returned (.tuple #[zeroV, .int .i64 er, .int .i64 k])) /\ Below w.heap.size w w'
theorem Fr.below_of {X : Nat -> Prop} {B : Nat} {w W w1 : World} (hW : Below B w W) (hB : B <= W.heap.size) (hf : Fr X W w1) (hX : ∀ k, k < B -> ¬ X k) : Below B w w1 :=
  hW.trans ⟨hf.os, hf.tape, hf.output, hf.size, fun k hk => hf.block k (by omega) (hX k hk)⟩
theorem But.below {B h : Nat} {w w1 w4 : World} (hW : Below B w w1) (hb : But h w1 w4) (h1 : B <= h) : Below B w w4 :=
  hW.trans ⟨hb.os, hb.tape, hb.output, by rw [hb.size]; exact Nat.le_refl _, fun k hk => hb.block k (by omega)⟩
theorem z6q.bad {er k h c : Nat} {r : Res × Nat} {w W w1 w4 : World} {e : Ending} (hW : Below w.heap.size w W) (hp : Post r c W e w1) (hc : w.heap.size <= c) (hb : But h w1 w4) (h1 : w.heap.size <= h) (o : Obj) :
    z6q (.bad er k) w (.returned (.tuple #[zeroV, .int .i64 er, .int .i64 k])) (w4.alloc o) :=
  ⟨rfl, Below.alloc (But.below (Fr.below_of hW hW.size hp.2.2 (fun k hk => by omega)) hb h1) (by have := hp.2.2.size; have := hW.size; rw [hb.size]; omega) o⟩
theorem z6q.ok {k h c cn : Nat} {t : Tree} {v : Value} {w W w1 w4 : World} {e : Ending} (hW : Below w.heap.size w W) (hp : Post (.ok t k, cn) c W e w1) (hrep : Rep w1 (fun b => W.heap.size <= b /\ b < w1.heap.size) t v) (hc : w.heap.size <= c) (hb : But h w1 w4) (h1 : w.heap.size <= h) (h2 : h < W.heap.size) (o : Obj) :
    z6q (.ok t 0) w (.returned (.tuple #[v, .int .i64 0, .int .i64 0])) (w4.alloc o) :=
  ⟨⟨v, rfl, Rep.keep (fun b hbb => (Below.heap_alloc _ _ _ (by rw [hb.size]; exact hbb.2)).trans (hb.block b (by omega))) (fun b hbb => ⟨by have := hW.size; omega, by simp; rw [hb.size]; omega⟩) _ _ hrep⟩,
    Below.alloc (But.below (Fr.below_of hW hW.size hp.2.2 (fun k hk => by omega)) hb h1) (by have := hp.2.2.size; have := hW.size; rw [hb.size]; omega) o⟩
end Go.Proofs.YtdkkkeoicekdgaaGreatDoor.Co
