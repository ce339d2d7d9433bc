/- The document's reader in memory: parts. -/
import Derived.Test.YtdkkkeoicekdgaaGreatDoorZBg10

namespace Go.Proofs.YtdkkkeoicekdgaaGreatDoor.Dr
open Go.RowKit Go.Proofs.YtdkkkeoicekdgaaGreatDoor
structure PaU (s : BA) (pb : Nat) (w wr : World) (n : Nat) (v : Value) (xs : List Pt) (vs : List Value) (T : St) : Prop where
 gw : Gw 263 4 (CPn (n + 1)) w.heap.size wr v xs vs
 pt : PAt wr pb s T
 fr : Fr (· = pb) w wr
section
variable {s : BA} {pb : Nat} {w wr w2 : World} {n : Nat} {v : Value} {xs : List Pt} {vs : List Value} {T T2 : St}
theorem PaU.step (h : PaU s pb w wr n v xs vs T) (hlr : pb < w.heap.size) (hf : Fr (· = pb) wr w2) (hp : PAt w2 pb s T2) : PaU s pb w w2 n v xs vs T2 :=
 ⟨h.gw.fr (kpP _) hf (fun _ hB _ e => by omega), hp, h.fr.trans hf⟩
theorem PaU.le {m : Nat} (h : PaU s pb w wr n v xs vs T) (hm : n <= m) : PaU s pb w wr m v xs vs T := ⟨h.gw.leP (by omega), h.pt, h.fr⟩
theorem PaU.alloc (h : PaU s pb w wr n v xs vs T) (hlr : pb < w.heap.size) (o : Obj) : PaU s pb w (wr.alloc o) n v xs vs T := h.step hlr ((Fr.refl _ _).alloc _) (h.pt.alloc o)
theorem PaU.on {i : Nat} (h : PaU s pb w wr n v xs vs (i, 0)) (hlr : pb < w.heap.size) : PaU s pb w (wr.setCell ⟨pb, 1, none⟩ (.int .i64 ((i : Int) + 1))) n v xs vs (i + 1, 0) := h.step hlr (z0l 1 _) (PAt.on (S := (i, 0)) h.pt)
theorem PaU.own (h : PaU s pb w wr n v xs vs T) : wr.ownsRow w.heap.size 263 4 v xs.length vs := h.gw.own
theorem PaU.lt (h : PaU s pb w wr n v xs vs T) : ∀ b, v.ownBlock = some b -> w.heap.size <= b /\ b < wr.heap.size := fun b hb => h.gw.own.lt b hb
theorem PaU.push {w9 : World} {o : Obj} {x : Pt} {cs : List Value} {g c m B2 : Nat} (h : PaU s pb w wr n v xs vs T) (hlr : pb < w.heap.size) (hm : m = xs.length) (hx : CPn (n + 1) wr (Fsh B2 wr) x cs) (hB : w.heap.size <= B2) (hv : ∀ b, v.ownBlock = some b -> b < B2) (hk : cs.length = 4)
  (hg : (wr.alloc o).grownBy w9 v.ownBlock) (hown : w9.ownsRow w.heap.size 263 4 (.slice (some ⟨g, 0, none⟩) (m + 1) c) (m + 1) (vs ++ cs)) (hgl : v.ownBlock = some g ∨ wr.heap.size <= g) :
  PaU s pb w w9 n (.slice (some ⟨g, 0, none⟩) (m + 1) c) (xs ++ [x]) (vs ++ cs) T :=
 ⟨h.gw.push (kpP _) hm hx hB hv hk hg hown hgl,
  h.pt.keep ((hg.block pb (by have := h.pt.lt; rw [World.size_alloc]; omega) (fun e => by have := (h.lt pb e.symm).1; omega)).trans (Below.heap_alloc _ _ _ h.pt.lt)),
  (h.fr.alloc o).grown hg (fun g hg => .inl (h.lt g hg).1)⟩
end
section
variable {l : List UInt8} {g o : Nat} {h : Bool} {acc : List Pt} {T : St} {c d : UInt8}
end
end Go.Proofs.YtdkkkeoicekdgaaGreatDoor.Dr
