/- The document's reader in memory: a placeholder. -/
import Derived.Deep.DeepCutAuto
import Derived.Test.YtdkkkeoicekdgaaGreatDoorZADt

namespace Go.Proofs.YtdkkkeoicekdgaaGreatDoor.Dr
open Go.RowKit Go.Proofs.YtdkkkeoicekdgaaGreatDoor
structure HoU (s : BA) (pb : Nat) (w wr : World) (n : Nat) (k : Int) (nm : BA) (v : Value) (cs : List Cs) (vs : List Value) (T : St) : Prop where
 gw : Gw 284 2 (CCn n) (w.heap.size + 2) wr v cs vs
 rb : Row wr (w.heap.size + 1) 263 [.int .i64 k, .string ⟨#[]⟩, .string nm, v]
 ra : Row wr w.heap.size 263 [.int .i64 0, .string ⟨#[]⟩, .string ⟨#[]⟩, .slice none 0 0]
 pt : PAt wr pb s T
 fr : Fr (· = pb) w wr
section
variable {s : BA} {pb : Nat} {w wr w2 : World} {n : Nat} {k : Int} {nm : BA} {v : Value} {cs : List Cs} {vs : List Value} {T T2 : St}
theorem HoU.step (h : HoU s pb w wr n k nm v cs vs T) (hlr : pb < w.heap.size) (hf : Fr (· = pb) wr w2) (hp : PAt w2 pb s T2) : HoU s pb w w2 n k nm v cs vs T2 :=
 ⟨h.gw.fr (kpC _) hf (fun _ hB _ e => by omega), h.rb.keep (hf.block _ h.rb.lt (by omega)), h.ra.keep (hf.block _ h.ra.lt (by omega)), hp, h.fr.trans hf⟩
theorem HoU.le {m : Nat} (h : HoU s pb w wr n k nm v cs vs T) (hm : n <= m) : HoU s pb w wr m k nm v cs vs T := ⟨h.gw.leC hm, h.rb, h.ra, h.pt, h.fr⟩
theorem HoU.on {i : Nat} (h : HoU s pb w wr n k nm v cs vs (i, 0)) (hlr : pb < w.heap.size) : HoU s pb w (wr.setCell ⟨pb, 1, none⟩ (.int .i64 ((i : Int) + 1))) n k nm v cs vs (i + 1, 0) := h.step hlr (z0l 1 _) (PAt.on (S := (i, 0)) h.pt)
theorem HoU.lt (h : HoU s pb w wr n k nm v cs vs T) : ∀ b, v.ownBlock = some b -> w.heap.size + 2 <= b /\ b < wr.heap.size := fun b hb => h.gw.own.lt b hb
theorem HoU.rb9 {w9 : World} {o : Obj} (h : HoU s pb w wr n k nm v cs vs T) (hg : (wr.alloc o).grownBy w9 v.ownBlock) : Row w9 (w.heap.size + 1) 263 [.int .i64 k, .string ⟨#[]⟩, .string nm, v] :=
 h.rb.keep ((hg.block _ (by have := h.rb.lt; rw [World.size_alloc]; omega) (fun e => by have := (h.lt _ e.symm).1; omega)).trans (Below.heap_alloc _ _ _ h.rb.lt))
theorem HoU.push {w9 : World} {o : Obj} {x : Cs} {us : List Value} {g c m B2 : Nat} (h : HoU s pb w wr n k nm v cs vs T) (hlr : pb < w.heap.size) (hm : m = cs.length) (hx : CCn n wr (Fsh B2 wr) x us) (hB : w.heap.size + 2 <= B2) (hv : ∀ b, v.ownBlock = some b -> b < B2) (hk : us.length = 2)
  (hg : (wr.alloc o).grownBy w9 v.ownBlock) (hown : w9.ownsRow (w.heap.size + 2) 284 2 (.slice (some ⟨g, 0, none⟩) (m + 1) c) (m + 1) (vs ++ us)) (hgl : v.ownBlock = some g ∨ wr.heap.size <= g) :
  HoU s pb w (w9.setCell ⟨w.heap.size + 1, 3, none⟩ (.slice (some ⟨g, 0, none⟩) (m + 1) c)) n k nm (.slice (some ⟨g, 0, none⟩) (m + 1) c) (cs ++ [x]) (vs ++ us) T := by
 have hb := (But.refl (w.heap.size + 1) w9).set 3 (.slice (some ⟨g, 0, none⟩) (m + 1) c)
 have hf : Fr (· = w.heap.size + 1) w9 (w9.setCell ⟨w.heap.size + 1, 3, none⟩ (.slice (some ⟨g, 0, none⟩) (m + 1) c)) := z0l 3 _
 have hkeep : ∀ b, b < w.heap.size + 2 -> b < wr.heap.size -> w9.heap[b]? = wr.heap[b]? := fun b h1 h2 => (hg.block b (by rw [World.size_alloc]; omega) (fun e => by have := (h.lt b e.symm).1; omega)).trans (Below.heap_alloc _ _ _ h2)
 exact ⟨(h.gw.push (kpC _) hm hx hB hv hk hg hown hgl).fr (kpC _) hf (fun _ hB _ e => by omega), (h.rb9 hg).set 3 _, hb.row (h.ra.keep (hkeep _ (by omega) h.ra.lt)) (by omega),
  h.pt.keep ((hb.block pb (by omega)).trans (hkeep pb (by omega) h.pt.lt)), hb.fr ((h.fr.alloc o).grown hg (fun g hg => .inl (by have := (h.lt g hg).1; omega))) (by omega)⟩
end
section
variable {l : List UInt8} {g o : Nat} {h : Bool} {acc : List Cs} {T K R V E : St} {ky : List UInt8} {kids : List Pt}
end
structure CU (s : BA) (pb C : Nat) (wr wx : World) (ky u : Value) (T : St) : Prop where
 hx : Fr (· = pb) wr wx
 pt : PAt wx pb s T
 rc : Row wx C 284 [ky, u]
section
variable {s : BA} {pb C : Nat} {wr wx w2 : World} {ky u : Value} {T T2 : St}
theorem CU.step (h : CU s pb C wr wx ky u T) (hC : pb < C) (hf : Fr (· = pb) wx w2) (hp : PAt w2 pb s T2) : CU s pb C wr w2 ky u T2 :=
 ⟨h.hx.trans hf, hp, h.rc.keep (hf.block C h.rc.lt (by omega))⟩
end
end Go.Proofs.YtdkkkeoicekdgaaGreatDoor.Dr
