/- The law's own turning of one bit. -/
import Derived.Test.YtnmhmemlgibedaaDoorSound
import Derived.Deep.RegionWith
import Derived.Laws.ShiftsVarLaws
namespace Go.Proofs.YtnmhmemlgibedaaDoor
open Go.RowKit

/-- Block g of the world begins with these bytes, which may be written. -/
structure BytesAt (W : World) (g : Nat) (l : Bs) : Prop where
  cell : ∀ j (h : j < l.length), W.cell? ⟨g, j, none⟩ = some (.int .u8 (l[j].toNat : Int))
  thaw : ∀ j, j < l.length → W.frozen? ⟨g, j, none⟩ = false
theorem BytesAt.set {W : World} {g : Nat} {l : Bs} (h : BytesAt W g l) (j : Nat) (hj : j < l.length) (x : UInt8) : BytesAt (W.setCell ⟨g, j, none⟩ (.int .u8 (x.toNat : Int))) g (l.set j x) := by
  refine ⟨fun k hk => ?_, fun k hk => ?_⟩
  · by_cases e : j = k
    · subst e
      rw [World.cell?_setCell_same' _ _ _ (by rw [h.cell j hj]; rfl)]
      simp
    · rw [World.cell?_setCell_other _ _ _ _ (fun h' => e (by injection h')), h.cell k (by simpa using hk)]
      simp [List.getElem_set_ne e]
  · rw [World.frozen?_setCell]
    exact h.thaw k (by simpa using hk)
theorem BytesAt.of_cells {W W' : World} {g : Nat} {l : Bs} (h : BytesAt W g l) (hk : W'.heap[g]? = W.heap[g]?) : BytesAt W' g l :=
  ⟨fun j hj => (World.cell?_of_block hk).trans (h.cell j hj), fun j hj => by
    have h1 := h.thaw j hj
    unfold World.frozen? at h1 ⊢
    rw [hk]; exact h1⟩
theorem bytesAt_new (w : World) (s : ByteArray) (cap : Nat) (n : Nat) (hn : n = (bytesRow s cap).size) : BytesAt (w.alloc (.cells (bytesRow s cap) 5 (n, n + 1))) w.heap.size s.data.toList := by
  have hsz : s.data.size ≤ (bytesRow s cap).size := by unfold bytesRow; simp
  refine ⟨fun j hj => ?_, fun j hj => ?_⟩
  · rw [World.cell?_alloc_mark, bytesRow_at s cap j (by simpa using hj)]
    simp
  · rw [World.frozen?_alloc_mark]
    have : j < s.data.size := by simpa using hj
    simp; omega
theorem BytesAt.back {W : World} {g : Nat} {l : Bs} (h : BytesAt W g l) (n : Nat) (hn : l.length = n) (cap : Nat) : (convert 44 9 (.slice (some ⟨g, 0, none⟩) n cap)).run Tryd.prog W = .ok (.string (str l)) W := by
  subst hn
  refine run_convert_bytes_back (P := Tryd.prog) W 44 9 5 ⟨g, 0, none⟩ cap l Tryd.underlying44 Tryd.underlying5 Tryd.underlying9 (fun j hj => ?_)
  rw [Addr.add_mid, Nat.zero_add]; exact h.cell j hj
theorem bit_int (x : UInt8) (p : Nat) (hp : p < 8) : (UInt8.ofNat (2 ^ p)).toNat = 2 ^ p ∧ bits .xor .u8 (x.toNat : Int) (2 ^ p % 256) = (((x ^^^ UInt8.ofNat (2 ^ p)).toNat : Nat) : Int) := by
  have h : p = 0 ∨ p = 1 ∨ p = 2 ∨ p = 3 ∨ p = 4 ∨ p = 5 ∨ p = 6 ∨ p = 7 := by omega
  rcases h with rfl | rfl | rfl | rfl | rfl | rfl | rfl | rfl
  all_goals
    refine ⟨by decide, ?_⟩
    rw [UInt8.toNat_xor]
    exact u8_xor_nat _ _ x.toNat_lt (by decide)
theorem xor_ne (x : UInt8) (p : Nat) (hp : p < 8) : x ^^^ UInt8.ofNat (2 ^ p) ≠ x := fun h => by
  have h1 : UInt8.ofNat (2 ^ p) = 0 := by
    have := congrArg (x ^^^ ·) h
    simpa [← UInt8.xor_assoc] using this
  have h2 := (bit_int x p hp).1
  rw [h1] at h2
  have := Nat.pow_pos (n := p) (show 0 < 2 by decide)
  simp at h2
  omega
theorem set_ne {l : Bs} {k : Nat} {x y : UInt8} (hk : l[k]? = some x) (h : y ≠ x) : str (l.set k y) ≠ str l := fun e => by
  have h1 := congrArg (fun b : BA => b.data.toList[k]?) e
  have hl := (List.getElem?_eq_some_iff.1 hk).1
  simp [str, hl] at h1
  have h2 := (List.getElem?_eq_some_iff.1 hk).2
  exact h (h1.trans h2)

set_option maxHeartbeats 3200000 in
set_option maxRecDepth 100000 in
theorem turn_any (w : World) (B bit : Nat) (s : BA) (hb : bit < 256) (hs : s.size = 32) (hB : B < w.heap.size) (hc : w.cell? ⟨B, 0, none⟩ = some (.int .i64 bit)) :
    Calls Tryd.prog 22 #[.string s, .pointer (some ⟨B, 0, none⟩)] w fun e w' => ∃ s' : BA, e = .returned (.string s') ∧ s'.size = 32 ∧ s' ≠ s ∧ Below w.heap.size w w' := by
  have hcv := run_bytes_of_string (P := Tryd.prog) w 9 44 5 s Tryd.underlying9 Tryd.underlying44 Tryd.underlying5
  rw [hs] at hcv
  have HB : Hid (BytesAt (w.drew.alloc (.cells (bytesRow s (grownCap w 32 0 5)) 5 ((bytesRow s (grownCap w 32 0 5)).size, (bytesRow s (grownCap w 32 0 5)).size + 1))) w.heap.size s.data.toList) := Lib.hid (bytesAt_new w.drew s (grownCap w 32 0 5) _ rfl)
  have HW : Hid (Below w.heap.size w (w.drew.alloc (.cells (bytesRow s (grownCap w 32 0 5)) 5 ((bytesRow s (grownCap w 32 0 5)).size, (bytesRow s (grownCap w 32 0 5)).size + 1)))) := Lib.hid (((Same.refl w).drew.below).trans (below1 w.drew _))
  generalize grownCap w 32 0 5 = cap at *
  generalize hW0 : w.drew.alloc (.cells (bytesRow s cap) 5 ((bytesRow s cap).size, (bytesRow s cap).size + 1)) = w0 at *
  clear hW0
  have hc0 : w0.cell? ⟨B, 0, none⟩ = some (.int .i64 bit) := (HW.out.cell (p := ⟨B, 0, none⟩) hB).trans hc
  have hlen : s.data.toList.length = 32 := by rw [BA.len]; exact hs
  have hK : bit / 8 < s.data.toList.length := by omega
  have hcell := HB.out.cell _ hK
  have hthaw := HB.out.thaw _ hK
  have HXK : Hid (s.data.toList[bit / 8]? = some s.data.toList[bit / 8]) := Lib.hid (List.getElem?_eq_getElem hK)
  generalize s.data.toList[bit / 8] = x at *
  have HL := Lib.hid hlen
  have HSE : Hid (s = str s.data.toList) := Lib.hid rfl
  generalize s.data.toList = l at *
  have hBW : B ≠ w.heap.size := by omega
  clear hlen hK hc
  go_enter Tryd.func22, Tryd.ntmps22
  go_wp2
  have hK8 : bit / 8 < 32 := by omega
  go_region
  have hp8 : bit % 8 < 8 := Nat.mod_lt _ (by decide)
  rw [(bit_int x (bit % 8) hp8).2]
  have HNE := Lib.hid (set_ne HXK.out (xor_ne x (bit % 8) hp8))
  have HKL : Hid (bit / 8 < l.length) := Lib.hid (by have := HL.out; omega)
  generalize x ^^^ UInt8.ofNat (2 ^ (bit % 8)) = y at *
  have HB2 : Hid (BytesAt (w0.setCell ⟨w.heap.size, bit / 8, none⟩ (.int .u8 (y.toNat : Int))).drew w.heap.size (l.set (bit / 8) y)) := Lib.hid ((HB.out.set _ HKL.out y).of_cells rfl)
  have HW2 : Hid (Below w.heap.size w (w0.setCell ⟨w.heap.size, bit / 8, none⟩ (.int .u8 (y.toNat : Int))).drew) := Lib.hid ((HW.out.setCell (p := ⟨w.heap.size, bit / 8, none⟩) (Nat.le_refl _) _).drew)
  have HL2 : Hid ((l.set (bit / 8) y).length = 32) := Lib.hid (by rw [List.length_set]; exact HL.out)
  clear hcv hc0 hcell hthaw HB HW
  generalize (w0.setCell ⟨w.heap.size, bit / 8, none⟩ (.int .u8 (y.toNat : Int))).drew = w2 at *
  generalize l.set (bit / 8) y = l2 at *
  have hbk := HB2.out.back 32 HL2.out cap
  go_wp2
  go_ret
  refine ⟨_, rfl, ?_, ?_, HW2.out⟩
  · show l2.toArray.size = 32
    rw [List.size_toArray]; exact HL2.out
  · show str l2 ≠ s
    rw [HSE.out]; exact HNE.out
end Go.Proofs.YtnmhmemlgibedaaDoor
