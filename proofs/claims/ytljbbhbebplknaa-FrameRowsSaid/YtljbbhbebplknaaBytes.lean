/- Bytes in memory; a window of bits that were turned. -/
import Derived.Test.YtljbbhbebplknaaLeaf
import Derived.Laws.ShiftsVarLaws
namespace Go.Proofs.Ytljbbhbebplknaa
open Go.RowKit

theorem ba_size (s : ByteArray) : s.data.toList.length = s.size := by simp
theorem ba_get (s : ByteArray) (j : Nat) (h : j < s.size) : s.data.toList[j]'(by rw [ba_size]; exact h) = s[j] := by simp; rfl

/-- Block g of the world begins with these bytes, which may be written. -/
structure BytesAt (W : World) (g : Nat) (l : Bs) : Prop where
  cell : ∀ j (h : j < l.length), W.cell? ⟨g, j, none⟩ = some (.int .u8 (l[j].toNat : Int))
  thaw : ∀ j, j < l.length → W.frozen? ⟨g, j, none⟩ = false

theorem BytesAt.set {W : World} {g : Nat} {l : Bs} (h : BytesAt W g l) (j : Nat) (hj : j < l.length) (x : UInt8) : BytesAt (W.setCell ⟨g, j, none⟩ (.int .u8 (x.toNat : Int))) g (l.set j x) := by
  refine ⟨fun k hk => ?_, fun k hk => ?_⟩
  · by_cases e : j = k
    · subst e
      rw [World.cell?_setCell_same' _ _ _ (by rw [h.cell j hj]; rfl)]
      simp
    · rw [World.cell?_setCell_other _ _ _ _ (fun h' => e (by injection h')), h.cell k (by simpa using hk)]
      simp [List.getElem_set_ne e]
  · rw [World.frozen?_setCell]
    exact h.thaw k (by simpa using hk)
theorem BytesAt.of_cells {W W' : World} {g : Nat} {l : Bs} (h : BytesAt W g l) (hk : W'.heap[g]? = W.heap[g]?) : BytesAt W' g l :=
  ⟨fun j hj => (World.cell?_of_block hk).trans (h.cell j hj), fun j hj => by
    have h1 := h.thaw j hj
    unfold World.frozen? at h1 ⊢
    rw [hk]; exact h1⟩

theorem bytesAt_new (w : World) (s : ByteArray) (cap : Nat) (n : Nat) (hn : n = (bytesRow s cap).size) : BytesAt (w.alloc (.cells (bytesRow s cap) 5 (n, n + 1))) w.heap.size s.data.toList := by
  have hsz : s.data.size ≤ (bytesRow s cap).size := by unfold bytesRow; simp
  refine ⟨fun j hj => ?_, fun j hj => ?_⟩
  · rw [World.cell?_alloc_mark, bytesRow_at s cap j (by simpa using hj)]
    simp
  · rw [World.frozen?_alloc_mark]
    have : j < s.data.size := by simpa using hj
    simp; omega

theorem BytesAt.back {W : World} {g : Nat} {l : Bs} (h : BytesAt W g l) (n : Nat) (hn : l.length = n) (cap : Nat) : (convert 34 9 (.slice (some ⟨g, 0, none⟩) n cap)).run Try.prog W = .ok (.string ⟨l.toArray⟩) W := by
  subst hn
  refine run_convert_bytes_back (P := Try.prog) W 34 9 5 ⟨g, 0, none⟩ cap l Try.underlying34 Try.underlying5 Try.underlying9 (fun j hj => ?_)
  have ha : (⟨g, 0, none⟩ : Addr).add j = ⟨g, j, none⟩ := by unfold Addr.add; split <;> simp_all
  rw [ha]; exact h.cell j hj

theorem sumE_any (w : World) : Calls Try.prog 10 #[.string ⟨#[]⟩] w fun e w' => e = .returned (.int .u32 0) ∧ w = w' :=
  (sum_any ⟨#[]⟩ w (by show 0 ≤ 140737488351232; omega)).mono fun e w' ⟨he, hw⟩ => ⟨by rw [he, show crc (⟨#[]⟩ : ByteArray).data.toList = 0 by decide +kernel]; rfl, hw⟩
theorem sumA_any (w : World) : Calls Try.prog 10 #[.string ⟨#[97]⟩] w fun e w' => e = .returned (.int .u32 3251651376) ∧ w = w' :=
  (sum_any ⟨#[97]⟩ w (by show 1 ≤ 140737488351232; omega)).mono fun e w' ⟨he, hw⟩ => ⟨by rw [he, show crc (⟨#[97]⟩ : ByteArray).data.toList = 3251651376 by decide +kernel]; rfl, hw⟩

theorem cut_size (s : ByteArray) : (cutS s).size ≤ 20000 := by
  show (s.data.toList.take 20000).toArray.size ≤ 20000
  simp; omega

/-- The bits within the window that were turned. -/
def Turned (l l' : Bs) (f i : Nat) : Prop := l'.length = l.length ∧ ∃ q, q < 2 ^ i ∧ numL l' = numL l ^^^ (q * 2 ^ f)
theorem Turned.start (l : Bs) (f : Nat) : Turned l l f 0 := ⟨rfl, 0, by decide, by simp⟩
theorem Turned.skip {l l' : Bs} {f i : Nat} (h : Turned l l' f i) : Turned l l' f (i + 1) := by
  obtain ⟨hl, q, hq, e⟩ := h
  exact ⟨hl, q, Nat.lt_trans hq (Nat.pow_lt_pow_right (by decide) (by omega)), e⟩
theorem Turned.turn {l l' : Bs} {f i : Nat} (h : Turned l l' f i) (x : UInt8) (hx : l'[(f + i) / 8]? = some x) (m : UInt8) (hm : m.toNat = 2 ^ ((f + i) % 8)) : Turned l (l'.set ((f + i) / 8) (x ^^^ m)) f (i + 1) := by
  obtain ⟨hl, q, hq, e⟩ := h
  refine ⟨by simpa using hl, q ^^^ 2 ^ i, Nat.xor_lt_two_pow (Nat.lt_trans hq (Nat.pow_lt_pow_right (by decide) (by omega))) (Nat.pow_lt_pow_right (by decide) (by omega)), ?_⟩
  rw [numL_set _ _ _ _ hx, e, hm, Nat.xor_assoc, mul_two_pow_xor, ← Nat.pow_add, ← Nat.pow_add, show (f + i) % 8 + 8 * ((f + i) / 8) = i + f by omega]
theorem Turned.same {l l' : Bs} {f : Nat} (h : Turned l l' f 32) (hf : f ≤ 8 * l.length) : crc l = crc l' ↔ l = l' := by
  obtain ⟨hl, q, hq, e⟩ := h
  exact crc_burst l l' hl.symm q f hq hf e

end Go.Proofs.Ytljbbhbebplknaa
