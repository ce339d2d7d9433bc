/- Package code's Put: the closure that adds a text to what is written, as long as it fits. -/
import Derived.Test.YtmagcikaepobiaaDoorBuild
import Derived.Test.YtmagcikaepobiaaDoorMem
import Derived.Lib.OthersKept
import Derived.Lib.AppendIntMem
namespace Go.Proofs.YtmagcikaepobiaaDoor
open Go.RowKit

/-- A builder at block b that holds the bytes l. -/
abbrev Holds (B b : Nat) (l : List UInt8) (w : World) : Prop := Lib.IsBuilderF 49 5 B b (Lib.byteCells l) w

theorem builderAt_same {T e : TypeId} {B b : Nat} {p : Value} {bs : List Value} {w w' : World} (h : Lib.BuilderAtF T e B b p bs w) (hk : ∀ k : Nat, w'.heap[k]? = w.heap[k]?) : Lib.BuilderAtF T e B b p bs w' := by
  obtain ⟨hB, v, hb, hown, hne⟩ := h
  refine ⟨hB, v, (hk b).trans hb, ⟨hown.1, ?_⟩, hne⟩
  rcases hown.2 with h0 | ⟨g, cap, cur, fz, hv, h1, h2, hr⟩
  · exact .inl h0
  · exact .inr ⟨g, cap, cur, fz, hv, h1, (hk g).trans h2, hr⟩
theorem holds_same {B b : Nat} {l : List UInt8} {w w' : World} (h : Holds B b l w) (hk : ∀ k : Nat, w'.heap[k]? = w.heap[k]?) : Holds B b l w' :=
  h.imp (builderAt_same · hk) (builderAt_same · hk)
theorem Holds.lt {B b : Nat} {l : List UInt8} {w : World} (h : Holds B b l w) : b < w.heap.size := by
  rcases h with h | h <;> exact h.lt
theorem Holds.ne {B b k : Nat} {l : List UInt8} {w : World} (h : Holds B b l w) {cs : Array Value} {t : TypeId} {fz : Nat × Nat} (hk : w.heap[k]? = some (.cells cs t fz)) (ht : t ≠ 49) : k ≠ b := by
  rintro rfl
  rcases h with ⟨_, v, hb, _⟩ | ⟨_, v, hb, _⟩ <;> rw [hk] at hb <;> injection hb with hb <;> injection hb with _ hb <;> exact ht hb

theorem setCell_same {w : World} {k : Nat} {v : Value} {t : TypeId} (h : w.heap[k]? = some (.cells #[v] t (0, 0))) : ∀ j : Nat, (w.setCell ⟨k, 0, none⟩ v).heap[j]? = w.heap[j]? := by
  intro j
  by_cases hj : j = k
  · subst hj; rw [heap_set h 0 v, h]; rfl
  · exact Below.heap_setCell _ _ _ _ hj
theorem below_same {B : Nat} {w w' : World} (hb : Below B w w') {k : Nat} {v : Value} {t : TypeId} (h : w'.heap[k]? = some (.cells #[v] t (0, 0))) : Below B w (w'.setCell ⟨k, 0, none⟩ v) :=
  hb.trans ⟨rfl, rfl, rfl, by simp [World.setCell], fun j _ => setCell_same h j⟩
theorem others_same {w w' : World} (hk : ∀ k : Nat, w'.heap[k]? = w.heap[k]?) (b : Option Nat) : Lib.OthersKept 5 b w w' := fun k _ h _ _ => (hk k).trans h
theorem others_at {w w' : World} {b : Option Nat} (h : Lib.OthersKept 5 b w w') {k : Nat} {cs : Array Value} {t : TypeId} {fz : Nat × Nat} (hk : w.heap[k]? = some (.cells cs t fz)) (hb : some k ≠ b) (ht : t ≠ 5) : w'.heap[k]? = some (.cells cs t fz) :=
  h k _ hk hb (fun c f e => by injection e with _ e; exact ht e)

set_option maxHeartbeats 1000000 in
set_option maxRecDepth 100000 in
theorem add_any (B b fb : Nat) (l : List UInt8) (s : ByteArray) (w : World) (hI : Holds B b l w) (hB : B ≤ w.heap.size) (hf : w.heap[fb]? = some (.cells #[.bool true] 4 (0, 0))) (hlen : l.length + s.size ≤ 131072) :
    Calls Tryd.prog 24 #[.string s, .pointer (some ⟨fb, 0, none⟩), .pointer (some ⟨b, 0, none⟩)] w fun e w' => e = .returned (.tuple #[]) ∧ (Holds B b (l ++ s.data.toList) w' ∧ Below B w w' ∧ Lib.OthersKept 5 (some b) w w') := by
  have hsame := setCell_same hf
  have hcf : w.cell? ⟨fb, 0, none⟩ = some (.bool true) := by simp [World.cell?, hf]
  have hff : w.frozen? ⟨fb, 0, none⟩ = false := by simp [World.frozen?, hf]
  have HL := Lib.hid (Tryd.Builder_Len_f B b (Lib.byteCells l) w hI)
  have HW := Lib.hid (writeString_any B b (Lib.byteCells l) s (w.setCell ⟨fb, 0, none⟩ (.bool true)) (holds_same hI hsame) (by rw [Lib.byteCells_length]; omega) (by simpa [World.setCell] using hB))
  have HB : Hid (Below B w (w.setCell ⟨fb, 0, none⟩ (.bool true))) := Lib.hid (below_same (Below.refl _ _) hf)
  have HO : Hid (Lib.OthersKept 5 (some b) w (w.setCell ⟨fb, 0, none⟩ (.bool true))) := Lib.hid (others_same hsame _)
  have hbl : Hid ((Lib.byteCells l).length = l.length) := Lib.hid (Lib.byteCells_length l)
  clear hsame hf hI
  go_enter Tryd.func24, Tryd.ntmps24
  go_wp2_with fail
  refine HL.out.mono ?_
  rintro e w' ⟨rfl, rfl⟩
  rw [hbl.out]
  have hq : decide ((s.size : Int) ≤ 131072 - (l.length : Int)) = true := by simp; omega
  go_wp2_with fail
  refine HW.out.mono ?_
  rintro e w2 ⟨rfl, h2, hb2, ho2⟩
  go_wp2
  go_end0
  refine ⟨rfl, .inr ?_, HB.out.trans hb2, HO.out.trans ho2⟩
  have : Lib.byteCells (l ++ s.data.toList) = Lib.byteCells l ++ Lib.strCells s := by simp [Lib.byteCells, Lib.strCells]
  rw [this]; exact h2

end Go.Proofs.YtmagcikaepobiaaDoor
