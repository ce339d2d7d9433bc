/- Slices of strings as they are read; Scan by them; Like of the document's answer. -/
import Derived.Test.YtljbbhbebplknaaScan
import Derived.Deep.RegionHeld3
namespace Go.Proofs.Ytljbbhbebplknaa
open Go.RowKit Go.Shelf

/-- The slice's elements are these strings, in a block of the world. -/
def Reads (w : World) (a : Option Addr) (cap : Nat) (xs : List ByteArray) : Prop :=
  xs.length ≤ cap ∧ (xs ≠ [] → ∃ g, a = some ⟨g, 0, none⟩ ∧ g < w.heap.size ∧ ∀ j (h : j < xs.length), w.cell? ⟨g, j, none⟩ = some (.string xs[j]))

theorem Reads.below {w w' : World} {a : Option Addr} {cap : Nat} {xs : List ByteArray} (h : Reads w a cap xs) (hb : Below w.heap.size w w') : Reads w' a cap xs :=
  ⟨h.1, fun hx => by
    obtain ⟨g, ha, hg, hc⟩ := h.2 hx
    exact ⟨g, ha, Nat.lt_of_lt_of_le hg hb.size, fun j hj => (hb.cell (p := ⟨g, j, none⟩) hg).trans (hc j hj)⟩⟩
theorem Reads.take {w : World} {a : Option Addr} {cap : Nat} {xs ys : List ByteArray} (h : Reads w a cap (xs ++ ys)) : Reads w a cap xs :=
  ⟨by have := h.1; simp at this; omega, fun hx => by
    obtain ⟨g, ha, hg, hc⟩ := h.2 (by simp [hx])
    refine ⟨g, ha, hg, fun j hj => ?_⟩
    rw [hc j (by simp; omega), List.getElem_append_left hj]⟩

theorem reads_of_owns {w : World} {base : Nat} {v : Value} {xs : List ByteArray} (h : w.ownsRow base 9 1 v xs.length (xs.map Value.string)) : ∃ a cap, v = .slice a xs.length cap ∧ Reads w a cap xs := by
  rcases h.2 with ⟨rfl, h0⟩ | ⟨g, cap, cur, rfl, hb, hh, hc, -, hs, ht⟩
  · have : xs = [] := List.length_eq_zero_iff.1 h0
    subst this
    exact ⟨none, 0, rfl, Nat.le_refl _, fun h => absurd rfl h⟩
  · refine ⟨_, cap, rfl, hc, fun _ => ⟨g, rfl, (Array.getElem?_eq_some_iff.1 hh).1, fun j hj => ?_⟩⟩
    have h1 : (cur.toList.take (xs.length * 1))[j]? = (xs.map Value.string)[j]? := by rw [ht]
    rw [List.getElem?_take, if_pos (by omega), Array.getElem?_toList] at h1
    simp only [World.cell?, hh, h1]
    simp [List.getElem?_eq_getElem hj]

theorem scan_reads (s : ByteArray) (w : World) (hs : s.size ≤ 1000000) : Calls Try.prog 14 #[.string s] w fun e w' => ∃ (a : Option Addr) (cap : Nat) (xs : List ByteArray) (n : Nat), Scanned s.data.toList (xs.map (·.data.toList)) n ∧ e = .returned (.tuple #[.slice a xs.length cap, .int .i64 (n : Nat)]) ∧ Reads w' a cap xs ∧ Below w.heap.size w w' := by
  refine (scan_any s w hs).mono fun e w' h => ?_
  obtain ⟨v, bs, hS, he, ho, hb⟩ := h
  have e1 : bs.map (fun b => Value.string b.1) = (bs.map (·.1)).map Value.string := by rw [List.map_map]; rfl
  have e2 : listsB bs = (bs.map (·.1)).map (·.data.toList) := by rw [List.map_map]; rfl
  have e3 : bs.length = (bs.map (·.1)).length := (List.length_map _).symm
  unfold strsB at ho
  rw [e1, e3] at ho
  obtain ⟨a, cap, rfl, hr⟩ := reads_of_owns ho
  exact ⟨a, cap, bs.map (·.1), _, by rw [← e2]; exact hS, he, hr, hb⟩

theorem scan_none (s : ByteArray) (w : World) (hs : s.size ≤ 1000000) (h : firstF s.data.toList = none) : Calls Try.prog 14 #[.string s] w fun e w' => (∃ a cap, e = .returned (.tuple #[.slice a 0 cap, .int .i64 0])) ∧ Below w.heap.size w w' := by
  refine (scan_reads s w hs).mono fun e w' h' => ?_
  obtain ⟨a, cap, xs, n, hS, he, hr, hb⟩ := h'
  obtain ⟨h1, h2⟩ := scanned_nil hS h
  have h3 : xs = [] := by simpa using h1
  subst h3 h2
  exact ⟨⟨a, cap, he⟩, hb⟩

set_option maxHeartbeats 1600000 in
theorem like_any (w : World) (a b : Option Addr) (cap cap' : Nat) (xs : List ByteArray) (hlen : xs.length ≤ 1000000) (ha : Reads w a cap xs) (hb : Reads w b cap' xs) :
    Calls Try.prog 16 #[.slice a xs.length cap, .slice b xs.length cap'] w fun e w' => e = .returned (.bool true) ∧ ∃ m, w' = w.drewN m := by
  have HA := Lib.hid ha
  have HB := Lib.hid hb
  clear ha hb
  go_enter Try.func16, Try.ntmps16
  go_wp2
  go_loopw [13] (fun i wr => ∃ k m : Nat, k ≤ xs.length ∧ i = .int .i64 k ∧ wr = w.drewN m) (fun i _ => xs.length - (intOf i).toNat)
  case atStart => exact ⟨0, 0, by omega, rfl, rfl⟩
  case round =>
    obtain ⟨k, m, hk, rfl, rfl⟩ := hrel
    by_cases hlt : k < xs.length
    · have hne : xs ≠ [] := by intro h; subst h; simp at hlt
      obtain ⟨g1, rfl, -, hc1⟩ := HA.out.2 hne
      obtain ⟨g2, rfl, -, hc2⟩ := HB.out.2 hne
      have h1 := hc1 k hlt
      have h2 := hc2 k hlt
      clear hc1 hc2 hne
      generalize xs[k] = x at *
      go_wp2
      go_quiet (fail)
      go_wp2
      go_roundw
      case rel => exact ⟨k + 1, _, by omega, by go_num, rfl⟩
      case measure => simp [intOf]; omega
    · go_wp2
      go_ret
      exact ⟨rfl, m, rfl⟩
end Go.Proofs.Ytljbbhbebplknaa
