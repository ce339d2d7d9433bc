/- Slices of strings: what came in and what was made; leaves that may be. -/
import Derived.Test.YtnmhmemlgibedaaDoorTree
import Derived.Test.YtnmhmemlgibedaaDoorMem
import Derived.WalkSpells
namespace Go.Proofs.YtnmhmemlgibedaaDoor
open Go.RowKit

abbrev strs (xs : List BA) : List Value := xs.map Value.string
/-- A slice of strings: its elements, wherever they lie. -/
def InS (w : World) (a : Option Addr) (xs : List BA) : Prop :=
  xs ≠ [] → ∃ b off, a = some ⟨b, off, none⟩ ∧ b < w.heap.size ∧ ∀ j (h : j < xs.length), w.cell? ⟨b, off + j, none⟩ = some (.string xs[j])
theorem InS.nil (w : World) (a : Option Addr) : InS w a [] := fun h => absurd rfl h
theorem InS.below {w w' : World} {a : Option Addr} {xs : List BA} (h : InS w a xs) (hb : Below w.heap.size w w') : InS w' a xs := fun hx => by
  obtain ⟨b, off, ha, hl, hc⟩ := h hx
  exact ⟨b, off, ha, Nat.lt_of_lt_of_le hl hb.size, fun j hj => (hb.cell (p := ⟨b, off + j, none⟩) hl).trans (hc j hj)⟩
theorem InS.same {w w' : World} {a : Option Addr} {xs : List BA} (h : InS w a xs) (hb : Same w w') : InS w' a xs := fun hx => by
  obtain ⟨b, off, ha, hl, hc⟩ := h hx
  exact ⟨b, off, ha, by rw [hb.heap]; exact hl, fun j hj => (hb.cell _).trans (hc j hj)⟩
theorem InS.take {w : World} {a : Option Addr} {xs : List BA} (h : InS w a xs) (k : Nat) : InS w a (xs.take k) := fun hx => by
  obtain ⟨b, off, ha, hl, hc⟩ := h (by intro e; subst e; simp at hx)
  exact ⟨b, off, ha, hl, fun j hj => by
    have : j < xs.length := by rw [List.length_take] at hj; omega
    rw [hc j this, List.getElem_take]⟩
theorem InS.drop {w : World} {b off : Nat} {xs : List BA} (h : InS w (some ⟨b, off, none⟩) xs) (k : Nat) : InS w (some ⟨b, off + k, none⟩) (xs.drop k) := fun hx => by
  obtain ⟨b', off', ha, hl, hc⟩ := h (by intro e; subst e; simp at hx)
  obtain ⟨rfl, rfl⟩ : b = b' ∧ off = off' := by simpa using ha
  exact ⟨b, off + k, rfl, hl, fun j hj => by
    have : k + j < xs.length := by rw [List.length_drop] at hj; omega
    rw [Nat.add_assoc, hc (k + j) this, List.getElem_drop]⟩
theorem InS.of_owns {w : World} {base : Nat} {v : Value} {xs : List BA} (h : w.ownsRow base 9 1 v xs.length (strs xs)) : ∃ a cap, v = .slice a xs.length cap ∧ xs.length ≤ cap ∧ InS w a xs := by
  rcases h.2 with ⟨rfl, h0⟩ | ⟨g, cap, cur, rfl, hb, hh, hc, -, hs, ht⟩
  · have : xs = [] := List.length_eq_zero_iff.1 (by simpa using h0)
    subst this
    exact ⟨none, 0, rfl, Nat.le_refl _, InS.nil _ _⟩
  · refine ⟨_, cap, rfl, hc, fun _ => ⟨g, 0, rfl, (Array.getElem?_eq_some_iff.1 hh).1, fun j hj => ?_⟩⟩
    have h1 : (cur.toList.take (xs.length * 1))[j]? = (strs xs)[j]? := by rw [ht]
    rw [List.getElem?_take, if_pos (by omega), Array.getElem?_toList] at h1
    rw [Nat.zero_add]
    simp only [World.cell?, hh, h1]
    simp [List.getElem?_eq_getElem hj]
theorem owns_fresh {w : World} {base : Nat} {a : Option Addr} {n cap : Nat} {xs : List Value} {e : TypeId} {m : Nat} (h : w.ownsRow base e 1 (.slice a n cap) m xs) {b off : Nat} (ha : a = some ⟨b, off, none⟩) : base ≤ b := by
  subst ha
  exact (h.lt b rfl).1
theorem owns_cap {w : World} {base : Nat} {a : Option Addr} {n cap : Nat} {xs : List Value} {e : TypeId} {m : Nat} (h : w.ownsRow base e 1 (.slice a n cap) m xs) : cap ≤ 9223372036854775807 := by
  rcases h.2 with ⟨h0, -⟩ | ⟨g, cap', cur, hv, -, -, -, hm, -⟩
  · injection h0 with _ _ h1
    omega
  · injection hv with _ _ h1
    unfold maxLen at hm
    omega
theorem ownsRow_below {w w' : World} {base : Nat} {e : TypeId} {size : Nat} {v : Value} {n : Nat} {xs : List Value} (h : w.ownsRow base e size v n xs) (hb : Below w.heap.size w w') : w'.ownsRow base e size v n xs := by
  refine ⟨h.1, ?_⟩
  rcases h.2 with h0 | ⟨g, cap, cur, hv, hbs, hh, hr⟩
  · exact .inl h0
  · exact .inr ⟨g, cap, cur, hv, hbs, (hb.block g (Array.getElem?_eq_some_iff.1 hh).1).trans hh, hr⟩
theorem ownsRow_succ {w : World} {base : Nat} {e : TypeId} {v : Value} {n : Nat} {xs : List Value} (h : w.ownsRow base e 1 v (n + 1) xs) : ∃ g cap, v = .slice (some ⟨g, 0, none⟩) (n + 1) cap := by
  rcases h.2 with ⟨-, h0⟩ | ⟨g, cap, cur, rfl, -⟩
  · cases h0
  · exact ⟨g, cap, rfl⟩
theorem ownsRow_form {w : World} {base : Nat} {e : TypeId} {v : Value} {n : Nat} {xs : List Value} (h : w.ownsRow base e 1 v n xs) : ∃ a cap, v = .slice a n cap := by
  rcases h.2 with ⟨rfl, rfl⟩ | ⟨g, cap, cur, rfl, -⟩
  · exact ⟨_, _, rfl⟩
  · exact ⟨_, _, rfl⟩
theorem info9 : (Tryd.prog.info? 9).map (fun i => (i.zero, i.size, i.bytes)) = some (some (.string ByteArray.empty), 1, 16) := by kernel_rfl
theorem cell_new1 (w : World) (x : Value) (t : TypeId) : ∀ j v, [x][j]? = some v → (w.alloc (.cells #[x] t)).cell? (Addr.add ⟨w.heap.size, 0, none⟩ j) = some v := fun j v hv => by
  cases j with
  | zero =>
    obtain rfl := Option.some.inj hv
    rw [Addr.add_mid]
    exact (row_new w #[x] t).cell rfl
  | succ j => cases hv

/-- Why leaves may not be. -/
def faultF (xs : List BA) : Nat := if 4096 < xs.length then 2 else if xs.all (fun x => x.size == 32) then 0 else 1
theorem fault_ok {xs : List BA} : faultF xs = 0 ↔ xs.length ≤ 4096 ∧ AllS xs := by
  unfold faultF AllS
  split
  · simp; omega
  · split
    · rename_i h; simp at h; simp; exact ⟨by omega, h⟩
    · rename_i h; simp at h; simp; intro _; exact h

set_option maxHeartbeats 1000000 in
theorem fault_any (w : World) (a : Option Addr) (cap : Nat) (xs : List BA) (hxl : xs.length ≤ 9223372036854775807) (hxs : ∀ x, x ∈ xs → x.size ≤ 9223372036854775807) (hIn : InS w a xs) :
    Calls Tryd.prog 23 #[.slice a xs.length cap] w fun e w' => e = .returned (.int .i64 (faultF xs : Nat)) ∧ w = w' := by
  have HIN := Lib.hid hIn
  have HXS := Lib.hid hxs
  clear hIn hxs
  by_cases hlong : 4096 < xs.length
  · have HF : Hid (faultF xs = 2) := Lib.hid (by unfold faultF; rw [if_pos hlong])
    go_enter Tryd.func23, Tryd.ntmps23
    go_wp2
    go_ret
    exact ⟨by rw [HF.out]; rfl, rfl⟩
  · go_enter Tryd.func23, Tryd.ntmps23
    go_wp2
    go_loop [10] (fun i => ∃ k : Nat, k ≤ xs.length ∧ i = .int .i64 k ∧ Hid (AllS (xs.take k))) (fun i => xs.length - (intOf i).toNat)
    case atStart => exact ⟨0, by omega, rfl, Lib.hid (fun x hx => by simp at hx)⟩
    case round =>
      obtain ⟨k, hk, rfl, HA⟩ := hrel
      by_cases hlt : k < xs.length
      · obtain ⟨b, off, rfl, hb, hcl⟩ := HIN.out (fun h => by rw [h] at hlt; simp at hlt)
        have hcell := hcl k hlt
        have hx := HXS.out xs[k] (List.getElem_mem hlt)
        have HT : Hid (xs.take (k + 1) = xs.take k ++ [xs[k]]) := Lib.hid (List.take_succ_eq_append_getElem hlt)
        have HM : Hid (xs[k] ∈ xs) := Lib.hid (List.getElem_mem hlt)
        clear hcl
        generalize xs[k] = x at *
        by_cases h32 : x.size = 32
        · have HX := Lib.hid h32
          have hB : ((x.size : Int) != 32) = false := by rw [bne_eq_false_iff_eq]; omega
          clear h32
          go_wp2
          go_round
          case rel => exact ⟨k + 1, by omega, by go_num, Lib.hid (fun y hy => by
            rw [HT.out] at hy
            rcases List.mem_append.1 hy with hy | hy
            · exact HA.out y hy
            · rw [List.mem_singleton.1 hy]; exact HX.out)⟩
          case measure => simp [intOf]; omega
        · have HF : Hid (faultF xs = 1) := Lib.hid (by
            unfold faultF
            rw [if_neg hlong, if_neg]
            intro h
            have := List.all_eq_true.1 h x HM.out
            exact h32 (by simpa using this))
          have hB : ((x.size : Int) != 32) = true := by rw [bne_iff_ne]; omega
          clear h32
          go_wp2
          go_ret
          exact ⟨by rw [HF.out]; rfl, rfl⟩
      · have HF : Hid (faultF xs = 0) := Lib.hid (fault_ok.2 ⟨by omega, by have := HA.out; rwa [List.take_of_length_le (by omega)] at this⟩)
        go_wp2
        go_ret
        exact ⟨by rw [HF.out]; rfl, rfl⟩
end Go.Proofs.YtnmhmemlgibedaaDoor
