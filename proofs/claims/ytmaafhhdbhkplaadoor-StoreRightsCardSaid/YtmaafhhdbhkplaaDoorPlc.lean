/- Package store's search and place. -/
import Derived.Test.YtmaafhhdbhkplaaDoorRgt
import Derived.Laws.EntriesVeiled
namespace Go.Proofs.YtmaafhhdbhkplaaDoor
open Go.RowKit

/-- A store in a box: its items. -/
structure Box (w : World) (B : Nat) (a : Option Addr) (cap : Nat) (xs : List Itm) : Prop where
  cell : w.cell? ⟨B, 0, none⟩ = some (.slice a xs.length cap)
  its : InI w a xs

theorem key_any (w : World) (B : Nat) (a : Option Addr) (cap : Nat) (xs : List Itm) (h : Box w B a cap xs) (j : Nat) (x : Itm) (hx : xs[j]? = some x) (hl : xs.length ≤ 4096) :
    Calls Tryd.prog 36 #[.int .i64 j, .pointer (some ⟨B, 0, none⟩)] w fun e w' => e = .returned (.string x.k) ∧ w = w' := by
  obtain ⟨b, off, rfl, hb, h0, -⟩ := h.its.at_ hx
  have hc := h.cell
  have hlt := (List.getElem?_eq_some_iff.1 hx).1
  obtain ⟨kk, bb, rr⟩ := x
  clear h hx
  simp only at h0
  go_enter Tryd.func36, Tryd.ntmps36
  go_wp2
  go_ret
  exact ⟨rfl, rfl⟩

/-- Is the item at a place of this key? -/
def fndB (xs : List Itm) (key : BA) : Bool := match xs[pos xs key]? with
  | some x => x.k.toList == key.toList
  | none => false
theorem fndB_yes {xs : List Itm} {key : BA} {x : Itm} (h : Fnd xs key x) : fndB xs key = true := by
  unfold fndB
  rw [h.1]
  simp [h.2]
theorem fndB_no {xs : List Itm} {key : BA} (h : Nof xs key) : fndB xs key = false := by
  unfold fndB
  cases hx : xs[pos xs key]? with
  | none => rfl
  | some x =>
    simp only
    rw [beq_eq_false_iff_ne]
    exact fun e => h _ x hx (BA.ext' e)

set_option maxHeartbeats 1600000 in
theorem search_any (w : World) (B : Nat) (a : Option Addr) (cap : Nat) (xs : List Itm) (h : Box w B a cap xs) (hr : Rgt xs) (key : BA) (hk : key.size ≤ 140737488351232) :
    Calls Tryd.prog 35 #[.int .i64 xs.length, .func (.func 36) #[] #[.pointer (some ⟨B, 0, none⟩)], .string key] w fun e w' => e = .returned (.tuple #[.int .i64 (pos xs key : Nat), .bool (fndB xs key)]) ∧ w = w' := by
  have hl := hr.1
  have HK : Hid (∀ (j : Nat) (x : Itm), xs[j]? = some x → Calls Tryd.prog 36 #[.int .i64 j, .pointer (some ⟨B, 0, none⟩)] w fun e w' => e = .returned (.string x.k) ∧ w = w') := Lib.hid (fun j x hx => key_any w B a cap xs h j x hx hl)
  have HR := Lib.hid hr
  have hp := pos_le xs key
  clear h hr
  go_enter Tryd.func35, Tryd.ntmps35
  go_wp2
  go_loop [8, 9] (fun l h => ∃ lo hi : Nat, lo ≤ pos xs key ∧ pos xs key ≤ hi ∧ hi ≤ xs.length ∧ l = .int .i64 lo ∧ h = .int .i64 hi) (fun l h => (intOf h).toNat - (intOf l).toNat)
  case atStart => exact ⟨0, xs.length, by omega, hp, by omega, rfl, rfl⟩
  case round =>
    obtain ⟨lo, hi, h1, h2, h3, rfl, rfl⟩ := hrel
    by_cases hlt : lo < hi
    · obtain ⟨m, hm⟩ : ∃ m : Nat, m = lo + (hi - lo) / 2 := ⟨_, rfl⟩
      have hm2 : (lo : Int) + ((hi : Int) - (lo : Int)) / 2 = (m : Int) := by omega
      have hmh : m < hi := by omega
      have hml : lo ≤ m := by omega
      obtain ⟨x, hx⟩ : ∃ x, xs[m]? = some x := ⟨_, List.getElem?_eq_getElem (by omega)⟩
      have HC := Lib.hid (HK.out m x hx)
      have HX := Lib.hid hx
      clear hx hm
      cases hlx : ltB x.k key with
      | true =>
        have hB : Op.bytesLess x.k.toList key.toList = true := hlx
        have hmp : m < pos xs key := lt_pos_of HR.out HX.out hlx
        clear hlx
        go_wp2_with fail
        refine HC.out.mono ?_
        rintro e w1 ⟨rfl, rfl⟩
        go_wp2
        go_round
        case rel => exact ⟨m + 1, hi, by omega, h2, h3, by go_num, rfl⟩
        case measure => simp [intOf]; omega
      | false =>
        have hB : Op.bytesLess x.k.toList key.toList = false := hlx
        have hmp : pos xs key ≤ m := pos_le_of HX.out hlx
        clear hlx
        go_wp2_with fail
        refine HC.out.mono ?_
        rintro e w1 ⟨rfl, rfl⟩
        go_wp2
        go_round
        case rel => exact ⟨lo, m, h1, hmp, by omega, rfl, rfl⟩
        case measure => simp [intOf]; omega
    · obtain rfl : lo = hi := by omega
      obtain ⟨p, hpp⟩ : ∃ p, p = pos xs key := ⟨_, rfl⟩
      rw [← hpp] at h1 h2 hp ⊢
      obtain rfl : p = lo := by omega
      by_cases hn : p < xs.length
      · obtain ⟨x, hx⟩ : ∃ x, xs[p]? = some x := ⟨_, List.getElem?_eq_getElem hn⟩
        have HC := Lib.hid (HK.out p x hx)
        have HF : Hid (fndB xs key = (x.k.toList == key.toList)) := Lib.hid (by unfold fndB; rw [← hpp, hx])
        have HP := Lib.hid hpp
        clear hx hpp
        go_wp2_with fail
        refine HC.out.mono ?_
        rintro e w1 ⟨rfl, rfl⟩
        go_wp2
        go_ret2
        exact ⟨by rw [HF.out, ← HP.out]; rfl, rfl⟩
      · have HF : Hid (fndB xs key = false) := Lib.hid (by unfold fndB; rw [← hpp, List.getElem?_eq_none (by omega)])
        have HP := Lib.hid hpp
        clear hpp
        go_wp2
        go_ret2
        exact ⟨by rw [HF.out, ← HP.out]; rfl, rfl⟩

set_option maxHeartbeats 1600000 in
theorem place_any (w : World) (a : Option Addr) (cap : Nat) (xs : List Itm) (h : InI w a xs) (hr : Rgt xs) (key : BA) (hk : key.size ≤ 140737488351232) :
    Calls Tryd.prog 27 #[.agg #[.slice a xs.length cap], .string key] w fun e w' => e = .returned (.tuple #[.int .i64 (pos xs key : Nat), .bool (fndB xs key)]) ∧ Below w.heap.size w w' := by
  have hl := hr.1
  have HC := Lib.hid (search_any (w.alloc (.cells #[.slice a xs.length cap] 24)) w.heap.size a cap xs ⟨(row_new w #[.slice a xs.length cap] 24).cell rfl, h.below (below1 _ _)⟩ hr key hk)
  clear h hr
  go_enter Tryd.func27, Tryd.ntmps27
  go_wp2_with fail
  refine HC.out.mono ?_
  rintro e w1 ⟨rfl, rfl⟩
  go_wp2
  go_ret2
  exact ⟨rfl, below1 _ _⟩
end Go.Proofs.YtmaafhhdbhkplaaDoor
