/- The document's At. -/
import Derived.Test.YtmaafhhdbhkplaaDoorRRgt
namespace Go.Proofs.YtmaafhhdbhkplaaDoor
open Go.RowKit

/-- Where a key stands, or -1. -/
def AtPost (xs : List Itm) (key : BA) (w : World) (e : Ending) (w' : World) : Prop := ((∃ (j : Nat) (x : Itm), e = .returned (.int .i64 j) ∧ xs[j]? = some x ∧ x.k = key) ∨ (e = .returned (.int .i64 (-1)) ∧ Nof xs key)) ∧ Below w.heap.size w w'

set_option maxHeartbeats 1600000 in
theorem at_any (w : World) (a : Option Addr) (cap : Nat) (xs : List Itm) (key : BA) (hIn : InI w a xs) (hl : xs.length ≤ 4096) (hk : key.size ≤ 140737488351232) :
    Calls Tryd.prog 22 #[.agg #[.slice a xs.length cap], .string key] w (AtPost xs key w) := by
  have HIN := Lib.hid hIn
  clear hIn
  go_enter Tryd.func22, Tryd.ntmps22
  go_wp2
  go_loopw [10] (fun i wr => ∃ k : Nat, k ≤ xs.length ∧ i = .int .i64 k ∧ Hid (∀ (j : Nat) (x : Itm), j < k → xs[j]? = some x → x.k ≠ key) ∧ Hid (Below (w.heap.size + 1) (w.alloc (.cells #[.slice a xs.length cap] 24)) wr)) (fun i _ => xs.length - (intOf i).toNat)
  case atStart => exact ⟨0, by omega, rfl, Lib.hid (fun j x hj => by omega), Lib.hid (Below.refl _ _)⟩
  case round =>
    obtain ⟨k, hk, rfl, HA, HB⟩ := hrel
    obtain ⟨hcs, hInr, hszr, hbr⟩ := env_of HIN.out HB.out
    have HIR := Lib.hid hInr
    have HBR := Lib.hid hbr
    clear hInr hbr
    by_cases hlt : k < xs.length
    · obtain ⟨x, hx⟩ : ∃ x, xs[k]? = some x := ⟨_, List.getElem?_eq_getElem hlt⟩
      obtain ⟨b, off, rfl, hbl, h0, h1, h2⟩ := HIR.out.at_ hx
      have HX := Lib.hid hx
      clear hx
      by_cases he : x.k = key
      · have hB : (x.k.toList == key.toList) = true := by rw [he]; simp
        have HE := Lib.hid he
        clear he
        obtain ⟨kk, bb, rr⟩ := x
        simp only at h0 h1 h2 hB
        go_wp2
        go_ret
        exact ⟨.inl ⟨k, _, rfl, HX.out, HE.out⟩, below_trans HBR.out (below1 _ _)⟩
      · have hB : (x.k.toList == key.toList) = false := by rw [beq_eq_false_iff_ne]; exact fun h => he (BA.ext' h)
        have HA2 : Hid (∀ (j : Nat) (x : Itm), j < k + 1 → xs[j]? = some x → x.k ≠ key) := Lib.hid (fun j y hj hy => by
          by_cases hjk : j < k
          · exact HA.out j y hjk hy
          · obtain rfl : j = k := by omega
            rw [HX.out] at hy
            obtain rfl := Option.some.inj hy
            exact he)
        clear he
        obtain ⟨kk, bb, rr⟩ := x
        simp only at h0 h1 h2 hB
        go_wp2
        go_roundw
        case rel => exact ⟨k + 1, by omega, by go_num, HA2, Lib.hid (HB.out.trans ((below1 wr _).mono hszr))⟩
        case measure => simp [intOf]; omega
    · have HN : Hid (Nof xs key) := Lib.hid (fun j x hx => HA.out j x (by have := (List.getElem?_eq_some_iff.1 hx).1; omega) hx)
      go_wp2
      go_ret
      exact ⟨.inr ⟨rfl, HN.out⟩, HBR.out⟩
theorem at_fnd (w : World) (a : Option Addr) (cap : Nat) (xs : List Itm) (key : BA) (hIn : InI w a xs) (hr : Rgt xs) (hk : key.size ≤ 140737488351232) {x : Itm} (hf : Fnd xs key x) :
    Calls Tryd.prog 22 #[.agg #[.slice a xs.length cap], .string key] w fun e w' => e = .returned (.int .i64 (pos xs key : Nat)) ∧ Below w.heap.size w w' :=
  (at_any w a cap xs key hIn hr.1 hk).mono fun e w' ⟨h, hb⟩ => ⟨by
    rcases h with ⟨j, y, he, hy, hk⟩ | ⟨-, hn⟩
    · rw [he, hr.uniq hf.1 hy (hf.2.trans hk.symm)]
    · exact absurd hf.2 (hn _ _ hf.1), hb⟩
theorem at_nof (w : World) (a : Option Addr) (cap : Nat) (xs : List Itm) (key : BA) (hIn : InI w a xs) (hr : Rgt xs) (hk : key.size ≤ 140737488351232) (hn : Nof xs key) :
    Calls Tryd.prog 22 #[.agg #[.slice a xs.length cap], .string key] w fun e w' => e = .returned (.int .i64 (-1)) ∧ Below w.heap.size w w' :=
  (at_any w a cap xs key hIn hr.1 hk).mono fun e w' ⟨h, hb⟩ => ⟨by
    rcases h with ⟨j, y, he, hy, hk⟩ | ⟨he, -⟩
    · exact absurd hk (hn _ _ hy)
    · exact he, hb⟩
theorem rright_yes (w : World) (a : Option Addr) (cap : Nat) (xs : List Itm) (h : Rgt xs) (hz : Szs xs) (hIn : InI w a xs) : Calls Tryd.prog 8 #[.agg #[.slice a xs.length cap]] w fun e w' => e = .returned (.bool true) ∧ Below w.heap.size w w' :=
  (rright_any w a cap xs (by have := h.1; omega) hz hIn).mono fun e w' ⟨b, he, hb, hB⟩ => ⟨by rw [he, hb.2 h], hB⟩
theorem rright_no (w : World) (a : Option Addr) (cap : Nat) (xs : List Itm) (h : ¬ Rgt xs) (hl : xs.length ≤ 9223372036854775807) (hz : Szs xs) (hIn : InI w a xs) : Calls Tryd.prog 8 #[.agg #[.slice a xs.length cap]] w fun e w' => e = .returned (.bool false) ∧ Below w.heap.size w w' :=
  (rright_any w a cap xs hl hz hIn).mono fun e w' ⟨b, he, hb, hB⟩ => ⟨by
    cases b with
    | true => exact absurd (hb.1 rfl) h
    | false => exact he, hB⟩
end Go.Proofs.YtmaafhhdbhkplaaDoor
