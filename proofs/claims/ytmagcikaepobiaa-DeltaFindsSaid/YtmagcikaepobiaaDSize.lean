/- Size, by package delta and by the document. -/
import Derived.Test.YtmagcikaepobiaaDRight
namespace Go.Proofs.Ytmagcikaepobiaa.Dl
open Go.RowKit

/-- What Size answers. -/
def szA (xs : List Opr) : Int := if rgB xs then (szF xs : Int) else 0
theorem szA_yes {xs : List Opr} (h : rgB xs = true) : szA xs = (szF xs : Int) := by unfold szA; rw [if_pos h]
theorem szA_no {xs : List Opr} (h : rgB xs = false) : szA xs = 0 := by unfold szA; rw [h]; rfl

set_option maxHeartbeats 3200000 in
set_option maxRecDepth 100000 in
theorem rsize_any (w : World) (a : Option Addr) (cap : Nat) (xs : List Opr) (hIn : InI w a xs) (hr : rgB xs = true) :
    Calls Try.prog 11 #[.slice a xs.length cap] w fun e w' => e = .returned (.int .i64 (szF xs)) ∧ Below w.heap.size w w' := by
  have HIN := Lib.hid hIn
  obtain ⟨hxl, hok⟩ := rgB_true hr
  have HOK := Lib.hid hok
  clear hIn hr hok
  go_enter Try.func11, Try.ntmps11
  go_wp2
  go_loopw [3, 8] (fun s i wr => ∃ k z : Nat, k ≤ xs.length ∧ i = .int .i64 k ∧ s = .int .i64 z ∧ z ≤ k * 131080 ∧ Hid (z = szF (xs.take k)) ∧ Hid (Below w.heap.size w wr)) (fun _ i _ => xs.length - (intOf i).toNat)
  case atStart => exact ⟨0, 0, by omega, rfl, rfl, by omega, Lib.hid rfl, Lib.hid (Below.refl _ _)⟩
  case round =>
    obtain ⟨k, z, hk, rfl, rfl, hzk, HS, HB⟩ := hrel
    by_cases hlt : k < xs.length
    · obtain ⟨x, hx⟩ : ∃ x, xs[k]? = some x := ⟨_, List.getElem?_eq_getElem hlt⟩
      obtain ⟨b, off, rfl, hbl, h0, h1, h2⟩ := (HIN.out.below HB.out).at_ hx
      have hzx := okB_size (HOK.out k x hx)
      have HX := Lib.hid hx
      clear hx
      obtain ⟨Q3, HE1⟩ := op_box wr x
      obtain ⟨f, n, t⟩ := x
      simp only at h0 h1 h2 Q3 HE1 hzx
      have c0 := Q3.out.cell (i := 0) rfl
      have c1 := Q3.out.cell (i := 1) rfl
      have c2 := Q3.out.cell (i := 2) rfl
      go_wp2
      go_roundw
      case rel => exact ⟨k + 1, z + (8 + t.size), by omega, by go_num, by go_num, by omega, Lib.hid (by rw [szF_take HX.out, HS.out]), Lib.hid (below_trans HB.out HE1.out)⟩
      case measure => simp [intOf]; omega
    · have HE : Hid (z = szF xs) := Lib.hid (by rw [HS.out, List.take_of_length_le (by omega)])
      go_wp2
      go_ret
      exact ⟨ret_int (by rw [HE.out]), HB.out⟩

set_option maxHeartbeats 3200000 in
set_option maxRecDepth 100000 in
theorem size_any (w : World) (a : Option Addr) (cap : Nat) (xs : List Opr) (hxl : xs.length ≤ 9223372036854775807) (hz : Szs xs) (hIn : InI w a xs) :
    Calls Try.prog 13 #[.slice a xs.length cap] w fun e w' => e = .returned (.int .i64 (szA xs)) ∧ Below w.heap.size w w' := by
  have HC := Lib.hid (right_any w a cap xs hxl hz hIn)
  have HIN := Lib.hid hIn
  clear hIn hz
  go_enter Try.func13, Try.ntmps13
  go_wp2_with fail
  refine HC.out.mono ?_
  rintro e w1 ⟨rfl, hb1⟩
  have HB1 := Lib.hid hb1
  clear hb1
  cases hr : rgB xs with
  | false =>
    have HR := Lib.hid (szA_no hr)
    clear hr
    go_wp2
    go_ret
    exact ⟨ret_int HR.out.symm, HB1.out⟩
  | true =>
    obtain ⟨hxl2, hok⟩ := rgB_true hr
    have HOK := Lib.hid hok
    have HSA := Lib.hid (szA_yes hr)
    clear hok hr
    go_wp2
    go_loopw [3, 11] (fun s i wr => ∃ k z : Nat, k ≤ xs.length ∧ i = .int .i64 k ∧ s = .int .i64 z ∧ z ≤ k * 131080 ∧ Hid (z = szF (xs.take k)) ∧ Hid (Below w.heap.size w wr)) (fun _ i _ => xs.length - (intOf i).toNat)
    case atStart => exact ⟨0, 0, by omega, rfl, rfl, by omega, Lib.hid rfl, HB1⟩
    case round =>
      obtain ⟨k, z, hk, rfl, rfl, hzk, HS, HB⟩ := hrel
      by_cases hlt : k < xs.length
      · obtain ⟨x, hx⟩ : ∃ x, xs[k]? = some x := ⟨_, List.getElem?_eq_getElem hlt⟩
        obtain ⟨b, off, rfl, hbl, h0, h1, h2⟩ := (HIN.out.below HB.out).at_ hx
        have hzx := okB_size (HOK.out k x hx)
        have HX := Lib.hid hx
        clear hx
        obtain ⟨Q3, HE1⟩ := op_box wr x
        obtain ⟨f, n, t⟩ := x
        simp only at h0 h1 h2 Q3 HE1 hzx
        have c0 := Q3.out.cell (i := 0) rfl
        have c1 := Q3.out.cell (i := 1) rfl
        have c2 := Q3.out.cell (i := 2) rfl
        go_wp2
        go_roundw
        case rel => exact ⟨k + 1, z + (8 + t.size), by omega, by go_num, by go_num, by omega, Lib.hid (by rw [szF_take HX.out, HS.out]), Lib.hid (below_trans HB.out HE1.out)⟩
        case measure => simp [intOf]; omega
      · have HE : Hid (z = szF xs) := Lib.hid (by rw [HS.out, List.take_of_length_le (by omega)])
        go_wp2
        go_ret
        exact ⟨ret_int (by rw [HSA.out, HE.out]), HB.out⟩
end Go.Proofs.Ytmagcikaepobiaa.Dl
