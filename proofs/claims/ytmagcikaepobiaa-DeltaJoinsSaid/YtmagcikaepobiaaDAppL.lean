/- The law DeltaApplies. -/
import Derived.Test.YtmagcikaepobiaaDRApp
namespace Go.Proofs.Ytmagcikaepobiaa.Dl
open Go.RowKit

theorem InI.few {w : World} {a : Option Addr} {xs : List Opr} (h : InI w a xs) : InI w a (fewL xs) := by
  unfold fewL; split
  · exact h.take 60
  · exact h
/-- What the law's last literal holds. -/
abbrev copyOne : List Opr := [⟨0, 1, ByteArray.empty⟩]
theorem rgB_one : rgB copyOne = true := rgB_mk (by decide) (fun j x hx => by
  match j, hx with
  | 0, hx => obtain rfl := Option.some.inj hx; rfl)
theorem szs_one : Szs copyOne := fun j x hx => by
  match j, hx with
  | 0, hx => obtain rfl := Option.some.inj hx; decide
theorem in_one (w : World) : InI (w.alloc (.cells #[.int .i64 0, .int .i64 1, .string ByteArray.empty] 30)) (some ⟨w.heap.size, 0, none⟩) copyOne := fun _ =>
  ⟨w.heap.size, 0, rfl, by simp, fun j x hx => by
    match j, hx with
    | 0, hx =>
      obtain rfl := Option.some.inj hx
      have R := row_new w #[.int .i64 0, .int .i64 1, .string ByteArray.empty] 30
      exact ⟨R.cell (i := 0) rfl, R.cell (i := 1) rfl, R.cell (i := 2) rfl⟩⟩
theorem right_one (w : World) : Calls Try.prog 12 #[.slice (some ⟨w.heap.size, 0, none⟩) 1 1] (w.alloc (.cells #[.int .i64 0, .int .i64 1, .string ByteArray.empty] 30)) fun e w' => e = .returned (.bool true) ∧ Below w.heap.size w w' :=
  (right_any _ _ 1 copyOne (by decide) szs_one (in_one w)).mono (by
    rintro e w1 ⟨rfl, hb⟩
    exact ⟨ret_bool rgB_one, below_trans (below1 w _) hb⟩)

/-- A delta that was handed in. -/
structure ArgO (w : World) (a : Option Addr) (cap : Nat) (xs : List Opr) : Prop where
  ini : InI w a xs
  szs : Szs xs
  len : xs.length ≤ 9223372036854775807
  capg : xs.length ≤ cap
  capm : cap ≤ 9223372036854775807
  nil : a = none → xs = []
  lenr : xs.length ≤ 140737488351232
theorem few_len {xs : List Opr} : (fewL xs).length ≤ xs.length := by
  unfold fewL; split
  · rw [List.length_take]; omega
  · omega
theorem ArgO.few {w : World} {a : Option Addr} {cap : Nat} {xs : List Opr} (h : ArgO w a cap xs) : ArgO w a cap (fewL xs) :=
  ⟨h.ini.few, h.szs.few, Nat.le_trans few_len h.len, Nat.le_trans few_len h.capg, h.capm, fun e => by rw [h.nil e]; rfl, Nat.le_trans few_len h.lenr⟩
theorem ArgO.below {w w' : World} {a : Option Addr} {cap : Nat} {xs : List Opr} (h : ArgO w a cap xs) (hb : Below w.heap.size w w') : ArgO w' a cap xs := ⟨h.ini.below hb, h.szs, h.len, h.capg, h.capm, h.nil, h.lenr⟩

set_option maxHeartbeats 3200000 in
set_option maxRecDepth 100000 in
theorem applies_any (w : World) (old : BA) (a : Option Addr) (cap : Nat) (xs : List Opr) (most : Int) (ho : old.size ≤ 140737488351232) (hx : ArgO w a cap xs) :
    Calls Try.prog 3 #[.string old, .slice a xs.length cap, .int .i64 most] w fun e w' => e = .returned (.bool true) ∧ Below w.heap.size w w' := by
  have HF := Lib.hid (few_any w a cap xs hx.len hx.capg hx.capm hx.nil)
  have hy := hx.few
  generalize fewL xs = ys at hy HF
  have HY : Hid (∀ w', Below w.heap.size w w' → ArgO w' a cap ys) := Lib.hid (fun w' hb => hy.below hb)
  clear hx hy
  go_enter Try.func3, Try.ntmps3
  go_wp2_with fail
  refine HF.out.mono ?_
  rintro e w1 ⟨rfl, rfl⟩
  have Y0 := HY.out _ (Below.refl _ _)
  have HA1 := Lib.hid (apply_any w old a cap ys most ho Y0.len Y0.szs Y0.ini)
  clear Y0
  go_wp2_with fail
  refine HA1.out.mono ?_
  rintro e w1 ⟨rfl, hb1⟩
  have HB1 := Lib.hid hb1
  clear hb1 HA1
  have Y1 := HY.out _ HB1.out
  have HA2 := Lib.hid (rapply_any w1 old a cap ys most ho Y1.len Y1.szs Y1.ini)
  clear Y1
  generalize appF old ys most = r at *
  obtain ⟨rs, re⟩ := r
  simp only at HA2 ⊢
  go_wp2_with fail
  refine HA2.out.mono ?_
  rintro e w2 ⟨rfl, hb2⟩
  have HB2 := Lib.hid (below_trans HB1.out hb2)
  clear hb2 HA2 HB1
  have Y2 := HY.out _ HB2.out
  have HA3 := Lib.hid (rright_any w2 a cap ys Y2.len Y2.szs Y2.ini)
  clear Y2
  go_wp2_with fail
  refine HA3.out.mono ?_
  rintro e w3 ⟨rfl, hb3⟩
  have HB3 := Lib.hid (below_trans HB2.out hb3)
  clear hb3 HA3 HB2
  have Y3 := HY.out _ HB3.out
  cases hr : rgB ys with
  | true =>
    have HZ := Lib.hid (szA_yes hr)
    have HR := Lib.hid hr
    have HA4 := Lib.hid (rsize_any w3 a cap ys Y3.ini hr)
    clear Y3 hr
    go_wp2_with fail
    refine HA4.out.mono ?_
    rintro e w4 ⟨rfl, hb4⟩
    have HB4 := Lib.hid (below_trans HB3.out hb4)
    clear hb4 HA4 HB3
    have Y4 := HY.out _ HB4.out
    have HA5 := Lib.hid (right_any w4 a cap ys Y4.len Y4.szs Y4.ini)
    clear Y4
    go_wp2_with fail
    refine HA5.out.mono ?_
    rintro e w5 ⟨rfl, hb5⟩
    rw [HR.out]
    have HB5 := Lib.hid (below_trans HB4.out hb5)
    clear hb5 HA5 HB4
    have Y5 := HY.out _ HB5.out
    have HA6 := Lib.hid (rright_any w5 a cap ys Y5.len Y5.szs Y5.ini)
    clear Y5
    go_wp2_with fail
    refine HA6.out.mono ?_
    rintro e w6 ⟨rfl, hb6⟩
    rw [HR.out]
    have HB6 := Lib.hid (below_trans HB5.out hb6)
    clear hb6 HA6 HB5
    have Y6 := HY.out _ HB6.out
    have HA7 := Lib.hid (size_any w6 a cap ys Y6.len Y6.szs Y6.ini)
    clear Y6
    go_wp2_with fail
    refine HA7.out.mono ?_
    rintro e w7 ⟨rfl, hb7⟩
    rw [HZ.out]
    have HB7 := Lib.hid (below_trans HB6.out hb7)
    clear hb7 HA7 HB6
    go_wp2_with fail
    refine (right_one w7).mono ?_
    rintro e w8 ⟨rfl, hb8⟩
    have HB8 := Lib.hid (below_trans HB7.out hb8)
    clear hb8 HB7
    go_wp2
    go_ret
    exact ⟨by simp, HB8.out⟩
  | false =>
    have HZ := Lib.hid (szA_no hr)
    have HR := Lib.hid hr
    clear hr
    have HA5 := Lib.hid (right_any w3 a cap ys Y3.len Y3.szs Y3.ini)
    clear Y3
    go_wp2_with fail
    refine HA5.out.mono ?_
    rintro e w5 ⟨rfl, hb5⟩
    rw [HR.out]
    have HB5 := Lib.hid (below_trans HB3.out hb5)
    clear hb5 HA5 HB3
    have Y5 := HY.out _ HB5.out
    have HA6 := Lib.hid (rright_any w5 a cap ys Y5.len Y5.szs Y5.ini)
    clear Y5
    go_wp2_with fail
    refine HA6.out.mono ?_
    rintro e w6 ⟨rfl, hb6⟩
    rw [HR.out]
    have HB6 := Lib.hid (below_trans HB5.out hb6)
    clear hb6 HA6 HB5
    have Y6 := HY.out _ HB6.out
    have HA7 := Lib.hid (size_any w6 a cap ys Y6.len Y6.szs Y6.ini)
    clear Y6
    go_wp2_with fail
    refine HA7.out.mono ?_
    rintro e w7 ⟨rfl, hb7⟩
    rw [HZ.out]
    have HB7 := Lib.hid (below_trans HB6.out hb7)
    clear hb7 HA7 HB6
    go_wp2_with fail
    refine (right_one w7).mono ?_
    rintro e w8 ⟨rfl, hb8⟩
    have HB8 := Lib.hid (below_trans HB7.out hb8)
    clear hb8 HB7
    go_wp2
    go_ret
    exact ⟨by simp, HB8.out⟩
end Go.Proofs.Ytmagcikaepobiaa.Dl
