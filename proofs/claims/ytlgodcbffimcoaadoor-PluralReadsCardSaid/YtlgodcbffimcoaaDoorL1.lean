/- One is one in English; the law PluralTables. -/
import Derived.Test.YtlgodcbffimcoaaDoorMt
namespace Go.Proofs.YtlgodcbffimcoaaDoor
open Go.RowKit

theorem cat_en_one : catF ⟨#[101, 110]⟩ 1 = ⟨#[111, 110, 101]⟩ := by
  unfold catF
  rw [show tabF ⟨#[101, 110]⟩ = tab_en by decide]
  show (if hB (parseF t0).1 1 then (⟨#[111, 110, 101]⟩ : BA) else _) = _
  rw [t0_h 1 1 rfl]; rfl
theorem catL_abs {n m : Int} (h : absF n = absF m) : ∀ (l : List (BA × Rule)), catL l n = catL l m
  | [] => rfl
  | x :: r => by
    rw [catL, catL, catL_abs h r, hB, hB, h]
theorem catF_abs {n m : Int} (h : absF n = absF m) (g : BA) : catF g n = catF g m := catL_abs h _

set_option maxHeartbeats 1600000 in
theorem alive_any (w : World) (ht : TabW w) : Calls Tryd.prog 11 #[] w fun e w' => e = .returned (.bool true) ∧ Below w.heap.size w w' := by
  have HC := Lib.hid (category_any w ⟨#[101, 110]⟩ 1 (by decide) (by decide) ht)
  rw [cat_en_one] at HC
  clear ht
  go_enter Tryd.func11, Tryd.ntmps11
  go_wp2_with fail
  refine HC.out.mono ?_
  rintro e w5 ⟨rfl, hb5⟩
  go_wp2
  go_ret
  exact ⟨rfl, hb5⟩

theorem wrap_i64_neg {n : Int} (h1 : -9223372036854775808 ≤ n) (h2 : n ≤ 9223372036854775807) : -9223372036854775808 ≤ wrap64 (-n) ∧ wrap64 (-n) ≤ 9223372036854775807 ∧ absF (wrap64 (-n)) = absF n := by
  have : wrap64 (-n) = if n = -9223372036854775808 then n else -n := by
    split
    · unfold wrap64; omega
    · unfold wrap64; omega
  rw [this]
  unfold absF
  split <;> split <;> (try split) <;> omega
theorem tab_ar_len : (tabF ⟨#[97, 114]⟩).length = 5 := by decide

set_option maxHeartbeats 1600000 in
set_option maxRecDepth 100000 in
theorem tables_any (w : World) (g : BA) (n : Int) (h1 : -9223372036854775808 ≤ n) (h2 : n ≤ 9223372036854775807) (ht : TabW w) :
    Calls Tryd.prog 8 #[.string g, .int .i64 n] w fun e w' => e = .returned (.bool true) ∧ Below w.heap.size w w' := by
  have HT := Lib.hid ht
  have HTB := Lib.hid (table_any w g ht)
  have HH := Lib.hid (fun (w : World) (a : Option Addr) (cap : Nat) (xs : Rule) (h : SlW w (Old w) (.slice a xs.length cap) xs) => holds_any w a cap xs n h1 h2 h)
  obtain ⟨hn1, hn2, hn3⟩ := wrap_i64_neg h1 h2
  have HCT : Hid (∀ w, TabW w → Calls Tryd.prog 19 #[.string g, .int .i64 n] w fun e w' => e = .returned (.string (catL (catsOf (tabF g)) n)) ∧ Below w.heap.size w w') := Lib.hid (fun w h => category_any w g n h1 h2 h)
  have HCN : Hid (∀ w, TabW w → Calls Tryd.prog 19 #[.string g, .int .i64 (wrap64 (-n))] w fun e w' => e = .returned (.string (catL (catsOf (tabF g)) n)) ∧ Below w.heap.size w w') := Lib.hid (fun w h => by
    have := category_any w g _ hn1 hn2 h
    rwa [catF_abs hn3] at this)
  clear h1 h2 ht hn1 hn2 hn3
  go_enter Tryd.func8, Tryd.ntmps8
  go_wp2_with fail
  refine HTB.out.mono ?_
  rintro e w1 ⟨a, cap, rfl, hsl, hb1⟩
  have HIN := Lib.hid hsl
  have HB1 := Lib.hid hb1
  rw [← cats_len]
  clear hsl hb1 HTB
  generalize catsOf (tabF g) = xs at *
  obtain ⟨a', cap', hv, hl, hm⟩ := HIN.out.form
  injection hv with hv1 hv2 hv3
  subst hv1; subst hv3
  clear hv2
  go_wp2
  go_loopw [5, 11] (fun u v wr => ∃ k : Nat, k ≤ xs.length ∧ v = .int .i64 k ∧ u = .string ⟨#[111, 116, 104, 101, 114]⟩ ∧ Hid (∀ (j : Nat) (y : BA × Rule), j < k → xs[j]? = some y → hB y.2 n = false) ∧ Hid (Below w1.heap.size w1 wr)) (fun _ v _ => xs.length - (intOf v).toNat)
  case atStart => exact ⟨0, by omega, rfl, rfl, Lib.hid (fun j x hj => by omega), Lib.hid (Below.refl _ _)⟩
  case round =>
    obtain ⟨k, hk, rfl, rfl, HA, HB⟩ := hrel
    by_cases hlt : k < xs.length
    · obtain ⟨x, hx⟩ : ∃ x, xs[k]? = some x := ⟨_, List.getElem?_eq_getElem hlt⟩
      obtain ⟨b, off, rfl, hb, hat⟩ := (HIN.out.below HB.out).at_ hx
      have HX := Lib.hid hx
      clear hx
      obtain ⟨h0, a1, p1, h9, hsl⟩ := hat.c
      obtain ⟨nm, rl⟩ := x
      simp only at h0 h9 hsl
      obtain ⟨m, HL⟩ : ∃ m, Hid (m = rl.length) := ⟨_, Lib.hid rfl⟩
      rw [← HL.out] at h9
      have HR := Lib.hid (row_new wr #[.string nm, .slice a1 m p1] 40)
      have c0 := HR.out.cell (i := 0) rfl
      have c1 := HR.out.cell (i := 1) rfl
      have HC1 := Lib.hid (HH.out (wr.alloc (.cells #[.string nm, .slice a1 m p1] 40)) a1 p1 rl (hsl.below (below1 _ _)))
      rw [← HL.out] at HC1
      clear hsl hat
      go_wp2_with fail
      refine HC1.out.mono ?_
      rintro e w5 ⟨rfl, hb5⟩
      have HB5 := Lib.hid (below_trans HB.out (below_trans (below1 _ _) hb5))
      have HR5 := Lib.hid (HR.out.below hb5)
      have HHB : Hid (hB rl n = (rgRule rl && hoRule rl (absF n))) := Lib.hid rfl
      rw [← HHB.out]
      clear hb5 c0 c1 HC1
      have c0 := HR5.out.cell (i := 0) rfl
      cases hc : hB rl n with
      | true =>
        have HE := Lib.hid (catL_hit HA.out HX.out hc)
        have HBX := Lib.hid (below_trans HB1.out HB5.out)
        have HX0 := HX
        clear hc
        clear HX0
        have HTW5 := Lib.hid (HT.out.below HBX.out)
        have HAL := Lib.hid (alive_any _ HTW5.out)
        go_wp2_with fail
        refine HAL.out.mono ?_
        rintro e w6 ⟨rfl, hb6⟩
        have HB6 := Lib.hid (below_trans HBX.out hb6)
        have HAR := Lib.hid (table_any w6 ⟨#[97, 114]⟩ (HTW5.out.below hb6))
        clear hb6 HAL
        go_wp2_with fail
        refine HAR.out.mono ?_
        rintro e w7 ⟨a7, p7, rfl, -, hb7⟩
        have HB7 := Lib.hid (below_trans HB6.out hb7)
        have HC7 := Lib.hid (HCT.out w7 (HT.out.below HB7.out))
        rw [tab_ar_len]
        clear hb7 HAR
        go_wp2_with fail
        refine HC7.out.mono ?_
        rintro e w8 ⟨rfl, hb8⟩
        have HB8 := Lib.hid (below_trans HB7.out hb8)
        have HC8 := Lib.hid (HCN.out w8 (HT.out.below HB8.out))
        clear hb8 HC7
        rw [HE.out]
        go_wp2_with fail
        refine HC8.out.mono ?_
        rintro e w9 ⟨rfl, hb9⟩
        have HB9 := Lib.hid (below_trans HB8.out hb9)
        clear hb9 HC8
        rw [HE.out]
        go_wp2
        go_ret
        exact ⟨rfl, HB9.out⟩
      | false =>
        have HE := Lib.hid hc
        clear hc
        go_wp2
        go_roundw
        case rel => exact ⟨k + 1, by omega, by go_num, rfl, Lib.hid (fun j y hj hy => by
          by_cases hjk : j < k
          · exact HA.out j y hjk hy
          · obtain rfl : j = k := by omega
            rw [HX.out] at hy; obtain rfl := Option.some.inj hy; exact HE.out), HB5⟩
        case measure => simp [intOf]; omega
    · have HE := Lib.hid (catL_miss (l := xs) (n := n) (fun j x hx => HA.out j x (by have := (List.getElem?_eq_some_iff.1 hx).1; omega) hx))
      have HBX := Lib.hid (below_trans HB1.out HB.out)
      have HX0 := HBX
      clear HX0
      have HTW5 := Lib.hid (HT.out.below HBX.out)
      have HAL := Lib.hid (alive_any _ HTW5.out)
      go_wp2_with fail
      refine HAL.out.mono ?_
      rintro e w6 ⟨rfl, hb6⟩
      have HB6 := Lib.hid (below_trans HBX.out hb6)
      have HAR := Lib.hid (table_any w6 ⟨#[97, 114]⟩ (HTW5.out.below hb6))
      clear hb6 HAL
      go_wp2_with fail
      refine HAR.out.mono ?_
      rintro e w7 ⟨a7, p7, rfl, -, hb7⟩
      have HB7 := Lib.hid (below_trans HB6.out hb7)
      have HC7 := Lib.hid (HCT.out w7 (HT.out.below HB7.out))
      rw [tab_ar_len]
      clear hb7 HAR
      go_wp2_with fail
      refine HC7.out.mono ?_
      rintro e w8 ⟨rfl, hb8⟩
      have HB8 := Lib.hid (below_trans HB7.out hb8)
      have HC8 := Lib.hid (HCN.out w8 (HT.out.below HB8.out))
      clear hb8 HC7
      rw [HE.out]
      go_wp2_with fail
      refine HC8.out.mono ?_
      rintro e w9 ⟨rfl, hb9⟩
      have HB9 := Lib.hid (below_trans HB8.out hb9)
      clear hb9 HC8
      rw [HE.out]
      go_wp2
      go_ret
      exact ⟨rfl, HB9.out⟩
end Go.Proofs.YtlgodcbffimcoaaDoor
