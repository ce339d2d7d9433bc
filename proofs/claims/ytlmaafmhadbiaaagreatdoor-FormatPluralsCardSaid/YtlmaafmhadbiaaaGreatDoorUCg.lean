/- Category. -/
import Derived.Test.YtlmaafmhadbiaaaGreatDoorUTb
namespace Go.Proofs.YtlmaafmhadbiaaaGreatDoor.Pu
open Go.RowKit

/-- Whether a rule holds of a number. -/
def hB (r : Rule) (n : Int) : Bool := rgRule r && hoRule r (absF n)
def catL : List (BA × Rule) → Int → BA
  | [], _ => ⟨#[111, 116, 104, 101, 114]⟩
  | x :: r, n => if hB x.2 n then x.1 else catL r n
/-- What Category answers. -/
def catF (g : BA) (n : Int) : BA := catL (catsOf (tabF g)) n
theorem catL_hit : ∀ {l : List (BA × Rule)} {n : Int} {k : Nat} {x : BA × Rule}, (∀ (j : Nat) (y : BA × Rule), j < k → l[j]? = some y → hB y.2 n = false) → l[k]? = some x → hB x.2 n = true → catL l n = x.1
  | [], _, k, x, _, h, _ => by simp at h
  | y :: r, n, 0, x, _, h, hx => by
    obtain rfl : y = x := by simpa using h
    rw [catL, if_pos hx]
  | y :: r, n, k + 1, x, ha, h, hx => by
    have h0 := ha 0 y (by omega) rfl
    rw [catL, h0, if_neg (by simp)]
    exact catL_hit (k := k) (fun j z hj hz => ha (j + 1) z (by omega) (by simpa using hz)) (by simpa using h) hx
theorem catL_miss : ∀ {l : List (BA × Rule)} {n : Int}, (∀ (j : Nat) (y : BA × Rule), l[j]? = some y → hB y.2 n = false) → catL l n = ⟨#[111, 116, 104, 101, 114]⟩
  | [], _, _ => rfl
  | y :: r, n, ha => by
    have h0 := ha 0 y rfl
    rw [catL, h0, if_neg (by simp)]
    exact catL_miss (fun j z hz => ha (j + 1) z (by simpa using hz))
theorem cats_len (g : BA) : (catsOf (tabF g)).length = (tabF g).length := by simp [catsOf]

set_option maxHeartbeats 3200000 in
set_option maxRecDepth 100000 in
theorem category_any (w : World) (g : BA) (n : Int) (h1 : -9223372036854775808 ≤ n) (h2 : n ≤ 9223372036854775807) (ht : TabW w) :
    Calls Tryz.prog 9 #[.string g, .int .i64 n] w fun e w' => e = .returned (.string (catF g n)) ∧ Below w.heap.size w w' := by
  have HT := Lib.hid (table_any w g ht)
  have HH := Lib.hid (fun (w : World) (a : Option Addr) (cap : Nat) (xs : Rule) (h : SlW w (Old w) (.slice a xs.length cap) xs) => holds_any w a cap xs n h1 h2 h)
  have HF : Hid (catF g n = catL (catsOf (tabF g)) n) := Lib.hid rfl
  clear h1 h2 ht
  go_enter Tryz.func9, Tryz.ntmps9
  go_wp2_with fail
  refine HT.out.mono ?_
  rintro e w1 ⟨a, cap, rfl, hsl, hb1⟩
  have HIN := Lib.hid hsl
  have HB1 := Lib.hid hb1
  rw [← cats_len]
  clear hsl hb1 HT
  generalize catsOf (tabF g) = xs at *
  obtain ⟨a', cap', hv, hl, hm⟩ := HIN.out.form
  injection hv with hv1 hv2 hv3
  subst hv1; subst hv3
  clear hv2
  go_wp2
  go_loopw [10] (fun v wr => ∃ k : Nat, k ≤ xs.length ∧ v = .int .i64 k ∧ Hid (∀ (j : Nat) (y : BA × Rule), j < k → xs[j]? = some y → hB y.2 n = false) ∧ Hid (Below w1.heap.size w1 wr)) (fun v _ => xs.length - (intOf v).toNat)
  case atStart => exact ⟨0, by omega, rfl, Lib.hid (fun j x hj => by omega), Lib.hid (Below.refl _ _)⟩
  case round =>
    obtain ⟨k, hk, rfl, HA, HB⟩ := hrel
    by_cases hlt : k < xs.length
    · obtain ⟨x, hx⟩ : ∃ x, xs[k]? = some x := ⟨_, List.getElem?_eq_getElem hlt⟩
      obtain ⟨b, off, rfl, hb, hat⟩ := (HIN.out.below HB.out).at_ hx
      have HX := Lib.hid hx
      clear hx
      obtain ⟨h0, a1, p1, h9, hsl⟩ := hat.c
      obtain ⟨nm, rl⟩ := x
      simp only at h0 h9 hsl
      obtain ⟨m, HL⟩ : ∃ m, Hid (m = rl.length) := ⟨_, Lib.hid rfl⟩
      rw [← HL.out] at h9
      have HR := Lib.hid (row_new wr #[.string nm, .slice a1 m p1] 52)
      have c0 := HR.out.cell (i := 0) rfl
      have c1 := HR.out.cell (i := 1) rfl
      have HC1 := Lib.hid (HH.out (wr.alloc (.cells #[.string nm, .slice a1 m p1] 52)) a1 p1 rl (hsl.below (below1 _ _)))
      rw [← HL.out] at HC1
      clear hsl hat
      go_wp2_with fail
      refine HC1.out.mono ?_
      rintro e w5 ⟨rfl, hb5⟩
      have HB5 := Lib.hid (below_trans HB.out (below_trans (below1 _ _) hb5))
      have HR5 := Lib.hid (HR.out.below hb5)
      have HHB : Hid (hB rl n = (rgRule rl && hoRule rl (absF n))) := Lib.hid rfl
      rw [← HHB.out]
      clear hb5 c0 c1 HC1
      have c0 := HR5.out.cell (i := 0) rfl
      cases hc : hB rl n with
      | true =>
        have HE := Lib.hid (catL_hit HA.out HX.out hc)
        clear hc
        go_wp2
        go_ret
        exact ⟨by rw [HF.out, HE.out]; rfl, below_trans HB1.out HB5.out⟩
      | false =>
        have HE := Lib.hid hc
        clear hc
        go_wp2
        go_roundw
        case rel => exact ⟨k + 1, by omega, by go_num, Lib.hid (fun j y hj hy => by
          by_cases hjk : j < k
          · exact HA.out j y hjk hy
          · obtain rfl : j = k := by omega
            rw [HX.out] at hy; obtain rfl := Option.some.inj hy; exact HE.out), HB5⟩
        case measure => simp [intOf]; omega
    · have HE := Lib.hid (catL_miss (l := xs) (n := n) (fun j x hx => HA.out j x (by have := (List.getElem?_eq_some_iff.1 hx).1; omega) hx))
      go_wp2
      go_ret
      exact ⟨by rw [HF.out, HE.out]; rfl, below_trans HB1.out HB.out⟩
end Go.Proofs.YtlmaafmhadbiaaaGreatDoor.Pu
