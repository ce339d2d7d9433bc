/- Right: what is valid. -/
import Derived.Deep.QuietTactic
import Derived.BigQuiet
import Derived.Test.YtdnedbcmgkilaaaGreatDoorZSg17

namespace Go.Proofs.YtdnedbcmgkilaaaGreatDoor.Pu
set_option maxHeartbeats 3200000
set_option maxRecDepth 100000
open Go.Lib (hid)
open Go.RowKit
theorem Sl.at_ {α : Type} {k : Nat} {C : α -> List Value -> Prop} {w : World} {S : Nat -> Prop} {a : Option Addr} {n cap : Nat} {xs : List α} (h : Sl k C w S (.slice a n cap) xs) {j : Nat} {x : α} (hj : xs[j]? = some x) : ∃ b off, a = some ⟨b, off, none⟩ /\ S b /\ At k C w b (off + j * k) x := by
 obtain ⟨a', cap', hv, -, -, hx⟩ := h
 injection hv with h1 h2 h3
 subst h1
 obtain ⟨b, off, ha, hb, hat⟩ := hx (by intro e; subst e; simp at hj)
 exact ⟨b, off, ha, hb, hat j x hj⟩
theorem Sl.form {α : Type} {k : Nat} {C : α -> List Value -> Prop} {w : World} {S : Nat -> Prop} {v : Value} {xs : List α} (h : Sl k C w S v xs) : ∃ a cap, v = .slice a xs.length cap /\ xs.length <= cap /\ cap <= 9223372036854775807 := by
 obtain ⟨a, cap, hv, hl, hm, -⟩ := h
 exact ⟨a, cap, hv, hl, hm⟩
theorem At.s {w : World} {b o : Nat} {x : Sp} (h : At 2 CS w b o x) : w.cell? ⟨b, o, none⟩ = some (.int .i64 x.lo) /\ w.cell? ⟨b, o + 1, none⟩ = some (.int .i64 x.hi) := by
 obtain ⟨cs, -, rfl, hc⟩ := h
 exact ⟨hc 0 _ rfl, hc 1 _ rfl⟩
theorem At.r {w : World} {S : Nat -> Prop} {b o : Nat} {x : Rl} (h : At 3 (CR w S) w b o x) : w.cell? ⟨b, o, none⟩ = some (.int .i64 x.m) /\ w.cell? ⟨b, o + 1, none⟩ = some (.bool x.neg) /\ ∃ a cap, w.cell? ⟨b, o + 2, none⟩ = some (.slice a x.sp.length cap) /\ SlS w S (.slice a x.sp.length cap) x.sp := by
 obtain ⟨cs, -, ⟨v, rfl, hv⟩, hc⟩ := h
 obtain ⟨a, cap, rfl, -⟩ := hv.form
 exact ⟨hc 0 _ rfl, hc 1 _ rfl, a, cap, hc 2 _ rfl, hv⟩
theorem At.w {w : World} {S : Nat -> Prop} {b o : Nat} {x : List Rl} (h : At 1 (CW w S) w b o x) : ∃ a cap, w.cell? ⟨b, o, none⟩ = some (.slice a x.length cap) /\ SlR w S (.slice a x.length cap) x := by
 obtain ⟨cs, -, ⟨v, rfl, hv⟩, hc⟩ := h
 obtain ⟨a, cap, rfl, -⟩ := hv.form
 exact ⟨a, cap, hc 0 _ rfl, hv⟩
theorem At.c {w : World} {S : Nat -> Prop} {b o : Nat} {x : ByteArray × Rule} (h : At 2 (CC w S) w b o x) : w.cell? ⟨b, o, none⟩ = some (.string x.1) /\ ∃ a cap, w.cell? ⟨b, o + 1, none⟩ = some (.slice a x.2.length cap) /\ SlW w S (.slice a x.2.length cap) x.2 := by
 obtain ⟨cs, -, ⟨v, rfl, hv⟩, hc⟩ := h
 obtain ⟨a, cap, rfl, -⟩ := hv.form
 exact ⟨hc 0 _ rfl, a, cap, hc 1 _ rfl, hv⟩
theorem z4g {α : Type} {f : α -> Bool} {l : List α} (h : ¬ (1 <= l.length /\ l.length <= 10)) : allR f l = false := by unfold allR; rw [decide_eq_false h]; rfl
theorem zdj {α : Type} {f : α -> Bool} {l : List α} (h1 : 1 <= l.length) (h2 : l.length <= 10) (h : ∀ (j : Nat) (x : α), l[j]? = some x -> f x = true) : allR f l = true := by
 unfold allR; rw [decide_eq_true ⟨h1, h2⟩, Bool.true_and, List.all_eq_true]
 intro x hx
 obtain ⟨j, hj⟩ := List.mem_iff_getElem?.1 hx
 exact h j x hj
theorem za1 {α : Type} {f : α -> Bool} {l : List α} {j : Nat} {x : α} (hj : l[j]? = some x) (h : f x = false) : allR f l = false := by
 unfold allR
 rw [Bool.and_eq_false_iff]
 right
 rw [List.all_eq_false]
 exact ⟨x, List.mem_iff_getElem?.2 ⟨j, hj⟩, by rw [h]; simp⟩
theorem z8v (x : Sp) (w : World) : Calls Tryz.prog 247 #[.agg #[.int .i64 x.lo, .int .i64 x.hi]] w fun e w' => e = .returned (.bool (rgS x)) /\ Below w.heap.size w w' := by
 obtain ⟨lo, hi⟩ := x
 by_cases h1 : 0 <= lo
 ·by_cases h2 : lo <= hi
  ·by_cases h3 : hi <= 1000000
   all_goals
    have HE : Hid (rgS ⟨lo, hi⟩ = decide (hi <= 1000000)) := hid (by simp [rgS, h1, h2])
    go_enter Tryz.func247, Tryz.ntmps247
    go_wp2
    go_ret
    exact ⟨z01 (by rw [HE.out]; simp [h3]), z02 _ _⟩
  ·have HE : Hid (rgS ⟨lo, hi⟩ = false) := hid (by simp [rgS, h2])
   go_enter Tryz.func247, Tryz.ntmps247
   go_wp2
   go_ret
   exact ⟨z01 HE.out.symm, z02 _ _⟩
 ·have HE : Hid (rgS ⟨lo, hi⟩ = false) := hid (by simp [rgS, h1])
  go_enter Tryz.func247, Tryz.ntmps247
  go_wp2
  go_ret
  exact ⟨z01 HE.out.symm, z02 _ _⟩
theorem zdi (w : World) (a : Option Addr) (cap : Nat) (xs : List (Sp)) (hIn : SlS w (Old w) (.slice a xs.length cap) xs) :
  Calls Tryz.prog 246 #[.slice a xs.length cap, .func (.func 247) #[] #[]] w fun e w' => e = .returned (.bool (allR rgS xs)) /\ Below w.heap.size w w' := by
 have HIN := hid hIn
 clear hIn
 by_cases h1 : xs.length < 1
 ·have HE := hid (z4g (f := rgS) (l := xs) (by omega))
  go_enter Tryz.func246, Tryz.ntmps246
  go_wp2
  go_ret
  exact ⟨z01 HE.out.symm, Below.refl _ _⟩
 by_cases h2 : 10 < xs.length
 ·have HE := hid (z4g (f := rgS) (l := xs) (by omega))
  go_enter Tryz.func246, Tryz.ntmps246
  go_wp2
  go_ret
  exact ⟨z01 HE.out.symm, Below.refl _ _⟩
 go_enter Tryz.func246, Tryz.ntmps246
 go_wp2
 go_loopw [17] (fun i wr => ∃ k : Nat, k <= xs.length /\ i = .int .i64 k /\ Hid (∀ (j : Nat) (x : Sp), j < k -> xs[j]? = some x -> rgS x = true) /\ Hid (Below w.heap.size w wr)) (fun i _ => xs.length - (intOf i).toNat)
 case atStart => exact ⟨0, by omega, rfl, hid (fun j x hj => by omega), hid (Below.refl _ _)⟩
 case round =>
  obtain ⟨k, hk, rfl, HA, HB⟩ := hrel
  by_cases hlt : k < xs.length
  ·obtain ⟨x, hx⟩ : ∃ x, xs[k]? = some x := ⟨_, List.getElem?_eq_getElem hlt⟩
   obtain ⟨b, off, rfl, hb, hat⟩ := (HIN.out.below HB.out).at_ hx
   have HX := hid hx
   clear hx
   obtain ⟨h0, h9⟩ := hat.s
   obtain ⟨lo, hi⟩ := x
   simp only at h0 h9
   have R := z04 wr #[.int .i64 lo, .int .i64 hi] 266
   have c0 := R.cell (i := 0) rfl
   have c1 := R.cell (i := 1) rfl
   clear R
   have HC1 := hid (z8v ⟨lo, hi⟩ (wr.alloc (.cells #[.int .i64 lo, .int .i64 hi] 266)))
   cases hc : rgS ⟨lo, hi⟩ with
   | true =>
    have HE := hid hc
    clear hc
    go_wp2_with fail
    refine HC1.out.mono ?_
    rintro e w5 ⟨rfl, hb5⟩
    rw [HE.out]
    have HB5 := hid (z00 HB.out (z00 (z02 _ _) hb5))
    clear hb5
    go_wp2
    go_roundw
    case rel => exact ⟨k + 1, by omega, by go_num, hid (fun j y hj hy => by
     by_cases hjk : j < k
     ·exact HA.out j y hjk hy
     ·obtain rfl : j = k := by omega
      rw [HX.out] at hy; obtain rfl := Option.some.inj hy; exact HE.out), HB5⟩
    case measure => simp [intOf]; omega
   | false =>
    have HE := hid hc
    have HR : Hid (allR rgS xs = false) := hid (za1 HX.out hc)
    clear hc
    go_wp2_with fail
    refine HC1.out.mono ?_
    rintro e w5 ⟨rfl, hb5⟩
    rw [HE.out]
    have HB5 := hid (z00 HB.out (z00 (z02 _ _) hb5))
    clear hb5
    go_wp2
    go_ret
    exact ⟨z01 HR.out.symm, HB5.out⟩
  ·have HR : Hid (allR rgS xs = true) := hid (zdj (by omega) (by omega) (fun j x hx => HA.out j x (by have := (List.getElem?_eq_some_iff.1 hx).1; omega) hx))
   go_wp2
   go_ret
   exact ⟨z01 HR.out.symm, HB.out⟩
theorem zar (w : World) (m : Int) (ng : Bool) (a : Option Addr) (cap : Nat) (sp : List Sp) (hIn : SlS w (Old w) (.slice a sp.length cap) sp) : Calls Tryz.prog 241 #[.agg #[.int .i64 m, .bool ng, .slice a sp.length cap]] w fun e w' => e = .returned (.bool (rgR ⟨m, ng, sp⟩)) /\ Below w.heap.size w w' := by
 have HIN := hid (hIn.below (z02 w (.cells #[.int .i64 m, .bool ng, .slice a sp.length cap] 245)))
 clear hIn
 have HC := hid (zdi _ a cap sp HIN.out)
 by_cases h1 : 0 <= m
 ·by_cases h2 : m = 1
  ·have HE : Hid (rgR ⟨m, ng, sp⟩ = false) := hid (by simp [rgR, h2])
   subst h2
   go_enter Tryz.func241, Tryz.ntmps241
   go_wp2
   go_ret
   exact ⟨z01 HE.out.symm, z02 _ _⟩
  ·by_cases h3 : m <= 1000000
   ·have HE : Hid (rgR ⟨m, ng, sp⟩ = allR rgS sp) := hid (by simp [rgR, h1, h2, h3])
    have hB : (m != 1) = true := by simpa using h2
    clear h2
    go_enter Tryz.func241, Tryz.ntmps241
    go_wp2_with fail
    refine HC.out.mono ?_
    rintro e w5 ⟨rfl, hb5⟩
    have HB := hid (z00 (z02 _ _) hb5)
    clear hb5
    go_wp2
    go_ret
    exact ⟨z01 HE.out.symm, HB.out⟩
   ·have HE : Hid (rgR ⟨m, ng, sp⟩ = false) := hid (by simp [rgR, h3])
    have hB : (m != 1) = true := by simpa using h2
    clear h2
    go_enter Tryz.func241, Tryz.ntmps241
    go_wp2
    go_ret
    exact ⟨z01 HE.out.symm, z02 _ _⟩
 ·have HE : Hid (rgR ⟨m, ng, sp⟩ = false) := hid (by simp [rgR, h1])
  go_enter Tryz.func241, Tryz.ntmps241
  go_wp2
  go_ret
  exact ⟨z01 HE.out.symm, z02 _ _⟩
theorem zg3 (w : World) (a : Option Addr) (cap : Nat) (xs : List (Rl)) (hIn : SlR w (Old w) (.slice a xs.length cap) xs) :
  Calls Tryz.prog 240 #[.slice a xs.length cap, .func (.func 241) #[] #[]] w fun e w' => e = .returned (.bool (allR rgR xs)) /\ Below w.heap.size w w' := by
 have HIN := hid hIn
 clear hIn
 by_cases h1 : xs.length < 1
 ·have HE := hid (z4g (f := rgR) (l := xs) (by omega))
  go_enter Tryz.func240, Tryz.ntmps240
  go_wp2
  go_ret
  exact ⟨z01 HE.out.symm, Below.refl _ _⟩
 by_cases h2 : 10 < xs.length
 ·have HE := hid (z4g (f := rgR) (l := xs) (by omega))
  go_enter Tryz.func240, Tryz.ntmps240
  go_wp2
  go_ret
  exact ⟨z01 HE.out.symm, Below.refl _ _⟩
 go_enter Tryz.func240, Tryz.ntmps240
 go_wp2
 go_loopw [17] (fun i wr => ∃ k : Nat, k <= xs.length /\ i = .int .i64 k /\ Hid (∀ (j : Nat) (x : Rl), j < k -> xs[j]? = some x -> rgR x = true) /\ Hid (Below w.heap.size w wr)) (fun i _ => xs.length - (intOf i).toNat)
 case atStart => exact ⟨0, by omega, rfl, hid (fun j x hj => by omega), hid (Below.refl _ _)⟩
 case round =>
  obtain ⟨k, hk, rfl, HA, HB⟩ := hrel
  by_cases hlt : k < xs.length
  ·obtain ⟨x, hx⟩ : ∃ x, xs[k]? = some x := ⟨_, List.getElem?_eq_getElem hlt⟩
   obtain ⟨b, off, rfl, hb, hat⟩ := (HIN.out.below HB.out).at_ hx
   have HX := hid hx
   clear hx
   obtain ⟨h0, h1', a1, p1, h9, hsl⟩ := hat.r
   obtain ⟨m, ng, sp⟩ := x
   simp only at h0 h1' h9 hsl
   have HSL := hid (hsl.below (z02 wr (.cells #[.int .i64 m, .bool ng, .slice a1 sp.length p1] 245)))
   have R := z04 wr #[.int .i64 m, .bool ng, .slice a1 sp.length p1] 245
   have c0 := R.cell (i := 0) rfl
   have c1 := R.cell (i := 1) rfl
   have c2 := R.cell (i := 2) rfl
   clear R hsl hat
   have HC1 := hid (zar (wr.alloc (.cells #[.int .i64 m, .bool ng, .slice a1 sp.length p1] 245)) m ng a1 p1 sp HSL.out)
   cases hc : rgR ⟨m, ng, sp⟩ with
   | true =>
    have HE := hid hc
    clear hc
    go_wp2_with fail
    refine HC1.out.mono ?_
    rintro e w5 ⟨rfl, hb5⟩
    rw [HE.out]
    have HB5 := hid (z00 HB.out (z00 (z02 _ _) hb5))
    clear hb5
    go_wp2
    go_roundw
    case rel => exact ⟨k + 1, by omega, by go_num, hid (fun j y hj hy => by
     by_cases hjk : j < k
     ·exact HA.out j y hjk hy
     ·obtain rfl : j = k := by omega
      rw [HX.out] at hy; obtain rfl := Option.some.inj hy; exact HE.out), HB5⟩
    case measure => simp [intOf]; omega
   | false =>
    have HE := hid hc
    have HR : Hid (allR rgR xs = false) := hid (za1 HX.out hc)
    clear hc
    go_wp2_with fail
    refine HC1.out.mono ?_
    rintro e w5 ⟨rfl, hb5⟩
    rw [HE.out]
    have HB5 := hid (z00 HB.out (z00 (z02 _ _) hb5))
    clear hb5
    go_wp2
    go_ret
    exact ⟨z01 HR.out.symm, HB5.out⟩
  ·have HR : Hid (allR rgR xs = true) := hid (zdj (by omega) (by omega) (fun j x hx => HA.out j x (by have := (List.getElem?_eq_some_iff.1 hx).1; omega) hx))
   go_wp2
   go_ret
   exact ⟨z01 HR.out.symm, HB.out⟩
theorem zaq (w : World) (a : Option Addr) (cap : Nat) (xs : List Rl) (hIn : SlR w (Old w) (.slice a xs.length cap) xs) : Calls Tryz.prog 236 #[.slice a xs.length cap] w fun e w' => e = .returned (.bool (rgRow xs)) /\ Below w.heap.size w w' := by
 have HC := hid (zg3 _ a cap xs hIn)
 clear hIn
 go_enter Tryz.func236, Tryz.ntmps236
 go_wp2_with fail
 refine HC.out.mono ?_
 rintro e w5 ⟨rfl, hb5⟩
 go_wp2
 go_ret
 exact ⟨rfl, hb5⟩
theorem zg2 (w : World) (a : Option Addr) (cap : Nat) (xs : List (List Rl)) (hIn : SlW w (Old w) (.slice a xs.length cap) xs) :
  Calls Tryz.prog 235 #[.slice a xs.length cap, .func (.func 236) #[] #[]] w fun e w' => e = .returned (.bool (allR rgRow xs)) /\ Below w.heap.size w w' := by
 have HIN := hid hIn
 clear hIn
 by_cases h1 : xs.length < 1
 ·have HE := hid (z4g (f := rgRow) (l := xs) (by omega))
  go_enter Tryz.func235, Tryz.ntmps235
  go_wp2
  go_ret
  exact ⟨z01 HE.out.symm, Below.refl _ _⟩
 by_cases h2 : 10 < xs.length
 ·have HE := hid (z4g (f := rgRow) (l := xs) (by omega))
  go_enter Tryz.func235, Tryz.ntmps235
  go_wp2
  go_ret
  exact ⟨z01 HE.out.symm, Below.refl _ _⟩
 go_enter Tryz.func235, Tryz.ntmps235
 go_wp2
 go_loopw [17] (fun i wr => ∃ k : Nat, k <= xs.length /\ i = .int .i64 k /\ Hid (∀ (j : Nat) (x : List Rl), j < k -> xs[j]? = some x -> rgRow x = true) /\ Hid (Below w.heap.size w wr)) (fun i _ => xs.length - (intOf i).toNat)
 case atStart => exact ⟨0, by omega, rfl, hid (fun j x hj => by omega), hid (Below.refl _ _)⟩
 case round =>
  obtain ⟨k, hk, rfl, HA, HB⟩ := hrel
  by_cases hlt : k < xs.length
  ·obtain ⟨x, hx⟩ : ∃ x, xs[k]? = some x := ⟨_, List.getElem?_eq_getElem hlt⟩
   obtain ⟨b, off, rfl, hb, hat⟩ := (HIN.out.below HB.out).at_ hx
   have HX := hid hx
   clear hx
   obtain ⟨a1, p1, h9, hsl⟩ := hat.w
   rw [Nat.mul_one] at h9
   have HC1 := hid (zaq wr a1 p1 x hsl)
   clear hsl hat
   cases hc : rgRow x with
   | true =>
    have HE := hid hc
    clear hc
    go_wp2_with fail
    refine HC1.out.mono ?_
    rintro e w5 ⟨rfl, hb5⟩
    rw [HE.out]
    have HB5 := hid (z00 HB.out hb5)
    clear hb5
    go_wp2
    go_roundw
    case rel => exact ⟨k + 1, by omega, by go_num, hid (fun j y hj hy => by
     by_cases hjk : j < k
     ·exact HA.out j y hjk hy
     ·obtain rfl : j = k := by omega
      rw [HX.out] at hy; obtain rfl := Option.some.inj hy; exact HE.out), HB5⟩
    case measure => simp [intOf]; omega
   | false =>
    have HE := hid hc
    have HR : Hid (allR rgRow xs = false) := hid (za1 HX.out hc)
    clear hc
    go_wp2_with fail
    refine HC1.out.mono ?_
    rintro e w5 ⟨rfl, hb5⟩
    rw [HE.out]
    have HB5 := hid (z00 HB.out hb5)
    clear hb5
    go_wp2
    go_ret
    exact ⟨z01 HR.out.symm, HB5.out⟩
  ·have HR : Hid (allR rgRow xs = true) := hid (zdj (by omega) (by omega) (fun j x hx => HA.out j x (by have := (List.getElem?_eq_some_iff.1 hx).1; omega) hx))
   go_wp2
   go_ret
   exact ⟨z01 HR.out.symm, HB.out⟩
theorem z1o (w : World) (a : Option Addr) (cap : Nat) (xs : Rule) (hIn : SlW w (Old w) (.slice a xs.length cap) xs) : Calls Tryz.prog 222 #[.slice a xs.length cap] w fun e w' => e = .returned (.bool (z0x xs)) /\ Below w.heap.size w w' := by
 have HC := hid (zg2 _ a cap xs hIn)
 clear hIn
 go_enter Tryz.func222, Tryz.ntmps222
 go_wp2_with fail
 refine HC.out.mono ?_
 rintro e w5 ⟨rfl, hb5⟩
 go_wp2
 go_ret
 exact ⟨rfl, hb5⟩
end Go.Proofs.YtdnedbcmgkilaaaGreatDoor.Pu
