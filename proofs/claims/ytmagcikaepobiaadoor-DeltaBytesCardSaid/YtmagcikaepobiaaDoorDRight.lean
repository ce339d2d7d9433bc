/- Right and Size, by package delta and by the document; few. -/
import Derived.Test.YtmagcikaepobiaaDoorDRgt
namespace Go.Proofs.YtmagcikaepobiaaDoor.Dl
open Go.RowKit

/-- All texts can be read. -/
def Szs (xs : List Opr) : Prop := ∀ (j : Nat) (x : Opr), xs[j]? = some x → x.t.size ≤ 140737488351232
theorem Szs.take {xs : List Opr} (h : Szs xs) (k : Nat) : Szs (xs.take k) := fun j x hj => by
  have hlt := (List.getElem?_eq_some_iff.1 hj).1
  rw [List.length_take] at hlt
  rw [List.getElem?_take, if_pos (by omega)] at hj
  exact h j x hj
theorem Szs.few {xs : List Opr} (h : Szs xs) : Szs (fewL xs) := by
  unfold fewL; split
  · exact h.take 60
  · exact h

theorem few_any (w : World) (a : Option Addr) (cap : Nat) (xs : List Opr) (hxl : xs.length ≤ 9223372036854775807) (hcap : xs.length ≤ cap) (hcap2 : cap ≤ 9223372036854775807) (hnil : a = none → xs = []) :
    Calls Tryd.prog 5 #[.slice a xs.length cap] w fun e w' => e = .returned (.slice a (fewL xs).length cap) ∧ w = w' := by
  by_cases h : 60 < xs.length ∧ xs.length ≤ 2000
  · obtain ⟨h1, h2⟩ := h
    have HE : Hid ((fewL xs).length = 60) := Lib.hid (by unfold fewL; rw [if_pos ⟨h1, h2⟩, List.length_take]; omega)
    obtain ⟨ad, rfl⟩ : ∃ ad, a = some ad := by
      cases a with
      | none => have := hnil rfl; subst this; simp at h1
      | some ad => exact ⟨ad, rfl⟩
    clear hnil
    rw [HE.out]
    go_enter Tryd.func5, Tryd.ntmps5
    go_wp2
    go_ret
    exact ⟨rfl, rfl⟩
  · have HE : Hid ((fewL xs).length = xs.length) := Lib.hid (by unfold fewL; rw [if_neg h])
    clear hnil
    rw [HE.out]
    by_cases h1 : 60 < xs.length
    · have h2 : 2000 < xs.length := by omega
      clear h
      go_enter Tryd.func5, Tryd.ntmps5
      go_wp2
      go_ret
      exact ⟨rfl, rfl⟩
    · clear h
      go_enter Tryd.func5, Tryd.ntmps5
      go_wp2
      go_ret
      exact ⟨rfl, rfl⟩

/-- The world with the operation's own block: what it holds. -/
theorem op_box (wr : World) (x : Opr) : Hid (Row (wr.alloc (.cells #[.int .i64 x.f, .int .i64 x.n, .string x.t] 32)) wr.heap.size 32 [.int .i64 x.f, .int .i64 x.n, .string x.t]) ∧ Hid (Below wr.heap.size wr (wr.alloc (.cells #[.int .i64 x.f, .int .i64 x.n, .string x.t] 32))) :=
  ⟨Lib.hid (row_new wr #[.int .i64 x.f, .int .i64 x.n, .string x.t] 32), Lib.hid (below1 wr _)⟩

set_option maxHeartbeats 3200000 in
set_option maxRecDepth 100000 in
theorem right_any (w : World) (a : Option Addr) (cap : Nat) (xs : List Opr) (hxl : xs.length ≤ 9223372036854775807) (hz : Szs xs) (hIn : InI w a xs) :
    Calls Tryd.prog 11 #[.slice a xs.length cap] w fun e w' => e = .returned (.bool (rgB xs)) ∧ Below w.heap.size w w' := by
  have HIN := Lib.hid hIn
  have HZ := Lib.hid hz
  clear hIn hz
  by_cases hl : 2000 < xs.length
  · have HR := Lib.hid (rgB_long hl)
    go_enter Tryd.func11, Tryd.ntmps11
    go_wp2
    go_ret
    exact ⟨ret_bool HR.out.symm, Below.refl _ _⟩
  · go_enter Tryd.func11, Tryd.ntmps11
    go_wp2
    go_loopw [10] (fun i wr => ∃ k : Nat, k ≤ xs.length ∧ i = .int .i64 k ∧ Hid (∀ j x, j < k → xs[j]? = some x → okB x = true) ∧ Hid (Below w.heap.size w wr)) (fun i _ => xs.length - (intOf i).toNat)
    case atStart => exact ⟨0, by omega, rfl, Lib.hid (fun j x hj => by omega), Lib.hid (Below.refl _ _)⟩
    case round =>
      obtain ⟨k, hk, rfl, HA, HB⟩ := hrel
      by_cases hlt : k < xs.length
      · obtain ⟨x, hx⟩ : ∃ x, xs[k]? = some x := ⟨_, List.getElem?_eq_getElem hlt⟩
        obtain ⟨b, off, rfl, hbl, h0, h1, h2⟩ := (HIN.out.below HB.out).at_ hx
        have hzx := HZ.out k x hx
        have HX := Lib.hid hx
        clear hx
        obtain ⟨Q3, HE1⟩ := op_box wr x
        obtain ⟨f, n, t⟩ := x
        have HC1 := Lib.hid (fun w => isCopy_any ⟨f, n, t⟩ w (by simp only at hzx ⊢; omega))
        have HC2 := Lib.hid (fun w => isInsert_any ⟨f, n, t⟩ w (by simp only at hzx ⊢; omega))
        simp only at h0 h1 h2 Q3 HE1 hzx
        have c0 := Q3.out.cell (i := 0) rfl
        have c1 := Q3.out.cell (i := 1) rfl
        have c2 := Q3.out.cell (i := 2) rfl
        cases hc : cpB ⟨f, n, t⟩ with
        | true =>
          have HE : Hid (okB ⟨f, n, t⟩ = true) := Lib.hid (by unfold okB; rw [hc]; rfl)
          have HCC := Lib.hid hc
          clear hc
          go_wp2_with fail
          refine (HC1.out _).mono ?_
          rintro e w5 ⟨rfl, hb5⟩
          rw [HCC.out]
          have HB5 := Lib.hid (below_trans HB.out (below_trans HE1.out hb5))
          clear hb5
          go_wp2
          go_roundw
          case rel => exact ⟨k + 1, by omega, by go_num, Lib.hid (fun j x hj hx => by
            by_cases hjk : j < k
            · exact HA.out j x hjk hx
            · obtain rfl : j = k := by omega
              rw [HX.out] at hx; obtain rfl := Option.some.inj hx; exact HE.out), HB5⟩
          case measure => simp [intOf]; omega
        | false =>
          have HCC := Lib.hid hc
          clear hc
          go_wp2_with fail
          refine (HC1.out _).mono ?_
          rintro e w5 ⟨rfl, hb5⟩
          rw [HCC.out]
          have HB4 := Lib.hid hb5
          have q5 := Q3.out.below hb5
          clear hb5 c0 c1 c2
          have c0 := q5.cell (i := 0) rfl
          have c1 := q5.cell (i := 1) rfl
          have c2 := q5.cell (i := 2) rfl
          clear q5
          go_wp2_with fail
          refine (HC2.out _).mono ?_
          rintro e w6 ⟨rfl, hb6⟩
          have HB6 := Lib.hid (below_trans HB.out (below_trans HE1.out (below_trans HB4.out hb6)))
          clear hb6
          cases hd : inB ⟨f, n, t⟩ with
          | true =>
            have HE : Hid (okB ⟨f, n, t⟩ = true) := Lib.hid (by unfold okB; rw [hd]; simp)
            clear hd
            go_wp2
            go_roundw
            case rel => exact ⟨k + 1, by omega, by go_num, Lib.hid (fun j x hj hx => by
              by_cases hjk : j < k
              · exact HA.out j x hjk hx
              · obtain rfl : j = k := by omega
                rw [HX.out] at hx; obtain rfl := Option.some.inj hx; exact HE.out), HB6⟩
            case measure => simp [intOf]; omega
          | false =>
            have HE : Hid (rgB xs = false) := Lib.hid (rgB_bad HX.out (by unfold okB; rw [HCC.out, hd]; rfl))
            clear hd
            go_wp2
            go_ret
            exact ⟨ret_bool HE.out.symm, HB6.out⟩
      · have HE : Hid (rgB xs = true) := Lib.hid (rgB_mk (by omega) (fun j x hx => HA.out j x (by have := (List.getElem?_eq_some_iff.1 hx).1; omega) hx))
        go_wp2
        go_ret
        exact ⟨ret_bool HE.out.symm, HB.out⟩

set_option maxHeartbeats 3200000 in
set_option maxRecDepth 100000 in
theorem rright_any (w : World) (a : Option Addr) (cap : Nat) (xs : List Opr) (hxl : xs.length ≤ 9223372036854775807) (hz : Szs xs) (hIn : InI w a xs) :
    Calls Tryd.prog 14 #[.slice a xs.length cap] w fun e w' => e = .returned (.bool (rgB xs)) ∧ Below w.heap.size w w' := by
  have HIN := Lib.hid hIn
  have HZ := Lib.hid hz
  clear hIn hz
  go_enter Tryd.func14, Tryd.ntmps14
  go_wp2
  go_loopw [7] (fun i wr => ∃ k : Nat, k ≤ xs.length ∧ i = .int .i64 k ∧ Hid (∀ j x, j < k → xs[j]? = some x → okB x = true) ∧ Hid (Below w.heap.size w wr)) (fun i _ => xs.length - (intOf i).toNat)
  case atStart => exact ⟨0, by omega, rfl, Lib.hid (fun j x hj => by omega), Lib.hid (Below.refl _ _)⟩
  case round =>
    obtain ⟨k, hk, rfl, HA, HB⟩ := hrel
    by_cases hlt : k < xs.length
    · obtain ⟨x, hx⟩ : ∃ x, xs[k]? = some x := ⟨_, List.getElem?_eq_getElem hlt⟩
      obtain ⟨b, off, rfl, hbl, h0, h1, h2⟩ := (HIN.out.below HB.out).at_ hx
      have hzx := HZ.out k x hx
      have HX := Lib.hid hx
      clear hx
      obtain ⟨Q3, HE1⟩ := op_box wr x
      obtain ⟨f, n, t⟩ := x
      have HC1 := Lib.hid (fun w => rop_any ⟨f, n, t⟩ w (by simp only at hzx ⊢; omega))
      simp only at h0 h1 h2 Q3 HE1 hzx
      have c0 := Q3.out.cell (i := 0) rfl
      have c1 := Q3.out.cell (i := 1) rfl
      have c2 := Q3.out.cell (i := 2) rfl
      go_wp2_with fail
      refine (HC1.out _).mono ?_
      rintro e w5 ⟨rfl, hb5⟩
      have HB5 := Lib.hid (below_trans HB.out (below_trans HE1.out hb5))
      clear hb5
      cases hc : okB ⟨f, n, t⟩ with
      | true =>
        have HE := Lib.hid hc
        clear hc
        go_wp2
        go_roundw
        case rel => exact ⟨k + 1, by omega, by go_num, Lib.hid (fun j x hj hx => by
          by_cases hjk : j < k
          · exact HA.out j x hjk hx
          · obtain rfl : j = k := by omega
            rw [HX.out] at hx; obtain rfl := Option.some.inj hx; exact HE.out), HB5⟩
        case measure => simp [intOf]; omega
      | false =>
        have HE : Hid (rgB xs = false) := Lib.hid (rgB_bad HX.out hc)
        clear hc
        go_wp2
        go_ret
        exact ⟨ret_bool HE.out.symm, HB5.out⟩
    · have HE : Hid (rgB xs = decide ((xs.length : Int) ≤ 2000)) := Lib.hid (by
        by_cases h2 : xs.length ≤ 2000
        · rw [decide_eq_true (show (xs.length : Int) ≤ 2000 by omega)]
          exact rgB_mk h2 (fun j x hx => HA.out j x (by have := (List.getElem?_eq_some_iff.1 hx).1; omega) hx)
        · rw [decide_eq_false (show ¬ (xs.length : Int) ≤ 2000 by omega)]
          exact rgB_long (by omega))
      go_wp2
      go_ret
      exact ⟨ret_bool HE.out.symm, HB.out⟩
end Go.Proofs.YtmagcikaepobiaaDoor.Dl
