/- The document's Right and Holds. -/
import Derived.Test.YtlgodcbffimcoaaDoorHo
namespace Go.Proofs.YtlgodcbffimcoaaDoor
open Go.RowKit

theorem rgS_false {x : Sp} (h : ¬ (0 ≤ x.lo ∧ x.lo ≤ x.hi ∧ x.hi ≤ 1000000)) : rgS x = false := by
  cases hb : rgS x with
  | false => rfl
  | true => exact absurd (rgS_true hb) h
theorem rgS_yes {x : Sp} (h1 : 0 ≤ x.lo) (h2 : x.lo ≤ x.hi) (h3 : x.hi ≤ 1000000) : rgS x = true := by simp [rgS, h1, h2, h3]
theorem rgR_false {x : Rl} (h : ¬ (0 ≤ x.m ∧ x.m ≠ 1 ∧ x.m ≤ 1000000)) : rgR x = false := by unfold rgR; rw [decide_eq_false h]; rfl
theorem rgR_false2 {x : Rl} (h : allR rgS x.sp = false) : rgR x = false := by unfold rgR; rw [h, Bool.and_false]
theorem rgR_yes {x : Rl} (h : 0 ≤ x.m ∧ x.m ≠ 1 ∧ x.m ≤ 1000000) (h2 : allR rgS x.sp = true) : rgR x = true := by unfold rgR; rw [decide_eq_true h, h2]; rfl

set_option maxHeartbeats 3200000 in
set_option maxRecDepth 100000 in
theorem rright_any (w : World) (a : Option Addr) (cap : Nat) (xs : Rule) (hIn : SlW w (Old w) (.slice a xs.length cap) xs) :
    Calls Tryd.prog 15 #[.slice a xs.length cap] w fun e w' => e = .returned (.bool (rgRule xs)) ∧ Below w.heap.size w w' := by
  have HIN := Lib.hid hIn
  clear hIn
  by_cases h1 : 1 ≤ xs.length
  · by_cases h2 : xs.length ≤ 10
    · go_enter Tryd.func15, Tryd.ntmps15
      go_wp2
      go_loopw [19] (fun i wr => ∃ k : Nat, k ≤ xs.length ∧ i = .int .i64 k ∧ Hid (∀ (j : Nat) (x : List Rl), j < k → xs[j]? = some x → rgRow x = true) ∧ Hid (Below w.heap.size w wr)) (fun i _ => xs.length - (intOf i).toNat)
      case atStart => exact ⟨0, by omega, rfl, Lib.hid (fun j x hj => by omega), Lib.hid (Below.refl _ _)⟩
      case round =>
        obtain ⟨k, hk, rfl, HA, HB⟩ := hrel
        by_cases hlt : k < xs.length
        · obtain ⟨x, hx⟩ : ∃ x, xs[k]? = some x := ⟨_, List.getElem?_eq_getElem hlt⟩
          obtain ⟨b, off, rfl, hb, hat⟩ := (HIN.out.below HB.out).at_ hx
          have HX := Lib.hid hx
          clear hx
          obtain ⟨a1, p1, h9, hsl⟩ := hat.w
          rw [Nat.mul_one] at h9
          have HROW := Lib.hid hsl
          have HBF := HB
          clear hsl hat
          by_cases h3 : 1 ≤ x.length
          · by_cases h4 : x.length ≤ 10
            · clear HBF
              go_wp2
              go_loopw [33] (fun i wq => ∃ k : Nat, k ≤ x.length ∧ i = .int .i64 k ∧ Hid (∀ (j : Nat) (y : Rl), j < k → x[j]? = some y → rgR y = true) ∧ Hid (Below wr.heap.size wr wq)) (fun i _ => x.length - (intOf i).toNat)
              case atStart => exact ⟨0, by omega, rfl, Lib.hid (fun j x hj => by omega), Lib.hid (Below.refl _ _)⟩
              case round =>
                obtain ⟨k2, hk2, rfl, HA2, HB2⟩ := hrel
                by_cases hlt2 : k2 < x.length
                · obtain ⟨y, hy⟩ : ∃ y, x[k2]? = some y := ⟨_, List.getElem?_eq_getElem hlt2⟩
                  obtain ⟨b2, off2, rfl, hb2, hat2⟩ := (HROW.out.below HB2.out).at_ hy
                  have HY := Lib.hid hy
                  clear hy
                  obtain ⟨g0, g1, a2, p2, g2, hsl2⟩ := hat2.r
                  obtain ⟨m, ng, sp⟩ := y
                  simp only at g0 g1 g2 hsl2
                  have HBB := Lib.hid (below1 wr (.cells #[.int .i64 m, .bool ng, .slice a2 sp.length p2] 49))
                  have HSL := Lib.hid (hsl2.below HBB.out)
                  have R := row_new wr #[.int .i64 m, .bool ng, .slice a2 sp.length p2] 49
                  have d0 := R.cell (i := 0) rfl
                  have d1 := R.cell (i := 1) rfl
                  have d2 := R.cell (i := 2) rfl
                  have HRW := Lib.hid R
                  have HBF := Lib.hid (below_trans HB.out (below_trans HB2.out HBB.out))
                  have HFR : Hid (rgR ⟨m, ng, sp⟩ = false → rgRule xs = false) := Lib.hid (fun h => allR_bad HX.out (allR_bad HY.out h))
                  clear R hsl2 hat2
                  by_cases m1 : 0 ≤ m
                  · by_cases m2 : m = 1
                    · have HE := Lib.hid (HFR.out (rgR_false (fun h => h.2.1 m2)))
                      have mb : (m == 1) = true := by simpa using m2
                      clear m2
                      go_wp2
                      go_ret
                      exact ⟨ret_bool HE.out.symm, HBF.out⟩
                    · have mb : (m == 1) = false := by simpa using m2
                      by_cases m3 : m ≤ 1000000
                      · have HMOK : Hid (0 ≤ m ∧ m ≠ 1 ∧ m ≤ 1000000) := Lib.hid ⟨m1, m2, m3⟩
                        clear m2
                        by_cases hs1 : 1 ≤ sp.length
                        · by_cases hs2 : sp.length ≤ 10
                          · have HFAIL : Hid (allR rgS sp = false → rgRule xs = false) := Lib.hid (fun h => HFR.out (rgR_false2 h))
                            go_wp2
                            go_loopw [65] (fun i wq => ∃ k : Nat, k ≤ sp.length ∧ i = .int .i64 k ∧ Hid (∀ (j : Nat) (x : Sp), j < k → sp[j]? = some x → rgS x = true) ∧ Hid (Below (wr.alloc (.cells #[.int .i64 m, .bool ng, .slice a2 sp.length p2] 49)).heap.size (wr.alloc (.cells #[.int .i64 m, .bool ng, .slice a2 sp.length p2] 49)) wq)) (fun i _ => sp.length - (intOf i).toNat)
                            case atStart => exact ⟨0, by omega, rfl, Lib.hid (fun j x hj => by omega), Lib.hid (Below.refl _ _)⟩
                            case round =>
                              obtain ⟨k3, hk3, rfl, HA3, HB3⟩ := hrel
                              by_cases hlt3 : k3 < sp.length
                              · obtain ⟨z, hz⟩ : ∃ z, sp[k3]? = some z := ⟨_, List.getElem?_eq_getElem hlt3⟩
                                obtain ⟨b3, off3, rfl, hb3, hat3⟩ := (HSL.out.below HB3.out).at_ hz
                                have HZ := Lib.hid hz
                                clear hz
                                obtain ⟨f0, f1⟩ := hat3.s
                                obtain ⟨lo, hi⟩ := z
                                simp only at f0 f1
                                have R3 := row_new wr #[.int .i64 lo, .int .i64 hi] 55
                                have e0 := R3.cell (i := 0) rfl
                                have e1 := R3.cell (i := 1) rfl
                                have HB4 := Lib.hid (below_trans HB3.out (below1 wr (.cells #[.int .i64 lo, .int .i64 hi] 55)))
                                have HBF := Lib.hid (below_trans HB.out (below_trans HB2.out (below_trans HBB.out HB4.out)))
                                clear R3 hat3
                                by_cases q1 : 0 ≤ lo
                                · by_cases q2 : lo ≤ hi
                                  · by_cases q3 : hi ≤ 1000000
                                    · have HG := Lib.hid (rgS_yes (x := ⟨lo, hi⟩) q1 q2 q3)
                                      go_wp2
                                      go_roundw
                                      case rel => exact ⟨k3 + 1, by omega, by go_num, Lib.hid (fun j y hj hy => by
                                        by_cases hjk : j < k3
                                        · exact HA3.out j y hjk hy
                                        · obtain rfl : j = k3 := by omega
                                          rw [HZ.out] at hy; obtain rfl := Option.some.inj hy; exact HG.out), HB4⟩
                                      case measure => simp [intOf]; omega
                                    · have HE := Lib.hid (HFAIL.out (allR_bad HZ.out (rgS_false (fun h => q3 h.2.2))))
                                      go_wp2
                                      go_ret
                                      exact ⟨ret_bool HE.out.symm, HBF.out⟩
                                  · have HE := Lib.hid (HFAIL.out (allR_bad HZ.out (rgS_false (fun h => q2 h.2.1))))
                                    go_wp2
                                    go_ret
                                    exact ⟨ret_bool HE.out.symm, HBF.out⟩
                                · have HE := Lib.hid (HFAIL.out (allR_bad HZ.out (rgS_false (fun h => q1 h.1))))
                                  go_wp2
                                  go_ret
                                  exact ⟨ret_bool HE.out.symm, HBF.out⟩
                              · have hspo : allR rgS sp = true := allR_mk hs1 hs2 (fun j x hx => HA3.out j x (by have := (List.getElem?_eq_some_iff.1 hx).1; omega) hx)
                                have HGR := Lib.hid (rgR_yes (x := ⟨m, ng, sp⟩) HMOK.out hspo)
                                clear hspo
                                have HB4 := Lib.hid (below_trans HB2.out (below_trans HBB.out HB3.out))
                                go_wp2
                                go_roundw
                                case rel => exact ⟨k2 + 1, by omega, by go_num, Lib.hid (fun j y hj hy => by
                                  by_cases hjk : j < k2
                                  · exact HA2.out j y hjk hy
                                  · obtain rfl : j = k2 := by omega
                                    rw [HY.out] at hy; obtain rfl := Option.some.inj hy; exact HGR.out), HB4⟩
                                case measure => simp [intOf]; omega
                          · have HE := Lib.hid (HFR.out (rgR_false2 (allR_len (f := rgS) (l := sp) (by omega))))
                            go_wp2
                            go_ret
                            exact ⟨ret_bool HE.out.symm, HBF.out⟩
                        · have HE := Lib.hid (HFR.out (rgR_false2 (allR_len (f := rgS) (l := sp) (by omega))))
                          go_wp2
                          go_ret
                          exact ⟨ret_bool HE.out.symm, HBF.out⟩
                      · have HE := Lib.hid (HFR.out (rgR_false (fun h => m3 h.2.2)))
                        clear m2
                        go_wp2
                        go_ret
                        exact ⟨ret_bool HE.out.symm, HBF.out⟩
                  · have HE := Lib.hid (HFR.out (rgR_false (fun h => m1 h.1)))
                    go_wp2
                    go_ret
                    exact ⟨ret_bool HE.out.symm, HBF.out⟩
                · have HGR : Hid (rgRow x = true) := Lib.hid (allR_mk h3 h4 (fun j y hy => HA2.out j y (by have := (List.getElem?_eq_some_iff.1 hy).1; omega) hy))
                  have HB4 := Lib.hid (below_trans HB.out HB2.out)
                  go_wp2
                  go_roundw
                  case rel => exact ⟨k + 1, by omega, by go_num, Lib.hid (fun j y hj hy => by
                    by_cases hjk : j < k
                    · exact HA.out j y hjk hy
                    · obtain rfl : j = k := by omega
                      rw [HX.out] at hy; obtain rfl := Option.some.inj hy; exact HGR.out), HB4⟩
                  case measure => simp [intOf]; omega
            · have HE : Hid (rgRule xs = false) := Lib.hid (allR_bad HX.out (allR_len (f := rgR) (l := x) (by omega)))
              go_wp2
              go_ret
              exact ⟨ret_bool HE.out.symm, HBF.out⟩
          · have HE : Hid (rgRule xs = false) := Lib.hid (allR_bad HX.out (allR_len (f := rgR) (l := x) (by omega)))
            go_wp2
            go_ret
            exact ⟨ret_bool HE.out.symm, HBF.out⟩
        · have HE : Hid (rgRule xs = true) := Lib.hid (allR_mk h1 h2 (fun j x hx => HA.out j x (by have := (List.getElem?_eq_some_iff.1 hx).1; omega) hx))
          have HBF := HB
          go_wp2
          go_ret
          exact ⟨ret_bool HE.out.symm, HBF.out⟩
    · have HE : Hid (rgRule xs = false) := Lib.hid (allR_len (f := rgRow) (l := xs) (by omega))
      have HBF := Lib.hid (Below.refl w.heap.size w)
      go_enter Tryd.func15, Tryd.ntmps15
      go_wp2
      go_ret
      exact ⟨ret_bool HE.out.symm, HBF.out⟩
  · have HE : Hid (rgRule xs = false) := Lib.hid (allR_len (f := rgRow) (l := xs) (by omega))
    have HBF := Lib.hid (Below.refl w.heap.size w)
    go_enter Tryd.func15, Tryd.ntmps15
    go_wp2
    go_ret
    exact ⟨ret_bool HE.out.symm, HBF.out⟩
end Go.Proofs.YtlgodcbffimcoaaDoor
