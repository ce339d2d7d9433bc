/- The document's Holds. -/
import Derived.Test.YtlgodcbffimcoaaDoorRr
import Derived.Test.YtlgodcbffimcoaaDoorRc
namespace Go.Proofs.YtlgodcbffimcoaaDoor
open Go.RowKit

theorem take_of {α : Type} {l : List α} {k : Nat} {x : α} (h : l[k]? = some x) : l.take (k + 1) = l.take k ++ [x] := by rw [List.take_add_one, h]; rfl
theorem inS_step {sp : List Sp} {i : Int} {k : Nat} {z : Sp} (h : sp[k]? = some z) : inS (sp.take (k + 1)) i = (inS (sp.take k) i || (decide (z.lo ≤ i) && decide (i ≤ z.hi))) := by
  rw [take_of h, inS, List.any_append]; simp [inS]
theorem hoRow_step {r : List Rl} {i : Int} {k : Nat} {y : Rl} (h : r[k]? = some y) : hoRow (r.take (k + 1)) i = (hoRow (r.take k) i && hoR y i) := by
  rw [take_of h, hoRow, List.all_append]; simp [hoRow]
theorem inS_zero (sp : List Sp) (i : Int) : inS (sp.take 0) i = false := rfl
theorem hoRow_zero (r : List Rl) (i : Int) : hoRow (r.take 0) i = true := rfl

set_option maxHeartbeats 3200000 in
set_option maxRecDepth 100000 in
theorem rholds_any (w : World) (a : Option Addr) (cap : Nat) (xs : Rule) (n i : Int) (hi0 : 0 ≤ i) (HM : Hid (∀ w, Calls Tryd.prog 32 #[.int .i64 n] w fun e w' => e = .returned (.int .u64 i) ∧ w = w')) (hIn : SlW w (Old w) (.slice a xs.length cap) xs) (hr : rgRule xs = true) :
    Calls Tryd.prog 18 #[.slice a xs.length cap, .int .i64 n] w fun e w' => e = .returned (.bool (hoRule xs i)) ∧ Below w.heap.size w w' := by
  have HIN := Lib.hid hIn
  obtain ⟨hg1, hg2, hg3⟩ := allR_get hr
  have HG := Lib.hid hg3
  clear hIn hr hg3 hg1
  go_enter Tryd.func18, Tryd.ntmps18
  go_wp2
  go_loopw [16] (fun v wr => ∃ k : Nat, k ≤ xs.length ∧ v = .int .i64 k ∧ Hid (∀ (j : Nat) (x : List Rl), j < k → xs[j]? = some x → hoRow x i = false) ∧ Hid (Below w.heap.size w wr)) (fun v _ => xs.length - (intOf v).toNat)
  case atStart => exact ⟨0, by omega, rfl, Lib.hid (fun j x hj => by omega), Lib.hid (Below.refl _ _)⟩
  case round =>
    obtain ⟨k, hk, rfl, HA, HB⟩ := hrel
    by_cases hlt : k < xs.length
    · obtain ⟨x, hx⟩ : ∃ x, xs[k]? = some x := ⟨_, List.getElem?_eq_getElem hlt⟩
      obtain ⟨b, off, rfl, hb, hat⟩ := (HIN.out.below HB.out).at_ hx
      have HX := Lib.hid hx
      obtain ⟨hx1, hx2, hx3⟩ := allR_get (HG.out x (List.mem_of_getElem? hx))
      have HGR := Lib.hid hx3
      clear hx hx3 hx1
      obtain ⟨a1, p1, h9, hsl⟩ := hat.w
      rw [Nat.mul_one] at h9
      have HROW := Lib.hid hsl
      clear hsl hat
      go_wp2
      go_loopw [7, 22] (fun u v wq => ∃ (b : Bool) (k : Nat), k ≤ x.length ∧ u = .bool b ∧ v = .int .i64 k ∧ Hid (b = hoRow (x.take k) i) ∧ Hid (Below wr.heap.size wr wq)) (fun _ v _ => x.length - (intOf v).toNat)
      case atStart => exact ⟨true, 0, by omega, rfl, rfl, Lib.hid rfl, Lib.hid (Below.refl _ _)⟩
      case round =>
        obtain ⟨b2, k2, hk2, rfl, rfl, HB2v, HB2⟩ := hrel
        by_cases hlt2 : k2 < x.length
        · obtain ⟨y, hy⟩ : ∃ y, x[k2]? = some y := ⟨_, List.getElem?_eq_getElem hlt2⟩
          obtain ⟨bb2, off2, rfl, hb2, hat2⟩ := (HROW.out.below HB2.out).at_ hy
          have HST2 := Lib.hid (hoRow_step (i := i) hy)
          obtain ⟨hm0, hm1, hsp⟩ := rgR_true (HGR.out y (List.mem_of_getElem? hy))
          clear hy
          obtain ⟨g0, g1, a2, p2, g2, hsl2⟩ := hat2.r
          obtain ⟨m, ng, sp⟩ := y
          simp only at g0 g1 g2 hsl2 hm0 hm1 hsp
          have HGS := Lib.hid (allR_get hsp).2.2
          have hsp10 := (allR_get hsp).2.1
          have HBB := Lib.hid (below1 wr (.cells #[.int .i64 m, .bool ng, .slice a2 sp.length p2] 49))
          have HSL := Lib.hid (hsl2.below HBB.out)
          have R := row_new wr #[.int .i64 m, .bool ng, .slice a2 sp.length p2] 49
          have d0 := R.cell (i := 0) rfl
          have d2 := R.cell (i := 2) rfl
          have HRW := Lib.hid R
          clear R hsl2 hat2 hsp
          by_cases hm : 0 < m
          · have hmz : m ≠ 0 := by omega
            have HHO := Lib.hid (hoR_mod (i := i) (ng := ng) (sp := sp) (by omega : 0 < m))
            have hiv : 0 ≤ (i % m) := Int.emod_nonneg _ (by omega)
            go_wp2_with fail
            refine (HM.out _).mono ?_
            rintro e w5 ⟨rfl, rfl⟩
            go_wp2
            go_loopw [11, 39] (fun u v wq => ∃ (b : Bool) (k : Nat), k ≤ sp.length ∧ u = .bool b ∧ v = .int .i64 k ∧ Hid (b = inS (sp.take k) (i % m)) ∧ Hid (Below (wr.alloc (.cells #[.int .i64 m, .bool ng, .slice a2 sp.length p2] 49)).heap.size (wr.alloc (.cells #[.int .i64 m, .bool ng, .slice a2 sp.length p2] 49)) wq)) (fun _ v _ => sp.length - (intOf v).toNat)
            case atStart => exact ⟨false, 0, by omega, rfl, rfl, Lib.hid rfl, Lib.hid (Below.refl _ _)⟩
            case round =>
              obtain ⟨b3, k3, hk3, rfl, rfl, HB3v, HB3⟩ := hrel
              by_cases hlt3 : k3 < sp.length
              · obtain ⟨z, hz⟩ : ∃ z, sp[k3]? = some z := ⟨_, List.getElem?_eq_getElem hlt3⟩
                obtain ⟨bb3, off3, rfl, hb3, hat3⟩ := (HSL.out.below HB3.out).at_ hz
                obtain ⟨hs0, hs1, hs2⟩ := rgS_true (HGS.out z (List.mem_of_getElem? hz))
                have HST := Lib.hid (inS_step (i := (i % m)) hz)
                clear hz
                obtain ⟨f0, f1⟩ := hat3.s
                obtain ⟨lo, hi⟩ := z
                simp only at f0 f1 hs0 hs1 hs2 HST
                have R3 := row_new wr #[.int .i64 lo, .int .i64 hi] 55
                have e0 := R3.cell (i := 0) rfl
                have e1 := R3.cell (i := 1) rfl
                have HB4 := Lib.hid (below_trans HB3.out (below1 wr (.cells #[.int .i64 lo, .int .i64 hi] 55)))
                clear R3 hat3
                cases b3 with
                | true =>
                  have HV : Hid (true = inS (sp.take (k3 + 1)) (i % m)) := Lib.hid (by rw [HST.out, ← HB3v.out]; rfl)
                  clear HST HB3v
                  go_wp2
                  go_roundw
                  case rel => exact ⟨true, k3 + 1, by omega, rfl, by go_num, HV, HB4⟩
                  case measure => simp [intOf]; omega
                | false =>
                  by_cases q1 : lo ≤ (i % m)
                  · by_cases q2 : (i % m) ≤ hi
                    · have HV : Hid (true = inS (sp.take (k3 + 1)) (i % m)) := Lib.hid (by rw [HST.out, ← HB3v.out, decide_eq_true q1, decide_eq_true q2]; rfl)
                      clear HST HB3v
                      go_wp2
                      go_roundw
                      case rel => exact ⟨true, k3 + 1, by omega, rfl, by go_num, HV, HB4⟩
                      case measure => simp [intOf]; omega
                    · have HV : Hid (false = inS (sp.take (k3 + 1)) (i % m)) := Lib.hid (by rw [HST.out, ← HB3v.out, decide_eq_true q1, decide_eq_false q2]; rfl)
                      clear HST HB3v
                      go_wp2
                      go_roundw
                      case rel => exact ⟨false, k3 + 1, by omega, rfl, by go_num, HV, HB4⟩
                      case measure => simp [intOf]; omega
                  · have HV : Hid (false = inS (sp.take (k3 + 1)) (i % m)) := Lib.hid (by rw [HST.out, ← HB3v.out, decide_eq_false q1]; rfl)
                    clear HST HB3v
                    go_wp2
                    go_roundw
                    case rel => exact ⟨false, k3 + 1, by omega, rfl, by go_num, HV, HB4⟩
                    case measure => simp [intOf]; omega
              · obtain rfl : k3 = sp.length := by omega
                rw [List.take_length] at HB3v
                have HB4 := Lib.hid (below_trans HB2.out (below_trans HBB.out HB3.out))
                have HR4 := Lib.hid (HRW.out.below HB3.out)
                have d1 := HR4.out.cell (i := 1) rfl
                cases b2 with
                | false =>
                  have HV : Hid (false = hoRow (x.take (k2 + 1)) i) := Lib.hid (by rw [HST2.out, ← HB2v.out]; rfl)
                  go_wp2
                  go_roundw
                  case rel => exact ⟨false, k2 + 1, by omega, rfl, by go_num, HV, HB4⟩
                  case measure => simp [intOf]; omega
                | true =>
                  have HV : Hid ((b3 != ng) = hoRow (x.take (k2 + 1)) i) := Lib.hid (by rw [HST2.out, ← HB2v.out, HHO.out, ← HB3v.out]; rfl)
                  go_wp2
                  go_roundw
                  case rel => exact ⟨(b3 != ng), k2 + 1, by omega, rfl, by go_num, HV, HB4⟩
                  case measure => simp [intOf]; omega
          · have hmz : m ≤ 0 := by omega
            have HHO := Lib.hid (hoR_all (i := i) (ng := ng) (sp := sp) (by omega : ¬ 0 < m))
            have hiv : 0 ≤ i := hi0
            go_wp2_with fail
            refine (HM.out _).mono ?_
            rintro e w5 ⟨rfl, rfl⟩
            go_wp2
            go_loopw [11, 39] (fun u v wq => ∃ (b : Bool) (k : Nat), k ≤ sp.length ∧ u = .bool b ∧ v = .int .i64 k ∧ Hid (b = inS (sp.take k) i) ∧ Hid (Below (wr.alloc (.cells #[.int .i64 m, .bool ng, .slice a2 sp.length p2] 49)).heap.size (wr.alloc (.cells #[.int .i64 m, .bool ng, .slice a2 sp.length p2] 49)) wq)) (fun _ v _ => sp.length - (intOf v).toNat)
            case atStart => exact ⟨false, 0, by omega, rfl, rfl, Lib.hid rfl, Lib.hid (Below.refl _ _)⟩
            case round =>
              obtain ⟨b3, k3, hk3, rfl, rfl, HB3v, HB3⟩ := hrel
              by_cases hlt3 : k3 < sp.length
              · obtain ⟨z, hz⟩ : ∃ z, sp[k3]? = some z := ⟨_, List.getElem?_eq_getElem hlt3⟩
                obtain ⟨bb3, off3, rfl, hb3, hat3⟩ := (HSL.out.below HB3.out).at_ hz
                obtain ⟨hs0, hs1, hs2⟩ := rgS_true (HGS.out z (List.mem_of_getElem? hz))
                have HST := Lib.hid (inS_step (i := i) hz)
                clear hz
                obtain ⟨f0, f1⟩ := hat3.s
                obtain ⟨lo, hi⟩ := z
                simp only at f0 f1 hs0 hs1 hs2 HST
                have R3 := row_new wr #[.int .i64 lo, .int .i64 hi] 55
                have e0 := R3.cell (i := 0) rfl
                have e1 := R3.cell (i := 1) rfl
                have HB4 := Lib.hid (below_trans HB3.out (below1 wr (.cells #[.int .i64 lo, .int .i64 hi] 55)))
                clear R3 hat3
                cases b3 with
                | true =>
                  have HV : Hid (true = inS (sp.take (k3 + 1)) i) := Lib.hid (by rw [HST.out, ← HB3v.out]; rfl)
                  clear HST HB3v
                  go_wp2
                  go_roundw
                  case rel => exact ⟨true, k3 + 1, by omega, rfl, by go_num, HV, HB4⟩
                  case measure => simp [intOf]; omega
                | false =>
                  by_cases q1 : lo ≤ i
                  · by_cases q2 : i ≤ hi
                    · have HV : Hid (true = inS (sp.take (k3 + 1)) i) := Lib.hid (by rw [HST.out, ← HB3v.out, decide_eq_true q1, decide_eq_true q2]; rfl)
                      clear HST HB3v
                      go_wp2
                      go_roundw
                      case rel => exact ⟨true, k3 + 1, by omega, rfl, by go_num, HV, HB4⟩
                      case measure => simp [intOf]; omega
                    · have HV : Hid (false = inS (sp.take (k3 + 1)) i) := Lib.hid (by rw [HST.out, ← HB3v.out, decide_eq_true q1, decide_eq_false q2]; rfl)
                      clear HST HB3v
                      go_wp2
                      go_roundw
                      case rel => exact ⟨false, k3 + 1, by omega, rfl, by go_num, HV, HB4⟩
                      case measure => simp [intOf]; omega
                  · have HV : Hid (false = inS (sp.take (k3 + 1)) i) := Lib.hid (by rw [HST.out, ← HB3v.out, decide_eq_false q1]; rfl)
                    clear HST HB3v
                    go_wp2
                    go_roundw
                    case rel => exact ⟨false, k3 + 1, by omega, rfl, by go_num, HV, HB4⟩
                    case measure => simp [intOf]; omega
              · obtain rfl : k3 = sp.length := by omega
                rw [List.take_length] at HB3v
                have HB4 := Lib.hid (below_trans HB2.out (below_trans HBB.out HB3.out))
                have HR4 := Lib.hid (HRW.out.below HB3.out)
                have d1 := HR4.out.cell (i := 1) rfl
                cases b2 with
                | false =>
                  have HV : Hid (false = hoRow (x.take (k2 + 1)) i) := Lib.hid (by rw [HST2.out, ← HB2v.out]; rfl)
                  go_wp2
                  go_roundw
                  case rel => exact ⟨false, k2 + 1, by omega, rfl, by go_num, HV, HB4⟩
                  case measure => simp [intOf]; omega
                | true =>
                  have HV : Hid ((b3 != ng) = hoRow (x.take (k2 + 1)) i) := Lib.hid (by rw [HST2.out, ← HB2v.out, HHO.out, ← HB3v.out]; rfl)
                  go_wp2
                  go_roundw
                  case rel => exact ⟨(b3 != ng), k2 + 1, by omega, rfl, by go_num, HV, HB4⟩
                  case measure => simp [intOf]; omega
        · obtain rfl : k2 = x.length := by omega
          rw [List.take_length] at HB2v
          have HB4 := Lib.hid (below_trans HB.out HB2.out)
          cases b2 with
          | true =>
            have HE := Lib.hid (hoRule_yes HX.out HB2v.out.symm)
            go_wp2
            go_ret
            exact ⟨ret_bool HE.out.symm, HB4.out⟩
          | false =>
            have HV := HB2v
            clear HB2v
            go_wp2
            go_roundw
            case rel => exact ⟨k + 1, by omega, by go_num, Lib.hid (fun j y hj hy => by
              by_cases hjk : j < k
              · exact HA.out j y hjk hy
              · obtain rfl : j = k := by omega
                rw [HX.out] at hy; obtain rfl := Option.some.inj hy; exact HV.out.symm), HB4⟩
            case measure => simp [intOf]; omega
    · have HE := Lib.hid (hoRule_no (r := xs) (i := i) (fun j x hx => HA.out j x (by have := (List.getElem?_eq_some_iff.1 hx).1; omega) hx))
      go_wp2
      go_ret
      exact ⟨ret_bool HE.out.symm, HB.out⟩

set_option maxHeartbeats 1600000 in
theorem lholds_any (w : World) (a : Option Addr) (cap : Nat) (xs : Rule) (n : Int) (h1 : -9223372036854775808 ≤ n) (h2 : n ≤ 9223372036854775807) (hIn : SlW w (Old w) (.slice a xs.length cap) xs) (ht : TabW w) :
    Calls Tryd.prog 5 #[.slice a xs.length cap, .int .i64 n] w fun e w' => e = .returned (.bool true) ∧ Below w.heap.size w w' := by
  have HIN := Lib.hid hIn
  have HA := Lib.hid (alive_any w ht)
  have HH := Lib.hid (fun (w : World) (h : SlW w (Old w) (.slice a xs.length cap) xs) => holds_any w a cap xs n h1 h2 h)
  have HM := Lib.hid (fun w => amount_any n w h1 h2)
  have HNN := Lib.hid (absF_nn n)
  clear h1 h2 hIn ht
  generalize absF n = i at *
  go_enter Tryd.func5, Tryd.ntmps5
  go_wp2_with fail
  refine HA.out.mono ?_
  rintro e w1 ⟨rfl, hb1⟩
  have HB1 := Lib.hid hb1
  have HI1 := Lib.hid (HIN.out.below hb1)
  clear hb1 HA HIN
  go_wp2_with fail
  refine (HH.out _ HI1.out).mono ?_
  rintro e w2 ⟨rfl, hb2⟩
  have HB2 := Lib.hid (below_trans HB1.out hb2)
  have HI2 := Lib.hid (HI1.out.below hb2)
  have HR := Lib.hid (rright_any w2 a cap xs HI2.out)
  clear hb2 HI1 HH
  cases hr : rgRule xs with
  | false =>
    rw [hr] at HR
    clear hr
    go_wp2_with fail
    refine HR.out.mono ?_
    rintro e w3 ⟨rfl, hb3⟩
    have HB3 := Lib.hid (below_trans HB2.out hb3)
    clear hb3
    go_wp2
    go_ret
    exact ⟨rfl, HB3.out⟩
  | true =>
    rw [hr] at HR
    have HRG := Lib.hid hr
    clear hr
    go_wp2_with fail
    refine HR.out.mono ?_
    rintro e w3 ⟨rfl, hb3⟩
    have HB3 := Lib.hid (below_trans HB2.out hb3)
    have HRH := Lib.hid (rholds_any w3 a cap xs n i HNN.out HM (HI2.out.below hb3) HRG.out)
    clear hb3
    go_wp2_with fail
    refine HRH.out.mono ?_
    rintro e w4 ⟨rfl, hb4⟩
    have HB4 := Lib.hid (below_trans HB3.out hb4)
    clear hb4
    generalize hoRule xs i = t
    go_wp2
    go_ret
    exact ⟨ret_bool (by cases t <;> rfl), HB4.out⟩
end Go.Proofs.YtlgodcbffimcoaaDoor
