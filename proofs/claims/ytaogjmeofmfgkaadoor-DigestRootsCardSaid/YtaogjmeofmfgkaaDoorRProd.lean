/- The document's above and product. -/
import Derived.Test.YtaogjmeofmfgkaaDoorRDig
import Derived.Test.YtaogjmeofmfgkaaDoorOf
namespace Go.Proofs.YtaogjmeofmfgkaaDoor
open Go.RowKit

theorem getD_out (l : List Nat) (i : Nat) (h : l.length ≤ i) : l.getD i 0 = 0 := by
  rw [List.getD_eq_getElem?_getD, List.getElem?_eq_none h]; rfl
theorem above_val {a b : List Nat} {i : Nat} (ha : DigAll a) (hb : DigAll b) (hq : ∀ k, i + 1 ≤ k → a.getD k 0 = b.getD k 0) (hne : ¬ a.getD i 0 = b.getD i 0) {x y : Int} (hx : x = ((a.getD i 0 : Nat) : Int)) (hy : y = ((b.getD i 0 : Nat) : Int)) : decide (y < x) = decide (valD b < valD a) := by
  rw [decide_eq_decide, hx, hy]
  rcases Nat.lt_or_ge (b.getD i 0) (a.getD i 0) with h | h
  · have := valD_gt i a b hb (fun k hk => hq k hk) h
    exact ⟨fun _ => this, fun _ => by omega⟩
  · have := valD_gt i b a ha (fun k hk => (hq k hk).symm) (by omega)
    exact ⟨fun h2 => by omega, fun h2 => by omega⟩

set_option maxHeartbeats 2000000 in
set_option maxRecDepth 100000 in
theorem above_any (va vb : Value) (a b : List Nat) (w : World) (hal : a.length ≤ 100) (hbl : b.length ≤ 100) (hA : DR w va a) (hB : DR w vb b) : Calls Tryd.prog 31 #[va, vb] w fun e w' => e = .returned (.bool (decide (valD b < valD a))) ∧ w = w' := by
  obtain ⟨⟨g1, cap1, rfl, -, -, ha⟩, hda⟩ := hA
  obtain ⟨⟨g2, cap2, rfl, -, -, hb⟩, hdb⟩ := hB
  have HA := Lib.hid ha
  have HB := Lib.hid hb
  clear ha hb
  by_cases hab : a.length < b.length
  · have hi : (a.length : Int) < (b.length : Int) := by omega
    go_enter Tryd.func31, Tryd.ntmps31
    go_wp2
    go_loopw [6] (fun x wr => ∃ i1 : Nat, i1 ≤ b.length ∧ x = .int .i64 ((i1 : Int) - 1) ∧ wr = w ∧ Hid (∀ k, i1 ≤ k → a.getD k 0 = b.getD k 0)) (fun x _ => (intOf x + 1).toNat)
    case atStart => exact ⟨b.length, by omega, rfl, rfl, Lib.hid (fun k hk => by rw [getD_out a k (by omega), getD_out b k (by omega)])⟩
    case round =>
      obtain ⟨i1, hi1, rfl, rfl, HQ⟩ := hrel
      rcases Nat.eq_zero_or_pos i1 with rfl | hpos
      · have HV : Hid (false = decide (valD b < valD a)) := Lib.hid (by
          have := valD_ext (max a.length b.length) a b (by omega) (by omega) (fun k => HQ.out k (by omega))
          rw [this]; simp)
        rw [show (((0 : Nat) : Int) - 1) = (-1 : Int) from rfl]
        go_wp2
        go_ret
        exact ⟨ret_bool (by first | exact HV.out | simpa using HV.out), rfl⟩
      · obtain ⟨i, rfl⟩ : ∃ i, i1 = i + 1 := ⟨i1 - 1, by omega⟩
        rw [show (((i + 1 : Nat) : Int) - 1) = (i : Int) by omega]
        by_cases hia : i < a.length
        · by_cases hib : i < b.length
          · by_cases hxy : a.getD i 0 = b.getD i 0
            · have c1 := HA.out i hia
              have c2 := HB.out i hib
              have hB : (((a.getD i 0 : Nat) : Int) != ((b.getD i 0 : Nat) : Int)) = false := by simp only [bne_eq_false_iff_eq]; omega
              have HQ2 : Hid (∀ k, i ≤ k → a.getD k 0 = b.getD k 0) := Lib.hid (fun k hk => by
                rcases Nat.lt_or_eq_of_le hk with h | rfl
                · exact HQ.out k h
                · exact hxy)
              clear HQ
              generalize a.getD i 0 = x at *
              generalize b.getD i 0 = y at *
              go_wp2
              refine ⟨⟨i, by omega, rfl, trivial, HQ2⟩, ?_⟩
              simp [intOf]
            · have c1 := HA.out i hia
              have c2 := HB.out i hib
              have hB : (((a.getD i 0 : Nat) : Int) != ((b.getD i 0 : Nat) : Int)) = true := by simp only [bne_iff_ne]; omega
              have HV : Hid (decide (((b.getD i 0 : Nat) : Int) < ((a.getD i 0 : Nat) : Int)) = decide (valD b < valD a)) := Lib.hid (above_val hda hdb HQ.out hxy rfl rfl)
              clear HQ
              generalize a.getD i 0 = x at *
              generalize b.getD i 0 = y at *
              go_wp2
              go_ret
              exact ⟨ret_bool (by first | exact HV.out | simpa using HV.out), rfl⟩
          · by_cases hxy : a.getD i 0 = b.getD i 0
            · have c1 := HA.out i hia
              have e2 : b.getD i 0 = 0 := getD_out b i (by omega)
              have hB : (((a.getD i 0 : Nat) : Int) != 0) = false := by simp only [bne_eq_false_iff_eq]; omega
              have HQ2 : Hid (∀ k, i ≤ k → a.getD k 0 = b.getD k 0) := Lib.hid (fun k hk => by
                rcases Nat.lt_or_eq_of_le hk with h | rfl
                · exact HQ.out k h
                · exact hxy)
              clear HQ
              generalize a.getD i 0 = x at *
              go_wp2
              refine ⟨⟨i, by omega, rfl, trivial, HQ2⟩, ?_⟩
              simp [intOf]
            · have c1 := HA.out i hia
              have e2 : b.getD i 0 = 0 := getD_out b i (by omega)
              have hB : (((a.getD i 0 : Nat) : Int) != 0) = true := by simp only [bne_iff_ne]; omega
              have HV : Hid (decide (0 < ((a.getD i 0 : Nat) : Int)) = decide (valD b < valD a)) := Lib.hid (above_val hda hdb HQ.out hxy rfl (by rw [e2]; rfl))
              clear HQ
              generalize a.getD i 0 = x at *
              go_wp2
              go_ret
              exact ⟨ret_bool (by first | exact HV.out | simpa using HV.out), rfl⟩
        · have hib : i < b.length := by omega
          by_cases hxy : a.getD i 0 = b.getD i 0
          · have e1 : a.getD i 0 = 0 := getD_out a i (by omega)
            have c2 := HB.out i hib
            have hB : ((0 : Int) != ((b.getD i 0 : Nat) : Int)) = false := by simp only [bne_eq_false_iff_eq]; omega
            have HQ2 : Hid (∀ k, i ≤ k → a.getD k 0 = b.getD k 0) := Lib.hid (fun k hk => by
              rcases Nat.lt_or_eq_of_le hk with h | rfl
              · exact HQ.out k h
              · exact hxy)
            clear HQ
            generalize b.getD i 0 = y at *
            go_wp2
            refine ⟨⟨i, by omega, rfl, trivial, HQ2⟩, ?_⟩
            simp [intOf]
          · have e1 : a.getD i 0 = 0 := getD_out a i (by omega)
            have c2 := HB.out i hib
            have hB : ((0 : Int) != ((b.getD i 0 : Nat) : Int)) = true := by simp only [bne_iff_ne]; omega
            have HV : Hid (decide (((b.getD i 0 : Nat) : Int) < (0 : Int)) = decide (valD b < valD a)) := Lib.hid (above_val hda hdb HQ.out hxy (by rw [e1]; rfl) rfl)
            clear HQ
            generalize b.getD i 0 = y at *
            go_wp2
            go_ret
            exact ⟨ret_bool (by first | exact HV.out | simpa using HV.out), rfl⟩
  · have hi : ¬ (a.length : Int) < (b.length : Int) := by omega
    go_enter Tryd.func31, Tryd.ntmps31
    go_wp2
    go_loopw [6] (fun x wr => ∃ i1 : Nat, i1 ≤ a.length ∧ x = .int .i64 ((i1 : Int) - 1) ∧ wr = w ∧ Hid (∀ k, i1 ≤ k → a.getD k 0 = b.getD k 0)) (fun x _ => (intOf x + 1).toNat)
    case atStart => exact ⟨a.length, by omega, rfl, rfl, Lib.hid (fun k hk => by rw [getD_out a k (by omega), getD_out b k (by omega)])⟩
    case round =>
      obtain ⟨i1, hi1, rfl, rfl, HQ⟩ := hrel
      rcases Nat.eq_zero_or_pos i1 with rfl | hpos
      · have HV : Hid (false = decide (valD b < valD a)) := Lib.hid (by
          have := valD_ext (max a.length b.length) a b (by omega) (by omega) (fun k => HQ.out k (by omega))
          rw [this]; simp)
        rw [show (((0 : Nat) : Int) - 1) = (-1 : Int) from rfl]
        go_wp2
        go_ret
        exact ⟨ret_bool (by first | exact HV.out | simpa using HV.out), rfl⟩
      · obtain ⟨i, rfl⟩ : ∃ i, i1 = i + 1 := ⟨i1 - 1, by omega⟩
        rw [show (((i + 1 : Nat) : Int) - 1) = (i : Int) by omega]
        by_cases hia : i < a.length
        · by_cases hib : i < b.length
          · by_cases hxy : a.getD i 0 = b.getD i 0
            · have c1 := HA.out i hia
              have c2 := HB.out i hib
              have hB : (((a.getD i 0 : Nat) : Int) != ((b.getD i 0 : Nat) : Int)) = false := by simp only [bne_eq_false_iff_eq]; omega
              have HQ2 : Hid (∀ k, i ≤ k → a.getD k 0 = b.getD k 0) := Lib.hid (fun k hk => by
                rcases Nat.lt_or_eq_of_le hk with h | rfl
                · exact HQ.out k h
                · exact hxy)
              clear HQ
              generalize a.getD i 0 = x at *
              generalize b.getD i 0 = y at *
              go_wp2
              refine ⟨⟨i, by omega, rfl, trivial, HQ2⟩, ?_⟩
              simp [intOf]
            · have c1 := HA.out i hia
              have c2 := HB.out i hib
              have hB : (((a.getD i 0 : Nat) : Int) != ((b.getD i 0 : Nat) : Int)) = true := by simp only [bne_iff_ne]; omega
              have HV : Hid (decide (((b.getD i 0 : Nat) : Int) < ((a.getD i 0 : Nat) : Int)) = decide (valD b < valD a)) := Lib.hid (above_val hda hdb HQ.out hxy rfl rfl)
              clear HQ
              generalize a.getD i 0 = x at *
              generalize b.getD i 0 = y at *
              go_wp2
              go_ret
              exact ⟨ret_bool (by first | exact HV.out | simpa using HV.out), rfl⟩
          · by_cases hxy : a.getD i 0 = b.getD i 0
            · have c1 := HA.out i hia
              have e2 : b.getD i 0 = 0 := getD_out b i (by omega)
              have hB : (((a.getD i 0 : Nat) : Int) != 0) = false := by simp only [bne_eq_false_iff_eq]; omega
              have HQ2 : Hid (∀ k, i ≤ k → a.getD k 0 = b.getD k 0) := Lib.hid (fun k hk => by
                rcases Nat.lt_or_eq_of_le hk with h | rfl
                · exact HQ.out k h
                · exact hxy)
              clear HQ
              generalize a.getD i 0 = x at *
              go_wp2
              refine ⟨⟨i, by omega, rfl, trivial, HQ2⟩, ?_⟩
              simp [intOf]
            · have c1 := HA.out i hia
              have e2 : b.getD i 0 = 0 := getD_out b i (by omega)
              have hB : (((a.getD i 0 : Nat) : Int) != 0) = true := by simp only [bne_iff_ne]; omega
              have HV : Hid (decide (0 < ((a.getD i 0 : Nat) : Int)) = decide (valD b < valD a)) := Lib.hid (above_val hda hdb HQ.out hxy rfl (by rw [e2]; rfl))
              clear HQ
              generalize a.getD i 0 = x at *
              go_wp2
              go_ret
              exact ⟨ret_bool (by first | exact HV.out | simpa using HV.out), rfl⟩
        · have hib : i < b.length := by omega
          by_cases hxy : a.getD i 0 = b.getD i 0
          · have e1 : a.getD i 0 = 0 := getD_out a i (by omega)
            have c2 := HB.out i hib
            have hB : ((0 : Int) != ((b.getD i 0 : Nat) : Int)) = false := by simp only [bne_eq_false_iff_eq]; omega
            have HQ2 : Hid (∀ k, i ≤ k → a.getD k 0 = b.getD k 0) := Lib.hid (fun k hk => by
              rcases Nat.lt_or_eq_of_le hk with h | rfl
              · exact HQ.out k h
              · exact hxy)
            clear HQ
            generalize b.getD i 0 = y at *
            go_wp2
            refine ⟨⟨i, by omega, rfl, trivial, HQ2⟩, ?_⟩
            simp [intOf]
          · have e1 : a.getD i 0 = 0 := getD_out a i (by omega)
            have c2 := HB.out i hib
            have hB : ((0 : Int) != ((b.getD i 0 : Nat) : Int)) = true := by simp only [bne_iff_ne]; omega
            have HV : Hid (decide (((b.getD i 0 : Nat) : Int) < (0 : Int)) = decide (valD b < valD a)) := Lib.hid (above_val hda hdb HQ.out hxy (by rw [e1]; rfl) rfl)
            clear HQ
            generalize b.getD i 0 = y at *
            go_wp2
            go_ret
            exact ⟨ret_bool (by first | exact HV.out | simpa using HV.out), rfl⟩
end Go.Proofs.YtaogjmeofmfgkaaDoor
