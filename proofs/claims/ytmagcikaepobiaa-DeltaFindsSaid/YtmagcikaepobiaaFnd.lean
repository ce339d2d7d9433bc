/- The law DeltaFinds. -/
import Derived.Test.YtmagcikaepobiaaMakL
namespace Go.Proofs.Ytmagcikaepobiaa.Dl
open Go.RowKit

/-- What both arms of the law's place come to. -/
theorem place_in (L : Int) (at' : Int) (h : 1 ≤ L) : 0 ≤ (at'.tmod L + L).tmod L ∧ (at'.tmod L + L).tmod L < L := by
  have h1 : -L < at'.tmod L := by
    have := Int.tmod_lt_of_pos at' (show 0 < L by omega)
    have h2 := Int.lt_tmod_of_pos at' (show 0 < L by omega)
    omega
  have h3 : 0 ≤ at'.tmod L + L := by omega
  rw [Int.tmod_eq_emod_of_nonneg h3]
  exact ⟨Int.emod_nonneg _ (by omega), Int.emod_lt_of_pos _ (by omega)⟩
theorem whole_cut {old : BA} {A M : Nat} (h : A + M ≤ old.size) : (old.extract A (A + M)).size = M ∧ Whole old (old.extract A (A + M)) := by
  have hs : (old.extract A (A + M)).size = M := by rw [ByteArray.size_extract]; omega
  exact ⟨hs, A, by omega, by rw [hs, ext_list, show A + M - A = M by omega]⟩
theorem ext_eq {old now : BA} {f : Nat} (h : (old.data.toList.drop f).take now.size = now.data.toList) : old.extract f (f + now.size) = now := BA.ext (by rw [ext_list, show f + now.size - f = now.size by omega, h])

set_option maxHeartbeats 3200000 in
set_option maxRecDepth 100000 in
theorem finds_long (w : World) (o : BA) (at' n : Int) (ho : o.size ≤ 140737488351232) (hl : 131072 < o.size) : Calls Try.prog 5 #[.string o, .int .i64 at', .int .i64 n] w fun e w' => e = .returned (.bool true) ∧ Below w.heap.size w w' := by
  have HA := Lib.hid (make_long w o ⟨#[97]⟩ (.inl hl) ho (by decide))
  have HB := Lib.hid (fun w => make_long w ⟨#[97]⟩ o (.inr hl) (by decide) ho)
  go_enter Try.func5, Try.ntmps5
  go_wp2_with fail
  refine HA.out.mono ?_
  rintro e w1 ⟨rfl, hb1⟩
  have HB1 := Lib.hid hb1
  clear hb1
  go_wp2_with fail
  refine (HB.out _).mono ?_
  rintro e w2 ⟨rfl, hb2⟩
  have HB2 := Lib.hid (below_trans HB1.out hb2)
  clear hb2
  go_wp2
  go_ret
  exact ⟨rfl, HB2.out⟩

theorem own_one {w : World} {B : Nat} {v : Value} {x : Opr} (h : Own w B v [x]) : ∃ g cap, v = .slice (some ⟨g, 0, none⟩) 1 cap ∧ 1 ≤ cap ∧ cap ≤ 9223372036854775807 ∧ w.cell? ⟨g, 0, none⟩ = some (.int .i64 x.f) ∧ w.cell? ⟨g, 1, none⟩ = some (.int .i64 x.n) := by
  rcases h.2 with ⟨_, h0⟩ | ⟨g, cap, cur, rfl, -, hg, hc, hm, -, ht⟩
  · simp at h0
  · unfold maxLen at hm
    have hcell : ∀ i u, (flat [x])[i]? = some u → w.cell? ⟨g, i, none⟩ = some u := fun i u hu => by
      have hlt := (List.getElem?_eq_some_iff.1 hu).1
      rw [flat_length] at hlt
      rw [← ht, List.getElem?_take, if_pos (by omega), Array.getElem?_toList] at hu
      simp only [World.cell?, hg, hu]
      simp
    exact ⟨g, cap, rfl, hc, hm, hcell 0 _ rfl, hcell 1 _ rfl⟩

set_option maxHeartbeats 6400000 in
set_option maxRecDepth 100000 in
theorem finds_any (w : World) (o : BA) (at' n : Int) (m : Int) (ho : o.size ≤ 140737488351232) (_ha1 : -9223372036854775808 ≤ at') (_ha2 : at' ≤ 9223372036854775807) (_hn1 : -9223372036854775808 ≤ n) (_hn2 : n ≤ 9223372036854775807) (hm : w.cell? ⟨0, 0, none⟩ = some (.int .i64 m)) : Calls Try.prog 5 #[.string o, .int .i64 at', .int .i64 n] w fun e w' => e = .returned (.bool true) ∧ Below w.heap.size w w' := by
  by_cases hl : 131072 < o.size
  · exact finds_long w o at' n ho hl
  · have HS1 := Lib.hid (short_any o 3000 w (by decide) ho)
    have h1 := cutB_size o 3000
    generalize cutB o 3000 = old at *
    by_cases h16 : old.size < 16
    · go_enter Try.func5, Try.ntmps5
      go_wp2_with fail
      refine HS1.out.mono ?_
      rintro e w1 ⟨rfl, rfl⟩
      go_wp2_with fail
      refine (right_one w1).mono ?_
      rintro e w8 ⟨rfl, hb8⟩
      have HB8 := Lib.hid hb8
      clear hb8
      go_wp2
      go_ret
      exact ⟨rfl, HB8.out⟩
    · obtain ⟨p1, p2⟩ := place_in (old.size : Int) at' (by omega)
      have q1 := Int.tmod_lt_of_pos at' (show 0 < (old.size : Int) by omega)
      have q2 := Int.lt_tmod_of_pos at' (show 0 < (old.size : Int) by omega)
      generalize ht1 : at'.tmod (old.size : Int) = t1 at *
      by_cases hbig : (old.size : Int) - 16 < (t1 + (old.size : Int)).tmod (old.size : Int)
      · generalize ht2 : (t1 + (old.size : Int)).tmod (old.size : Int) = t2 at *
        obtain ⟨A, hA⟩ : ∃ A : Nat, (old.size : Int) - 16 = (A : Int) := ⟨old.size - 16, by omega⟩
        rw [hA] at hbig
        have hR := place_in ((old.size : Int) - (A : Int) - 16 + 1) n (by omega)
        have r1 := Int.tmod_lt_of_pos n (show 0 < (old.size : Int) - (A : Int) - 16 + 1 by omega)
        have r2 := Int.lt_tmod_of_pos n (show 0 < (old.size : Int) - (A : Int) - 16 + 1 by omega)
        obtain ⟨r3, r4⟩ := hR
        generalize ht3 : n.tmod ((old.size : Int) - (A : Int) - 16 + 1) = t3 at *
        obtain ⟨T, hT⟩ : ∃ T : Nat, (t3 + ((old.size : Int) - (A : Int) - 16 + 1)).tmod ((old.size : Int) - (A : Int) - 16 + 1) = (T : Int) := ⟨_, (Int.toNat_of_nonneg r3).symm⟩
        rw [hT] at r3 r4
        have hAT : A + (16 + T) ≤ old.size := by omega
        have hto : ((A : Int) + (16 + (T : Int))).toNat = A + (16 + T) := by omega
        obtain ⟨hns, hwh⟩ := whole_cut hAT
        have HMK := Lib.hid (make_any w old (old.extract A (A + (16 + T))) m (by omega) (by omega) hm)
        have HNS := Lib.hid hns
        have HWH := Lib.hid hwh
        clear hns hwh hm
        go_enter Try.func5, Try.ntmps5
        go_wp2_with fail
        refine HS1.out.mono ?_
        rintro e w1 ⟨rfl, rfl⟩
        go_wp2_with fail
        refine HMK.out.mono ?_
        rintro e w3 ⟨v, rfl, ⟨d, hd, -, hone⟩, hb3⟩
        obtain ⟨f, rfl, hf1, hf2⟩ := hone (by rw [HNS.out]; omega) HWH.out
        have hX := ext_eq hf2
        have HB3 := Lib.hid hb3
        obtain ⟨g, cap, rfl, hc1, hc2, c0, c1⟩ := own_one hd
        simp only at c0 c1
        rw [HNS.out] at hX hf1 c1
        clear hf2 hd hb3 HNS HWH HMK hone
        have hf3 : (f : Int) + (16 + (T : Int)) ≤ (old.size : Int) := by omega
        have hfo : ((f : Int) + (16 + (T : Int))).toNat = f + (16 + T) := by omega
        have hcast : ((16 + T : Nat) : Int) = 16 + (T : Int) := by omega
        rw [hcast] at c1
        clear hcast
        go_wp2_with fail
        go_quiet (fail)
        go_wp2
        go_ret
        exact ⟨by simp, below_drewN HB3.out _⟩
      · obtain ⟨A, hA⟩ : ∃ A : Nat, (t1 + (old.size : Int)).tmod (old.size : Int) = (A : Int) := ⟨_, (Int.toNat_of_nonneg p1).symm⟩
        rw [hA] at hbig p2
        have hR := place_in ((old.size : Int) - (A : Int) - 16 + 1) n (by omega)
        have r1 := Int.tmod_lt_of_pos n (show 0 < (old.size : Int) - (A : Int) - 16 + 1 by omega)
        have r2 := Int.lt_tmod_of_pos n (show 0 < (old.size : Int) - (A : Int) - 16 + 1 by omega)
        obtain ⟨r3, r4⟩ := hR
        generalize ht3 : n.tmod ((old.size : Int) - (A : Int) - 16 + 1) = t3 at *
        obtain ⟨T, hT⟩ : ∃ T : Nat, (t3 + ((old.size : Int) - (A : Int) - 16 + 1)).tmod ((old.size : Int) - (A : Int) - 16 + 1) = (T : Int) := ⟨_, (Int.toNat_of_nonneg r3).symm⟩
        rw [hT] at r3 r4
        have hAT : A + (16 + T) ≤ old.size := by omega
        have hto : ((A : Int) + (16 + (T : Int))).toNat = A + (16 + T) := by omega
        obtain ⟨hns, hwh⟩ := whole_cut hAT
        have HMK := Lib.hid (make_any w old (old.extract A (A + (16 + T))) m (by omega) (by omega) hm)
        have HNS := Lib.hid hns
        have HWH := Lib.hid hwh
        clear hns hwh hm
        go_enter Try.func5, Try.ntmps5
        go_wp2_with fail
        refine HS1.out.mono ?_
        rintro e w1 ⟨rfl, rfl⟩
        go_wp2_with fail
        refine HMK.out.mono ?_
        rintro e w3 ⟨v, rfl, ⟨d, hd, -, hone⟩, hb3⟩
        obtain ⟨f, rfl, hf1, hf2⟩ := hone (by rw [HNS.out]; omega) HWH.out
        have hX := ext_eq hf2
        have HB3 := Lib.hid hb3
        obtain ⟨g, cap, rfl, hc1, hc2, c0, c1⟩ := own_one hd
        simp only at c0 c1
        rw [HNS.out] at hX hf1 c1
        clear hf2 hd hb3 HNS HWH HMK hone
        have hf3 : (f : Int) + (16 + (T : Int)) ≤ (old.size : Int) := by omega
        have hfo : ((f : Int) + (16 + (T : Int))).toNat = f + (16 + T) := by omega
        have hcast : ((16 + T : Nat) : Int) = 16 + (T : Int) := by omega
        rw [hcast] at c1
        clear hcast
        go_wp2_with fail
        go_quiet (fail)
        go_wp2
        go_ret
        exact ⟨by simp, below_drewN HB3.out _⟩
end Go.Proofs.Ytmagcikaepobiaa.Dl
