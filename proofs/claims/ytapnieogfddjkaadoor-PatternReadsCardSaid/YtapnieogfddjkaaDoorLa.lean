/- The law of the places. -/
import Derived.Test.YtapnieogfddjkaaDoorPa
namespace Go.Proofs.YtapnieogfddjkaaDoor
open Go.RowKit

theorem isA : nameB (⟨#[97]⟩ : BA).data.toList = true := by decide
set_option maxHeartbeats 3200000 in
set_option maxRecDepth 100000 in
theorem places_any (s more : BA) (w : World) (hs : s.size ≤ 140737488351232) (hm : more.size ≤ 140737488351232) (hEV : EnvW w) :
    Calls Tryd.prog 5 #[.string s, .string more] w fun e w' => e = .returned (.bool true) ∧ Below w.heap.size w w' := by
  have HP := Lib.hid (parse_any s w hEV)
  have HNA : Hid (∀ W, Calls Tryd.prog 8 #[.string ⟨#[97]⟩] W fun e w' => e = .returned (.bool true) ∧ w' = W) := Lib.hid (fun W => by have := name_any ⟨#[97]⟩ W (by decide); rw [isA] at this; exact this)
  have HEV := Lib.hid hEV
  clear hEV
  rcases parse_cases s.data.toList with ⟨h1, h2⟩ | h1 | ⟨h1, h2, h3, h4⟩ | h1 | h1
  · generalize parseF s.data.toList = r at *
    obtain ⟨xs, e0, at0⟩ := r
    simp only at h1 h2
    subst h1 h2
    go_enter Tryd.func5, Tryd.ntmps5
    go_wp2_with fail
    refine HP.out.mono ?_
    rintro e w2 ⟨⟨a, cap, n, rfl, -⟩, hb2⟩
    have HB2 := Lib.hid hb2
    have HN2 := Lib.hid (HNA.out w2)
    clear hb2 HP
    obtain ⟨ln, HLL⟩ : ∃ ln, Hid (ln = xs.length) := ⟨_, Lib.hid rfl⟩
    simp only
    rw [← HLL.out]
    go_wp2_with fail
    refine HN2.out.mono ?_
    rintro e w3 ⟨rfl, rfl⟩
    go_wp2
    go_ret
    exact ⟨rfl, HB2.out⟩
  · rw [h1] at HP
    clear h1
    have hll := len_list s
    rw [hll] at HP
    clear hll
    go_enter Tryd.func5, Tryd.ntmps5
    go_wp2_with fail
    refine HP.out.mono ?_
    rintro e w2 ⟨⟨a, cap, n, rfl, -⟩, hb2⟩
    have HB2 := Lib.hid hb2
    have HN2 := Lib.hid (HNA.out w2)
    clear hb2 HP
    simp only [List.length_nil]
    go_wp2_with fail
    refine HN2.out.mono ?_
    rintro e w3 ⟨rfl, rfl⟩
    go_wp2
    go_ret
    exact ⟨rfl, HB2.out⟩
  · generalize HRR : parseF s.data.toList = r at *
    obtain ⟨xs, e0, at0⟩ := r
    simp only at h1 h2 h3
    subst h2
    have hll := len_list s
    rw [hll] at h3
    obtain ⟨a1, HA1⟩ : ∃ a1, Hid (a1 = at0 + 1) := ⟨_, Lib.hid rfl⟩
    have hai : ((at0 : Int) + 1) = (a1 : Int) := by have := HA1.out; omega
    have hal : (a1 : Int) ≤ s.size := by have := HA1.out; omega
    have hal2 : a1 ≤ s.size := by omega
    have HSZ : Hid ((s.extract 0 a1 ++ more).size = a1 + more.size) := Lib.hid (by rw [ByteArray.size_append, ByteArray.size_extract]; omega)
    have HAG : Hid (Ag s.data.toList (s.extract 0 a1 ++ more).data.toList (at0 + 1)) := Lib.hid (by
      have h5 : (s.extract 0 a1 ++ more).data.toList = s.data.toList.take a1 ++ more.data.toList := by
        rw [ByteArray.data_append, Array.toList_append, ByteArray.data_extract, Array.toList_extract, List.extract_eq_take_drop]; rfl
      rw [h5]
      have := HA1.out
      refine ⟨by rw [hll]; omega, by rw [List.length_append, List.length_take, hll]; omega, fun i hi => ?_⟩
      rw [List.getElem?_append_left (by rw [List.length_take, hll]; omega), List.getElem?_take, if_pos (by omega)])
    have HPM : Hid ((s.extract 0 a1 ++ more).size ≤ 2000 → parseF (s.extract 0 a1 ++ more).data.toList = ([], e0, at0)) := Lib.hid (fun h => h4 _ HAG.out (by rw [len_list]; exact h))
    have HP2 : Hid (∀ W, EnvW W → Calls Tryd.prog 6 #[.string (s.extract 0 a1 ++ more)] W fun e w' => (∃ a cap n, e = .returned (.tuple #[.slice a (parseF (s.extract 0 a1 ++ more).data.toList).1.length cap, .int .i64 (parseF (s.extract 0 a1 ++ more).data.toList).2.1, .int .i64 (parseF (s.extract 0 a1 ++ more).data.toList).2.2]) ∧ SlP w' (Fsh W.heap.size w') n (.slice a (parseF (s.extract 0 a1 ++ more).data.toList).1.length cap) (parseF (s.extract 0 a1 ++ more).data.toList).1) ∧ Below W.heap.size W w') := Lib.hid (fun W hW => parse_any _ W hW)
    have hB0 : (at0 : Int) < s.size := by omega
    clear h4 HAG HRR hll
    rcases h1 with rfl | rfl
    all_goals
      go_enter Tryd.func5, Tryd.ntmps5
      go_wp2_with fail
      refine HP.out.mono ?_
      rintro e w2 ⟨⟨a, cap, n, rfl, -⟩, hb2⟩
      have HB2 := Lib.hid hb2
      have HN2 := Lib.hid (HNA.out w2)
      clear hb2 HP
      simp only [List.length_nil]
      go_wp2_with fail
      refine HN2.out.mono ?_
      rintro e w3 ⟨rfl, rfl⟩
      by_cases hbig : a1 + more.size ≤ 2000
      · have HPP := Lib.hid (HP2.out w3 (HEV.out.below HB2.out))
        rw [HPM.out (by rw [HSZ.out]; exact hbig)] at HPP
        have hbg : ¬ (2000 : Int) < (a1 : Int) + (more.size : Int) := by omega
        clear HPM HP2 HSZ hbig
        go_wp2_with fail
        refine HPP.out.mono ?_
        rintro e w4 ⟨⟨a, cap, n, rfl, -⟩, hb4⟩
        have HB4 := Lib.hid (below_trans HB2.out hb4)
        clear hb4 HPP
        simp only [List.length_nil]
        go_wp2
        go_ret
        exact ⟨rfl, HB4.out⟩
      · have hbg : (2000 : Int) < (a1 : Int) + (more.size : Int) := by omega
        clear HPM HP2 HSZ hbig
        go_wp2
        go_ret
        exact ⟨rfl, HB2.out⟩
  · rw [h1] at HP
    clear h1
    go_enter Tryd.func5, Tryd.ntmps5
    go_wp2_with fail
    refine HP.out.mono ?_
    rintro e w2 ⟨⟨a, cap, n, rfl, -⟩, hb2⟩
    have HB2 := Lib.hid hb2
    have HN2 := Lib.hid (HNA.out w2)
    clear hb2 HP
    simp only [List.length_nil]
    go_wp2_with fail
    refine HN2.out.mono ?_
    rintro e w3 ⟨rfl, rfl⟩
    go_wp2
    go_ret
    exact ⟨rfl, HB2.out⟩
  · rw [h1] at HP
    clear h1
    go_enter Tryd.func5, Tryd.ntmps5
    go_wp2_with fail
    refine HP.out.mono ?_
    rintro e w2 ⟨⟨a, cap, n, rfl, -⟩, hb2⟩
    have HB2 := Lib.hid hb2
    have HN2 := Lib.hid (HNA.out w2)
    clear hb2 HP
    simp only [List.length_nil]
    go_wp2_with fail
    refine HN2.out.mono ?_
    rintro e w3 ⟨rfl, rfl⟩
    go_wp2
    go_ret
    exact ⟨rfl, HB2.out⟩
end Go.Proofs.YtapnieogfddjkaaDoor
