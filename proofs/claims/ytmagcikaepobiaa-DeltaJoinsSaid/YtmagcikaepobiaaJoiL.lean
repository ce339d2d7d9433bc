/- The law DeltaJoins. -/
import Derived.Test.YtmagcikaepobiaaJoi
import Derived.Test.YtmagcikaepobiaaDAppL
import Derived.Test.YtmagcikaepobiaaShelfJ
import Derived.Lib.AppendZeros
namespace Go.Proofs.Ytmagcikaepobiaa.Dl
open Go.RowKit

theorem join_two (w : World) (x y : BA) (hl : x.size + y.size ≤ 1048576) : ∃ r : BA, r.data.toList = x.data.toList ++ y.data.toList ∧ Calls Try.prog 16 #[.slice (some ⟨w.heap.size, 0, none⟩) 2 2, .string ByteArray.empty] (w.alloc (.cells #[.string x, .string y] 9)) fun e w' => e = .returned (.string r) ∧ Below w.heap.size w w' := by
  have hj : Lib.join ([x, y].map (·.data.toList)) (ByteArray.empty).data.toList = x.data.toList ++ y.data.toList := by
    show Lib.join [x.data.toList, y.data.toList] [] = _
    simp [Lib.join, List.intercalate, List.intersperse]
  have R := row_new w #[.string x, .string y] 9
  have h := Try.strings_Join w.heap.size 0 2 [x, y] ByteArray.empty (w.alloc (.cells #[.string x, .string y] 9)) (fun j z hz => by
    rw [Nat.zero_add]
    match j, hz with
    | 0, hz => obtain rfl := Option.some.inj hz; exact R.cell (i := 0) rfl
    | 1, hz => obtain rfl := Option.some.inj hz; exact R.cell (i := 1) rfl) (by simp) (by show 2 ≤ 140737488355328; decide) (Nat.le_refl 2) (by rw [hj, List.length_append, BA.len, BA.len]; omega)
  rw [hj] at h
  exact ⟨⟨(x.data.toList ++ y.data.toList).toArray⟩, rfl, h.mono (by
    rintro e w' ⟨rfl, hb⟩
    exact ⟨rfl, below_trans (below1 w _) hb⟩)⟩
theorem ba_of {x : BA} (h : x = ByteArray.empty) : x = ⟨#[]⟩ := h

set_option maxHeartbeats 6400000 in
set_option maxRecDepth 100000 in
theorem joins_any (w : World) (old : BA) (a : Option Addr) (ca : Nat) (xa : List Opr) (b : Option Addr) (cb : Nat) (xb : List Opr) (ho : old.size ≤ 140737488351232) (ha : ArgO w a ca xa) (hb : ArgO w b cb xb) :
    Calls Try.prog 6 #[.string old, .slice a xa.length ca, .slice b xb.length cb] w fun e w' => e = .returned (.bool true) ∧ Below w.heap.size w w' := by
  have HF1 := Lib.hid (few_any w a ca xa ha.len ha.capg ha.capm ha.nil)
  have HF2 := Lib.hid (few_any w b cb xb hb.len hb.capg hb.capm hb.nil)
  have hya := ha.few
  have hyb := hb.few
  generalize fewL xa = ya at hya HF1
  generalize fewL xb = yb at hyb HF2
  have HA : Hid (∀ w', Below w.heap.size w w' → ArgO w' a ca ya) := Lib.hid (fun w' h => hya.below h)
  have HB : Hid (∀ w', Below w.heap.size w w' → ArgO w' b cb yb) := Lib.hid (fun w' h => hyb.below h)
  have l1 := hya.lenr
  have l2 := hyb.lenr
  clear ha hb hya hyb
  by_cases hs : ya.length + yb.length ≤ 200 ∧ old.size ≤ 3000
  · obtain ⟨hs1, hs2⟩ := hs
    have HJ := Lib.hid (joinCase old ya yb hs1)
    have Y0 := HA.out _ (Below.refl _ _)
    have HP1 := Lib.hid (apply_any w old a ca ya 1048576 ho Y0.len Y0.szs Y0.ini)
    have HSA := Lib.hid Y0.szs
    have Z0 := HB.out _ (Below.refl _ _)
    have HSB := Lib.hid Z0.szs
    have HP2 : Hid (∀ w1, Below w.heap.size w w1 → Calls Try.prog 8 #[.string old, .slice b yb.length cb, .int .i64 1048576] w1 fun e w' => e = .returned (.tuple #[.string (appF old yb 1048576).1, .int .i64 (appF old yb 1048576).2]) ∧ Below w1.heap.size w1 w') := Lib.hid (fun w1 h => by
      have Z1 := HB.out _ h
      exact apply_any w1 old b cb yb 1048576 ho Z1.len Z1.szs Z1.ini)
    have HP3 : Hid (∀ w1 a2 c2, InI w1 a2 (ya ++ yb) → Calls Try.prog 8 #[.string old, .slice a2 (ya ++ yb).length c2, .int .i64 1048576] w1 fun e w' => e = .returned (.tuple #[.string (appF old (ya ++ yb) 1048576).1, .int .i64 (appF old (ya ++ yb) 1048576).2]) ∧ Below w1.heap.size w1 w') := Lib.hid (fun w1 a2 c2 h =>
      apply_any w1 old a2 c2 (ya ++ yb) 1048576 ho (by rw [List.length_append]; omega) (fun j x hj => by
        rw [List.getElem?_append] at hj
        split at hj
        · exact HSA.out j x hj
        · exact HSB.out _ x hj) h)
    clear Y0 Z0 HSA HSB
    generalize appF old ya 1048576 = A1 at *
    generalize appF old yb 1048576 = B1 at *
    generalize appF old (ya ++ yb) 1048576 = C1 at *
    obtain ⟨x, e⟩ := A1
    obtain ⟨y, f⟩ := B1
    obtain ⟨z, g⟩ := C1
    simp only at HJ HP1 HP2 HP3
    go_enter Try.func6, Try.ntmps6
    go_wp2_with fail
    refine HF1.out.mono ?_
    rintro e0 w1 ⟨rfl, rfl⟩
    go_wp2_with fail
    refine HF2.out.mono ?_
    rintro e0 w1 ⟨rfl, rfl⟩
    go_wp2_with fail
    refine HP1.out.mono ?_
    rintro e0 w1 ⟨rfl, hb1⟩
    have HB1 := Lib.hid hb1
    clear hb1 HP1
    go_wp2_with fail
    refine (HP2.out _ HB1.out).mono ?_
    rintro e0 w2 ⟨rfl, hb2⟩
    have HB2 := Lib.hid (below_trans HB1.out hb2)
    clear hb2 HP2 HB1
    obtain ⟨v3, w3, hr3, hown3, hgrow3⟩ := run_append_its (w2.alloc (.cells #[] 30)) 22 w2.heap.size (.slice (some ⟨w2.heap.size, 0, none⟩) 0 0) [] (World.ownsRow_made w2 #[] 0 (Nat.le_refl _) (Nat.zero_le _) (by simp)) a ca ya ((HA.out _ HB2.out).ini.below (below1 _ _)) (by simp; omega) (by simp)
    have HO3 : Hid (Own w3 w2.heap.size v3 ya) := Lib.hid (by simpa using hown3)
    have HB3 : Hid (Below w2.heap.size w2 w3) := Lib.hid ((below1 w2 _).grown hgrow3 (by simp) (by intro k hk; simp [Value.ownBlock] at hk; omega))
    have HR3 := Lib.hid hr3
    clear hr3 hown3 hgrow3
    obtain ⟨v4, w4, hr4, hown4, hgrow4⟩ := run_append_its w3 22 w2.heap.size v3 ya HO3.out b cb yb ((HB.out _ HB2.out).ini.below HB3.out) (by omega) HB3.out.size
    have HB4 : Hid (Below w2.heap.size w2 w4) := Lib.hid (HB3.out.grown hgrow4 HB3.out.size (fun k hk => (HO3.out.lt k hk).1))
    have HR4 := Lib.hid hr4
    obtain ⟨a4, c4, hv4, -, hin4⟩ := InI.of_owns hown4
    have HP4 := Lib.hid (HP3.out w4 a4 c4 hin4)
    clear hr4 hown4 hgrow4 hin4 HP3
    rw [hv4] at HR4
    clear hv4
    have hzl : (ya ++ yb).length ≤ 200 := by rw [List.length_append]; omega
    generalize ya ++ yb = zs at *
    go_wp2_with (first
      | (at_builtin; refine Lib.wpList_append_run _ rfl _ _ _ _ rfl _ _ rfl rfl _ _ HR3.out ?_)
      | (at_builtin; refine Lib.wpList_append_run _ rfl _ _ _ _ rfl _ _ rfl rfl _ _ HR4.out ?_))
    refine HP4.out.mono ?_
    rintro e0 w5 ⟨rfl, hb5⟩
    have HB5 := Lib.hid ((HB2.out.trans (HB4.out.mono HB2.out.size)).trans (hb5.mono (Nat.le_trans HB2.out.size HB4.out.size)))
    clear hb5 HP4 HR3 HR4 HB4 HB3 HB2 HO3 HA HB HF1 HF2
    rcases HJ.out with ⟨h1, h2, rfl⟩ | ⟨⟨rfl, rfl⟩, ⟨hx1, hx2⟩, h1, rfl, rfl⟩ | ⟨⟨rfl, rfl⟩, h1, rfl, h3⟩
    · have g1 : (g != 0) = true := by simpa using h2
      clear HJ
      by_cases he : e = 0
      · subst he
        have f1 : (f != 0) = true := by simpa using h1
        go_wp2
        go_ret
        exact ⟨rfl, HB5.out⟩
      · have e1 : (e != 0) = true := by simpa using he
        go_wp2
        go_ret
        exact ⟨rfl, HB5.out⟩
    · clear HJ
      have h4 : (1048576 : Int) < (x.size : Int) + (y.size : Int) := by omega
      go_wp2
      go_ret
      exact ⟨rfl, HB5.out⟩
    · obtain ⟨r, hr, hj⟩ := join_two w5 x y h1
      obtain rfl : z = r := BA.ext (by rw [h3, hr])
      have HJN := Lib.hid hj
      clear hj hr h3 HJ
      have h4 : ¬ (1048576 : Int) < (x.size : Int) + (y.size : Int) := by omega
      go_wp2_with fail
      refine HJN.out.mono ?_
      rintro e0 w6 ⟨rfl, hb6⟩
      have HB6 := Lib.hid (below_trans HB5.out hb6)
      clear hb6 HJN
      go_wp2_with fail
      refine (right_one w6).mono ?_
      rintro e0 w8 ⟨rfl, hb8⟩
      have HB8 := Lib.hid (below_trans HB6.out hb8)
      clear hb8
      go_wp2
      go_ret
      exact ⟨by simp, HB8.out⟩
  · have hs2 : 200 < (ya.length : Int) + (yb.length : Int) ∨ 3000 < (old.size : Int) := by omega
    rcases hs2 with h | h
    · go_enter Try.func6, Try.ntmps6
      go_wp2_with fail
      refine HF1.out.mono ?_
      rintro e0 w1 ⟨rfl, rfl⟩
      go_wp2_with fail
      refine HF2.out.mono ?_
      rintro e0 w1 ⟨rfl, rfl⟩
      go_wp2_with fail
      go_ret
      exact ⟨rfl, Below.refl _ _⟩
    · by_cases h2 : 200 < (ya.length : Int) + (yb.length : Int)
      all_goals
        go_enter Try.func6, Try.ntmps6
        go_wp2_with fail
        refine HF1.out.mono ?_
        rintro e0 w1 ⟨rfl, rfl⟩
        go_wp2_with fail
        refine HF2.out.mono ?_
        rintro e0 w1 ⟨rfl, rfl⟩
        go_wp2_with fail
        go_ret
        exact ⟨rfl, Below.refl _ _⟩
end Go.Proofs.Ytmagcikaepobiaa.Dl
