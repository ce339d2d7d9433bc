/- MerkleProves: what the law answers. -/
import Derived.Test.YtnmhmemlgibedaaDoorRPrf
namespace Go.Proofs.YtnmhmemlgibedaaDoor
open Go.RowKit

set_option maxHeartbeats 3200000 in
set_option maxRecDepth 100000 in
theorem proves_any (w : World) (a : Option Addr) (cap : Nat) (xs : List BA) (i : Int) (ht : Tab w) (hi1 : -9223372036854775808 ≤ i) (hi2 : i ≤ 9223372036854775807) (hl : xs.length ≤ 9223372036854775807) (hc : xs.length ≤ cap) (hc2 : cap ≤ 9223372036854775807) (hx : ∀ x, x ∈ xs → x.size ≤ 9223372036854775807) (hIn : InS w a xs) :
    Calls Tryd.prog 4 #[.slice a xs.length cap, .int .i64 i] w fun e w' => e = .returned (.bool true) ∧ Below w.heap.size w w' := by
  have HT := Lib.hid ht
  have HCUT := Lib.hid (cut_any w a cap xs hl hc hc2)
  have HIN := Lib.hid (cutL_ins hIn)
  have hzl := cutL_le xs
  have HX : Hid (∀ x, x ∈ cutL xs → x.size ≤ 9223372036854775807) := Lib.hid (fun x h => hx x (cutL_mem h))
  have HRI : Hid (∀ W, Below w.heap.size w W → Calls Tryd.prog 13 #[.slice a (cutL xs).length cap] W fun e w' => e = .returned (.int .i64 (faultF (cutL xs) : Nat)) ∧ W = w') := Lib.hid (fun W h => right_any W a cap (cutL xs) (by omega) HX.out (HIN.out.below h))
  clear ht hIn hx
  generalize cutL xs = zs at *
  have hzc : zs.length ≤ cap := by omega
  have hzl2 : zs.length ≤ 9223372036854775807 := by omega
  by_cases h0 : faultF zs = 0
  · rw [h0] at HRI
    obtain ⟨hl2, hs2⟩ := fault_ok.1 h0
    by_cases hi : 0 ≤ i ∧ i < zs.length
    · obtain ⟨hi3, hi4⟩ := hi
      obtain ⟨I, rfl⟩ := Int.eq_ofNat_of_zero_le hi3
      have HP := Lib.hid (prove_yes w a cap zs I HT.out hl2 (by omega) hzc hs2 HIN.out)
      have HRP : Hid (∀ W, Below w.heap.size w W → Calls Tryd.prog 17 #[.slice a zs.length cap, .int .i64 I] W fun e w' => ∃ pa pc, e = .returned (.slice pa (proofF Dg zs I).length pc) ∧ (proofF Dg zs I).length ≤ pc ∧ InS w' pa (proofF Dg zs I) ∧ Below W.heap.size W w') := Lib.hid (fun W h => rproof_any W a cap zs I hl2 (by omega) hs2 (HIN.out.below h))
      have hpl := proof_len zs I
      have hi5 : ¬ (zs.length : Int) ≤ (I : Int) := by omega
      have hB : decide (zs.length ≤ I) = false := by simp; omega
      clear hs2 h0
      generalize proofF Dg zs I = P at *
      go_enter Tryd.func4, Tryd.ntmps4
      go_wp2_with fail
      refine HCUT.out.mono ?_
      rintro e w1 ⟨rfl, rfl⟩
      go_wp2_with fail
      refine HP.out.mono ?_
      rintro e w1 ⟨pa, pc, rfl, hle, -, hin, hb1⟩
      have HI1 := Lib.hid hin
      have HB1 := Lib.hid hb1
      clear hin hb1
      go_wp2_with fail
      refine (HRI.out _ HB1.out).mono ?_
      rintro e w2 ⟨rfl, rfl⟩
      go_wp2_with fail
      refine (HRP.out _ HB1.out).mono ?_
      rintro e w2 ⟨pa2, pc2, rfl, hle2, hin2, hb2⟩
      have HLK := Lib.hid (like_any w2 pa pa2 pc pc2 P (by omega) (HI1.out.below hb2) hin2)
      have HB2 := Lib.hid (below_trans HB1.out hb2)
      clear hin2 hb2
      go_wp2_with fail
      refine HLK.out.mono ?_
      rintro e w3 ⟨rfl, m, rfl⟩
      go_wp2
      go_ret
      exact ⟨rfl, below_drewN HB2.out m⟩
    · have HP := Lib.hid (prove_no w a cap zs i hzl2 HX.out HIN.out h0 (by omega))
      clear hs2 h0
      by_cases hi3 : i < 0
      · go_enter Tryd.func4, Tryd.ntmps4
        go_wp2_with fail
        refine HCUT.out.mono ?_
        rintro e w1 ⟨rfl, rfl⟩
        go_wp2_with fail
        refine HP.out.mono ?_
        rintro e w1 ⟨rfl, rfl⟩
        go_wp2_with fail
        refine (HRI.out _ (Below.refl _ _)).mono ?_
        rintro e w2 ⟨rfl, rfl⟩
        go_wp2
        go_ret
        exact ⟨rfl, Below.refl _ _⟩
      · have hi4 : (zs.length : Int) ≤ i := by omega
        clear hi
        go_enter Tryd.func4, Tryd.ntmps4
        go_wp2_with fail
        refine HCUT.out.mono ?_
        rintro e w1 ⟨rfl, rfl⟩
        go_wp2_with fail
        refine HP.out.mono ?_
        rintro e w1 ⟨rfl, rfl⟩
        go_wp2_with fail
        refine (HRI.out _ (Below.refl _ _)).mono ?_
        rintro e w2 ⟨rfl, rfl⟩
        go_wp2
        go_ret
        exact ⟨rfl, Below.refl _ _⟩
  · have HP := Lib.hid (prove_bad w a cap zs i hzl2 HX.out HIN.out h0)
    have hb1 : (((faultF zs : Nat) : Int) != 0) = true := by rw [bne_iff_ne]; omega
    have hb2 : ((faultF zs : Nat) : Int) ≠ 0 := by omega
    have hb3 : (((faultF zs : Nat) : Int) == 0) = false := by rw [beq_eq_false_iff_ne]; omega
    clear h0
    generalize faultF zs = f at *
    go_enter Tryd.func4, Tryd.ntmps4
    go_wp2_with fail
    refine HCUT.out.mono ?_
    rintro e w1 ⟨rfl, rfl⟩
    go_wp2_with fail
    refine HP.out.mono ?_
    rintro e w1 ⟨rfl, rfl⟩
    go_wp2_with fail
    refine (HRI.out _ (Below.refl _ _)).mono ?_
    rintro e w2 ⟨rfl, rfl⟩
    go_wp2
    go_ret
    exact ⟨rfl, Below.refl _ _⟩
end Go.Proofs.YtnmhmemlgibedaaDoor
