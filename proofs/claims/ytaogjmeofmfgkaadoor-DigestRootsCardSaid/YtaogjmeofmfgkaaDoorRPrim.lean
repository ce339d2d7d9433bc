/- The document's primes. -/
import Derived.Test.YtaogjmeofmfgkaaDoorRRoot
namespace Go.Proofs.YtaogjmeofmfgkaaDoor
open Go.RowKit

theorem isP_take (p : Nat) (L : List Nat) (j : Nat) (hj : j < L.length) : isP p (L.take (j + 1)) = (isP p (L.take j) && p % L.getD j 0 != 0) := by
  have e : L.take (j + 1) = L.take j ++ [L.getD j 0] := by
    rw [List.take_add_one, List.getElem?_eq_getElem hj]
    simp [List.getD, hj]
  rw [e]; simp [isP]

set_option maxHeartbeats 2000000 in
set_option maxRecDepth 100000 in
theorem primes64 (w : World) : Calls Tryd.prog 18 #[.int .i64 64] w fun e w' => ∃ g cap, e = .returned (.slice (some ⟨g, 0, none⟩) 64 cap) ∧ w'.ownsRow w.heap.size 3 1 (.slice (some ⟨g, 0, none⟩) 64 cap) 64 (nats PL) ∧ Below w.heap.size w w' := by
  obtain ⟨i0, hi, hz0, hz1, hz2⟩ := info_parts info3
  go_enter Tryd.func18, Tryd.ntmps18
  go_wp2
  go_loopw [3, 4] (fun v x wr => ∃ (p g c : Nat), 2 ≤ p ∧ p ≤ 312 ∧ x = .int .i64 p ∧ v = .slice (some ⟨g, 0, none⟩) (PLow p).length c ∧ Hid (wr.ownsRow w.heap.size 3 1 v (PLow p).length (nats (PLow p))) ∧ Hid (Below w.heap.size w wr)) (fun _ x _ => 312 - (intOf x).toNat)
  case atStart => exact ⟨2, _, 0, by omega, by omega, rfl, rfl, Lib.hid (World.ownsRow_made w #[] 0 (Nat.le_refl _) (by unfold maxLen; omega) rfl), Lib.hid (below1 _ _)⟩
  case round =>
    obtain ⟨p, g, c, hp, hp2, rfl, rfl, HO, HB⟩ := hrel
    by_cases hlt : p < 312
    · have hcnt := plow_count p hlt
      have hIs := plow_is2 p hp (by omega)
      have hSucc := plow_succ p (by omega)
      have HPos : Hid (∀ q ∈ PLow p, 2 ≤ q ∧ q ≤ 311) := Lib.hid (fun q hq => PLow.pos hq)
      have HIs := Lib.hid hIs
      have HSucc := Lib.hid hSucc
      clear hIs hSucc
      generalize hL : PLow p = L at *
      have hci : (L.length : Int) < 64 := by omega
      obtain ⟨wz, rfl⟩ : ∃ wz, wz = wr := ⟨wr, rfl⟩
      go_wp2
      go_loopw [5, 17] (fun b x wr => ∃ j : Nat, j ≤ L.length ∧ x = .int .i64 j ∧ b = .bool (isP p (L.take j)) ∧ wr = wz) (fun _ x _ => L.length - (intOf x).toNat)
      case atStart => exact ⟨0, by omega, rfl, rfl, rfl⟩
      case round =>
        obtain ⟨j, hj, rfl, rfl, rfl⟩ := hrel
        by_cases hjl : j < L.length
        · have hc := owns_cell HO.out (nats_at L j hjl)
          have hq := HPos.out (L.getD j 0) (by rw [List.getD_eq_getElem?_getD, List.getElem?_eq_getElem hjl]; exact List.getElem_mem hjl)
          have HT := Lib.hid (isP_take p L j hjl)
          generalize L.getD j 0 = q at *
          have hq0 : (q : Int) ≠ 0 := by omega
          obtain ⟨r, hr⟩ : ∃ r, r = p % q := ⟨_, rfl⟩
          have hr1 : (p : Int).tmod (q : Int) = (r : Int) := by rw [Int.tmod_eq_emod_of_nonneg (by omega), hr]; exact (Int.natCast_emod p q).symm
          have hr2 : (p : Int) % (q : Int) = (r : Int) := by rw [hr]; exact (Int.natCast_emod p q).symm
          have hq1 : (0 : Int) < (q : Int) := by omega
          rw [← hr] at HT
          clear hr
          have hrl : r < 1000 ∨ True := Or.inr trivial
          clear hrl
          have HT2 : Hid (isP p (L.take (j + 1)) = (isP p (L.take j) && ((r : Int) != 0))) := Lib.hid (by
            rw [HT.out]
            congr 1
            rw [Bool.eq_iff_iff]; simp)
          clear HT
          generalize isP p (L.take j) = B at *
          cases B with
          | true =>
            rw [Bool.true_and] at HT2
            go_wp2
            refine ⟨⟨j + 1, by omega, by go_num, by rw [HT2.out], trivial⟩, ?_⟩
            simp [intOf]; omega
          | false =>
            rw [Bool.false_and] at HT2
            go_wp2
            refine ⟨⟨j + 1, by omega, by go_num, by rw [HT2.out], trivial⟩, ?_⟩
            simp [intOf]; omega
        · obtain rfl : j = L.length := by omega
          have HF : Hid (isP p (L.take L.length) = PL.contains p) := Lib.hid (by rw [List.take_length]; exact HIs.out)
          rw [HF.out]
          by_cases hC : PL.contains p = true
          · have HE : Hid (PLow (p + 1) = L ++ [p]) := Lib.hid (by rw [HSucc.out, if_pos hC])
            rw [hC]
            have hrow := HO.out
            have hB := HB.out
            clear HIs HSucc HF hC
            go_wp2_with (at_builtin; refine wpList_append_own _ rfl _ _ 38 rfl w.heap.size 3 i0 (.int .i64 0) 1 8 Tryd.underlying38 hi hz0 hz1 hz2 rfl (by decide) _ _ _ rfl (hrow.alloc _) ⟨wr.heap.size, 0, none⟩ 1 1 [.int .i64 (p : Int)] rfl rfl (cell_one_new _ _ _) (by simp [Value.oneCell']) (by unfold maxLen; omega) (by omega) (by have := hB.size; simp; omega) ?_; intro v' w2 hown' hgrow _; obtain ⟨g', cap', rfl, -, -⟩ := owns_some hown' (by omega))
            have HB2 : Hid (Below w.heap.size w w2) := Lib.hid ((hB.alloc hB.size _).grown hgrow (by have := hB.size; simp; omega) (fun k e => (hrow.lt k e).1))
            have HO2 : Hid (w2.ownsRow w.heap.size 3 1 (.slice (some ⟨g', 0, none⟩) (PLow (p + 1)).length cap') (PLow (p + 1)).length (nats (PLow (p + 1)))) := Lib.hid (by
              rw [HE.out, List.length_append]
              simpa [nats] using hown')
            clear hown' hgrow hrow hB HO HB
            refine ⟨⟨p + 1, g', cap', by omega, by omega, by go_num, by rw [HE.out, List.length_append]; rfl, by rw [HE.out, List.length_append] at HO2 ⊢; exact HO2, HB2⟩, ?_⟩
            simp [intOf]; omega
          · have HE : Hid (PLow (p + 1) = L) := Lib.hid (by rw [HSucc.out, if_neg hC])
            rw [Bool.not_eq_true _ |>.mp hC]
            clear HIs HSucc HF hC
            go_wp2
            refine ⟨⟨p + 1, g, c, by omega, by omega, by go_num, by rw [HE.out], by rw [HE.out]; exact HO, HB⟩, ?_⟩
            simp [intOf]; omega
    · obtain rfl : p = 312 := by omega
      rw [show PLow 312 = PL from plow_all] at HO ⊢
      have hO := HO.out
      rw [show (PL).length = 64 from rfl] at hO ⊢
      have HO2 := Lib.hid hO
      clear hO HO
      go_wp2
      go_ret
      exact ⟨g, c, rfl, HO2.out, HB.out⟩

set_option maxHeartbeats 2000000 in
set_option maxRecDepth 100000 in
theorem primes8 (w : World) : Calls Tryd.prog 18 #[.int .i64 8] w fun e w' => ∃ g cap, e = .returned (.slice (some ⟨g, 0, none⟩) 8 cap) ∧ w'.ownsRow w.heap.size 3 1 (.slice (some ⟨g, 0, none⟩) 8 cap) 8 (nats (PL.take 8)) ∧ Below w.heap.size w w' := by
  obtain ⟨i0, hi, hz0, hz1, hz2⟩ := info_parts info3
  go_enter Tryd.func18, Tryd.ntmps18
  go_wp2
  go_loopw [3, 4] (fun v x wr => ∃ (p g c : Nat), 2 ≤ p ∧ p ≤ 20 ∧ x = .int .i64 p ∧ v = .slice (some ⟨g, 0, none⟩) (PLow p).length c ∧ Hid (wr.ownsRow w.heap.size 3 1 v (PLow p).length (nats (PLow p))) ∧ Hid (Below w.heap.size w wr)) (fun _ x _ => 20 - (intOf x).toNat)
  case atStart => exact ⟨2, _, 0, by omega, by omega, rfl, rfl, Lib.hid (World.ownsRow_made w #[] 0 (Nat.le_refl _) (by unfold maxLen; omega) rfl), Lib.hid (below1 _ _)⟩
  case round =>
    obtain ⟨p, g, c, hp, hp2, rfl, rfl, HO, HB⟩ := hrel
    by_cases hlt : p < 20
    · have hcnt := plow_count8 p hlt
      have hIs := plow_is2 p hp (by omega)
      have hSucc := plow_succ p (by omega)
      have HPos : Hid (∀ q ∈ PLow p, 2 ≤ q ∧ q ≤ 311) := Lib.hid (fun q hq => PLow.pos hq)
      have HIs := Lib.hid hIs
      have HSucc := Lib.hid hSucc
      clear hIs hSucc
      generalize hL : PLow p = L at *
      have hci : (L.length : Int) < 8 := by omega
      obtain ⟨wz, rfl⟩ : ∃ wz, wz = wr := ⟨wr, rfl⟩
      go_wp2
      go_loopw [5, 17] (fun b x wr => ∃ j : Nat, j ≤ L.length ∧ x = .int .i64 j ∧ b = .bool (isP p (L.take j)) ∧ wr = wz) (fun _ x _ => L.length - (intOf x).toNat)
      case atStart => exact ⟨0, by omega, rfl, rfl, rfl⟩
      case round =>
        obtain ⟨j, hj, rfl, rfl, rfl⟩ := hrel
        by_cases hjl : j < L.length
        · have hc := owns_cell HO.out (nats_at L j hjl)
          have hq := HPos.out (L.getD j 0) (by rw [List.getD_eq_getElem?_getD, List.getElem?_eq_getElem hjl]; exact List.getElem_mem hjl)
          have HT := Lib.hid (isP_take p L j hjl)
          generalize L.getD j 0 = q at *
          have hq0 : (q : Int) ≠ 0 := by omega
          obtain ⟨r, hr⟩ : ∃ r, r = p % q := ⟨_, rfl⟩
          have hr1 : (p : Int).tmod (q : Int) = (r : Int) := by rw [Int.tmod_eq_emod_of_nonneg (by omega), hr]; exact (Int.natCast_emod p q).symm
          have hr2 : (p : Int) % (q : Int) = (r : Int) := by rw [hr]; exact (Int.natCast_emod p q).symm
          have hq1 : (0 : Int) < (q : Int) := by omega
          rw [← hr] at HT
          clear hr
          have hrl : r < 1000 ∨ True := Or.inr trivial
          clear hrl
          have HT2 : Hid (isP p (L.take (j + 1)) = (isP p (L.take j) && ((r : Int) != 0))) := Lib.hid (by
            rw [HT.out]
            congr 1
            rw [Bool.eq_iff_iff]; simp)
          clear HT
          generalize isP p (L.take j) = B at *
          cases B with
          | true =>
            rw [Bool.true_and] at HT2
            go_wp2
            refine ⟨⟨j + 1, by omega, by go_num, by rw [HT2.out], trivial⟩, ?_⟩
            simp [intOf]; omega
          | false =>
            rw [Bool.false_and] at HT2
            go_wp2
            refine ⟨⟨j + 1, by omega, by go_num, by rw [HT2.out], trivial⟩, ?_⟩
            simp [intOf]; omega
        · obtain rfl : j = L.length := by omega
          have HF : Hid (isP p (L.take L.length) = PL.contains p) := Lib.hid (by rw [List.take_length]; exact HIs.out)
          rw [HF.out]
          by_cases hC : PL.contains p = true
          · have HE : Hid (PLow (p + 1) = L ++ [p]) := Lib.hid (by rw [HSucc.out, if_pos hC])
            rw [hC]
            have hrow := HO.out
            have hB := HB.out
            clear HIs HSucc HF hC
            go_wp2_with (at_builtin; refine wpList_append_own _ rfl _ _ 38 rfl w.heap.size 3 i0 (.int .i64 0) 1 8 Tryd.underlying38 hi hz0 hz1 hz2 rfl (by decide) _ _ _ rfl (hrow.alloc _) ⟨wr.heap.size, 0, none⟩ 1 1 [.int .i64 (p : Int)] rfl rfl (cell_one_new _ _ _) (by simp [Value.oneCell']) (by unfold maxLen; omega) (by omega) (by have := hB.size; simp; omega) ?_; intro v' w2 hown' hgrow _; obtain ⟨g', cap', rfl, -, -⟩ := owns_some hown' (by omega))
            have HB2 : Hid (Below w.heap.size w w2) := Lib.hid ((hB.alloc hB.size _).grown hgrow (by have := hB.size; simp; omega) (fun k e => (hrow.lt k e).1))
            have HO2 : Hid (w2.ownsRow w.heap.size 3 1 (.slice (some ⟨g', 0, none⟩) (PLow (p + 1)).length cap') (PLow (p + 1)).length (nats (PLow (p + 1)))) := Lib.hid (by
              rw [HE.out, List.length_append]
              simpa [nats] using hown')
            clear hown' hgrow hrow hB HO HB
            refine ⟨⟨p + 1, g', cap', by omega, by omega, by go_num, by rw [HE.out, List.length_append]; rfl, by rw [HE.out, List.length_append] at HO2 ⊢; exact HO2, HB2⟩, ?_⟩
            simp [intOf]; omega
          · have HE : Hid (PLow (p + 1) = L) := Lib.hid (by rw [HSucc.out, if_neg hC])
            rw [Bool.not_eq_true _ |>.mp hC]
            clear HIs HSucc HF hC
            go_wp2
            refine ⟨⟨p + 1, g, c, by omega, by omega, by go_num, by rw [HE.out], by rw [HE.out]; exact HO, HB⟩, ?_⟩
            simp [intOf]; omega
    · obtain rfl : p = 20 := by omega
      rw [show PLow 20 = (PL.take 8) from plow8] at HO ⊢
      have hO := HO.out
      rw [show ((PL.take 8)).length = 8 from rfl] at hO ⊢
      have HO2 := Lib.hid hO
      clear hO HO
      go_wp2
      go_ret
      exact ⟨g, c, rfl, HO2.out, HB.out⟩
end Go.Proofs.YtaogjmeofmfgkaaDoor
