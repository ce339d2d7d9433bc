/- The document's Sum and Frame: what each call answers. -/
import Derived.Test.YtljbbhbebplknaaPut
namespace Go.Proofs.Ytljbbhbebplknaa
open Go.RowKit

theorem turn_bit (Q b : Nat) : turn (Q ^^^ b) = (Q / 2 ^^^ (if Q % 2 = b % 2 then 0 else poly)) ^^^ b / 2 := by
  rw [turn_xor]
  unfold turn
  have ha : Q % 2 = 0 ∨ Q % 2 = 1 := by omega
  have hb : b % 2 = 0 ∨ b % 2 = 1 := by omega
  rcases ha with ha | ha <;> rcases hb with hb | hb <;> rw [ha, hb]
  · simp
  · simp only [Nat.xor_zero, if_true, if_false, reduceIte, show ¬ (0 = 1) by omega]
    rw [Nat.xor_comm (b / 2), Nat.xor_assoc]
  · simp
  · simp only [Nat.xor_zero, if_true, reduceIte]
    rw [Nat.xor_assoc (Q / 2), Nat.xor_comm poly, Nat.xor_assoc (b / 2), Nat.xor_self, Nat.xor_zero]

set_option maxHeartbeats 1600000 in
theorem rsum_any (s : ByteArray) (w : World) (hs : s.size ≤ 140737488351232) : Calls Try.prog 11 #[.string s] w fun e w' => e = .returned (.int .u32 (crc s.data.toList)) ∧ w = w' := by
  go_enter Try.func11, Try.ntmps11
  go_wp2
  go_loop [3, 4] (fun r i => ∃ k R : Nat, k ≤ s.size ∧ R < 4294967296 ∧ i = .int .i64 k ∧ r = .int .u32 R ∧ Hid (regF 4294967295 s.data.toList = regF R (s.data.toList.drop k)))
    (fun _ i => s.size - (intOf i).toNat)
  case atStart => exact ⟨0, 4294967295, by omega, by decide, rfl, rfl, Lib.hid (by simp)⟩
  case round =>
    obtain ⟨k, R, hk, hR, rfl, rfl, H⟩ := hrel
    by_cases hlt : k < s.size
    · have H2 : Hid (regF 4294967295 s.data.toList = regF (turns 8 (R ^^^ s[k].toNat)) (s.data.toList.drop (k + 1))) := Lib.hid (H.out.trans (by rw [drop_of s k hlt, regF_cons]))
      have hcb : s[k].toNat < 256 := s[k].toNat_lt
      clear H
      go_wp2
      go_loop [3, 5, 6] (fun r c i => ∃ j Q b : Nat, j ≤ 8 ∧ Q < 4294967296 ∧ b * 2 ^ j < 256 ∧ i = .int .i64 j ∧ r = .int .u32 Q ∧ c = .int .u32 b ∧ Hid (turns 8 (R ^^^ s[k].toNat) = turns (8 - j) (Q ^^^ b)))
        (fun _ _ i => 8 - (intOf i).toNat)
      case atStart => exact ⟨0, R, s[k].toNat, by omega, hR, by omega, rfl, rfl, rfl, Lib.hid rfl⟩
      case round =>
        obtain ⟨j, Q, b, hj, hQ, hbj, rfl, rfl, rfl, HQ⟩ := hrel
        have HB := Lib.hid hbj
        clear hbj
        by_cases hj8 : j < 8
        · have H3 : Hid (turns 8 (R ^^^ s[k].toNat) = turns (8 - (j + 1)) ((Q / 2 ^^^ (if Q % 2 = b % 2 then 0 else poly)) ^^^ b / 2)) := Lib.hid (HQ.out.trans (by rw [show 8 - j = (8 - (j + 1)) + 1 by omega, turns, turn_bit]))
          clear HQ
          have hb2 : Hid (b / 2 * 2 ^ (j + 1) < 256) := Lib.hid (by
            have := HB.out
            have h1 : b / 2 * 2 ^ (j + 1) = (b / 2 * 2) * 2 ^ j := by rw [Nat.pow_succ, Nat.mul_comm (2 ^ j), Nat.mul_assoc]
            have h2 : (b / 2 * 2) * 2 ^ j ≤ b * 2 ^ j := Nat.mul_le_mul_right _ (by omega)
            omega)
          have hbb : b < 256 := by
            have h1 := HB.out
            have h2 : b * 1 ≤ b * 2 ^ j := Nat.mul_le_mul_left _ Nat.one_le_two_pow
            omega
          clear HB
          rcases Bool.eq_false_or_eq_true (((Q : Int) % 2) == ((b : Int) % 2)) with hB | hB
          · have HT : Hid (Q % 2 = b % 2) := Lib.hid (by simp at hB; omega)
            go_wp2
            refine ⟨⟨j + 1, Q / 2, b / 2, by omega, by omega, hb2.out, by go_num, by go_num, by go_num, Lib.hid (H3.out.trans (by rw [if_pos HT.out, Nat.xor_zero]))⟩, ?_⟩
            simp [intOf]; omega
          · have HT : Hid (¬ Q % 2 = b % 2) := Lib.hid (by simp at hB; omega)
            have HX : Hid (bits .xor .u32 ((Q : Int) / 2) 2197175160 = ((Q / 2 ^^^ poly : Nat) : Int)) := Lib.hid (by
              rw [show ((Q : Int) / 2) = ((Q / 2 : Nat) : Int) by omega]
              exact u32_xor_nat _ 2197175160 (by omega) (by decide))
            go_wp2
            refine ⟨⟨j + 1, Q / 2 ^^^ poly, b / 2, by omega, Nat.xor_lt_two_pow (n := 32) (by omega) (by decide), hb2.out, by go_num, by rw [HX.out], by go_num, Lib.hid (H3.out.trans (by rw [if_neg HT.out]))⟩, ?_⟩
            simp [intOf]; omega
        · have HE : Hid (turns 8 (R ^^^ s[k].toNat) = Q) := Lib.hid (HQ.out.trans (by
            have h1 := HB.out
            obtain rfl : j = 8 := by omega
            obtain rfl : b = 0 := by omega
            simp [turns]))
          clear HQ
          go_wp2
          go_round
          case rel => exact ⟨k + 1, Q, by omega, hQ, by go_num, rfl, Lib.hid (H2.out.trans (by rw [HE.out]))⟩
          case measure => simp [intOf]; omega
    · have H2 : Hid (regF 4294967295 s.data.toList = R) := Lib.hid (H.out.trans (by rw [drop_no s k hlt]; rfl))
      clear H
      go_wp2
      go_ret
      refine ⟨ret_int ?_, rfl⟩
      unfold crc
      rw [H2.out]
      omega

set_option maxHeartbeats 1600000 in
theorem rframe_any (s : ByteArray) (w : World) (hs : s.size ≤ 65536) : Calls Try.prog 12 #[.string s] w fun e w' => e = .returned (.string (str (frameF s.data.toList))) ∧ Below w.heap.size w w' := by
  have hc1 := crc_lt s.data.toList
  have hc2 := crc_lt (four s.size)
  go_enter Try.func12, Try.ntmps12
  go_wp2_with fail
  refine (rnumber_any s.size _ (by omega)).mono ?_
  rintro e w1 ⟨rfl, hb1⟩
  go_wp2_with fail
  refine (rsum_any (str (four s.size)) _ (by show 4 ≤ 140737488351232; omega)).mono ?_
  rintro e w1' ⟨rfl, rfl⟩
  go_wp2_with fail
  refine (rnumber_any (crc (four s.size)) _ hc2).mono ?_
  rintro e w2 ⟨rfl, hb2⟩
  go_wp2_with fail
  refine (rsum_any s _ (by omega)).mono ?_
  rintro e w2' ⟨rfl, rfl⟩
  go_wp2_with fail
  refine (rnumber_any (crc s.data.toList) _ hc1).mono ?_
  rintro e w3 ⟨rfl, hb3⟩
  go_wp2
  go_ret
  refine ⟨?_, (hb1.trans (hb2.mono hb1.size)).trans (hb3.mono (Nat.le_trans hb1.size hb2.size))⟩
  refine ret_str (ba_ext ?_)
  simp [frameF, sealF]
end Go.Proofs.Ytljbbhbebplknaa
