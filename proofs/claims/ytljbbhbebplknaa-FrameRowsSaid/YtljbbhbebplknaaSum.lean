/- Sum of package frame: what the call answers. -/
import Derived.Test.YtljbbhbebplknaaPlain
import Derived.Test.YtljbbhbebplknaaChecked
import Derived.WalkKit
import Derived.Laws.BitsAllLaws
import Derived.Deep.QuietTactic
import Derived.BigQuiet
import Derived.Lib.Hide
namespace Go.Proofs.Ytljbbhbebplknaa
open Go.RowKit

theorem ret_int {k : IntKind} {a b : Int} (h : a = b) : Ending.returned (.int k a) = .returned (.int k b) := by rw [h]
theorem ret_bool {a b : Bool} (h : a = b) : Ending.returned (.bool a) = .returned (.bool b) := by rw [h]
theorem ret_str {a b : ByteArray} (h : a = b) : Ending.returned (.string a) = .returned (.string b) := by rw [h]

theorem drop_of (s : ByteArray) (k : Nat) (h : k < s.size) : s.data.toList.drop k = s[k] :: s.data.toList.drop (k + 1) := by
  rw [List.drop_eq_getElem_cons (by simpa using h)]; rfl
theorem drop_no (s : ByteArray) (k : Nat) (h : ¬ k < s.size) : s.data.toList.drop k = [] := List.drop_eq_nil_of_le (by simp only [Array.length_toList, ByteArray.size_data]; omega)

theorem turn_int (R : Nat) (h : R < 4294967296) : bits .xor .u32 ((R : Int) / 2) (bits .and .u32 2197175160 (-(bits .and .u32 (R : Int) 1) % 4294967296)) = ((turn R : Nat) : Int) := by
  have h1 : bits .and .u32 (R : Int) 1 = ((R % 2 : Nat) : Int) := by
    have := u32_and_nat R 1 h (by decide)
    rw [Nat.and_one_is_mod] at this
    exact this
  rw [h1]
  have hd : ((R : Int) / 2) = ((R / 2 : Nat) : Int) := by omega
  rw [hd]
  unfold turn
  have hc : R % 2 = 0 ∨ R % 2 = 1 := by omega
  rcases hc with hc | hc
  · rw [hc, show bits .and .u32 2197175160 (-((0 : Nat) : Int) % 4294967296) = ((0 : Nat) : Int) from by decide, u32_xor_nat _ _ (by omega) (by decide)]
    simp
  · rw [hc, show bits .and .u32 2197175160 (-((1 : Nat) : Int) % 4294967296) = ((2197175160 : Nat) : Int) from by decide, u32_xor_nat _ _ (by omega) (by decide)]
    simp

theorem flip_int (R : Nat) (h : R < 4294967296) : bits .xor .u32 IntKind.u32.max (R : Int) = ((4294967295 - R : Nat) : Int) := by
  rw [show IntKind.u32.max = ((4294967295 : Nat) : Int) by decide, u32_xor_nat _ _ (by decide) h]
  have : (4294967295 : Nat) ^^^ R = 4294967295 - R := by
    have h1 := BitVec.toNat_not (x := BitVec.ofNat 32 R)
    have h2 : (~~~ BitVec.ofNat 32 R) = BitVec.allOnes 32 ^^^ BitVec.ofNat 32 R := (BitVec.allOnes_xor).symm
    rw [h2, BitVec.toNat_xor, BitVec.toNat_allOnes, BitVec.toNat_ofNat, Nat.mod_eq_of_lt h] at h1
    exact h1
  rw [this]
theorem regF_cons (r : Nat) (b : UInt8) (l : List UInt8) : regF r (b :: l) = regF (turns 8 (r ^^^ b.toNat)) l := rfl

set_option maxHeartbeats 1600000 in
theorem sum_any (s : ByteArray) (w : World) (hs : s.size ≤ 140737488351232) : Calls Try.prog 10 #[.string s] w fun e w' => e = .returned (.int .u32 (crc s.data.toList)) ∧ w = w' := by
  go_enter Try.func10, Try.ntmps10
  go_wp2
  go_loop [3, 8] (fun r i => ∃ k R : Nat, k ≤ s.size ∧ R < 4294967296 ∧ i = .int .i64 k ∧ r = .int .u32 R ∧ Hid (regF 4294967295 s.data.toList = regF R (s.data.toList.drop k)))
    (fun _ i => s.size - (intOf i).toNat)
  case atStart => exact ⟨0, 4294967295, by omega, by decide, rfl, rfl, Lib.hid (by simp)⟩
  case round =>
    obtain ⟨k, R, hk, hR, rfl, rfl, H⟩ := hrel
    by_cases hlt : k < s.size
    · have hx : bits .xor .u32 (R : Int) (s[k].toNat : Int) = ((R ^^^ s[k].toNat : Nat) : Int) := u32_xor_nat _ _ hR (Nat.lt_trans s[k].toNat_lt (by decide))
      have hX : R ^^^ s[k].toNat < 4294967296 := Nat.xor_lt_two_pow (n := 32) hR (Nat.lt_trans s[k].toNat_lt (by decide))
      have HX := Lib.hid hx
      have H2 : Hid (regF 4294967295 s.data.toList = regF (turns 8 (R ^^^ s[k].toNat)) (s.data.toList.drop (k + 1))) := Lib.hid (H.out.trans (by rw [drop_of s k hlt, regF_cons]))
      clear H hx
      go_wp2
      go_loop [3, 17] (fun r i => ∃ j Q : Nat, j ≤ 8 ∧ Q < 4294967296 ∧ i = .int .i64 j ∧ r = .int .u32 Q ∧ Hid (turns 8 (R ^^^ s[k].toNat) = turns (8 - j) Q))
        (fun _ i => 8 - (intOf i).toNat)
      case atStart => 
        refine ⟨0, R ^^^ s[k].toNat, by omega, hX, rfl, ?_, Lib.hid rfl⟩
        rw [← HX.out, Int.emod_eq_of_lt (by omega) (by have := s[k].toNat_lt; omega)]
      case round =>
        obtain ⟨j, Q, hj, hQ, rfl, rfl, HQ⟩ := hrel
        by_cases hj8 : j < 8
        · go_wp2
          go_round
          case rel => exact ⟨j + 1, turn Q, by omega, turn_lt hQ, by go_num, by rw [turn_int Q hQ], Lib.hid (HQ.out.trans (by rw [show 8 - j = (8 - (j + 1)) + 1 by omega]; rfl))⟩
          case measure => simp [intOf]; omega
        · have HE : Hid (turns 8 (R ^^^ s[k].toNat) = Q) := Lib.hid (HQ.out.trans (by rw [show 8 - j = 0 by omega]; rfl))
          clear HQ
          go_wp2
          go_round
          case rel => exact ⟨k + 1, Q, by omega, hQ, by go_num, rfl, Lib.hid (H2.out.trans (by rw [HE.out]))⟩
          case measure => simp [intOf]; omega
    · have H2 : Hid (regF 4294967295 s.data.toList = R) := Lib.hid (H.out.trans (by rw [drop_no s k hlt]; rfl))
      clear H
      go_wp2
      go_ret
      refine ⟨ret_int ?_, rfl⟩
      unfold crc
      rw [H2.out]
      exact flip_int R hR
end Go.Proofs.Ytljbbhbebplknaa
