/- The document's Weight, and short: what each call answers. -/
import Derived.Test.YtagfnpakpncbmaaLeaf
namespace Go.Proofs.Ytagfnpakpncbmaa
open Go.RowKit

abbrev cutS (s : ByteArray) : ByteArray := if 5000 < s.size then s.extract 0 5000 else s
theorem cutS_size (s : ByteArray) : (cutS s).size ≤ 5000 := by
  unfold cutS
  split
  · rw [extract_size _ _ _ (by omega)]; omega
  · omega
theorem short_any (s : ByteArray) (w : World) (hs : s.size ≤ 140737488351232) : Calls Try.prog 11 #[.string s] w fun e w' => e = .returned (.string (cutS s)) ∧ w = w' := by
  by_cases h : 5000 < s.size
  · have hi : (5000 : Int) < (s.size : Int) := by omega
    unfold cutS
    rw [if_pos h]
    go_enter Try.func11, Try.ntmps11
    go_wp2
    go_ret
    exact ⟨rfl, rfl⟩
  · unfold cutS
    rw [if_neg h]
    go_enter Try.func11, Try.ntmps11
    go_wp2
    go_ret
    exact ⟨rfl, rfl⟩

theorem last_step (s : ByteArray) (j : Nat) (hj : j < s.size) : sumF (s.data.toList.drop (s.size - (j + 1))) = ((s[s.size - 1 - j]'(by omega)).toNat + 1) * 31 ^ j + sumF (s.data.toList.drop (s.size - j)) := by
  have h := sumF_last s.data.toList j (by rw [ba_len]; exact hj)
  simp only [ba_len] at h
  exact h
theorem wmul (a S p : Nat) : (S % 4294967296 + (a * (p % 4294967296)) % 4294967296) % 4294967296 = (a * p + S) % 4294967296 := by
  rw [Nat.mul_mod_mod, ← Nat.add_mod, Nat.add_comm]
theorem cast_ref (R c P : Nat) (hc : c < 256) : ((R : Int) + ((c : Int) + 1) % 4294967296 * (P : Int) % 4294967296) % 4294967296 = (((R + (c + 1) * P % 4294967296) % 4294967296 : Nat) : Int) := by
  have h1 : ((c : Int) + 1) % 4294967296 = ((c + 1 : Nat) : Int) := by omega
  rw [h1, ← Int.natCast_mul]
  generalize (c + 1) * P = q
  omega
theorem pmul (p : Nat) : (p % 4294967296 * 31) % 4294967296 = (p * 31) % 4294967296 := by omega

set_option maxRecDepth 100000 in
set_option maxHeartbeats 3200000 in
theorem rweight_any (s : ByteArray) (w : World) (hs : s.size ≤ 140737488351232) : Calls Try.prog 10 #[.string s] w fun e w' => e = .returned (.int .u32 (weightF s.data.toList)) ∧ w = w' := by
  go_enter Try.func10, Try.ntmps10
  go_wp2
  go_loop [3, 4, 5] (fun r p i => ∃ j R P : Nat, j ≤ 16 ∧ j ≤ s.size ∧ i = .int .i64 j ∧ r = .int .u32 R ∧ p = .int .u32 P ∧ R < 4294967296 ∧ P < 4294967296 ∧ Hid (R = sumF (s.data.toList.drop (s.size - j)) % 4294967296) ∧ Hid (P = 31 ^ j % 4294967296)) (fun _ _ i => 16 - (intOf i).toNat)
  case atStart => exact ⟨0, 0, 1, by omega, by omega, rfl, rfl, rfl, by omega, by omega, Lib.hid (by rw [List.drop_eq_nil_of_le (by rw [ba_len]; omega)]; rfl), Lib.hid rfl⟩
  case round =>
    obtain ⟨j, R, P, hj, hjs, rfl, rfl, rfl, hR, hP, HR, HP⟩ := hrel
    by_cases hlt : j < 16 ∧ j < s.size
    · obtain ⟨h16, hsz⟩ := hlt
      have hix : (s.size : Int) - 1 - (j : Int) = ((s.size - 1 - j : Nat) : Int) := by omega
      have hix2 : s.size - 1 - j < s.size := by omega
      have HS := Lib.hid (last_step s j hsz)
      go_wp2
      have hc := (s[s.size - 1 - j]).toNat_lt
      generalize s[s.size - 1 - j].toNat = c at *
      refine ⟨⟨j + 1, (R + (c + 1) * P % 4294967296) % 4294967296, P * 31 % 4294967296, by omega, by omega, by go_num, congrArg _ (cast_ref R c P hc), by go_num, by omega, by omega, Lib.hid ?_, Lib.hid ?_⟩, ?_⟩
      · rw [HS.out, HR.out, HP.out]; exact wmul _ _ _
      · rw [HP.out, Nat.pow_succ]; exact pmul _
      · simp [intOf]; omega
    · have he : s.size - j = s.data.toList.length - 16 := by rw [ba_len]; omega
      have HE : Hid (((R : Nat) : Int) = (weightF s.data.toList : Nat)) := Lib.hid (by rw [HR.out, he]; rfl)
      go_wp2
      all_goals go_ret
      all_goals exact ⟨ret_int HE.out, rfl⟩
end Go.Proofs.Ytagfnpakpncbmaa
