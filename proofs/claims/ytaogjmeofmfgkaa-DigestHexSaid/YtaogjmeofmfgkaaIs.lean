/- short, the document's digit and Is, and Parse at every text. -/
import Derived.Test.YtaogjmeofmfgkaaParse
namespace Go.Proofs.Ytaogjmeofmfgkaa
open Go.RowKit

def cutS (s : ByteArray) (k : Nat) : ByteArray := ⟨(s.data.toList.take k).toArray⟩
theorem cut_size (s : ByteArray) (k : Nat) : (cutS s k).size ≤ k := by
  show (s.data.toList.take k).toArray.size ≤ k
  simp; omega
theorem short_any (s : ByteArray) (k : Nat) (w : World) (hs : s.size ≤ 140737488351232) (hk : k ≤ 1000000) : Calls Try.prog 4 #[.string s, .int .i64 k] w fun e w' => e = .returned (.string (cutS s k)) ∧ w = w' := by
  by_cases h : k < s.size
  · go_enter Try.func4, Try.ntmps4
    go_wp2
    go_ret
    refine ⟨ret_str (ba_ext ?_), rfl⟩
    rw [extract_list]; simp [cutS]
  · go_enter Try.func4, Try.ntmps4
    go_wp2
    go_ret
    refine ⟨ret_str (ba_ext ?_), rfl⟩
    show _ = s.data.toList.take k
    rw [List.take_of_length_le (by simp only [Array.length_toList, ByteArray.size_data]; omega)]

theorem ret_int {k : IntKind} {a b : Int} (h : a = b) : Ending.returned (.int k a) = .returned (.int k b) := by rw [h]
theorem dL_num : ∀ n, n < 16 → (((dL.getD n 0).toNat : Nat) : Int) = if n < 10 then 48 + (n : Int) else 87 + (n : Int) := by decide
theorem digit_any (n : Nat) (w : World) (h : n < 16) : Calls Try.prog 11 #[.int .u8 (n : Int)] w fun e w' => e = .returned (.int .u8 ((dL.getD n 0).toNat : Int)) ∧ w' = w := by
  have H := Lib.hid (dL_num n h)
  by_cases h10 : n < 10
  · go_enter Try.func11, Try.ntmps11
    go_wp2
    go_ret
    refine ⟨ret_int ?_, rfl⟩
    rw [H.out, if_pos h10]; try omega
  · go_enter Try.func11, Try.ntmps11
    go_wp2
    go_ret
    refine ⟨ret_int ?_, rfl⟩
    rw [H.out, if_neg h10]; try omega

/-- No digit. -/
def Bad (c : UInt8) : Prop := Lib.indexByte dA.data.toList c = -1
instance (c : UInt8) : Decidable (Bad c) := inferInstanceAs (Decidable (_ = _))
theorem bad_iff : ∀ c : UInt8, Bad c ↔ ¬ (48 ≤ (c.toNat : Int) ∧ (c.toNat : Int) ≤ 57 ∨ 97 ≤ (c.toNat : Int) ∧ (c.toNat : Int) ≤ 102) := by
  have h : ∀ n, n < 256 → (Bad (UInt8.ofNat n) ↔ ¬ (48 ≤ (n : Int) ∧ (n : Int) ≤ 57 ∨ 97 ≤ (n : Int) ∧ (n : Int) ≤ 102)) := by decide +kernel
  intro c
  have := h c.toNat c.toNat_lt
  rwa [UInt8.ofNat_toNat] at this
def isB (s : ByteArray) : Bool := decide (s.size = 64 ∧ ∀ c ∈ s.data.toList, ¬ Bad c)

theorem mem_take_succ {s : ByteArray} {i : Nat} (h : i < s.size) (hg : ∀ c ∈ s.data.toList.take i, ¬ Bad c) (hb : ¬ Bad s[i]) : ∀ c ∈ s.data.toList.take (i + 1), ¬ Bad c := by
  intro c hc
  rw [List.take_succ_eq_append_getElem (by simpa using h)] at hc
  rcases List.mem_append.1 hc with hc | hc
  · exact hg c hc
  · rw [List.mem_singleton.1 hc]; exact hb
theorem get_mem (s : ByteArray) (i : Nat) (h : i < s.size) : s[i] ∈ s.data.toList := by
  have : s[i] = s.data.toList[i]'(by simpa using h) := rfl
  rw [this]; exact List.getElem_mem _

set_option maxHeartbeats 1000000 in
theorem is_any (s : ByteArray) (w : World) (hs : s.size ≤ 1000000) : Calls Try.prog 8 #[.string s] w fun e w' => e = .returned (.bool (isB s)) ∧ w = w' := by
  go_enter Try.func8, Try.ntmps8
  go_wp2
  go_loop [3] (fun x => ∃ i : Nat, i ≤ s.size ∧ x = .int .i64 i ∧ Hid (∀ c ∈ s.data.toList.take i, ¬ Bad c)) (fun x => s.size - (intOf x).toNat)
  case atStart => exact ⟨0, by omega, rfl, Lib.hid (by simp)⟩
  case round =>
    obtain ⟨i, hi, rfl, HG⟩ := hrel
    by_cases hlt : i < s.size
    · have HB := Lib.hid (bad_iff s[i])
      have HM := Lib.hid (get_mem s i hlt)
      have HS := Lib.hid (fun h => mem_take_succ hlt HG.out h)
      by_cases hbad : Bad s[i]
      · have HF : Hid (isB s = false) := Lib.hid (by
          unfold isB
          rw [decide_eq_false_iff_not]
          exact fun h => h.2 _ HM.out hbad)
        have hno := HB.out.1 hbad
        clear HB HS HG hbad
        by_cases h1 : (s[i].toNat : Int) < 48
        · clear hno
          go_wp2
          go_ret
          exact ⟨ret_bool HF.out.symm, rfl⟩
        · have h0 : 48 ≤ (s[i].toNat : Int) := by omega
          have hd1 : decide ((s[i].toNat : Int) ≤ 57) = false := by rw [decide_eq_false_iff_not]; omega
          by_cases h2 : (s[i].toNat : Int) < 97
          · clear hno
            go_wp2
            go_ret
            exact ⟨ret_bool HF.out.symm, rfl⟩
          · have h3 : 97 ≤ (s[i].toNat : Int) := by omega
            have hd2 : decide ((s[i].toNat : Int) ≤ 102) = false := by rw [decide_eq_false_iff_not]; omega
            clear hno
            go_wp2
            go_ret
            exact ⟨ret_bool HF.out.symm, rfl⟩
      · have HS2 := Lib.hid (HS.out hbad)
        have hyes : 48 ≤ (s[i].toNat : Int) ∧ (s[i].toNat : Int) ≤ 57 ∨ 97 ≤ (s[i].toNat : Int) ∧ (s[i].toNat : Int) ≤ 102 := by
          by_cases h : 48 ≤ (s[i].toNat : Int) ∧ (s[i].toNat : Int) ≤ 57 ∨ 97 ≤ (s[i].toNat : Int) ∧ (s[i].toNat : Int) ≤ 102
          · exact h
          · exact absurd (HB.out.2 h) hbad
        clear HB HS HG hbad HM
        rcases hyes with ⟨h1, h2⟩ | ⟨h1, h2⟩
        · have hd1 : decide ((s[i].toNat : Int) ≤ 57) = true := by rw [decide_eq_true_iff]; omega
          go_wp2
          go_round
          case rel => exact ⟨i + 1, by omega, by go_num, HS2⟩
          case measure => simp [intOf]; omega
        · have h0 : 48 ≤ (s[i].toNat : Int) := by omega
          have hd1 : decide ((s[i].toNat : Int) ≤ 57) = false := by rw [decide_eq_false_iff_not]; omega
          have hd2 : decide ((s[i].toNat : Int) ≤ 102) = true := by rw [decide_eq_true_iff]; omega
          go_wp2
          go_round
          case rel => exact ⟨i + 1, by omega, by go_num, HS2⟩
          case measure => simp [intOf]; omega
    · obtain rfl : i = s.size := by omega
      have HE : Hid (isB s = decide (s.size = 64)) := Lib.hid (by
        have hg := HG.out
        rw [List.take_of_length_le (by simp)] at hg
        unfold isB
        simp only [decide_eq_decide]
        exact ⟨fun h => h.1, fun h => ⟨h, hg⟩⟩)
      go_wp2
      go_ret
      refine ⟨ret_bool ?_, rfl⟩
      rw [HE.out]
      by_cases h64 : s.size = 64
      · simp [h64]
      · have : ((s.size : Int) == 64) = false := by simp; omega
        rw [this]; simp [h64]
end Go.Proofs.Ytaogjmeofmfgkaa
