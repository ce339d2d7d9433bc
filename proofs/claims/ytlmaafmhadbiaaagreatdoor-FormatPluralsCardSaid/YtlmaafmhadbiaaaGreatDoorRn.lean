/- The document's Name. -/
import Derived.Test.YtlmaafmhadbiaaaGreatDoorNm
namespace Go.Proofs.YtlmaafmhadbiaaaGreatDoor
open Go.RowKit

theorem wrap_byte (c : UInt8) : wrap64 (c.toNat : Int) = c.toNat := by
  have := c.toNat_lt
  unfold wrap64; omega
def ltI (n : Int) : Bool := decide (97 ≤ n) && decide (n ≤ 122)
def wrdI (n : Int) : Bool := ltI n || (decide (48 ≤ n) && decide (n ≤ 57)) || (n == 95)
theorem ltI_byte (c : UInt8) : ltI c.toNat = isLet c := by
  unfold ltI isLet
  congr 1
  · exact decide_eq_decide.2 (by omega)
  · exact decide_eq_decide.2 (by omega)
theorem wrdI_byte (c : UInt8) : wrdI c.toNat = isWrd c := by
  unfold wrdI isWrd isDig
  rw [ltI_byte]
  congr 1
  · congr 1
    congr 1
    · exact decide_eq_decide.2 (by omega)
    · exact decide_eq_decide.2 (by omega)
  · by_cases h : c = 95
    · subst h; rfl
    · rw [beq_eq_false_iff_ne.2 h, beq_eq_false_iff_ne]
      intro e; exact h (by rw [← UInt8.toNat_inj]; exact Int.ofNat.inj e)
set_option maxHeartbeats 1600000 in
theorem rletter_any (n : Int) (w : World) : Calls Tryz.prog 20 #[.int .i64 n] w fun e w' => e = .returned (.bool (ltI n)) ∧ w' = w := by
  by_cases h1 : 97 ≤ n
  · by_cases h2 : n ≤ 122
    all_goals
      have HE : Hid (ltI n = decide (n ≤ 122)) := Lib.hid (by unfold ltI; rw [decide_eq_true h1]; rfl)
      go_enter Tryz.func20, Tryz.ntmps20
      go_wp2
      go_ret
      exact ⟨ret_bool (by rw [HE.out]; simp [h2]), rfl⟩
  · have HE : Hid (ltI n = false) := Lib.hid (by unfold ltI; rw [decide_eq_false h1]; rfl)
    have h1' : decide (97 ≤ n) = false := decide_eq_false h1
    go_enter Tryz.func20, Tryz.ntmps20
    go_wp2
    go_ret
    exact ⟨ret_bool HE.out.symm, rfl⟩
set_option maxHeartbeats 1600000 in
theorem rwordly_any (n : Int) (w : World) : Calls Tryz.prog 19 #[.int .i64 n] w fun e w' => e = .returned (.bool (wrdI n)) ∧ w' = w := by
  have HL := Lib.hid (rletter_any n w)
  cases hl : ltI n with
  | true =>
    rw [hl] at HL
    have HE : Hid (wrdI n = true) := Lib.hid (by unfold wrdI; rw [hl]; rfl)
    clear hl
    go_enter Tryz.func19, Tryz.ntmps19
    go_wp2_with fail
    refine HL.out.mono ?_
    rintro e w2 ⟨rfl, rfl⟩
    go_wp2
    go_ret
    exact ⟨ret_bool HE.out.symm, rfl⟩
  | false =>
    rw [hl] at HL
    have HE : Hid (wrdI n = ((decide (48 ≤ n) && decide (n ≤ 57)) || (n == 95))) := Lib.hid (by unfold wrdI; rw [hl]; simp)
    clear hl
    by_cases h1 : 48 ≤ n
    · by_cases h2 : n ≤ 57
      · have HF : Hid (wrdI n = true) := Lib.hid (by rw [HE.out, decide_eq_true h1, decide_eq_true h2]; rfl)
        have b1 : decide (48 ≤ n) = true := decide_eq_true h1
        have b2 : decide (n ≤ 57) = true := decide_eq_true h2
        clear HE
        go_enter Tryz.func19, Tryz.ntmps19
        go_wp2_with fail
        refine HL.out.mono ?_
        rintro e w2 ⟨rfl, rfl⟩
        go_wp2
        go_ret
        exact ⟨ret_bool HF.out.symm, rfl⟩
      · have HF : Hid (wrdI n = (n == 95)) := Lib.hid (by rw [HE.out, decide_eq_false h2]; simp)
        have b2 : decide (n ≤ 57) = false := decide_eq_false h2
        clear HE
        go_enter Tryz.func19, Tryz.ntmps19
        go_wp2_with fail
        refine HL.out.mono ?_
        rintro e w2 ⟨rfl, rfl⟩
        go_wp2
        go_ret
        exact ⟨ret_bool HF.out.symm, rfl⟩
    · have HF : Hid (wrdI n = (n == 95)) := Lib.hid (by rw [HE.out, decide_eq_false h1]; simp)
      have b1 : decide (48 ≤ n) = false := decide_eq_false h1
      clear HE
      go_enter Tryz.func19, Tryz.ntmps19
      go_wp2_with fail
      refine HL.out.mono ?_
      rintro e w2 ⟨rfl, rfl⟩
      go_wp2
      go_ret
      exact ⟨ret_bool HF.out.symm, rfl⟩
set_option maxHeartbeats 3200000 in
set_option maxRecDepth 100000 in
theorem rname_any (t : BA) (w : World) (ht : t.size ≤ 140737488351232) : Calls Tryz.prog 11 #[.string t] w fun e w' => e = .returned (.bool (nameB t.data.toList)) ∧ w' = w := by
  have hll := len_list t
  have HLL := Lib.hid hll
  clear hll
  go_enter Tryz.func11, Tryz.ntmps11
  go_wp2
  go_loop [3] (fun i => ∃ k : Nat, i = .int .i64 k ∧ k ≤ t.size ∧ Hid ((t.data.toList.take k).all isWrd = true)) (fun i => t.size - (intOf i).toNat)
  case atStart => exact ⟨0, rfl, by omega, Lib.hid rfl⟩
  case round =>
    obtain ⟨k, rfl, hk, HA⟩ := hrel
    by_cases hlt : k < t.size
    · have hxk := Lib.hid (get_of t k hlt)
      have hlt2 : (k : Int) < (t.size : Int) := by omega
      obtain ⟨c, hcc⟩ : ∃ c, t[k] = c := ⟨_, rfl⟩
      rw [hcc] at hxk
      have HW := Lib.hid (fun W => rwordly_any (c.toNat : Int) W)
      rw [wrdI_byte] at HW
      have hwr := wrap_byte c
      cases hc : isWrd c with
      | true =>
        have HA2 := Lib.hid (take_all hxk.out hc HA.out)
        rw [hc] at HW
        clear hc
        go_wp2_with fail
        refine (HW.out _).mono ?_
        rintro e w1 ⟨rfl, rfl⟩
        go_wp2
        go_round
        case rel => exact ⟨k + 1, by go_num, by omega, HA2⟩
        case measure => simp [intOf]; omega
      | false =>
        have HF := Lib.hid (nameB_no hxk.out hc)
        rw [hc] at HW
        clear hc
        go_wp2_with fail
        refine (HW.out _).mono ?_
        rintro e w1 ⟨rfl, rfl⟩
        go_wp2
        go_ret
        exact ⟨ret_bool HF.out.symm, rfl⟩
    · have hge : ¬ (k : Int) < (t.size : Int) := by omega
      have hA : t.data.toList.all isWrd = true := by
        have := HA.out
        rw [List.take_of_length_le (by rw [HLL.out]; omega)] at this
        exact this
      by_cases h0 : t.size < 1
      · have HF : Hid (nameB t.data.toList = false) := Lib.hid (by
          cases hl : t.data.toList with
          | nil => rfl
          | cons c r => have := HLL.out; rw [hl] at this; simp at this; omega)
        have b1 : ¬ (1 : Int) ≤ (t.size : Int) := by omega
        have b2 : decide ((1 : Int) ≤ (t.size : Int)) = false := decide_eq_false b1
        clear hA
        go_wp2
        go_ret
        exact ⟨ret_bool HF.out.symm, rfl⟩
      have hx0 := get_of t 0 (by omega)
      by_cases h1 : 32 < t.size
      · have HF : Hid (nameB t.data.toList = false) := Lib.hid (by rw [nameB_of hx0, decide_eq_false (by rw [HLL.out]; omega)]; rfl)
        have b1 : (1 : Int) ≤ (t.size : Int) := by omega
        have b2 : ¬ (t.size : Int) ≤ 32 := by omega
        have b3 : decide ((1 : Int) ≤ (t.size : Int)) = true := decide_eq_true b1
        have b4 : decide ((t.size : Int) ≤ 32) = false := decide_eq_false b2
        clear hA hx0
        go_wp2
        go_ret
        exact ⟨ret_bool HF.out.symm, rfl⟩
      have hp0 : 0 < t.size := by omega
      have HF : Hid (nameB t.data.toList = isLet t[0]) := Lib.hid (by rw [nameB_of hx0, decide_eq_true (by rw [HLL.out]; omega), hA]; simp)
      obtain ⟨d, hd⟩ : ∃ d, t[0] = d := ⟨_, rfl⟩
      rw [hd] at HF
      have HW := Lib.hid (fun W => rletter_any (d.toNat : Int) W)
      rw [ltI_byte] at HW
      have hwr := wrap_byte d
      have b1 : (1 : Int) ≤ (t.size : Int) := by omega
      have b2 : (t.size : Int) ≤ 32 := by omega
      have b3 : decide ((1 : Int) ≤ (t.size : Int)) = true := decide_eq_true b1
      have b4 : decide ((t.size : Int) ≤ 32) = true := decide_eq_true b2
      clear hA hx0
      go_wp2_with fail
      refine (HW.out _).mono ?_
      rintro e w1 ⟨rfl, rfl⟩
      go_wp2
      go_ret
      exact ⟨ret_bool HF.out.symm, rfl⟩

end Go.Proofs.YtlmaafmhadbiaaaGreatDoor
