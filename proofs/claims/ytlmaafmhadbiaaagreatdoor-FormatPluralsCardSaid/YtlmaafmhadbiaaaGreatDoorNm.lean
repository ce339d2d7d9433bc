/- Letters and names. -/
import Derived.Test.YtlmaafmhadbiaaaGreatDoorMem
import Derived.Test.YtlmaafmhadbiaaaGreatDoorShelf
import Derived.Deep.QuietTactic
import Derived.BigQuiet
import Derived.IntWalk
namespace Go.Proofs.YtlmaafmhadbiaaaGreatDoor
open Go.RowKit

set_option maxHeartbeats 1600000 in
set_option maxRecDepth 100000 in
theorem letter_any (c : UInt8) (w : World) : Calls Tryz.prog 39 #[.int .u8 c.toNat] w fun e w' => e = .returned (.bool (isLet c)) ∧ w' = w := by
  have hc := c.toNat_lt
  by_cases h1 : 97 ≤ c.toNat
  · by_cases h2 : c.toNat ≤ 122
    · have HE : Hid (isLet c = true) := Lib.hid (by unfold isLet; simp [h1, h2])
      have g1 : (97 : Int) ≤ (c.toNat : Int) := by omega
      have g2 : (c.toNat : Int) ≤ 122 := by omega
      go_enter Tryz.func39, Tryz.ntmps39
      go_wp2
      go_ret
      exact ⟨by rw [HE.out]; rfl, rfl⟩
    · have HE : Hid (isLet c = false) := Lib.hid (by unfold isLet; simp [h2])
      have g1 : (97 : Int) ≤ (c.toNat : Int) := by omega
      have g2 : ¬ (c.toNat : Int) ≤ 122 := by omega
      go_enter Tryz.func39, Tryz.ntmps39
      go_wp2
      go_ret
      exact ⟨by rw [HE.out]; rfl, rfl⟩
  · have HE : Hid (isLet c = false) := Lib.hid (by unfold isLet; simp [h1])
    have g1 : ¬ (97 : Int) ≤ (c.toNat : Int) := by omega
    go_enter Tryz.func39, Tryz.ntmps39
    go_wp2
    go_ret
    exact ⟨by rw [HE.out]; rfl, rfl⟩

theorem nameB_of {l : List UInt8} {c : UInt8} (h : l[0]? = some c) : nameB l = (decide (l.length ≤ 32) && isLet c && l.all isWrd) := by
  cases l with
  | nil => cases h
  | cons d r =>
    obtain rfl : d = c := by simpa using h
    show (decide (r.length ≤ 31) && _ && _) = _
    have : decide (r.length ≤ 31) = decide ((d :: r).length ≤ 32) := by simp
    rw [this]
theorem nameB_no {l : List UInt8} {k : Nat} {c : UInt8} (h : l[k]? = some c) (hc : isWrd c = false) : nameB l = false := by
  cases h0 : l[0]? with
  | none => rw [List.getElem?_eq_none_iff] at h0; have := get_lt h; omega
  | some d =>
    rw [nameB_of h0]
    have : l.all isWrd = false := by
      rw [List.all_eq_false]
      exact ⟨c, List.mem_of_getElem? h, by simp [hc]⟩
    simp [this]
theorem isWrd_let {c : UInt8} (h : isLet c = true) : isWrd c = true := by unfold isWrd; simp [h]
theorem take_all {l : List UInt8} {k : Nat} {c : UInt8} (h : l[k]? = some c) (hc : isWrd c = true) (ha : (l.take k).all isWrd = true) : (l.take (k + 1)).all isWrd = true := by
  rw [List.take_add_one, h, List.all_append, ha]; simp [hc]

set_option maxHeartbeats 3200000 in
set_option maxRecDepth 100000 in
theorem name_any (t : BA) (w : World) (ht : t.size ≤ 140737488351232) : Calls Tryz.prog 23 #[.string t] w fun e w' => e = .returned (.bool (nameB t.data.toList)) ∧ w' = w := by
  by_cases h0 : t.size < 1
  · have HE : Hid (nameB t.data.toList = false) := Lib.hid (by
      cases hl : t.data.toList with
      | nil => rfl
      | cons c r => have := len_list t; rw [hl] at this; simp at this; omega)
    have hlt : (t.size : Int) < 1 := by omega
    go_enter Tryz.func23, Tryz.ntmps23
    go_wp2
    go_ret
    exact ⟨by rw [HE.out]; rfl, rfl⟩
  have hge : ¬ (t.size : Int) < 1 := by omega
  have hx0 := get_of t 0 (by omega)
  by_cases h1 : 32 < t.size
  · have HE : Hid (nameB t.data.toList = false) := Lib.hid (by rw [nameB_of hx0, decide_eq_false (by rw [len_list]; omega)]; rfl)
    have hgt : (32 : Int) < (t.size : Int) := by omega
    clear hx0
    go_enter Tryz.func23, Tryz.ntmps23
    go_wp2
    go_ret
    exact ⟨by rw [HE.out]; rfl, rfl⟩
  have hng : ¬ (32 : Int) < (t.size : Int) := by omega
  have hp0 : 0 < t.size := by omega
  have HL := Lib.hid (fun w => letter_any t[0] w)
  cases hlet : isLet t[0] with
  | false =>
    have HE : Hid (nameB t.data.toList = false) := Lib.hid (by rw [nameB_of hx0, hlet]; simp)
    rw [hlet] at HL
    clear hx0 hlet
    go_enter Tryz.func23, Tryz.ntmps23
    go_wp2_with fail
    refine (HL.out _).mono ?_
    rintro e w1 ⟨rfl, rfl⟩
    go_wp2
    go_ret
    exact ⟨by rw [HE.out]; rfl, rfl⟩
  | true =>
    have HE : Hid (nameB t.data.toList = t.data.toList.all isWrd) := Lib.hid (by rw [nameB_of hx0, hlet, decide_eq_true (by rw [len_list]; omega)]; rfl)
    rw [hlet] at HL
    clear hx0 hlet
    go_enter Tryz.func23, Tryz.ntmps23
    go_wp2_with fail
    refine (HL.out _).mono ?_
    rintro e w1 ⟨rfl, rfl⟩
    clear HL
    go_wp2
    go_loop [21] (fun i => ∃ k : Nat, i = .int .i64 k ∧ k ≤ t.size ∧ Hid ((t.data.toList.take k).all isWrd = true)) (fun i => t.size - (intOf i).toNat)
    case atStart => exact ⟨0, rfl, by omega, Lib.hid rfl⟩
    case round =>
      obtain ⟨k, rfl, hk, HA⟩ := hrel
      by_cases hlt : k < t.size
      · have hxk := Lib.hid (get_of t k hlt)
        have hlt2 : (k : Int) < (t.size : Int) := by omega
        obtain ⟨c, hcc⟩ : ∃ c, t[k] = c := ⟨_, rfl⟩
        rw [hcc] at hxk
        have HL := Lib.hid (fun w => letter_any c w)
        have hc8 := c.toNat_lt
        cases hlc : isLet c with
        | true =>
          have HA2 := Lib.hid (take_all hxk.out (isWrd_let hlc) HA.out)
          rw [hlc] at HL
          clear hlc
          go_wp2_with fail
          refine (HL.out _).mono ?_
          rintro e w1 ⟨rfl, rfl⟩
          go_wp2
          go_round
          case rel => exact ⟨k + 1, by go_num, by omega, HA2⟩
          case measure => simp [intOf]; omega
        | false =>
          rw [hlc] at HL
          by_cases hd : 48 ≤ c.toNat ∧ c.toNat ≤ 57
          · have HA2 := Lib.hid (take_all hxk.out (show isWrd c = true by unfold isWrd isDig; simp [hd.1, hd.2]) HA.out)
            have g1 : ¬ (c.toNat : Int) < 48 := by omega
            have g2 : ¬ (57 : Int) < (c.toNat : Int) := by omega
            clear hlc hd
            go_wp2_with fail
            refine (HL.out _).mono ?_
            rintro e w1 ⟨rfl, rfl⟩
            go_wp2
            go_round
            case rel => exact ⟨k + 1, by go_num, by omega, HA2⟩
            case measure => simp [intOf]; omega
          · have hdig : isDig c = false := by unfold isDig; simp; omega
            by_cases hu : c.toNat = 95
            · have HA2 := Lib.hid (take_all hxk.out (show isWrd c = true by unfold isWrd; have : c = 95 := UInt8.toNat_inj.1 hu; simp [this]) HA.out)
              have g1 : ¬ (c.toNat : Int) < 48 := by omega
              have g2 : (57 : Int) < (c.toNat : Int) := by omega
              have g3 : ((c.toNat : Int) != (95 : Int)) = false := by simp; omega
              clear hlc hd hdig hu
              go_wp2_with fail
              refine (HL.out _).mono ?_
              rintro e w1 ⟨rfl, rfl⟩
              go_wp2
              go_round
              case rel => exact ⟨k + 1, by go_num, by omega, HA2⟩
              case measure => simp [intOf]; omega
            · have HN := Lib.hid (nameB_no hxk.out (show isWrd c = false by unfold isWrd; have : c ≠ 95 := fun e => hu (by rw [e]; rfl); simp [hlc, hdig, this]))
              have g3 : ((c.toNat : Int) != (95 : Int)) = true := by simp; omega
              by_cases h48 : c.toNat < 48
              · have g1 : (c.toNat : Int) < 48 := by omega
                clear hlc hd hdig hu
                go_wp2_with fail
                refine (HL.out _).mono ?_
                rintro e w1 ⟨rfl, rfl⟩
                go_wp2
                go_ret
                exact ⟨by rw [HN.out]; rfl, rfl⟩
              · have g1 : ¬ (c.toNat : Int) < 48 := by omega
                have g2 : (57 : Int) < (c.toNat : Int) := by omega
                clear hlc hd hdig hu
                go_wp2_with fail
                refine (HL.out _).mono ?_
                rintro e w1 ⟨rfl, rfl⟩
                go_wp2
                go_ret
                exact ⟨by rw [HN.out]; rfl, rfl⟩
      · have HT : Hid (nameB t.data.toList = true) := Lib.hid (by
          have h := HA.out
          rw [List.take_of_length_le (by simp; omega)] at h
          rw [HE.out]; exact h)
        have hlt2 : ¬ (k : Int) < (t.size : Int) := by omega
        go_wp2
        go_ret
        exact ⟨by rw [HT.out]; rfl, rfl⟩
end Go.Proofs.YtlmaafmhadbiaaaGreatDoor
