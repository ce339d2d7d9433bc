/- Right: the key of a plural. -/
import Derived.Test.YtlmaafmhadbiaaaGreatDoorMs
namespace Go.Proofs.YtlmaafmhadbiaaaGreatDoor
open Go.RowKit

/-- A key that begins with '='. -/
def eqB (s : List UInt8) : Bool := match s with | 61 :: r => numB r | _ => false
theorem pkey_eq (s : List UInt8) : pkeyB s = (s == [122, 101, 114, 111] || s == [111, 110, 101] || s == [116, 119, 111] || s == [102, 101, 119] || s == [109, 97, 110, 121] || s == [111, 116, 104, 101, 114] || eqB s) := by
  unfold pkeyB eqB; rfl

set_option maxHeartbeats 1600000 in
set_option maxRecDepth 100000 in
theorem hasPre_any (s : BA) (c : UInt8) (w : World) : Calls Tryz.prog 98 #[.string s, .string ⟨#[c]⟩] w fun e w' => e = .returned (.bool (s.data.toList.head? == some c)) ∧ w' = w := by
  by_cases h0 : s.size = 0
  · have hs : s = ⟨#[]⟩ := by apply ByteArray.ext; exact Array.eq_empty_of_size_eq_zero h0
    subst hs
    go_enter Tryz.func98, Tryz.ntmps98
    go_wp2
    go_ret
    exact ⟨rfl, rfl⟩
  · have h1 : (1 : Int) ≤ s.size := by omega
    have h2 : 1 ≤ s.size := by omega
    obtain ⟨d, r, hdr⟩ : ∃ d r, s.data.toList = d :: r := by
      cases h : s.data.toList with
      | nil => have := len_list s; rw [h] at this; simp at this; omega
      | cons d r => exact ⟨d, r, rfl⟩
    have hx : s.extract 0 1 = ⟨#[d]⟩ := by
      apply ByteArray.ext
      apply Array.toList_inj.1
      simp only [ByteArray.data_extract, Array.toList_extract, List.extract_eq_take_drop]
      rw [hdr]; rfl
    have HE : Hid ((s.data.toList.head? == some c) = (d == c)) := Lib.hid (by rw [hdr]; rfl)
    clear hdr
    go_enter Tryz.func98, Tryz.ntmps98
    go_wp2
    go_ret
    exact ⟨ret_bool HE.out.symm, rfl⟩

/-- What stands behind a first '='. -/
def cutB (s : BA) : BA := if s.data.toList.head? = some 61 then s.extract 1 s.size else s
theorem cutB_eq (s : BA) (h : s.data.toList.head? = some 61) : numB (cutB s).data.toList = eqB s.data.toList := by
  unfold cutB; rw [if_pos h]
  cases hs : s.data.toList with
  | nil => rw [hs] at h; cases h
  | cons d r =>
    rw [hs] at h
    obtain rfl : d = 61 := by simpa using h
    simp only [eqB, ByteArray.data_extract, Array.toList_extract, List.extract_eq_take_drop]
    rw [hs]
    have hl := len_list s
    rw [hs] at hl
    simp only [List.length_cons] at hl
    simp only [List.drop_succ_cons, List.drop_zero]
    rw [List.take_of_length_le (by omega)]

set_option maxHeartbeats 1600000 in
set_option maxRecDepth 100000 in
theorem cut65_any (s : BA) (hs : s.size ≤ 140737488351232) (w : World) : Calls Tryz.prog 86 #[.string s, .string ⟨#[61]⟩] w fun e w' => e = .returned (.tuple #[.string (cutB s), .bool (s.data.toList.head? == some 61)]) ∧ w' = w := by
  have HH := Lib.hid (hasPre_any s 61 w)
  cases hb : (s.data.toList.head? == some 61) with
  | true =>
    rw [hb] at HH
    have HE : Hid (cutB s = s.extract 1 s.size) := Lib.hid (by unfold cutB; rw [if_pos (beq_iff_eq.1 hb)])
    have h1 : (1 : Int) ≤ s.size := by
      cases h : s.data.toList with
      | nil => rw [h] at hb; cases hb
      | cons d r => have := len_list s; rw [h] at this; simp only [List.length_cons] at this; omega
    clear hb
    go_enter Tryz.func86, Tryz.ntmps86
    go_wp2_with fail
    refine HH.out.mono ?_
    rintro e w2 ⟨rfl, rfl⟩
    go_wp2
    exact bodyPost_ret (v := .tuple #[.string (s.extract 1 s.size), .bool true]) (by simp [results, Tryz.results86, go_sem]) rfl ⟨by rw [HE.out], rfl⟩
  | false =>
    rw [hb] at HH
    have HE : Hid (cutB s = s) := Lib.hid (by unfold cutB; rw [if_neg (by rw [beq_eq_false_iff_ne] at hb; exact hb)])
    clear hb
    go_enter Tryz.func86, Tryz.ntmps86
    go_wp2_with fail
    refine HH.out.mono ?_
    rintro e w2 ⟨rfl, rfl⟩
    go_wp2
    exact bodyPost_ret (v := .tuple #[.string s, .bool false]) (by simp [results, Tryz.results86, go_sem]) rfl ⟨by rw [HE.out], rfl⟩
set_option maxHeartbeats 1600000 in
set_option maxRecDepth 100000 in
theorem cut_any (s : BA) (hs : s.size ≤ 140737488351232) (w : World) : Calls Tryz.prog 72 #[.string s, .string ⟨#[61]⟩] w fun e w' => e = .returned (.tuple #[.string (cutB s), .bool (s.data.toList.head? == some 61)]) ∧ w' = w := by
  have HH := Lib.hid (cut65_any s hs w)
  generalize cutB s = c at *
  generalize (s.data.toList.head? == some 61) = b at *
  go_enter Tryz.func72, Tryz.ntmps72
  go_wp2_with fail
  refine HH.out.mono ?_
  rintro e w2 ⟨rfl, rfl⟩
  go_wp2
  exact bodyPost_ret (v := .tuple #[.string c, .bool b]) (by simp [results, Tryz.results72, go_sem]) rfl ⟨rfl, rfl⟩
theorem str_of {s : BA} {l : List UInt8} (h : s.data.toList = l) : s = ⟨l.toArray⟩ := by
  apply ByteArray.ext; apply Array.toList_inj.1; simpa using h
theorem str_ne {s : BA} {l : List UInt8} (h : s.data.toList ≠ l) : (s.toList == l) = false := by rw [ByteArray.toList_eq]; exact beq_eq_false_iff_ne.2 h

set_option maxHeartbeats 3200000 in
set_option maxRecDepth 100000 in
theorem pkey_any (s : BA) (hs : s.size ≤ 140737488351232) (w : World) (hE : EnvW w) : Calls Tryz.prog 56 #[.string s] w fun e w' => e = .returned (.bool (pkeyB s.data.toList)) ∧ Below w.heap.size w w' := by
  by_cases hzero : s.data.toList = [122, 101, 114, 111]
  · have HE : Hid (pkeyB s.data.toList = true) := Lib.hid (by rw [hzero]; decide)
    obtain rfl := str_of hzero
    clear hzero
    go_enter Tryz.func56, Tryz.ntmps56
    go_wp2
    go_ret
    exact ⟨ret_bool HE.out.symm, Below.refl _ _⟩
  by_cases hone : s.data.toList = [111, 110, 101]
  · have HE : Hid (pkeyB s.data.toList = true) := Lib.hid (by rw [hone]; decide)
    obtain rfl := str_of hone
    clear hone
    go_enter Tryz.func56, Tryz.ntmps56
    go_wp2
    go_ret
    exact ⟨ret_bool HE.out.symm, Below.refl _ _⟩
  by_cases htwo : s.data.toList = [116, 119, 111]
  · have HE : Hid (pkeyB s.data.toList = true) := Lib.hid (by rw [htwo]; decide)
    obtain rfl := str_of htwo
    clear htwo
    go_enter Tryz.func56, Tryz.ntmps56
    go_wp2
    go_ret
    exact ⟨ret_bool HE.out.symm, Below.refl _ _⟩
  by_cases hfew : s.data.toList = [102, 101, 119]
  · have HE : Hid (pkeyB s.data.toList = true) := Lib.hid (by rw [hfew]; decide)
    obtain rfl := str_of hfew
    clear hfew
    go_enter Tryz.func56, Tryz.ntmps56
    go_wp2
    go_ret
    exact ⟨ret_bool HE.out.symm, Below.refl _ _⟩
  by_cases hmany : s.data.toList = [109, 97, 110, 121]
  · have HE : Hid (pkeyB s.data.toList = true) := Lib.hid (by rw [hmany]; decide)
    obtain rfl := str_of hmany
    clear hmany
    go_enter Tryz.func56, Tryz.ntmps56
    go_wp2
    go_ret
    exact ⟨ret_bool HE.out.symm, Below.refl _ _⟩
  by_cases hother : s.data.toList = [111, 116, 104, 101, 114]
  · have HE : Hid (pkeyB s.data.toList = true) := Lib.hid (by rw [hother]; decide)
    obtain rfl := str_of hother
    clear hother
    go_enter Tryz.func56, Tryz.ntmps56
    go_wp2
    go_ret
    exact ⟨ret_bool HE.out.symm, Below.refl _ _⟩
  have Bzero := str_ne hzero
  have Bone := str_ne hone
  have Btwo := str_ne htwo
  have Bfew := str_ne hfew
  have Bmany := str_ne hmany
  have Bother := str_ne hother
  have HE0 : Hid (pkeyB s.data.toList = eqB s.data.toList) := Lib.hid (by rw [pkey_eq]; simp [hzero, hone, htwo, hfew, hmany, hother])
  have HC := Lib.hid (cut_any s hs w)
  have HN := Lib.hid (fun h => cutB_eq s h)
  have HEV := Lib.hid hE
  have hcs : (cutB s).size ≤ 140737488351232 := by
    by_cases h : s.data.toList.head? = some 61
    · unfold cutB; rw [if_pos h, ByteArray.size_extract]; omega
    · unfold cutB; rw [if_neg h]; exact hs
  have HNB := Lib.hid (number_any (cutB s) w hcs hE)
  have HNO : Hid (s.data.toList.head? ≠ some 61 → eqB s.data.toList = false) := Lib.hid (fun h => by
    cases hl : s.data.toList with
    | nil => rfl
    | cons d r =>
      rw [hl] at h
      have hd : d ≠ 61 := fun e => h (by rw [e]; rfl)
      unfold eqB
      split
      · rename_i e; injection e with e; exact absurd e hd
      · rfl)
  clear hzero hone htwo hfew hmany hother hcs hE
  generalize cutB s = c at *
  cases hb : (s.data.toList.head? == some 61) with
  | true =>
    rw [hb] at HC
    have HE := Lib.hid (HE0.out.trans (HN.out (beq_iff_eq.1 hb)).symm)
    clear hb
    go_enter Tryz.func56, Tryz.ntmps56
    go_wp2_with fail
    refine HC.out.mono ?_
    rintro e w2 ⟨rfl, rfl⟩
    go_wp2_with fail
    refine HNB.out.mono ?_
    rintro e w3 ⟨rfl, hb3⟩
    have HB3 := Lib.hid hb3
    clear hb3
    go_wp2
    go_ret
    exact ⟨ret_bool HE.out.symm, HB3.out⟩
  | false =>
    rw [hb] at HC
    have HE := Lib.hid (HE0.out.trans (HNO.out (beq_eq_false_iff_ne.1 hb)))
    clear hb
    go_enter Tryz.func56, Tryz.ntmps56
    go_wp2_with fail
    refine HC.out.mono ?_
    rintro e w2 ⟨rfl, rfl⟩
    go_wp2
    go_ret
    exact ⟨ret_bool HE.out.symm, Below.refl _ _⟩
end Go.Proofs.YtlmaafmhadbiaaaGreatDoor
