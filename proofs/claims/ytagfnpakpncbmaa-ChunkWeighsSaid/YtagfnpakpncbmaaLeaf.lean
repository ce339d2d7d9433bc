/- rolled, Weight, first, short of package chunk and the document's Weight: what each call answers. -/
import Derived.Test.YtagfnpakpncbmaaPlain
import Derived.Test.YtagfnpakpncbmaaChecked
import Derived.WalkKit
import Derived.Deep.QuietTactic
import Derived.BigQuiet
import Derived.Lib.Hide
import Derived.WalkSpells
import Derived.WalkLawsBesides
import Derived.Laws.EntriesVeiled
import Derived.BigRegion
import Derived.IntWalk
import Derived.Below
import Derived.Laws.OwnMore
import Derived.Laws.IdiomStrings
namespace Go.Proofs.Ytagfnpakpncbmaa
open Go.RowKit

theorem ret_int {k : IntKind} {a b : Int} (h : a = b) : Ending.returned (.int k a) = .returned (.int k b) := by rw [h]
theorem ret_bool {a b : Bool} (h : a = b) : Ending.returned (.bool a) = .returned (.bool b) := by rw [h]
theorem ret_str {a b : ByteArray} (h : a = b) : Ending.returned (.string a) = .returned (.string b) := by rw [h]
theorem ba_len (s : ByteArray) : s.data.toList.length = s.size := by simp
theorem ba_ext {a b : ByteArray} (h : a.data.toList = b.data.toList) : a = b := by
  cases a; cases b; simp at h; simp [h]
theorem extract_list (s : ByteArray) (i j : Nat) : (s.extract i j).data.toList = (s.data.toList.drop i).take (j - i) := by
  simp [ByteArray.data_extract, List.extract_eq_take_drop]
theorem extract_size (s : ByteArray) (i j : Nat) (h : j ≤ s.size) : (s.extract i j).size = j - i := by
  simp [ByteArray.size_extract]; omega
theorem take_of (s : ByteArray) (k : Nat) (h : k < s.size) : s.data.toList.take (k + 1) = s.data.toList.take k ++ [s[k]] := by
  rw [List.take_add_one, List.getElem?_eq_getElem (by simpa using h)]; rfl
theorem get_of (s : ByteArray) (k : Nat) (h : k < s.size) : s.data.toList[k]? = some s[k] := by
  rw [List.getElem?_eq_getElem (by simpa using h)]; rfl

theorem cast_many (R b c : Nat) : (((R : Int) * 31 + (b : Int) + 1) % 4294967296 - ((c : Int) + 1) * 1353309697 % 4294967296) % 4294967296 = ((((R * 31 + b + 1) % 4294967296 : Nat) : Int) - (((c + 1) * 1353309697 % 4294967296 : Nat) : Int)) % 4294967296 := by
  have h1 : ((R : Int) * 31 + (b : Int) + 1) % 4294967296 = (((R * 31 + b + 1) % 4294967296 : Nat) : Int) := by omega
  have h2 : ((c : Int) + 1) * 1353309697 % 4294967296 = (((c + 1) * 1353309697 % 4294967296 : Nat) : Int) := by omega
  rw [h1, h2]

set_option maxHeartbeats 1600000 in
theorem rolled_any (s : ByteArray) (k : Nat) (w : World) (hs : s.size ≤ 140737488351232) (hk : k < s.size) : Calls Try.prog 19 #[.int .u32 (weightF (s.data.toList.take k)), .string s, .int .i64 k] w fun e w' => e = .returned (.int .u32 (weightF (s.data.toList.take (k + 1)))) ∧ w = w' := by
  have hl : (s.data.toList.take k).length = k := by simp; omega
  have hlt := weightF_lt (s.data.toList.take k)
  by_cases h16 : k < 16
  · have H := weightF_few (s.data.toList.take k) s[k] (by omega)
    rw [← take_of s k hk] at H
    have HH := Lib.hid H
    clear H
    generalize weightF (s.data.toList.take k) = R at *
    generalize weightF (s.data.toList.take (k + 1)) = R' at *
    go_enter Try.func19, Try.ntmps19
    go_wp2
    go_ret
    refine ⟨ret_int ?_, rfl⟩
    rw [HH.out]
    omega
  · have hc : (s.data.toList.take k)[(s.data.toList.take k).length - 16]? = some (s[k - 16]'(by omega)) := by
      rw [hl, List.getElem?_take, if_pos (by omega)]; exact get_of s (k - 16) (by omega)
    have H := weightF_many (s.data.toList.take k) s[k] _ (by omega) hc
    rw [← take_of s k hk] at H
    have HH := Lib.hid H
    clear H hc
    generalize weightF (s.data.toList.take k) = R at *
    generalize weightF (s.data.toList.take (k + 1)) = R' at *
    go_enter Try.func19, Try.ntmps19
    go_wp2
    go_ret
    refine ⟨ret_int ?_, rfl⟩
    rw [HH.out]
    have hc1 : ((s[k - 16].toNat : Int) + 1) % 4294967296 = (s[k - 16].toNat : Int) + 1 := by have := (s[k - 16]).toNat_lt; omega
    rw [hc1]
    exact cast_many R s[k].toNat s[k - 16].toNat

theorem weightF_win (l : Bs) : weightF (winF l) = weightF l := by
  unfold weightF winF
  congr 2
  rw [List.drop_drop]
  congr 1
  simp; omega

set_option maxHeartbeats 1600000 in
theorem weight_any (s : ByteArray) (w : World) (hs : s.size ≤ 140737488351232) : Calls Try.prog 9 #[.string s] w fun e w' => e = .returned (.int .u32 (weightF s.data.toList)) ∧ w = w' := by
  by_cases h16 : s.size ≤ 16
  · go_enter Try.func9, Try.ntmps9
    go_wp2
    go_loop [4, 14] (fun r i => ∃ k : Nat, k ≤  s.size ∧ i = .int .i64 k ∧ r = .int .u32 (weightF (s.data.toList.take k))) (fun _ i =>  s.size - (intOf i).toNat)
    case atStart => exact ⟨0, by omega, rfl, rfl⟩
    case round =>
      obtain ⟨k, hk, rfl, rfl⟩ := hrel
      by_cases hlt : k <  s.size
      · have hw := weightF_lt (s.data.toList.take k)
        have hr := Lib.hid (rolled_any s k w (by omega) hlt)
        go_wp2_with fail
        refine hr.out.mono ?_
        rintro e w1 ⟨rfl, rfl⟩
        go_wp2
        refine ⟨⟨k + 1, by omega, by go_num, rfl⟩, ?_⟩
        simp [intOf]; omega
      · have he :  s.data.toList.take k =  s.data.toList := List.take_of_length_le (by rw [ba_len]; omega)
        go_wp2
        go_ret
        exact ⟨rfl, rfl⟩
  · have hd : (s.extract (s.size - 16) s.size).data.toList = winF s.data.toList := by
      rw [extract_list, winF, ba_len, List.take_of_length_le (by simp)]
    have hz : (s.extract (s.size - 16) s.size).size = 16 := by rw [extract_size _ _ _ (Nat.le_refl _)]; omega
    have HT : Hid (weightF (s.extract (s.size - 16) s.size).data.toList = weightF s.data.toList) := Lib.hid (by rw [hd, weightF_win])
    have hn : ((s.size : Int) - 16).toNat = s.size - 16 := by omega
    clear hd
    go_enter Try.func9, Try.ntmps9
    go_wp2
    generalize s.extract (s.size - 16) s.size = t at *
    go_loop [4, 14] (fun r i => ∃ k : Nat, k ≤ t.size ∧ i = .int .i64 k ∧ r = .int .u32 (weightF (t.data.toList.take k))) (fun _ i => t.size - (intOf i).toNat)
    case atStart => exact ⟨0, by omega, rfl, rfl⟩
    case round =>
      obtain ⟨k, hk, rfl, rfl⟩ := hrel
      by_cases hlt : k < t.size
      · have hw := weightF_lt (t.data.toList.take k)
        have hr := Lib.hid (rolled_any t k w (by omega) hlt)
        go_wp2_with fail
        refine hr.out.mono ?_
        rintro e w1 ⟨rfl, rfl⟩
        go_wp2
        refine ⟨⟨k + 1, by omega, by go_num, rfl⟩, ?_⟩
        simp [intOf]; omega
      · have he : t.data.toList.take k = t.data.toList := List.take_of_length_le (by rw [ba_len]; omega)
        go_wp2
        go_ret
        refine ⟨ret_int ?_, rfl⟩
        rw [HT.out]

/-- Up to here no chunk has ended. -/
def NoEnd (l : Bs) (k : Nat) : Prop := ∀ m, 32 ≤ m → m ≤ k → weightF (l.take m) % 64 ≠ 7
theorem NoEnd.succ {l : Bs} {k : Nat} (h : NoEnd l k) (h1 : ¬ (32 ≤ k + 1 ∧ weightF (l.take (k + 1)) % 64 = 7)) : NoEnd l (k + 1) := fun m hm hk => by
  rcases Nat.lt_or_eq_of_le hk with h2 | rfl
  · exact h m hm (by omega)
  · exact fun h3 => h1 ⟨hm, h3⟩

set_option maxRecDepth 100000 in
set_option maxHeartbeats 3200000 in
theorem first_any (s : ByteArray) (w : World) (hs : s.size ≤ 140737488351232) : Calls Try.prog 25 #[.string s] w fun e w' => ∃ n : Nat, e = .returned (.int .i64 n) ∧ IsFirst s.data.toList n ∧ w = w' := by
  by_cases h512 : 512 < s.size
  · have hi : (512 : Int) < (s.size : Int) := by omega
    go_enter Try.func25, Try.ntmps25
    go_wp2
    go_loop [4, 10] (fun r i => ∃ k : Nat, k ≤ 512 ∧ i = .int .i64 k ∧ r = .int .u32 (weightF (s.data.toList.take k)) ∧ Hid (NoEnd s.data.toList k)) (fun _ i => 512 - (intOf i).toNat)
    case atStart => exact ⟨0, by omega, rfl, rfl, Lib.hid (fun m h1 h2 => by omega)⟩
    case round =>
      obtain ⟨k, hk, rfl, rfl, HN⟩ := hrel
      by_cases hlt : k < 512
      · have hr := Lib.hid (rolled_any s k w (by omega) (by omega))
        have hw := weightF_lt (s.data.toList.take (k + 1))
        go_wp2_with fail
        refine hr.out.mono ?_
        rintro e w1 ⟨rfl, rfl⟩
        by_cases h32 : 32 ≤ k + 1
        · by_cases h7 : weightF (s.data.toList.take (k + 1)) % 64 = 7
          · have H7 := Lib.hid h7
            have hB : (((weightF (s.data.toList.take (k + 1)) : Nat) : Int) % 64 == 7) = true := by rw [beq_iff_eq]; omega
            clear h7
            go_wp2
            go_ret
            exact ⟨k + 1, by go_num, ⟨by rw [ba_len]; omega, by omega, fun _ _ => ⟨h32, H7.out⟩, fun m h1 h2 => HN.out m h1 (by omega)⟩, rfl⟩
          · have H7 := Lib.hid h7
            have hB : (((weightF (s.data.toList.take (k + 1)) : Nat) : Int) % 64 == 7) = false := by rw [beq_eq_false_iff_ne]; omega
            clear h7
            go_wp2
            refine ⟨⟨k + 1, by omega, by go_num, rfl, Lib.hid (HN.out.succ fun h => H7.out h.2)⟩, ?_⟩
            simp [intOf]; omega
        · go_wp2
          refine ⟨⟨k + 1, by omega, by go_num, rfl, Lib.hid (HN.out.succ fun h => h32 h.1)⟩, ?_⟩
          simp [intOf]; omega
      · go_wp2
        go_ret
        exact ⟨512, rfl, ⟨by rw [ba_len]; omega, by omega, fun h1 h2 => by rw [ba_len] at h1; omega, fun m h1 h2 => HN.out m h1 (by omega)⟩, rfl⟩
  · have hi : ¬ (512 : Int) < (s.size : Int) := by omega
    go_enter Try.func25, Try.ntmps25
    go_wp2
    go_loop [4, 10] (fun r i => ∃ k : Nat, k ≤ s.size ∧ i = .int .i64 k ∧ r = .int .u32 (weightF (s.data.toList.take k)) ∧ Hid (NoEnd s.data.toList k)) (fun _ i => s.size - (intOf i).toNat)
    case atStart => exact ⟨0, by omega, rfl, rfl, Lib.hid (fun m h1 h2 => by omega)⟩
    case round =>
      obtain ⟨k, hk, rfl, rfl, HN⟩ := hrel
      by_cases hlt : k < s.size
      · have hr := Lib.hid (rolled_any s k w (by omega) (by omega))
        have hw := weightF_lt (s.data.toList.take (k + 1))
        go_wp2_with fail
        refine hr.out.mono ?_
        rintro e w1 ⟨rfl, rfl⟩
        by_cases h32 : 32 ≤ k + 1
        · by_cases h7 : weightF (s.data.toList.take (k + 1)) % 64 = 7
          · have H7 := Lib.hid h7
            have hB : (((weightF (s.data.toList.take (k + 1)) : Nat) : Int) % 64 == 7) = true := by rw [beq_iff_eq]; omega
            clear h7
            go_wp2
            go_ret
            exact ⟨k + 1, by go_num, ⟨by rw [ba_len]; omega, by omega, fun _ _ => ⟨h32, H7.out⟩, fun m h1 h2 => HN.out m h1 (by omega)⟩, rfl⟩
          · have H7 := Lib.hid h7
            have hB : (((weightF (s.data.toList.take (k + 1)) : Nat) : Int) % 64 == 7) = false := by rw [beq_eq_false_iff_ne]; omega
            clear h7
            go_wp2
            refine ⟨⟨k + 1, by omega, by go_num, rfl, Lib.hid (HN.out.succ fun h => H7.out h.2)⟩, ?_⟩
            simp [intOf]; omega
        · go_wp2
          refine ⟨⟨k + 1, by omega, by go_num, rfl, Lib.hid (HN.out.succ fun h => h32 h.1)⟩, ?_⟩
          simp [intOf]; omega
      · go_wp2
        go_ret
        exact ⟨s.size, rfl, ⟨by rw [ba_len]; omega, by omega, fun h1 h2 => by rw [ba_len] at h1; omega, fun m h1 h2 => HN.out m h1 (by omega)⟩, rfl⟩
end Go.Proofs.Ytagfnpakpncbmaa
