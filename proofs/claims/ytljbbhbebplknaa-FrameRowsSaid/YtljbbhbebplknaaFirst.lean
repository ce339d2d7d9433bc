/- sealed and first: what each call answers. -/
import Derived.Test.YtljbbhbebplknaaPut
import Derived.Deep.RegionWith
namespace Go.Proofs.Ytljbbhbebplknaa
open Go.RowKit

def ans : Option Bs → Value
  | some x => .tuple #[.string (str x), .bool true]
  | none => .tuple #[.string (str []), .bool false]

theorem ans_none {o : Option Bs} (h : o = none) : Ending.returned (.tuple #[.string ⟨#[]⟩, .bool false]) = .returned (ans o) := by rw [h]; rfl
theorem ans_some {o : Option Bs} {b : ByteArray} (h : o = some b.data.toList) : Ending.returned (.tuple #[.string b, .bool true]) = .returned (ans o) := by rw [h]; rfl

theorem ba_len (s : ByteArray) : s.data.toList.length = s.size := by simp
theorem extract_size (s : ByteArray) (i j : Nat) (h : j ≤ s.size) : (s.extract i j).size = j - i := by
  rw [← ByteArray.size_data, ← Array.length_toList, extract_list, List.length_take, List.length_drop, Array.length_toList, ByteArray.size_data]; omega

set_option maxHeartbeats 1600000 in
theorem sealed_no (s : ByteArray) (n : Nat) (w : World) (hs : s.size ≤ 140737488351232) (hn : n ≤ 65536) (h : s.size < n + 4) : Calls Try.prog 24 #[.string s, .int .i64 n] w fun e w' => e = .returned (ans (sealedF s.data.toList n)) ∧ ∃ m, w' = w.drewN m := by
  have hd : decide ((s.size : Int) < (n : Int) + 4) = true := by simp; omega
  go_enter Try.func24, Try.ntmps24
  go_wp2
  go_quiet (fail)
  go_wp2
  go_ret2
  refine ⟨ans_none ?_, _, rfl⟩
  unfold sealedF
  rw [if_neg (by simp; omega)]

set_option maxHeartbeats 1600000 in
theorem sealed_yes (s : ByteArray) (n : Nat) (w : World) (hs : s.size ≤ 140737488351232) (hn : n ≤ 65536) (h : n + 4 ≤ s.size) : Calls Try.prog 24 #[.string s, .int .i64 n] w fun e w' => e = .returned (ans (sealedF s.data.toList n)) ∧ ∃ m, w' = w.drewN m := by
  have hd : decide ((s.size : Int) < (n : Int) + 4) = false := by simp; omega
  have hv : Hid (∀ W, Calls Try.prog 25 #[.string (s.extract n (n + 4))] W fun e w' => e = .returned (.int .u32 (val ((s.data.toList.drop n).take 4))) ∧ ∃ m, w' = W.drewN m) := Lib.hid (fun W => (value_any (s.extract n (n + 4)) W (by rw [extract_size _ _ _ h]; omega)).mono fun e w' ⟨he, hw⟩ => ⟨by rw [he, extract_list]; simp, hw⟩)
  have hc : Hid (∀ W, Calls Try.prog 10 #[.string (s.extract 0 n)] W fun e w' => e = .returned (.int .u32 (crc (s.data.toList.take n))) ∧ w' = W) := Lib.hid (fun W => (sum_any (s.extract 0 n) W (by rw [extract_size _ _ _ (by omega)]; omega)).mono fun e w' ⟨he, hw⟩ => ⟨by rw [he, extract_list]; simp, hw.symm⟩)
  by_cases hq : val ((s.data.toList.drop n).take 4) = crc (s.data.toList.take n)
  · have hS : Hid (sealedF s.data.toList n = some (s.extract 0 n).data.toList) := Lib.hid (by
      unfold sealedF
      rw [if_pos ⟨by simp; omega, hq⟩, extract_list]; simp)
    have hB : (((val ((s.data.toList.drop n).take 4) : Nat) : Int) == ((crc (s.data.toList.take n) : Nat) : Int)) = true := by rw [hq]; simp
    have HQ := Lib.hid hq
    clear hq
    go_enter Try.func24, Try.ntmps24
    go_wp2
    go_quiet (first
      | (go_at_call 25; exact Calls.quiet_of (hv.out _))
      | (go_at_call 10; exact Calls.quiet_of_same (hc.out _)))
    go_wp2
    go_ret2
    exact ⟨ans_some hS.out, _, rfl⟩
  · have hS : Hid (sealedF s.data.toList n = none) := Lib.hid (by
      unfold sealedF
      rw [if_neg (fun h => hq h.2)])
    have hB : (((val ((s.data.toList.drop n).take 4) : Nat) : Int) == ((crc (s.data.toList.take n) : Nat) : Int)) = false := by simp only [beq_eq_false_iff_ne, ne_eq]; omega
    have HQ := Lib.hid hq
    clear hq
    go_enter Try.func24, Try.ntmps24
    go_wp2
    go_quiet (first
      | (go_at_call 25; exact Calls.quiet_of (hv.out _))
      | (go_at_call 10; exact Calls.quiet_of_same (hc.out _)))
    go_wp2
    go_ret2
    exact ⟨ans_none hS.out, _, rfl⟩

theorem sealed_any (s : ByteArray) (n : Nat) (w : World) (hs : s.size ≤ 140737488351232) (hn : n ≤ 65536) : Calls Try.prog 24 #[.string s, .int .i64 n] w fun e w' => e = .returned (ans (sealedF s.data.toList n)) ∧ ∃ m, w' = w.drewN m := by
  by_cases h : s.size < n + 4
  · exact sealed_no s n w hs hn h
  · exact sealed_yes s n w hs hn (by omega)

set_option maxHeartbeats 1600000 in
theorem first_any (s : ByteArray) (w : World) (hs : s.size ≤ 140737488351232) : Calls Try.prog 23 #[.string s] w fun e w' => e = .returned (ans (firstF s.data.toList)) ∧ ∃ m, w' = w.drewN m := by
  have HC := Lib.hid (sealed_any s 4 w hs (by omega))
  cases hz : sealedF s.data.toList 4 with
  | none =>
    have HF : Hid (firstF s.data.toList = none) := Lib.hid (by unfold firstF; rw [hz])
    rw [hz] at HC
    clear hz
    go_enter Try.func23, Try.ntmps23
    go_wp2_with fail
    refine HC.out.mono ?_
    rintro e w1 ⟨rfl, m, rfl⟩
    unfold ans
    go_wp2
    go_ret2
    exact ⟨ans_none HF.out, _, rfl⟩
  | some z =>
    obtain ⟨hl, hp⟩ := (sealedF_iff _ _ _).1 hz
    have h8 : 8 ≤ s.size := by
      have := hp.length_le
      rw [sealF_length, hl, ba_len] at this
      omega
    have hvl := val_lt z
    have HV : Hid (∀ W, Calls Try.prog 25 #[.string (str z)] W fun e w' => e = .returned (.int .u32 (val z)) ∧ ∃ m, w' = W.drewN m) := Lib.hid (fun W => value_any (str z) W (by show z.toArray.size = 4; simp [hl]))
    rw [hz] at HC
    by_cases hbig : 65536 < val z
    · have HF : Hid (firstF s.data.toList = none) := Lib.hid (by unfold firstF; rw [hz]; simp only [if_pos hbig])
      clear hz hl hp
      generalize val z = v at *
      go_enter Try.func23, Try.ntmps23
      go_wp2_with fail
      refine HC.out.mono ?_
      rintro e w1 ⟨rfl, m, rfl⟩
      unfold ans
      go_wp2_with fail
      refine (HV.out _).mono ?_
      rintro e w1 ⟨rfl, m2, rfl⟩
      go_wp2
      go_ret2
      exact ⟨ans_none HF.out, _, rfl⟩
    · have HF : Hid (firstF s.data.toList = sealedF (s.extract 8 s.size).data.toList (val z)) := Lib.hid (by
        unfold firstF; rw [hz]; simp only [if_neg hbig]
        rw [extract_list, List.take_of_length_le (by simp)])
      have HS : Hid (∀ W, Calls Try.prog 24 #[.string (s.extract 8 s.size), .int .i64 (val z)] W fun e w' => e = .returned (ans (firstF s.data.toList)) ∧ ∃ m, w' = W.drewN m) := Lib.hid (fun W => by
        rw [HF.out]
        exact sealed_any (s.extract 8 s.size) (val z) W (by rw [extract_size _ _ _ (Nat.le_refl _)]; omega) (by omega))
      clear hz hl hp
      generalize val z = v at *
      go_enter Try.func23, Try.ntmps23
      go_wp2_with fail
      refine HC.out.mono ?_
      rintro e w1 ⟨rfl, m, rfl⟩
      unfold ans
      go_wp2_with fail
      refine (HV.out _).mono ?_
      rintro e w1 ⟨rfl, m2, rfl⟩
      go_wp2_with fail
      refine (HS.out _).mono ?_
      rintro e w1 ⟨rfl, m3, rfl⟩
      cases hq : firstF s.data.toList with
      | none =>
        have HQ := Lib.hid hq
        clear hq
        unfold ans
        go_wp2
        go_ret2
        exact ⟨by rw [HQ.out]; rfl, _, rfl⟩
      | some b =>
        have HQ := Lib.hid hq
        clear hq
        unfold ans
        go_wp2
        go_ret2
        exact ⟨by rw [HQ.out]; rfl, _, rfl⟩
end Go.Proofs.Ytljbbhbebplknaa
