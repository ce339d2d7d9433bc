/- Ints and Like of two lists that are the same; ChunkCuts: what the law answers. -/
import Derived.Test.YtagfnpakpncbmaaRCuts
namespace Go.Proofs.Ytagfnpakpncbmaa
open Go.RowKit

theorem strs_at (xs : List ByteArray) (k : Nat) (h : k < xs.length) : ∃ x : ByteArray, (strs xs)[k]'(by simpa using h) = .string x := ⟨xs[k], by simp [strs]⟩
theorem ints_at (xs : List ByteArray) (k : Nat) (h : k < xs.length) : ∃ x : Int, (ints xs)[k]'(by simpa using h) = .int .i64 x := ⟨_, by simp [ints]; rfl⟩

set_option maxHeartbeats 1600000 in
theorem like_any (w : World) (a b : Option Addr) (cap cap' : Nat) (xs : List ByteArray) (hlen : xs.length ≤ 1000000) (ha : Reads w a cap (strs xs)) (hb : Reads w b cap' (strs xs)) :
    Calls Try.prog 15 #[.slice a xs.length cap, .slice b xs.length cap'] w fun e w' => e = .returned (.bool true) ∧ ∃ m, w' = w.drewN m := by
  have HA := Lib.hid ha
  have HB := Lib.hid hb
  clear ha hb
  go_enter Try.func15, Try.ntmps15
  go_wp2
  go_loopw [13] (fun i wr => ∃ k m : Nat, k ≤ xs.length ∧ i = .int .i64 k ∧ wr = w.drewN m) (fun i _ => xs.length - (intOf i).toNat)
  case atStart => exact ⟨0, 0, by omega, rfl, rfl⟩
  case round =>
    obtain ⟨k, m, hk, rfl, rfl⟩ := hrel
    by_cases hlt : k < xs.length
    · have hne : strs xs ≠ [] := by intro h; have := congrArg List.length h; simp at this; simp [this] at hlt
      obtain ⟨g1, rfl, -, hc1⟩ := HA.out.2 hne
      obtain ⟨g2, rfl, -, hc2⟩ := HB.out.2 hne
      have h1 := hc1 k (by simpa using hlt)
      have h2 := hc2 k (by simpa using hlt)
      obtain ⟨x, hx⟩ := strs_at xs k hlt
      rw [hx] at h1 h2
      clear hc1 hc2 hne hx
      go_wp2
      go_quiet (fail)
      go_wp2
      go_roundw
      case rel => exact ⟨k + 1, _, by omega, by go_num, rfl⟩
      case measure => simp [intOf]; omega
    · go_wp2
      go_ret
      exact ⟨rfl, m, rfl⟩

set_option maxHeartbeats 1600000 in
theorem ints_any (w : World) (a b : Option Addr) (cap cap' : Nat) (xs : List ByteArray) (hlen : xs.length ≤ 1000000) (ha : Reads w a cap (ints xs)) (hb : Reads w b cap' (ints xs)) :
    Calls Try.prog 12 #[.slice a xs.length cap, .slice b xs.length cap'] w fun e w' => e = .returned (.bool true) ∧ ∃ m, w' = w.drewN m := by
  have HA := Lib.hid ha
  have HB := Lib.hid hb
  clear ha hb
  go_enter Try.func12, Try.ntmps12
  go_wp2
  go_loopw [13] (fun i wr => ∃ k m : Nat, k ≤ xs.length ∧ i = .int .i64 k ∧ wr = w.drewN m) (fun i _ => xs.length - (intOf i).toNat)
  case atStart => exact ⟨0, 0, by omega, rfl, rfl⟩
  case round =>
    obtain ⟨k, m, hk, rfl, rfl⟩ := hrel
    by_cases hlt : k < xs.length
    · have hne : ints xs ≠ [] := by intro h; have := congrArg List.length h; simp at this; simp [this] at hlt
      obtain ⟨g1, rfl, -, hc1⟩ := HA.out.2 hne
      obtain ⟨g2, rfl, -, hc2⟩ := HB.out.2 hne
      have h1 := hc1 k (by simpa using hlt)
      have h2 := hc2 k (by simpa using hlt)
      obtain ⟨x, hx⟩ := ints_at xs k hlt
      rw [hx] at h1 h2
      clear hc1 hc2 hne hx
      go_wp2
      go_quiet (fail)
      go_wp2
      go_roundw
      case rel => exact ⟨k + 1, _, by omega, by go_num, rfl⟩
      case measure => simp [intOf]; omega
    · go_wp2
      go_ret
      exact ⟨rfl, m, rfl⟩

theorem lists_inj : ∀ {xs ys : List ByteArray}, lists xs = lists ys → xs = ys
  | [], [], _ => rfl
  | [], _ :: _, h => by cases h
  | _ :: _, [], h => by cases h
  | x :: xs, y :: ys, h => by
    injection h with h1 h2
    rw [ba_ext h1, lists_inj h2]
theorem cuts_a (w : World) : Calls Try.prog 13 #[.string ⟨#[97]⟩] w fun e w' => ∃ (a : Option Addr) (cap : Nat), e = .returned (.slice a 1 cap) ∧ Below w.heap.size w w' := by
  refine (cuts_any ⟨#[97]⟩ w (by decide)).mono fun e w' h => ?_
  obtain ⟨a, cap, xs, hS, he, hr, hb⟩ := h
  have : xs.length = 1 := by simpa using split_one 97 hS
  rw [this] at he
  exact ⟨a, cap, he, hb⟩

set_option maxHeartbeats 1600000 in
theorem cutsLaw_any (s : ByteArray) (w : World) (hs : s.size ≤ 140737488351232) : Calls Try.prog 4 #[.string s] w fun e w' => e = .returned (.bool true) ∧ Below w.heap.size w w' := by
  have hz := cutS_size s
  have HS := Lib.hid (fun W => short_any s W hs)
  generalize cutS s = c at *
  go_enter Try.func4, Try.ntmps4
  go_wp2_with fail
  refine (HS.out _).mono ?_
  rintro e w1 ⟨rfl, rfl⟩
  go_wp2_with fail
  refine (cuts_any c _ (by omega)).mono ?_
  rintro e w1 ⟨a1, cap1, xs, hS1, rfl, hr1, hb1⟩
  have hcnt : xs.length ≤ c.size := by have := hS1.count; simpa using this
  go_wp2_with fail
  refine (rcuts_any c _ (by omega)).mono ?_
  rintro e w2 ⟨a2, cap2, ys, hS2, rfl, hr2, hb2⟩
  obtain rfl := lists_inj (hS2.unique hS1)
  have hr1' := hr1.below hb2
  have hB2 := hb1.trans (hb2.mono hb1.size)
  have H1 := Lib.hid hS1
  clear hS1 hS2 hr1 hb1 hb2
  go_wp2_with fail
  refine (ints_any _ _ _ _ _ ys (by omega) hr1' hr2).mono ?_
  rintro e w3 ⟨rfl, m, rfl⟩
  have hB3 : Below w.heap.size w (w2.drewN m) := below_drewN hB2 m
  clear hB2 hr1' hr2
  generalize w2.drewN m = w3 at *
  go_wp2_with fail
  refine (texts_any c _ (by omega)).mono ?_
  rintro e w4 ⟨a3, cap3, xs, hS3, rfl, hr3, hb3⟩
  obtain rfl := lists_inj (hS3.unique H1.out)
  clear hS3
  go_wp2_with fail
  refine (rtexts_any c _ (by omega)).mono ?_
  rintro e w5 ⟨a4, cap4, xs, hS4, rfl, hr4, hb4⟩
  obtain rfl := lists_inj (hS4.unique H1.out)
  clear hS4
  have hr3' := hr3.below hb4
  have hB5 := (hB3.trans (hb3.mono hB3.size))
  have hB6 := hB5.trans (hb4.mono hB5.size)
  clear hB3 hb3 hB5 hb4 hr3
  go_wp2_with fail
  refine (like_any _ _ _ _ _ xs (by omega) hr3' hr4).mono ?_
  rintro e w6 ⟨rfl, m, rfl⟩
  have hB7 : Below w.heap.size w (w5.drewN m) := below_drewN hB6 m
  clear hB6 hr3' hr4
  generalize w5.drewN m = w6 at *
  go_wp2_with fail
  refine (cuts_a _).mono ?_
  rintro e w7 ⟨a5, cap5, rfl, hb5⟩
  go_wp2
  go_ret
  exact ⟨rfl, hB7.trans (hb5.mono hB7.size)⟩
end Go.Proofs.Ytagfnpakpncbmaa
