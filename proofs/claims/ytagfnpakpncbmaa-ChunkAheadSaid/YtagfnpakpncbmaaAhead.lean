/- ChunkAhead: what the law answers. -/
import Derived.Test.YtagfnpakpncbmaaWhole
namespace Go.Proofs.Ytagfnpakpncbmaa
open Go.RowKit

theorem append_list (s a : ByteArray) : (s ++ a).data.toList = s.data.toList ++ a.data.toList := by simp
theorem append_size (s a : ByteArray) : (s ++ a).size = s.size + a.size := by rw [← ba_len, append_list, List.length_append, ba_len, ba_len]

set_option maxRecDepth 100000 in
set_option maxHeartbeats 3200000 in
theorem ahead_any (s0 a0 b0 : ByteArray) (w : World) (h1 : s0.size ≤ 140737488351232) (h2 : a0.size ≤ 140737488351232) (h3 : b0.size ≤ 140737488351232) : Calls Try.prog 7 #[.string s0, .string a0, .string b0] w fun e w' => e = .returned (.bool true) ∧ Below w.heap.size w w' := by
  have z1 := cutS_size s0
  have z2 := cutS_size a0
  have z3 := cutS_size b0
  have H1 := Lib.hid (fun W => short_any s0 W h1)
  have H2 := Lib.hid (fun W => short_any a0 W h2)
  have H3 := Lib.hid (fun W => short_any b0 W h3)
  generalize cutS s0 = s at *
  generalize cutS a0 = a at *
  generalize cutS b0 = b at *
  go_enter Try.func7, Try.ntmps7
  go_wp2_with fail
  refine (H1.out _).mono ?_
  rintro e w1 ⟨rfl, rfl⟩
  go_wp2_with fail
  refine (H2.out _).mono ?_
  rintro e w1 ⟨rfl, rfl⟩
  go_wp2_with fail
  refine (H3.out _).mono ?_
  rintro e w1 ⟨rfl, rfl⟩
  have za := append_size s a
  have zb := append_size s b
  go_wp2_with fail
  refine (texts_any (s ++ a) _ (by omega)).mono ?_
  rintro e w1 ⟨a1, cap1, xs, hS1, rfl, hr1, hb1⟩
  have hc1 : xs.length ≤ (s ++ a).size := by have := hS1.count; simpa using this
  have hfl : (lists xs).flatten.length = s.size + a.size := by rw [hS1.flatten, ba_len]; exact za
  go_wp2_with fail
  refine (texts_any (s ++ b) _ (by omega)).mono ?_
  rintro e w2 ⟨a2, cap2, ys, hS2, rfl, hr2, hb2⟩
  have hc2 : ys.length ≤ (s ++ b).size := by have := hS2.count; simpa using this
  rw [append_list] at hS1 hS2
  have HA : Hid (∀ i (hx : i < xs.length) (hy : i < ys.length), (lists (xs.take (i + 1))).flatten.length < s.size → xs[i] = ys[i]) := Lib.hid (fun i hx hy hlt => by
    have h := Split.ahead i hS1 hS2 (by simpa using hx) (by simpa using hy) (by rw [ba_len]; simpa using hlt)
    simp at h
    exact ba_ext (by rw [h]))
  have HR1 := Lib.hid (hr1.below hb2)
  have HR2 := Lib.hid hr2
  have HB := Lib.hid (hb1.trans (hb2.mono hb1.size))
  clear hr1 hr2 hb1 hb2 hS1 hS2 H1 H2 H3
  go_wp2
  go_loopw [9, 10] (fun n i wr => ∃ k t m : Nat, k ≤ xs.length ∧ i = .int .i64 k ∧ n = .int .i64 t ∧ t ≤ 10000 ∧ wr = w2.drewN m ∧ Hid (t = (lists (xs.take k)).flatten.length)) (fun _ i _ => xs.length - (intOf i).toNat)
  case atStart => exact ⟨0, 0, 0, by omega, rfl, rfl, by omega, rfl, Lib.hid rfl⟩
  case round =>
    obtain ⟨k, t, m, hk, rfl, rfl, ht, rfl, HT⟩ := hrel
    by_cases hlt : k < xs.length ∧ k < ys.length
    · obtain ⟨hx, hy⟩ := hlt
      have hnx : strs xs ≠ [] := by intro h; have := congrArg List.length h; simp at this; simp [this] at hx
      have hny : strs ys ≠ [] := by intro h; have := congrArg List.length h; simp at this; simp [this] at hy
      obtain ⟨g1, rfl, -, hcx⟩ := HR1.out.2 hnx
      obtain ⟨g2, rfl, -, hcy⟩ := HR2.out.2 hny
      have c1 := hcx k (by simpa using hx)
      have c2 := hcy k (by simpa using hy)
      have e1 : (strs xs)[k]'(by simpa using hx) = .string xs[k] := by simp [strs]
      have e2 : (strs ys)[k]'(by simpa using hy) = .string ys[k] := by simp [strs]
      rw [e1] at c1
      rw [e2] at c2
      have hf := flat_take xs k hx
      have hf2 := flat_le xs (k + 1)
      have hE := HA.out k hx hy
      rw [hf, ← HT.out] at hE
      rw [← HT.out] at hf
      have htx : t + xs[k].size ≤ 10000 := by omega
      have HF := Lib.hid hf
      clear hcx hcy hnx hny e1 e2 hf hf2
      generalize xs[k] = x at *
      generalize ys[k] = y at *
      by_cases hge : t + x.size < s.size
      · obtain rfl := hE hge
        have d1 : (w2.drewN m).cell? ⟨g1, k, none⟩ = some (.string x) := c1
        have d2 : (w2.drewN m).cell? ⟨g2, k, none⟩ = some (.string x) := c2
        go_wp2
        go_quiet (fail)
        go_wp2
        refine ⟨⟨k + 1, t + x.size, _, by omega, by go_num, by go_num, by omega, rfl, Lib.hid HF.out.symm⟩, ?_⟩
        simp [intOf]; omega
      · clear hE
        have d1 : (w2.drewN m).cell? ⟨g1, k, none⟩ = some (.string x) := c1
        have hB : Below w.heap.size w (w2.drewN m) := below_drewN HB.out m
        generalize w2.drewN m = w3 at *
        go_wp2_with fail
        refine (cuts_a _).mono ?_
        rintro e w4 ⟨a5, cap5, rfl, hb5⟩
        go_wp2
        go_ret
        exact ⟨rfl, hB.trans (hb5.mono hB.size)⟩
    · have hB : Below w.heap.size w (w2.drewN m) := below_drewN HB.out m
      generalize w2.drewN m = w3 at *
      go_wp2_with fail
      all_goals refine (cuts_a _).mono ?_
      all_goals rintro e w4 ⟨a5, cap5, rfl, hb5⟩
      all_goals go_wp2
      all_goals go_ret
      all_goals exact ⟨rfl, hB.trans (hb5.mono hB.size)⟩
end Go.Proofs.Ytagfnpakpncbmaa
