/- ChunkWhy: what the law answers. -/
import Derived.Test.YtagfnpakpncbmaaWhole
namespace Go.Proofs.Ytagfnpakpncbmaa
open Go.RowKit

set_option maxRecDepth 100000 in
set_option maxHeartbeats 3200000 in
theorem why_any (s : ByteArray) (w : World) (hs : s.size ≤ 140737488351232) : Calls Try.prog 8 #[.string s] w fun e w' => e = .returned (.bool true) ∧ Below w.heap.size w w' := by
  have hz := cutS_size s
  have HS := Lib.hid (fun W => short_any s W hs)
  generalize cutS s = c at *
  go_enter Try.func8, Try.ntmps8
  go_wp2_with fail
  refine (HS.out _).mono ?_
  rintro e w1 ⟨rfl, rfl⟩
  go_wp2_with fail
  refine (texts_any c _ (by omega)).mono ?_
  rintro e w2 ⟨a, cap, xs, hS, rfl, hr, hb1⟩
  have hcnt : xs.length ≤ c.size := by have := hS.count; simpa using this
  have HL := Lib.hid hS
  have HR := Lib.hid hr
  have HB := Lib.hid hb1
  clear hr hb1 hS HS
  go_wp2
  go_loopw [13] (fun i wr => ∃ k : Nat, k ≤ xs.length ∧ i = .int .i64 k ∧ wr = w2) (fun i _ => xs.length - (intOf i).toNat)
  case atStart => exact ⟨0, by omega, rfl, rfl⟩
  case round =>
    obtain ⟨k, hk, rfl, rfl⟩ := hrel
    by_cases hlt : k < xs.length
    · have hne : strs xs ≠ [] := by intro h; have := congrArg List.length h; simp at this; simp [this] at hlt
      obtain ⟨g1, rfl, -, hc1⟩ := HR.out.2 hne
      have h1 := hc1 k (by simpa using hlt)
      have hl := HL.out.lens k (by simpa using hlt)
      have hw := HL.out.why k (by simpa using hlt)
      have hn := HL.out.no k (by simpa using hlt)
      have e1 : (lists xs)[k]'(by simpa using hlt) = xs[k].data.toList := by simp [lists]
      have e2 : (strs xs)[k]'(by simpa using hlt) = .string xs[k] := by simp [strs]
      simp only [e1, ba_len] at hl hw hn
      rw [e2] at h1
      simp only [List.length_map] at hl hw
      clear hc1 hne e1 e2
      generalize xs[k] = x at *
      obtain ⟨l1, l2, -⟩ := hl
      have HW := Lib.hid hw
      have HN := Lib.hid hn
      clear hw hn
      by_cases h12 : k < 12
      · have HC : Hid (∀ W, Calls Try.prog 9 #[.string x] W fun e w' => e = .returned (.int .u32 (weightF x.data.toList)) ∧ W = w') := Lib.hid (fun W => weight_any x W (by omega))
        have HI : Hid (∀ n : Nat, n < x.size → ∀ W, Calls Try.prog 9 #[.string (x.extract 0 n)] W fun e w' => e = .returned (.int .u32 (weightF (x.data.toList.take n))) ∧ W = w') := Lib.hid (fun n hn W => by
          have := weight_any (x.extract 0 n) W (by rw [extract_size _ _ _ (by omega)]; omega)
          rwa [rhead_list] at this)
        by_cases hq : k + 1 < xs.length ∧ x.size ≠ 512
        · obtain ⟨hq1, hq2⟩ := hq
          have hwl := weightF_lt x.data.toList
          have h7 := HW.out hq1 hq2
          have hB7 : (((weightF x.data.toList : Nat) : Int) % 64 != 7) = false := by simp only [bne_eq_false_iff_eq]; omega
          have hB5 : ((x.size : Int) != 512) = true := by simp only [bne_iff_ne]; omega
          clear h7
          go_wp2_with fail
          refine (HC.out _).mono ?_
          rintro e w1 ⟨rfl, rfl⟩
          go_wp2
          go_loopw [6] (fun i wr2 => ∃ n : Nat, 32 ≤ n ∧ n ≤ 512 ∧ i = .int .i64 n ∧ wr2 = wr) (fun i _ => 512 - (intOf i).toNat)
          case atStart => exact ⟨32, by omega, by omega, rfl, rfl⟩
          case round =>
            obtain ⟨n, hn1, hn2, rfl, rfl⟩ := hrel
            by_cases hnx : n < x.size
            · have h8 := HN.out n hn1 hnx
              have hwn := weightF_lt (x.data.toList.take n)
              have hB8 : (((weightF (x.data.toList.take n) : Nat) : Int) % 64 == 7) = false := by rw [beq_eq_false_iff_ne]; omega
              clear h8
              go_wp2_with fail
              refine (HI.out n hnx _).mono ?_
              rintro e w1 ⟨rfl, rfl⟩
              go_wp2
              refine ⟨⟨n + 1, by omega, by omega, by go_num, trivial⟩, ?_⟩
              simp [intOf]; omega
            · go_wp2
              refine ⟨⟨k + 1, by omega, by go_num, trivial⟩, ?_⟩
              simp [intOf]; omega
        · rcases Decidable.not_and_iff_or_not.1 hq with hq1 | hq1
          · go_wp2
            go_loopw [6] (fun i wr2 => ∃ n : Nat, 32 ≤ n ∧ n ≤ 512 ∧ i = .int .i64 n ∧ wr2 = wr) (fun i _ => 512 - (intOf i).toNat)
            case atStart => exact ⟨32, by omega, by omega, rfl, rfl⟩
            case round =>
              obtain ⟨n, hn1, hn2, rfl, rfl⟩ := hrel
              by_cases hnx : n < x.size
              · have h8 := HN.out n hn1 hnx
                have hwn := weightF_lt (x.data.toList.take n)
                have hB8 : (((weightF (x.data.toList.take n) : Nat) : Int) % 64 == 7) = false := by rw [beq_eq_false_iff_ne]; omega
                clear h8
                go_wp2_with fail
                refine (HI.out n hnx _).mono ?_
                rintro e w1 ⟨rfl, rfl⟩
                go_wp2
                refine ⟨⟨n + 1, by omega, by omega, by go_num, trivial⟩, ?_⟩
                simp [intOf]; omega
              · go_wp2
                refine ⟨⟨k + 1, by omega, by go_num, trivial⟩, ?_⟩
                simp [intOf]; omega
          · have hB5 : ((x.size : Int) != 512) = false := by simp only [bne_eq_false_iff_eq]; omega
            by_cases hq3 : k + 1 < xs.length
            · go_wp2
              go_loopw [6] (fun i wr2 => ∃ n : Nat, 32 ≤ n ∧ n ≤ 512 ∧ i = .int .i64 n ∧ wr2 = wr) (fun i _ => 512 - (intOf i).toNat)
              case atStart => exact ⟨32, by omega, by omega, rfl, rfl⟩
              case round =>
                obtain ⟨n, hn1, hn2, rfl, rfl⟩ := hrel
                by_cases hnx : n < x.size
                · have h8 := HN.out n hn1 hnx
                  have hwn := weightF_lt (x.data.toList.take n)
                  have hB8 : (((weightF (x.data.toList.take n) : Nat) : Int) % 64 == 7) = false := by rw [beq_eq_false_iff_ne]; omega
                  clear h8
                  go_wp2_with fail
                  refine (HI.out n hnx _).mono ?_
                  rintro e w1 ⟨rfl, rfl⟩
                  go_wp2
                  refine ⟨⟨n + 1, by omega, by omega, by go_num, trivial⟩, ?_⟩
                  simp [intOf]; omega
                · go_wp2
                  refine ⟨⟨k + 1, by omega, by go_num, trivial⟩, ?_⟩
                  simp [intOf]; omega
            · go_wp2
              go_loopw [6] (fun i wr2 => ∃ n : Nat, 32 ≤ n ∧ n ≤ 512 ∧ i = .int .i64 n ∧ wr2 = wr) (fun i _ => 512 - (intOf i).toNat)
              case atStart => exact ⟨32, by omega, by omega, rfl, rfl⟩
              case round =>
                obtain ⟨n, hn1, hn2, rfl, rfl⟩ := hrel
                by_cases hnx : n < x.size
                · have h8 := HN.out n hn1 hnx
                  have hwn := weightF_lt (x.data.toList.take n)
                  have hB8 : (((weightF (x.data.toList.take n) : Nat) : Int) % 64 == 7) = false := by rw [beq_eq_false_iff_ne]; omega
                  clear h8
                  go_wp2_with fail
                  refine (HI.out n hnx _).mono ?_
                  rintro e w1 ⟨rfl, rfl⟩
                  go_wp2
                  refine ⟨⟨n + 1, by omega, by omega, by go_num, trivial⟩, ?_⟩
                  simp [intOf]; omega
                · go_wp2
                  refine ⟨⟨k + 1, by omega, by go_num, trivial⟩, ?_⟩
                  simp [intOf]; omega
      · have hB := HB.out
        go_wp2_with fail
        refine (cuts_a _).mono ?_
        rintro e w3 ⟨a5, cap5, rfl, hb5⟩
        go_wp2
        go_ret
        exact ⟨rfl, hB.trans (hb5.mono hB.size)⟩
    · have hB := HB.out
      go_wp2_with fail
      refine (cuts_a _).mono ?_
      rintro e w3 ⟨a5, cap5, rfl, hb5⟩
      go_wp2
      go_ret
      exact ⟨rfl, hB.trans (hb5.mono hB.size)⟩
end Go.Proofs.Ytagfnpakpncbmaa
