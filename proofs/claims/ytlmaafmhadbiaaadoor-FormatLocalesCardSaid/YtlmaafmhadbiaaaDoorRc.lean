/- The document's Language and Chain; Like of two lists that are the same. -/
import Derived.Test.YtlmaafmhadbiaaaDoorRl
namespace Go.Proofs.YtlmaafmhadbiaaaDoor
open Go.RowKit Go.Lib

theorem cell_two_new (w : World) (o : Obj) (x : Value) (t : TypeId) : ∀ j u, [x][j]? = some u → ((w.alloc o).alloc (.cells #[x] t)).cell? ((⟨w.heap.size + 1, 0, none⟩ : Addr).add j) = some u := by
  have h := cell_one_new (w.alloc o) x t
  rwa [World.size_alloc] at h
theorem lang_at : ∀ (l : List UInt8) (k : Nat), (∀ j, j < k → l[j]? ≠ some 45) → l[k]? = some 45 → langF l = l.take k
  | [], k, _, h => by simp at h
  | c :: r, 0, _, h => by
    have : c = 45 := by simpa using h
    subst this; simp [langF]
  | c :: r, k + 1, h, h2 => by
    have hc : c ≠ 45 := fun e => h 0 (by omega) (by simp [e])
    have ih := lang_at r k (fun j hj => by have := h (j + 1) (by omega); simpa using this) (by simpa using h2)
    rw [langF, List.takeWhile_cons_of_pos (by simpa using hc), List.take_succ_cons]
    exact congrArg (c :: ·) ih
theorem lang_all : ∀ (l : List UInt8), (∀ j, j < l.length → l[j]? ≠ some 45) → langF l = l
  | [], _ => rfl
  | c :: r, h => by
    have hc : c ≠ 45 := fun e => h 0 (by simp) (by simp [e])
    have ih := lang_all r (fun j hj => by have := h (j + 1) (by simp; omega); simpa using this)
    rw [langF, List.takeWhile_cons_of_pos (by simpa using hc)]
    exact congrArg (c :: ·) ih

set_option maxHeartbeats 3200000 in
theorem rlang_any (s : ByteArray) (w : World) (hs : s.size ≤ 140737488351232) : Calls Tryd.prog 8 #[.string s] w fun e w' => e = .returned (.string (langS s)) ∧ w' = w := by
  have HL := Lib.hid (rlocale_any s w hs)
  cases hl : locB s.data.toList with
  | false =>
    rw [hl] at HL
    have HF := Lib.hid (langS_no hl)
    clear hl
    go_enter Tryd.func8, Tryd.ntmps8
    go_wp2_with fail
    refine HL.out.mono ?_
    rintro e w1 ⟨rfl, rfl⟩
    go_wp2
    go_ret
    exact ⟨ret_str HF.out.symm, rfl⟩
  | true =>
    rw [hl] at HL
    have HF := Lib.hid (langS_yes hl)
    have hs := loc_le hl
    clear hl
    go_enter Tryd.func8, Tryd.ntmps8
    go_wp2_with fail
    refine HL.out.mono ?_
    rintro e w1 ⟨rfl, rfl⟩
    clear HL
    go_wp2
    go_loopw [3] (fun i wr => ∃ k : Nat, k ≤ s.size ∧ i = .int .i64 k ∧ wr = w1 ∧ Hid (∀ j, j < k → s.data.toList[j]? ≠ some 45)) (fun i _ => s.size - (intOf i).toNat)
    case atStart => exact ⟨0, Nat.zero_le _, rfl, rfl, Lib.hid (fun j h => by omega)⟩
    case round =>
      obtain ⟨k, hk, rfl, rfl, HA⟩ := hrel
      by_cases hlt : k < s.size
      · have hlt2 : k < s.data.size := hlt
        have hat := at_list s k hlt
        by_cases h45 : s[k] = 45
        · have hBB : ((s[k].toNat : Int) == 45) = true := by rw [h45]; rfl
          have HE : Hid (s.extract 0 k = langS s) := Lib.hid (by
            rw [HF.out]
            apply ba_ext
            rw [str_list, extract_take]
            exact (lang_at _ k HA.out (by rw [hat, h45])).symm)
          clear hat h45
          go_wp2
          go_ret
          exact ⟨ret_str HE.out, rfl⟩
        · have hBB : ((s[k].toNat : Int) == 45) = false := by
            have := byte_ne (n := 45) 45 rfl h45
            simpa [bne] using this
          have HN : Hid (∀ j, j < k + 1 → s.data.toList[j]? ≠ some 45) := Lib.hid (fun j hj => by
            rcases Nat.lt_or_eq_of_le (Nat.le_of_lt_succ hj) with h | rfl
            · exact HA.out j h
            · rw [hat]; exact fun e => h45 (Option.some.inj e))
          clear hat h45
          go_wp2
          have hz : s.data.size = s.size := rfl
          refine ⟨⟨k + 1, by omega, by go_num, trivial, HN⟩, ?_⟩
          simp [intOf]; omega
      · have HE : Hid (s = langS s) := Lib.hid (by
          rw [HF.out]
          apply ba_ext
          rw [str_list]
          exact (lang_all _ (fun j hj => HA.out j (by rw [ba_len] at hj; omega))).symm)
        go_wp2
        go_ret
        exact ⟨ret_str HE.out, rfl⟩

set_option maxRecDepth 100000 in
set_option maxHeartbeats 3200000 in
theorem rchain_any (s : ByteArray) (w : World) (hs0 : s.size ≤ 140737488351232) : Calls Tryd.prog 11 #[.string s] w fun e w' => ∃ (a : Option Addr) (cap : Nat) (xs : List ByteArray), e = .returned (.slice a xs.length cap) ∧ lists xs = chainS s.data.toList ∧ Reads w' a cap xs ∧ Below w.heap.size w w' := by
  have HL := Lib.hid (rlocale_any s w hs0)
  obtain ⟨i0, hi, hz0, hz1, hz2⟩ := info_parts info9
  by_cases h0 : s = ⟨#[]⟩
  · subst h0
    obtain ⟨s, hse⟩ : ∃ s : ByteArray, s = ⟨#[]⟩ := ⟨_, rfl⟩
    have hsz : s.size = 0 := by rw [hse]; rfl
    have HF : Hid (chainS s.data.toList = [[]]) := Lib.hid (by rw [hse]; rfl)
    have he : s.toList.isEmpty = true := by rw [hse, ByteArray.toList_eq]; rfl
    clear HL hs0
    rw [← hse]
    go_enter Tryd.func11, Tryd.ntmps11
    go_wp2
    go_loopw [3, 4] (fun v i wr => ∃ (xs : List ByteArray) (a : Option Addr) (cap k : Nat) (I : Int), v = .slice a xs.length cap ∧ i = .int .i64 I ∧ I + 1 = (k : Int) ∧ k ≤ s.size ∧ xs.length + k ≤ 33 ∧ Hid (wr.ownsRow w.heap.size 9 1 v xs.length (strs xs)) ∧ Hid (Below w.heap.size w wr) ∧ Hid (chainS s.data.toList = lists xs ++ (pre s.data.toList k ++ [[]]))) (fun _ i _ => (intOf i).toNat)
    case atStart => exact ⟨[], _, 0, 0, -1, rfl, by go_num, rfl, Nat.zero_le _, by simp, Lib.hid (World.ownsRow_made w #[] 0 (Nat.le_refl _) (by unfold maxLen; omega) rfl), Lib.hid (below1 _ _), Lib.hid (by rw [HF.out]; rfl)⟩
    case round =>
      clear HF
      obtain ⟨xs, a, cap, k, I, rfl, rfl, hI, hk, hn, HO, HB, HQ⟩ := hrel
      have hrow := HO.out
      have hB := HB.out
      by_cases h2 : 0 < I
      · exfalso; omega
      · have HP : Hid (pre s.data.toList k = []) := Lib.hid (by
          rcases (show k = 0 ∨ k = 1 by omega) with rfl | rfl
          · rfl
          · rw [pre, if_neg (by omega)]; rfl)
        clear HO HB
        go_wp2_with (at_builtin; refine wpList_append_own _ rfl _ _ 26 rfl w.heap.size 9 i0 (.string ByteArray.empty) 1 16 Tryd.underlying26 hi hz0 hz1 hz2 rfl (by decide) _ _ _ rfl (hrow.alloc _) ⟨wr.heap.size, 0, none⟩ 1 1 [.string ⟨#[]⟩] rfl rfl (cell_one_new _ _ _) (by simp [Value.oneCell']) (by unfold maxLen; omega) (by omega) (by have := hB.size; simp; omega) ?_; intro v' w2 hown' hgrow _; obtain ⟨g', cap', rfl⟩ := ownsRow_succ hown')
        have hb2 : Below w.heap.size w w2 := (hB.alloc hB.size _).grown hgrow (by have := hB.size; simp; omega) (fun k e => (hrow.lt k e).1)
        have HR := reads_of_owns (xs := xs ++ [⟨#[]⟩]) (by simpa [strs] using hown')
        have HF : Hid (lists (xs ++ [⟨#[]⟩]) = chainS s.data.toList) := Lib.hid (by rw [HQ.out, HP.out, lists, List.map_append]; rfl)
        clear hgrow hrow hB HQ hown'
        go_wp2
        go_ret
        obtain ⟨a2, cap2, hv, hr⟩ := HR
        refine ⟨a2, cap2, _, ?_, HF.out.trans (by rw [hse]), hr, hb2⟩
        rw [← hv]; simp

  · have h0e : s.toList.isEmpty = false := by
      rw [ByteArray.toList_eq]
      cases hl : s.data.toList with
      | nil => exact absurd (ba_ext (b := ⟨#[]⟩) (by rw [hl])) h0
      | cons => rfl
    have h0l : s.data.toList ≠ [] := fun e => h0 (ba_ext e)
    cases hl : locB s.data.toList with
    | false =>
      rw [hl] at HL
      have HF := Lib.hid (chain_no hl h0l)
      clear hl h0 h0l
      go_enter Tryd.func11, Tryd.ntmps11
      go_wp2_with fail
      refine HL.out.mono ?_
      rintro e w1 ⟨rfl, rfl⟩
      go_wp2
      go_ret
      exact ⟨none, 0, [], rfl, HF.out.symm, ⟨Nat.le_refl _, fun h => absurd rfl h⟩, Below.refl _ _⟩
    | true =>
      rw [hl] at HL
      have HF : Hid (chainS s.data.toList = lists [s] ++ (pre s.data.toList s.size ++ [[]])) := Lib.hid (by rw [chain_some hl, chainF, if_neg h0l, ba_len]; rfl)
      have hs := loc_le hl
      clear hl h0 h0l
      go_enter Tryd.func11, Tryd.ntmps11
      go_wp2_with fail
      refine HL.out.mono ?_
      rintro e w1 ⟨rfl, hw⟩
      rw [hw]
      clear hw
      have hrow0 : (w.alloc (.cells #[] 9)).ownsRow w.heap.size 9 1 (.slice (some ⟨w.heap.size, 0, none⟩) 0 0) 0 [] := World.ownsRow_made w #[] 0 (Nat.le_refl _) (by unfold maxLen; omega) rfl
      have hB0 := below1 w (.cells #[] 9)
      clear HL
      go_wp2_with (at_builtin; refine wpList_append_own _ rfl _ _ 26 rfl w.heap.size 9 i0 (.string ByteArray.empty) 1 16 Tryd.underlying26 hi hz0 hz1 hz2 rfl (by decide) _ _ _ rfl (hrow0.alloc _) ⟨w.heap.size + 1, 0, none⟩ 1 1 [.string s] rfl rfl (cell_two_new _ _ _ _) (by simp [Value.oneCell']) (by unfold maxLen; omega) (by omega) (by have := hB0.size; simp; omega) ?_; intro v' w2 hown' hgrow _; obtain ⟨g', cap', rfl⟩ := ownsRow_succ hown')
      have HB1 : Hid (Below w.heap.size w w2) := Lib.hid ((hB0.alloc hB0.size _).grown hgrow (by have := hB0.size; simp; omega) (fun k e => (hrow0.lt k e).1))
      have HO1 : Hid (w2.ownsRow w.heap.size 9 1 (.slice (some ⟨g', 0, none⟩) 1 cap') 1 (strs [s])) := Lib.hid (by simpa [strs] using hown')
      clear hown' hgrow hrow0 hB0
      go_wp2
      go_loopw [3, 4] (fun v i wr => ∃ (xs : List ByteArray) (a : Option Addr) (cap k : Nat) (I : Int), v = .slice a xs.length cap ∧ i = .int .i64 I ∧ I + 1 = (k : Int) ∧ k ≤ s.size ∧ xs.length + k ≤ 33 ∧ Hid (wr.ownsRow w.heap.size 9 1 v xs.length (strs xs)) ∧ Hid (Below w.heap.size w wr) ∧ Hid (chainS s.data.toList = lists xs ++ (pre s.data.toList k ++ [[]]))) (fun _ i _ => (intOf i).toNat)
      case atStart => exact ⟨[s], _, _, s.size, (s.size : Int) - 1, rfl, by go_num, by omega, Nat.le_refl _, by simp; omega, HO1, HB1, HF⟩
      case round =>
        clear HF HO1 HB1
        obtain ⟨xs, a, cap, k, I, rfl, rfl, hI, hk, hn, HO, HB, HQ⟩ := hrel
        have hrow := HO.out
        have hB := HB.out
        by_cases h2 : 0 < I
        · obtain ⟨q, rfl⟩ : ∃ q, k = q + 2 := ⟨k - 2, by omega⟩
          obtain rfl : I = ((q + 1 : Nat) : Int) := by omega
          have hlt : q + 1 < s.size := by omega
          have hlt2 : q + 1 < s.data.size := hlt
          have hat := at_list s (q + 1) hlt
          have hz : s.data.size = s.size := rfl
          by_cases h45 : s[q + 1] = 45
          · have hBB : ((s[q + 1].toNat : Int) == 45) = true := by rw [h45]; rfl
            have HP : Hid (pre s.data.toList (q + 2) = s.data.toList.take (q + 1) :: pre s.data.toList (q + 1)) := Lib.hid (by
              rw [pre, if_pos ⟨by omega, by rw [hat, h45]⟩])
            clear hat h45 HO HB
            go_wp2_with (at_builtin; refine wpList_append_own _ rfl _ _ 26 rfl w.heap.size 9 i0 (.string ByteArray.empty) 1 16 Tryd.underlying26 hi hz0 hz1 hz2 rfl (by decide) _ _ _ rfl (hrow.alloc _) ⟨wr.heap.size, 0, none⟩ 1 1 [.string (s.extract 0 (q + 1))] rfl rfl (cell_one_new _ _ _) (by simp [Value.oneCell']) (by unfold maxLen; omega) (by omega) (by have := hB.size; simp; omega) ?_; intro v' w2 hown' hgrow _; obtain ⟨g', cap', rfl⟩ := ownsRow_succ hown')
            have hb2 : Below w.heap.size w w2 := (hB.alloc hB.size _).grown hgrow (by have := hB.size; simp; omega) (fun k e => (hrow.lt k e).1)
            have HO2 : Hid (w2.ownsRow w.heap.size 9 1 (.slice (some ⟨g', 0, none⟩) (xs ++ [s.extract 0 (q + 1)]).length cap') (xs ++ [s.extract 0 (q + 1)]).length (strs (xs ++ [s.extract 0 (q + 1)]))) := Lib.hid (by simpa [strs] using hown')
            have HB2 := Lib.hid hb2
            have HQ2 : Hid (chainS s.data.toList = lists (xs ++ [s.extract 0 (q + 1)]) ++ (pre s.data.toList (q + 1) ++ [[]])) := Lib.hid (by rw [HQ.out, HP.out, lists, lists, List.map_append, List.map_singleton, extract_take]; simp)
            clear hown' hgrow hrow hB HQ hb2 HP
            go_wp2
            refine ⟨⟨xs ++ [s.extract 0 (q + 1)], some ⟨g', 0, none⟩, cap', q + 1, (q : Int), by simp, by go_num, by omega, by omega, by simp; omega, by simpa using HO2, HB2, HQ2⟩, ?_⟩
            all_goals simp [intOf]
          · have hBB : ((s[q + 1].toNat : Int) == 45) = false := by
              have := byte_ne (n := 45) 45 rfl h45
              simpa [bne] using this
            have HP : Hid (chainS s.data.toList = lists xs ++ (pre s.data.toList (q + 1) ++ [[]])) := Lib.hid (by
              have e : pre s.data.toList (q + 2) = pre s.data.toList (q + 1) := by
                rw [pre, if_neg (fun e => h45 (by rw [hat] at e; exact Option.some.inj e.2))]
              rw [← e]; exact HQ.out)
            clear hat h45 HQ hrow hB
            go_wp2
            refine ⟨⟨xs, a, cap, q + 1, (q : Int), by simp, by go_num, by omega, by omega, by omega, HO, HB, HP⟩, ?_⟩
            all_goals simp [intOf]
        · have HP : Hid (pre s.data.toList k = []) := Lib.hid (by
            rcases (show k = 0 ∨ k = 1 by omega) with rfl | rfl
            · rfl
            · rw [pre, if_neg (by omega)]; rfl)
          clear HO HB
          go_wp2_with (at_builtin; refine wpList_append_own _ rfl _ _ 26 rfl w.heap.size 9 i0 (.string ByteArray.empty) 1 16 Tryd.underlying26 hi hz0 hz1 hz2 rfl (by decide) _ _ _ rfl (hrow.alloc _) ⟨wr.heap.size, 0, none⟩ 1 1 [.string ⟨#[]⟩] rfl rfl (cell_one_new _ _ _) (by simp [Value.oneCell']) (by unfold maxLen; omega) (by omega) (by have := hB.size; simp; omega) ?_; intro v' w2 hown' hgrow _; obtain ⟨g', cap', rfl⟩ := ownsRow_succ hown')
          have hb2 : Below w.heap.size w w2 := (hB.alloc hB.size _).grown hgrow (by have := hB.size; simp; omega) (fun k e => (hrow.lt k e).1)
          have HR := reads_of_owns (xs := xs ++ [⟨#[]⟩]) (by simpa [strs] using hown')
          have HF : Hid (lists (xs ++ [⟨#[]⟩]) = chainS s.data.toList) := Lib.hid (by rw [HQ.out, HP.out, lists, List.map_append]; rfl)
          clear hgrow hrow hB HQ hown'
          go_wp2
          go_ret
          obtain ⟨a2, cap2, hv, hr⟩ := HR
          refine ⟨a2, cap2, _, ?_, HF.out, hr, hb2⟩
          rw [← hv]; simp

set_option maxHeartbeats 1600000 in
theorem like_any (w : World) (a b : Option Addr) (cap cap' : Nat) (xs : List ByteArray) (hlen : xs.length ≤ 1000000) (ha : Reads w a cap xs) (hb : Reads w b cap' xs) :
    Calls Tryd.prog 9 #[.slice a xs.length cap, .slice b xs.length cap'] w fun e w' => e = .returned (.bool true) ∧ ∃ m, w' = w.drewN m := by
  have HA := Lib.hid ha
  have HB := Lib.hid hb
  clear ha hb
  go_enter Tryd.func9, Tryd.ntmps9
  go_wp2
  go_loopw [13] (fun i wr => ∃ k m : Nat, k ≤ xs.length ∧ i = .int .i64 k ∧ wr = w.drewN m) (fun i _ => xs.length - (intOf i).toNat)
  case atStart => exact ⟨0, 0, by omega, rfl, rfl⟩
  case round =>
    obtain ⟨k, m, hk, rfl, rfl⟩ := hrel
    by_cases hlt : k < xs.length
    · have hne : xs ≠ [] := by intro h; subst h; simp at hlt
      obtain ⟨g1, rfl, -, hc1⟩ := HA.out.2 hne
      obtain ⟨g2, rfl, -, hc2⟩ := HB.out.2 hne
      have h1 := hc1 k hlt
      have h2 := hc2 k hlt
      clear hc1 hc2 hne
      generalize xs[k] = x at *
      go_wp2
      go_quiet (fail)
      go_wp2
      go_roundw
      case rel => exact ⟨k + 1, _, by omega, by go_num, rfl⟩
      case measure => simp [intOf]; omega
    · go_wp2
      go_ret
      exact ⟨rfl, m, rfl⟩
end Go.Proofs.YtlmaafmhadbiaaaDoor
