/- Package format: Chain. -/
import Derived.Test.YtlmaafmhadbiaaaDoorLg
namespace Go.Proofs.YtlmaafmhadbiaaaDoor
open Go.RowKit Go.Lib

set_option maxRecDepth 100000 in
set_option maxHeartbeats 3200000 in
theorem chain_any (s : ByteArray) (m : Int) (w : World) (hm : MaxW m w) : Calls Tryd.prog 10 #[.string s] w fun e w' => ∃ (a : Option Addr) (cap : Nat) (xs : List ByteArray), e = .returned (.slice a xs.length cap) ∧ lists xs = chainS s.data.toList ∧ Reads w' a cap xs ∧ Below w.heap.size w w' := by
  have HL := Lib.hid (locale_any s m w hm)
  obtain ⟨i0, hi, hz0, hz1, hz2⟩ := info_parts info9
  clear hm
  by_cases h0 : s = ⟨#[]⟩
  · have HF : Hid (chainS s.data.toList = chainF s.data.toList) := Lib.hid (by subst h0; rfl)
    have hs : s.size ≤ 32 := by subst h0; decide
    subst h0
    clear HL
    go_enter Tryd.func10, Tryd.ntmps10
    go_wp2
    go_loopw [0, 3] (fun l v wr => ∃ (x : ByteArray) (xs : List ByteArray) (a : Option Addr) (cap : Nat), l = .string x ∧ v = .slice a xs.length cap ∧ xs.length + x.size ≤ 32 ∧ Hid (wr.ownsRow w.heap.size 9 1 v xs.length (strs xs)) ∧ Hid (Below w.heap.size w wr) ∧ Hid (chainS (⟨#[]⟩ : ByteArray).data.toList = lists xs ++ chainF x.data.toList)) (fun l _ _ => szV l)
    case atStart => exact ⟨⟨#[]⟩, [], none, 0, rfl, rfl, by simpa using hs, Lib.hid (World.ownsRow_nil _ _ _ _), Lib.hid (Below.refl _ _), Lib.hid (by rw [HF.out]; rfl)⟩
    case round =>
      clear HF
      obtain ⟨x, xs, a, cap, rfl, rfl, hn, HO, HB, HQ⟩ := hrel
      have hrow := HO.out
      have hB := HB.out
      by_cases hx : x = ⟨#[]⟩
      · subst hx
        clear HO HB
        go_wp2_with (at_builtin; refine wpList_append_own _ rfl _ _ 26 rfl w.heap.size 9 i0 (.string ByteArray.empty) 1 16 Tryd.underlying26 hi hz0 hz1 hz2 rfl (by decide) _ _ _ rfl (hrow.alloc _) ⟨wr.heap.size, 0, none⟩ 1 1 [.string ⟨#[]⟩] rfl rfl (cell_one_new _ _ _) (by simp [Value.oneCell']) (by unfold maxLen; omega) (by omega) (by have := hB.size; simp; omega) ?_; intro v' w2 hown' hgrow _; obtain ⟨g', cap', rfl⟩ := ownsRow_succ hown')
        have hb2 : Below w.heap.size w w2 := (hB.alloc hB.size _).grown hgrow (by have := hB.size; simp; omega) (fun k e => (hrow.lt k e).1)
        have HR := reads_of_owns (xs := xs ++ [⟨#[]⟩]) (by simpa [strs] using hown')
        have HF : Hid (lists (xs ++ [⟨#[]⟩]) = chainS (⟨#[]⟩ : ByteArray).data.toList) := Lib.hid (by rw [HQ.out, lists, List.map_append]; rfl)
        clear hgrow hrow hB HQ hown'
        go_wp2
        go_ret
        obtain ⟨a2, cap2, hv, hr⟩ := HR
        refine ⟨a2, cap2, _, ?_, HF.out, hr, hb2⟩
        rw [← hv]; simp
      · have hxe : x.toList.isEmpty = false := by
          rw [ByteArray.toList_eq]
          cases hl : x.data.toList with
          | nil => exact absurd (ba_ext (b := ⟨#[]⟩) (by rw [hl])) hx
          | cons => rfl
        have hne : x.data.toList ≠ [] := fun e => hx (ba_ext e)
        have hk := lastD_lt x.data.toList x.data.toList.length (List.length_pos_iff.2 hne)
        have HLI := Lib.hid (Tryd.strings_LastIndex_one x ⟨#[45]⟩ rfl (by omega))
        rw [ba_len] at hk
        have HI : Hid (max 0 (Lib.lastIndexByte x 45) = ((lastD x.data.toList x.size : Nat) : Int)) := Lib.hid (by rw [last_max x, ba_len])
        have HC : Hid (chainF x.data.toList = x.data.toList :: chainF (x.data.toList.take (lastD x.data.toList x.size))) := Lib.hid (by have := chainF_step _ hne; rwa [ba_len] at this)
        clear hne hx HO HB
        generalize lastD x.data.toList x.size = k at *
        go_wp2_with (at_builtin; refine wpList_append_own _ rfl _ _ 26 rfl w.heap.size 9 i0 (.string ByteArray.empty) 1 16 Tryd.underlying26 hi hz0 hz1 hz2 rfl (by decide) _ _ _ rfl (hrow.alloc _) ⟨wr.heap.size, 0, none⟩ 1 1 [.string x] rfl rfl (cell_one_new _ _ _) (by simp [Value.oneCell']) (by unfold maxLen; omega) (by omega) (by have := hB.size; simp; omega) ?_; intro v' w2 hown' hgrow _; obtain ⟨g', cap', rfl⟩ := ownsRow_succ hown')
        have hb2 : Below w.heap.size w w2 := (hB.alloc hB.size _).grown hgrow (by have := hB.size; simp; omega) (fun k e => (hrow.lt k e).1)
        have HO2 : Hid (w2.ownsRow w.heap.size 9 1 (.slice (some ⟨g', 0, none⟩) (xs ++ [x]).length cap') (xs ++ [x]).length (strs (xs ++ [x]))) := Lib.hid (by simpa [strs] using hown')
        have HB2 := Lib.hid hb2
        have HQ2 : Hid (chainS (⟨#[]⟩ : ByteArray).data.toList = lists (xs ++ [x]) ++ chainF (x.extract 0 k).data.toList) := Lib.hid (by rw [HQ.out, HC.out, extract_take, lists, lists, List.map_append]; simp)
        clear hown' hgrow hrow hB HQ hb2
        go_wp2_with fail
        refine (HLI.out w2).mono ?_
        rintro e w3 ⟨rfl, rfl⟩
        have HI2 : Hid (max 0 (Lib.lastIndexByte x (((⟨#[45]⟩ : ByteArray)[0]'(by decide)).toNat : Int)) = (k : Int)) := Lib.hid HI.out
        generalize Lib.lastIndexByte x (((⟨#[45]⟩ : ByteArray)[0]'(by decide)).toNat : Int) = I at *
        have hI := HI2.out
        have hxz : (x.extract 0 k).size = k := by simp; omega
        clear HI HI2 HLI HC
        go_wp2
        refine ⟨⟨x.extract 0 k, xs ++ [x], some ⟨g', 0, none⟩, cap', ?_, by simp, by rw [hxz]; simp; omega, by simpa using HO2, HB2, HQ2⟩, ?_⟩
        · go_num
        · simp only [szV, Array.getD, List.size_toArray]
          simp [szV]; omega

  · have h0e : s.toList.isEmpty = false := by
      rw [ByteArray.toList_eq]
      cases hl : s.data.toList with
      | nil => exact absurd (ba_ext (b := ⟨#[]⟩) (by rw [hl])) h0
      | cons => rfl
    have h0l : s.data.toList ≠ [] := fun e => h0 (ba_ext e)
    cases hl : locB s.data.toList with
    | false =>
      rw [hl] at HL
      have HF := Lib.hid (chain_no hl h0l)
      clear hl h0 h0l
      go_enter Tryd.func10, Tryd.ntmps10
      go_wp2_with fail
      refine HL.out.mono ?_
      rintro e w1 ⟨rfl, hb⟩
      have HB1 := Lib.hid hb
      clear hb
      go_wp2
      go_ret
      exact ⟨none, 0, [], rfl, HF.out.symm, ⟨Nat.le_refl _, fun h => absurd rfl h⟩, HB1.out⟩
    | true =>
      rw [hl] at HL
      have HF := Lib.hid (chain_some hl)
      have hs := loc_le hl
      clear hl h0 h0l
      go_enter Tryd.func10, Tryd.ntmps10
      go_wp2_with fail
      refine HL.out.mono ?_
      rintro e w1 ⟨rfl, hb⟩
      have HB1 := Lib.hid hb
      clear hb
      go_wp2
      go_loopw [0, 3] (fun l v wr => ∃ (x : ByteArray) (xs : List ByteArray) (a : Option Addr) (cap : Nat), l = .string x ∧ v = .slice a xs.length cap ∧ xs.length + x.size ≤ 32 ∧ Hid (wr.ownsRow w.heap.size 9 1 v xs.length (strs xs)) ∧ Hid (Below w.heap.size w wr) ∧ Hid (chainS s.data.toList = lists xs ++ chainF x.data.toList)) (fun l _ _ => szV l)
      case atStart => exact ⟨s, [], none, 0, rfl, rfl, by simpa using hs, Lib.hid (World.ownsRow_nil _ _ _ _), HB1, Lib.hid (by rw [HF.out]; rfl)⟩
      case round =>
        clear HF
        obtain ⟨x, xs, a, cap, rfl, rfl, hn, HO, HB, HQ⟩ := hrel
        have hrow := HO.out
        have hB := HB.out
        by_cases hx : x = ⟨#[]⟩
        · subst hx
          clear HO HB
          go_wp2_with (at_builtin; refine wpList_append_own _ rfl _ _ 26 rfl w.heap.size 9 i0 (.string ByteArray.empty) 1 16 Tryd.underlying26 hi hz0 hz1 hz2 rfl (by decide) _ _ _ rfl (hrow.alloc _) ⟨wr.heap.size, 0, none⟩ 1 1 [.string ⟨#[]⟩] rfl rfl (cell_one_new _ _ _) (by simp [Value.oneCell']) (by unfold maxLen; omega) (by omega) (by have := hB.size; simp; omega) ?_; intro v' w2 hown' hgrow _; obtain ⟨g', cap', rfl⟩ := ownsRow_succ hown')
          have hb2 : Below w.heap.size w w2 := (hB.alloc hB.size _).grown hgrow (by have := hB.size; simp; omega) (fun k e => (hrow.lt k e).1)
          have HR := reads_of_owns (xs := xs ++ [⟨#[]⟩]) (by simpa [strs] using hown')
          have HF : Hid (lists (xs ++ [⟨#[]⟩]) = chainS s.data.toList) := Lib.hid (by rw [HQ.out, lists, List.map_append]; rfl)
          clear hgrow hrow hB HQ hown'
          go_wp2
          go_ret
          obtain ⟨a2, cap2, hv, hr⟩ := HR
          refine ⟨a2, cap2, _, ?_, HF.out, hr, hb2⟩
          rw [← hv]; simp
        · have hxe : x.toList.isEmpty = false := by
            rw [ByteArray.toList_eq]
            cases hl : x.data.toList with
            | nil => exact absurd (ba_ext (b := ⟨#[]⟩) (by rw [hl])) hx
            | cons => rfl
          have hne : x.data.toList ≠ [] := fun e => hx (ba_ext e)
          have hk := lastD_lt x.data.toList x.data.toList.length (List.length_pos_iff.2 hne)
          have HLI := Lib.hid (Tryd.strings_LastIndex_one x ⟨#[45]⟩ rfl (by omega))
          rw [ba_len] at hk
          have HI : Hid (max 0 (Lib.lastIndexByte x 45) = ((lastD x.data.toList x.size : Nat) : Int)) := Lib.hid (by rw [last_max x, ba_len])
          have HC : Hid (chainF x.data.toList = x.data.toList :: chainF (x.data.toList.take (lastD x.data.toList x.size))) := Lib.hid (by have := chainF_step _ hne; rwa [ba_len] at this)
          clear hne hx HO HB
          generalize lastD x.data.toList x.size = k at *
          go_wp2_with (at_builtin; refine wpList_append_own _ rfl _ _ 26 rfl w.heap.size 9 i0 (.string ByteArray.empty) 1 16 Tryd.underlying26 hi hz0 hz1 hz2 rfl (by decide) _ _ _ rfl (hrow.alloc _) ⟨wr.heap.size, 0, none⟩ 1 1 [.string x] rfl rfl (cell_one_new _ _ _) (by simp [Value.oneCell']) (by unfold maxLen; omega) (by omega) (by have := hB.size; simp; omega) ?_; intro v' w2 hown' hgrow _; obtain ⟨g', cap', rfl⟩ := ownsRow_succ hown')
          have hb2 : Below w.heap.size w w2 := (hB.alloc hB.size _).grown hgrow (by have := hB.size; simp; omega) (fun k e => (hrow.lt k e).1)
          have HO2 : Hid (w2.ownsRow w.heap.size 9 1 (.slice (some ⟨g', 0, none⟩) (xs ++ [x]).length cap') (xs ++ [x]).length (strs (xs ++ [x]))) := Lib.hid (by simpa [strs] using hown')
          have HB2 := Lib.hid hb2
          have HQ2 : Hid (chainS s.data.toList = lists (xs ++ [x]) ++ chainF (x.extract 0 k).data.toList) := Lib.hid (by rw [HQ.out, HC.out, extract_take, lists, lists, List.map_append]; simp)
          clear hown' hgrow hrow hB HQ hb2
          go_wp2_with fail
          refine (HLI.out w2).mono ?_
          rintro e w3 ⟨rfl, rfl⟩
          have HI2 : Hid (max 0 (Lib.lastIndexByte x (((⟨#[45]⟩ : ByteArray)[0]'(by decide)).toNat : Int)) = (k : Int)) := Lib.hid HI.out
          generalize Lib.lastIndexByte x (((⟨#[45]⟩ : ByteArray)[0]'(by decide)).toNat : Int) = I at *
          have hI := HI2.out
          have hxz : (x.extract 0 k).size = k := by simp; omega
          clear HI HI2 HLI HC
          go_wp2
          refine ⟨⟨x.extract 0 k, xs ++ [x], some ⟨g', 0, none⟩, cap', ?_, by simp, by rw [hxz]; simp; omega, by simpa using HO2, HB2, HQ2⟩, ?_⟩
          · go_num
          · simp only [szV, Array.getD, List.size_toArray]
            simp [szV]; omega

end Go.Proofs.YtlmaafmhadbiaaaDoor
