/- The map of places, by package delta; what two strings have in common. -/
import Derived.Test.YtmagcikaepobiaaMak
import Derived.Test.YtmagcikaepobiaaDMem
import Derived.Maps.Own
import Derived.Maps.OwnOps
import Derived.Maps.OwnSet
import Derived.Maps.Views
import Derived.Laws.EntriesVeiled
namespace Go.Proofs.Ytmagcikaepobiaa.Dl
open Go.RowKit Go.Maps Go.WideShapes Go.WideMaps

theorem lawS : Keyed Try.prog 9 := string_keyed Try.underlying9
theorem zeroI (w : World) : (zeroValue 3).run Try.prog w = .ok (.int .i64 0) w := by kernel_rfl
abbrev OM (w : World) (b n : Nat) (D : DataW Unit) : Prop := w.ownsMap Try.prog 9 (plainElem Try.prog 3) b n D
/-- What a map of places holds. -/
def GoodD (s : BA) (D : DataW Unit) : Prop := ∀ l : List UInt8, Maps.has D (.string l) = true → ∀ c : Int, D.atKey (.string l) (.lit (.int .i64 0)) = .lit (.int .i64 c) → ∃ k : Nat, c = k ∧ k + 16 ≤ s.size ∧ (s.data.toList.drop k).take 16 = l
theorem good_none (s : BA) : GoodD s (.map []) := fun l h => by simp [Maps.has] at h
theorem isKey (l : List UInt8) : WideAt.IsKeyLit (.string l) := trivial
theorem good_put {s : BA} {D : DataW Unit} (h : GoodD s D) (hm : IsMap D) {k : Nat} (hk : k + 16 ≤ s.size) : GoodD s (D.put (.string ((s.extract k (k + 16)).data.toList)) (.lit (.int .i64 k))) := fun l hl c hc => by
  have he : (s.extract k (k + 16)).data.toList = (s.data.toList.drop k).take 16 := by rw [ext_list, show k + 16 - k = 16 by omega]
  by_cases hne : l = (s.extract k (k + 16)).data.toList
  · subst hne
    rw [atKey_put_same hm (isKey _)] at hc
    obtain rfl : (k : Int) = c := by simpa using hc
    exact ⟨k, rfl, hk, he.symm⟩
  · have hne2 : (Lit.string l) ≠ Lit.string ((s.extract k (k + 16)).data.toList) := fun e => hne (by simpa using e)
    rw [atKey_put_other hne2] at hc
    rw [has_put_other hne2] at hl
    exact h l hl c hc

set_option maxHeartbeats 3200000 in
set_option maxRecDepth 100000 in
theorem places_any (w : World) (s : BA) (hs : s.size ≤ 131072) : Calls Try.prog 29 #[.string s] w fun e w' => e = .returned (.map (some w.heap.size)) ∧ (∃ n D, OM w' w.heap.size n D ∧ GoodD s D) ∧ Below w.heap.size w w' := by
  have hmm := @run_makeMap Try.prog
  go_enter Try.func29, Try.ntmps29
  go_wp2
  clear hmm
  go_loopw [13] (fun i wr => ∃ (k : Nat) (D : DataW Unit), (k : Int) ≤ max 0 ((s.size : Int) - 15) ∧ i = .int .i64 k ∧ Hid (OM wr w.heap.size k D) ∧ Hid (GoodD s D) ∧ Hid (IsMap D) ∧ Hid (Below w.heap.size w wr)) (fun i _ => 131072 - (intOf i).toNat)
  case atStart => exact ⟨0, .map [], by omega, rfl, Lib.hid (World.ownsMap_made _ _ _ _), Lib.hid (good_none s), Lib.hid isMap_empty, Lib.hid ((Below.refl _ _).alloc (Nat.le_refl _) _)⟩
  case round =>
    obtain ⟨k, D, hk, rfl, HO, HG, HM, HB⟩ := hrel
    by_cases hlt : (k : Int) < (s.size : Int) - 15
    · have hk16 : k + 16 ≤ s.size := by omega
      have hmax : (s.extract k (k + 16)).size ≤ maxLen := by rw [ByteArray.size_extract]; unfold maxLen; omega
      have hb1 : (k : Int) ≤ k + 16 := by omega
      obtain ⟨KL, hKL⟩ : ∃ l, l = (s.extract k (k + 16)).data.toList := ⟨_, rfl⟩
      have HK : Hid (keyOf Try.prog 9 (.string (s.extract k (k + 16))) = some (.string KL)) := Lib.hid (by rw [hKL]; exact keyOf_string_mk Try.underlying9 hmax)
      have HP : Hid (GoodD s (D.put (.string KL) (.lit (.int .i64 k)))) := Lib.hid (by rw [hKL]; exact good_put HG.out HM.out hk16)
      have HM2 := Lib.hid (HM.out.put (.string KL) (.lit (.int .i64 k)))
      have HN : Hid (k < maxLen) := Lib.hid (by unfold maxLen; omega)
      clear hKL hmax
      have ht : ((k : Int) + 16).toNat = k + 16 := by omega
      go_wp2_with (first
        | (at_lookup; refine wpList_lookup_own_ok_int _ rfl _ _ 57 rfl 9 3 .i64 lawS Try.underlying57 Try.underlying3 (zeroI _) w.heap.size _ _ rfl HO.out _ _ rfl HK.out ?_; intro c hat hwc; clear hat hwc; cases hh : Maps.has D (.string KL) <;> clear hh)
        | (at_mapUpdate; refine wpList_mapUpdate_own _ rfl _ _ _ 57 rfl 9 3 lawS Try.underlying57 _ w.heap.size k _ rfl HO.out HN.out _ _ _ rfl rfl HK.out _ [] (plainElem_int Try.underlying3 (WalkArith.wf_i64 (by omega))) ?_; intro w1 hown1 hgrow1))
      · have HO1 := Lib.hid hown1
        have HB1 : Hid (Below w.heap.size w w1) := Lib.hid (HB.out.grown hgrow1 HB.out.size (fun j hj => by cases hj; exact Nat.le_refl _))
        clear hown1 hgrow1
        go_wp2
        go_roundw
        case rel => exact ⟨k + 1, _, by omega, by go_num, HO1, HP, HM2, HB1⟩
        case measure => simp [intOf]; omega
      · go_wp2
        go_roundw
        case rel => exact ⟨k + 1, D, by omega, by go_num, Lib.hid (HO.out.mono (by omega)), HG, HM, HB⟩
        case measure => simp [intOf]; omega
    · go_wp2
      go_ret
      exact ⟨rfl, ⟨_, _, HO.out, HG.out⟩, HB.out⟩
end Go.Proofs.Ytmagcikaepobiaa.Dl
