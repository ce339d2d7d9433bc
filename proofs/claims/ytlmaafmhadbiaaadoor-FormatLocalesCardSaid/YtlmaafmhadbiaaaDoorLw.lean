/- FormatLocales: what the law answers. -/
import Derived.Test.YtlmaafmhadbiaaaDoorCh
import Derived.Test.YtlmaafmhadbiaaaDoorRc
namespace Go.Proofs.YtlmaafmhadbiaaaDoor
open Go.RowKit Go.Lib

theorem lang_de : langS ⟨#[100, 101, 45, 67, 72]⟩ = ⟨#[100, 101]⟩ := by
  have h : locB [100, 101, 45, 67, 72] = true := by decide
  have e := langS_yes (s := ⟨#[100, 101, 45, 67, 72]⟩) h
  rw [e]; rfl

set_option maxHeartbeats 1600000 in
theorem alive_any (m : Int) (w : World) (hm : MaxW m w) : Calls Tryd.prog 4 #[] w fun e w' => e = .returned (.bool true) ∧ Below w.heap.size w w' := by
  have HL := Lib.hid (lang_any ⟨#[100, 101, 45, 67, 72]⟩ m w hm)
  rw [lang_de] at HL
  clear hm
  go_enter Tryd.func4, Tryd.ntmps4
  go_wp2_with fail
  refine HL.out.mono ?_
  rintro e w1 ⟨rfl, hb⟩
  have HB := Lib.hid hb
  clear hb
  go_wp2
  go_ret
  exact ⟨rfl, HB.out⟩

theorem chain_len {xs : List ByteArray} {s : ByteArray} (h : lists xs = chainS s.data.toList) (hs : s.size ≤ 140737488351232) : xs.length ≤ 1000000 := by
  have e : xs.length = (chainS s.data.toList).length := by rw [← h, List.length_map]
  have hp : ∀ (l : List UInt8) k, (pre l k).length ≤ k := fun l k => by
    induction k with
    | zero => simp [pre]
    | succ k ih =>
      unfold pre
      split
      · rw [List.length_cons]; omega
      · omega
  rw [e]
  unfold chainS
  split
  · rename_i h1
    have hl : s.data.toList.length ≤ 32 := by
      rcases h1 with h1 | h1
      · rw [h1]; simp
      · rw [ba_len]; exact loc_le h1
    unfold chainF
    split
    · simp
    · have := hp s.data.toList s.data.toList.length
      simp only [List.length_append, List.length_cons, List.length_nil]
      omega
  · simp

set_option maxHeartbeats 1600000 in
theorem law_any (s : ByteArray) (m : Int) (w : World) (hm : MaxW m w) (hs : s.size ≤ 140737488351232) : Calls Tryd.prog 3 #[.string s] w fun e w' => e = .returned (.bool true) ∧ Below w.heap.size w w' := by
  have HM := Lib.hid hm
  clear hm
  generalize hl : locB s.data.toList = l
  generalize hg : langS s = g
  have HLO : Hid (∀ w, MaxW m w → Calls Tryd.prog 5 #[.string s] w fun e w' => e = .returned (.bool l) ∧ Below w.heap.size w w') := Lib.hid (fun w h => by rw [← hl]; exact locale_any s m w h)
  have HRO : Hid (∀ w, Calls Tryd.prog 6 #[.string s] w fun e w' => e = .returned (.bool l) ∧ w' = w) := Lib.hid (fun w => by rw [← hl]; exact rlocale_any s w hs)
  have HLA : Hid (∀ w, MaxW m w → Calls Tryd.prog 7 #[.string s] w fun e w' => e = .returned (.string g) ∧ Below w.heap.size w w') := Lib.hid (fun w h => by rw [← hg]; exact lang_any s m w h)
  have HRA : Hid (∀ w, Calls Tryd.prog 8 #[.string s] w fun e w' => e = .returned (.string g) ∧ w' = w) := Lib.hid (fun w => by rw [← hg]; exact rlang_any s w hs)
  have HCH := Lib.hid (fun w h => chain_any s m w h)
  have HRC := Lib.hid (fun w => rchain_any s w hs)
  have HLN : Hid (∀ xs : List ByteArray, lists xs = chainS s.data.toList → xs.length ≤ 1000000) := Lib.hid (fun xs h => chain_len h hs)
  clear hl hg hs
  have HAL := Lib.hid (alive_any m w HM.out)
  go_enter Tryd.func3, Tryd.ntmps3
  go_wp2_with fail
  refine HAL.out.mono ?_
  rintro e w1 ⟨rfl, hb⟩
  have HB1 := Lib.hid hb
  clear hb HAL
  go_wp2_with fail
  refine (HLO.out w1 (HM.out.next HB1.out)).mono ?_
  rintro e w2 ⟨rfl, hb⟩
  have HB2 := Lib.hid (below_trans HB1.out hb)
  clear hb HB1 HLO
  go_wp2_with fail
  refine (HRO.out w2).mono ?_
  rintro e w2b ⟨rfl, rfl⟩
  clear HRO
  go_wp2_with fail
  refine (HLA.out _ (HM.out.next HB2.out)).mono ?_
  rintro e w3 ⟨rfl, hb⟩
  have HB3 := Lib.hid (below_trans HB2.out hb)
  clear hb HB2 HLA
  go_wp2_with fail
  refine (HRA.out w3).mono ?_
  rintro e w3b ⟨rfl, rfl⟩
  clear HRA
  go_wp2_with fail
  refine (HCH.out _ (HM.out.next HB3.out)).mono ?_
  rintro e w4 ⟨a1, cap1, xs, rfl, hx, hr, hb⟩
  have HX := Lib.hid hx
  have HR1 := Lib.hid hr
  have HB4 := Lib.hid (below_trans HB3.out hb)
  clear hb hx hr HB3 HCH
  go_wp2_with fail
  refine (HRC.out w4).mono ?_
  rintro e w5 ⟨a2, cap2, ys, rfl, hy, hr, hb⟩
  obtain rfl := lists_inj (hy.trans HX.out.symm)
  have HR2 := Lib.hid hr
  have HR3 := Lib.hid (HR1.out.below hb)
  have HB5 := Lib.hid (below_trans HB4.out hb)
  have HN := Lib.hid (HLN.out _ hy)
  clear hb hy hr HB4 HRC HLN HX HR1
  go_wp2_with fail
  refine (like_any w5 a1 a2 cap1 cap2 ys HN.out HR3.out HR2.out).mono ?_
  rintro e w6 ⟨rfl, n, rfl⟩
  have HB6 := Lib.hid (below_drewN HB5.out n)
  generalize w5.drewN n = w6 at *
  clear HB5 HR2 HR3
  go_wp2
  go_ret
  exact ⟨by first | rfl | simp, HB6.out⟩
end Go.Proofs.YtlmaafmhadbiaaaDoor
