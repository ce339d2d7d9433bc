/- The printer: cases; Print; the law of what is read and printed. -/
import Derived.Test.YtapnieogfddjkaaDoorPx
import Derived.Test.YtapnieogfddjkaaDoorLa
namespace Go.Proofs.YtapnieogfddjkaaDoor.Pr
open Go.RowKit Go.Proofs.YtapnieogfddjkaaDoor

set_option maxHeartbeats 3200000 in
set_option maxRecDepth 100000 in
theorem prC_of (n : Nat) (HP : PrP n) : PrC n := by
  intro M B b acc w k t nm wd a cap cs hMB hBw hbp hcs hwd hl
  have hll := hcs.lenle
  have hbl := hbp.lt
  obtain ⟨L, HL⟩ : ∃ L, Hid (L = cs.length) := ⟨_, Lib.hid rfl⟩
  have hL2 : L ≤ 9223372036854775807 := by have := HL.out; omega
  rw [← HL.out] at hcs ⊢
  have HRW : Hid (Row (w.alloc (.cells #[.int .i64 k, .string t, .string nm, .slice a L cap] 42)) w.heap.size 42 [.int .i64 k, .string t, .string nm, .slice a L cap]) := Lib.hid (row_new w #[.int .i64 k, .string t, .string nm, .slice a L cap] 42)
  have HBP : Hid (Bp B b acc (w.alloc (.cells #[.int .i64 k, .string t, .string nm, .slice a L cap] 42))) := Lib.hid (hbp.alloc _)
  have HKA : Hid (Kb B b w (w.alloc (.cells #[.int .i64 k, .string t, .string nm, .slice a L cap] 42))) := Lib.hid (kb1 w hBw _)
  have hBw2 : B ≤ (w.alloc (.cells #[.int .i64 k, .string t, .string nm, .slice a L cap] 42)).heap.size := by rw [World.size_alloc]; omega
  have HCS : Hid (SlC (w.alloc (.cells #[.int .i64 k, .string t, .string nm, .slice a L cap] 42)) (Lt M) n (.slice a L cap) cs) := Lib.hid (SlC.kb hcs hMB HKA.out)
  have HLN := Lib.hid hl
  have HPP := Lib.hid HP
  have hns : nm.size ≤ 2000 := by omega
  have HW := Lib.hid (writeS (⟨#[123]⟩ ++ nm ++ wd) HBP.out.drew (by rw [size3]; show acc.length + (1 + nm.size + wd.size) ≤ _; omega) (by rw [size3]; show 1 + nm.size + wd.size ≠ 0; omega) hBw2)
  have HKD := Lib.hid HKA.out.drew
  have HS3 : Hid ((⟨#[123]⟩ ++ nm ++ wd : BA).data.toList = [123] ++ nm.data.toList ++ wd.data.toList) := Lib.hid (cat3 _ _ _)
  have HHL : Hid (([123] ++ nm.data.toList ++ wd.data.toList).length = 1 + nm.size + wd.size) := Lib.hid (by simp only [List.length_append, List.length_cons, List.length_nil, len_list])
  have HBE : Hid (w.heap.size ≠ b) := Lib.hid (by omega)
  have f1 : ¬ 9223372036854775807 < 1 + nm.size := by omega
  have f2 : ¬ 9223372036854775807 < 1 + nm.size + wd.size := by omega
  have c2 := HRW.out.cell (i := 2) rfl
  have c3 := HRW.out.cell (i := 3) rfl
  clear hbp hcs hl HP hll hwd
  go_enter Tryd.func48, Tryd.ntmps48
  go_wp2
  generalize w.alloc (.cells #[.int .i64 k, .string t, .string nm, .slice a L cap] 42) = w2 at *
  go_still_tail 8, (by kernel_rfl)
  change wpList _ _ _ _ _ w2.drew
  have HRD : Hid (Row w2.drew w.heap.size 42 [.int .i64 k, .string t, .string nm, .slice a L cap]) := HRW
  have HCD : Hid (SlC w2.drew (Lt M) n (.slice a L cap) cs) := Lib.hid (SlC.keep HCS.out (fun _ _ => rfl) (fun _ h => h))
  clear HRW HCS HBP HKA c2 c3
  have hBd : B ≤ w2.drew.heap.size := hBw2
  clear hBw2
  generalize w2.drew = w3 at *
  go_wp2_with fail
  refine HW.out.mono ?_
  rintro e w5 ⟨rfl, hb5, hk5⟩
  rw [HS3.out] at hb5
  have HB5 := Lib.hid hb5
  have HK5 := Lib.hid (HKD.out.trans hk5)
  have HR5 := Lib.hid (hk5.row HRD.out HBE.out (by decide))
  have HC5 := Lib.hid (SlC.kb HCD.out hMB hk5)
  clear hb5 hk5 HW HRD HCD HKD HS3
  obtain ⟨hd, HHD⟩ : ∃ hd, Hid (hd = [123] ++ nm.data.toList ++ wd.data.toList) := ⟨_, Lib.hid rfl⟩
  rw [← HHD.out] at HB5 HHL
  have c3 := HR5.out.cell (i := 3) rfl
  go_wp2
  clear c3 HR5
  go_loopw [20] (fun i wr => ∃ (j : Nat) (out : List UInt8), j ≤ L ∧ i = .int .i64 j ∧ Hid (out = acc ++ hd ++ txCs (cs.take j)) ∧ Hid (Bp B b out wr) ∧ Hid (Kb B b w wr) ∧ Hid (SlC wr (Lt M) n (.slice a L cap) cs)) (fun i _ => L - (intOf i).toNat)
  case atStart => exact ⟨0, acc ++ hd, Nat.zero_le _, rfl, Lib.hid (by simp [txCs]), HB5, HK5, HC5⟩
  case round =>
    obtain ⟨j, out, hj, rfl, HO, HBR, HK, HCR⟩ := hrel
    clear HB5 HK5 HC5
    have hBr : B ≤ wr.heap.size := by have := HK.out.1.size; omega
    have HTJ := Lib.hid (txCs_le cs j)
    have HOL : Hid (out.length = acc.length + (1 + nm.size + wd.size) + (txCs (cs.take j)).length) := Lib.hid (by rw [HO.out, List.length_append, List.length_append, HHL.out])
    by_cases hlt : j < L
    · obtain ⟨y, hy⟩ : ∃ y, cs[j]? = some y := ⟨_, List.getElem?_eq_getElem (by have := HL.out; omega)⟩
      obtain ⟨g, off, rfl, -, hat⟩ := HCR.out.at_ hy
      obtain ⟨h0, a3, p3, h1, hks⟩ := hat.c
      have HT := Lib.hid (txCs_one hy)
      have HTL := Lib.hid (txCs_le cs (j + 1))
      have hbl2 := HBR.out.lt
      obtain ⟨key, kids⟩ := y
      rw [txC_eq] at HT
      simp only [Cs.key, Cs.kids] at h0 h1 hks HT
      have HLL : Hid (out.length + (1 + key.size + 2 + (txPs kids).length + 1) + 1 ≤ 2000) := Lib.hid (by
        have h1 := HTL.out
        rw [HT.out] at h1
        simp only [List.length_append, List.length_cons, List.length_nil, len_list] at h1
        have h2 := HLN.out
        have h3 := HOL.out
        omega)
      have hks0 : key.size ≤ 2000 := by have := HLL.out; omega
      obtain ⟨L3, HL3⟩ : ∃ L3, Hid (L3 = kids.length) := ⟨_, Lib.hid rfl⟩
      rw [← HL3.out] at h1 hks
      have HRW : Hid (Row (wr.alloc (.cells #[.string key, .slice a3 L3 p3] 44)) wr.heap.size 44 [.string key, .slice a3 L3 p3]) := Lib.hid (row_new wr #[.string key, .slice a3 L3 p3] 44)
      have HB1 : Hid (Bp B b out (wr.alloc (.cells #[.string key, .slice a3 L3 p3] 44))) := Lib.hid (HBR.out.alloc _)
      have HA := kb1 (b := b) wr hBr (.cells #[.string key, .slice a3 L3 p3] 44)
      have HK1 : Hid (Kb B b w (wr.alloc (.cells #[.string key, .slice a3 L3 p3] 44))) := Lib.hid (HK.out.trans HA)
      have HC1 : Hid (SlC (wr.alloc (.cells #[.string key, .slice a3 L3 p3] 44)) (Lt M) n (.slice (some ⟨g, off, none⟩) L cap) cs) := Lib.hid (SlC.kb HCR.out hMB HA)
      have HS1 : Hid (SlP (wr.alloc (.cells #[.string key, .slice a3 L3 p3] 44)) (Lt M) n (.slice a3 L3 p3) kids) := Lib.hid (SlP.kb hks hMB HA)
      have hB1 : B ≤ (wr.alloc (.cells #[.string key, .slice a3 L3 p3] 44)).heap.size := by rw [World.size_alloc]; omega
      have hne : wr.heap.size ≠ b := by omega
      have HFU := Lib.hid (full_any HB1.out (by have := HLL.out; omega))
      have HW := Lib.hid (writeS (⟨#[32]⟩ ++ key ++ ⟨#[32, 123]⟩) HB1.out.drew (by rw [size3]; show out.length + (1 + key.size + 2) ≤ _; have := HLL.out; omega) (by rw [size3]; show 1 + key.size + 2 ≠ 0; omega) hB1)
      have HS3 : Hid ((⟨#[32]⟩ ++ key ++ ⟨#[32, 123]⟩ : BA).data.toList = [32] ++ key.data.toList ++ [32, 123]) := Lib.hid (cat3 _ _ _)
      have f3 : ¬ 9223372036854775807 < 1 + key.size := by omega
      have f4 : ¬ 9223372036854775807 < 1 + key.size + 2 := by omega
      have c0 := HRW.out.cell (i := 0) rfl
      clear hat hy hks HA HBR HK HCR
      go_wp2_with fail
      generalize wr.alloc (.cells #[.string key, .slice a3 L3 p3] 44) = w6 at *
      refine HFU.out.mono ?_
      rintro e w7 ⟨rfl, rfl⟩
      go_wp2
      go_still_tail 7, (by kernel_rfl)
      change wpList _ _ _ _ _ w7.drew
      have HRD : Hid (Row w7.drew wr.heap.size 44 [.string key, .slice a3 L3 p3]) := HRW
      have HCD : Hid (SlC w7.drew (Lt M) n (.slice (some ⟨g, off, none⟩) L cap) cs) := Lib.hid (SlC.keep HC1.out (fun _ _ => rfl) (fun _ h => h))
      have HSD : Hid (SlP w7.drew (Lt M) n (.slice a3 L3 p3) kids) := Lib.hid (SlP.keep HS1.out (fun _ _ => rfl) (fun _ h => h))
      have HKD : Hid (Kb B b w w7.drew) := Lib.hid HK1.out.drew
      have hBd2 : B ≤ w7.drew.heap.size := hB1
      clear HRW HC1 HS1 HB1 HK1 c0 HFU hB1
      generalize w7.drew = w8 at *
      go_wp2_with fail
      refine HW.out.mono ?_
      rintro e w9 ⟨rfl, hb9, hk9⟩
      rw [HS3.out] at hb9
      have HB9 := Lib.hid hb9
      have HK9 := Lib.hid (HKD.out.trans hk9)
      have HR9 := Lib.hid (hk9.row HRD.out hne (by decide))
      have HC9 := Lib.hid (SlC.kb HCD.out hMB hk9)
      have HS9 := Lib.hid (SlP.kb HSD.out hMB hk9)
      have hB9 : B ≤ w9.heap.size := by have := HK9.out.1.size; omega
      have HPC := Lib.hid (HPP.out M B b _ w9 a3 p3 kids hMB hB9 HB9.out (by rw [← HL3.out]; exact HS9.out) (by
        simp only [List.length_append, List.length_cons, List.length_nil, len_list]
        have := HLL.out; omega))
      rw [← HL3.out] at HPC
      have c1 := HR9.out.cell (i := 1) rfl
      clear hb9 hk9 HW HRD HCD HSD HKD HS3
      go_wp2_with fail
      refine HPC.out.mono ?_
      rintro e wa ⟨rfl, hba, hka⟩
      have HBA := Lib.hid hba
      have HKA := Lib.hid (HK9.out.trans hka)
      have HCA := Lib.hid (SlC.kb HC9.out hMB hka)
      have hBa : B ≤ wa.heap.size := by have := HKA.out.1.size; omega
      have HWB : Hid (Calls Tryd.prog 47 #[.pointer (some ⟨b, 0, none⟩), .int .u8 125] wa fun e w' => e = .returned .nilIface ∧ Bp B b (out ++ ([32] ++ key.data.toList ++ [32, 123]) ++ txPs kids ++ [125]) w' ∧ Kb B b wa w') := Lib.hid (writeB 125 HBA.out (by
        simp only [List.length_append, List.length_cons, List.length_nil, len_list]
        have := HLL.out; omega) hBa)
      clear hba hka HPC HB9 HK9 HR9 HC9 HS9 c1
      go_wp2_with fail
      refine HWB.out.mono ?_
      rintro e wb ⟨rfl, hbb, hkb⟩
      have HBB := Lib.hid hbb
      have HKB := Lib.hid (HKA.out.trans hkb)
      have HCB := Lib.hid (SlC.kb HCA.out hMB hkb)
      clear hbb hkb HWB HBA HKA HCA
      go_wp2
      go_roundw
      case rel => exact ⟨j + 1, _, by omega, by go_num, Lib.hid (by rw [HT.out, HO.out]; simp only [List.append_assoc]), HBB, HKB, HCB⟩
      case measure => simp [intOf]; omega
    · have hkn : cs.take j = cs := List.take_of_length_le (by have := HL.out; omega)
      have HWB : Hid (Calls Tryd.prog 47 #[.pointer (some ⟨b, 0, none⟩), .int .u8 125] wr fun e w' => e = .returned .nilIface ∧ Bp B b (out ++ [125]) w' ∧ Kb B b wr w') := Lib.hid (writeB 125 HBR.out (by
        have h1 := HTJ.out; have h2 := HLN.out; have h3 := HOL.out; omega) hBr)
      have HOE : Hid (out ++ [125] = acc ++ (hd ++ txCs cs ++ [125])) := Lib.hid (by rw [HO.out, hkn]; simp only [List.append_assoc])
      clear hkn
      go_wp2_with fail
      refine HWB.out.mono ?_
      rintro e wb ⟨rfl, hbb, hkb⟩
      rw [HOE.out] at hbb
      have HBB := Lib.hid hbb
      have HKB := Lib.hid (HK.out.trans hkb)
      clear hbb hkb HWB
      go_wp2
      go_end0
      exact ⟨rfl, (by have h5 := HBB.out; rw [HHD.out] at h5; simpa [List.append_assoc] using h5), HKB.out⟩
theorem pr_all : ∀ n, PrP n ∧ PrX n := by
  intro n
  induction n using Nat.strongRecOn with
  | _ n ih =>
    have h1 := prP_of n (fun m hm => (ih m hm).2)
    exact ⟨h1, prX_of n (prC_of n h1)⟩
end Go.Proofs.YtapnieogfddjkaaDoor.Pr
