/- MerkleRoots: what the law answers. -/
import Derived.Test.YtnmhmemlgibedaaDoorRRt
namespace Go.Proofs.YtnmhmemlgibedaaDoor
open Go.RowKit

set_option maxHeartbeats 1000000 in
theorem right_any (w : World) (a : Option Addr) (cap : Nat) (xs : List BA) (hxl : xs.length ≤ 9223372036854775807) (hxs : ∀ x, x ∈ xs → x.size ≤ 9223372036854775807) (hIn : InS w a xs) :
    Calls Tryd.prog 13 #[.slice a xs.length cap] w fun e w' => e = .returned (.int .i64 (faultF xs : Nat)) ∧ w = w' := by
  have HIN := Lib.hid hIn
  have HXS := Lib.hid hxs
  clear hIn hxs
  by_cases hlong : 4096 < xs.length
  · have HF : Hid (faultF xs = 2) := Lib.hid (by unfold faultF; rw [if_pos hlong])
    go_enter Tryd.func13, Tryd.ntmps13
    go_wp2
    go_ret
    exact ⟨by rw [HF.out]; rfl, rfl⟩
  · go_enter Tryd.func13, Tryd.ntmps13
    go_wp2
    go_loop [10] (fun i => ∃ k : Nat, k ≤ xs.length ∧ i = .int .i64 k ∧ Hid (AllS (xs.take k))) (fun i => xs.length - (intOf i).toNat)
    case atStart => exact ⟨0, by omega, rfl, Lib.hid (fun x hx => by simp at hx)⟩
    case round =>
      obtain ⟨k, hk, rfl, HA⟩ := hrel
      by_cases hlt : k < xs.length
      · obtain ⟨b, off, rfl, hb, hcl⟩ := HIN.out (fun h => by rw [h] at hlt; simp at hlt)
        have hcell := hcl k hlt
        have hx := HXS.out xs[k] (List.getElem_mem hlt)
        have HT : Hid (xs.take (k + 1) = xs.take k ++ [xs[k]]) := Lib.hid (List.take_succ_eq_append_getElem hlt)
        have HM : Hid (xs[k] ∈ xs) := Lib.hid (List.getElem_mem hlt)
        clear hcl
        generalize xs[k] = x at *
        by_cases h32 : x.size = 32
        · have HX := Lib.hid h32
          have hB : ((x.size : Int) != 32) = false := by rw [bne_eq_false_iff_eq]; omega
          clear h32
          go_wp2
          go_round
          case rel => exact ⟨k + 1, by omega, by go_num, Lib.hid (fun y hy => by
            rw [HT.out] at hy
            rcases List.mem_append.1 hy with hy | hy
            · exact HA.out y hy
            · rw [List.mem_singleton.1 hy]; exact HX.out)⟩
          case measure => simp [intOf]; omega
        · have HF : Hid (faultF xs = 1) := Lib.hid (by
            unfold faultF
            rw [if_neg hlong, if_neg]
            intro h
            have := List.all_eq_true.1 h x HM.out
            exact h32 (by simpa using this))
          have hB : ((x.size : Int) != 32) = true := by rw [bne_iff_ne]; omega
          clear h32
          go_wp2
          go_ret
          exact ⟨by rw [HF.out]; rfl, rfl⟩
      · have HF : Hid (faultF xs = 0) := Lib.hid (fault_ok.2 ⟨by omega, by have := HA.out; rwa [List.take_of_length_le (by omega)] at this⟩)
        go_wp2
        go_ret
        exact ⟨by rw [HF.out]; rfl, rfl⟩

/-- At most so many leaves, but more than may be stay more. -/
def cutL (xs : List BA) : List BA := if 60 < xs.length ∧ xs.length ≤ 4096 then xs.take 60 else xs
theorem cutL_ins {w : World} {a : Option Addr} {xs : List BA} (h : InS w a xs) : InS w a (cutL xs) := by
  unfold cutL
  split
  · exact h.take 60
  · exact h
theorem cutL_mem {xs : List BA} {x : BA} (h : x ∈ cutL xs) : x ∈ xs := by
  unfold cutL at h
  split at h
  · exact List.mem_of_mem_take h
  · exact h
theorem cutL_le (xs : List BA) : (cutL xs).length ≤ xs.length := by
  unfold cutL
  split
  · rw [List.length_take]; omega
  · omega
theorem cutL_short {xs : List BA} (h : (cutL xs).length ≤ 4096) : (cutL xs).length ≤ 60 := by
  unfold cutL at h ⊢
  split
  · rw [List.length_take]; omega
  · rename_i h1; rw [if_neg h1] at h; omega
set_option maxHeartbeats 800000 in
theorem cut_any (w : World) (a : Option Addr) (cap : Nat) (xs : List BA) (hl : xs.length ≤ 9223372036854775807) (hc : xs.length ≤ cap) (hc2 : cap ≤ 9223372036854775807) :
    Calls Tryd.prog 9 #[.slice a xs.length cap] w fun e w' => e = .returned (.slice a (cutL xs).length cap) ∧ w = w' := by
  by_cases h1 : 60 < xs.length
  · by_cases h2 : xs.length ≤ 4096
    · have HL : Hid ((cutL xs).length = 60) := Lib.hid (by unfold cutL; rw [if_pos ⟨h1, h2⟩, List.length_take]; omega)
      rw [HL.out]
      go_enter Tryd.func9, Tryd.ntmps9
      go_wp2
      go_ret
      exact ⟨rfl, rfl⟩
    · have HL : Hid (cutL xs = xs) := Lib.hid (by unfold cutL; rw [if_neg (by omega)])
      rw [HL.out]
      go_enter Tryd.func9, Tryd.ntmps9
      go_wp2
      go_ret
      exact ⟨rfl, rfl⟩
  · have HL : Hid (cutL xs = xs) := Lib.hid (by unfold cutL; rw [if_neg (by omega)])
    rw [HL.out]
    go_enter Tryd.func9, Tryd.ntmps9
    go_wp2
    go_ret
    exact ⟨rfl, rfl⟩
theorem InO.of_ins {w : World} {a : Option Addr} {xs : List BA} (h : InS w a xs) : InO (w.alloc (.cells #[.slice none 0 0] 31)) w.heap.size a xs := fun hx => by
  obtain ⟨b, off, ha, hb, hc⟩ := h hx
  refine ⟨b, off, ha, ⟨by simp; omega, by omega, fun v hv e => ?_⟩, fun j hj => ((below1 w _).cell (p := ⟨b, off + j, none⟩) hb).trans (hc j hj)⟩
  obtain rfl := row_inj (row_new w #[.slice none 0 0] 31) hv
  cases e
theorem Mv.below_new {w w' : World} (h : Mv w.heap.size (w.alloc (.cells #[.slice none 0 0] 31)) w') : Below w.heap.size w w' := by
  have h1 := below1 w (.cells #[.slice none 0 0] 31)
  refine ⟨h.os.trans h1.os, h.tape.trans h1.tape, h.output.trans h1.output, by have := h.size; have := h1.size; omega, fun k hk => ?_⟩
  rw [h.keep k ⟨by simp; omega, by omega, fun v hv e => ?_⟩]
  · exact h1.block k hk
  · obtain rfl := row_inj (row_new w #[.slice none 0 0] 31) hv
    cases e

set_option maxHeartbeats 3200000 in
set_option maxRecDepth 100000 in
theorem roots_any (w : World) (s : BA) (a : Option Addr) (cap : Nat) (xs : List BA) (ht : Tab w) (hs : s.size ≤ 140737488351232) (hl : xs.length ≤ 9223372036854775807) (hc : xs.length ≤ cap) (hc2 : cap ≤ 9223372036854775807) (hx : ∀ x, x ∈ xs → x.size ≤ 9223372036854775807) (hIn : InS w a xs) :
    Calls Tryd.prog 3 #[.string s, .slice a xs.length cap] w fun e w' => e = .returned (.bool true) ∧ Below w.heap.size w w' := by
  have HT := Lib.hid ht
  have HCUT := Lib.hid (cut_any w a cap xs hl hc hc2)
  have HIN := Lib.hid (cutL_ins hIn)
  have hzl := cutL_le xs
  have HRT := Lib.hid (root_any w a cap (cutL xs) ht (by omega) (fun x h => hx x (cutL_mem h)) (by omega) HIN.out)
  have HRI : Hid (∀ W, Below w.heap.size w W → Calls Tryd.prog 13 #[.slice a (cutL xs).length cap] W fun e w' => e = .returned (.int .i64 (faultF (cutL xs) : Nat)) ∧ W = w') := Lib.hid (fun W h => right_any W a cap (cutL xs) (by omega) (fun x h => hx x (cutL_mem h)) (HIN.out.below h))
  clear ht hIn hx
  generalize cutL xs = zs at *
  have HCC : Hid (∃ c : BA, (2000 < s.size → c = s.extract 0 2000) ∧ (¬ 2000 < s.size → c = s) ∧ c.size ≤ 2000) := Lib.hid (by
    by_cases h : 2000 < s.size
    · exact ⟨s.extract 0 2000, fun _ => rfl, fun h2 => absurd h h2, by rw [ByteArray.size_extract]; omega⟩
    · exact ⟨s, fun h2 => absurd h2 h, fun _ => rfl, by omega⟩)
  obtain ⟨c, hcA, hcB, hcs⟩ := HCC.out
  have HLF : Hid (∀ W, Tab W → Calls Tryd.prog 11 #[.string c] W fun e w' => e = .returned (.string (Dg ((⟨#[0]⟩ : BA) ++ c))) ∧ Below W.heap.size W w') := Lib.hid (fun W h => leaf_any c W h (by omega))
  have HRL : Hid (∀ W, Calls Tryd.prog 12 #[.string c] W fun e w' => e = .returned (.string (Dg ((⟨#[0]⟩ : BA) ++ c))) ∧ Below W.heap.size W w') := Lib.hid (fun W => rleaf_any c W (by omega))
  generalize Dg ((⟨#[0]⟩ : BA) ++ c) = d at *
  clear HCC
  by_cases h0 : faultF zs = 0
  · obtain ⟨hl2, hs2⟩ := fault_ok.1 h0
    have HS := Lib.hid hs2
    rw [h0] at HRI
    rw [show rootA zs = .tuple #[.string (rootF Dg zs), .int .i64 0] by unfold rootA; rw [if_pos h0]] at HRT
    clear h0 hs2
    by_cases h2 : 2000 < s.size
    · rw [hcA h2] at HLF HRL
      clear hcA hcB hcs c
      go_enter Tryd.func3, Tryd.ntmps3
      go_wp2_with fail
      refine HCUT.out.mono ?_
      rintro e w1 ⟨rfl, rfl⟩
      go_wp2_with fail
      refine HRT.out.mono ?_
      rintro e w1 ⟨rfl, hb1⟩
      have HB1 := Lib.hid hb1
      go_wp2_with fail
      refine (HLF.out _ (HT.out.below hb1)).mono ?_
      rintro e w2 ⟨rfl, hb2⟩
      have HB2 := Lib.hid (below_trans HB1.out hb2)
      clear hb1 hb2 HB1
      go_wp2_with fail
      refine (HRL.out _).mono ?_
      rintro e w3 ⟨rfl, hb3⟩
      have HB3 := Lib.hid (below_trans HB2.out hb3)
      clear hb3 HB2
      go_wp2_with fail
      refine (HRI.out _ HB3.out).mono ?_
      rintro e w4 ⟨rfl, rfl⟩
      have HMN : Hid (MadeAt (w3.alloc (.cells #[.slice none 0 0] 31)) w3.heap.size []) := Lib.hid (made_new w3)
      have HIO : Hid (InO (w3.alloc (.cells #[.slice none 0 0] 31)) w3.heap.size a zs) := Lib.hid (InO.of_ins (HIN.out.below HB3.out))
      have HRR := Lib.hid (rroot_any _ _ [] a cap zs HMN.out (by simp) hl2 HS.out HIO.out)
      clear HMN HIO
      go_wp2_with fail
      refine HRR.out.mono ?_
      rintro e w5 ⟨rfl, -, hmv⟩
      have HB5 := Lib.hid (below_trans HB3.out hmv.below_new)
      clear hmv
      go_wp2
      go_ret
      exact ⟨rfl, HB5.out⟩
    · rw [hcB h2] at HLF HRL
      clear hcA hcB hcs c
      go_enter Tryd.func3, Tryd.ntmps3
      go_wp2_with fail
      refine HCUT.out.mono ?_
      rintro e w1 ⟨rfl, rfl⟩
      go_wp2_with fail
      refine HRT.out.mono ?_
      rintro e w1 ⟨rfl, hb1⟩
      have HB1 := Lib.hid hb1
      go_wp2_with fail
      refine (HLF.out _ (HT.out.below hb1)).mono ?_
      rintro e w2 ⟨rfl, hb2⟩
      have HB2 := Lib.hid (below_trans HB1.out hb2)
      clear hb1 hb2 HB1
      go_wp2_with fail
      refine (HRL.out _).mono ?_
      rintro e w3 ⟨rfl, hb3⟩
      have HB3 := Lib.hid (below_trans HB2.out hb3)
      clear hb3 HB2
      go_wp2_with fail
      refine (HRI.out _ HB3.out).mono ?_
      rintro e w4 ⟨rfl, rfl⟩
      have HMN : Hid (MadeAt (w3.alloc (.cells #[.slice none 0 0] 31)) w3.heap.size []) := Lib.hid (made_new w3)
      have HIO : Hid (InO (w3.alloc (.cells #[.slice none 0 0] 31)) w3.heap.size a zs) := Lib.hid (InO.of_ins (HIN.out.below HB3.out))
      have HRR := Lib.hid (rroot_any _ _ [] a cap zs HMN.out (by simp) hl2 HS.out HIO.out)
      clear HMN HIO
      go_wp2_with fail
      refine HRR.out.mono ?_
      rintro e w5 ⟨rfl, -, hmv⟩
      have HB5 := Lib.hid (below_trans HB3.out hmv.below_new)
      clear hmv
      go_wp2
      go_ret
      exact ⟨rfl, HB5.out⟩
  · rw [show rootA zs = .tuple #[.string ⟨#[]⟩, .int .i64 (faultF zs : Nat)] by unfold rootA; rw [if_neg h0]] at HRT
    have hb1 : (((faultF zs : Nat) : Int) != 0) = true := by rw [bne_iff_ne]; omega
    have hb2 : ((faultF zs : Nat) : Int) ≠ 0 := by omega
    clear h0
    generalize faultF zs = f at *
    by_cases h2 : 2000 < s.size
    · rw [hcA h2] at HLF HRL
      clear hcA hcB hcs c
      go_enter Tryd.func3, Tryd.ntmps3
      go_wp2_with fail
      refine HCUT.out.mono ?_
      rintro e w1 ⟨rfl, rfl⟩
      go_wp2_with fail
      refine HRT.out.mono ?_
      rintro e w1 ⟨rfl, hb1⟩
      have HB1 := Lib.hid hb1
      go_wp2_with fail
      refine (HLF.out _ (HT.out.below hb1)).mono ?_
      rintro e w2 ⟨rfl, hb2⟩
      have HB2 := Lib.hid (below_trans HB1.out hb2)
      clear hb1 hb2 HB1
      go_wp2_with fail
      refine (HRL.out _).mono ?_
      rintro e w3 ⟨rfl, hb3⟩
      have HB3 := Lib.hid (below_trans HB2.out hb3)
      clear hb3 HB2
      go_wp2_with fail
      refine (HRI.out _ HB3.out).mono ?_
      rintro e w4 ⟨rfl, rfl⟩
      go_wp2
      go_ret
      exact ⟨rfl, HB3.out⟩
    · rw [hcB h2] at HLF HRL
      clear hcA hcB hcs c
      go_enter Tryd.func3, Tryd.ntmps3
      go_wp2_with fail
      refine HCUT.out.mono ?_
      rintro e w1 ⟨rfl, rfl⟩
      go_wp2_with fail
      refine HRT.out.mono ?_
      rintro e w1 ⟨rfl, hb1⟩
      have HB1 := Lib.hid hb1
      go_wp2_with fail
      refine (HLF.out _ (HT.out.below hb1)).mono ?_
      rintro e w2 ⟨rfl, hb2⟩
      have HB2 := Lib.hid (below_trans HB1.out hb2)
      clear hb1 hb2 HB1
      go_wp2_with fail
      refine (HRL.out _).mono ?_
      rintro e w3 ⟨rfl, hb3⟩
      have HB3 := Lib.hid (below_trans HB2.out hb3)
      clear hb3 HB2
      go_wp2_with fail
      refine (HRI.out _ HB3.out).mono ?_
      rintro e w4 ⟨rfl, rfl⟩
      go_wp2
      go_ret
      exact ⟨rfl, HB3.out⟩
end Go.Proofs.YtnmhmemlgibedaaDoor
