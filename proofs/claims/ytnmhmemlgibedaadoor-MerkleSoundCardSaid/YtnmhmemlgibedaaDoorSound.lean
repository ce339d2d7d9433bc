/- MerkleSound: what the law answers. -/
import Derived.Test.YtnmhmemlgibedaaDoorTwo
namespace Go.Proofs.YtnmhmemlgibedaaDoor
open Go.RowKit

set_option maxHeartbeats 6400000 in
set_option maxRecDepth 100000 in
theorem sound_any (w : World) (a : Option Addr) (cap : Nat) (xs : List BA) (n i : Int) (leaf : BA) (qa : Option Addr) (qc : Nat) (ps : List BA) (ht : Tab w) (hl : xs.length ≤ 9223372036854775807) (hx : ∀ x, x ∈ xs → x.size ≤ 140737488351232) (hIn : InS w a xs)
    (hn1 : -9223372036854775808 ≤ n) (hn2 : n ≤ 9223372036854775807) (hi1 : -9223372036854775808 ≤ i) (hi2 : i ≤ 9223372036854775807) (hlf : leaf.size ≤ 9223372036854775807) (hpl : ps.length ≤ 9223372036854775807) (hpc : ps.length ≤ qc) (hcm : qc ≤ 9223372036854775807) (hxp : ∀ x, x ∈ ps → x.size ≤ 9223372036854775807) (hInp : InS w qa ps) :
    Calls Tryd.prog 7 #[.slice a xs.length cap, .int .i64 n, .int .i64 i, .string leaf, .slice qa ps.length qc] w fun e w' => e = .returned (.bool true) ∧ Below w.heap.size w w' := by
  have HDG := Lib.hid (digests_any w a cap xs hl hx hIn)
  have hdl := digL_length xs
  have HDS := Lib.hid (digL_sized xs)
  have HT := Lib.hid ht
  clear hIn hx ht
  generalize digL xs = L at *
  have HRS : Hid ((rootF Dg L).size = 32) := Lib.hid (Dg_size _)
  obtain ⟨hz1, hz2⟩ := cutP_le 20 ps
  have HINP := Lib.hid (cutP_ins (k := 20) hInp)
  have HXQ : Hid (∀ x, x ∈ cutP 20 ps → x.size ≤ 9223372036854775807) := Lib.hid (fun x h => hxp x (cutP_mem h))
  have HCK : Hid (∀ W, Below w.heap.size w W → Calls Tryd.prog 19 #[.string (rootF Dg L), .int .i64 n, .int .i64 i, .string leaf, .slice qa (cutP 20 ps).length qc] W (CkA (rootF Dg L) n i leaf (cutP 20 ps) W)) := Lib.hid (fun W h => check_any W (rootF Dg L) n i leaf qa qc (cutP 20 ps) (HT.out.below h) hn1 hn2 hi1 hi2 hlf (by omega) (by omega) hcm HXQ.out (HINP.out.below h))
  clear hInp hxp
  by_cases hlong : 20 < ps.length
  · have HL : Hid ((cutP 20 ps).length = 20) := Lib.hid (by unfold cutP; rw [if_pos hlong, List.length_take]; omega)
    rw [HL.out] at HCK
    generalize cutP 20 ps = qs at *
    have hqs : qs.length ≤ 20 := by omega
    go_enter Tryd.func7, Tryd.ntmps7
    go_wp2_with fail
    refine HDG.out.mono ?_
    rintro e w1 ⟨pa, pc, rfl, hle, hin, hb1⟩
    have HIN := Lib.hid hin
    have HB1 := Lib.hid hb1
    have HRT := Lib.hid (root_yes w1 pa pc L (HT.out.below hb1) (by omega) HDS.out hle hin)
    clear hin hb1
    go_wp2_with fail
    refine HRT.out.mono ?_
    rintro e w2 ⟨rfl, hb2⟩
    have HB2 := Lib.hid (below_trans HB1.out hb2)
    have HIN2 := Lib.hid (HIN.out.below hb2)
    clear hb2
    have hrs := HRS.out
    have hrb : (((rootF Dg L).size : Int) != 32) = false := by rw [bne_eq_false_iff_eq]; omega
    have hrs2 : (rootF Dg L).size ≤ 32 := by omega
    clear hrs
    by_cases hck : Checked (rootF Dg L) n i leaf qs
    · have HC := Lib.hid hck
      obtain ⟨t, hsh, hd⟩ := hck
      have HSH := Lib.hid hsh
      have HSO := Lib.hid (sound Dg Dg_size (by omega) HDS.out hsh hd)
      have hr1 := hsh.1.n1
      have hr2 := hsh.1.n2
      have hr3 := hsh.1.i1
      have hr4 := hsh.1.i2
      have hr5 : leaf.size ≤ 32 := by rw [hsh.1.leaf]; omega
      clear hsh hd
      by_cases hnl : n = L.length
      · subst hnl
        obtain ⟨I, rfl⟩ := Int.eq_ofNat_of_zero_le hr3
        have hIL : I < L.length := by omega
        have hlf1 : L[I].size = 32 := HDS.out _ (List.getElem_mem hIL)
        have hlf2 : L[I].size ≤ 32 := by omega
        have HLI : Hid (L[I]? = some L[I]) := Lib.hid (List.getElem?_eq_getElem hIL)
        obtain ⟨gb, go, rfl, hgb, hgc⟩ := HIN2.out (fun e => by rw [e] at hIL; simp at hIL)
        have HCL0 : Hid (∀ W, Below w2.heap.size w2 W → W.cell? ⟨gb, go + I, none⟩ = some (.string L[I])) := Lib.hid (fun W h => (h.cell (p := ⟨gb, go + I, none⟩) hgb).trans (hgc I hIL))
        clear hgc hgb hlf1
        by_cases hlq : L[I] = leaf
        · clear HSO
          rw [hlq] at HCL0
          clear HLI hlf2 hlq
          generalize rootF Dg L = R at *
          go_wp2_with fail
          refine (HCK.out _ HB2.out).mono ?_
          rintro e w3 ⟨b, rfl, hb, hb3⟩
          obtain rfl : b = true := hb.2 HC.out
          have hcell := HCL0.out w3 hb3
          have HB3 := Lib.hid (below_trans HB2.out hb3)
          clear hb hb3
          go_wp2
          go_ret
          exact ⟨rfl, HB3.out⟩
        · have HMT : Hid (Meet Dg (rootT Dg L) (shownT Dg L.length I leaf qs t)) := Lib.hid (by
            rcases HSO.out with ⟨-, -, h, -⟩ | h
            · rw [Int.toNat_natCast, HLI.out] at h
              exact absurd (Option.some.inj h) hlq
            · exact h)
          have hne := neq_lists (fun e : leaf = L[I] => hlq e.symm)
          clear HSO hlq HLI
          generalize L[I] = y at *
          go_wp2_with fail
          refine (HCK.out _ HB2.out).mono ?_
          rintro e w3 ⟨b, rfl, hb, hb3⟩
          obtain rfl : b = true := hb.2 HC.out
          have hcell := HCL0.out w3 hb3
          have HBW := Lib.hid (below_trans HB2.out hb3)
          have HINL : Hid (InS w3 (some ⟨gb, go, none⟩) L) := Lib.hid (HIN2.out.below hb3)
          have HINQ : Hid (InS w3 qa qs) := Lib.hid (HINP.out.below HBW.out)
          clear hb hb3
          have HRR : Hid (Calls Tryd.prog 14 #[.pointer (some ⟨w3.heap.size, 0, none⟩), .slice (some ⟨gb, go, none⟩) L.length pc] ((w3.alloc (.cells #[.slice none 0 0] 31)).alloc (.cells #[.slice none 0 0] 31)) fun e w' => e = .returned (.string (rootF Dg L)) ∧ MadeAt w' w3.heap.size (rootT Dg L) ∧ Mv w3.heap.size (two w3) w') := Lib.hid (by
            have := rroot_any (two w3) w3.heap.size [] (some ⟨gb, go, none⟩) pc L (two_made1 w3) (by simp) (by omega) HDS.out (two_ins HINL.out)
            rwa [List.nil_append] at this)
          go_wp2_with fail
          refine HRR.out.mono ?_
          rintro e w4 ⟨rfl, hm4, hv4⟩
          have HAF := Lib.hid (aft_root hv4)
          have HM4 := Lib.hid hm4
          clear hm4 hv4 HRR
          have HSW := Lib.hid (shown_any w4 (w3.heap.size + 1) [] L.length I leaf qa qc qs HAF.out.made2 (by simp) (by omega) (by omega) (by omega) (by omega) (by omega) (by omega) HXQ.out (HAF.out.ins HINQ.out))
          rw [HL.out] at HSW
          go_wp2_with fail
          refine HSW.out.mono ?_
          rintro e w5 ⟨ok, r, rfl, -, hrr, hv5⟩
          have hm5 := (hrr _ HSH.out).2
          rw [List.nil_append] at hm5
          obtain ⟨hm51, hb5⟩ := HAF.out.shown HM4.out hv5
          obtain ⟨ra, rc, hcA, hiA⟩ := hm51.read
          obtain ⟨sa, sc, hcB, hiB⟩ := hm5.read
          have HB5 := Lib.hid (below_trans HBW.out hb5)
          have HCL := Lib.hid (collide_any w5.drew ra sa rc sc _ _ (by have := (rootT_size HDS.out).1; omega) (by have := (shownT_size HSH.out).1; omega) (rootT_size HDS.out).2 (shownT_size HSH.out).2 (hiA.same (Same.refl w5).drew) (hiB.same (Same.refl w5).drew))
          have HBD : Hid (Below w.heap.size w w5.drew) := Lib.hid (HB5.out.trans (Same.refl w5).drew.below)
          clear hrr hv5 hm5 hm51 hb5 hiA hiB HSW HAF HM4
          generalize rootT Dg L = TA at *
          generalize shownT Dg L.length I leaf qs t = TB at *
          go_wp2
          go_still_tail 8, (by kernel_rfl)
          change wpList _ _ _ _ _ w5.drew
          clear hcA hcB
          generalize w5.drew = w6 at *
          go_wp2_with fail
          refine HCL.out.mono ?_
          rintro e w7 ⟨rr, rfl, hr, hb7⟩
          obtain rfl : rr = true := hr HMT.out
          go_wp2
          go_ret
          exact ⟨rfl, below_trans HBD.out hb7⟩
      · have HMT : Hid (Meet Dg (rootT Dg L) (shownT Dg n i leaf qs t)) := Lib.hid (by
          rcases HSO.out with ⟨h, -⟩ | h
          · exact absurd h hnl
          · exact h)
        have hne : (n == (L.length : Int)) = false := by rw [beq_eq_false_iff_ne]; exact hnl
        clear HSO hnl
        go_wp2_with fail
        refine (HCK.out _ HB2.out).mono ?_
        rintro e w3 ⟨b, rfl, hb, hb3⟩
        obtain rfl : b = true := hb.2 HC.out
        have HBW := Lib.hid (below_trans HB2.out hb3)
        have HINL := Lib.hid (HIN2.out.below hb3)
        have HINQ : Hid (InS w3 qa qs) := Lib.hid (HINP.out.below HBW.out)
        clear hb hb3
        have HRR : Hid (Calls Tryd.prog 14 #[.pointer (some ⟨w3.heap.size, 0, none⟩), .slice pa L.length pc] ((w3.alloc (.cells #[.slice none 0 0] 31)).alloc (.cells #[.slice none 0 0] 31)) fun e w' => e = .returned (.string (rootF Dg L)) ∧ MadeAt w' w3.heap.size (rootT Dg L) ∧ Mv w3.heap.size (two w3) w') := Lib.hid (by
          have := rroot_any (two w3) w3.heap.size [] pa pc L (two_made1 w3) (by simp) (by omega) HDS.out (two_ins HINL.out)
          rwa [List.nil_append] at this)
        go_wp2_with fail
        refine HRR.out.mono ?_
        rintro e w4 ⟨rfl, hm4, hv4⟩
        have HAF := Lib.hid (aft_root hv4)
        have HM4 := Lib.hid hm4
        clear hm4 hv4 HRR
        have HSW := Lib.hid (shown_any w4 (w3.heap.size + 1) [] n i leaf qa qc qs HAF.out.made2 (by simp) (by omega) (by omega) (by omega) (by omega) (by omega) (by omega) HXQ.out (HAF.out.ins HINQ.out))
        rw [HL.out] at HSW
        go_wp2_with fail
        refine HSW.out.mono ?_
        rintro e w5 ⟨ok, r, rfl, -, hrr, hv5⟩
        have hm5 := (hrr _ HSH.out).2
        rw [List.nil_append] at hm5
        obtain ⟨hm51, hb5⟩ := HAF.out.shown HM4.out hv5
        obtain ⟨ra, rc, hcA, hiA⟩ := hm51.read
        obtain ⟨sa, sc, hcB, hiB⟩ := hm5.read
        have HB5 := Lib.hid (below_trans HBW.out hb5)
        have HCL := Lib.hid (collide_any w5.drew ra sa rc sc _ _ (by have := (rootT_size HDS.out).1; omega) (by have := (shownT_size HSH.out).1; omega) (rootT_size HDS.out).2 (shownT_size HSH.out).2 (hiA.same (Same.refl w5).drew) (hiB.same (Same.refl w5).drew))
        have HBD : Hid (Below w.heap.size w w5.drew) := Lib.hid (HB5.out.trans (Same.refl w5).drew.below)
        clear hrr hv5 hm5 hm51 hb5 hiA hiB HSW HAF HM4
        generalize rootT Dg L = TA at *
        generalize shownT Dg n i leaf qs t = TB at *
        go_wp2
        go_still_tail 8, (by kernel_rfl)
        change wpList _ _ _ _ _ w5.drew
        clear hcA hcB
        generalize w5.drew = w6 at *
        go_wp2_with fail
        refine HCL.out.mono ?_
        rintro e w7 ⟨rr, rfl, hr, hb7⟩
        obtain rfl : rr = true := hr HMT.out
        go_wp2
        go_ret
        exact ⟨rfl, below_trans HBD.out hb7⟩
    · have HC := Lib.hid hck
      clear hck
      generalize rootF Dg L = R at *
      go_wp2_with fail
      refine (HCK.out _ HB2.out).mono ?_
      rintro e w3 ⟨b, rfl, hb, hb3⟩
      obtain rfl : b = false := by
        cases b with
        | false => rfl
        | true => exact absurd (hb.1 rfl) HC.out
      have HB3 := Lib.hid (below_trans HB2.out hb3)
      clear hb hb3
      go_wp2
      go_ret
      exact ⟨rfl, HB3.out⟩
  · have HL : Hid (cutP 20 ps = ps) := Lib.hid (by unfold cutP; rw [if_neg hlong])
    rw [HL.out] at HCK HXQ HINP
    have hqs : ps.length ≤ 20 := by omega
    go_enter Tryd.func7, Tryd.ntmps7
    go_wp2_with fail
    refine HDG.out.mono ?_
    rintro e w1 ⟨pa, pc, rfl, hle, hin, hb1⟩
    have HIN := Lib.hid hin
    have HB1 := Lib.hid hb1
    have HRT := Lib.hid (root_yes w1 pa pc L (HT.out.below hb1) (by omega) HDS.out hle hin)
    clear hin hb1
    go_wp2_with fail
    refine HRT.out.mono ?_
    rintro e w2 ⟨rfl, hb2⟩
    have HB2 := Lib.hid (below_trans HB1.out hb2)
    have HIN2 := Lib.hid (HIN.out.below hb2)
    clear hb2
    have hrs := HRS.out
    have hrb : (((rootF Dg L).size : Int) != 32) = false := by rw [bne_eq_false_iff_eq]; omega
    have hrs2 : (rootF Dg L).size ≤ 32 := by omega
    clear hrs
    by_cases hck : Checked (rootF Dg L) n i leaf ps
    · have HC := Lib.hid hck
      obtain ⟨t, hsh, hd⟩ := hck
      have HSH := Lib.hid hsh
      have HSO := Lib.hid (sound Dg Dg_size (by omega) HDS.out hsh hd)
      have hr1 := hsh.1.n1
      have hr2 := hsh.1.n2
      have hr3 := hsh.1.i1
      have hr4 := hsh.1.i2
      have hr5 : leaf.size ≤ 32 := by rw [hsh.1.leaf]; omega
      clear hsh hd
      by_cases hnl : n = L.length
      · subst hnl
        obtain ⟨I, rfl⟩ := Int.eq_ofNat_of_zero_le hr3
        have hIL : I < L.length := by omega
        have hlf1 : L[I].size = 32 := HDS.out _ (List.getElem_mem hIL)
        have hlf2 : L[I].size ≤ 32 := by omega
        have HLI : Hid (L[I]? = some L[I]) := Lib.hid (List.getElem?_eq_getElem hIL)
        obtain ⟨gb, go, rfl, hgb, hgc⟩ := HIN2.out (fun e => by rw [e] at hIL; simp at hIL)
        have HCL0 : Hid (∀ W, Below w2.heap.size w2 W → W.cell? ⟨gb, go + I, none⟩ = some (.string L[I])) := Lib.hid (fun W h => (h.cell (p := ⟨gb, go + I, none⟩) hgb).trans (hgc I hIL))
        clear hgc hgb hlf1
        by_cases hlq : L[I] = leaf
        · clear HSO
          rw [hlq] at HCL0
          clear HLI hlf2 hlq
          generalize rootF Dg L = R at *
          go_wp2_with fail
          refine (HCK.out _ HB2.out).mono ?_
          rintro e w3 ⟨b, rfl, hb, hb3⟩
          obtain rfl : b = true := hb.2 HC.out
          have hcell := HCL0.out w3 hb3
          have HB3 := Lib.hid (below_trans HB2.out hb3)
          clear hb hb3
          go_wp2
          go_ret
          exact ⟨rfl, HB3.out⟩
        · have HMT : Hid (Meet Dg (rootT Dg L) (shownT Dg L.length I leaf ps t)) := Lib.hid (by
            rcases HSO.out with ⟨-, -, h, -⟩ | h
            · rw [Int.toNat_natCast, HLI.out] at h
              exact absurd (Option.some.inj h) hlq
            · exact h)
          have hne := neq_lists (fun e : leaf = L[I] => hlq e.symm)
          clear HSO hlq HLI
          generalize L[I] = y at *
          go_wp2_with fail
          refine (HCK.out _ HB2.out).mono ?_
          rintro e w3 ⟨b, rfl, hb, hb3⟩
          obtain rfl : b = true := hb.2 HC.out
          have hcell := HCL0.out w3 hb3
          have HBW := Lib.hid (below_trans HB2.out hb3)
          have HINL : Hid (InS w3 (some ⟨gb, go, none⟩) L) := Lib.hid (HIN2.out.below hb3)
          have HINQ : Hid (InS w3 qa ps) := Lib.hid (HINP.out.below HBW.out)
          clear hb hb3
          have HRR : Hid (Calls Tryd.prog 14 #[.pointer (some ⟨w3.heap.size, 0, none⟩), .slice (some ⟨gb, go, none⟩) L.length pc] ((w3.alloc (.cells #[.slice none 0 0] 31)).alloc (.cells #[.slice none 0 0] 31)) fun e w' => e = .returned (.string (rootF Dg L)) ∧ MadeAt w' w3.heap.size (rootT Dg L) ∧ Mv w3.heap.size (two w3) w') := Lib.hid (by
            have := rroot_any (two w3) w3.heap.size [] (some ⟨gb, go, none⟩) pc L (two_made1 w3) (by simp) (by omega) HDS.out (two_ins HINL.out)
            rwa [List.nil_append] at this)
          go_wp2_with fail
          refine HRR.out.mono ?_
          rintro e w4 ⟨rfl, hm4, hv4⟩
          have HAF := Lib.hid (aft_root hv4)
          have HM4 := Lib.hid hm4
          clear hm4 hv4 HRR
          have HSW := Lib.hid (shown_any w4 (w3.heap.size + 1) [] L.length I leaf qa qc ps HAF.out.made2 (by simp) (by omega) (by omega) (by omega) (by omega) (by omega) (by omega) HXQ.out (HAF.out.ins HINQ.out))
          skip
          go_wp2_with fail
          refine HSW.out.mono ?_
          rintro e w5 ⟨ok, r, rfl, -, hrr, hv5⟩
          have hm5 := (hrr _ HSH.out).2
          rw [List.nil_append] at hm5
          obtain ⟨hm51, hb5⟩ := HAF.out.shown HM4.out hv5
          obtain ⟨ra, rc, hcA, hiA⟩ := hm51.read
          obtain ⟨sa, sc, hcB, hiB⟩ := hm5.read
          have HB5 := Lib.hid (below_trans HBW.out hb5)
          have HCL := Lib.hid (collide_any w5.drew ra sa rc sc _ _ (by have := (rootT_size HDS.out).1; omega) (by have := (shownT_size HSH.out).1; omega) (rootT_size HDS.out).2 (shownT_size HSH.out).2 (hiA.same (Same.refl w5).drew) (hiB.same (Same.refl w5).drew))
          have HBD : Hid (Below w.heap.size w w5.drew) := Lib.hid (HB5.out.trans (Same.refl w5).drew.below)
          clear hrr hv5 hm5 hm51 hb5 hiA hiB HSW HAF HM4
          generalize rootT Dg L = TA at *
          generalize shownT Dg L.length I leaf ps t = TB at *
          go_wp2
          go_still_tail 8, (by kernel_rfl)
          change wpList _ _ _ _ _ w5.drew
          clear hcA hcB
          generalize w5.drew = w6 at *
          go_wp2_with fail
          refine HCL.out.mono ?_
          rintro e w7 ⟨rr, rfl, hr, hb7⟩
          obtain rfl : rr = true := hr HMT.out
          go_wp2
          go_ret
          exact ⟨rfl, below_trans HBD.out hb7⟩
      · have HMT : Hid (Meet Dg (rootT Dg L) (shownT Dg n i leaf ps t)) := Lib.hid (by
          rcases HSO.out with ⟨h, -⟩ | h
          · exact absurd h hnl
          · exact h)
        have hne : (n == (L.length : Int)) = false := by rw [beq_eq_false_iff_ne]; exact hnl
        clear HSO hnl
        go_wp2_with fail
        refine (HCK.out _ HB2.out).mono ?_
        rintro e w3 ⟨b, rfl, hb, hb3⟩
        obtain rfl : b = true := hb.2 HC.out
        have HBW := Lib.hid (below_trans HB2.out hb3)
        have HINL := Lib.hid (HIN2.out.below hb3)
        have HINQ : Hid (InS w3 qa ps) := Lib.hid (HINP.out.below HBW.out)
        clear hb hb3
        have HRR : Hid (Calls Tryd.prog 14 #[.pointer (some ⟨w3.heap.size, 0, none⟩), .slice pa L.length pc] ((w3.alloc (.cells #[.slice none 0 0] 31)).alloc (.cells #[.slice none 0 0] 31)) fun e w' => e = .returned (.string (rootF Dg L)) ∧ MadeAt w' w3.heap.size (rootT Dg L) ∧ Mv w3.heap.size (two w3) w') := Lib.hid (by
          have := rroot_any (two w3) w3.heap.size [] pa pc L (two_made1 w3) (by simp) (by omega) HDS.out (two_ins HINL.out)
          rwa [List.nil_append] at this)
        go_wp2_with fail
        refine HRR.out.mono ?_
        rintro e w4 ⟨rfl, hm4, hv4⟩
        have HAF := Lib.hid (aft_root hv4)
        have HM4 := Lib.hid hm4
        clear hm4 hv4 HRR
        have HSW := Lib.hid (shown_any w4 (w3.heap.size + 1) [] n i leaf qa qc ps HAF.out.made2 (by simp) (by omega) (by omega) (by omega) (by omega) (by omega) (by omega) HXQ.out (HAF.out.ins HINQ.out))
        skip
        go_wp2_with fail
        refine HSW.out.mono ?_
        rintro e w5 ⟨ok, r, rfl, -, hrr, hv5⟩
        have hm5 := (hrr _ HSH.out).2
        rw [List.nil_append] at hm5
        obtain ⟨hm51, hb5⟩ := HAF.out.shown HM4.out hv5
        obtain ⟨ra, rc, hcA, hiA⟩ := hm51.read
        obtain ⟨sa, sc, hcB, hiB⟩ := hm5.read
        have HB5 := Lib.hid (below_trans HBW.out hb5)
        have HCL := Lib.hid (collide_any w5.drew ra sa rc sc _ _ (by have := (rootT_size HDS.out).1; omega) (by have := (shownT_size HSH.out).1; omega) (rootT_size HDS.out).2 (shownT_size HSH.out).2 (hiA.same (Same.refl w5).drew) (hiB.same (Same.refl w5).drew))
        have HBD : Hid (Below w.heap.size w w5.drew) := Lib.hid (HB5.out.trans (Same.refl w5).drew.below)
        clear hrr hv5 hm5 hm51 hb5 hiA hiB HSW HAF HM4
        generalize rootT Dg L = TA at *
        generalize shownT Dg n i leaf ps t = TB at *
        go_wp2
        go_still_tail 8, (by kernel_rfl)
        change wpList _ _ _ _ _ w5.drew
        clear hcA hcB
        generalize w5.drew = w6 at *
        go_wp2_with fail
        refine HCL.out.mono ?_
        rintro e w7 ⟨rr, rfl, hr, hb7⟩
        obtain rfl : rr = true := hr HMT.out
        go_wp2
        go_ret
        exact ⟨rfl, below_trans HBD.out hb7⟩
    · have HC := Lib.hid hck
      clear hck
      generalize rootF Dg L = R at *
      go_wp2_with fail
      refine (HCK.out _ HB2.out).mono ?_
      rintro e w3 ⟨b, rfl, hb, hb3⟩
      obtain rfl : b = false := by
        cases b with
        | false => rfl
        | true => exact absurd (hb.1 rfl) HC.out
      have HB3 := Lib.hid (below_trans HB2.out hb3)
      clear hb hb3
      go_wp2
      go_ret
      exact ⟨rfl, HB3.out⟩
end Go.Proofs.YtnmhmemlgibedaaDoor
