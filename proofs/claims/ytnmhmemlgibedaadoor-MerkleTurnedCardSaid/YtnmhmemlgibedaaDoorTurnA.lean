/- MerkleTurned: a leaf with a bit turned. -/
import Derived.Test.YtnmhmemlgibedaaDoorTurnP
import Derived.Laws.EntriesVeiled
namespace Go.Proofs.YtnmhmemlgibedaaDoor
open Go.RowKit

set_option maxHeartbeats 12800000 in
set_option maxRecDepth 100000 in
theorem turned_leaf (w : World) (a : Option Addr) (cap : Nat) (xs : List BA) (i what bit : Int) (ht : Tab w) (hl : xs.length ≤ 9223372036854775807) (hx : ∀ x, x ∈ xs → x.size ≤ 140737488351232) (hIn : InS w a xs)
    (hi1 : -9223372036854775808 ≤ i) (hi2 : i ≤ 9223372036854775807) (hw1 : -9223372036854775808 ≤ what) (hw2 : what ≤ 9223372036854775807) (hb1 : -9223372036854775808 ≤ bit) (hb2 : bit ≤ 9223372036854775807) (hn0 : 0 < (digL xs).length) (hcase : (what.tmod 5 + 5) % 5 = 0) :
    Calls Tryd.prog 8 #[.slice a xs.length cap, .int .i64 i, .int .i64 what, .int .i64 bit] w fun e w' => e = .returned (.bool true) ∧ Below w.heap.size w w' := by
  have RB : Hid (Row (w.alloc (.cells #[.int .i64 bit] 3)) w.heap.size 3 [.int .i64 bit]) := Lib.hid (row_new w #[.int .i64 bit] 3)
  have HB0 : Hid (Below w.heap.size w (w.alloc (.cells #[.int .i64 bit] 3))) := Lib.hid (below1 _ _)
  have HDG := Lib.hid (digests_any (w.alloc (.cells #[.int .i64 bit] 3)) a cap xs hl hx (hIn.below (below1 _ _)))
  have HT0 : Hid (Tab (w.alloc (.cells #[.int .i64 bit] 3))) := Lib.hid (ht.below (below1 _ _))
  have HPOS : Hid (0 < w.heap.size) := Lib.hid ht.pos
  have hdl := digL_length xs
  have HDS := Lib.hid (digL_sized xs)
  clear hIn hx ht
  generalize digL xs = L at *
  have HRS : Hid ((rootF Dg L).size = 32) := Lib.hid (Dg_size _)
  go_enter Tryd.func8, Tryd.ntmps8
  go_wp2_with fail
  generalize w.alloc (.cells #[.int .i64 bit] 3) = w0 at *
  refine HDG.out.mono ?_
  rintro e w1 ⟨pa, pc, rfl, hle, hin, hb1'⟩
  have HIN := Lib.hid hin
  have HB1 := Lib.hid (HB0.out.trans (hb1'.mono HB0.out.size))
  have RB1 := Lib.hid (RB.out.below hb1')
  have HRT := Lib.hid (root_yes w1 pa pc L (HT0.out.below hb1') (by omega) HDS.out hle hin)
  have HT1 := Lib.hid (HT0.out.below hb1')
  clear hin hb1' RB HB0 HT0
  go_wp2_with fail
  refine HRT.out.mono ?_
  rintro e w2 ⟨rfl, hb2'⟩
  have HB2 := Lib.hid (below_trans HB1.out hb2')
  have RB2 := Lib.hid (RB1.out.below hb2')
  have HIN2 := Lib.hid (HIN.out.below hb2')
  have HT2 := Lib.hid (HT1.out.below hb2')
  clear hb2' RB1 HB1 HT1 HIN
  have hrs := HRS.out
  have hrb : (((rootF Dg L).size : Int) != 32) = false := by rw [bne_eq_false_iff_eq]; omega
  have hrs2 : (rootF Dg L).size ≤ 32 := by omega
  have hn0b : ((L.length : Int) == 0) = false := by rw [beq_eq_false_iff_ne]; omega
  have hn0c : ¬ L.length = 0 := by omega
  clear hrs
  have hcb : w2.cell? ⟨w.heap.size, 0, none⟩ = some (.int .i64 bit) := RB2.out.cell rfl
  have hfb : w2.frozen? ⟨w.heap.size, 0, none⟩ = false := RB2.out.thaw 0
  obtain ⟨I, hI, hIL⟩ := turn_mod i L.length hn0 (by omega)
  obtain ⟨b8, hb8, hb256⟩ := turn_mod bit 256 (by decide) (by decide)
  rw [show (((256 : Nat) : Int)) = (256 : Int) from rfl] at hb8
  go_wp2
  go_still_tail 12, (by kernel_rfl)
  change wpList _ _ _ _ _ w2.drew
  have hcb2 : w2.drew.cell? ⟨w.heap.size, 0, none⟩ = some (.int .i64 bit) := ((Same.refl w2).drew.cell _).trans hcb
  have hfb2 : w2.drew.frozen? ⟨w.heap.size, 0, none⟩ = false := ((Same.refl w2).drew.thaw _).trans hfb
  have RB3 : Hid (Row w2.drew w.heap.size 3 [.int .i64 bit]) := Lib.hid ((Same.refl w2).drew.row RB2.out)
  have HB3 : Hid (Below w.heap.size w w2.drew) := Lib.hid (HB2.out.trans (Same.refl w2).drew.below)
  have HIN3 := Lib.hid (HIN2.out.same (Same.refl w2).drew)
  have HT3 : Hid (Tab w2.drew) := Lib.hid (HT2.out.keep rfl)
  clear hcb hfb RB2 HB2 HIN2 HT2 hI hb8
  generalize w2.drew = w3 at *
  have hbut : But w.heap.size w3 (w3.setCell ⟨w.heap.size, 0, none⟩ (.int .i64 (b8 : Int))) := (But.refl _ _).set 0 _
  have RB4 : Hid (Row (w3.setCell ⟨w.heap.size, 0, none⟩ (.int .i64 (b8 : Int))) w.heap.size 3 [.int .i64 (b8 : Int)]) := Lib.hid (RB3.out.set 0 _)
  have HB4 : Hid (Below w.heap.size w (w3.setCell ⟨w.heap.size, 0, none⟩ (.int .i64 (b8 : Int)))) := Lib.hid (HB3.out.trans (hbut.below (Nat.le_refl _)))
  have HIN4 : Hid (InS (w3.setCell ⟨w.heap.size, 0, none⟩ (.int .i64 (b8 : Int))) pa L) := Lib.hid (HIN3.out.box RB3.out hbut)
  have HT4 : Hid (Tab (w3.setCell ⟨w.heap.size, 0, none⟩ (.int .i64 (b8 : Int)))) := Lib.hid (HT3.out.keep (hbut.block 0 (by have := HPOS.out; omega)))
  have HPV := Lib.hid (prove_yes _ pa pc L I HT4.out (by omega) hIL hle HDS.out HIN4.out)
  clear hbut RB3 HB3 HIN3 HT3
  go_wp2_with fail
  generalize w3.setCell ⟨w.heap.size, 0, none⟩ (.int .i64 (b8 : Int)) = w4 at *
  refine HPV.out.mono ?_
  rintro e w5 ⟨qa, qc, rfl, hqle, hqc, hqin, hb5⟩
  have RB5 := Lib.hid (RB4.out.below hb5)
  have HB5 := Lib.hid (below_trans HB4.out hb5)
  have HIN5 := Lib.hid (HIN4.out.below hb5)
  have HT5 := Lib.hid (HT4.out.below hb5)
  have HQ5 := Lib.hid hqin
  clear hqin hb5 RB4 HB4 HIN4 HT4 HPV hcb2 hfb2
  clear HRT HDG
  obtain ⟨gb, go, rfl, hgb, hgc⟩ := HIN5.out (fun e => by rw [e] at hIL; simp at hIL)
  have hcl5 : w5.cell? ⟨gb, go + I, none⟩ = some (.string L[I]) := hgc I hIL
  have hIi : (I : Int) < (L.length : Int) := by omega
  clear hgc
  have hX := tmod_bounds what 5 (by decide)
  rw [show (((5 : Nat) : Int)) = (5 : Int) from rfl] at hX
  obtain ⟨X, hXe⟩ : ∃ X, what.tmod 5 = X := ⟨_, rfl⟩
  rw [hXe] at hX hcase
  obtain ⟨hX1, hX2⟩ := hX
  have hXw : IntKind.i64.wrap (X + 5) = X + 5 := IntWalk.i64_in _ (by omega)
  have hX0 : 0 ≤ X + 5 := by omega
  go_wp2
  go_quiet (fail)
  have S6 : Same w5 (w5.drewN nq) := (Same.refl w5).drewN nq
  have RB6 := Lib.hid (S6.row RB5.out)
  have HB6 : Hid (Below w.heap.size w (w5.drewN nq)) := Lib.hid (below_drewN HB5.out nq)
  have HIN6 := Lib.hid (HIN5.out.same S6)
  have HT6 : Hid (Tab (w5.drewN nq)) := Lib.hid (HT5.out.keep rfl)
  have HQ6 := Lib.hid (HQ5.out.same S6)
  have hsz6 : gb < (w5.drewN nq).heap.size := hgb
  clear S6 RB5 HB5 HIN5 HT5 HQ5 hcl5 hgb
  generalize w5.drewN nq = w6 at *
  have HLI : Hid (L[I]? = some L[I]) := Lib.hid (List.getElem?_eq_getElem hIL)
  have hxs : L[I].size = 32 := HDS.out _ (List.getElem_mem hIL)
  have hxs2 : L[I].size ≤ 32 := by omega
  have HPS := Lib.hid (proof_sized Dg Dg_size L I HDS.out)
  have hPl : (proofF Dg L I).length ≤ 40 := by have := proof_len L I; omega
  generalize hP : proofF Dg L I = P at *
  have HPF := Lib.hid hP
  clear hP
  have HXQ : Hid (∀ x, x ∈ P → x.size ≤ 9223372036854775807) := Lib.hid (fun x hx => by rw [HPS.out x hx]; omega)
  have HXS := Lib.hid hxs
  clear hxs
  generalize L[I] = x at *
  have hcb6 : w6.cell? ⟨w.heap.size, 0, none⟩ = some (.int .i64 (b8 : Int)) := RB6.out.cell rfl
  have hwB : w.heap.size < w6.heap.size := RB6.out.lt
  go_wp2_with fail
  refine (turn_any w6 w.heap.size b8 x hb256 HXS.out hwB hcb6).mono ?_
  rintro e w7 ⟨x2, rfl, hs2, hne, hb7⟩
  have HNE := Lib.hid hne
  have hs3 : x2.size ≤ 32 := by omega
  have HB7 := Lib.hid (below_trans HB6.out hb7)
  have HIN7 := Lib.hid (HIN6.out.below hb7)
  have HT7 := Lib.hid (HT6.out.below hb7)
  have HQ7 := Lib.hid (HQ6.out.below hb7)
  clear hne hs2 hb7 HB6 HIN6 HT6 HQ6 RB6 hcb6 hsz6 hwB
  have HCK := Lib.hid (check_any w7 (rootF Dg L) (L.length) (I) x2 qa qc P HT7.out (by omega) (by omega) (by omega) (by omega) (by omega) (by omega) hqle hqc HXQ.out HQ7.out)
  by_cases hck : Checked (rootF Dg L) (L.length) (I) x2 P
  · have HC := Lib.hid hck
    obtain ⟨t, hsh, hd⟩ := hck
    have HSH := Lib.hid hsh
    have HMT : Hid (Meet Dg (rootT Dg L) (shownT Dg (L.length) (I) x2 P t)) := Lib.hid (by
      rcases sound Dg Dg_size (by omega) HDS.out hsh hd with ⟨s1, s2, s3, s4⟩ | h
      · rw [Int.toNat_natCast, HLI.out] at s3
        exact absurd (Option.some.inj s3).symm HNE.out
      · exact h)
    clear hsh hd
    go_wp2_with fail
    refine HCK.out.mono ?_
    rintro e w8 ⟨b, rfl, hb, hbt⟩
    obtain rfl : b = true := hb.2 HC.out
    have HBW := Lib.hid (below_trans HB7.out hbt)
    have HINL := Lib.hid (HIN7.out.below hbt)
    have HINQ := Lib.hid (HQ7.out.below hbt)
    clear hb hbt HCK
    have HRR : Hid (Calls Tryd.prog 14 #[.pointer (some ⟨w8.heap.size, 0, none⟩), .slice (some ⟨gb, go, none⟩) L.length pc] ((w8.alloc (.cells #[.slice none 0 0] 31)).alloc (.cells #[.slice none 0 0] 31)) fun e w' => e = .returned (.string (rootF Dg L)) ∧ MadeAt w' w8.heap.size (rootT Dg L) ∧ Mv w8.heap.size (two w8) w') := Lib.hid (by
      have := rroot_any (two w8) w8.heap.size [] (some ⟨gb, go, none⟩) pc L (two_made1 w8) (by simp) (by omega) HDS.out (two_ins HINL.out)
      rwa [List.nil_append] at this)
    go_wp2_with fail
    refine HRR.out.mono ?_
    rintro e w4 ⟨rfl, hm4, hv4⟩
    have HAF := Lib.hid (aft_root hv4)
    have HM4 := Lib.hid hm4
    clear hm4 hv4 HRR
    have HSW := Lib.hid (shown_any w4 (w8.heap.size + 1) [] (L.length) (I) x2 qa qc P HAF.out.made2 (by simp) (by omega) (by omega) (by omega) (by omega) (by omega) (by omega) HXQ.out (HAF.out.ins HINQ.out))
    go_wp2_with fail
    refine HSW.out.mono ?_
    rintro e w5 ⟨ok, r, rfl, -, hrr, hv5⟩
    have hm5 := (hrr _ HSH.out).2
    rw [List.nil_append] at hm5
    obtain ⟨hm51, hb5⟩ := HAF.out.shown HM4.out hv5
    obtain ⟨ra, rc, hcA, hiA⟩ := hm51.read
    obtain ⟨sa, sc, hcB, hiB⟩ := hm5.read
    have HB5 := Lib.hid (below_trans HBW.out hb5)
    have HCL := Lib.hid (collide_any w5.drew ra sa rc sc _ _ (by have := (rootT_size HDS.out).1; omega) (by have := (shownT_size HSH.out).1; omega) (rootT_size HDS.out).2 (shownT_size HSH.out).2 (hiA.same (Same.refl w5).drew) (hiB.same (Same.refl w5).drew))
    have HBD : Hid (Below w.heap.size w w5.drew) := Lib.hid (HB5.out.trans (Same.refl w5).drew.below)
    clear hrr hv5 hm5 hm51 hb5 hiA hiB HSW HAF HM4
    generalize rootT Dg L = TA at *
    generalize shownT Dg (L.length) (I) x2 P t = TB at *
    go_wp2
    go_still_tail 8, (by kernel_rfl)
    change wpList _ _ _ _ _ w5.drew
    clear hcA hcB
    generalize w5.drew = w6 at *
    go_wp2_with fail
    refine HCL.out.mono ?_
    rintro e w7 ⟨rr, rfl, hr, hb7⟩
    obtain rfl : rr = true := hr HMT.out
    go_wp2
    go_ret
    exact ⟨rfl, below_trans HBD.out hb7⟩
  · have HC := Lib.hid hck
    clear hck
    go_wp2_with fail
    refine HCK.out.mono ?_
    rintro e w8 ⟨b, rfl, hb, hbt⟩
    obtain rfl : b = false := by
      cases b with
      | false => rfl
      | true => exact absurd (hb.1 rfl) HC.out
    have HBW := Lib.hid (below_trans HB7.out hbt)
    clear hb hbt
    go_wp2
    go_ret
    exact ⟨rfl, HBW.out⟩
end Go.Proofs.YtnmhmemlgibedaaDoor
