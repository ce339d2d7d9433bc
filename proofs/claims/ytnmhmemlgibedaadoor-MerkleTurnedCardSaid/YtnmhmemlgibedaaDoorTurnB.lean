/- MerkleTurned: a proof with a bit turned. -/
import Derived.Test.YtnmhmemlgibedaaDoorTurnP
import Derived.Laws.EntriesVeiled
namespace Go.Proofs.YtnmhmemlgibedaaDoor
open Go.RowKit

/-- Behind the copy of a proof. -/
structure CopyI (w : World) (a : Option Addr) (L P : List BA) (b8 g cap : Nat) (w7 : World) : Prop where
  box : Row w7 w.heap.size 3 [.int .i64 (b8 : Int)]
  below : Below w.heap.size w w7
  ins : InS w7 a L
  apart : ∀ b off, a = some ⟨b, off, none⟩ → b < g
  tab : Tab w7
  row : w7.ownsRow w.heap.size 9 1 (.slice (some ⟨g, 0, none⟩) P.length cap) P.length (strs P)
  gt : w.heap.size < g
  pos : 0 < w.heap.size
theorem owns_at {w : World} {base g cap : Nat} {P : List BA} (h : w.ownsRow base 9 1 (.slice (some ⟨g, 0, none⟩) P.length cap) P.length (strs P)) (J : Nat) (hJ : J < P.length) : w.cell? ⟨g, J, none⟩ = some (.string P[J]) ∧ w.frozen? ⟨g, J, none⟩ = false := by
  rcases h.2 with ⟨h0, -⟩ | ⟨g', cap', cur, hv, -, hh, -, -, -, ht⟩
  · cases h0
  · injection hv with h1
    injection h1 with h1
    injection h1 with h1
    subst h1
    have h5 : (cur.toList.take (P.length * 1))[J]? = (strs P)[J]? := by rw [ht]
    rw [List.getElem?_take, if_pos (by omega), Array.getElem?_toList] at h5
    refine ⟨?_, by simp [World.frozen?, hh]⟩
    simp only [World.cell?, hh, h5]
    simp [List.getElem?_eq_getElem hJ]
theorem turn_copy {w w6 w7 : World} {b8 : Nat} {gb go : Nat} {L P : List BA} {g cap : Nat} (hbox : Row w6 w.heap.size 3 [.int .i64 (b8 : Int)]) (hb : Below w.heap.size w w6) (hin : InS w6 (some ⟨gb, go, none⟩) L) (ht : Tab w6) (hpos : 0 < w.heap.size)
    (hgb : gb < w6.heap.size) (hown : w7.ownsRow w6.heap.size 9 1 (.slice (some ⟨g, 0, none⟩) (0 + P.length) cap) (0 + P.length) ([] ++ strs P)) (hgrow : (w6.alloc (.cells #[] 9)).grownBy w7 (Value.slice (some ⟨w6.heap.size, 0, none⟩) 0 0).ownBlock) (J : Nat) (hJ : J < P.length) :
    w7.cell? ⟨w.heap.size, 0, none⟩ = some (.int .i64 (b8 : Int)) ∧ w7.cell? ⟨g, J, none⟩ = some (.string P[J]) ∧ Hid (CopyI w (some ⟨gb, go, none⟩) L P b8 g cap w7) := by
  rw [Nat.zero_add, List.nil_append] at hown
  have hk : ∀ k, k < w6.heap.size → w7.heap[k]? = w6.heap[k]? := fun k hk => by
    rw [hgrow.block k (by simp; omega) (fun e => by have : k = w6.heap.size := Option.some.inj e; omega)]
    exact Below.heap_alloc _ _ _ hk
  have hB : w.heap.size < w6.heap.size := hbox.lt
  have hR := hbox.keep (hk _ hB)
  have hg := (hown.lt g rfl).1
  have hsz : w6.heap.size ≤ w7.heap.size := by have := hgrow.size; simp at this; omega
  refine ⟨hR.cell rfl, (owns_at hown J hJ).1, Lib.hid ⟨hR, ⟨hgrow.os.trans hb.os, hgrow.tape.trans hb.tape, hgrow.output.trans hb.output, by omega, fun k h => (hk k (by omega)).trans (hb.block k h)⟩, fun hx => ?_, fun b off e => by cases e; omega, ht.keep (hk 0 (by omega)), ?_, by omega, hpos⟩⟩
  · obtain ⟨b, off, ha, hl, hc⟩ := hin hx
    exact ⟨b, off, ha, by omega, fun j hj => (World.cell?_of_block (a := ⟨b, off + j, none⟩) (hk b hl)).trans (hc j hj)⟩
  · refine ⟨hown.1, ?_⟩
    rcases hown.2 with h0 | ⟨g', c', cur, hv, hbs, hr⟩
    · exact .inl h0
    · exact .inr ⟨g', c', cur, hv, by omega, hr⟩
theorem CopyI.call {w w7 w8 : World} {a : Option Addr} {L P : List BA} {b8 g cap : Nat} (h : CopyI w a L P b8 g cap w7) (hb : Below w7.heap.size w7 w8) : CopyI w a L P b8 g cap w8 :=
  ⟨h.box.below hb, below_trans h.below hb, h.ins.below hb, h.apart, h.tab.below hb, ownsRow_below h.row hb, h.gt, h.pos⟩
theorem CopyI.set {w w8 : World} {a : Option Addr} {L P : List BA} {b8 g cap : Nat} (h : CopyI w a L P b8 g cap w8) (J : Nat) (hJ : J < P.length) (y : BA) :
    InS (w8.setCell ⟨g, J, none⟩ (.string y)) (some ⟨g, 0, none⟩) (P.set J y) ∧ InS (w8.setCell ⟨g, J, none⟩ (.string y)) a L ∧ Below w.heap.size w (w8.setCell ⟨g, J, none⟩ (.string y)) ∧ Tab (w8.setCell ⟨g, J, none⟩ (.string y)) := by
  have hbut : But g w8 (w8.setCell ⟨g, J, none⟩ (.string y)) := (But.refl g w8).set J _
  have hgt := h.gt
  have hlt := (h.row.lt g rfl).2
  refine ⟨fun _ => ⟨g, 0, rfl, by rw [hbut.size]; exact hlt, fun k hk => ?_⟩, fun hx => ?_, h.below.trans (hbut.below (by omega)), h.tab.keep (hbut.block 0 (by omega))⟩
  · rw [Nat.zero_add]
    rw [List.length_set] at hk
    by_cases e : J = k
    · subst e
      rw [World.cell?_setCell_same' _ _ _ (by rw [(owns_at h.row J hJ).1]; rfl)]
      simp
    · rw [World.cell?_setCell_other _ _ _ _ (fun h' => e (by injection h')), (owns_at h.row k hk).1]
      simp [List.getElem_set_ne e]
  · obtain ⟨b, off, ha, hl, hc⟩ := h.ins hx
    have := h.apart b off ha
    exact ⟨b, off, ha, by rw [hbut.size]; exact hl, fun j hj => (World.cell?_of_block (a := ⟨b, off + j, none⟩) (hbut.block b (by omega))).trans (hc j hj)⟩

set_option maxHeartbeats 12800000 in
set_option maxRecDepth 100000 in
theorem turned_proof (w : World) (a : Option Addr) (cap : Nat) (xs : List BA) (i what bit : Int) (ht : Tab w) (hl : xs.length ≤ 9223372036854775807) (hx : ∀ x, x ∈ xs → x.size ≤ 140737488351232) (hIn : InS w a xs)
    (hi1 : -9223372036854775808 ≤ i) (hi2 : i ≤ 9223372036854775807) (hw1 : -9223372036854775808 ≤ what) (hw2 : what ≤ 9223372036854775807) (hb1 : -9223372036854775808 ≤ bit) (hb2 : bit ≤ 9223372036854775807) (hn0 : 0 < (digL xs).length) (hcase : (what.tmod 5 + 5) % 5 = 1) :
    Calls Tryd.prog 8 #[.slice a xs.length cap, .int .i64 i, .int .i64 what, .int .i64 bit] w fun e w' => e = .returned (.bool true) ∧ Below w.heap.size w w' := by
  have RB : Hid (Row (w.alloc (.cells #[.int .i64 bit] 3)) w.heap.size 3 [.int .i64 bit]) := Lib.hid (row_new w #[.int .i64 bit] 3)
  have HB0 : Hid (Below w.heap.size w (w.alloc (.cells #[.int .i64 bit] 3))) := Lib.hid (below1 _ _)
  have HDG := Lib.hid (digests_any (w.alloc (.cells #[.int .i64 bit] 3)) a cap xs hl hx (hIn.below (below1 _ _)))
  have HT0 : Hid (Tab (w.alloc (.cells #[.int .i64 bit] 3))) := Lib.hid (ht.below (below1 _ _))
  have HPOS : Hid (0 < w.heap.size) := Lib.hid ht.pos
  have hdl := digL_length xs
  have HDS := Lib.hid (digL_sized xs)
  clear hIn hx ht
  generalize digL xs = L at *
  have HRS : Hid ((rootF Dg L).size = 32) := Lib.hid (Dg_size _)
  go_enter Tryd.func8, Tryd.ntmps8
  go_wp2_with fail
  generalize w.alloc (.cells #[.int .i64 bit] 3) = w0 at *
  refine HDG.out.mono ?_
  rintro e w1 ⟨pa, pc, rfl, hle, hin, hb1'⟩
  have HIN := Lib.hid hin
  have HB1 := Lib.hid (HB0.out.trans (hb1'.mono HB0.out.size))
  have RB1 := Lib.hid (RB.out.below hb1')
  have HRT := Lib.hid (root_yes w1 pa pc L (HT0.out.below hb1') (by omega) HDS.out hle hin)
  have HT1 := Lib.hid (HT0.out.below hb1')
  clear hin hb1' RB HB0 HT0
  go_wp2_with fail
  refine HRT.out.mono ?_
  rintro e w2 ⟨rfl, hb2'⟩
  have HB2 := Lib.hid (below_trans HB1.out hb2')
  have RB2 := Lib.hid (RB1.out.below hb2')
  have HIN2 := Lib.hid (HIN.out.below hb2')
  have HT2 := Lib.hid (HT1.out.below hb2')
  clear hb2' RB1 HB1 HT1 HIN
  have hrs := HRS.out
  have hrb : (((rootF Dg L).size : Int) != 32) = false := by rw [bne_eq_false_iff_eq]; omega
  have hrs2 : (rootF Dg L).size ≤ 32 := by omega
  have hn0b : ((L.length : Int) == 0) = false := by rw [beq_eq_false_iff_ne]; omega
  have hn0c : ¬ L.length = 0 := by omega
  clear hrs
  have hcb : w2.cell? ⟨w.heap.size, 0, none⟩ = some (.int .i64 bit) := RB2.out.cell rfl
  have hfb : w2.frozen? ⟨w.heap.size, 0, none⟩ = false := RB2.out.thaw 0
  obtain ⟨I, hI, hIL⟩ := turn_mod i L.length hn0 (by omega)
  obtain ⟨b8, hb8, hb256⟩ := turn_mod bit 256 (by decide) (by decide)
  rw [show (((256 : Nat) : Int)) = (256 : Int) from rfl] at hb8
  go_wp2
  go_still_tail 12, (by kernel_rfl)
  change wpList _ _ _ _ _ w2.drew
  have hcb2 : w2.drew.cell? ⟨w.heap.size, 0, none⟩ = some (.int .i64 bit) := ((Same.refl w2).drew.cell _).trans hcb
  have hfb2 : w2.drew.frozen? ⟨w.heap.size, 0, none⟩ = false := ((Same.refl w2).drew.thaw _).trans hfb
  have RB3 : Hid (Row w2.drew w.heap.size 3 [.int .i64 bit]) := Lib.hid ((Same.refl w2).drew.row RB2.out)
  have HB3 : Hid (Below w.heap.size w w2.drew) := Lib.hid (HB2.out.trans (Same.refl w2).drew.below)
  have HIN3 := Lib.hid (HIN2.out.same (Same.refl w2).drew)
  have HT3 : Hid (Tab w2.drew) := Lib.hid (HT2.out.keep rfl)
  clear hcb hfb RB2 HB2 HIN2 HT2 hI hb8
  generalize w2.drew = w3 at *
  have hbut : But w.heap.size w3 (w3.setCell ⟨w.heap.size, 0, none⟩ (.int .i64 (b8 : Int))) := (But.refl _ _).set 0 _
  have RB4 : Hid (Row (w3.setCell ⟨w.heap.size, 0, none⟩ (.int .i64 (b8 : Int))) w.heap.size 3 [.int .i64 (b8 : Int)]) := Lib.hid (RB3.out.set 0 _)
  have HB4 : Hid (Below w.heap.size w (w3.setCell ⟨w.heap.size, 0, none⟩ (.int .i64 (b8 : Int)))) := Lib.hid (HB3.out.trans (hbut.below (Nat.le_refl _)))
  have HIN4 : Hid (InS (w3.setCell ⟨w.heap.size, 0, none⟩ (.int .i64 (b8 : Int))) pa L) := Lib.hid (HIN3.out.box RB3.out hbut)
  have HT4 : Hid (Tab (w3.setCell ⟨w.heap.size, 0, none⟩ (.int .i64 (b8 : Int)))) := Lib.hid (HT3.out.keep (hbut.block 0 (by have := HPOS.out; omega)))
  have HPV := Lib.hid (prove_yes _ pa pc L I HT4.out (by omega) hIL hle HDS.out HIN4.out)
  clear hbut RB3 HB3 HIN3 HT3
  go_wp2_with fail
  generalize w3.setCell ⟨w.heap.size, 0, none⟩ (.int .i64 (b8 : Int)) = w4 at *
  refine HPV.out.mono ?_
  rintro e w5 ⟨qa, qc, rfl, hqle, hqc, hqin, hb5⟩
  have RB5 := Lib.hid (RB4.out.below hb5)
  have HB5 := Lib.hid (below_trans HB4.out hb5)
  have HIN5 := Lib.hid (HIN4.out.below hb5)
  have HT5 := Lib.hid (HT4.out.below hb5)
  have HQ5 := Lib.hid hqin
  clear hqin hb5 RB4 HB4 HIN4 HT4 HPV hcb2 hfb2
  clear HRT HDG
  obtain ⟨gb, go, rfl, hgb, hgc⟩ := HIN5.out (fun e => by rw [e] at hIL; simp at hIL)
  have hcl5 : w5.cell? ⟨gb, go + I, none⟩ = some (.string L[I]) := hgc I hIL
  have hIi : (I : Int) < (L.length : Int) := by omega
  clear hgc
  have hX := tmod_bounds what 5 (by decide)
  rw [show (((5 : Nat) : Int)) = (5 : Int) from rfl] at hX
  obtain ⟨X, hXe⟩ : ∃ X, what.tmod 5 = X := ⟨_, rfl⟩
  rw [hXe] at hX hcase
  obtain ⟨hX1, hX2⟩ := hX
  have hXw : IntKind.i64.wrap (X + 5) = X + 5 := IntWalk.i64_in _ (by omega)
  have hX0 : 0 ≤ X + 5 := by omega
  go_wp2
  go_quiet (fail)
  have S6 : Same w5 (w5.drewN nq) := (Same.refl w5).drewN nq
  have RB6 := Lib.hid (S6.row RB5.out)
  have HB6 : Hid (Below w.heap.size w (w5.drewN nq)) := Lib.hid (below_drewN HB5.out nq)
  have HIN6 := Lib.hid (HIN5.out.same S6)
  have HT6 : Hid (Tab (w5.drewN nq)) := Lib.hid (HT5.out.keep rfl)
  have HQ6 := Lib.hid (HQ5.out.same S6)
  have hsz6 : gb < (w5.drewN nq).heap.size := hgb
  clear S6 RB5 HB5 HIN5 HT5 HQ5 hcl5 hgb
  generalize w5.drewN nq = w6 at *
  have HLI : Hid (L[I]? = some L[I]) := Lib.hid (List.getElem?_eq_getElem hIL)
  have hxs : L[I].size = 32 := HDS.out _ (List.getElem_mem hIL)
  have hxs2 : L[I].size ≤ 32 := by omega
  have HPS := Lib.hid (proof_sized Dg Dg_size L I HDS.out)
  have hPl : (proofF Dg L I).length ≤ 40 := by have := proof_len L I; omega
  generalize hP : proofF Dg L I = P at *
  have HPF := Lib.hid hP
  clear hP
  have HXQ : Hid (∀ x, x ∈ P → x.size ≤ 9223372036854775807) := Lib.hid (fun x hx => by rw [HPS.out x hx]; omega)
  have HXS := Lib.hid hxs
  clear hxs
  generalize L[I] = x at *
  have hcb6 : w6.cell? ⟨w.heap.size, 0, none⟩ = some (.int .i64 (b8 : Int)) := RB6.out.cell rfl
  have hwB : w.heap.size < w6.heap.size := RB6.out.lt
  have hPi : P.length ≤ 9223372036854775807 := by omega
  by_cases hP0 : P.length = 0
  · obtain rfl : P = [] := List.length_eq_zero_iff.1 hP0
    go_wp2
    go_ret
    exact ⟨rfl, HB6.out⟩
  · obtain ⟨i0, hi0, hz0, hz1, hz2⟩ := info_parts info9
    obtain ⟨qb, qo, rfl, hqb, hqc2⟩ := HQ6.out (fun e => hP0 (by rw [e]; rfl))
    have hnews : ∀ j u, (strs P)[j]? = some u → (w6.alloc (.cells #[] 9)).cell? ((⟨qb, qo, none⟩ : Addr).add j) = some u := fun j u hu => by
      have hj : j < P.length := by have := (List.getElem?_eq_some_iff.1 hu).1; simpa using this
      rw [Addr.add_mid, (below1 w6 (.cells #[] 9)).cell (p := ⟨qb, qo + j, none⟩) hqb, hqc2 j hj, ← hu]
      simp [List.getElem?_eq_getElem hj]
    have hown0 : (w6.alloc (.cells #[] 9)).ownsRow w6.heap.size 9 1 (.slice (some ⟨w6.heap.size, 0, none⟩) 0 0) 0 [] := World.ownsRow_made w6 #[] 0 (Nat.le_refl _) (by unfold maxLen; omega) rfl
    have hone : ∀ u ∈ strs P, u.oneCell' = true := fun u hu => by
      obtain ⟨z, -, rfl⟩ := List.mem_map.1 hu
      rfl
    obtain ⟨J, hJe, hJP⟩ : ∃ J : Nat, (b8 : Int) % (P.length : Int) = (J : Int) ∧ J < P.length := by
      have h3 := Int.emod_nonneg (b8 : Int) (show (P.length : Int) ≠ 0 by omega)
      have h4 := Int.emod_lt_of_pos (b8 : Int) (show 0 < (P.length : Int) by omega)
      exact ⟨((b8 : Int) % (P.length : Int)).toNat, by omega, by omega⟩
    have hJi : (J : Int) < (P.length : Int) := by omega
    have hP0b : ((P.length : Int) == 0) = false := by rw [beq_eq_false_iff_ne]; omega
    go_wp2_with (at_builtin; refine wpList_append_lies _ rfl _ _ 22 rfl w6.heap.size 9 i0 (.string ByteArray.empty) 1 16 Tryd.underlying22 hi0 hz0 hz1 hz2 rfl (by decide) _ 0 [] rfl hown0 ⟨qb, qo, none⟩ P.length qc (strs P) rfl (by simp) hnews hone (by omega) (by unfold maxLen; omega) (by omega) (by simp) (w6.heap.size + 1) (by simp) ?_; intro g cap' w7 hown' hgrow hg hglt; obtain ⟨hcb7, hcJ, HPK⟩ := turn_copy RB6.out HB6.out HIN6.out HT6.out HPOS.out hsz6 hown' hgrow J hJP; clear hown' hgrow hg hglt)
    have HCAP9 : Hid (P.length ≤ cap' ∧ cap' ≤ 9223372036854775807) := Lib.hid ⟨by
      rcases HPK.out.row.2 with ⟨h0, -⟩ | ⟨_, _, _, hv, -, -, hc, -⟩
      · cases h0
      · injection hv with _ _ h3
        omega, owns_cap HPK.out.row⟩
    have HPJ : Hid (P[J]? = some P[J]) := Lib.hid (List.getElem?_eq_getElem hJP)
    have hpj : P[J].size = 32 := HPS.out _ (List.getElem_mem hJP)
    refine (turn_any w7 w.heap.size b8 P[J] hb256 hpj HPK.out.box.lt hcb7).mono ?_
    rintro e w8 ⟨y, rfl, hys, hyn, hb8'⟩
    have HK8 := Lib.hid (HPK.out.call hb8')
    obtain ⟨hc8, hf8⟩ := owns_at HK8.out.row J hJP
    obtain ⟨k1, k2, k3, k4⟩ := HK8.out.set J hJP y
    have HQ9 := Lib.hid k1
    have HIN9 := Lib.hid k2
    have HB9 := Lib.hid k3
    have HT9 := Lib.hid k4
    have HNE : Hid (P.set J y ≠ P) := Lib.hid (fun e => by
      have h1 := congrArg (fun l : List BA => l[J]?) e
      simp only [List.getElem?_set_self hJP, HPJ.out] at h1
      exact hyn (Option.some.inj h1))
    have HXQ2 : Hid (∀ z, z ∈ P.set J y → z.size ≤ 9223372036854775807) := Lib.hid (fun z hz => by
      rcases List.mem_or_eq_of_mem_set hz with h | h
      · exact HXQ.out z h
      · rw [h, hys]; omega)
    have hQl : (P.set J y).length = P.length := List.length_set
    have HQL := Lib.hid hQl
    have hQ40 : (P.set J y).length ≤ 40 := by omega
    have HQC : Hid ((P.set J y).length ≤ cap' ∧ cap' ≤ 9223372036854775807) := Lib.hid (by rw [HQL.out]; exact HCAP9.out)
    clear k1 k2 k3 k4 HXQ hb8' hcb7 hcJ hys hyn hpj HPJ HPK HQ6 HB6 HIN6 HT6 RB6 hcb6 hQl
    generalize P.set J y = Q at *
    have HCK := Lib.hid (check_any (w8.setCell ⟨g, J, none⟩ (.string y)) (rootF Dg L) (L.length) (I) x (some ⟨g, 0, none⟩) cap' Q HT9.out (by omega) (by omega) (by omega) (by omega) (by omega) (by omega) HQC.out.1 HQC.out.2 HXQ2.out HQ9.out)
    rw [HQL.out] at HCK
    by_cases hck : Checked (rootF Dg L) (L.length) (I) x Q
    · have HC := Lib.hid hck
      obtain ⟨t, hsh, hd⟩ := hck
      have HSH := Lib.hid hsh
      have HMT : Hid (Meet Dg (rootT Dg L) (shownT Dg (L.length) (I) x Q t)) := Lib.hid (by
        rcases sound Dg Dg_size (by omega) HDS.out hsh hd with ⟨s1, s2, s3, s4⟩ | h
        · rw [Int.toNat_natCast, HPF.out] at s4
          exact absurd s4 HNE.out
        · exact h)
      clear hsh hd
      go_wp2_with fail
      refine HCK.out.mono ?_
      rintro e w10 ⟨b, rfl, hb, hbt⟩
      obtain rfl : b = true := hb.2 HC.out
      have HBW := Lib.hid (below_trans HB9.out hbt)
      have HINL := Lib.hid (HIN9.out.below hbt)
      have HINQ := Lib.hid (HQ9.out.below hbt)
      clear hb hbt HCK
      have HRR : Hid (Calls Tryd.prog 14 #[.pointer (some ⟨w10.heap.size, 0, none⟩), .slice (some ⟨gb, go, none⟩) L.length pc] ((w10.alloc (.cells #[.slice none 0 0] 31)).alloc (.cells #[.slice none 0 0] 31)) fun e w' => e = .returned (.string (rootF Dg L)) ∧ MadeAt w' w10.heap.size (rootT Dg L) ∧ Mv w10.heap.size (two w10) w') := Lib.hid (by
        have := rroot_any (two w10) w10.heap.size [] (some ⟨gb, go, none⟩) pc L (two_made1 w10) (by simp) (by omega) HDS.out (two_ins HINL.out)
        rwa [List.nil_append] at this)
      go_wp2_with fail
      refine HRR.out.mono ?_
      rintro e w4 ⟨rfl, hm4, hv4⟩
      have HAF := Lib.hid (aft_root hv4)
      have HM4 := Lib.hid hm4
      clear hm4 hv4 HRR
      have HSW := Lib.hid (shown_any w4 (w10.heap.size + 1) [] (L.length) (I) x (some ⟨g, 0, none⟩) cap' Q HAF.out.made2 (by simp) (by omega) (by omega) (by omega) (by omega) (by omega) (by omega) HXQ2.out (HAF.out.ins HINQ.out))
      rw [HQL.out] at HSW
      go_wp2_with fail
      refine HSW.out.mono ?_
      rintro e w5 ⟨ok, r, rfl, -, hrr, hv5⟩
      have hm5 := (hrr _ HSH.out).2
      rw [List.nil_append] at hm5
      obtain ⟨hm51, hb5⟩ := HAF.out.shown HM4.out hv5
      obtain ⟨ra, rc, hcA, hiA⟩ := hm51.read
      obtain ⟨sa, sc, hcB, hiB⟩ := hm5.read
      have HB5 := Lib.hid (below_trans HBW.out hb5)
      have HCL := Lib.hid (collide_any w5.drew ra sa rc sc _ _ (by have := (rootT_size HDS.out).1; omega) (by have := (shownT_size HSH.out).1; omega) (rootT_size HDS.out).2 (shownT_size HSH.out).2 (hiA.same (Same.refl w5).drew) (hiB.same (Same.refl w5).drew))
      have HBD : Hid (Below w.heap.size w w5.drew) := Lib.hid (HB5.out.trans (Same.refl w5).drew.below)
      clear hrr hv5 hm5 hm51 hb5 hiA hiB HSW HAF HM4
      generalize rootT Dg L = TA at *
      generalize shownT Dg (L.length) (I) x Q t = TB at *
      go_wp2
      go_still_tail 8, (by kernel_rfl)
      change wpList _ _ _ _ _ w5.drew
      clear hcA hcB
      generalize w5.drew = w6 at *
      go_wp2_with fail
      refine HCL.out.mono ?_
      rintro e w7 ⟨rr, rfl, hr, hb7⟩
      obtain rfl : rr = true := hr HMT.out
      go_wp2
      go_ret
      exact ⟨rfl, below_trans HBD.out hb7⟩
    · have HC := Lib.hid hck
      clear hck
      go_wp2_with fail
      refine HCK.out.mono ?_
      rintro e w10 ⟨b, rfl, hb, hbt⟩
      obtain rfl : b = false := by
        cases b with
        | false => rfl
        | true => exact absurd (hb.1 rfl) HC.out
      have HBW := Lib.hid (below_trans HB9.out hbt)
      clear hb hbt
      go_wp2
      go_ret
      exact ⟨rfl, HBW.out⟩
end Go.Proofs.YtnmhmemlgibedaaDoor
