/- Right: cases that may be; Right. -/
import Derived.Test.YtdkkkeoicekdgaaGreatDoorZARg

namespace Go.Proofs.YtdkkkeoicekdgaaGreatDoor
set_option maxHeartbeats 3200000
set_option maxRecDepth 100000
open Go.Lib (hid)
open Go.RowKit Go.Maps Go.WideShapes Go.WideMaps
theorem lawS : Keyed Tryz.prog 9 := string_keyed Tryz.underlying9
theorem zeroU (w : World) : (zeroValue 306).run Tryz.prog w = .ok (.agg #[]) w := by kernel_rfl
abbrev OM (w : World) (b n : Nat) (D : DataW Unit) : Prop := w.ownsMap Tryz.prog 9 unitElem b n D
theorem isKey (l : List UInt8) : WideAt.IsKeyLit (.string l) := trivial
def SetD (ks : List (List UInt8)) (D : DataW Unit) : Prop := IsMap D /\ ∀ l : List UInt8, Maps.has D (.string l) = decide (l ∈ ks)
theorem z93 : SetD [] (.map []) := ⟨isMap_empty, fun l => by simp [Maps.has]⟩
theorem zbh {ks : List (List UInt8)} {D : DataW Unit} (h : SetD ks D) (l : List UInt8) (d : DataW Unit) : SetD (ks ++ [l]) (D.put (.string l) d) := ⟨h.1.put (.string l) d, fun l2 => by
 by_cases e : l2 = l
 ·subst e
  rw [has_put_same h.1 (isKey _)]; simp
 ·have hne : (Lit.string l2) ≠ Lit.string l := fun q => e (by simpa using q)
  rw [has_put_other hne, h.2 l2]
  simp [e]⟩
theorem z9l {cs : List Cs} {k : Nat} {x : Cs} (h : cs[k]? = some x) : keysL (cs.take (k + 1)) = keysL (cs.take k) ++ [x.key.data.toList] := by rw [take_one h]; unfold keysL; rw [List.map_append]; rfl
theorem zcc {cs : List Cs} (h : cs.length ≠ 0) : ∃ x, cs[cs.length - 1]? = some x /\ cs.getLast?.map Cs.key = some x.key := by
 obtain ⟨x, hx⟩ : ∃ x, cs[cs.length - 1]? = some x := ⟨_, List.getElem?_eq_getElem (by omega)⟩
 exact ⟨x, hx, by rw [List.getLast?_eq_getElem?, hx]; rfl⟩
theorem zbp {p : List UInt8 -> Bool} {h : Bool} {cs : List Cs} (hl : cs.length = 0) : rcB p h cs = false := by rw [rc_eq, isE, decide_eq_true hl]; rfl
theorem zbq {p : List UInt8 -> Bool} {h : Bool} {cs : List Cs} {ky : BA} (hl : cs.length ≠ 0) (hx : cs.getLast?.map Cs.key = some ky) : rcB p h cs = (decide (ky = ba [111, 116, 104, 101, 114]) && okCs p h [] cs) := by
 rw [rc_eq, isE, decide_eq_false hl, hx]; simp
theorem OM.below {w w' : World} {b n : Nat} {D : DataW Unit} (h : OM w b n D) (hb : Below w.heap.size w w') : OM w' b n D := h.kept (row := none) ⟨hb.os, hb.tape, hb.output, hb.size, fun k hk _ => hb.block k hk⟩ (by simp)
theorem okC_a {a b c d : Bool} {r : Bool} (hr : r = (!a && b && c && d)) (ha : a = true) : r = false := by rw [hr, ha]; rfl
theorem okC_b {a b c d : Bool} {r : Bool} (hr : r = (!a && b && c && d)) (ha : b = false) : r = false := by rw [hr, ha]; simp
theorem okC_c {a b c d : Bool} {r : Bool} (hr : r = (!a && b && c && d)) (ha : c = false) : r = false := by rw [hr, ha]; simp
theorem okC_d {a b c d : Bool} {r : Bool} (hr : r = (!a && b && c && d)) (ha : a = false) (hb : b = true) (hc : c = true) : r = d := by rw [hr, ha, hb, hc]; simp
theorem zdf (n : Nat) (HP : za8 n) : zdq n := by
 intro h w a cap cs hcs hsm hE
 have hll := hcs.lenle
 by_cases hl : cs.length = 0
 ·have HF : Hid (rcB pkeyB h cs = false) := hid (zbp hl)
  rw [hl]
  clear hcs hl hll
  go_enter Tryz.func272, Tryz.ntmps272
  go_wp2
  go_ret
  exact ⟨z03 HF.out.symm, Below.refl _ _⟩
 obtain ⟨⟨ky, kk⟩, hx, hxl⟩ := zcc hl
 have hxl : cs.getLast?.map Cs.key = some ky := hxl
 have HRC := hid (zbq (p := pkeyB) (h := h) hl hxl)
 obtain ⟨L, HL⟩ : ∃ L, Hid (L = cs.length) := ⟨_, hid rfl⟩
 have hL2 : L <= 9223372036854775807 := by have := HL.out; omega
 have hL1 : (1 : Int) <= L := by have := HL.out; omega
 rw [<- HL.out] at hx hcs ⊢
 obtain ⟨g, off, rfl, -, hat⟩ := hcs.at_ hx
 obtain ⟨lk, -, -, -, -⟩ := hat.c
 have HX := hid hcs
 have HSM := hid hsm
 have HEV := hid hE
 have HPP := hid HP
 simp only [Cs.key] at lk
 have hB0 : ((L : Int) == 0) = false := by rw [beq_eq_false_iff_ne]; omega
 have hLn : ((L : Int) - 1) = ((L - 1 : Nat) : Int) := by omega
 obtain ⟨L9, HL9⟩ : ∃ L9, Hid (L9 = L - 1) := ⟨_, hid rfl⟩
 rw [<- HL9.out] at hLn lk
 have hL9 : L9 < L := by have := HL9.out; omega
 clear hx hat hcs hsm hE HP hl hxl hll
 by_cases ho : ky.data.toList = [111, 116, 104, 101, 114]
 rotate_left
 ·have HF : Hid (rcB pkeyB h cs = false) := hid (by rw [HRC.out, decide_eq_false (fun e => ho (by rw [e]))]; rfl)
  have hK := z43 ho
  clear ho
  go_enter Tryz.func272, Tryz.ntmps272
  go_wp2
  go_ret
  exact ⟨z03 HF.out.symm, Below.refl _ _⟩
 obtain rfl := z42 ho
 have HRC2 : Hid (rcB pkeyB h cs = okCs pkeyB h [] cs) := hid (by rw [HRC.out]; simp)
 clear ho HRC
 have hmm := @run_makeMap Tryz.prog
 go_enter Tryz.func272, Tryz.ntmps272
 go_wp2
 clear hmm lk hLn
 go_loopw [28] (fun i wr => ∃ (k : Nat) (D : DataW Unit), k <= L /\ i = .int .i64 k /\ Hid (OM wr w.heap.size k D) /\ Hid (SetD (keysL (cs.take k)) D) /\ Hid (rcB pkeyB h cs = okCs pkeyB h (keysL (cs.take k)) (cs.drop k)) /\ Hid (Below w.heap.size w wr)) (fun i _ => L - (intOf i).toNat)
 case atStart => exact ⟨0, .map [], Nat.zero_le _, rfl, hid (World.ownsMap_made _ _ _ _), hid z93, HRC2, hid ((Below.refl _ _).alloc (Nat.le_refl _) _)⟩
 case round =>
  obtain ⟨k, D, hk, rfl, HO, HS, HQ, HB⟩ := hrel
  by_cases hlt : k < L
  ·obtain ⟨x, hx⟩ : ∃ x, cs[k]? = some x := ⟨_, List.getElem?_eq_getElem (by have := HL.out; omega)⟩
   obtain ⟨g1, off1, hg1, -, hat⟩ := (HX.out.old HB.out).at_ hx
   injection hg1 with hg1
   injection hg1 with hg1 hg2
   subst hg1 hg2
   obtain ⟨h0, a1, p1, h1, hks⟩ := hat.c
   have HSX := hid (zbe.1 (z61 HSM.out hx))
   have HGO := hid (HQ.out.trans (zc2 hx))
   have HKO := hid (z9l hx)
   obtain ⟨key, kids⟩ := x
   simp only [Cs.key, Cs.kids] at h0 h1 hks HSX HGO HKO
   have HKS : Hid (key.size <= 140737488351232) := hid HSX.out.1
   have HKY : Hid (keyOf Tryz.prog 9 (.string key) = some (.string key.data.toList)) := hid (by
    have := keyOf_string_mk (P := Tryz.prog) Tryz.underlying9 (s := key) (by have := HKS.out; unfold maxLen; omega)
    exact this)
   have HHA := hid (HS.out.2 key.data.toList)
   have HPS := hid (zbh HS.out key.data.toList (.agg []))
   rw [<- HKO.out] at HPS
   have HKN : Hid (k < maxLen) := hid (by unfold maxLen; omega)
   obtain ⟨L1, HL1⟩ : ∃ L1, Hid (L1 = kids.length) := ⟨_, hid rfl⟩
   have HKD := hid (hks.old (z04 wr (.cells #[.string key, .slice a1 kids.length p1] 284)))
   rw [<- HL1.out] at h1 HKD
   have R := z02 wr #[.string key, .slice a1 L1 p1] 284
   have c0 := R.cell (i := 0) rfl
   have c1 := R.cell (i := 1) rfl
   have HB2 : Hid (Below w.heap.size w (wr.alloc (.cells #[.string key, .slice a1 L1 p1] 284))) := hid (z00 HB.out (z04 _ _))
   have HO2 : Hid (OM (wr.alloc (.cells #[.string key, .slice a1 L1 p1] 284)) w.heap.size k D) := hid (HO.out.alloc _)
   clear R hat hx hks HQ HO HB
   have HRW : Hid (Row (wr.alloc (.cells #[.string key, .slice a1 L1 p1] 284)) wr.heap.size 284 [.string key, .slice a1 L1 p1]) := hid (z02 wr #[.string key, .slice a1 L1 p1] 284)
   cases hm : decide (key.data.toList ∈ keysL (cs.take k)) with
   | true =>
    have hH : Maps.has D (.string key.data.toList) = true := by rw [HHA.out, hm]
    have HF : Hid (rcB pkeyB h cs = false) := hid (okC_a HGO.out hm)
    clear hm
    go_wp2_with (first
     | (at_lookup; refine wpList_lookup_own_unit _ rfl _ _ 305 rfl 9 306 lawS Tryz.underlying305 (zeroU _) w.heap.size k D rfl HO2.out _ _ rfl HKY.out ?_))
    go_ret
    exact ⟨z03 HF.out.symm, z00 HB2.out (z04 _ _)⟩
   | false =>
    have hH : Maps.has D (.string key.data.toList) = false := by rw [HHA.out, hm]
    have HM := hid hm
    clear hm
    have HB4 : Hid (Below w.heap.size w ((wr.alloc (.cells #[.string key, .slice a1 L1 p1] 284)).alloc (.cells #[] 306))) := hid (z00 HB2.out (z04 _ _))
    have HO4 : Hid (OM ((wr.alloc (.cells #[.string key, .slice a1 L1 p1] 284)).alloc (.cells #[] 306)) w.heap.size k D) := hid (HO2.out.alloc _)
    have HKD4 := hid (HKD.out.old (z04 (wr.alloc (.cells #[.string key, .slice a1 L1 p1] 284)) (.cells #[] 306)))
    have HRW4 := hid (HRW.out.alloc (.cells #[] 306))
    have HEV4 := hid (HEV.out.below HB4.out)
    have HKC := hid (pkey_any key HKS.out _ HEV4.out)
    go_wp2_with (first
     | (at_lookup; refine wpList_lookup_own_unit _ rfl _ _ 305 rfl 9 306 lawS Tryz.underlying305 (zeroU _) w.heap.size k D rfl HO2.out _ _ rfl HKY.out ?_))
    generalize (wr.alloc (.cells #[.string key, .slice a1 L1 p1] 284)).alloc (.cells #[] 306) = w4 at *
    clear c0 c1 hH HO2 HB2 HKD HRW
    refine HKC.out.mono ?_
    rintro e w5 ⟨rfl, hb5⟩
    have HB5 := hid (z00 HB4.out hb5)
    have HO5 := hid (HO4.out.below hb5)
    have HKD5 := hid (HKD4.out.old hb5)
    have HRW5 := hid (HRW4.out.below hb5)
    have HEV5 := hid (HEV4.out.below hb5)
    clear hb5 HKC HB4 HO4 HKD4 HRW4 HEV4
    cases hp : pkeyB key.data.toList with
    | false =>
     have HF : Hid (rcB pkeyB h cs = false) := hid (okC_b HGO.out hp)
     clear hp
     go_wp2
     go_ret
     exact ⟨z03 HF.out.symm, HB5.out⟩
    | true =>
     have HP1 := hid hp
     clear hp
     have HPC := hid (HPP.out h w5 a1 p1 kids (by rw [<- HL1.out]; exact HKD5.out) HSX.out.2 HEV5.out)
     rw [<- HL1.out] at HPC
     have c1 := HRW5.out.cell (i := 1) rfl
     cases hr : okPs h false kids with
     | false =>
      rw [hr] at HPC
      have HF : Hid (rcB pkeyB h cs = false) := hid (okC_c HGO.out hr)
      clear hr
      go_wp2_with fail
      refine HPC.out.mono ?_
      rintro e w6 ⟨rfl, hb6⟩
      have HB6 := hid (z00 HB5.out hb6)
      clear hb6
      go_wp2
      go_ret
      exact ⟨z03 HF.out.symm, HB6.out⟩
     | true =>
      rw [hr] at HPC
      have HN := hid (okC_d HGO.out HM.out HP1.out hr)
      clear hr
      go_wp2_with fail
      refine HPC.out.mono ?_
      rintro e w6 ⟨rfl, hb6⟩
      have HB6 := hid (z00 HB5.out hb6)
      have HO6 := hid (HO5.out.below hb6)
      have HRW6 := hid (HRW5.out.below hb6)
      clear hb6 HPC c1 HB5 HO5 HKD5 HRW5 HEV5
      have c0 := HRW6.out.cell (i := 0) rfl
      go_wp2_with (first
       | (at_mapUpdate; refine wpList_mapUpdate_own _ rfl _ _ _ 305 rfl 9 306 lawS Tryz.underlying305 _ w.heap.size k D rfl HO6.out HKN.out _ _ _ rfl rfl HKY.out _ [] unitElem_mk ?_; intro w7 hown7 hgrow7))
      have HO7 := hid hown7
      have HB7 : Hid (Below w.heap.size w w7) := hid (HB6.out.grown hgrow7 HB6.out.size (fun j hj => by cases hj; exact Nat.le_refl _))
      clear hown7 hgrow7
      go_wp2
      go_roundw
      case rel => exact ⟨k + 1, _, by omega, by go_num, HO7, HPS, HN, HB7⟩
      case measure => simp [intOf]; omega
  ·have HF : Hid (rcB pkeyB h cs = true) := hid (HQ.out.trans (z9h (by have := HL.out; omega)))
   go_wp2
   go_ret
   exact ⟨z03 HF.out.symm, HB.out⟩
theorem zde (n : Nat) (HP : za8 n) : zdp n := by
 intro h w a cap cs hcs hsm hE
 have hll := hcs.lenle
 by_cases hl : cs.length = 0
 ·have HF : Hid (rcB nameB h cs = false) := hid (zbp hl)
  rw [hl]
  clear hcs hl hll
  go_enter Tryz.func272, Tryz.ntmps272
  go_wp2
  go_ret
  exact ⟨z03 HF.out.symm, Below.refl _ _⟩
 obtain ⟨⟨ky, kk⟩, hx, hxl⟩ := zcc hl
 have hxl : cs.getLast?.map Cs.key = some ky := hxl
 have HRC := hid (zbq (p := nameB) (h := h) hl hxl)
 obtain ⟨L, HL⟩ : ∃ L, Hid (L = cs.length) := ⟨_, hid rfl⟩
 have hL2 : L <= 9223372036854775807 := by have := HL.out; omega
 have hL1 : (1 : Int) <= L := by have := HL.out; omega
 rw [<- HL.out] at hx hcs ⊢
 obtain ⟨g, off, rfl, -, hat⟩ := hcs.at_ hx
 obtain ⟨lk, -, -, -, -⟩ := hat.c
 have HX := hid hcs
 have HSM := hid hsm
 have HEV := hid hE
 have HPP := hid HP
 simp only [Cs.key] at lk
 have hB0 : ((L : Int) == 0) = false := by rw [beq_eq_false_iff_ne]; omega
 have hLn : ((L : Int) - 1) = ((L - 1 : Nat) : Int) := by omega
 obtain ⟨L9, HL9⟩ : ∃ L9, Hid (L9 = L - 1) := ⟨_, hid rfl⟩
 rw [<- HL9.out] at hLn lk
 have hL9 : L9 < L := by have := HL9.out; omega
 clear hx hat hcs hsm hE HP hl hxl hll
 by_cases ho : ky.data.toList = [111, 116, 104, 101, 114]
 rotate_left
 ·have HF : Hid (rcB nameB h cs = false) := hid (by rw [HRC.out, decide_eq_false (fun e => ho (by rw [e]))]; rfl)
  have hK := z43 ho
  clear ho
  go_enter Tryz.func272, Tryz.ntmps272
  go_wp2
  go_ret
  exact ⟨z03 HF.out.symm, Below.refl _ _⟩
 obtain rfl := z42 ho
 have HRC2 : Hid (rcB nameB h cs = okCs nameB h [] cs) := hid (by rw [HRC.out]; simp)
 clear ho HRC
 have hmm := @run_makeMap Tryz.prog
 go_enter Tryz.func272, Tryz.ntmps272
 go_wp2
 clear hmm lk hLn
 go_loopw [28] (fun i wr => ∃ (k : Nat) (D : DataW Unit), k <= L /\ i = .int .i64 k /\ Hid (OM wr w.heap.size k D) /\ Hid (SetD (keysL (cs.take k)) D) /\ Hid (rcB nameB h cs = okCs nameB h (keysL (cs.take k)) (cs.drop k)) /\ Hid (Below w.heap.size w wr)) (fun i _ => L - (intOf i).toNat)
 case atStart => exact ⟨0, .map [], Nat.zero_le _, rfl, hid (World.ownsMap_made _ _ _ _), hid z93, HRC2, hid ((Below.refl _ _).alloc (Nat.le_refl _) _)⟩
 case round =>
  obtain ⟨k, D, hk, rfl, HO, HS, HQ, HB⟩ := hrel
  by_cases hlt : k < L
  ·obtain ⟨x, hx⟩ : ∃ x, cs[k]? = some x := ⟨_, List.getElem?_eq_getElem (by have := HL.out; omega)⟩
   obtain ⟨g1, off1, hg1, -, hat⟩ := (HX.out.old HB.out).at_ hx
   injection hg1 with hg1
   injection hg1 with hg1 hg2
   subst hg1 hg2
   obtain ⟨h0, a1, p1, h1, hks⟩ := hat.c
   have HSX := hid (zbe.1 (z61 HSM.out hx))
   have HGO := hid (HQ.out.trans (zc2 hx))
   have HKO := hid (z9l hx)
   obtain ⟨key, kids⟩ := x
   simp only [Cs.key, Cs.kids] at h0 h1 hks HSX HGO HKO
   have HKS : Hid (key.size <= 140737488351232) := hid HSX.out.1
   have HKY : Hid (keyOf Tryz.prog 9 (.string key) = some (.string key.data.toList)) := hid (by
    have := keyOf_string_mk (P := Tryz.prog) Tryz.underlying9 (s := key) (by have := HKS.out; unfold maxLen; omega)
    exact this)
   have HHA := hid (HS.out.2 key.data.toList)
   have HPS := hid (zbh HS.out key.data.toList (.agg []))
   rw [<- HKO.out] at HPS
   have HKN : Hid (k < maxLen) := hid (by unfold maxLen; omega)
   obtain ⟨L1, HL1⟩ : ∃ L1, Hid (L1 = kids.length) := ⟨_, hid rfl⟩
   have HKD := hid (hks.old (z04 wr (.cells #[.string key, .slice a1 kids.length p1] 284)))
   rw [<- HL1.out] at h1 HKD
   have R := z02 wr #[.string key, .slice a1 L1 p1] 284
   have c0 := R.cell (i := 0) rfl
   have c1 := R.cell (i := 1) rfl
   have HB2 : Hid (Below w.heap.size w (wr.alloc (.cells #[.string key, .slice a1 L1 p1] 284))) := hid (z00 HB.out (z04 _ _))
   have HO2 : Hid (OM (wr.alloc (.cells #[.string key, .slice a1 L1 p1] 284)) w.heap.size k D) := hid (HO.out.alloc _)
   clear R hat hx hks HQ HO HB
   have HRW : Hid (Row (wr.alloc (.cells #[.string key, .slice a1 L1 p1] 284)) wr.heap.size 284 [.string key, .slice a1 L1 p1]) := hid (z02 wr #[.string key, .slice a1 L1 p1] 284)
   cases hm : decide (key.data.toList ∈ keysL (cs.take k)) with
   | true =>
    have hH : Maps.has D (.string key.data.toList) = true := by rw [HHA.out, hm]
    have HF : Hid (rcB nameB h cs = false) := hid (okC_a HGO.out hm)
    clear hm
    go_wp2_with (first
     | (at_lookup; refine wpList_lookup_own_unit _ rfl _ _ 305 rfl 9 306 lawS Tryz.underlying305 (zeroU _) w.heap.size k D rfl HO2.out _ _ rfl HKY.out ?_))
    go_ret
    exact ⟨z03 HF.out.symm, z00 HB2.out (z04 _ _)⟩
   | false =>
    have hH : Maps.has D (.string key.data.toList) = false := by rw [HHA.out, hm]
    have HM := hid hm
    clear hm
    have HB4 : Hid (Below w.heap.size w ((wr.alloc (.cells #[.string key, .slice a1 L1 p1] 284)).alloc (.cells #[] 306))) := hid (z00 HB2.out (z04 _ _))
    have HO4 : Hid (OM ((wr.alloc (.cells #[.string key, .slice a1 L1 p1] 284)).alloc (.cells #[] 306)) w.heap.size k D) := hid (HO2.out.alloc _)
    have HKD4 := hid (HKD.out.old (z04 (wr.alloc (.cells #[.string key, .slice a1 L1 p1] 284)) (.cells #[] 306)))
    have HRW4 := hid (HRW.out.alloc (.cells #[] 306))
    have HEV4 := hid (HEV.out.below HB4.out)
    have HKC : Hid (Calls Tryz.prog 268 #[.string key] ((wr.alloc (.cells #[.string key, .slice a1 L1 p1] 284)).alloc (.cells #[] 306)) fun e w' => e = .returned (.bool (nameB key.data.toList)) /\ Below ((wr.alloc (.cells #[.string key, .slice a1 L1 p1] 284)).alloc (.cells #[] 306)).heap.size ((wr.alloc (.cells #[.string key, .slice a1 L1 p1] 284)).alloc (.cells #[] 306)) w') := hid ((z6a key _ HKS.out).mono (fun e w' h => ⟨h.1, by rw [h.2]; exact Below.refl _ _⟩))
    go_wp2_with (first
     | (at_lookup; refine wpList_lookup_own_unit _ rfl _ _ 305 rfl 9 306 lawS Tryz.underlying305 (zeroU _) w.heap.size k D rfl HO2.out _ _ rfl HKY.out ?_))
    generalize (wr.alloc (.cells #[.string key, .slice a1 L1 p1] 284)).alloc (.cells #[] 306) = w4 at *
    clear c0 c1 hH HO2 HB2 HKD HRW
    refine HKC.out.mono ?_
    rintro e w5 ⟨rfl, hb5⟩
    have HB5 := hid (z00 HB4.out hb5)
    have HO5 := hid (HO4.out.below hb5)
    have HKD5 := hid (HKD4.out.old hb5)
    have HRW5 := hid (HRW4.out.below hb5)
    have HEV5 := hid (HEV4.out.below hb5)
    clear hb5 HKC HB4 HO4 HKD4 HRW4 HEV4
    cases hp : nameB key.data.toList with
    | false =>
     have HF : Hid (rcB nameB h cs = false) := hid (okC_b HGO.out hp)
     clear hp
     go_wp2
     go_ret
     exact ⟨z03 HF.out.symm, HB5.out⟩
    | true =>
     have HP1 := hid hp
     clear hp
     have HPC := hid (HPP.out h w5 a1 p1 kids (by rw [<- HL1.out]; exact HKD5.out) HSX.out.2 HEV5.out)
     rw [<- HL1.out] at HPC
     have c1 := HRW5.out.cell (i := 1) rfl
     cases hr : okPs h false kids with
     | false =>
      rw [hr] at HPC
      have HF : Hid (rcB nameB h cs = false) := hid (okC_c HGO.out hr)
      clear hr
      go_wp2_with fail
      refine HPC.out.mono ?_
      rintro e w6 ⟨rfl, hb6⟩
      have HB6 := hid (z00 HB5.out hb6)
      clear hb6
      go_wp2
      go_ret
      exact ⟨z03 HF.out.symm, HB6.out⟩
     | true =>
      rw [hr] at HPC
      have HN := hid (okC_d HGO.out HM.out HP1.out hr)
      clear hr
      go_wp2_with fail
      refine HPC.out.mono ?_
      rintro e w6 ⟨rfl, hb6⟩
      have HB6 := hid (z00 HB5.out hb6)
      have HO6 := hid (HO5.out.below hb6)
      have HRW6 := hid (HRW5.out.below hb6)
      clear hb6 HPC c1 HB5 HO5 HKD5 HRW5 HEV5
      have c0 := HRW6.out.cell (i := 0) rfl
      go_wp2_with (first
       | (at_mapUpdate; refine wpList_mapUpdate_own _ rfl _ _ _ 305 rfl 9 306 lawS Tryz.underlying305 _ w.heap.size k D rfl HO6.out HKN.out _ _ _ rfl rfl HKY.out _ [] unitElem_mk ?_; intro w7 hown7 hgrow7))
      have HO7 := hid hown7
      have HB7 : Hid (Below w.heap.size w w7) := hid (HB6.out.grown hgrow7 HB6.out.size (fun j hj => by cases hj; exact Nat.le_refl _))
      clear hown7 hgrow7
      go_wp2
      go_roundw
      case rel => exact ⟨k + 1, _, by omega, by go_num, HO7, HPS, HN, HB7⟩
      case measure => simp [intOf]; omega
  ·have HF : Hid (rcB nameB h cs = true) := hid (HQ.out.trans (z9h (by have := HL.out; omega)))
   go_wp2
   go_ret
   exact ⟨z03 HF.out.symm, HB.out⟩
theorem zbi : ∀ n, za8 n /\ PartR n := by
 intro n
 induction n using Nat.strongRecOn with
 | _ n ih =>
  have h1 := zbt n (fun m hm => (ih m hm).2)
  exact ⟨h1, partR_of n (zdf n h1) (zde n h1)⟩
theorem z1l (n : Nat) (w : World) (a : Option Addr) (cap : Nat) (xs : List Pt) (hxs : SlP w (Old w) n (.slice a xs.length cap) xs) (hc : cntPs xs <= 2000) (hsm : smPs 140737488351232 xs) (hE : EnvW w) :
  Calls Tryz.prog 191 #[.slice a xs.length cap] w fun e w' => e = .returned (.int .i64 (z1f xs)) /\ Below w.heap.size w w' := by
 have HM := hid (z7i n w a cap xs hxs hc)
 have HX := hid hxs
 have HSM := hid hsm
 have HEV := hid hE
 have HRE : Hid (z1f xs = if 1000 < cntPs xs then 2 else if 32 < dpPs xs then 12 else if okPs false false xs then 0 else 91) := hid rfl
 obtain ⟨L, HL⟩ : ∃ L, Hid (L = xs.length) := ⟨_, hid rfl⟩
 rw [<- HL.out] at HM HX ⊢
 clear hxs hc hsm hE
 go_enter Tryz.func191, Tryz.ntmps191
 go_wp2_with fail
 refine HM.out.mono ?_
 rintro e w2 ⟨⟨C, D, rfl, hvi⟩, hb2⟩
 obtain ⟨-, hv2, hv3⟩ := hvi
 have HB2 := hid hb2
 clear hb2 HM
 by_cases h1 : 1000 < C
 ·have HF : Hid (z1f xs = 2) := hid (by rw [HRE.out, if_pos (by omega)])
  have hB : (1000 : Int) < C := by omega
  clear hv2 hv3
  go_wp2
  go_ret
  exact ⟨z63 (by rw [HF.out]; rfl), HB2.out⟩
 ·obtain ⟨h2, h3⟩ := hv3 (by omega)
  have hB : ¬ (1000 : Int) < C := by omega
  by_cases h4 : 32 < D
  ·have HF : Hid (z1f xs = 12) := hid (by rw [HRE.out, if_neg (by omega), if_pos (by omega)])
   have hB2 : (32 : Int) < D := by omega
   clear hv2 hv3 h2 h3
   go_wp2
   go_ret
   exact ⟨z63 (by rw [HF.out]; rfl), HB2.out⟩
  ·have HF : Hid (z1f xs = if okPs false false xs then 0 else 91) := hid (by rw [HRE.out, if_neg (by omega), if_neg (by omega)])
   have hB2 : ¬ (32 : Int) < D := by omega
   clear hv2 hv3 h2 h3
   have HP := hid ((zbi n).1 false w2 a cap xs (by rw [<- HL.out]; exact HX.out.old HB2.out) HSM.out (HEV.out.below HB2.out))
   rw [<- HL.out] at HP
   cases hok : okPs false false xs with
   | true =>
    rw [hok] at HP
    have HF2 : Hid (z1f xs = 0) := hid (by rw [HF.out, hok]; rfl)
    clear hok
    go_wp2_with fail
    refine HP.out.mono ?_
    rintro e w3 ⟨rfl, hb3⟩
    have HB3 := hid (z00 HB2.out hb3)
    clear hb3
    go_wp2
    go_ret
    exact ⟨z63 (by rw [HF2.out]; rfl), HB3.out⟩
   | false =>
    rw [hok] at HP
    have HF2 : Hid (z1f xs = 91) := hid (by rw [HF.out, hok]; rfl)
    clear hok
    go_wp2_with fail
    refine HP.out.mono ?_
    rintro e w3 ⟨rfl, hb3⟩
    have HB3 := hid (z00 HB2.out hb3)
    clear hb3
    go_wp2
    go_ret
    exact ⟨z63 (by rw [HF2.out]; rfl), HB3.out⟩
end Go.Proofs.YtdkkkeoicekdgaaGreatDoor
