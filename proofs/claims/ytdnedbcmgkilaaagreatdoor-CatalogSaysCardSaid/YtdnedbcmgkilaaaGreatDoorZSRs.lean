/- The document's Right: what may be. -/
import Derived.Test.YtdnedbcmgkilaaaGreatDoorZSg40
import Derived.Test.YtdnedbcmgkilaaaGreatDoorZSg37

namespace Go.Proofs.YtdnedbcmgkilaaaGreatDoor.Dr
set_option maxHeartbeats 6400000
set_option maxRecDepth 100000
open Go.Lib (hid)
open Go.RowKit Go.Proofs.YtdnedbcmgkilaaaGreatDoor
def prevB (xs : List Pt) : Nat -> Bool
 | 0 => false
 | k + 1 => match xs[k]? with | some x => decide (x.k = 1) | none => false
theorem zcs {xs : List Pt} {k : Nat} {x : Pt} (h : xs[k]? = some x) : prevB xs (k + 1) = decide (x.k = 1) := by simp [prevB, h]
def za4 (n : Nat) : Prop := ∀ (h : Bool) (w : World) (a : Option Addr) (cap : Nat) (xs : List Pt), SlP w (Old w) n (.slice a xs.length cap) xs -> smPs 140737488351232 xs ->
 Calls Tryz.prog 132 #[.slice a xs.length cap, .bool h] w fun e w' => e = .returned (.bool (okPs h false xs)) /\ Below w.heap.size w w'
def rcK (k : Int) (h : Bool) (cs : List Cs) : Bool := if k = 4 then rcB pkeyB true cs else rcB nameB h cs
def za6 (n : Nat) : Prop := ∀ (h : Bool) (w : World) (k : Int) (t nm : BA) (a : Option Addr) (cap : Nat) (cs : List Cs), (k = 4 ∨ k = 5) -> SlC w (Old w) n (.slice a cs.length cap) cs -> smCs 140737488351232 cs ->
 Calls Tryz.prog 170 #[.agg #[.int .i64 k, .string t, .string nm, .slice a cs.length cap], .bool h] w fun e w' => e = .returned (.bool (rcK k h cs)) /\ Below w.heap.size w w'
theorem okP_case {h : Bool} {x : Pt} (hk : x.k = 4 ∨ x.k = 5) : okP h x = (x.t.data.toList.isEmpty && nameB x.n.data.toList && rcK x.k h x.cs) := by
 rw [zho]
 rcases hk with hk | hk
 ·rw [hk]; unfold rcK; simp only [if_pos]; rw [zcr]; simp [Bool.and_assoc]
 ·have h5 : rcK 5 h x.cs = rcB nameB h x.cs := by unfold rcK; rw [if_neg (by decide)]
  rw [hk, h5, zcr]; simp [Bool.and_assoc]
theorem zgq (n : Nat) (HC : ∀ q, q < n -> za6 q) : za4 n := by
 intro h w a cap xs hxs hsm
 have hll := hxs.lenle
 obtain ⟨L, HL⟩ : ∃ L, Hid (L = xs.length) := ⟨_, hid rfl⟩
 rw [<- HL.out] at hxs hll ⊢
 have HX := hid hxs
 have HSM := hid hsm
 have HCC := hid HC
 clear hxs hsm HC
 go_enter Tryz.func132, Tryz.ntmps132
 go_wp2
 go_loopw [9] (fun i wr => ∃ (k : Nat), k <= L /\ i = .int .i64 k /\ Hid (okPs h false xs = okPs h (prevB xs k) (xs.drop k)) /\ Hid (Below w.heap.size w wr)) (fun i _ => L - (intOf i).toNat)
 case atStart => exact ⟨0, Nat.zero_le _, rfl, hid rfl, hid (Below.refl _ _)⟩
 case round =>
  obtain ⟨k, hk, rfl, HQ, HB⟩ := hrel
  by_cases hlt : k < L
  ·obtain ⟨x, hx⟩ : ∃ x, xs[k]? = some x := ⟨_, List.getElem?_eq_getElem (by have := HL.out; omega)⟩
   obtain ⟨g, off, rfl, hgo, hat⟩ := (HX.out.old HB.out).at_ hx
   obtain ⟨h0, h1, h2, m, a1, p1, hnm, h3, hcs⟩ := hat.p
   have HS := hid (zgp.1 (z8r HSM.out hx))
   have HGO := hid (HQ.out.trans (zhn hx))
   rw [<- zcs hx] at HGO
   have HPV := hid (zcs hx)
   have HOE := hid (zho h x)
   have HOC := hid (fun hk => okP_case (h := h) (x := x) hk)
   have HXA := hid ((HX.out.old HB.out).old (z02 wr (.cells #[.int .i64 x.k, .string x.t, .string x.n, .slice a1 x.cs.length p1] 141)))
   obtain ⟨pk, pt, pn, cs⟩ := x
   simp only [Pt.k, Pt.t, Pt.n, Pt.cs] at h0 h1 h2 h3 hcs HS HGO HPV HOE HOC HXA
   have hL1 := hcs.lenle
   have HCL := hid (fun (hk : pk = 4 ∨ pk = 5) => HCC.out m (by omega) h (wr.alloc (.cells #[.int .i64 pk, .string pt, .string pn, .slice a1 cs.length p1] 141)) pk pt pn a1 p1 cs hk (hcs.old (z02 _ _)) HS.out.2)
   have HNM := hid (z58 pn (wr.alloc (.cells #[.int .i64 pk, .string pt, .string pn, .slice a1 cs.length p1] 141)) HS.out.1)
   rw [isE, em, em] at HOE
   rw [em] at HOC
   obtain ⟨L1, HL1⟩ : ∃ L1, Hid (L1 = cs.length) := ⟨_, hid rfl⟩
   rw [<- HL1.out] at h3 HCL HNM HOE HXA hL1
   have R := z04 wr #[.int .i64 pk, .string pt, .string pn, .slice a1 L1 p1] 141
   have g0 := R.cell (i := 0) rfl
   have g1 := R.cell (i := 1) rfl
   have g2 := R.cell (i := 2) rfl
   have g3 := R.cell (i := 3) rfl
   have HBA : Hid (Below w.heap.size w (wr.alloc (.cells #[.int .i64 pk, .string pt, .string pn, .slice a1 L1 p1] 141))) := hid (z00 HB.out (z02 _ _))
   clear R hat hx hcs hnm HQ HB hgo
   generalize okP h (.mk pk pt pn cs) = r at *
   by_cases hk1 : pk = 1
   ·subst hk1
    have HE : Hid (r = (!pt.toList.isEmpty && pn.toList.isEmpty && decide (L1 = 0))) := hid (by have := HOE.out; simpa using this)
    have HP1 : Hid (prevB xs (k + 1) = true) := hid (by rw [HPV.out]; rfl)
    clear HOE HOC HCL HNM
    cases hT : pt.toList.isEmpty with
    | true =>
     have HF : Hid (okPs h false xs = false) := hid (by rw [HGO.out, HE.out, hT]; simp)
     go_wp2
     go_ret
     exact ⟨z01 HF.out.symm, HBA.out⟩
    | false =>
     cases hN : pn.toList.isEmpty with
     | false =>
      have HF : Hid (okPs h false xs = false) := hid (by rw [HGO.out, HE.out, hT, hN]; simp)
      go_wp2
      go_ret
      exact ⟨z01 HF.out.symm, HBA.out⟩
     | true =>
      by_cases hl : L1 = 0
      ·have HR1 : Hid (r = true) := hid (by rw [HE.out, hT, hN, hl]; rfl)
       subst hl
       by_cases hk0 : k = 0
       ·subst hk0
        have HN : Hid (okPs h false xs = okPs h (prevB xs 1) (xs.drop 1)) := hid (by rw [HGO.out, HR1.out]; simp [prevB])
        simp only [Nat.zero_mul, Nat.add_zero] at h0 h1 h2 h3
        go_wp2
        go_roundw
        case rel => exact ⟨1, by omega, by go_num, HN, HBA⟩
        case measure => simp [intOf]; omega
       ·obtain ⟨k', HK⟩ : ∃ k', Hid (k = k' + 1) := ⟨k - 1, hid (by omega)⟩
        obtain ⟨y, hy⟩ : ∃ y, xs[k']? = some y := ⟨_, List.getElem?_eq_getElem (by have := HL.out; have := HK.out; omega)⟩
        obtain ⟨g', off', hg', -, hat'⟩ := HXA.out.at_ hy
        injection hg' with hg'
        injection hg' with hg1 hg2
        subst hg1 hg2
        obtain ⟨j0, -⟩ := hat'.p
        have HPY : Hid (prevB xs k = decide (y.k = 1)) := hid (by rw [HK.out]; exact zcs hy)
        generalize y.k = yk at *
        have hk1i : (k : Int) - 1 = (k' : Int) := by have := HK.out; omega
        have hk1p : (0 : Int) < (k : Int) := by omega
        have hkL : k' < L := by have := HK.out; omega
        clear hat' hy hk0
        by_cases hy1 : yk = 1
        ·subst hy1
         have HF : Hid (okPs h false xs = false) := hid (by rw [HGO.out, HPY.out, HP1.out]; simp)
         go_wp2
         go_ret
         exact ⟨z01 HF.out.symm, HBA.out⟩
        ·have hyB : (yk == 1) = false := beq_eq_false_iff_ne.2 hy1
         have HN : Hid (okPs h false xs = okPs h (prevB xs (k + 1)) (xs.drop (k + 1))) := hid (by rw [HGO.out, HR1.out, HPY.out, decide_eq_false hy1]; simp)
         clear hy1
         go_wp2
         go_roundw
         case rel => exact ⟨k + 1, by omega, by go_num, HN, HBA⟩
         case measure => simp [intOf]; omega
      ·have hB : ((L1 : Int) > 0) := by omega
       have HF : Hid (okPs h false xs = false) := hid (by rw [HGO.out, HE.out, hT, hN, decide_eq_false hl]; simp)
       clear hl
       go_wp2
       go_ret
       exact ⟨z01 HF.out.symm, HBA.out⟩
   have HG2 : Hid (okPs h false xs = (r && okPs h (prevB xs (k + 1)) (xs.drop (k + 1)))) := hid (by rw [HGO.out, HPV.out]; simp [hk1])
   clear HGO HXA
   by_cases hk2 : pk = 2
   ·subst hk2
    have HE : Hid (r = (pt.toList.isEmpty && nameB pn.data.toList && decide (L1 = 0))) := hid (by have := HOE.out; simpa using this)
    clear HOE HOC HCL hk1
    generalize nameB pn.data.toList = nb at *
    cases hT : pt.toList.isEmpty with
    | false =>
     have HF : Hid (okPs h false xs = false) := hid (by rw [HG2.out, HE.out, hT]; rfl)
     go_wp2
     go_ret
     exact ⟨z01 HF.out.symm, HBA.out⟩
    | true =>
     cases nb with
     | false =>
      have HF : Hid (okPs h false xs = false) := hid (by rw [HG2.out, HE.out, hT]; rfl)
      go_wp2_with fail
      refine HNM.out.mono ?_
      rintro e w5 ⟨rfl, rfl⟩
      go_wp2
      go_ret
      exact ⟨z01 HF.out.symm, HBA.out⟩
     | true =>
      by_cases hl : L1 = 0
      ·have HN : Hid (okPs h false xs = okPs h (prevB xs (k + 1)) (xs.drop (k + 1))) := hid (by rw [HG2.out, HE.out, hT, hl]; rfl)
       subst hl
       go_wp2_with fail
       refine HNM.out.mono ?_
       rintro e w5 ⟨rfl, rfl⟩
       go_wp2
       go_roundw
       case rel => exact ⟨k + 1, by omega, by go_num, HN, HBA⟩
       case measure => simp [intOf]; omega
      ·have hB : ((L1 : Int) > 0) := by omega
       have HF : Hid (okPs h false xs = false) := hid (by rw [HG2.out, HE.out, hT, decide_eq_false hl]; rfl)
       clear hl
       go_wp2_with fail
       refine HNM.out.mono ?_
       rintro e w5 ⟨rfl, rfl⟩
       go_wp2
       go_ret
       exact ⟨z01 HF.out.symm, HBA.out⟩
   by_cases hk3 : pk = 3
   ·subst hk3
    have HE : Hid (r = (h && pt.toList.isEmpty && pn.toList.isEmpty && decide (L1 = 0))) := hid (by have := HOE.out; simpa using this)
    clear HOE HOC HCL HNM hk1 hk2
    cases hT : pt.toList.isEmpty with
    | false =>
     have HF : Hid (okPs h false xs = false) := hid (by rw [HG2.out, HE.out, hT]; simp)
     go_wp2
     go_ret
     exact ⟨z01 HF.out.symm, HBA.out⟩
    | true =>
     cases hN : pn.toList.isEmpty with
     | false =>
      have HF : Hid (okPs h false xs = false) := hid (by rw [HG2.out, HE.out, hT, hN]; simp)
      go_wp2
      go_ret
      exact ⟨z01 HF.out.symm, HBA.out⟩
     | true =>
      by_cases hl : L1 = 0
      ·cases h with
       | false =>
        have HF : Hid (okPs false false xs = false) := hid (by rw [HG2.out, HE.out]; rfl)
        subst hl
        go_wp2
        go_ret
        exact ⟨z01 HF.out.symm, HBA.out⟩
       | true =>
        have HN : Hid (okPs true false xs = okPs true (prevB xs (k + 1)) (xs.drop (k + 1))) := hid (by rw [HG2.out, HE.out, hT, hN, hl]; rfl)
        subst hl
        go_wp2
        go_roundw
        case rel => exact ⟨k + 1, by omega, by go_num, HN, HBA⟩
        case measure => simp [intOf]; omega
      ·have hB : ((L1 : Int) > 0) := by omega
       have HF : Hid (okPs h false xs = false) := hid (by rw [HG2.out, HE.out, decide_eq_false hl]; simp)
       clear hl
       go_wp2
       go_ret
       exact ⟨z01 HF.out.symm, HBA.out⟩
   by_cases hk45 : pk = 4 ∨ pk = 5
   ·have HE := hid (HOC.out hk45)
    have HCA := hid (HCL.out hk45)
    clear HOE HOC HCL hk1 hk2 hk3
    generalize nameB pn.data.toList = nb at *
    generalize rcK pk h cs = rc at *
    rcases hk45 with rfl | rfl
    all_goals
     cases hT : pt.toList.isEmpty with
     | false =>
      have HF : Hid (okPs h false xs = false) := hid (by rw [HG2.out, HE.out, hT]; rfl)
      go_wp2
      go_ret
      exact ⟨z01 HF.out.symm, HBA.out⟩
     | true =>
      cases nb with
      | false =>
       have HF : Hid (okPs h false xs = false) := hid (by rw [HG2.out, HE.out, hT]; rfl)
       go_wp2_with fail
       refine HNM.out.mono ?_
       rintro e w5 ⟨rfl, rfl⟩
       go_wp2
       go_ret
       exact ⟨z01 HF.out.symm, HBA.out⟩
      | true =>
       cases rc with
       | false =>
        have HF : Hid (okPs h false xs = false) := hid (by rw [HG2.out, HE.out, hT]; rfl)
        go_wp2_with fail
        refine HNM.out.mono ?_
        rintro e w5 ⟨rfl, rfl⟩
        go_wp2_with fail
        refine HCA.out.mono ?_
        rintro e w6 ⟨rfl, hb6⟩
        have HB6 := hid (z00 HBA.out hb6)
        clear hb6
        go_wp2
        go_ret
        exact ⟨z01 HF.out.symm, HB6.out⟩
       | true =>
        have HN : Hid (okPs h false xs = okPs h (prevB xs (k + 1)) (xs.drop (k + 1))) := hid (by rw [HG2.out, HE.out, hT]; rfl)
        go_wp2_with fail
        refine HNM.out.mono ?_
        rintro e w5 ⟨rfl, rfl⟩
        go_wp2_with fail
        refine HCA.out.mono ?_
        rintro e w6 ⟨rfl, hb6⟩
        have HB6 := hid (z00 HBA.out hb6)
        clear hb6
        go_wp2
        go_roundw
        case rel => exact ⟨k + 1, by omega, by go_num, HN, HB6⟩
        case measure => simp [intOf]; omega
   have hk4 : pk ≠ 4 := fun e => hk45 (.inl e)
   have hk5 : pk ≠ 5 := fun e => hk45 (.inr e)
   have HF : Hid (okPs h false xs = false) := hid (by rw [HG2.out]; have := HOE.out; simp only [hk1, hk2, hk3, hk4, hk5, if_false] at this; rw [this]; rfl)
   have b1 : (pk == 1) = false := beq_eq_false_iff_ne.2 hk1
   have b2 : (pk == 2) = false := beq_eq_false_iff_ne.2 hk2
   have b3 : (pk == 3) = false := beq_eq_false_iff_ne.2 hk3
   have b4 : (pk == 4) = false := beq_eq_false_iff_ne.2 hk4
   have b5 : (pk == 5) = false := beq_eq_false_iff_ne.2 hk5
   clear hk1 hk2 hk3 hk4 hk5 hk45 HOE HOC HCL HNM
   go_wp2
   go_ret
   exact ⟨z01 HF.out.symm, HBA.out⟩
  ·have HF : Hid (okPs h false xs = true) := hid (HQ.out.trans (ze3 (by have := HL.out; omega)))
   go_wp2
   go_ret
   exact ⟨z01 HF.out.symm, HB.out⟩
theorem zi4 {cs : List Cs} {k : Nat} {ky : List UInt8} : ky ∈ keysL (cs.take k) ↔ ∃ i, i < k /\ ∃ y, cs[i]? = some y /\ y.key.data.toList = ky := by
 unfold keysL
 rw [List.mem_map]
 constructor
 ·rintro ⟨y, hy, rfl⟩
  obtain ⟨i, hi, rfl⟩ := List.mem_iff_getElem.1 hy
  rw [List.length_take] at hi
  exact ⟨i, by omega, _, by rw [List.getElem_take]; exact List.getElem?_eq_getElem (by omega), rfl⟩
 ·rintro ⟨i, hi, y, hy, rfl⟩
  refine ⟨y, ?_, rfl⟩
  obtain ⟨hl, rfl⟩ := List.getElem?_eq_some_iff.1 hy
  exact List.mem_iff_getElem.2 ⟨i, by rw [List.length_take]; omega, by rw [List.getElem_take]⟩
theorem last_key {cs : List Cs} {k : Nat} {y : Cs} (hl : k + 1 = cs.length) (hy : cs[k]? = some y) : cs.getLast?.map Cs.key = some y.key := by
 rw [List.getLast?_eq_getElem?, show cs.length - 1 = k by omega, hy]; rfl
theorem cases_of (n : Nat) (HP : za4 n) : za6 n := by
 intro h w k t nm a cap cs hk45 hcs hsm
 have hll := hcs.lenle
 obtain ⟨L, HL⟩ : ∃ L, Hid (L = cs.length) := ⟨_, hid rfl⟩
 rw [<- HL.out] at hcs hll ⊢
 obtain ⟨p, h2, HPK, HKY, hbo⟩ : ∃ (p : List UInt8 -> Bool) (h2 : Bool), Hid (rcK k h cs = rcB p h2 cs) /\ Hid (∀ (W : World) (t : BA), t.size <= 140737488351232 -> Calls Tryz.prog 203 #[.bool (k == 4), .string t] W fun e w' => e = .returned (.bool (p t.data.toList)) /\ w' = W) /\ (k = 4 /\ h2 = true ∨ k = 5 /\ h = h2) := by
  rcases hk45 with rfl | rfl
  ·exact ⟨pkeyB, true, hid rfl, hid (fun W t ht => zdu t W ht), .inl ⟨rfl, rfl⟩⟩
  ·exact ⟨nameB, h, hid rfl, hid (fun W t ht => rkey_no t W ht), .inr ⟨rfl, rfl⟩⟩
 have R := z04 w #[.int .i64 k, .string t, .string nm, .slice a L cap] 141
 have HRW : Hid (Row (w.alloc (.cells #[.int .i64 k, .string t, .string nm, .slice a L cap] 141)) w.heap.size 141 [.int .i64 k, .string t, .string nm, .slice a L cap]) := hid R
 have HX := hid (hcs.old (z02 w (.cells #[.int .i64 k, .string t, .string nm, .slice a L cap] 141)))
 have HB0 := hid (z02 w (.cells #[.int .i64 k, .string t, .string nm, .slice a L cap] 141))
 have HSM := hid hsm
 have HPP := hid HP
 have HIF : Hid (rcB p h2 cs = (!cs.isEmpty && decide ((cs.getLast?.map Cs.key) = some (ba [111, 116, 104, 101, 114])) && okCs p h2 [] cs)) := hid (zcr _ _ _)
 have HFL : Hid (okCs p h2 [] cs = false -> rcK k h cs = false) := hid (fun e => by rw [HPK.out, HIF.out, e]; simp)
 have c3 := R.cell (i := 3) rfl
 clear hcs hsm HP hk45 R
 go_enter Tryz.func170, Tryz.ntmps170
 go_wp2
 generalize w.alloc (.cells #[.int .i64 k, .string t, .string nm, .slice a L cap] 141) = w1 at *
 clear c3
 go_loopw [11] (fun i wr => ∃ (j : Nat), j <= L /\ i = .int .i64 j /\ Hid (okCs p h2 [] cs = okCs p h2 (keysL (cs.take j)) (cs.drop j)) /\ Hid (Below w1.heap.size w1 wr)) (fun i _ => L - (intOf i).toNat)
 case atStart => exact ⟨0, Nat.zero_le _, rfl, hid rfl, hid (Below.refl _ _)⟩
 case round =>
  obtain ⟨j, hj, rfl, HQ, HB⟩ := hrel
  have HB1 := hid (z00 HB0.out HB.out)
  by_cases hlt : j < L
  ·obtain ⟨x, hx⟩ : ∃ x, cs[j]? = some x := ⟨_, List.getElem?_eq_getElem (by have := HL.out; omega)⟩
   obtain ⟨g, off, rfl, hgo, hat⟩ := (HX.out.old HB.out).at_ hx
   obtain ⟨i0, a3, p3, i1, hks⟩ := hat.c
   have HSX := hid (zdt.1 (z6h HSM.out hx))
   have HGO := hid (HQ.out.trans (zcy hx))
   obtain ⟨key, kids⟩ := x
   simp only [Cs.key, Cs.kids] at i0 i1 hks HSX HGO
   obtain ⟨L3, HL3⟩ : ∃ L3, Hid (L3 = kids.length) := ⟨_, hid rfl⟩
   have hks2 := hks.old (z02 wr (.cells #[.string key, .slice a3 kids.length p3] 185))
   rw [<- HL3.out] at i1 hks2
   have HKS := hid hks2
   have HRC : Hid (Row (wr.alloc (.cells #[.string key, .slice a3 L3 p3] 185)) wr.heap.size 185 [.string key, .slice a3 L3 p3]) := hid (z04 wr #[.string key, .slice a3 L3 p3] 185)
   have HB2 : Hid (Below w1.heap.size w1 (wr.alloc (.cells #[.string key, .slice a3 L3 p3] 185))) := hid (z00 HB.out (z02 _ _))
   have hcz := HRW.out.lt
   have hcz2 : w1.heap.size <= wr.heap.size := HB.out.size
   clear hat hx hks hks2 HQ HB HB1 hgo
   go_wp2
   generalize hwc : wr.alloc (.cells #[.string key, .slice a3 L3 p3] 185) = wc at *
   generalize hC : wr.heap.size = C at *
   clear hwc hC i0 i1
   go_loopw [7] (fun i wr => ∃ (q : Nat), q <= j /\ i = .int .i64 q /\ Hid (∀ i, i < q -> ∀ y, cs[i]? = some y -> y.key.data.toList ≠ key.data.toList) /\ Hid (Same wc wr)) (fun i _ => j - (intOf i).toNat)
   case atStart => exact ⟨0, Nat.zero_le _, rfl, hid (fun i hi => absurd hi (by omega)), hid (Same.refl _)⟩
   case round =>
    obtain ⟨q, hq, rfl, HNE, HSA⟩ := hrel
    have HRWq := hid (HSA.out.row (HRW.out.below HB2.out))
    have HRCq := hid (HSA.out.row HRC.out)
    have HXq := hid ((HX.out.old HB2.out).old HSA.out.below)
    by_cases hqj : q < j
    ·obtain ⟨y, hy⟩ : ∃ y, cs[q]? = some y := ⟨_, List.getElem?_eq_getElem (by have := HL.out; omega)⟩
     obtain ⟨g', off', hg', -, hat'⟩ := HXq.out.at_ hy
     injection hg' with hg'
     injection hg' with hg1 hg2
     subst hg1 hg2
     obtain ⟨j0, -⟩ := hat'.c
     have HY := hid hy
     have HYK : Hid (∀ z, cs[q]? = some z -> z = y) := hid (fun z hz => by rw [hy] at hz; exact (Option.some.inj hz).symm)
     have d3 := HRWq.out.cell (i := 3) rfl
     have e0 := HRCq.out.cell (i := 0) rfl
     have hqL : q < L := by omega
     obtain ⟨yk, HYE⟩ : ∃ yk, Hid (yk = y.key) := ⟨_, hid rfl⟩
     rw [<- HYE.out] at j0
     clear hat' hy
     by_cases he : yk.data.toList = key.data.toList
     ·have HF : Hid (rcK k h cs = false) := hid (HFL.out (by
       have hmem : key.data.toList ∈ keysL (cs.take j) := zi4.2 ⟨q, hqj, y, HY.out, by rw [<- HYE.out]; exact he⟩
       rw [HGO.out]; simp [hmem]))
      have hEQ : yk = key := by apply ByteArray.ext; exact Array.toList_inj.1 he
      subst hEQ
      clear he
      go_wp2
      go_quiet (fail)
      go_wp2
      go_ret
      exact ⟨z01 HF.out.symm, z00 HB0.out (z00 HB2.out (z0r HSA.out.below _))⟩
     ·have hB : (yk.toList == key.toList) = false := by rw [beq_eq_false_iff_ne, ByteArray.toList_eq, ByteArray.toList_eq]; exact he
      have HNE2 : Hid (∀ i, i < q + 1 -> ∀ y, cs[i]? = some y -> y.key.data.toList ≠ key.data.toList) := hid (fun i hi z hz => by
       rcases Nat.lt_or_ge i q with h1 | h1
       ·exact HNE.out i h1 z hz
       ·obtain rfl : i = q := by omega
        rw [HYK.out z hz, <- HYE.out]; exact he)
      clear he
      go_wp2
      go_quiet (fail)
      generalize hw0 : wr.drewN nq = w5
      have HS5 : Hid (Same wc w5) := hid (by rw [<- hw0]; exact HSA.out.drewN _)
      clear hw0
      go_wp2
      go_roundw
      case rel => exact ⟨q + 1, by omega, by go_num, HNE2, HS5⟩
      case measure => simp [intOf]; omega
    ·have hqe : q = j := by omega
     subst hqe
     have HNI : Hid (key.data.toList ∉ keysL (cs.take q)) := hid (fun e => by
      obtain ⟨i, hi, y, hy, he⟩ := zi4.1 e
      exact HNE.out i hi y hy he)
     have HG2 : Hid (okCs p h2 [] cs = (p key.data.toList && okPs h2 false kids && okCs p h2 (keysL (cs.take (q + 1))) (cs.drop (q + 1)))) := hid (by rw [HGO.out]; simp [HNI.out])
     have HB3 : Hid (Below w1.heap.size w1 wr) := hid (z00 HB2.out HSA.out.below)
     have HK1 := hid (HKY.out wr key HSX.out.1)
     have HK2 := hid (HPP.out h2 wr a3 p3 kids (by rw [<- HL3.out]; exact HKS.out.old HSA.out.below) HSX.out.2)
     rw [<- HL3.out] at HK2
     have d0 := HRWq.out.cell (i := 0) rfl
     have e0 := HRCq.out.cell (i := 0) rfl
     have e1 := HRCq.out.cell (i := 1) rfl
     clear HNI HNE HGO hqj hq HXq
     generalize p key.data.toList = pb at *
     generalize okPs h2 false kids = kb at *
     rcases hbo with ⟨rfl, rfl⟩ | ⟨rfl, rfl⟩
     all_goals
      cases pb with
      | false =>
       have HF : Hid (rcK _ h cs = false) := hid (HFL.out (by rw [HG2.out]; rfl))
       go_wp2_with fail
       refine HK1.out.mono ?_
       rintro e w5 ⟨rfl, rfl⟩
       go_wp2
       go_ret
       exact ⟨z01 HF.out.symm, z00 HB0.out HB3.out⟩
      | true =>
       cases kb with
       | false =>
        have HF : Hid (rcK _ h cs = false) := hid (HFL.out (by rw [HG2.out]; rfl))
        go_wp2_with fail
        refine HK1.out.mono ?_
        rintro e w5 ⟨rfl, rfl⟩
        cases h
        all_goals
         go_wp2_with fail
         refine HK2.out.mono ?_
         rintro e w6 ⟨rfl, hb6⟩
         have HB6 := hid (z00 HB3.out hb6)
         clear hb6
         go_wp2
         go_ret
         exact ⟨z01 HF.out.symm, z00 HB0.out HB6.out⟩
       | true =>
        have HN : Hid (okCs p _ [] cs = okCs p _ (keysL (cs.take (q + 1))) (cs.drop (q + 1))) := hid (by rw [HG2.out]; rfl)
        go_wp2_with fail
        refine HK1.out.mono ?_
        rintro e w5 ⟨rfl, rfl⟩
        cases h
        all_goals
         go_wp2_with fail
         refine HK2.out.mono ?_
         rintro e w6 ⟨rfl, hb6⟩
         have HB6 := hid (z00 HB3.out hb6)
         clear hb6
         go_wp2
         go_roundw
         case rel => exact ⟨q + 1, by omega, by go_num, HN, HB6⟩
         case measure => simp [intOf]; omega
  ·have HRWe := hid (HRW.out.below HB.out)
   have HT : Hid (okCs p h2 [] cs = true) := hid (HQ.out.trans (z98 (by have := HL.out; omega)))
   have d3 := HRWe.out.cell (i := 3) rfl
   have hjL : j = L := by omega
   clear HQ hlt
   by_cases hL0 : L = 0
   ·have HF : Hid (rcK k h cs = false) := hid (by rw [HPK.out]; exact zcp (by have := HL.out; omega))
    subst hL0
    go_wp2
    go_ret
    exact ⟨z01 HF.out.symm, HB1.out⟩
   ·obtain ⟨m, HM⟩ : ∃ m, Hid (m + 1 = L) := ⟨L - 1, hid (by omega)⟩
    have hmL := HM.out
    obtain ⟨y, hy⟩ : ∃ y, cs[m]? = some y := ⟨_, List.getElem?_eq_getElem (by have := HL.out; omega)⟩
    obtain ⟨g, off, rfl, -, hat⟩ := (HX.out.old HB.out).at_ hy
    obtain ⟨i0, -⟩ := hat.c
    have HRL := hid (zcq (p := p) (h := h2) (cs := cs) (by have := HL.out; omega) (last_key (by have := HL.out; omega) hy))
    rw [HT.out] at HRL
    have hLi : (L : Int) - 1 = (m : Int) := by omega
    have hL1 : (1 : Int) <= (L : Int) := by omega
    generalize y.key = yk at *
    clear hat hy hL0
    by_cases ho : yk.data.toList = [111, 116, 104, 101, 114]
    ·have HF : Hid (rcK k h cs = true) := hid (by rw [HPK.out, HRL.out, decide_eq_true (by rw [z2a ho])]; rfl)
     obtain rfl := z2a ho
     clear ho
     go_wp2
     go_ret
     exact ⟨z01 HF.out.symm, HB1.out⟩
    ·have HF : Hid (rcK k h cs = false) := hid (by rw [HPK.out, HRL.out, decide_eq_false (fun e => ho (by rw [e]))]; rfl)
     have hK := z2u ho
     clear ho
     go_wp2
     go_ret
     exact ⟨z01 HF.out.symm, HB1.out⟩
theorem zce : ∀ n, za4 n /\ za6 n := fun n => by
 induction n using Nat.strongRecOn with
 | _ n ih =>
  have h1 := zgq n (fun q hq => (ih q hq).2)
  exact ⟨h1, cases_of n h1⟩
end Go.Proofs.YtdnedbcmgkilaaaGreatDoor.Dr
