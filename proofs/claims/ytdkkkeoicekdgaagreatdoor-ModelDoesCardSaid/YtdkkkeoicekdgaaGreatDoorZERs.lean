/- The document's Right: what may be. -/
import Derived.Test.YtdkkkeoicekdgaaGreatDoorZEg9

namespace Go.Proofs.YtdkkkeoicekdgaaGreatDoor.Dr
set_option maxHeartbeats 6400000
set_option maxRecDepth 100000
open Go.Lib (hid)
open Go.RowKit Go.Proofs.YtdkkkeoicekdgaaGreatDoor
def prevB (xs : List Pt) : Nat -> Bool
 | 0 => false
 | k + 1 => match xs[k]? with | some x => decide (x.k = 1) | none => false
theorem zc9 {xs : List Pt} {k : Nat} {x : Pt} (h : xs[k]? = some x) : prevB xs (k + 1) = decide (x.k = 1) := by simp [prevB, h]
def z2o (n : Nat) : Prop := ∀ (h : Bool) (w : World) (a : Option Addr) (cap : Nat) (xs : List Pt), SlP w (Old w) n (.slice a xs.length cap) xs -> smPs 140737488351232 xs ->
 Calls Tryz.prog 233 #[.slice a xs.length cap, .bool h] w fun e w' => e = .returned (.bool (okPs h false xs)) /\ Below w.heap.size w w'
def rcK (k : Int) (h : Bool) (cs : List Cs) : Bool := if k = 4 then rcB pkeyB true cs else rcB nameB h cs
def z9t (n : Nat) : Prop := ∀ (h : Bool) (w : World) (k : Int) (t nm : BA) (a : Option Addr) (cap : Nat) (cs : List Cs), (k = 4 ∨ k = 5) -> SlC w (Old w) n (.slice a cs.length cap) cs -> smCs 140737488351232 cs ->
 Calls Tryz.prog 258 #[.agg #[.int .i64 k, .string t, .string nm, .slice a cs.length cap], .bool h] w fun e w' => e = .returned (.bool (rcK k h cs)) /\ Below w.heap.size w w'
theorem okP_case {h : Bool} {x : Pt} (hk : x.k = 4 ∨ x.k = 5) : okP h x = (x.t.data.toList.isEmpty && nameB x.n.data.toList && rcK x.k h x.cs) := by
 rw [zgy]
 rcases hk with hk | hk
 ·rw [hk]; unfold rcK; simp only [if_pos]; rw [zc5]; simp [Bool.and_assoc]
 ·have h5 : rcK 5 h x.cs = rcB nameB h x.cs := by unfold rcK; rw [if_neg (by decide)]
  rw [hk, h5, zc5]; simp [Bool.and_assoc]
theorem zg7 (n : Nat) (HC : ∀ q, q < n -> z9t q) : z2o n := by
 intro h w a cap xs hxs hsm;have J := hxs.lenle;obtain ⟨L, HL⟩ := nmd (xs.length);rw [<- HL.out] at hxs J ⊢;have HX := hid hxs;have M := hid hsm;have N := hid HC;clear hxs hsm HC
 go_enter Tryz.func233, Tryz.ntmps233
 go_wp2
 go_loopw [9] (fun i wr => ∃ (k : Nat), k <= L /\ i = .int .i64 k /\ Hid (okPs h false xs = okPs h (prevB xs k) (xs.drop k)) /\ Hid (Below w.heap.size w wr)) (fun i _ => L - (intOf i).toNat)
 case atStart => exact ⟨0, Nat.zero_le _, rfl, hid rfl, hid (Below.refl _ _)⟩
 case round =>
  obtain ⟨k, hk, rfl, HQ, HB⟩ := hrel
  by_cases hlt : k < L
  ·obtain ⟨x, hx⟩ : ∃ x, xs[k]? = some x := ⟨_, List.getElem?_eq_getElem (by have := HL.out; omega)⟩
   obtain ⟨g, af, rfl, O, F⟩ := (HX.out.old HB.out).at_ hx;obtain ⟨h0, h1, h2, m, a1, p1, T, h3, u⟩ := F.p;have HS := hid (zg4.1 (z8r M.out hx));have f := hid (HQ.out.trans (zgx hx));rw [<- zc9 hx] at f;have A := hid (zc9 hx);have d := hid (zgy h x);have l := hid (fun hk => okP_case (h := h) (x := x) hk);have v := hid ((HX.out.old HB.out).old (z03 wr (.cells #[.int .i64 x.k, .string x.t, .string x.n, .slice a1 x.cs.length p1] 263)));obtain ⟨pk, pt, pn, cs⟩ := x;simp only [Pt.k, Pt.t, Pt.n, Pt.cs] at h0 h1 h2 h3 u HS f A d l v;have U := u.lenle;have o := hid (fun (hk : pk = 4 ∨ pk = 5) => N.out m (by omega) h (wr.alloc (.cells #[.int .i64 pk, .string pt, .string pn, .slice a1 cs.length p1] 263)) pk pt pn a1 p1 cs hk (u.old (z03 _ _)) HS.out.2);have j := hid (za9 pn (wr.alloc (.cells #[.int .i64 pk, .string pt, .string pn, .slice a1 cs.length p1] 263)) HS.out.1);rw [isE, em, em] at d;rw [em] at l;obtain ⟨L1, V⟩ := nmd (cs.length);rw [<- V.out] at h3 o j d v U;have R := z02 wr #[.int .i64 pk, .string pt, .string pn, .slice a1 L1 p1] 263;have g0 := R.c0;have g1 := R.c1;have g2 := R.c2;have g3 := R.c3;have b : Hid (Below w.heap.size w (wr.alloc (.cells #[.int .i64 pk, .string pt, .string pn, .slice a1 L1 p1] 263))) := hid (z00 HB.out (z03 _ _));clear R F hx u T HQ HB O
   generalize okP h (.mk pk pt pn cs) = r at *
   by_cases hk1 : pk = 1
   ·subst hk1
    have HE : Hid (r = (!pt.toList.isEmpty && pn.toList.isEmpty && decide (L1 = 0))) := hid (by have := d.out; simpa using this);have X : Hid (prevB xs (k + 1) = true) := hid (by rw [A.out]; rfl);clear d l o j
    cases hT : pt.toList.isEmpty with
    | true =>
     have HF : Hid (okPs h false xs = false) := hid (by rw [f.out, HE.out, hT]; simp);go_wp2;go_ret;exact ⟨z01 HF.out.symm, b.out⟩
    | false =>
     cases hN : pn.toList.isEmpty with
     | false =>
      have HF : Hid (okPs h false xs = false) := hid (by rw [f.out, HE.out, hT, hN]; simp);go_wp2;go_ret;exact ⟨z01 HF.out.symm, b.out⟩
     | true =>
      by_cases hl : L1 = 0
      ·have G : Hid (r = true) := hid (by rw [HE.out, hT, hN, hl]; rfl)
       subst hl
       by_cases hk0 : k = 0
       ·subst hk0
        have HN : Hid (okPs h false xs = okPs h (prevB xs 1) (xs.drop 1)) := hid (by rw [f.out, G.out]; simp [prevB]);simp only [Nat.zero_mul, Nat.add_zero] at h0 h1 h2 h3;go_wp2;go_roundw
        case rel => exact ⟨1, by omega, by go_num, HN, b⟩
        case measure => simp [intOf]; omega
       ·obtain ⟨k', HK⟩ : ∃ k', Hid (k = k' + 1) := ⟨k - 1, hid (by omega)⟩
        obtain ⟨y, hy⟩ : ∃ y, xs[k']? = some y := ⟨_, List.getElem?_eq_getElem (by have := HL.out; have := HK.out; omega)⟩;obtain ⟨g', Y, B, -, z⟩ := v.out.at_ hy
        injection B with B
        injection B with hg1 hg2
        subst hg1 hg2;obtain ⟨j0, -⟩ := z.p;have H : Hid (prevB xs k = decide (y.k = 1)) := hid (by rw [HK.out]; exact zc9 hy)
        generalize y.k = yk at *
        have Z : (k : Int) - 1 = (k' : Int) := by have := HK.out; omega
        have aa : (0 : Int) < (k : Int) := by omega
        have ag : k' < L := by have := HK.out; omega
        clear z hy hk0
        by_cases hy1 : yk = 1
        ·subst hy1
         have HF : Hid (okPs h false xs = false) := hid (by rw [f.out, H.out, X.out]; simp);go_wp2;go_ret;exact ⟨z01 HF.out.symm, b.out⟩
        ·have ah : (yk == 1) = false := beq_eq_false_iff_ne.2 hy1
         have HN : Hid (okPs h false xs = okPs h (prevB xs (k + 1)) (xs.drop (k + 1))) := hid (by rw [f.out, G.out, H.out, decide_eq_false hy1]; simp);clear hy1;go_wp2;go_roundw
         case rel => exact ⟨k + 1, by omega, by go_num, HN, b⟩
         case measure => simp [intOf]; omega
      ·have hB : ((L1 : Int) > 0) := by omega
       have HF : Hid (okPs h false xs = false) := hid (by rw [f.out, HE.out, hT, hN, decide_eq_false hl]; simp);clear hl;go_wp2;go_ret;exact ⟨z01 HF.out.symm, b.out⟩
   have c : Hid (okPs h false xs = (r && okPs h (prevB xs (k + 1)) (xs.drop (k + 1)))) := hid (by rw [f.out, A.out]; simp [hk1]);clear f v
   by_cases hk2 : pk = 2
   ·subst hk2
    have HE : Hid (r = (pt.toList.isEmpty && nameB pn.data.toList && decide (L1 = 0))) := hid (by have := d.out; simpa using this);clear d l o hk1
    generalize nameB pn.data.toList = nb at *
    cases hT : pt.toList.isEmpty with
    | false =>
     have HF : Hid (okPs h false xs = false) := hid (by rw [c.out, HE.out, hT]; rfl);go_wp2;go_ret;exact ⟨z01 HF.out.symm, b.out⟩
    | true =>
     cases nb with
     | false =>
      have HF : Hid (okPs h false xs = false) := hid (by rw [c.out, HE.out, hT]; rfl)
      go_wp2_with fail
      refine j.out.mono ?_;rintro e w5 ⟨rfl, rfl⟩;go_wp2;go_ret;exact ⟨z01 HF.out.symm, b.out⟩
     | true =>
      by_cases hl : L1 = 0
      ·have HN : Hid (okPs h false xs = okPs h (prevB xs (k + 1)) (xs.drop (k + 1))) := hid (by rw [c.out, HE.out, hT, hl]; rfl)
       subst hl
       go_wp2_with fail
       refine j.out.mono ?_;rintro e w5 ⟨rfl, rfl⟩;go_wp2;go_roundw
       case rel => exact ⟨k + 1, by omega, by go_num, HN, b⟩
       case measure => simp [intOf]; omega
      ·have hB : ((L1 : Int) > 0) := by omega
       have HF : Hid (okPs h false xs = false) := hid (by rw [c.out, HE.out, hT, decide_eq_false hl]; rfl);clear hl
       go_wp2_with fail
       refine j.out.mono ?_;rintro e w5 ⟨rfl, rfl⟩;go_wp2;go_ret;exact ⟨z01 HF.out.symm, b.out⟩
   by_cases hk3 : pk = 3
   ·subst hk3
    have HE : Hid (r = (h && pt.toList.isEmpty && pn.toList.isEmpty && decide (L1 = 0))) := hid (by have := d.out; simpa using this);clear d l o j hk1 hk2
    cases hT : pt.toList.isEmpty with
    | false =>
     have HF : Hid (okPs h false xs = false) := hid (by rw [c.out, HE.out, hT]; simp);go_wp2;go_ret;exact ⟨z01 HF.out.symm, b.out⟩
    | true =>
     cases hN : pn.toList.isEmpty with
     | false =>
      have HF : Hid (okPs h false xs = false) := hid (by rw [c.out, HE.out, hT, hN]; simp);go_wp2;go_ret;exact ⟨z01 HF.out.symm, b.out⟩
     | true =>
      by_cases hl : L1 = 0
      ·cases h with
       | false =>
        have HF : Hid (okPs false false xs = false) := hid (by rw [c.out, HE.out]; rfl);subst hl;go_wp2;go_ret;exact ⟨z01 HF.out.symm, b.out⟩
       | true =>
        have HN : Hid (okPs true false xs = okPs true (prevB xs (k + 1)) (xs.drop (k + 1))) := hid (by rw [c.out, HE.out, hT, hN, hl]; rfl);subst hl;go_wp2;go_roundw
        case rel => exact ⟨k + 1, by omega, by go_num, HN, b⟩
        case measure => simp [intOf]; omega
      ·have hB : ((L1 : Int) > 0) := by omega
       have HF : Hid (okPs h false xs = false) := hid (by rw [c.out, HE.out, decide_eq_false hl]; simp);clear hl;go_wp2;go_ret;exact ⟨z01 HF.out.symm, b.out⟩
   by_cases hk45 : pk = 4 ∨ pk = 5
   ·have HE := hid (l.out hk45)
    have I := hid (o.out hk45);clear d l o hk1 hk2 hk3
    generalize nameB pn.data.toList = nb at *
    generalize rcK pk h cs = rc at *
    rcases hk45 with rfl | rfl
    all_goals
     cases hT : pt.toList.isEmpty with
     | false =>
      have HF : Hid (okPs h false xs = false) := hid (by rw [c.out, HE.out, hT]; rfl);go_wp2;go_ret;exact ⟨z01 HF.out.symm, b.out⟩
     | true =>
      cases nb with
      | false =>
       have HF : Hid (okPs h false xs = false) := hid (by rw [c.out, HE.out, hT]; rfl)
       go_wp2_with fail
       refine j.out.mono ?_;rintro e w5 ⟨rfl, rfl⟩;go_wp2;go_ret;exact ⟨z01 HF.out.symm, b.out⟩
      | true =>
       cases rc with
       | false =>
        have HF : Hid (okPs h false xs = false) := hid (by rw [c.out, HE.out, hT]; rfl)
        go_wp2_with fail
        refine j.out.mono ?_;rintro e w5 ⟨rfl, rfl⟩
        go_wp2_with fail
        refine I.out.mono ?_;rintro e w6 ⟨rfl, s⟩;have C := hid (z00 b.out s);clear s;go_wp2;go_ret;exact ⟨z01 HF.out.symm, C.out⟩
       | true =>
        have HN : Hid (okPs h false xs = okPs h (prevB xs (k + 1)) (xs.drop (k + 1))) := hid (by rw [c.out, HE.out, hT]; rfl)
        go_wp2_with fail
        refine j.out.mono ?_;rintro e w5 ⟨rfl, rfl⟩
        go_wp2_with fail
        refine I.out.mono ?_;rintro e w6 ⟨rfl, s⟩;have C := hid (z00 b.out s);clear s;go_wp2;go_roundw
        case rel => exact ⟨k + 1, by omega, by go_num, HN, C⟩
        case measure => simp [intOf]; omega
   have D : pk ≠ 4 := fun e => hk45 (.inl e)
   have E : pk ≠ 5 := fun e => hk45 (.inr e)
   have HF : Hid (okPs h false xs = false) := hid (by rw [c.out]; have := d.out; simp only [hk1, hk2, hk3, D, E, if_false] at this; rw [this]; rfl);have b1 : (pk == 1) = false := beq_eq_false_iff_ne.2 hk1;have b2 : (pk == 2) = false := beq_eq_false_iff_ne.2 hk2;have b3 : (pk == 3) = false := beq_eq_false_iff_ne.2 hk3;have b4 : (pk == 4) = false := beq_eq_false_iff_ne.2 D;have b5 : (pk == 5) = false := beq_eq_false_iff_ne.2 E;clear hk1 hk2 hk3 D E hk45 d l o j;go_wp2;go_ret;exact ⟨z01 HF.out.symm, b.out⟩
  ·have HF : Hid (okPs h false xs = true) := hid (HQ.out.trans (zdo (by have := HL.out; omega)))
   go_wp2;go_ret;exact ⟨z01 HF.out.symm, HB.out⟩
theorem zhc {cs : List Cs} {k : Nat} {ky : List UInt8} : ky ∈ keysL (cs.take k) ↔ ∃ i, i < k /\ ∃ y, cs[i]? = some y /\ y.key.data.toList = ky := by
 unfold keysL
 rw [List.mem_map]
 constructor
 ·rintro ⟨y, hy, rfl⟩
  obtain ⟨i, hi, rfl⟩ := List.mem_iff_getElem.1 hy;rw [List.length_take] at hi;exact ⟨i, by omega, _, by rw [List.getElem_take]; exact List.getElem?_eq_getElem (by omega), rfl⟩
 ·rintro ⟨i, hi, y, hy, rfl⟩
  refine ⟨y, ?_, rfl⟩;obtain ⟨hl, rfl⟩ := List.getElem?_eq_some_iff.1 hy;exact List.mem_iff_getElem.2 ⟨i, by rw [List.length_take]; omega, by rw [List.getElem_take]⟩
theorem last_key {cs : List Cs} {k : Nat} {y : Cs} (hl : k + 1 = cs.length) (hy : cs[k]? = some y) : cs.getLast?.map Cs.key = some y.key := by
 rw [List.getLast?_eq_getElem?, show cs.length - 1 = k by omega, hy]; rfl
theorem cases_of (n : Nat) (HP : z2o n) : z9t n := by
 intro h w k t nm a cap cs hk45 hcs hsm;have ai := hcs.lenle;obtain ⟨L, HL⟩ := nmd (cs.length);rw [<- HL.out] at hcs ai ⊢
 obtain ⟨p, h2, r, aj, aq⟩ : ∃ (p : List UInt8 -> Bool) (h2 : Bool), Hid (rcK k h cs = rcB p h2 cs) /\ Hid (∀ (W : World) (t : BA), t.size <= 140737488351232 -> Calls Tryz.prog 277 #[.bool (k == 4), .string t] W fun e w' => e = .returned (.bool (p t.data.toList)) /\ w' = W) /\ (k = 4 /\ h2 = true ∨ k = 5 /\ h = h2) := by
  rcases hk45 with rfl | rfl
  ·exact ⟨pkeyB, true, hid rfl, hid (fun W t ht => zda t W ht), .inl ⟨rfl, rfl⟩⟩
  ·exact ⟨nameB, h, hid rfl, hid (fun W t ht => rkey_no t W ht), .inr ⟨rfl, rfl⟩⟩
 have R := z02 w #[.int .i64 k, .string t, .string nm, .slice a L cap] 263;have E : Hid (Row (w.alloc (.cells #[.int .i64 k, .string t, .string nm, .slice a L cap] 263)) w.heap.size 263 [.int .i64 k, .string t, .string nm, .slice a L cap]) := hid R;have HX := hid (hcs.old (z03 w (.cells #[.int .i64 k, .string t, .string nm, .slice a L cap] 263)));have s := hid (z03 w (.cells #[.int .i64 k, .string t, .string nm, .slice a L cap] 263));have ar := hid hsm;have au := hid HP;have aw : Hid (rcB p h2 cs = (!cs.isEmpty && decide ((cs.getLast?.map Cs.key) = some (ba [111, 116, 104, 101, 114])) && okCs p h2 [] cs)) := hid (zc5 _ _ _);have F : Hid (okCs p h2 [] cs = false -> rcK k h cs = false) := hid (fun e => by rw [r.out, aw.out, e]; simp);have c3 := R.c3;clear hcs hsm HP hk45 R
 go_enter Tryz.func258, Tryz.ntmps258
 go_wp2
 generalize w.alloc (.cells #[.int .i64 k, .string t, .string nm, .slice a L cap] 263) = w1 at *
 clear c3
 go_loopw [11] (fun i wr => ∃ (j : Nat), j <= L /\ i = .int .i64 j /\ Hid (okCs p h2 [] cs = okCs p h2 (keysL (cs.take j)) (cs.drop j)) /\ Hid (Below w1.heap.size w1 wr)) (fun i _ => L - (intOf i).toNat)
 case atStart => exact ⟨0, Nat.zero_le _, rfl, hid rfl, hid (Below.refl _ _)⟩
 case round =>
  obtain ⟨j, hj, rfl, HQ, HB⟩ := hrel;have u := hid (z00 s.out HB.out)
  by_cases hlt : j < L
  ·obtain ⟨x, hx⟩ : ∃ x, cs[j]? = some x := ⟨_, List.getElem?_eq_getElem (by have := HL.out; omega)⟩
   obtain ⟨g, ax, rfl, ay, d⟩ := (HX.out.old HB.out).at_ hx;obtain ⟨i0, a3, p3, i1, G⟩ := d.c;have H := hid (zd8.1 (z6i ar.out hx));have v := hid (HQ.out.trans (zce hx));obtain ⟨key, kids⟩ := x;simp only [Cs.key, Cs.kids] at i0 i1 G H v;obtain ⟨L3, I⟩ := nmd (kids.length);have f := G.old (z03 wr (.cells #[.string key, .slice a3 kids.length p3] 284));rw [<- I.out] at i1 f;have az := hid f;have aA : Hid (Row (wr.alloc (.cells #[.string key, .slice a3 L3 p3] 284)) wr.heap.size 284 [.string key, .slice a3 L3 p3]) := hid (z02 wr #[.string key, .slice a3 L3 p3] 284);have A : Hid (Below w1.heap.size w1 (wr.alloc (.cells #[.string key, .slice a3 L3 p3] 284))) := hid (z00 HB.out (z03 _ _));have aH := E.out.lt;have aF : w1.heap.size <= wr.heap.size := HB.out.size;clear d hx G f HQ HB u ay;go_wp2
   generalize hwc : wr.alloc (.cells #[.string key, .slice a3 L3 p3] 284) = wc at *
   generalize hC : wr.heap.size = C at *
   clear hwc hC i0 i1
   go_loopw [7] (fun i wr => ∃ (q : Nat), q <= j /\ i = .int .i64 q /\ Hid (∀ i, i < q -> ∀ y, cs[i]? = some y -> y.key.data.toList ≠ key.data.toList) /\ Hid (Same wc wr)) (fun i _ => j - (intOf i).toNat)
   case atStart => exact ⟨0, Nat.zero_le _, rfl, hid (fun i hi => absurd hi (by omega)), hid (Same.refl _)⟩
   case round =>
    obtain ⟨q, hq, rfl, J, b⟩ := hrel;have B := hid (b.out.row (E.out.below A.out));have l := hid (b.out.row aA.out);have Z := hid ((HX.out.old A.out).old b.out.below)
    by_cases hqj : q < j
    ·obtain ⟨y, hy⟩ : ∃ y, cs[q]? = some y := ⟨_, List.getElem?_eq_getElem (by have := HL.out; omega)⟩
     obtain ⟨g', aG, M, -, D⟩ := Z.out.at_ hy
     injection M with M
     injection M with hg1 hg2
     subst hg1 hg2;obtain ⟨j0, -⟩ := D.c;have HY := hid hy;have aB : Hid (∀ z, cs[q]? = some z -> z = y) := hid (fun z hz => by rw [hy] at hz; exact (Option.some.inj hz).symm);have d3 := B.out.c3;have e0 := l.out.c0
     have aI : q < L := by omega
     obtain ⟨yk, N⟩ := nmd (y.key);rw [<- N.out] at j0;clear D hy
     by_cases he : yk.data.toList = key.data.toList
     ·have HF : Hid (rcK k h cs = false) := hid (F.out (by
       have aa : key.data.toList ∈ keysL (cs.take j) := zhc.2 ⟨q, hqj, y, HY.out, by rw [<- N.out]; exact he⟩
       rw [v.out]; simp [aa]))
      have aC : yk = key := by apply ByteArray.ext; exact Array.toList_inj.1 he
      subst aC;clear he;go_wp2
      go_quiet (fail)
      go_wp2;go_ret;exact ⟨z01 HF.out.symm, z00 s.out (z00 A.out (z0a b.out.below _))⟩
     ·have hB : (yk.toList == key.toList) = false := by rw [beq_eq_false_iff_ne, ByteArray.toList_eq, ByteArray.toList_eq]; exact he
      have af : Hid (∀ i, i < q + 1 -> ∀ y, cs[i]? = some y -> y.key.data.toList ≠ key.data.toList) := hid (fun i hi z hz => by
       rcases Nat.lt_or_ge i q with h1 | h1
       ·exact J.out i h1 z hz
       ·obtain rfl : i = q := by omega
        rw [aB.out z hz, <- N.out]; exact he)
      clear he;go_wp2
      go_quiet (fail)
      generalize hw0 : wr.drewN nq = w5;have aD : Hid (Same wc w5) := hid (by rw [<- hw0]; exact b.out.drewN _);clear hw0;go_wp2;go_roundw
      case rel => exact ⟨q + 1, by omega, by go_num, af, aD⟩
      case measure => simp [intOf]; omega
    ·have aE : q = j := by omega
     subst aE
     have ag : Hid (key.data.toList ∉ keysL (cs.take q)) := hid (fun e => by
      obtain ⟨i, hi, y, hy, he⟩ := zhc.1 e
      exact J.out i hi y hy he)
     have O : Hid (okCs p h2 [] cs = (p key.data.toList && okPs h2 false kids && okCs p h2 (keysL (cs.take (q + 1))) (cs.drop (q + 1)))) := hid (by rw [v.out]; simp [ag.out]);have T : Hid (Below w1.heap.size w1 wr) := hid (z00 A.out b.out.below);have U := hid (aj.out wr key H.out.1);have V := hid (au.out h2 wr a3 p3 kids (by rw [<- I.out]; exact az.out.old b.out.below) H.out.2);rw [<- I.out] at V;have d0 := B.out.c0;have e0 := l.out.c0;have e1 := l.out.c1;clear ag J v hqj hq Z
     generalize p key.data.toList = pb at *
     generalize okPs h2 false kids = kb at *
     rcases aq with ⟨rfl, rfl⟩ | ⟨rfl, rfl⟩
     all_goals
      cases pb with
      | false =>
       have HF : Hid (rcK _ h cs = false) := hid (F.out (by rw [O.out]; rfl))
       go_wp2_with fail
       refine U.out.mono ?_;rintro e w5 ⟨rfl, rfl⟩;go_wp2;go_ret;exact ⟨z01 HF.out.symm, z00 s.out T.out⟩
      | true =>
       cases kb with
       | false =>
        have HF : Hid (rcK _ h cs = false) := hid (F.out (by rw [O.out]; rfl))
        go_wp2_with fail
        refine U.out.mono ?_;rintro e w5 ⟨rfl, rfl⟩
        cases h
        all_goals
         go_wp2_with fail
         refine V.out.mono ?_;rintro e w6 ⟨rfl, o⟩;have X := hid (z00 T.out o);clear o;go_wp2;go_ret;exact ⟨z01 HF.out.symm, z00 s.out X.out⟩
       | true =>
        have HN : Hid (okCs p _ [] cs = okCs p _ (keysL (cs.take (q + 1))) (cs.drop (q + 1))) := hid (by rw [O.out]; rfl)
        go_wp2_with fail
        refine U.out.mono ?_;rintro e w5 ⟨rfl, rfl⟩
        cases h
        all_goals
         go_wp2_with fail
         refine V.out.mono ?_;rintro e w6 ⟨rfl, o⟩;have X := hid (z00 T.out o);clear o;go_wp2;go_roundw
         case rel => exact ⟨q + 1, by omega, by go_num, HN, X⟩
         case measure => simp [intOf]; omega
  ·have ah := hid (E.out.below HB.out)
   have HT : Hid (okCs p h2 [] cs = true) := hid (HQ.out.trans (z96 (by have := HL.out; omega)));have d3 := ah.out.c3
   have aJ : j = L := by omega
   clear HQ hlt
   by_cases hL0 : L = 0
   ·have HF : Hid (rcK k h cs = false) := hid (by rw [r.out]; exact zc3 (by have := HL.out; omega))
    subst hL0;go_wp2;go_ret;exact ⟨z01 HF.out.symm, u.out⟩
   ·obtain ⟨m, HM⟩ : ∃ m, Hid (m + 1 = L) := ⟨L - 1, hid (by omega)⟩
    have aK := HM.out;obtain ⟨y, hy⟩ : ∃ y, cs[m]? = some y := ⟨_, List.getElem?_eq_getElem (by have := HL.out; omega)⟩;obtain ⟨g, ax, rfl, -, d⟩ := (HX.out.old HB.out).at_ hy;obtain ⟨i0, -⟩ := d.c;have Y := hid (zc4 (p := p) (h := h2) (cs := cs) (by have := HL.out; omega) (last_key (by have := HL.out; omega) hy));rw [HT.out] at Y
    have aM : (L : Int) - 1 = (m : Int) := by omega
    have aN : (1 : Int) <= (L : Int) := by omega
    generalize y.key = yk at *
    clear d hy hL0
    by_cases ho : yk.data.toList = [111, 116, 104, 101, 114]
    ·have HF : Hid (rcK k h cs = true) := hid (by rw [r.out, Y.out, decide_eq_true (by rw [z2e ho])]; rfl)
     obtain rfl := z2e ho;clear ho;go_wp2;go_ret;exact ⟨z01 HF.out.symm, u.out⟩
    ·have HF : Hid (rcK k h cs = false) := hid (by rw [r.out, Y.out, decide_eq_false (fun e => ho (by rw [e]))]; rfl)
     have hK := z2s ho;clear ho;go_wp2;go_ret;exact ⟨z01 HF.out.symm, u.out⟩
theorem zbw : ∀ n, z2o n /\ z9t n := fun n => by
 induction n using Nat.strongRecOn with
 | _ n ih =>
  have h1 := zg7 n (fun q hq => (ih q hq).2);exact ⟨h1, cases_of n h1⟩
end Go.Proofs.YtdkkkeoicekdgaaGreatDoor.Dr
