/- Parse, at every string. -/
import Derived.Test.YtdkkkeoicekdgaaGreatDoorZFg17
import Derived.Test.YtdkkkeoicekdgaaGreatDoorZFRh

section

namespace Go.Proofs.YtdkkkeoicekdgaaGreatDoor
set_option maxHeartbeats 3200000
set_option maxRecDepth 100000
open Go.Lib (hid)
open Go.RowKit
theorem za2 {m : Nat} : ∀ {xs : List Pt} {x : Pt}, smPs m xs -> smP m x -> smPs m (xs ++ [x])
 | [], x, _, h => by show smPs m [x]; rw [smPs]; exact ⟨h, by rw [smPs]; trivial⟩
 | y :: r, x, hs, h => by rw [smPs] at hs; show smPs m (y :: (r ++ [x])); rw [smPs]; exact ⟨hs.1, za2 hs.2 h⟩
theorem za3 {m : Nat} : ∀ {xs : List Cs} {x : Cs}, smCs m xs -> smC m x -> smCs m (xs ++ [x])
 | [], x, _, h => by show smCs m [x]; rw [smCs]; exact ⟨h, by rw [smCs]; trivial⟩
 | y :: r, x, hs, h => by rw [smCs] at hs; show smCs m (y :: (r ++ [x])); rw [smCs]; exact ⟨hs.1, za3 hs.2 h⟩
theorem z5s (l : List UInt8) : (ba l).size = l.length := by show l.toArray.size = _; simp
theorem z99 (l : List UInt8) (p : List UInt8 -> Bool) (S : St) : (longF l p S).1.length <= l.length := by
 unfold longF
 split
 ·split
  ·simp
  ·simp; omega
 ·simp
theorem key_len (l : List UInt8) (S : St) : (keyF l S).1.length <= l.length + 1 := by
 unfold keyF
 split
 ·have := z99 l numB (wordF l [61] S); simp; omega
 ·have := z99 l nameB S; omega
theorem zg1 {l : List UInt8} {m : Nat} (hm : l.length + 1 <= m) : ∀ f, (∀ h o acc S, smPs m acc -> smPs m (z0c l f h o acc S).1) /\ (∀ h o acc b, smCs m acc -> smCs m (z09 l f h o acc b).1)
 | 0 => ⟨fun h o acc S hs => by rw [z0c]; exact hs, fun h o acc b hs => by rw [z09]; exact hs⟩
 | f + 1 => by
  obtain ⟨g, c⟩ := zg1 hm f
  have a : smCs m [] := by rw [smCs]; trivial
  have d : smPs m [] := by rw [smPs]; trivial
  refine ⟨fun h o acc S hs => ?_, fun h o acc b hs => ?_⟩
  ·rw [z0c]
   split
   ·refine g _ _ _ _ (za2 hs ?_)
    rw [zg2]
    unfold partG
    split
    ·have hn := z99 l nameB (wordF l [123] S)
     unfold holeG
     simp only
     split
     ·exact ⟨by show (ba _).size <= m; rw [z5s]; omega, c _ _ _ _ a⟩
     ·split
      ·exact ⟨by show (ba _).size <= m; rw [z5s]; omega, c _ _ _ _ a⟩
      ·exact ⟨by show (ba _).size <= m; rw [z5s]; omega, a⟩
    ·split
     ·exact ⟨Nat.zero_le _, a⟩
     ·exact ⟨Nat.zero_le _, a⟩
   ·exact hs
  ·rw [z09]
   split
   ·refine c _ _ _ _ (za3 hs ?_)
    rw [zd5];have hn := key_len l b.2
    unfold z16
    exact ⟨by show (ba _).size <= m; rw [z5s]; omega, g _ _ _ _ d⟩
   ·exact hs
theorem zg0 {l : List UInt8} {m : Nat} (hm : l.length + 1 <= m) : smPs m (readF l).1 := (zg1 hm (l.length + 1)).1 false 0 [] (0, 0) (by rw [smPs]; trivial)
theorem z9m {w w1 w3 : World} (hb : Below w.heap.size w w1) (hf : Fr (· = w.heap.size) w1 w3) : Below w.heap.size w w3 := Fr.to_below hb hf (Nat.le_refl _)
theorem zfb {l : List UInt8} (h : 2000 < l.length) : z0q l = ([], 2, 0) := by unfold z0q; rw [if_pos h]
theorem zgn {l : List UInt8} (h : ¬ 2000 < l.length) {E : St} (hE : endF l (readF l).2 = E) (h2 : E.2 ≠ 0) : z0q l = ([], E.2, E.1) := by subst hE; unfold z0q; rw [if_neg h, if_pos h2]
theorem zc5 {l : List UInt8} (h : ¬ 2000 < l.length) {E : St} (hE : endF l (readF l).2 = E) (h2 : E.2 = 0) (h3 : z13 (readF l).1 ≠ 0) : z0q l = ([], z13 (readF l).1, 0) := by subst hE; unfold z0q; rw [if_neg h, if_neg (by simpa using h2), if_pos h3]
theorem parse_ok {l : List UInt8} (h : ¬ 2000 < l.length) {E : St} (hE : endF l (readF l).2 = E) (h2 : E.2 = 0) (h3 : z13 (readF l).1 = 0) : z0q l = ((readF l).1, 0, 0) := by subst hE; unfold z0q; rw [if_neg h, if_neg (by simpa using h2), if_neg (by simpa using h3)]
theorem zgo (s : BA) (w : World) (hEV : EnvW w) :
  Calls Tryz.prog 159 #[.string s] w fun e w' => (∃ a cap n, e = .returned (.tuple #[.slice a (z0q s.data.toList).1.length cap, .int .i64 (z0q s.data.toList).2.1, .int .i64 (z0q s.data.toList).2.2]) /\ SlP w' (Fsh w.heap.size w') n (.slice a (z0q s.data.toList).1.length cap) (z0q s.data.toList).1) /\ Below w.heap.size w w' := by
 have o := z07 s
 by_cases hl : 2000 < s.size
 ·have HF := hid (zfb (l := s.data.toList) (by omega))
  have hB : (2000 : Int) < s.size := by omega
  clear hl o hEV
  go_enter Tryz.func159, Tryz.ntmps159
  go_wp2
  exact bodyPost_ret (v := .tuple #[.slice none 0 0, .int .i64 2, .int .i64 0]) (by simp [results, Tryz.results159, go_sem]) rfl (by
   rw [HF.out]; exact ⟨⟨none, 0, 0, rfl, Sl.nil _ _ _ _⟩, Below.refl _ _⟩)
 have hB : ¬ (2000 : Int) < s.size := by omega
 have F : Hid (s.size <= 2000) := hid (by omega);have HR : Hid (RdAt (w.alloc (.cells #[.string s, .int .i64 0, .int .i64 0, .int .i64 0] 234)) w.heap.size s 0 (0, 0)) := hid (z02 w #[.string s, .int .i64 0, .int .i64 0, .int .i64 0] 234);have HE : Hid (Env (w.alloc (.cells #[.string s, .int .i64 0, .int .i64 0, .int .i64 0] 234)) w.heap.size) := hid ⟨w, hEV, z04 _ _, Nat.le_refl _⟩
 have HC : Hid (Calls Tryz.prog 189 #[.pointer (some ⟨w.heap.size, 0, none⟩), .bool false] (w.alloc (.cells #[.string s, .int .i64 0, .int .i64 0, .int .i64 0] 234)) (zbh w.heap.size s 0 (w.alloc (.cells #[.string s, .int .i64 0, .int .i64 0, .int .i64 0] 234)) (readF s.data.toList))) :=
  hid ((ziz (s.data.toList.length + 1)).2 false 0 w.heap.size s (0, 0) _ F.out (by omega) ⟨Nat.zero_le _, .inl rfl⟩ (fun _ => by simp only; omega) HR.out HE.out)
 have Z := hid (zbw s.data.toList);have g : Hid ((readF s.data.toList).2.2 = 0 -> cntPs (readF s.data.toList).1 <= 2000) := hid (fun h => by have := zeo h; have := F.out; omega);have J : Hid (smPs 140737488351232 (readF s.data.toList).1) := hid (zg0 (by have := F.out; omega));have aa := hid hEV;have ah := hid (World.size_alloc w (.cells #[.string s, .int .i64 0, .int .i64 0, .int .i64 0] 234));have G := hid (z04 w (.cells #[.string s, .int .i64 0, .int .i64 0, .int .i64 0] 234));have i := hid (zed (l := s.data.toList));have I := hid o;have p : Hid (∀ E : St, endF s.data.toList (readF s.data.toList).2 = E -> E.2 ≠ 0 -> z0q s.data.toList = ([], E.2, E.1)) := hid (fun E h1 h2 => zgn (by omega) h1 h2);have r : Hid (∀ E : St, endF s.data.toList (readF s.data.toList).2 = E -> E.2 = 0 -> z13 (readF s.data.toList).1 ≠ 0 -> z0q s.data.toList = ([], z13 (readF s.data.toList).1, 0)) := hid (fun E h1 h2 h3 => zc5 (by omega) h1 h2 h3);have t : Hid (∀ E : St, endF s.data.toList (readF s.data.toList).2 = E -> E.2 = 0 -> z13 (readF s.data.toList).1 = 0 -> z0q s.data.toList = ((readF s.data.toList).1, 0, 0)) := hid (fun E h1 h2 h3 => parse_ok (by omega) h1 h2 h3);clear hl o hEV HR HE
 go_enter Tryz.func159, Tryz.ntmps159
 go_wp2_with fail
 generalize w.alloc (.cells #[.string s, .int .i64 0, .int .i64 0, .int .i64 0] 234) = w1 at *
 generalize readF s.data.toList = rd at *
 obtain ⟨xs, V⟩ := rd;simp only at Z g J i p r t;refine HC.out.mono ?_;rintro e w2 ⟨a, cap, n, rfl, L, M, af⟩;simp only at L M;obtain ⟨ln, u⟩ := nmd (xs.length);rw [<- u.out];have j := hid M;have x := hid af;have y : Hid (SlP w2 (Fsh w1.heap.size w2) n (.slice a xs.length cap) xs) := hid L;clear L M af HC
 have aq : w.heap.size < w1.heap.size := by rw [ah.out]; omega
 have k1 := j.out.c1
 by_cases hv : V.1 < s.size
 ·have N : (V.1 : Int) < s.size := by omega
  obtain ⟨E, d⟩ : ∃ E, Hid (endF s.data.toList V = E) := ⟨_, hid rfl⟩;have ai : Hid (failF s.data.toList V = E) := hid (by rw [<- d.out]; unfold endF; rw [if_pos (by rw [I.out]; exact hv)]);have O := hid (z5e w.heap.size s 0 V w2 F.out Z.out j.out);rw [ai.out] at O;clear hv
  go_wp2_with fail
  refine O.out.mono ?_;rintro e w3 ⟨rfl, ag, H⟩;have z := hid ag;have R := hid (x.out.trans H);have A : Hid (SlP w3 (Fsh w1.heap.size w3) n (.slice a xs.length cap) xs) := hid (SlP.keep y.out (fun b hb => H.block b hb.2 (fun e => by omega)) (fun b hb => ⟨hb.1, Nat.lt_of_lt_of_le hb.2 H.size⟩));clear ag H O j x y k1;have c3 := z.out.c3;have c1 := z.out.c1;have f : Hid (Below w.heap.size w w3) := hid (z9m G.out R.out)
  by_cases he0 : E.2 = 0
  ·have B := hid (i.out (by rw [d.out]; exact he0))
   have T := hid (g.out B.out.1);rw [he0] at c3;simp only [Int.natCast_zero] at c3;have k := hid (z2u n w3 a cap xs (SlP.keep A.out (fun _ _ => rfl) (fun b hb => hb.2)) T.out J.out (aa.out.below f.out));rw [<- u.out] at k;have C := hid (r.out E d.out he0);have D := hid (t.out E d.out he0);clear p r t he0 i g B
   generalize z13 xs = q at *
   by_cases hq : q = 0
   ·have HF := hid (D.out hq)
    subst hq
    go_wp2_with fail
    refine k.out.mono ?_;rintro e w4 ⟨rfl, c⟩;have m := hid (z00 f.out c);have U : Hid (SlP w4 (Fsh w.heap.size w4) n (.slice a xs.length cap) xs) := hid (SlP.keep A.out (fun b hb => c.block b hb.2) (fun b hb => ⟨by have := G.out.size; omega, Nat.lt_of_lt_of_le hb.2 c.size⟩));clear c c3 c1;go_wp2
    exact bodyPost_ret (v := .tuple #[.slice a ln cap, .int .i64 0, .int .i64 0]) (by simp [results, Tryz.results159, go_sem]) rfl (by
     rw [HF.out, u.out]; exact ⟨⟨a, cap, n, rfl, U.out⟩, m.out⟩)
   ·have HF := hid (C.out hq)
    have X : ((q : Int) != 0) = true := by simp; omega
    clear hq
    go_wp2_with fail
    refine k.out.mono ?_;rintro e w4 ⟨rfl, c⟩;have m := hid (z00 f.out c);clear c c3 c1;go_wp2
    exact bodyPost_ret (v := .tuple #[.slice none 0 0, .int .i64 q, .int .i64 0]) (by simp [results, Tryz.results159, go_sem]) rfl (by
     rw [HF.out]; exact ⟨⟨none, 0, 0, rfl, Sl.nil _ _ _ _⟩, m.out⟩)
  ·have HF := hid (p.out E d.out he0)
   have X : ((E.2 : Int) != 0) = true := by simp; omega
   clear he0;go_wp2
   go_quiet (fail)
   go_wp2
   exact bodyPost_ret (v := .tuple #[.slice none 0 0, .int .i64 E.2, .int .i64 E.1]) (by simp [results, Tryz.results159, go_sem]) rfl (by
    rw [HF.out]; exact ⟨⟨none, 0, 0, rfl, Sl.nil _ _ _ _⟩, z0f f.out _⟩)
 ·have N : ¬ (V.1 : Int) < s.size := by omega
  obtain ⟨E, Y⟩ := nmd (V);have d : Hid (endF s.data.toList V = E) := hid (by rw [Y.out]; unfold endF; rw [if_neg (by rw [I.out]; exact hv)]);rw [<- Y.out] at j
  have ar : ¬ (E.1 : Int) < s.size := by rw [Y.out]; exact N
  obtain ⟨w3, aj⟩ := nmd (w2);rw [<- aj.out] at j x y k1 ⊢;have z := j;have R := x;have A := y;clear hv k1 j x y N;have c3 := z.out.c3;have c1 := z.out.c1;have f : Hid (Below w.heap.size w w3) := hid (z9m G.out R.out)
  by_cases he0 : E.2 = 0
  ·have B := hid (i.out (by rw [d.out]; exact he0))
   have T := hid (g.out B.out.1);rw [he0] at c3;simp only [Int.natCast_zero] at c3;have k := hid (z2u n w3 a cap xs (SlP.keep A.out (fun _ _ => rfl) (fun b hb => hb.2)) T.out J.out (aa.out.below f.out));rw [<- u.out] at k;have C := hid (r.out E d.out he0);have D := hid (t.out E d.out he0);clear p r t he0 i g B
   generalize z13 xs = q at *
   by_cases hq : q = 0
   ·have HF := hid (D.out hq)
    subst hq
    go_wp2_with fail
    refine k.out.mono ?_;rintro e w4 ⟨rfl, c⟩;have m := hid (z00 f.out c);have U : Hid (SlP w4 (Fsh w.heap.size w4) n (.slice a xs.length cap) xs) := hid (SlP.keep A.out (fun b hb => c.block b hb.2) (fun b hb => ⟨by have := G.out.size; omega, Nat.lt_of_lt_of_le hb.2 c.size⟩));clear c c3 c1;go_wp2
    exact bodyPost_ret (v := .tuple #[.slice a ln cap, .int .i64 0, .int .i64 0]) (by simp [results, Tryz.results159, go_sem]) rfl (by
     rw [HF.out, u.out]; exact ⟨⟨a, cap, n, rfl, U.out⟩, m.out⟩)
   ·have HF := hid (C.out hq)
    have X : ((q : Int) != 0) = true := by simp; omega
    clear hq
    go_wp2_with fail
    refine k.out.mono ?_;rintro e w4 ⟨rfl, c⟩;have m := hid (z00 f.out c);clear c c3 c1;go_wp2
    exact bodyPost_ret (v := .tuple #[.slice none 0 0, .int .i64 q, .int .i64 0]) (by simp [results, Tryz.results159, go_sem]) rfl (by
     rw [HF.out]; exact ⟨⟨none, 0, 0, rfl, Sl.nil _ _ _ _⟩, m.out⟩)
  ·have HF := hid (p.out E d.out he0)
   have X : ((E.2 : Int) != 0) = true := by simp; omega
   clear he0;go_wp2
   go_quiet (fail)
   go_wp2
   exact bodyPost_ret (v := .tuple #[.slice none 0 0, .int .i64 E.2, .int .i64 E.1]) (by simp [results, Tryz.results159, go_sem]) rfl (by
    rw [HF.out]; exact ⟨⟨none, 0, 0, rfl, Sl.nil _ _ _ _⟩, z0f f.out _⟩)
end Go.Proofs.YtdkkkeoicekdgaaGreatDoor

end

section

namespace Go.Proofs.YtdkkkeoicekdgaaGreatDoor.Dr
set_option maxHeartbeats 3200000
set_option maxRecDepth 100000
open Go.Lib (hid)
open Go.RowKit Go.Proofs.YtdkkkeoicekdgaaGreatDoor
theorem cnt_take {xs : List Pt} {k : Nat} {x : Pt} (h : xs[k]? = some x) : cntPs (xs.take (k + 1)) = cntPs (xs.take k) + 1 + cntCs x.cs := by rw [take_one h, z8e, z9k]; omega
theorem cnt_le (xs : List Pt) (k : Nat) : cntPs (xs.take k) <= cntPs xs := by
 rw [z1y, z1y xs, List.length_take];have := zbl xs k
 omega
def z64 (n : Nat) : Prop := ∀ (w : World) (a : Option Addr) (cap m : Nat) (xs : List Pt), SlP w (Old w) n (.slice a xs.length cap) xs -> 1 <= m -> m <= 1001 -> cntPs xs <= 2000 ->
 Calls Tryz.prog 231 #[.slice a xs.length cap, .int .i64 m] w fun e w' => e = .returned (.int .i64 (min (cntPs xs) m : Nat)) /\ Below w.heap.size w w'
theorem z77 (n : Nat) (HV : ∀ q, q < n -> z64 q) : z64 n := by
 intro w a cap m xs hxs hm1 hm2 hcn;have o := zch xs;obtain ⟨L, HL⟩ := nmd (xs.length);rw [<- HL.out] at hxs o ⊢
 have az : L <= 2000 := by omega
 have HX := hid hxs;have Y := hid HV;have Z := hid hcn;have aa := hid hm1;have aA := hid o;clear hxs HV hcn hm1 o
 go_enter Tryz.func231, Tryz.ntmps231
 go_wp2
 go_loopw [5, 12] (fun v i wr => ∃ k N : Nat, k <= L /\ i = .int .i64 k /\ v = .int .i64 N /\ N < m /\ Hid (N = min (cntPs (xs.take k)) m) /\ Hid (Below w.heap.size w wr)) (fun _ i _ => L - (intOf i).toNat)
 case atStart => exact ⟨0, 0, Nat.zero_le _, rfl, rfl, aa.out, hid (by simp [cntPs]), hid (Below.refl _ _)⟩
 case round =>
  obtain ⟨k, N, hk, rfl, rfl, hN, HN, HB⟩ := hrel
  by_cases hlt : k < L
  ·obtain ⟨x, hx⟩ : ∃ x, xs[k]? = some x := ⟨_, List.getElem?_eq_getElem (by have := HL.out; omega)⟩
   obtain ⟨b, aB, rfl, -, H⟩ := (HX.out.old HB.out).at_ hx;obtain ⟨h0, h1, h2, q, a1, p1, I, h3, f⟩ := H.p;have s := hid (cnt_take hx);have J := hid (cnt_le xs (k + 1));obtain ⟨pk, pt, pn, cs⟩ := x;simp only [Pt.k, Pt.t, Pt.n, Pt.cs] at h0 h1 h2 h3 f s;have af := f.lenle;obtain ⟨L1, u⟩ := nmd (cs.length);rw [<- u.out] at h3 f af;have R := z02 wr #[.int .i64 pk, .string pt, .string pn, .slice a1 L1 p1] 263;have g3 := R.c3;have M : Hid (Below w.heap.size w (wr.alloc (.cells #[.int .i64 pk, .string pt, .string pn, .slice a1 L1 p1] 263))) := hid (z00 HB.out (z04 _ _));have ag : Hid (SlC (wr.alloc (.cells #[.int .i64 pk, .string pt, .string pn, .slice a1 L1 p1] 263)) (Old (wr.alloc (.cells #[.int .i64 pk, .string pt, .string pn, .slice a1 L1 p1] 263))) q (.slice a1 L1 p1) cs) := hid (f.old (z04 _ _));have ah := hid I;clear R H f hx I HX;go_wp2
   generalize wr.alloc (.cells #[.int .i64 pk, .string pt, .string pn, .slice a1 L1 p1] 263) = w3 at *
   clear g3 h0 h1 h2 h3 HB
   go_loopw [5, 21] (fun v i wr => ∃ j N : Nat, j <= L1 /\ i = .int .i64 j /\ v = .int .i64 N /\ N <= m /\ Hid (N = min (cntPs (xs.take k) + 1 + cntCs (cs.take j)) m) /\ Hid (Below w.heap.size w wr) /\ Hid (Below w3.heap.size w3 wr)) (fun _ i _ => L1 - (intOf i).toNat)
   case atStart => exact ⟨0, N + 1, Nat.zero_le _, by go_num, by go_num, by omega, hid (by rw [List.take_zero, cntCs]; have := HN.out; omega), M, hid (Below.refl _ _)⟩
   case round =>
    obtain ⟨j, N2, hj, rfl, rfl, ai, z, h, A⟩ := hrel;clear M HN
    by_cases hlj : j < L1
    ·obtain ⟨y, hy⟩ : ∃ y, cs[j]? = some y := ⟨_, List.getElem?_eq_getElem (by have := u.out; omega)⟩
     obtain ⟨b2, ay, rfl, aj, l⟩ := (ag.out.old A.out).at_ hy;obtain ⟨i0, a3, p3, i1, B⟩ := l.c;have O := hid (zha hy);have C := hid (z5q hy);obtain ⟨key, kids⟩ := y;simp only [Cs.key, Cs.kids] at i0 i1 B O C;have aq := zch kids
     have ar : Hid (cntPs kids <= 2000) := hid (by
      have h1 := O.out;have h2 := s.out;have h3 := J.out;have h4 := Z.out
      omega)
     obtain ⟨L3, D⟩ := nmd (kids.length);have g := B.old (z04 _ (.cells #[.string key, .slice a3 kids.length p3] 284));rw [<- D.out] at i1 g;have R := z02 wr #[.string key, .slice a3 L3 p3] 284;have g0 := R.c0;have g1 := R.c1;have T : Hid (Below w.heap.size w (wr.alloc (.cells #[.string key, .slice a3 L3 p3] 284))) := hid (z00 h.out (z04 _ _));have U : Hid (Below w3.heap.size w3 (wr.alloc (.cells #[.string key, .slice a3 L3 p3] 284))) := hid (z00 A.out (z04 _ _));have V := hid g;clear R l B g hy aj aq h A
     by_cases hfull : N2 < m
     ·obtain ⟨r, HR⟩ := nmd (m - N2)
      have aC : (m : Int) - (N2 : Int) = (r : Int) := by have := HR.out; omega
      have d := hid (Y.out q (by have := ah.out; omega) (wr.alloc (.cells #[.string key, .slice a3 L3 p3] 284)) a3 p3 r kids (by rw [<- D.out]; exact V.out) (by have := HR.out; omega) (by have := HR.out; omega) ar.out);rw [<- D.out] at d;obtain ⟨N3, E⟩ := nmd (min (cntPs kids) r);rw [<- E.out] at d
      have au : N2 + N3 <= m := by have h1 := E.out; have h2 := HR.out; omega
      have F : Hid (N2 + N3 = min (cntPs (xs.take k) + 1 + cntCs (cs.take (j + 1))) m) := hid (by
       have h1 := E.out; have h2 := HR.out; have h3 := z.out; have h4 := C.out; omega)
      go_wp2_with fail
      generalize wr.alloc (.cells #[.string key, .slice a3 L3 p3] 284) = w4 at *
      refine d.out.mono ?_;rintro e w5 ⟨rfl, G⟩;have aw := hid (z00 T.out G);have ax := hid (z00 U.out G);clear G g0 g1 d V;go_wp2;go_roundw
      case rel => exact ⟨j + 1, N2 + N3, by omega, by go_num, by go_num, au, F, aw, ax⟩
      case measure => simp [intOf]; omega
     ·have F : Hid (N2 = min (cntPs (xs.take k) + 1 + cntCs (cs.take (j + 1))) m) := hid (by
       have h3 := z.out; have h4 := C.out; omega)
      go_wp2;go_roundw
      case rel => exact ⟨j + 1, N2, by omega, by go_num, rfl, ai, F, T, U⟩
      case measure => simp [intOf]; omega
    ·have X : Hid (N2 = min (cntPs (xs.take (k + 1))) m) := hid (by
      have h1 := z.out;have h2 : cs.take j = cs := List.take_of_length_le (by have := u.out; omega);rw [h2] at h1
      rw [s.out]; exact h1)
     by_cases hfull : N2 < m
     ·go_wp2
      go_roundw
      case rel => exact ⟨k + 1, N2, by omega, by go_num, rfl, hfull, X, h⟩
      case measure => simp [intOf]; omega
     ·have HF : Hid (min (cntPs xs) m = m) := hid (by have h1 := X.out; have h2 := J.out; omega)
      go_wp2;go_ret;exact ⟨z3v (by have := HF.out; omega), h.out⟩
  ·have HF : Hid (min (cntPs xs) m = N) := hid (by have h1 := HN.out; rw [List.take_of_length_le (by have := HL.out; omega)] at h1; exact h1.symm)
   go_wp2;go_ret;exact ⟨z3v (by have := HF.out; omega), HB.out⟩
theorem many_any : ∀ n, z64 n := fun n => by
 induction n using Nat.strongRecOn with
 | _ n ih => exact z77 n ih
theorem zef : ∀ xs ys : List Pt, dpPs (xs ++ ys) = max (dpPs xs) (dpPs ys)
 | [], ys => by simp [dpPs]
 | x :: r, ys => by rw [List.cons_append, dpPs, dpPs, zef r ys]; omega
theorem zeg : ∀ xs ys : List Cs, dpCs (xs ++ ys) = max (dpCs xs) (dpCs ys)
 | [], ys => by simp [dpCs]
 | x :: r, ys => by rw [List.cons_append, dpCs, dpCs, zeg r ys]; omega
theorem dp_le (xs : List Pt) (k : Nat) : dpPs (xs.take k) <= dpPs xs := by
 have h := zef (xs.take k) (xs.drop k);rw [List.take_append_drop] at h
 omega
theorem dpC_le (xs : List Cs) (k : Nat) : dpCs (xs.take k) <= dpCs xs := by
 have h := zeg (xs.take k) (xs.drop k);rw [List.take_append_drop] at h
 omega
def z66 (n : Nat) : Prop := ∀ (w : World) (a : Option Addr) (cap m : Nat) (xs : List Pt), SlP w (Old w) n (.slice a xs.length cap) xs -> dpPs xs < m -> m <= 33 ->
 Calls Tryz.prog 232 #[.slice a xs.length cap, .int .i64 m] w fun e w' => e = .returned (.int .i64 (dpPs xs : Nat)) /\ Below w.heap.size w w'
theorem z7e (n : Nat) (HV : ∀ q, q < n -> z66 q) : z66 n := by
 intro w a cap m xs hxs hm1 hm2;have Z := hxs.lenle;obtain ⟨L, HL⟩ := nmd (xs.length);rw [<- HL.out] at hxs Z ⊢;have HX := hid hxs;have aa := hid HV;have af := hid hm1;clear hxs HV hm1
 go_enter Tryz.func232, Tryz.ntmps232
 go_wp2
 go_loopw [5, 13] (fun v i wr => ∃ k N : Nat, k <= L /\ i = .int .i64 k /\ v = .int .i64 N /\ Hid (N = dpPs (xs.take k)) /\ Hid (Below w.heap.size w wr)) (fun _ i _ => L - (intOf i).toNat)
 case atStart => exact ⟨0, 0, Nat.zero_le _, rfl, rfl, hid (by simp [dpPs]), hid (Below.refl _ _)⟩
 case round =>
  obtain ⟨k, N, hk, rfl, rfl, HN, HB⟩ := hrel
  by_cases hlt : k < L
  ·obtain ⟨x, hx⟩ : ∃ x, xs[k]? = some x := ⟨_, List.getElem?_eq_getElem (by have := HL.out; omega)⟩
   obtain ⟨b, aw, rfl, -, O⟩ := (HX.out.old HB.out).at_ hx;obtain ⟨h0, h1, h2, q, a1, p1, T, h3, g⟩ := O.p;have u := hid (zb6 hx);have ag := hid (dp_le xs (k + 1));obtain ⟨pk, pt, pn, cs⟩ := x;simp only [Pt.k, Pt.t, Pt.n, Pt.cs] at h0 h1 h2 h3 g u;have ah := g.lenle;obtain ⟨L1, z⟩ := nmd (cs.length);rw [<- z.out] at h3 g ah;have R := z02 wr #[.int .i64 pk, .string pt, .string pn, .slice a1 L1 p1] 263;have g3 := R.c3;have U : Hid (Below w.heap.size w (wr.alloc (.cells #[.int .i64 pk, .string pt, .string pn, .slice a1 L1 p1] 263))) := hid (z00 HB.out (z04 _ _));have ai : Hid (SlC (wr.alloc (.cells #[.int .i64 pk, .string pt, .string pn, .slice a1 L1 p1] 263)) (Old (wr.alloc (.cells #[.int .i64 pk, .string pt, .string pn, .slice a1 L1 p1] 263))) q (.slice a1 L1 p1) cs) := hid (g.old (z04 _ _));have aj := hid T;clear R O g hx T HX;go_wp2
   generalize wr.alloc (.cells #[.int .i64 pk, .string pt, .string pn, .slice a1 L1 p1] 263) = w3 at *
   clear g3 h0 h1 h2 h3 HB
   go_loopw [5, 20] (fun v i wr => ∃ j N : Nat, j <= L1 /\ i = .int .i64 j /\ v = .int .i64 N /\ Hid (N = max (dpPs (xs.take k)) (dpCs (cs.take j))) /\ Hid (Below w.heap.size w wr) /\ Hid (Below w3.heap.size w3 wr)) (fun _ i _ => L1 - (intOf i).toNat)
   case atStart => exact ⟨0, N, Nat.zero_le _, by go_num, rfl, hid (by rw [List.take_zero, dpCs]; have := HN.out; omega), U, hid (Below.refl _ _)⟩
   case round =>
    obtain ⟨j, N2, hj, rfl, rfl, A, B, C⟩ := hrel;clear U HN
    by_cases hlj : j < L1
    ·obtain ⟨y, hy⟩ : ∃ y, cs[j]? = some y := ⟨_, List.getElem?_eq_getElem (by have := z.out; omega)⟩
     obtain ⟨b2, au, rfl, aq, s⟩ := (ai.out.old C.out).at_ hy;obtain ⟨i0, a3, p3, i1, E⟩ := s.c;have l := hid (zb7 hy);have V := hid (dpC_le cs (j + 1));obtain ⟨key, kids⟩ := y;simp only [Cs.key, Cs.kids] at i0 i1 E l
     have F : Hid (dpPs kids + 1 < m) := hid (by
      have h1 := V.out;have h2 := l.out;have h3 := u.out;have h4 := ag.out;have h5 := af.out
      omega)
     obtain ⟨L3, G⟩ := nmd (kids.length);have h := E.old (z04 _ (.cells #[.string key, .slice a3 kids.length p3] 284));rw [<- G.out] at i1 h;have R := z02 wr #[.string key, .slice a3 L3 p3] 284;have g0 := R.c0;have g1 := R.c1;have X : Hid (Below w.heap.size w (wr.alloc (.cells #[.string key, .slice a3 L3 p3] 284))) := hid (z00 B.out (z04 _ _));have Y : Hid (Below w3.heap.size w3 (wr.alloc (.cells #[.string key, .slice a3 L3 p3] 284))) := hid (z00 C.out (z04 _ _));have H := hid h;clear R s E h hy aq B C;obtain ⟨r, HR⟩ := nmd (m - 1)
     have ax : 1 < m := by have := F.out; omega
     have ay : (m : Int) - 1 = (r : Int) := by have := HR.out; omega
     have d := hid (aa.out q (by have := aj.out; omega) (wr.alloc (.cells #[.string key, .slice a3 L3 p3] 284)) a3 p3 r kids (by rw [<- G.out]; exact H.out) (by have h1 := HR.out; have h2 := F.out; omega) (by have := HR.out; omega));rw [<- G.out] at d;obtain ⟨N3, o⟩ := nmd (dpPs kids);rw [<- o.out] at d
     have az : N3 <= 33 := by have h1 := o.out; have h2 := F.out; omega
     obtain ⟨D, HD⟩ := nmd (N3 + 1)
     have aA : 1 + (N3 : Int) = (D : Int) := by have := HD.out; omega
     by_cases hup : N2 < D
     ·have I : Hid (D = max (dpPs (xs.take k)) (dpCs (cs.take (j + 1)))) := hid (by
       have h1 := o.out; have h2 := HD.out; have h3 := A.out; have h4 := l.out; omega)
      go_wp2_with fail
      generalize wr.alloc (.cells #[.string key, .slice a3 L3 p3] 284) = w4 at *
      refine d.out.mono ?_;rintro e w5 ⟨rfl, f⟩;have J := hid (z00 X.out f);have M := hid (z00 Y.out f);clear f g0 g1 d H;go_wp2;go_roundw
      case rel => exact ⟨j + 1, D, by omega, by go_num, rfl, I, J, M⟩
      case measure => simp [intOf]; omega
     ·have I : Hid (N2 = max (dpPs (xs.take k)) (dpCs (cs.take (j + 1)))) := hid (by
       have h1 := o.out; have h2 := HD.out; have h3 := A.out; have h4 := l.out; omega)
      go_wp2_with fail
      generalize wr.alloc (.cells #[.string key, .slice a3 L3 p3] 284) = w4 at *
      refine d.out.mono ?_;rintro e w5 ⟨rfl, f⟩;have J := hid (z00 X.out f);have M := hid (z00 Y.out f);clear f g0 g1 d H;go_wp2;go_roundw
      case rel => exact ⟨j + 1, N2, by omega, by go_num, rfl, I, J, M⟩
      case measure => simp [intOf]; omega
    ·have ar : Hid (N2 = dpPs (xs.take (k + 1))) := hid (by
      have h1 := A.out;have h2 : cs.take j = cs := List.take_of_length_le (by have := z.out; omega);rw [h2] at h1
      rw [u.out]; exact h1)
     go_wp2;go_roundw
     case rel => exact ⟨k + 1, N2, by omega, by go_num, rfl, ar, B⟩
     case measure => simp [intOf]; omega
  ·have HF : Hid (dpPs xs = N) := hid (by have h1 := HN.out; rw [List.take_of_length_le (by have := HL.out; omega)] at h1; exact h1.symm)
   go_wp2;go_ret;exact ⟨z3v (by have := HF.out; omega), HB.out⟩
theorem deep_any : ∀ n, z66 n := fun n => by
 induction n using Nat.strongRecOn with
 | _ n ih => exact z7e n ih
end Go.Proofs.YtdkkkeoicekdgaaGreatDoor.Dr

end
