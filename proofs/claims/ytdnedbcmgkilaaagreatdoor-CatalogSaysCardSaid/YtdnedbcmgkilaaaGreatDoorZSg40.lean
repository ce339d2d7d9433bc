/- Parse, at every string. -/
import Derived.Test.YtdnedbcmgkilaaaGreatDoorZSg28
import Derived.Test.YtdnedbcmgkilaaaGreatDoorZSRh

section

namespace Go.Proofs.YtdnedbcmgkilaaaGreatDoor
set_option maxHeartbeats 3200000
set_option maxRecDepth 100000
open Go.Lib (hid)
open Go.RowKit
theorem zak {m : Nat} : ∀ {xs : List Pt} {x : Pt}, smPs m xs -> smP m x -> smPs m (xs ++ [x])
 | [], x, _, h => by show smPs m [x]; rw [smPs]; exact ⟨h, by rw [smPs]; trivial⟩
 | y :: r, x, hs, h => by rw [smPs] at hs; show smPs m (y :: (r ++ [x])); rw [smPs]; exact ⟨hs.1, zak hs.2 h⟩
theorem zal {m : Nat} : ∀ {xs : List Cs} {x : Cs}, smCs m xs -> smC m x -> smCs m (xs ++ [x])
 | [], x, _, h => by show smCs m [x]; rw [smCs]; exact ⟨h, by rw [smCs]; trivial⟩
 | y :: r, x, hs, h => by rw [smCs] at hs; show smCs m (y :: (r ++ [x])); rw [smCs]; exact ⟨hs.1, zal hs.2 h⟩
theorem z4x (l : List UInt8) : (ba l).size = l.length := by show l.toArray.size = _; simp
theorem z9c (l : List UInt8) (p : List UInt8 -> Bool) (S : St) : (longF l p S).1.length <= l.length := by
 unfold longF
 split
 ·split
  ·simp
  ·simp; omega
 ·simp
theorem key_len (l : List UInt8) (S : St) : (keyF l S).1.length <= l.length + 1 := by
 unfold keyF
 split
 ·have := z9c l numB (wordF l [61] S); simp; omega
 ·have := z9c l nameB S; omega
theorem zgo {l : List UInt8} {m : Nat} (hm : l.length + 1 <= m) : ∀ f, (∀ h o acc S, smPs m acc -> smPs m (z09 l f h o acc S).1) /\ (∀ h o acc b, smCs m acc -> smCs m (z08 l f h o acc b).1)
 | 0 => ⟨fun h o acc S hs => by rw [z09]; exact hs, fun h o acc b hs => by rw [z08]; exact hs⟩
 | f + 1 => by
  obtain ⟨ih1, ih2⟩ := zgo hm f
  have hnil : smCs m [] := by rw [smCs]; trivial
  have hnil2 : smPs m [] := by rw [smPs]; trivial
  refine ⟨fun h o acc S hs => ?_, fun h o acc b hs => ?_⟩
  ·rw [z09]
   split
   ·refine ih1 _ _ _ _ (zak hs ?_)
    rw [zgp]
    unfold partG
    split
    ·have hn := z9c l nameB (wordF l [123] S)
     unfold holeG
     simp only
     split
     ·exact ⟨by show (ba _).size <= m; rw [z4x]; omega, ih2 _ _ _ _ hnil⟩
     ·split
      ·exact ⟨by show (ba _).size <= m; rw [z4x]; omega, ih2 _ _ _ _ hnil⟩
      ·exact ⟨by show (ba _).size <= m; rw [z4x]; omega, hnil⟩
    ·split
     ·exact ⟨Nat.zero_le _, hnil⟩
     ·exact ⟨Nat.zero_le _, hnil⟩
   ·exact hs
  ·rw [z08]
   split
   ·refine ih2 _ _ _ _ (zal hs ?_)
    rw [zdt]
    have hn := key_len l b.2
    unfold z15
    exact ⟨by show (ba _).size <= m; rw [z4x]; omega, ih1 _ _ _ _ hnil2⟩
   ·exact hs
theorem zcd {l : List UInt8} {m : Nat} (hm : l.length + 1 <= m) : smPs m (readF l).1 := (zgo hm (l.length + 1)).1 false 0 [] (0, 0) (by rw [smPs]; trivial)
theorem z9y {w w1 w3 : World} (hb : Below w.heap.size w w1) (hf : Fr (· = w.heap.size) w1 w3) : Below w.heap.size w w3 := Fr.to_below hb hf (Nat.le_refl _)
theorem z5s {l : List UInt8} (h : 2000 < l.length) : z03 l = ([], 2, 0) := by unfold z03; rw [if_pos h]
theorem z74 {l : List UInt8} (h : ¬ 2000 < l.length) {E : St} (hE : endF l (readF l).2 = E) (h2 : E.2 ≠ 0) : z03 l = ([], E.2, E.1) := by subst hE; unfold z03; rw [if_neg h, if_pos h2]
theorem zcu {l : List UInt8} (h : ¬ 2000 < l.length) {E : St} (hE : endF l (readF l).2 = E) (h2 : E.2 = 0) (h3 : z0k (readF l).1 ≠ 0) : z03 l = ([], z0k (readF l).1, 0) := by subst hE; unfold z03; rw [if_neg h, if_neg (by simpa using h2), if_pos h3]
theorem z0u {l : List UInt8} (h : ¬ 2000 < l.length) {E : St} (hE : endF l (readF l).2 = E) (h2 : E.2 = 0) (h3 : z0k (readF l).1 = 0) : z03 l = ((readF l).1, 0, 0) := by subst hE; unfold z03; rw [if_neg h, if_neg (by simpa using h2), if_neg (by simpa using h3)]
theorem z5e (s : BA) (w : World) (hEV : EnvW w) :
  Calls Tryz.prog 44 #[.string s] w fun e w' => (∃ a cap n, e = .returned (.tuple #[.slice a (z03 s.data.toList).1.length cap, .int .i64 (z03 s.data.toList).2.1, .int .i64 (z03 s.data.toList).2.2]) /\ SlP w' (Fsh w.heap.size w') n (.slice a (z03 s.data.toList).1.length cap) (z03 s.data.toList).1) /\ Below w.heap.size w w' := by
 have hlen := z05 s
 by_cases hl : 2000 < s.size
 ·have HF := hid (z5s (l := s.data.toList) (by omega))
  have hB : (2000 : Int) < s.size := by omega
  clear hl hlen hEV
  go_enter Tryz.func44, Tryz.ntmps44
  go_wp2
  exact bodyPost_ret (v := .tuple #[.slice none 0 0, .int .i64 2, .int .i64 0]) (by simp [results, Tryz.results44, go_sem]) rfl (by
   rw [HF.out]; exact ⟨⟨none, 0, 0, rfl, Sl.nil _ _ _ _⟩, Below.refl _ _⟩)
 have hB : ¬ (2000 : Int) < s.size := by omega
 have HSZ : Hid (s.size <= 2000) := hid (by omega)
 have HR : Hid (RdAt (w.alloc (.cells #[.string s, .int .i64 0, .int .i64 0, .int .i64 0] 109)) w.heap.size s 0 (0, 0)) := hid (z04 w #[.string s, .int .i64 0, .int .i64 0, .int .i64 0] 109)
 have HE : Hid (Env (w.alloc (.cells #[.string s, .int .i64 0, .int .i64 0, .int .i64 0] 109)) w.heap.size) := hid ⟨w, hEV, z02 _ _, Nat.le_refl _⟩
 have HC : Hid (Calls Tryz.prog 78 #[.pointer (some ⟨w.heap.size, 0, none⟩), .bool false] (w.alloc (.cells #[.string s, .int .i64 0, .int .i64 0, .int .i64 0] 109)) (zc4 w.heap.size s 0 (w.alloc (.cells #[.string s, .int .i64 0, .int .i64 0, .int .i64 0] 109)) (readF s.data.toList))) :=
  hid ((zjk (s.data.toList.length + 1)).2 false 0 w.heap.size s (0, 0) _ HSZ.out (by omega) ⟨Nat.zero_le _, .inl rfl⟩ (fun _ => by simp only; omega) HR.out HE.out)
 have HWF := hid (zco s.data.toList)
 have HCNT : Hid ((readF s.data.toList).2.2 = 0 -> cntPs (readF s.data.toList).1 <= 2000) := hid (fun h => by have := z9v h; have := HSZ.out; omega)
 have HSM : Hid (smPs 140737488351232 (readF s.data.toList).1) := hid (zcd (by have := HSZ.out; omega))
 have HEV := hid hEV
 have HZ1 := hid (World.size_alloc w (.cells #[.string s, .int .i64 0, .int .i64 0, .int .i64 0] 109))
 have HB1 := hid (z02 w (.cells #[.string s, .int .i64 0, .int .i64 0, .int .i64 0] 109))
 have HEND := hid (z9q (l := s.data.toList))
 have HLEN := hid hlen
 have HG1 : Hid (∀ E : St, endF s.data.toList (readF s.data.toList).2 = E -> E.2 ≠ 0 -> z03 s.data.toList = ([], E.2, E.1)) := hid (fun E h1 h2 => z74 (by omega) h1 h2)
 have HG2 : Hid (∀ E : St, endF s.data.toList (readF s.data.toList).2 = E -> E.2 = 0 -> z0k (readF s.data.toList).1 ≠ 0 -> z03 s.data.toList = ([], z0k (readF s.data.toList).1, 0)) := hid (fun E h1 h2 h3 => zcu (by omega) h1 h2 h3)
 have HG3 : Hid (∀ E : St, endF s.data.toList (readF s.data.toList).2 = E -> E.2 = 0 -> z0k (readF s.data.toList).1 = 0 -> z03 s.data.toList = ((readF s.data.toList).1, 0, 0)) := hid (fun E h1 h2 h3 => z0u (by omega) h1 h2 h3)
 clear hl hlen hEV HR HE
 go_enter Tryz.func44, Tryz.ntmps44
 go_wp2_with fail
 generalize w.alloc (.cells #[.string s, .int .i64 0, .int .i64 0, .int .i64 0] 109) = w1 at *
 generalize readF s.data.toList = rd at *
 obtain ⟨xs, V⟩ := rd
 simp only at HWF HCNT HSM HEND HG1 HG2 HG3
 refine HC.out.mono ?_
 rintro e w2 ⟨a, cap, n, rfl, hsl, hr2, hf2⟩
 simp only at hsl hr2
 obtain ⟨ln, HLL⟩ : ∃ ln, Hid (ln = xs.length) := ⟨_, hid rfl⟩
 rw [<- HLL.out]
 have HR2 := hid hr2
 have HF2 := hid hf2
 have HS2 : Hid (SlP w2 (Fsh w1.heap.size w2) n (.slice a xs.length cap) xs) := hid hsl
 clear hsl hr2 hf2 HC
 have hlw1 : w.heap.size < w1.heap.size := by rw [HZ1.out]; omega
 have k1 := HR2.out.c1
 by_cases hv : V.1 < s.size
 ·have hBv : (V.1 : Int) < s.size := by omega
  obtain ⟨E, HEE⟩ : ∃ E, Hid (endF s.data.toList V = E) := ⟨_, hid rfl⟩
  have HFE : Hid (failF s.data.toList V = E) := hid (by rw [<- HEE.out]; unfold endF; rw [if_pos (by rw [HLEN.out]; exact hv)])
  have HFL := hid (z5h w.heap.size s 0 V w2 HSZ.out HWF.out HR2.out)
  rw [HFE.out] at HFL
  clear hv
  go_wp2_with fail
  refine HFL.out.mono ?_
  rintro e w3 ⟨rfl, hr3, hf3⟩
  have HR3 := hid hr3
  have HF3 := hid (HF2.out.trans hf3)
  have HS3 : Hid (SlP w3 (Fsh w1.heap.size w3) n (.slice a xs.length cap) xs) := hid (SlP.keep HS2.out (fun b hb => hf3.block b hb.2 (fun e => by omega)) (fun b hb => ⟨hb.1, Nat.lt_of_lt_of_le hb.2 hf3.size⟩))
  clear hr3 hf3 HFL HR2 HF2 HS2 k1
  have c3 := HR3.out.c3
  have c1 := HR3.out.c1
  have HB3 : Hid (Below w.heap.size w w3) := hid (z9y HB1.out HF3.out)
  by_cases he0 : E.2 = 0
  ·have HL0 := hid (HEND.out (by rw [HEE.out]; exact he0))
   have HCN := hid (HCNT.out HL0.out.1)
   rw [he0] at c3
   simp only [Int.natCast_zero] at c3
   have HRI := hid (z1o n w3 a cap xs (SlP.keep HS3.out (fun _ _ => rfl) (fun b hb => hb.2)) HCN.out HSM.out (HEV.out.below HB3.out))
   rw [<- HLL.out] at HRI
   have HG22 := hid (HG2.out E HEE.out he0)
   have HG33 := hid (HG3.out E HEE.out he0)
   clear HG1 HG2 HG3 he0 HEND HCNT HL0
   generalize z0k xs = q at *
   by_cases hq : q = 0
   ·have HF := hid (HG33.out hq)
    subst hq
    go_wp2_with fail
    refine HRI.out.mono ?_
    rintro e w4 ⟨rfl, hb4⟩
    have HB4 := hid (z00 HB3.out hb4)
    have HS4 : Hid (SlP w4 (Fsh w.heap.size w4) n (.slice a xs.length cap) xs) := hid (SlP.keep HS3.out (fun b hb => hb4.block b hb.2) (fun b hb => ⟨by have := HB1.out.size; omega, Nat.lt_of_lt_of_le hb.2 hb4.size⟩))
    clear hb4 c3 c1
    go_wp2
    exact bodyPost_ret (v := .tuple #[.slice a ln cap, .int .i64 0, .int .i64 0]) (by simp [results, Tryz.results44, go_sem]) rfl (by
     rw [HF.out, HLL.out]; exact ⟨⟨a, cap, n, rfl, HS4.out⟩, HB4.out⟩)
   ·have HF := hid (HG22.out hq)
    have hB3 : ((q : Int) != 0) = true := by simp; omega
    clear hq
    go_wp2_with fail
    refine HRI.out.mono ?_
    rintro e w4 ⟨rfl, hb4⟩
    have HB4 := hid (z00 HB3.out hb4)
    clear hb4 c3 c1
    go_wp2
    exact bodyPost_ret (v := .tuple #[.slice none 0 0, .int .i64 q, .int .i64 0]) (by simp [results, Tryz.results44, go_sem]) rfl (by
     rw [HF.out]; exact ⟨⟨none, 0, 0, rfl, Sl.nil _ _ _ _⟩, HB4.out⟩)
  ·have HF := hid (HG1.out E HEE.out he0)
   have hB3 : ((E.2 : Int) != 0) = true := by simp; omega
   clear he0
   go_wp2
   go_quiet (fail)
   go_wp2
   exact bodyPost_ret (v := .tuple #[.slice none 0 0, .int .i64 E.2, .int .i64 E.1]) (by simp [results, Tryz.results44, go_sem]) rfl (by
    rw [HF.out]; exact ⟨⟨none, 0, 0, rfl, Sl.nil _ _ _ _⟩, z0r HB3.out _⟩)
 ·have hBv : ¬ (V.1 : Int) < s.size := by omega
  obtain ⟨E, HE0⟩ : ∃ E, Hid (E = V) := ⟨_, hid rfl⟩
  have HEE : Hid (endF s.data.toList V = E) := hid (by rw [HE0.out]; unfold endF; rw [if_neg (by rw [HLEN.out]; exact hv)])
  rw [<- HE0.out] at HR2
  have hBv2 : ¬ (E.1 : Int) < s.size := by rw [HE0.out]; exact hBv
  obtain ⟨w3, HW3⟩ : ∃ w3, Hid (w3 = w2) := ⟨_, hid rfl⟩
  rw [<- HW3.out] at HR2 HF2 HS2 k1 ⊢
  have HR3 := HR2
  have HF3 := HF2
  have HS3 := HS2
  clear hv k1 HR2 HF2 HS2 hBv
  have c3 := HR3.out.c3
  have c1 := HR3.out.c1
  have HB3 : Hid (Below w.heap.size w w3) := hid (z9y HB1.out HF3.out)
  by_cases he0 : E.2 = 0
  ·have HL0 := hid (HEND.out (by rw [HEE.out]; exact he0))
   have HCN := hid (HCNT.out HL0.out.1)
   rw [he0] at c3
   simp only [Int.natCast_zero] at c3
   have HRI := hid (z1o n w3 a cap xs (SlP.keep HS3.out (fun _ _ => rfl) (fun b hb => hb.2)) HCN.out HSM.out (HEV.out.below HB3.out))
   rw [<- HLL.out] at HRI
   have HG22 := hid (HG2.out E HEE.out he0)
   have HG33 := hid (HG3.out E HEE.out he0)
   clear HG1 HG2 HG3 he0 HEND HCNT HL0
   generalize z0k xs = q at *
   by_cases hq : q = 0
   ·have HF := hid (HG33.out hq)
    subst hq
    go_wp2_with fail
    refine HRI.out.mono ?_
    rintro e w4 ⟨rfl, hb4⟩
    have HB4 := hid (z00 HB3.out hb4)
    have HS4 : Hid (SlP w4 (Fsh w.heap.size w4) n (.slice a xs.length cap) xs) := hid (SlP.keep HS3.out (fun b hb => hb4.block b hb.2) (fun b hb => ⟨by have := HB1.out.size; omega, Nat.lt_of_lt_of_le hb.2 hb4.size⟩))
    clear hb4 c3 c1
    go_wp2
    exact bodyPost_ret (v := .tuple #[.slice a ln cap, .int .i64 0, .int .i64 0]) (by simp [results, Tryz.results44, go_sem]) rfl (by
     rw [HF.out, HLL.out]; exact ⟨⟨a, cap, n, rfl, HS4.out⟩, HB4.out⟩)
   ·have HF := hid (HG22.out hq)
    have hB3 : ((q : Int) != 0) = true := by simp; omega
    clear hq
    go_wp2_with fail
    refine HRI.out.mono ?_
    rintro e w4 ⟨rfl, hb4⟩
    have HB4 := hid (z00 HB3.out hb4)
    clear hb4 c3 c1
    go_wp2
    exact bodyPost_ret (v := .tuple #[.slice none 0 0, .int .i64 q, .int .i64 0]) (by simp [results, Tryz.results44, go_sem]) rfl (by
     rw [HF.out]; exact ⟨⟨none, 0, 0, rfl, Sl.nil _ _ _ _⟩, HB4.out⟩)
  ·have HF := hid (HG1.out E HEE.out he0)
   have hB3 : ((E.2 : Int) != 0) = true := by simp; omega
   clear he0
   go_wp2
   go_quiet (fail)
   go_wp2
   exact bodyPost_ret (v := .tuple #[.slice none 0 0, .int .i64 E.2, .int .i64 E.1]) (by simp [results, Tryz.results44, go_sem]) rfl (by
    rw [HF.out]; exact ⟨⟨none, 0, 0, rfl, Sl.nil _ _ _ _⟩, z0r HB3.out _⟩)
end Go.Proofs.YtdnedbcmgkilaaaGreatDoor

end

section

namespace Go.Proofs.YtdnedbcmgkilaaaGreatDoor.Dr
set_option maxHeartbeats 3200000
set_option maxRecDepth 100000
open Go.Lib (hid)
open Go.RowKit Go.Proofs.YtdnedbcmgkilaaaGreatDoor
theorem cnt_take {xs : List Pt} {k : Nat} {x : Pt} (h : xs[k]? = some x) : cntPs (xs.take (k + 1)) = cntPs (xs.take k) + 1 + cntCs x.cs := by rw [take_one h, z89, z9w]; omega
theorem cnt_le (xs : List Pt) (k : Nat) : cntPs (xs.take k) <= cntPs xs := by
 rw [z1x, z1x xs, List.length_take]
 have := zc9 xs k
 omega
def zjy (n : Nat) : Prop := ∀ (w : World) (a : Option Addr) (cap m : Nat) (xs : List Pt), SlP w (Old w) n (.slice a xs.length cap) xs -> 1 <= m -> m <= 1001 -> cntPs xs <= 2000 ->
 Calls Tryz.prog 130 #[.slice a xs.length cap, .int .i64 m] w fun e w' => e = .returned (.int .i64 (min (cntPs xs) m : Nat)) /\ Below w.heap.size w w'
theorem many_of (n : Nat) (HV : ∀ q, q < n -> zjy q) : zjy n := by
 intro w a cap m xs hxs hm1 hm2 hcn
 have hlc := zd5 xs
 obtain ⟨L, HL⟩ : ∃ L, Hid (L = xs.length) := ⟨_, hid rfl⟩
 rw [<- HL.out] at hxs hlc ⊢
 have hL2 : L <= 2000 := by omega
 have HX := hid hxs
 have HVV := hid HV
 have HCN := hid hcn
 have HM1 := hid hm1
 have HLC := hid hlc
 clear hxs HV hcn hm1 hlc
 go_enter Tryz.func130, Tryz.ntmps130
 go_wp2
 go_loopw [5, 12] (fun v i wr => ∃ k N : Nat, k <= L /\ i = .int .i64 k /\ v = .int .i64 N /\ N < m /\ Hid (N = min (cntPs (xs.take k)) m) /\ Hid (Below w.heap.size w wr)) (fun _ i _ => L - (intOf i).toNat)
 case atStart => exact ⟨0, 0, Nat.zero_le _, rfl, rfl, HM1.out, hid (by simp [cntPs]), hid (Below.refl _ _)⟩
 case round =>
  obtain ⟨k, N, hk, rfl, rfl, hN, HN, HB⟩ := hrel
  by_cases hlt : k < L
  ·obtain ⟨x, hx⟩ : ∃ x, xs[k]? = some x := ⟨_, List.getElem?_eq_getElem (by have := HL.out; omega)⟩
   obtain ⟨b, off, rfl, -, hat⟩ := (HX.out.old HB.out).at_ hx
   obtain ⟨h0, h1, h2, q, a1, p1, hnq, h3, hcs⟩ := hat.p
   have HCT := hid (cnt_take hx)
   have HCL := hid (cnt_le xs (k + 1))
   obtain ⟨pk, pt, pn, cs⟩ := x
   simp only [Pt.k, Pt.t, Pt.n, Pt.cs] at h0 h1 h2 h3 hcs HCT
   have hL1 := hcs.lenle
   obtain ⟨L1, HL1⟩ : ∃ L1, Hid (L1 = cs.length) := ⟨_, hid rfl⟩
   rw [<- HL1.out] at h3 hcs hL1
   have R := z04 wr #[.int .i64 pk, .string pt, .string pn, .slice a1 L1 p1] 141
   have g3 := R.cell (i := 3) rfl
   have HB1 : Hid (Below w.heap.size w (wr.alloc (.cells #[.int .i64 pk, .string pt, .string pn, .slice a1 L1 p1] 141))) := hid (z00 HB.out (z02 _ _))
   have HC1 : Hid (SlC (wr.alloc (.cells #[.int .i64 pk, .string pt, .string pn, .slice a1 L1 p1] 141)) (Old (wr.alloc (.cells #[.int .i64 pk, .string pt, .string pn, .slice a1 L1 p1] 141))) q (.slice a1 L1 p1) cs) := hid (hcs.old (z02 _ _))
   have HNQ := hid hnq
   clear R hat hcs hx hnq HX
   go_wp2
   generalize wr.alloc (.cells #[.int .i64 pk, .string pt, .string pn, .slice a1 L1 p1] 141) = w3 at *
   clear g3 h0 h1 h2 h3 HB
   go_loopw [5, 21] (fun v i wr => ∃ j N : Nat, j <= L1 /\ i = .int .i64 j /\ v = .int .i64 N /\ N <= m /\ Hid (N = min (cntPs (xs.take k) + 1 + cntCs (cs.take j)) m) /\ Hid (Below w.heap.size w wr) /\ Hid (Below w3.heap.size w3 wr)) (fun _ i _ => L1 - (intOf i).toNat)
   case atStart => exact ⟨0, N + 1, Nat.zero_le _, by go_num, by go_num, by omega, hid (by rw [List.take_zero, cntCs]; have := HN.out; omega), HB1, hid (Below.refl _ _)⟩
   case round =>
    obtain ⟨j, N2, hj, rfl, rfl, hN2, HN2, HB2, HB3⟩ := hrel
    clear HB1 HN
    by_cases hlj : j < L1
    ·obtain ⟨y, hy⟩ : ∃ y, cs[j]? = some y := ⟨_, List.getElem?_eq_getElem (by have := HL1.out; omega)⟩
     obtain ⟨b2, off2, rfl, hb2, hat2⟩ := (HC1.out.old HB3.out).at_ hy
     obtain ⟨i0, a3, p3, i1, hks⟩ := hat2.c
     have HKA := hid (zi3 hy)
     have HCC := hid (z5x hy)
     obtain ⟨key, kids⟩ := y
     simp only [Cs.key, Cs.kids] at i0 i1 hks HKA HCC
     have hkc := zd5 kids
     have HCK : Hid (cntPs kids <= 2000) := hid (by
      have h1 := HKA.out
      have h2 := HCT.out
      have h3 := HCL.out
      have h4 := HCN.out
      omega)
     obtain ⟨L3, HL3⟩ : ∃ L3, Hid (L3 = kids.length) := ⟨_, hid rfl⟩
     have hks2 := hks.old (z02 _ (.cells #[.string key, .slice a3 kids.length p3] 185))
     rw [<- HL3.out] at i1 hks2
     have R := z04 wr #[.string key, .slice a3 L3 p3] 185
     have g0 := R.cell (i := 0) rfl
     have g1 := R.cell (i := 1) rfl
     have HB4 : Hid (Below w.heap.size w (wr.alloc (.cells #[.string key, .slice a3 L3 p3] 185))) := hid (z00 HB2.out (z02 _ _))
     have HB5 : Hid (Below w3.heap.size w3 (wr.alloc (.cells #[.string key, .slice a3 L3 p3] 185))) := hid (z00 HB3.out (z02 _ _))
     have HKS := hid hks2
     clear R hat2 hks hks2 hy hb2 hkc HB2 HB3
     by_cases hfull : N2 < m
     ·obtain ⟨r, HR⟩ : ∃ r, Hid (r = m - N2) := ⟨_, hid rfl⟩
      have hri : (m : Int) - (N2 : Int) = (r : Int) := by have := HR.out; omega
      have HCALL := hid (HVV.out q (by have := HNQ.out; omega) (wr.alloc (.cells #[.string key, .slice a3 L3 p3] 185)) a3 p3 r kids (by rw [<- HL3.out]; exact HKS.out) (by have := HR.out; omega) (by have := HR.out; omega) HCK.out)
      rw [<- HL3.out] at HCALL
      obtain ⟨N3, HN3⟩ : ∃ N3, Hid (N3 = min (cntPs kids) r) := ⟨_, hid rfl⟩
      rw [<- HN3.out] at HCALL
      have hN3 : N2 + N3 <= m := by have h1 := HN3.out; have h2 := HR.out; omega
      have HN4 : Hid (N2 + N3 = min (cntPs (xs.take k) + 1 + cntCs (cs.take (j + 1))) m) := hid (by
       have h1 := HN3.out; have h2 := HR.out; have h3 := HN2.out; have h4 := HCC.out; omega)
      go_wp2_with fail
      generalize wr.alloc (.cells #[.string key, .slice a3 L3 p3] 185) = w4 at *
      refine HCALL.out.mono ?_
      rintro e w5 ⟨rfl, hb5⟩
      have HB6 := hid (z00 HB4.out hb5)
      have HB7 := hid (z00 HB5.out hb5)
      clear hb5 g0 g1 HCALL HKS
      go_wp2
      go_roundw
      case rel => exact ⟨j + 1, N2 + N3, by omega, by go_num, by go_num, hN3, HN4, HB6, HB7⟩
      case measure => simp [intOf]; omega
     ·have HN4 : Hid (N2 = min (cntPs (xs.take k) + 1 + cntCs (cs.take (j + 1))) m) := hid (by
       have h3 := HN2.out; have h4 := HCC.out; omega)
      go_wp2
      go_roundw
      case rel => exact ⟨j + 1, N2, by omega, by go_num, rfl, hN2, HN4, HB4, HB5⟩
      case measure => simp [intOf]; omega
    ·have HN5 : Hid (N2 = min (cntPs (xs.take (k + 1))) m) := hid (by
      have h1 := HN2.out
      have h2 : cs.take j = cs := List.take_of_length_le (by have := HL1.out; omega)
      rw [h2] at h1
      rw [HCT.out]; exact h1)
     by_cases hfull : N2 < m
     ·go_wp2
      go_roundw
      case rel => exact ⟨k + 1, N2, by omega, by go_num, rfl, hfull, HN5, HB2⟩
      case measure => simp [intOf]; omega
     ·have HF : Hid (min (cntPs xs) m = m) := hid (by have h1 := HN5.out; have h2 := HCL.out; omega)
      go_wp2
      go_ret
      exact ⟨z0z (by have := HF.out; omega), HB2.out⟩
  ·have HF : Hid (min (cntPs xs) m = N) := hid (by have h1 := HN.out; rw [List.take_of_length_le (by have := HL.out; omega)] at h1; exact h1.symm)
   go_wp2
   go_ret
   exact ⟨z0z (by have := HF.out; omega), HB.out⟩
theorem many_any : ∀ n, zjy n := fun n => by
 induction n using Nat.strongRecOn with
 | _ n ih => exact many_of n ih
theorem zet : ∀ xs ys : List Pt, dpPs (xs ++ ys) = max (dpPs xs) (dpPs ys)
 | [], ys => by simp [dpPs]
 | x :: r, ys => by rw [List.cons_append, dpPs, dpPs, zet r ys]; omega
theorem zev : ∀ xs ys : List Cs, dpCs (xs ++ ys) = max (dpCs xs) (dpCs ys)
 | [], ys => by simp [dpCs]
 | x :: r, ys => by rw [List.cons_append, dpCs, dpCs, zev r ys]; omega
theorem dp_le (xs : List Pt) (k : Nat) : dpPs (xs.take k) <= dpPs xs := by
 have h := zet (xs.take k) (xs.drop k)
 rw [List.take_append_drop] at h
 omega
theorem dpC_le (xs : List Cs) (k : Nat) : dpCs (xs.take k) <= dpCs xs := by
 have h := zev (xs.take k) (xs.drop k)
 rw [List.take_append_drop] at h
 omega
def zk0 (n : Nat) : Prop := ∀ (w : World) (a : Option Addr) (cap m : Nat) (xs : List Pt), SlP w (Old w) n (.slice a xs.length cap) xs -> dpPs xs < m -> m <= 33 ->
 Calls Tryz.prog 131 #[.slice a xs.length cap, .int .i64 m] w fun e w' => e = .returned (.int .i64 (dpPs xs : Nat)) /\ Below w.heap.size w w'
theorem deep_of (n : Nat) (HV : ∀ q, q < n -> zk0 q) : zk0 n := by
 intro w a cap m xs hxs hm1 hm2
 have hlc := hxs.lenle
 obtain ⟨L, HL⟩ : ∃ L, Hid (L = xs.length) := ⟨_, hid rfl⟩
 rw [<- HL.out] at hxs hlc ⊢
 have HX := hid hxs
 have HVV := hid HV
 have HM1 := hid hm1
 clear hxs HV hm1
 go_enter Tryz.func131, Tryz.ntmps131
 go_wp2
 go_loopw [5, 13] (fun v i wr => ∃ k N : Nat, k <= L /\ i = .int .i64 k /\ v = .int .i64 N /\ Hid (N = dpPs (xs.take k)) /\ Hid (Below w.heap.size w wr)) (fun _ i _ => L - (intOf i).toNat)
 case atStart => exact ⟨0, 0, Nat.zero_le _, rfl, rfl, hid (by simp [dpPs]), hid (Below.refl _ _)⟩
 case round =>
  obtain ⟨k, N, hk, rfl, rfl, HN, HB⟩ := hrel
  by_cases hlt : k < L
  ·obtain ⟨x, hx⟩ : ∃ x, xs[k]? = some x := ⟨_, List.getElem?_eq_getElem (by have := HL.out; omega)⟩
   obtain ⟨b, off, rfl, -, hat⟩ := (HX.out.old HB.out).at_ hx
   obtain ⟨h0, h1, h2, q, a1, p1, hnq, h3, hcs⟩ := hat.p
   have HCT := hid (zbq hx)
   have HCL := hid (dp_le xs (k + 1))
   obtain ⟨pk, pt, pn, cs⟩ := x
   simp only [Pt.k, Pt.t, Pt.n, Pt.cs] at h0 h1 h2 h3 hcs HCT
   have hL1 := hcs.lenle
   obtain ⟨L1, HL1⟩ : ∃ L1, Hid (L1 = cs.length) := ⟨_, hid rfl⟩
   rw [<- HL1.out] at h3 hcs hL1
   have R := z04 wr #[.int .i64 pk, .string pt, .string pn, .slice a1 L1 p1] 141
   have g3 := R.cell (i := 3) rfl
   have HB1 : Hid (Below w.heap.size w (wr.alloc (.cells #[.int .i64 pk, .string pt, .string pn, .slice a1 L1 p1] 141))) := hid (z00 HB.out (z02 _ _))
   have HC1 : Hid (SlC (wr.alloc (.cells #[.int .i64 pk, .string pt, .string pn, .slice a1 L1 p1] 141)) (Old (wr.alloc (.cells #[.int .i64 pk, .string pt, .string pn, .slice a1 L1 p1] 141))) q (.slice a1 L1 p1) cs) := hid (hcs.old (z02 _ _))
   have HNQ := hid hnq
   clear R hat hcs hx hnq HX
   go_wp2
   generalize wr.alloc (.cells #[.int .i64 pk, .string pt, .string pn, .slice a1 L1 p1] 141) = w3 at *
   clear g3 h0 h1 h2 h3 HB
   go_loopw [5, 20] (fun v i wr => ∃ j N : Nat, j <= L1 /\ i = .int .i64 j /\ v = .int .i64 N /\ Hid (N = max (dpPs (xs.take k)) (dpCs (cs.take j))) /\ Hid (Below w.heap.size w wr) /\ Hid (Below w3.heap.size w3 wr)) (fun _ i _ => L1 - (intOf i).toNat)
   case atStart => exact ⟨0, N, Nat.zero_le _, by go_num, rfl, hid (by rw [List.take_zero, dpCs]; have := HN.out; omega), HB1, hid (Below.refl _ _)⟩
   case round =>
    obtain ⟨j, N2, hj, rfl, rfl, HN2, HB2, HB3⟩ := hrel
    clear HB1 HN
    by_cases hlj : j < L1
    ·obtain ⟨y, hy⟩ : ∃ y, cs[j]? = some y := ⟨_, List.getElem?_eq_getElem (by have := HL1.out; omega)⟩
     obtain ⟨b2, off2, rfl, hb2, hat2⟩ := (HC1.out.old HB3.out).at_ hy
     obtain ⟨i0, a3, p3, i1, hks⟩ := hat2.c
     have HCC := hid (zbr hy)
     have HCC2 := hid (dpC_le cs (j + 1))
     obtain ⟨key, kids⟩ := y
     simp only [Cs.key, Cs.kids] at i0 i1 hks HCC
     have HCK : Hid (dpPs kids + 1 < m) := hid (by
      have h1 := HCC2.out
      have h2 := HCC.out
      have h3 := HCT.out
      have h4 := HCL.out
      have h5 := HM1.out
      omega)
     obtain ⟨L3, HL3⟩ : ∃ L3, Hid (L3 = kids.length) := ⟨_, hid rfl⟩
     have hks2 := hks.old (z02 _ (.cells #[.string key, .slice a3 kids.length p3] 185))
     rw [<- HL3.out] at i1 hks2
     have R := z04 wr #[.string key, .slice a3 L3 p3] 185
     have g0 := R.cell (i := 0) rfl
     have g1 := R.cell (i := 1) rfl
     have HB4 : Hid (Below w.heap.size w (wr.alloc (.cells #[.string key, .slice a3 L3 p3] 185))) := hid (z00 HB2.out (z02 _ _))
     have HB5 : Hid (Below w3.heap.size w3 (wr.alloc (.cells #[.string key, .slice a3 L3 p3] 185))) := hid (z00 HB3.out (z02 _ _))
     have HKS := hid hks2
     clear R hat2 hks hks2 hy hb2 HB2 HB3
     obtain ⟨r, HR⟩ : ∃ r, Hid (r = m - 1) := ⟨_, hid rfl⟩
     have hm3 : 1 < m := by have := HCK.out; omega
     have hri : (m : Int) - 1 = (r : Int) := by have := HR.out; omega
     have HCALL := hid (HVV.out q (by have := HNQ.out; omega) (wr.alloc (.cells #[.string key, .slice a3 L3 p3] 185)) a3 p3 r kids (by rw [<- HL3.out]; exact HKS.out) (by have h1 := HR.out; have h2 := HCK.out; omega) (by have := HR.out; omega))
     rw [<- HL3.out] at HCALL
     obtain ⟨N3, HN3⟩ : ∃ N3, Hid (N3 = dpPs kids) := ⟨_, hid rfl⟩
     rw [<- HN3.out] at HCALL
     have hN3 : N3 <= 33 := by have h1 := HN3.out; have h2 := HCK.out; omega
     obtain ⟨D, HD⟩ : ∃ D, Hid (D = N3 + 1) := ⟨_, hid rfl⟩
     have hdi : 1 + (N3 : Int) = (D : Int) := by have := HD.out; omega
     by_cases hup : N2 < D
     ·have HN4 : Hid (D = max (dpPs (xs.take k)) (dpCs (cs.take (j + 1)))) := hid (by
       have h1 := HN3.out; have h2 := HD.out; have h3 := HN2.out; have h4 := HCC.out; omega)
      go_wp2_with fail
      generalize wr.alloc (.cells #[.string key, .slice a3 L3 p3] 185) = w4 at *
      refine HCALL.out.mono ?_
      rintro e w5 ⟨rfl, hb5⟩
      have HB6 := hid (z00 HB4.out hb5)
      have HB7 := hid (z00 HB5.out hb5)
      clear hb5 g0 g1 HCALL HKS
      go_wp2
      go_roundw
      case rel => exact ⟨j + 1, D, by omega, by go_num, rfl, HN4, HB6, HB7⟩
      case measure => simp [intOf]; omega
     ·have HN4 : Hid (N2 = max (dpPs (xs.take k)) (dpCs (cs.take (j + 1)))) := hid (by
       have h1 := HN3.out; have h2 := HD.out; have h3 := HN2.out; have h4 := HCC.out; omega)
      go_wp2_with fail
      generalize wr.alloc (.cells #[.string key, .slice a3 L3 p3] 185) = w4 at *
      refine HCALL.out.mono ?_
      rintro e w5 ⟨rfl, hb5⟩
      have HB6 := hid (z00 HB4.out hb5)
      have HB7 := hid (z00 HB5.out hb5)
      clear hb5 g0 g1 HCALL HKS
      go_wp2
      go_roundw
      case rel => exact ⟨j + 1, N2, by omega, by go_num, rfl, HN4, HB6, HB7⟩
      case measure => simp [intOf]; omega
    ·have HN5 : Hid (N2 = dpPs (xs.take (k + 1))) := hid (by
      have h1 := HN2.out
      have h2 : cs.take j = cs := List.take_of_length_le (by have := HL1.out; omega)
      rw [h2] at h1
      rw [HCT.out]; exact h1)
     go_wp2
     go_roundw
     case rel => exact ⟨k + 1, N2, by omega, by go_num, rfl, HN5, HB2⟩
     case measure => simp [intOf]; omega
  ·have HF : Hid (dpPs xs = N) := hid (by have h1 := HN.out; rw [List.take_of_length_le (by have := HL.out; omega)] at h1; exact h1.symm)
   go_wp2
   go_ret
   exact ⟨z0z (by have := HF.out; omega), HB.out⟩
theorem deep_any : ∀ n, zk0 n := fun n => by
 induction n using Nat.strongRecOn with
 | _ n ih => exact deep_of n ih
end Go.Proofs.YtdnedbcmgkilaaaGreatDoor.Dr

end
