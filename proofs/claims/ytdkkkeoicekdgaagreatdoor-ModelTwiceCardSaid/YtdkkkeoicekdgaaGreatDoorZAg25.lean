/- Parse, at every string. -/
import Derived.Test.YtdkkkeoicekdgaaGreatDoorZAg13
import Derived.Test.YtdkkkeoicekdgaaGreatDoorZARh

section

namespace Go.Proofs.YtdkkkeoicekdgaaGreatDoor
set_option maxHeartbeats 3200000
set_option maxRecDepth 100000
open Go.Lib (hid)
open Go.RowKit
theorem z6y {m : Nat} : ∀ {xs : List Pt} {x : Pt}, smPs m xs -> smP m x -> smPs m (xs ++ [x])
 | [], x, _, h => by show smPs m [x]; rw [smPs]; exact ⟨h, by rw [smPs]; trivial⟩
 | y :: r, x, hs, h => by rw [smPs] at hs; show smPs m (y :: (r ++ [x])); rw [smPs]; exact ⟨hs.1, z6y hs.2 h⟩
theorem z6z {m : Nat} : ∀ {xs : List Cs} {x : Cs}, smCs m xs -> smC m x -> smCs m (xs ++ [x])
 | [], x, _, h => by show smCs m [x]; rw [smCs]; exact ⟨h, by rw [smCs]; trivial⟩
 | y :: r, x, hs, h => by rw [smCs] at hs; show smCs m (y :: (r ++ [x])); rw [smCs]; exact ⟨hs.1, z6z hs.2 h⟩
theorem z6l (l : List UInt8) : (ba l).size = l.length := by show l.toArray.size = _; simp
theorem z6d (l : List UInt8) (p : List UInt8 -> Bool) (S : St) : (longF l p S).1.length <= l.length := by
 unfold longF
 split
 ·split
  ·simp
  ·simp; omega
 ·simp
theorem key_len (l : List UInt8) (S : St) : (keyF l S).1.length <= l.length + 1 := by
 unfold keyF
 split
 ·have := z6d l numB (wordF l [61] S); simp; omega
 ·have := z6d l nameB S; omega
theorem zbd {l : List UInt8} {m : Nat} (hm : l.length + 1 <= m) : ∀ f, (∀ h o acc S, smPs m acc -> smPs m (z0c l f h o acc S).1) /\ (∀ h o acc b, smCs m acc -> smCs m (z0b l f h o acc b).1)
 | 0 => ⟨fun h o acc S hs => by rw [z0c]; exact hs, fun h o acc b hs => by rw [z0b]; exact hs⟩
 | f + 1 => by
  obtain ⟨ih1, ih2⟩ := zbd hm f
  have hnil : smCs m [] := by rw [smCs]; trivial
  have hnil2 : smPs m [] := by rw [smPs]; trivial
  refine ⟨fun h o acc S hs => ?_, fun h o acc b hs => ?_⟩
  ·rw [z0c]
   split
   ·refine ih1 _ _ _ _ (z6y hs ?_)
    rw [smP_eq]
    unfold partG
    split
    ·have hn := z6d l nameB (wordF l [123] S)
     unfold holeG
     simp only
     split
     ·exact ⟨by show (ba _).size <= m; rw [z6l]; omega, ih2 _ _ _ _ hnil⟩
     ·split
      ·exact ⟨by show (ba _).size <= m; rw [z6l]; omega, ih2 _ _ _ _ hnil⟩
      ·exact ⟨by show (ba _).size <= m; rw [z6l]; omega, hnil⟩
    ·split
     ·exact ⟨Nat.zero_le _, hnil⟩
     ·exact ⟨Nat.zero_le _, hnil⟩
   ·exact hs
  ·rw [z0b]
   split
   ·refine ih2 _ _ _ _ (z6z hs ?_)
    rw [zbe]
    have hn := key_len l b.2
    unfold z0z
    exact ⟨by show (ba _).size <= m; rw [z6l]; omega, ih1 _ _ _ _ hnil2⟩
   ·exact hs
theorem sm_read {l : List UInt8} {m : Nat} (hm : l.length + 1 <= m) : smPs m (readF l).1 := (zbd hm (l.length + 1)).1 false 0 [] (0, 0) (by rw [smPs]; trivial)
theorem za7 {w w1 w3 : World} (hb : Below w.heap.size w w1) (hf : Fr (· = w.heap.size) w1 w3) : Below w.heap.size w w3 := Fr.to_below hb hf (Nat.le_refl _)
theorem zai {l : List UInt8} (h : 2000 < l.length) : z0q l = ([], 2, 0) := by unfold z0q; rw [if_pos h]
theorem zbx {l : List UInt8} (h : ¬ 2000 < l.length) {E : St} (hE : endF l (readF l).2 = E) (h2 : E.2 ≠ 0) : z0q l = ([], E.2, E.1) := by subst hE; unfold z0q; rw [if_neg h, if_pos h2]
theorem z8f {l : List UInt8} (h : ¬ 2000 < l.length) {E : St} (hE : endF l (readF l).2 = E) (h2 : E.2 = 0) (h3 : z1f (readF l).1 ≠ 0) : z0q l = ([], z1f (readF l).1, 0) := by subst hE; unfold z0q; rw [if_neg h, if_neg (by simpa using h2), if_pos h3]
theorem parse_ok {l : List UInt8} (h : ¬ 2000 < l.length) {E : St} (hE : endF l (readF l).2 = E) (h2 : E.2 = 0) (h3 : z1f (readF l).1 = 0) : z0q l = ((readF l).1, 0, 0) := by subst hE; unfold z0q; rw [if_neg h, if_neg (by simpa using h2), if_neg (by simpa using h3)]
theorem zby (s : BA) (w : World) (hEV : EnvW w) :
  Calls Tryz.prog 159 #[.string s] w fun e w' => (∃ a cap n, e = .returned (.tuple #[.slice a (z0q s.data.toList).1.length cap, .int .i64 (z0q s.data.toList).2.1, .int .i64 (z0q s.data.toList).2.2]) /\ SlP w' (Fsh w.heap.size w') n (.slice a (z0q s.data.toList).1.length cap) (z0q s.data.toList).1) /\ Below w.heap.size w w' := by
 have hlen := z05 s
 by_cases hl : 2000 < s.size
 ·have HF := hid (zai (l := s.data.toList) (by omega))
  have hB : (2000 : Int) < s.size := by omega
  clear hl hlen hEV
  go_enter Tryz.func159, Tryz.ntmps159
  go_wp2
  exact bodyPost_ret (v := .tuple #[.slice none 0 0, .int .i64 2, .int .i64 0]) (by simp [results, Tryz.results159, go_sem]) rfl (by
   rw [HF.out]; exact ⟨⟨none, 0, 0, rfl, Sl.nil _ _ _ _⟩, Below.refl _ _⟩)
 have hB : ¬ (2000 : Int) < s.size := by omega
 have HSZ : Hid (s.size <= 2000) := hid (by omega)
 have HR : Hid (RdAt (w.alloc (.cells #[.string s, .int .i64 0, .int .i64 0, .int .i64 0] 234)) w.heap.size s 0 (0, 0)) := hid (z02 w #[.string s, .int .i64 0, .int .i64 0, .int .i64 0] 234)
 have HE : Hid (Env (w.alloc (.cells #[.string s, .int .i64 0, .int .i64 0, .int .i64 0] 234)) w.heap.size) := hid ⟨w, hEV, z04 _ _, Nat.le_refl _⟩
 have HC : Hid (Calls Tryz.prog 189 #[.pointer (some ⟨w.heap.size, 0, none⟩), .bool false] (w.alloc (.cells #[.string s, .int .i64 0, .int .i64 0, .int .i64 0] 234)) (z83 w.heap.size s 0 (w.alloc (.cells #[.string s, .int .i64 0, .int .i64 0, .int .i64 0] 234)) (readF s.data.toList))) :=
  hid ((zdj (s.data.toList.length + 1)).2 false 0 w.heap.size s (0, 0) _ HSZ.out (by omega) ⟨Nat.zero_le _, .inl rfl⟩ (fun _ => by simp only; omega) HR.out HE.out)
 have HWF := hid (z8e s.data.toList)
 have HCNT : Hid ((readF s.data.toList).2.2 = 0 -> cntPs (readF s.data.toList).1 <= 2000) := hid (fun h => by have := cnt_read h; have := HSZ.out; omega)
 have HSM : Hid (smPs 140737488351232 (readF s.data.toList).1) := hid (sm_read (by have := HSZ.out; omega))
 have HEV := hid hEV
 have HZ1 := hid (World.size_alloc w (.cells #[.string s, .int .i64 0, .int .i64 0, .int .i64 0] 234))
 have HB1 := hid (z04 w (.cells #[.string s, .int .i64 0, .int .i64 0, .int .i64 0] 234))
 have HEND := hid (end_live (l := s.data.toList))
 have HLEN := hid hlen
 have HG1 : Hid (∀ E : St, endF s.data.toList (readF s.data.toList).2 = E -> E.2 ≠ 0 -> z0q s.data.toList = ([], E.2, E.1)) := hid (fun E h1 h2 => zbx (by omega) h1 h2)
 have HG2 : Hid (∀ E : St, endF s.data.toList (readF s.data.toList).2 = E -> E.2 = 0 -> z1f (readF s.data.toList).1 ≠ 0 -> z0q s.data.toList = ([], z1f (readF s.data.toList).1, 0)) := hid (fun E h1 h2 h3 => z8f (by omega) h1 h2 h3)
 have HG3 : Hid (∀ E : St, endF s.data.toList (readF s.data.toList).2 = E -> E.2 = 0 -> z1f (readF s.data.toList).1 = 0 -> z0q s.data.toList = ((readF s.data.toList).1, 0, 0)) := hid (fun E h1 h2 h3 => parse_ok (by omega) h1 h2 h3)
 clear hl hlen hEV HR HE
 go_enter Tryz.func159, Tryz.ntmps159
 go_wp2_with fail
 generalize w.alloc (.cells #[.string s, .int .i64 0, .int .i64 0, .int .i64 0] 234) = w1 at *
 generalize readF s.data.toList = rd at *
 obtain ⟨xs, V⟩ := rd
 simp only at HWF HCNT HSM HEND HG1 HG2 HG3
 refine HC.out.mono ?_
 rintro e w2 ⟨a, cap, n, rfl, hsl, hr2, hf2⟩
 simp only at hsl hr2
 obtain ⟨ln, HLL⟩ : ∃ ln, Hid (ln = xs.length) := ⟨_, hid rfl⟩
 rw [<- HLL.out]
 have HR2 := hid hr2
 have HF2 := hid hf2
 have HS2 : Hid (SlP w2 (Fsh w1.heap.size w2) n (.slice a xs.length cap) xs) := hid hsl
 clear hsl hr2 hf2 HC
 have hlw1 : w.heap.size < w1.heap.size := by rw [HZ1.out]; omega
 have k1 := HR2.out.c1
 by_cases hv : V.1 < s.size
 ·have hBv : (V.1 : Int) < s.size := by omega
  obtain ⟨E, HEE⟩ : ∃ E, Hid (endF s.data.toList V = E) := ⟨_, hid rfl⟩
  have HFE : Hid (failF s.data.toList V = E) := hid (by rw [<- HEE.out]; unfold endF; rw [if_pos (by rw [HLEN.out]; exact hv)])
  have HFL := hid (z3j w.heap.size s 0 V w2 HSZ.out HWF.out HR2.out)
  rw [HFE.out] at HFL
  clear hv
  go_wp2_with fail
  refine HFL.out.mono ?_
  rintro e w3 ⟨rfl, hr3, hf3⟩
  have HR3 := hid hr3
  have HF3 := hid (HF2.out.trans hf3)
  have HS3 : Hid (SlP w3 (Fsh w1.heap.size w3) n (.slice a xs.length cap) xs) := hid (SlP.keep HS2.out (fun b hb => hf3.block b hb.2 (fun e => by omega)) (fun b hb => ⟨hb.1, Nat.lt_of_lt_of_le hb.2 hf3.size⟩))
  clear hr3 hf3 HFL HR2 HF2 HS2 k1
  have c3 := HR3.out.c3
  have c1 := HR3.out.c1
  have HB3 : Hid (Below w.heap.size w w3) := hid (za7 HB1.out HF3.out)
  by_cases he0 : E.2 = 0
  ·have HL0 := hid (HEND.out (by rw [HEE.out]; exact he0))
   have HCN := hid (HCNT.out HL0.out.1)
   rw [he0] at c3
   simp only [Int.natCast_zero] at c3
   have HRI := hid (z1l n w3 a cap xs (SlP.keep HS3.out (fun _ _ => rfl) (fun b hb => hb.2)) HCN.out HSM.out (HEV.out.below HB3.out))
   rw [<- HLL.out] at HRI
   have HG22 := hid (HG2.out E HEE.out he0)
   have HG33 := hid (HG3.out E HEE.out he0)
   clear HG1 HG2 HG3 he0 HEND HCNT HL0
   generalize z1f xs = q at *
   by_cases hq : q = 0
   ·have HF := hid (HG33.out hq)
    subst hq
    go_wp2_with fail
    refine HRI.out.mono ?_
    rintro e w4 ⟨rfl, hb4⟩
    have HB4 := hid (z00 HB3.out hb4)
    have HS4 : Hid (SlP w4 (Fsh w.heap.size w4) n (.slice a xs.length cap) xs) := hid (SlP.keep HS3.out (fun b hb => hb4.block b hb.2) (fun b hb => ⟨by have := HB1.out.size; omega, Nat.lt_of_lt_of_le hb.2 hb4.size⟩))
    clear hb4 c3 c1
    go_wp2
    exact bodyPost_ret (v := .tuple #[.slice a ln cap, .int .i64 0, .int .i64 0]) (by simp [results, Tryz.results159, go_sem]) rfl (by
     rw [HF.out, HLL.out]; exact ⟨⟨a, cap, n, rfl, HS4.out⟩, HB4.out⟩)
   ·have HF := hid (HG22.out hq)
    have hB3 : ((q : Int) != 0) = true := by simp; omega
    clear hq
    go_wp2_with fail
    refine HRI.out.mono ?_
    rintro e w4 ⟨rfl, hb4⟩
    have HB4 := hid (z00 HB3.out hb4)
    clear hb4 c3 c1
    go_wp2
    exact bodyPost_ret (v := .tuple #[.slice none 0 0, .int .i64 q, .int .i64 0]) (by simp [results, Tryz.results159, go_sem]) rfl (by
     rw [HF.out]; exact ⟨⟨none, 0, 0, rfl, Sl.nil _ _ _ _⟩, HB4.out⟩)
  ·have HF := hid (HG1.out E HEE.out he0)
   have hB3 : ((E.2 : Int) != 0) = true := by simp; omega
   clear he0
   go_wp2
   go_quiet (fail)
   go_wp2
   exact bodyPost_ret (v := .tuple #[.slice none 0 0, .int .i64 E.2, .int .i64 E.1]) (by simp [results, Tryz.results159, go_sem]) rfl (by
    rw [HF.out]; exact ⟨⟨none, 0, 0, rfl, Sl.nil _ _ _ _⟩, z09 HB3.out _⟩)
 ·have hBv : ¬ (V.1 : Int) < s.size := by omega
  obtain ⟨E, HE0⟩ : ∃ E, Hid (E = V) := ⟨_, hid rfl⟩
  have HEE : Hid (endF s.data.toList V = E) := hid (by rw [HE0.out]; unfold endF; rw [if_neg (by rw [HLEN.out]; exact hv)])
  rw [<- HE0.out] at HR2
  have hBv2 : ¬ (E.1 : Int) < s.size := by rw [HE0.out]; exact hBv
  obtain ⟨w3, HW3⟩ : ∃ w3, Hid (w3 = w2) := ⟨_, hid rfl⟩
  rw [<- HW3.out] at HR2 HF2 HS2 k1 ⊢
  have HR3 := HR2
  have HF3 := HF2
  have HS3 := HS2
  clear hv k1 HR2 HF2 HS2 hBv
  have c3 := HR3.out.c3
  have c1 := HR3.out.c1
  have HB3 : Hid (Below w.heap.size w w3) := hid (za7 HB1.out HF3.out)
  by_cases he0 : E.2 = 0
  ·have HL0 := hid (HEND.out (by rw [HEE.out]; exact he0))
   have HCN := hid (HCNT.out HL0.out.1)
   rw [he0] at c3
   simp only [Int.natCast_zero] at c3
   have HRI := hid (z1l n w3 a cap xs (SlP.keep HS3.out (fun _ _ => rfl) (fun b hb => hb.2)) HCN.out HSM.out (HEV.out.below HB3.out))
   rw [<- HLL.out] at HRI
   have HG22 := hid (HG2.out E HEE.out he0)
   have HG33 := hid (HG3.out E HEE.out he0)
   clear HG1 HG2 HG3 he0 HEND HCNT HL0
   generalize z1f xs = q at *
   by_cases hq : q = 0
   ·have HF := hid (HG33.out hq)
    subst hq
    go_wp2_with fail
    refine HRI.out.mono ?_
    rintro e w4 ⟨rfl, hb4⟩
    have HB4 := hid (z00 HB3.out hb4)
    have HS4 : Hid (SlP w4 (Fsh w.heap.size w4) n (.slice a xs.length cap) xs) := hid (SlP.keep HS3.out (fun b hb => hb4.block b hb.2) (fun b hb => ⟨by have := HB1.out.size; omega, Nat.lt_of_lt_of_le hb.2 hb4.size⟩))
    clear hb4 c3 c1
    go_wp2
    exact bodyPost_ret (v := .tuple #[.slice a ln cap, .int .i64 0, .int .i64 0]) (by simp [results, Tryz.results159, go_sem]) rfl (by
     rw [HF.out, HLL.out]; exact ⟨⟨a, cap, n, rfl, HS4.out⟩, HB4.out⟩)
   ·have HF := hid (HG22.out hq)
    have hB3 : ((q : Int) != 0) = true := by simp; omega
    clear hq
    go_wp2_with fail
    refine HRI.out.mono ?_
    rintro e w4 ⟨rfl, hb4⟩
    have HB4 := hid (z00 HB3.out hb4)
    clear hb4 c3 c1
    go_wp2
    exact bodyPost_ret (v := .tuple #[.slice none 0 0, .int .i64 q, .int .i64 0]) (by simp [results, Tryz.results159, go_sem]) rfl (by
     rw [HF.out]; exact ⟨⟨none, 0, 0, rfl, Sl.nil _ _ _ _⟩, HB4.out⟩)
  ·have HF := hid (HG1.out E HEE.out he0)
   have hB3 : ((E.2 : Int) != 0) = true := by simp; omega
   clear he0
   go_wp2
   go_quiet (fail)
   go_wp2
   exact bodyPost_ret (v := .tuple #[.slice none 0 0, .int .i64 E.2, .int .i64 E.1]) (by simp [results, Tryz.results159, go_sem]) rfl (by
    rw [HF.out]; exact ⟨⟨none, 0, 0, rfl, Sl.nil _ _ _ _⟩, z09 HB3.out _⟩)
end Go.Proofs.YtdkkkeoicekdgaaGreatDoor

end

section

namespace Go.Proofs.YtdkkkeoicekdgaaGreatDoor.Dr
open Go.RowKit Go.Proofs.YtdkkkeoicekdgaaGreatDoor
end Go.Proofs.YtdkkkeoicekdgaaGreatDoor.Dr

end
