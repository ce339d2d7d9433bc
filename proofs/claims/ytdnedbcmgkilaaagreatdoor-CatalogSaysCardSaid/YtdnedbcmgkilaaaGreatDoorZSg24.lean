/- The document's Right and Parse. -/
import Derived.Test.YtdnedbcmgkilaaaGreatDoorZSDh
import Derived.Test.YtdnedbcmgkilaaaGreatDoorZSRs
import Derived.Test.YtdnedbcmgkilaaaGreatDoorZSEk
import Derived.Test.YtdnedbcmgkilaaaGreatDoorZSg35

section

namespace Go.Proofs.YtdnedbcmgkilaaaGreatDoor.Dr
set_option maxHeartbeats 3200000
set_option maxRecDepth 100000
open Go.Lib (hid)
open Go.RowKit Go.Proofs.YtdnedbcmgkilaaaGreatDoor
theorem z49 (n : Nat) (w : World) (a : Option Addr) (cap : Nat) (xs : List Pt) (hxs : SlP w (Old w) n (.slice a xs.length cap) xs) (hc : cntPs xs <= 2000) (hd : dpPs xs <= 32) (hsm : smPs 140737488351232 xs) :
  Calls Tryz.prog 85 #[.slice a xs.length cap] w fun e w' => e = .returned (.int .i64 (z0k xs)) /\ Below w.heap.size w w' := by
 have HM := hid (many_any n w a cap 1001 xs hxs (by omega) (by omega) hc)
 have HX := hid hxs
 have HDP := hid (fun W (hb : Below w.heap.size w W) => deep_any n W a cap 33 xs (HX.out.old hb) (by omega) (by omega))
 have HSH := hid (fun W (hb : Below w.heap.size w W) => (zce n).1 false W a cap xs (HX.out.old hb) hsm)
 obtain ⟨L, HL⟩ : ∃ L, Hid (L = xs.length) := ⟨_, hid rfl⟩
 rw [<- HL.out] at HM HDP HSH ⊢
 obtain ⟨c, HC⟩ : ∃ c, Hid (c = min (cntPs xs) 1001) := ⟨_, hid rfl⟩
 rw [<- HC.out] at HM
 obtain ⟨d, HD⟩ : ∃ d, Hid (d = dpPs xs) := ⟨_, hid rfl⟩
 rw [<- HD.out] at HDP
 have hd32 : ¬ (32 : Int) < (d : Int) := by have := HD.out; omega
 clear hxs hsm HX
 by_cases h1 : 1000 < cntPs xs
 ·have HE : Hid (z0k xs = 2) := hid (by unfold z0k; rw [if_pos h1])
  have hci : (1000 : Int) < (c : Int) := by have := HC.out; omega
  clear h1 hc hd
  go_enter Tryz.func85, Tryz.ntmps85
  go_wp2_with fail
  refine HM.out.mono ?_
  rintro e w2 ⟨rfl, hb2⟩
  have HB2 := hid hb2
  clear hb2
  go_wp2
  go_ret
  exact ⟨by rw [HE.out]; rfl, HB2.out⟩
 ·have hci : ¬ (1000 : Int) < (c : Int) := by have := HC.out; omega
  have HE : Hid (z0k xs = if okPs false false xs then 0 else 91) := hid (by unfold z0k; rw [if_neg h1, if_neg (by omega)])
  clear h1 hc hd
  generalize okPs false false xs = ok at *
  cases ok with
  | true =>
   go_enter Tryz.func85, Tryz.ntmps85
   go_wp2_with fail
   refine HM.out.mono ?_
   rintro e w2 ⟨rfl, hb2⟩
   have HD2 := hid (HDP.out w2 hb2)
   have HB2 := hid hb2
   clear hb2
   go_wp2_with fail
   refine HD2.out.mono ?_
   rintro e w3 ⟨rfl, hb3⟩
   have HB3 := hid (z00 HB2.out hb3)
   have HS3 := hid (HSH.out w3 HB3.out)
   clear hb3
   go_wp2_with fail
   refine HS3.out.mono ?_
   rintro e w4 ⟨rfl, hb4⟩
   have HB4 := hid (z00 HB3.out hb4)
   clear hb4
   go_wp2
   go_ret
   exact ⟨by rw [HE.out]; rfl, HB4.out⟩
  | false =>
   go_enter Tryz.func85, Tryz.ntmps85
   go_wp2_with fail
   refine HM.out.mono ?_
   rintro e w2 ⟨rfl, hb2⟩
   have HD2 := hid (HDP.out w2 hb2)
   have HB2 := hid hb2
   clear hb2
   go_wp2_with fail
   refine HD2.out.mono ?_
   rintro e w3 ⟨rfl, hb3⟩
   have HB3 := hid (z00 HB2.out hb3)
   have HS3 := hid (HSH.out w3 HB3.out)
   clear hb3
   go_wp2_with fail
   refine HS3.out.mono ?_
   rintro e w4 ⟨rfl, hb4⟩
   have HB4 := hid (z00 HB3.out hb4)
   clear hb4
   go_wp2
   go_ret
   exact ⟨by rw [HE.out]; rfl, HB4.out⟩
theorem dp_long {l : List UInt8} (h : 2000 < l.length) : z2y l = ([], 2, 0) := by unfold z2y; rw [if_pos h]
theorem dp_bad {l : List UInt8} (h : ¬ 2000 < l.length) (h2 : (z1b l).2.2 ≠ 0) : z2y l = ([], (z1b l).2.2, (z1b l).2.1) := by unfold z2y; rw [if_neg h, if_pos h2]
theorem dp_wrong {l : List UInt8} (h : ¬ 2000 < l.length) (h2 : (z1b l).2.2 = 0) (h3 : z0k (z1b l).1 ≠ 0) : z2y l = ([], z0k (z1b l).1, 0) := by unfold z2y; rw [if_neg h, if_neg (by simpa using h2), if_pos h3]
theorem dp_ok {l : List UInt8} (h : ¬ 2000 < l.length) (h2 : (z1b l).2.2 = 0) (h3 : z0k (z1b l).1 = 0) : z2y l = ((z1b l).1, 0, 0) := by unfold z2y; rw [if_neg h, if_neg (by simpa using h2), if_neg (by simpa using h3)]
theorem d_small {l : List UInt8} {m : Nat} (hm : l.length + 1 <= m) (h : (z1b l).2.2 = 0) : cntPs (z1b l).1 <= l.length /\ dpPs (z1b l).1 <= 32 /\ smPs m (z1b l).1 := by
 obtain ⟨h1, h2⟩ := zey l
 rw [h2 h]
 rw [h1] at h
 have hl := (z9q h).1
 exact ⟨z9v hl, zj3 hl, zcd hm⟩
theorem z7u (s : BA) (w : World) :
  Calls Tryz.prog 47 #[.string s] w fun e w' => (∃ a cap n, e = .returned (.tuple #[.slice a (z2y s.data.toList).1.length cap, .int .i64 (z2y s.data.toList).2.1, .int .i64 (z2y s.data.toList).2.2]) /\ SlP w' (Fsh w.heap.size w') n (.slice a (z2y s.data.toList).1.length cap) (z2y s.data.toList).1) /\ Below w.heap.size w w' := by
 have hlen := z05 s
 by_cases hl : 2000 < s.size
 ·have HF := hid (dp_long (l := s.data.toList) (by omega))
  have hB : (2000 : Int) < s.size := by omega
  clear hl hlen
  go_enter Tryz.func47, Tryz.ntmps47
  go_wp2
  exact bodyPost_ret (v := .tuple #[.slice none 0 0, .int .i64 2, .int .i64 0]) (by simp [results, Tryz.results47, go_sem]) rfl (by
   rw [HF.out]; exact ⟨⟨none, 0, 0, rfl, Sl.nil _ _ _ _⟩, Below.refl _ _⟩)
 have hB : ¬ (2000 : Int) < s.size := by omega
 have HR : Hid (PAt (w.alloc (.cells #[.string s, .int .i64 0, .int .i64 0] 120)) w.heap.size s (0, 0)) := hid (z04 w #[.string s, .int .i64 0, .int .i64 0] 120)
 have HC : Hid (Calls Tryz.prog 84 #[.pointer (some ⟨w.heap.size, 0, none⟩), .int .i64 0, .bool false] (w.alloc (.cells #[.string s, .int .i64 0, .int .i64 0] 120)) (z60 w.heap.size s (w.alloc (.cells #[.string s, .int .i64 0, .int .i64 0] 120)) (z1b s.data.toList))) :=
  hid ((both_d (s.data.toList.length + 1)).1 0 false w.heap.size s (0, 0) _ (by omega) (by omega) ⟨Nat.zero_le _, .inl rfl⟩ (fun _ => by simp only; omega) HR.out)
 have HSM := hid (d_small (l := s.data.toList) (m := 140737488351232) (by omega))
 have HLN : Hid (s.data.toList.length <= 2000) := hid (by omega)
 have HZ1 := hid (World.size_alloc w (.cells #[.string s, .int .i64 0, .int .i64 0] 120))
 have HB1 := hid (z02 w (.cells #[.string s, .int .i64 0, .int .i64 0] 120))
 have HG1 := hid (dp_bad (l := s.data.toList) (by omega))
 have HG2 := hid (dp_wrong (l := s.data.toList) (by omega))
 have HG3 := hid (dp_ok (l := s.data.toList) (by omega))
 clear hl hlen HR
 go_enter Tryz.func47, Tryz.ntmps47
 go_wp2_with fail
 generalize w.alloc (.cells #[.string s, .int .i64 0, .int .i64 0] 120) = w1 at *
 generalize z1b s.data.toList = rd at *
 obtain ⟨xs, V⟩ := rd
 simp only at HSM HG1 HG2 HG3
 refine HC.out.mono ?_
 rintro e w2 ⟨a, cap, n, rfl, hsl, hp2, hf2⟩
 simp only at hsl hp2
 obtain ⟨ln, HLL⟩ : ∃ ln, Hid (ln = xs.length) := ⟨_, hid rfl⟩
 rw [<- HLL.out]
 have HP2 := hid hp2
 have HB2 := hid (z9y HB1.out hf2)
 have HS2 : Hid (SlP w2 (Fsh w1.heap.size w2) n (.slice a xs.length cap) xs) := hid hsl
 clear hsl hp2 hf2 HC
 have c1 := HP2.out.row.cell (i := 1) rfl
 have c2 := HP2.out.row.cell (i := 2) rfl
 by_cases hv : V.2 = 0
 ·have HSM2 := hid (HSM.out hv)
  have HRI := hid (z49 n w2 a cap xs (SlP.keep HS2.out (fun _ _ => rfl) (fun b hb => hb.2)) (by have h1 := HSM2.out.1; have h2 := HLN.out; omega) HSM2.out.2.1 HSM2.out.2.2)
  rw [<- HLL.out] at HRI
  have HG22 := hid (HG2.out hv)
  have HG33 := hid (HG3.out hv)
  rw [hv] at c2
  simp only [Int.natCast_zero] at c2
  clear HG1 HG2 HG3 hv HSM HSM2
  generalize z0k xs = q at *
  by_cases hq : q = 0
  ·have HF := hid (HG33.out hq)
   subst hq
   go_wp2_with fail
   refine HRI.out.mono ?_
   rintro e w4 ⟨rfl, hb4⟩
   have HB4 := hid (z00 HB2.out hb4)
   have HS4 : Hid (SlP w4 (Fsh w.heap.size w4) n (.slice a xs.length cap) xs) := hid (SlP.keep HS2.out (fun b hb => hb4.block b hb.2) (fun b hb => ⟨by have := HB1.out.size; omega, Nat.lt_of_lt_of_le hb.2 hb4.size⟩))
   clear hb4 c1 c2
   go_wp2
   exact bodyPost_ret (v := .tuple #[.slice a ln cap, .int .i64 0, .int .i64 0]) (by simp [results, Tryz.results47, go_sem]) rfl (by
    rw [HF.out, HLL.out]; exact ⟨⟨a, cap, n, rfl, HS4.out⟩, HB4.out⟩)
  ·have HF := hid (HG22.out hq)
   have hB3 : ((q : Int) != 0) = true := by simp; omega
   clear hq
   go_wp2_with fail
   refine HRI.out.mono ?_
   rintro e w4 ⟨rfl, hb4⟩
   have HB4 := hid (z00 HB2.out hb4)
   clear hb4 c1 c2
   go_wp2
   exact bodyPost_ret (v := .tuple #[.slice none 0 0, .int .i64 q, .int .i64 0]) (by simp [results, Tryz.results47, go_sem]) rfl (by
    rw [HF.out]; exact ⟨⟨none, 0, 0, rfl, Sl.nil _ _ _ _⟩, HB4.out⟩)
 ·have HF := hid (HG1.out hv)
  have hB3 : ((V.2 : Int) != 0) = true := by simp; omega
  clear hv
  go_wp2
  go_quiet (fail)
  go_wp2
  exact bodyPost_ret (v := .tuple #[.slice none 0 0, .int .i64 V.2, .int .i64 V.1]) (by simp [results, Tryz.results47, go_sem]) rfl (by
   rw [HF.out]; exact ⟨⟨none, 0, 0, rfl, Sl.nil _ _ _ _⟩, z0r HB2.out _⟩)
end Go.Proofs.YtdnedbcmgkilaaaGreatDoor.Dr

end

section

namespace Go.Proofs.YtdnedbcmgkilaaaGreatDoor.Ca
set_option maxHeartbeats 3200000
set_option maxRecDepth 100000
open Go.Lib (hid)
open Go.RowKit Go.Proofs.YtdnedbcmgkilaaaGreatDoor
def FitE (x : Ent) : Prop := x.loc.size <= 140737488351232 /\ x.key.size <= 140737488351232 /\ x.pat.size <= 140737488351232
theorem zj0 (s : BA) : s.toList.isEmpty = s.data.toList.isEmpty := by rw [ByteArray.toList_eq]
theorem may_eq (x : Ent) : mayB x = ((x.loc.data.toList.isEmpty || Lc.locB x.loc.data.toList) && keyB x.key.data.toList && patB x.pat.data.toList) := rfl
structure BK (w : World) (A : Nat) (x : Ent) (W : World) : Prop where
 row : Row W A 38 [.string x.loc, .string x.key, .string x.pat]
 below : Below w.heap.size w W
 env : EnvC W
theorem BK.step {w W W' : World} {A : Nat} {x : Ent} (h : BK w A x W) (hb : Below W.heap.size W W') : BK w A x W' := ⟨h.row.below hb, z00 h.below hb, h.env.below hb⟩
theorem BK.mk1 (w : World) (x : Ent) (h : EnvC w) : BK w w.heap.size x (w.alloc (.cells (enC x) 38)) := ⟨z04 w (enC x) 38, z02 _ _, h.below (z02 _ _)⟩
theorem z16 (x : Ent) (w : World) (hE : EnvC w) (_hF : FitE x) : Calls Tryz.prog 32 #[enV x] w fun e w' => e = .returned (.bool (!mayB x)) /\ Below w.heap.size w w' := by
 have K := BK.mk1 w x hE
 have HM := hid (may_eq x)
 have HL : Hid (∀ W, Hid (BK w w.heap.size x W) -> Calls Tryz.prog 55 #[.string x.loc] W fun e w' => e = .returned (.bool (Lc.locB x.loc.data.toList)) /\ (w'.cell? ⟨w.heap.size, 0, none⟩ = some (.string x.loc) /\ w'.cell? ⟨w.heap.size, 1, none⟩ = some (.string x.key) /\ w'.cell? ⟨w.heap.size, 2, none⟩ = some (.string x.pat)) /\ Hid (BK w w.heap.size x w')) := hid (fun W k => by
  obtain ⟨-, m, hm⟩ := k.out.env
  exact (Lc.z5t x.loc m W hm).mono fun e w' ⟨he, h2⟩ => ⟨he, ⟨(k.out.step h2).row.cell rfl, (k.out.step h2).row.cell rfl, (k.out.step h2).row.cell rfl⟩, hid (k.out.step h2)⟩)
 have HK : Hid (∀ W, Hid (BK w w.heap.size x W) -> Calls Tryz.prog 56 #[.string x.key] W fun e w' => e = .returned (.bool (keyB x.key.data.toList)) /\ (w'.cell? ⟨w.heap.size, 0, none⟩ = some (.string x.loc) /\ w'.cell? ⟨w.heap.size, 1, none⟩ = some (.string x.key) /\ w'.cell? ⟨w.heap.size, 2, none⟩ = some (.string x.pat)) /\ Hid (BK w w.heap.size x w')) := hid (fun W k => (zas x.key W).mono fun e w' ⟨he, h2⟩ => ⟨he, ⟨(k.out.step h2).row.cell rfl, (k.out.step h2).row.cell rfl, (k.out.step h2).row.cell rfl⟩, hid (k.out.step h2)⟩)
 have HP : Hid (∀ W, Hid (BK w w.heap.size x W) -> Calls Tryz.prog 44 #[.string x.pat] W fun e w' => (∃ a cap n, e = .returned (.tuple #[.slice a (z03 x.pat.data.toList).1.length cap, .int .i64 (z03 x.pat.data.toList).2.1, .int .i64 (z03 x.pat.data.toList).2.2]) /\ SlP w' (Fsh W.heap.size w') n (.slice a (z03 x.pat.data.toList).1.length cap) (z03 x.pat.data.toList).1) /\ Hid (BK w w.heap.size x w')) := hid (fun W k => (z5e x.pat W k.out.env.env).mono fun e w' ⟨h1, h2⟩ => ⟨h1, hid (k.out.step h2)⟩)
 obtain ⟨bl, HBL⟩ : ∃ b, Hid (b = Lc.locB x.loc.data.toList) := ⟨_, hid rfl⟩
 obtain ⟨bk, HBK⟩ : ∃ b, Hid (b = keyB x.key.data.toList) := ⟨_, hid rfl⟩
 obtain ⟨pl, HPL⟩ : ∃ b, Hid (b = (z03 x.pat.data.toList).1.length) := ⟨_, hid rfl⟩
 obtain ⟨pe, HPE⟩ : ∃ b, Hid (b = (z03 x.pat.data.toList).2.1) := ⟨_, hid rfl⟩
 obtain ⟨po, HPO⟩ : ∃ b, Hid (b = (z03 x.pat.data.toList).2.2) := ⟨_, hid rfl⟩
 have HPB : Hid (patB x.pat.data.toList = decide (pe = 0)) := hid (by rw [HPE.out]; rfl)
 rw [<- HBL.out] at HL HM
 rw [<- HBK.out] at HK HM
 rw [<- HPL.out, <- HPE.out, <- HPO.out] at HP
 rw [HPB.out, <- zj0] at HM
 have c0 := K.row.cell (i := 0) rfl
 have c1 := K.row.cell (i := 1) rfl
 have c2 := K.row.cell (i := 2) rfl
 have HK0 := hid K
 clear K hE
 obtain ⟨xl, xk, xp⟩ := x
 simp only at c0 c1 c2 HL HK HP HM HK0 HPB
 cases hEB : xl.toList.isEmpty with
 | true =>
  have HEB := hid hEB
  rw [HEB.out] at HM
  cases bk with
  | false =>
   go_enter Tryz.func32, Tryz.ntmps32
   go_wp2_with fail
   refine (HK.out _ HK0).mono ?_
   rintro e w2 ⟨rfl, ⟨c0, c1, c2⟩, hk2⟩
   clear HK0
   have HK0 := hk2
   clear hk2
   go_wp2
   go_ret
   exact ⟨by rw [HM.out]; rfl, HK0.out.below⟩
  | true =>
   go_enter Tryz.func32, Tryz.ntmps32
   go_wp2_with fail
   refine (HK.out _ HK0).mono ?_
   rintro e w2 ⟨rfl, ⟨c0, c1, c2⟩, hk2⟩
   clear HK0
   have HK0 := hk2
   clear hk2
   go_wp2_with fail
   refine (HP.out _ HK0).mono ?_
   rintro e w3 ⟨⟨a, cap, n, rfl, -⟩, hk3⟩
   go_wp2
   go_ret
   exact ⟨z01 (by rw [HM.out]; by_cases hp : pe = 0 <;> simp [hp]), hk3.out.below⟩
 | false =>
  have HEB := hid hEB
  rw [HEB.out] at HM
  cases bl with
  | true =>
   cases bk with
   | false =>
    go_enter Tryz.func32, Tryz.ntmps32
    go_wp2_with fail
    refine (HL.out _ HK0).mono ?_
    rintro e w1 ⟨rfl, ⟨c0, c1, c2⟩, hk1⟩
    clear HK0
    have HK0 := hk1
    clear hk1
    go_wp2_with fail
    refine (HK.out _ HK0).mono ?_
    rintro e w2 ⟨rfl, ⟨c0, c1, c2⟩, hk2⟩
    clear HK0
    have HK0 := hk2
    clear hk2
    go_wp2
    go_ret
    exact ⟨by rw [HM.out]; rfl, HK0.out.below⟩
   | true =>
    go_enter Tryz.func32, Tryz.ntmps32
    go_wp2_with fail
    refine (HL.out _ HK0).mono ?_
    rintro e w1 ⟨rfl, ⟨c0, c1, c2⟩, hk1⟩
    clear HK0
    have HK0 := hk1
    clear hk1
    go_wp2_with fail
    refine (HK.out _ HK0).mono ?_
    rintro e w2 ⟨rfl, ⟨c0, c1, c2⟩, hk2⟩
    clear HK0
    have HK0 := hk2
    clear hk2
    go_wp2_with fail
    refine (HP.out _ HK0).mono ?_
    rintro e w3 ⟨⟨a, cap, n, rfl, -⟩, hk3⟩
    go_wp2
    go_ret
    exact ⟨z01 (by rw [HM.out]; by_cases hp : pe = 0 <;> simp [hp]), hk3.out.below⟩
  | false =>
   go_enter Tryz.func32, Tryz.ntmps32
   go_wp2_with fail
   refine (HL.out _ HK0).mono ?_
   rintro e w1 ⟨rfl, ⟨c0, c1, c2⟩, hk1⟩
   clear HK0
   have HK0 := hk1
   clear hk1
   go_wp2
   go_ret
   exact ⟨by rw [HM.out]; rfl, HK0.out.below⟩
theorem may_any (x : Ent) (w : World) (hE : EnvC w) (hF : FitE x) : Calls Tryz.prog 33 #[enV x] w fun e w' => e = .returned (.bool (mayB x)) /\ Below w.heap.size w w' := by
 have K := BK.mk1 w x hE
 have HM := hid (may_eq x)
 have HL : Hid (∀ W, Hid (BK w w.heap.size x W) -> Calls Tryz.prog 25 #[.string x.loc] W fun e w' => e = .returned (.bool (Lc.locB x.loc.data.toList)) /\ (w'.cell? ⟨w.heap.size, 0, none⟩ = some (.string x.loc) /\ w'.cell? ⟨w.heap.size, 1, none⟩ = some (.string x.key) /\ w'.cell? ⟨w.heap.size, 2, none⟩ = some (.string x.pat)) /\ Hid (BK w w.heap.size x w')) := hid (fun W k => (Lc.z4s x.loc W (by have := hF.1; omega)).mono fun e w' ⟨he, hw⟩ => by subst hw; exact ⟨he, ⟨k.out.row.cell rfl, k.out.row.cell rfl, k.out.row.cell rfl⟩, k⟩)
 have HK : Hid (∀ W, Hid (BK w w.heap.size x W) -> Calls Tryz.prog 57 #[.string x.key] W fun e w' => e = .returned (.bool (keyB x.key.data.toList)) /\ (w'.cell? ⟨w.heap.size, 0, none⟩ = some (.string x.loc) /\ w'.cell? ⟨w.heap.size, 1, none⟩ = some (.string x.key) /\ w'.cell? ⟨w.heap.size, 2, none⟩ = some (.string x.pat)) /\ Hid (BK w w.heap.size x w')) := hid (fun W k => (rkey_any x.key W hF.2.1).mono fun e w' ⟨he, hw⟩ => by subst hw; exact ⟨he, ⟨k.out.row.cell rfl, k.out.row.cell rfl, k.out.row.cell rfl⟩, k⟩)
 have HP : Hid (∀ W, Hid (BK w w.heap.size x W) -> Calls Tryz.prog 47 #[.string x.pat] W fun e w' => (∃ a cap n, e = .returned (.tuple #[.slice a (z03 x.pat.data.toList).1.length cap, .int .i64 (z03 x.pat.data.toList).2.1, .int .i64 (z03 x.pat.data.toList).2.2]) /\ SlP w' (Fsh W.heap.size w') n (.slice a (z03 x.pat.data.toList).1.length cap) (z03 x.pat.data.toList).1) /\ Hid (BK w w.heap.size x w')) := hid (fun W k => by
  have h := Dr.z7u x.pat W
  rw [zbt] at h
  exact h.mono fun e w' ⟨h1, h2⟩ => ⟨h1, hid (k.out.step h2)⟩)
 obtain ⟨bl, HBL⟩ : ∃ b, Hid (b = Lc.locB x.loc.data.toList) := ⟨_, hid rfl⟩
 obtain ⟨bk, HBK⟩ : ∃ b, Hid (b = keyB x.key.data.toList) := ⟨_, hid rfl⟩
 obtain ⟨pl, HPL⟩ : ∃ b, Hid (b = (z03 x.pat.data.toList).1.length) := ⟨_, hid rfl⟩
 obtain ⟨pe, HPE⟩ : ∃ b, Hid (b = (z03 x.pat.data.toList).2.1) := ⟨_, hid rfl⟩
 obtain ⟨po, HPO⟩ : ∃ b, Hid (b = (z03 x.pat.data.toList).2.2) := ⟨_, hid rfl⟩
 have HPB : Hid (patB x.pat.data.toList = decide (pe = 0)) := hid (by rw [HPE.out]; rfl)
 rw [<- HBL.out] at HL HM
 rw [<- HBK.out] at HK HM
 rw [<- HPL.out, <- HPE.out, <- HPO.out] at HP
 rw [HPB.out, <- zj0] at HM
 have c0 := K.row.cell (i := 0) rfl
 have c1 := K.row.cell (i := 1) rfl
 have c2 := K.row.cell (i := 2) rfl
 have HK0 := hid K
 clear K hE hF
 obtain ⟨xl, xk, xp⟩ := x
 simp only at c0 c1 c2 HL HK HP HM HK0 HPB
 cases hEB : xl.toList.isEmpty with
 | true =>
  have HEB := hid hEB
  rw [HEB.out] at HM
  cases bk with
  | false =>
   go_enter Tryz.func33, Tryz.ntmps33
   go_wp2_with fail
   refine (HK.out _ HK0).mono ?_
   rintro e w2 ⟨rfl, ⟨c0, c1, c2⟩, hk2⟩
   clear HK0
   have HK0 := hk2
   clear hk2
   go_wp2
   go_ret
   exact ⟨by rw [HM.out]; rfl, HK0.out.below⟩
  | true =>
   go_enter Tryz.func33, Tryz.ntmps33
   go_wp2_with fail
   refine (HK.out _ HK0).mono ?_
   rintro e w2 ⟨rfl, ⟨c0, c1, c2⟩, hk2⟩
   clear HK0
   have HK0 := hk2
   clear hk2
   go_wp2_with fail
   refine (HP.out _ HK0).mono ?_
   rintro e w3 ⟨⟨a, cap, n, rfl, -⟩, hk3⟩
   go_wp2
   go_ret
   exact ⟨z01 (by rw [HM.out]; by_cases hp : pe = 0 <;> simp [hp]), hk3.out.below⟩
 | false =>
  have HEB := hid hEB
  rw [HEB.out] at HM
  cases bl with
  | true =>
   cases bk with
   | false =>
    go_enter Tryz.func33, Tryz.ntmps33
    go_wp2_with fail
    refine (HL.out _ HK0).mono ?_
    rintro e w1 ⟨rfl, ⟨c0, c1, c2⟩, hk1⟩
    clear HK0
    have HK0 := hk1
    clear hk1
    go_wp2_with fail
    refine (HK.out _ HK0).mono ?_
    rintro e w2 ⟨rfl, ⟨c0, c1, c2⟩, hk2⟩
    clear HK0
    have HK0 := hk2
    clear hk2
    go_wp2
    go_ret
    exact ⟨by rw [HM.out]; rfl, HK0.out.below⟩
   | true =>
    go_enter Tryz.func33, Tryz.ntmps33
    go_wp2_with fail
    refine (HL.out _ HK0).mono ?_
    rintro e w1 ⟨rfl, ⟨c0, c1, c2⟩, hk1⟩
    clear HK0
    have HK0 := hk1
    clear hk1
    go_wp2_with fail
    refine (HK.out _ HK0).mono ?_
    rintro e w2 ⟨rfl, ⟨c0, c1, c2⟩, hk2⟩
    clear HK0
    have HK0 := hk2
    clear hk2
    go_wp2_with fail
    refine (HP.out _ HK0).mono ?_
    rintro e w3 ⟨⟨a, cap, n, rfl, -⟩, hk3⟩
    go_wp2
    go_ret
    exact ⟨z01 (by rw [HM.out]; by_cases hp : pe = 0 <;> simp [hp]), hk3.out.below⟩
  | false =>
   go_enter Tryz.func33, Tryz.ntmps33
   go_wp2_with fail
   refine (HL.out _ HK0).mono ?_
   rintro e w1 ⟨rfl, ⟨c0, c1, c2⟩, hk1⟩
   clear HK0
   have HK0 := hk1
   clear hk1
   go_wp2
   go_ret
   exact ⟨by rw [HM.out]; rfl, HK0.out.below⟩
end Go.Proofs.YtdnedbcmgkilaaaGreatDoor.Ca

end
