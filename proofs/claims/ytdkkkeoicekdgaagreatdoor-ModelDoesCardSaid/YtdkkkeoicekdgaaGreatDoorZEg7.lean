/- The document's Right and Parse. -/
import Derived.Test.YtdkkkeoicekdgaaGreatDoorZEDh
import Derived.Test.YtdkkkeoicekdgaaGreatDoorZERs
import Derived.Test.YtdkkkeoicekdgaaGreatDoorZEEk

section

namespace Go.Proofs.YtdkkkeoicekdgaaGreatDoor.Dr
set_option maxHeartbeats 3200000
set_option maxRecDepth 100000
open Go.Lib (hid)
open Go.RowKit Go.Proofs.YtdkkkeoicekdgaaGreatDoor
theorem z2p (n : Nat) (w : World) (a : Option Addr) (cap : Nat) (xs : List Pt) (hxs : SlP w (Old w) n (.slice a xs.length cap) xs) (hc : cntPs xs <= 2000) (hd : dpPs xs <= 32) (hsm : smPs 140737488351232 xs) :
  Calls Tryz.prog 196 #[.slice a xs.length cap] w fun e w' => e = .returned (.int .i64 (z12 xs)) /\ Below w.heap.size w w' := by
 have HM := hid (many_any n w a cap 1001 xs hxs (by omega) (by omega) hc);have HX := hid hxs;have j := hid (fun W (hb : Below w.heap.size w W) => deep_any n W a cap 33 xs (HX.out.old hb) (by omega) (by omega));have k := hid (fun W (hb : Below w.heap.size w W) => (zbw n).1 false W a cap xs (HX.out.old hb) hsm);obtain ⟨L, HL⟩ := nmd (xs.length);rw [<- HL.out] at HM j k ⊢;obtain ⟨c, HC⟩ := nmd (min (cntPs xs) 1001);rw [<- HC.out] at HM;obtain ⟨d, HD⟩ := nmd (dpPs xs);rw [<- HD.out] at j
 have q : ¬ (32 : Int) < (d : Int) := by have := HD.out; omega
 clear hxs hsm HX
 by_cases h1 : 1000 < cntPs xs
 ·have HE : Hid (z12 xs = 2) := hid (by unfold z12; rw [if_pos h1])
  have p : (1000 : Int) < (c : Int) := by have := HC.out; omega
  clear h1 hc hd
  go_enter Tryz.func196, Tryz.ntmps196
  go_wp2_with fail
  refine HM.out.mono ?_;rintro e w2 ⟨rfl, b⟩;have f := hid b;clear b;go_wp2;go_ret;exact ⟨by rw [HE.out]; rfl, f.out⟩
 ·have p : ¬ (1000 : Int) < (c : Int) := by have := HC.out; omega
  have HE : Hid (z12 xs = if okPs false false xs then 0 else 91) := hid (by unfold z12; rw [if_neg h1, if_neg (by omega)]);clear h1 hc hd
  generalize okPs false false xs = ok at *
  cases ok with
  | true =>
   go_enter Tryz.func196, Tryz.ntmps196
   go_wp2_with fail
   refine HM.out.mono ?_;rintro e w2 ⟨rfl, b⟩;have l := hid (j.out w2 b);have f := hid b;clear b
   go_wp2_with fail
   refine l.out.mono ?_;rintro e w3 ⟨rfl, g⟩;have h := hid (z00 f.out g);have m := hid (k.out w3 h.out);clear g
   go_wp2_with fail
   refine m.out.mono ?_;rintro e w4 ⟨rfl, i⟩;have o := hid (z00 h.out i);clear i;go_wp2;go_ret;exact ⟨by rw [HE.out]; rfl, o.out⟩
  | false =>
   go_enter Tryz.func196, Tryz.ntmps196
   go_wp2_with fail
   refine HM.out.mono ?_;rintro e w2 ⟨rfl, b⟩;have l := hid (j.out w2 b);have f := hid b;clear b
   go_wp2_with fail
   refine l.out.mono ?_;rintro e w3 ⟨rfl, g⟩;have h := hid (z00 f.out g);have m := hid (k.out w3 h.out);clear g
   go_wp2_with fail
   refine m.out.mono ?_;rintro e w4 ⟨rfl, i⟩;have o := hid (z00 h.out i);clear i;go_wp2;go_ret;exact ⟨by rw [HE.out]; rfl, o.out⟩
theorem dp_long {l : List UInt8} (h : 2000 < l.length) : z2z l = ([], 2, 0) := by unfold z2z; rw [if_pos h]
theorem dp_bad {l : List UInt8} (h : ¬ 2000 < l.length) (h2 : (z1d l).2.2 ≠ 0) : z2z l = ([], (z1d l).2.2, (z1d l).2.1) := by unfold z2z; rw [if_neg h, if_pos h2]
theorem dp_wrong {l : List UInt8} (h : ¬ 2000 < l.length) (h2 : (z1d l).2.2 = 0) (h3 : z12 (z1d l).1 ≠ 0) : z2z l = ([], z12 (z1d l).1, 0) := by unfold z2z; rw [if_neg h, if_neg (by simpa using h2), if_pos h3]
theorem dp_ok {l : List UInt8} (h : ¬ 2000 < l.length) (h2 : (z1d l).2.2 = 0) (h3 : z12 (z1d l).1 = 0) : z2z l = ((z1d l).1, 0, 0) := by unfold z2z; rw [if_neg h, if_neg (by simpa using h2), if_neg (by simpa using h3)]
theorem d_small {l : List UInt8} {m : Nat} (hm : l.length + 1 <= m) (h : (z1d l).2.2 = 0) : cntPs (z1d l).1 <= l.length /\ dpPs (z1d l).1 <= 32 /\ smPs m (z1d l).1 := by
 obtain ⟨h1, h2⟩ := zeq l;rw [h2 h];rw [h1] at h;have hl := (zeh h).1;exact ⟨zer hl, dp_read hl, zg2 hm⟩
theorem zf8 (s : BA) (w : World) :
  Calls Tryz.prog 166 #[.string s] w fun e w' => (∃ a cap n, e = .returned (.tuple #[.slice a (z2z s.data.toList).1.length cap, .int .i64 (z2z s.data.toList).2.1, .int .i64 (z2z s.data.toList).2.2]) /\ SlP w' (Fsh w.heap.size w') n (.slice a (z2z s.data.toList).1.length cap) (z2z s.data.toList).1) /\ Below w.heap.size w w' := by
 have f := z08 s
 by_cases hl : 2000 < s.size
 ·have HF := hid (dp_long (l := s.data.toList) (by omega))
  have hB : (2000 : Int) < s.size := by omega
  clear hl f
  go_enter Tryz.func166, Tryz.ntmps166
  go_wp2
  exact bodyPost_ret (v := .tuple #[.slice none 0 0, .int .i64 2, .int .i64 0]) (by simp [results, Tryz.results166, go_sem]) rfl (by
   rw [HF.out]; exact ⟨⟨none, 0, 0, rfl, Sl.nil _ _ _ _⟩, Below.refl _ _⟩)
 have hB : ¬ (2000 : Int) < s.size := by omega
 have HR : Hid (PAt (w.alloc (.cells #[.string s, .int .i64 0, .int .i64 0] 241)) w.heap.size s (0, 0)) := hid (z02 w #[.string s, .int .i64 0, .int .i64 0] 241)
 have HC : Hid (Calls Tryz.prog 195 #[.pointer (some ⟨w.heap.size, 0, none⟩), .int .i64 0, .bool false] (w.alloc (.cells #[.string s, .int .i64 0, .int .i64 0] 241)) (z64 w.heap.size s (w.alloc (.cells #[.string s, .int .i64 0, .int .i64 0] 241)) (z1d s.data.toList))) :=
  hid ((both_d (s.data.toList.length + 1)).1 0 false w.heap.size s (0, 0) _ (by omega) (by omega) ⟨Nat.zero_le _, .inl rfl⟩ (fun _ => by simp only; omega) HR.out)
 have g := hid (d_small (l := s.data.toList) (m := 140737488351232) (by omega));have D : Hid (s.data.toList.length <= 2000) := hid (by omega);have G := hid (World.size_alloc w (.cells #[.string s, .int .i64 0, .int .i64 0] 241));have x := hid (z03 w (.cells #[.string s, .int .i64 0, .int .i64 0] 241));have h := hid (dp_bad (l := s.data.toList) (by omega));have i := hid (dp_wrong (l := s.data.toList) (by omega));have j := hid (dp_ok (l := s.data.toList) (by omega));clear hl f HR
 go_enter Tryz.func166, Tryz.ntmps166
 go_wp2_with fail
 generalize w.alloc (.cells #[.string s, .int .i64 0, .int .i64 0] 241) = w1 at *
 generalize z1d s.data.toList = rd at *
 obtain ⟨xs, V⟩ := rd;simp only at g h i j;refine HC.out.mono ?_;rintro e w2 ⟨a, cap, n, rfl, k, o, y⟩;simp only at k o;obtain ⟨ln, p⟩ := nmd (xs.length);rw [<- p.out];have z := hid o;have r := hid (z9o x.out y);have A : Hid (SlP w2 (Fsh w1.heap.size w2) n (.slice a xs.length cap) xs) := hid k;clear k o y HC;have c1 := z.out.row.c1;have c2 := z.out.row.c2
 by_cases hv : V.2 = 0
 ·have d := hid (g.out hv)
  have t := hid (z2p n w2 a cap xs (SlP.keep A.out (fun _ _ => rfl) (fun b hb => hb.2)) (by have h1 := d.out.1; have h2 := D.out; omega) d.out.2.1 d.out.2.2);rw [<- p.out] at t;have B := hid (i.out hv);have C := hid (j.out hv);rw [hv] at c2;simp only [Int.natCast_zero] at c2;clear h i j hv g d
  generalize z12 xs = q at *
  by_cases hq : q = 0
  ·have HF := hid (C.out hq)
   subst hq
   go_wp2_with fail
   refine t.out.mono ?_;rintro e w4 ⟨rfl, c⟩;have u := hid (z00 r.out c);have E : Hid (SlP w4 (Fsh w.heap.size w4) n (.slice a xs.length cap) xs) := hid (SlP.keep A.out (fun b hb => c.block b hb.2) (fun b hb => ⟨by have := x.out.size; omega, Nat.lt_of_lt_of_le hb.2 c.size⟩));clear c c1 c2;go_wp2
   exact bodyPost_ret (v := .tuple #[.slice a ln cap, .int .i64 0, .int .i64 0]) (by simp [results, Tryz.results166, go_sem]) rfl (by
    rw [HF.out, p.out]; exact ⟨⟨a, cap, n, rfl, E.out⟩, u.out⟩)
  ·have HF := hid (B.out hq)
   have F : ((q : Int) != 0) = true := by simp; omega
   clear hq
   go_wp2_with fail
   refine t.out.mono ?_;rintro e w4 ⟨rfl, c⟩;have u := hid (z00 r.out c);clear c c1 c2;go_wp2
   exact bodyPost_ret (v := .tuple #[.slice none 0 0, .int .i64 q, .int .i64 0]) (by simp [results, Tryz.results166, go_sem]) rfl (by
    rw [HF.out]; exact ⟨⟨none, 0, 0, rfl, Sl.nil _ _ _ _⟩, u.out⟩)
 ·have HF := hid (h.out hv)
  have F : ((V.2 : Int) != 0) = true := by simp; omega
  clear hv;go_wp2
  go_quiet (fail)
  go_wp2
  exact bodyPost_ret (v := .tuple #[.slice none 0 0, .int .i64 V.2, .int .i64 V.1]) (by simp [results, Tryz.results166, go_sem]) rfl (by
   rw [HF.out]; exact ⟨⟨none, 0, 0, rfl, Sl.nil _ _ _ _⟩, z0a r.out _⟩)
end Go.Proofs.YtdkkkeoicekdgaaGreatDoor.Dr

end

section

namespace Go.Proofs.YtdkkkeoicekdgaaGreatDoor.Ca
set_option maxHeartbeats 3200000
set_option maxRecDepth 100000
open Go.Lib (hid)
open Go.RowKit Go.Proofs.YtdkkkeoicekdgaaGreatDoor
def FitE (x : Ent) : Prop := x.loc.size <= 140737488351232 /\ x.key.size <= 140737488351232 /\ x.pat.size <= 140737488351232
theorem zi8 (s : BA) : s.toList.isEmpty = s.data.toList.isEmpty := by rw [ByteArray.toList_eq]
theorem may_eq (x : Ent) : mayB x = ((x.loc.data.toList.isEmpty || Lc.locB x.loc.data.toList) && keyB x.key.data.toList && patB x.pat.data.toList) := rfl
structure BK (w : World) (A : Nat) (x : Ent) (W : World) : Prop where
 row : Row W A 81 [.string x.loc, .string x.key, .string x.pat]
 below : Below w.heap.size w W
 env : EnvC W
theorem BK.step {w W W' : World} {A : Nat} {x : Ent} (h : BK w A x W) (hb : Below W.heap.size W W') : BK w A x W' := ⟨h.row.below hb, z00 h.below hb, h.env.below hb⟩
theorem BK.mk1 (w : World) (x : Ent) (h : EnvC w) : BK w w.heap.size x (w.alloc (.cells (enC x) 81)) := ⟨z02 w (enC x) 81, z03 _ _, h.below (z03 _ _)⟩
theorem z15 (x : Ent) (w : World) (hE : EnvC w) (_hF : FitE x) : Calls Tryz.prog 124 #[enV x] w fun e w' => e = .returned (.bool (!mayB x)) /\ Below w.heap.size w w' := by
 have K := BK.mk1 w x hE;have HM := hid (may_eq x)
 have HL : Hid (∀ W, Hid (BK w w.heap.size x W) -> Calls Tryz.prog 157 #[.string x.loc] W fun e w' => e = .returned (.bool (Lc.locB x.loc.data.toList)) /\ (w'.cell? ⟨w.heap.size, 0, none⟩ = some (.string x.loc) /\ w'.cell? ⟨w.heap.size, 1, none⟩ = some (.string x.key) /\ w'.cell? ⟨w.heap.size, 2, none⟩ = some (.string x.pat)) /\ Hid (BK w w.heap.size x w')) := hid (fun W k => by
  obtain ⟨-, m, hm⟩ := k.out.env
  exact (Lc.zfh x.loc m W hm).mono fun e w' ⟨he, h2⟩ => ⟨he, ⟨(k.out.step h2).row.cell rfl, (k.out.step h2).row.cell rfl, (k.out.step h2).row.cell rfl⟩, hid (k.out.step h2)⟩)
 have HK : Hid (∀ W, Hid (BK w w.heap.size x W) -> Calls Tryz.prog 158 #[.string x.key] W fun e w' => e = .returned (.bool (keyB x.key.data.toList)) /\ (w'.cell? ⟨w.heap.size, 0, none⟩ = some (.string x.loc) /\ w'.cell? ⟨w.heap.size, 1, none⟩ = some (.string x.key) /\ w'.cell? ⟨w.heap.size, 2, none⟩ = some (.string x.pat)) /\ Hid (BK w w.heap.size x w')) := hid (fun W k => (zaa x.key W).mono fun e w' ⟨he, h2⟩ => ⟨he, ⟨(k.out.step h2).row.cell rfl, (k.out.step h2).row.cell rfl, (k.out.step h2).row.cell rfl⟩, hid (k.out.step h2)⟩);have HP : Hid (∀ W, Hid (BK w w.heap.size x W) -> Calls Tryz.prog 159 #[.string x.pat] W fun e w' => (∃ a f n, e = .returned (.tuple #[.slice a (z0r x.pat.data.toList).1.length f, .int .i64 (z0r x.pat.data.toList).2.1, .int .i64 (z0r x.pat.data.toList).2.2]) /\ SlP w' (Fsh W.heap.size w') n (.slice a (z0r x.pat.data.toList).1.length f) (z0r x.pat.data.toList).1) /\ Hid (BK w w.heap.size x w')) := hid (fun W k => (zgo x.pat W k.out.env.env).mono fun e w' ⟨h1, h2⟩ => ⟨h1, hid (k.out.step h2)⟩);obtain ⟨bl, l⟩ := nmd (Lc.locB x.loc.data.toList);obtain ⟨bk, o⟩ := nmd (keyB x.key.data.toList);obtain ⟨pl, p⟩ := nmd ((z0r x.pat.data.toList).1.length);obtain ⟨pe, i⟩ := nmd ((z0r x.pat.data.toList).2.1);obtain ⟨po, q⟩ := nmd ((z0r x.pat.data.toList).2.2);have j : Hid (patB x.pat.data.toList = decide (pe = 0)) := hid (by rw [i.out]; rfl);rw [<- l.out] at HL HM;rw [<- o.out] at HK HM;rw [<- p.out, <- i.out, <- q.out] at HP;rw [j.out, <- zi8] at HM;have c0 := K.row.c0
 have c1 := K.row.c1;have c2 := K.row.c2;have b := hid K;clear K hE;obtain ⟨xl, xk, xp⟩ := x;simp only at c0 c1 c2 HL HK HP HM b j
 cases hEB : xl.toList.isEmpty with
 | true =>
  have g := hid hEB;rw [g.out] at HM
  cases bk with
  | false =>
   go_enter Tryz.func124, Tryz.ntmps124
   go_wp2_with fail
   refine (HK.out _ b).mono ?_;rintro e w2 ⟨rfl, ⟨c0, c1, c2⟩, c⟩;clear b;have b := c;clear c;go_wp2;go_ret;exact ⟨by rw [HM.out]; rfl, b.out.below⟩
  | true =>
   go_enter Tryz.func124, Tryz.ntmps124
   go_wp2_with fail
   refine (HK.out _ b).mono ?_;rintro e w2 ⟨rfl, ⟨c0, c1, c2⟩, c⟩;clear b;have b := c;clear c
   go_wp2_with fail
   refine (HP.out _ b).mono ?_;rintro e w3 ⟨⟨a, f, n, rfl, -⟩, h⟩;go_wp2;go_ret;exact ⟨z01 (by rw [HM.out]; by_cases hp : pe = 0 <;> simp [hp]), h.out.below⟩
 | false =>
  have g := hid hEB;rw [g.out] at HM
  cases bl with
  | true =>
   cases bk with
   | false =>
    go_enter Tryz.func124, Tryz.ntmps124
    go_wp2_with fail
    refine (HL.out _ b).mono ?_;rintro e w1 ⟨rfl, ⟨c0, c1, c2⟩, d⟩;clear b;have b := d;clear d
    go_wp2_with fail
    refine (HK.out _ b).mono ?_;rintro e w2 ⟨rfl, ⟨c0, c1, c2⟩, c⟩;clear b;have b := c;clear c;go_wp2;go_ret;exact ⟨by rw [HM.out]; rfl, b.out.below⟩
   | true =>
    go_enter Tryz.func124, Tryz.ntmps124
    go_wp2_with fail
    refine (HL.out _ b).mono ?_;rintro e w1 ⟨rfl, ⟨c0, c1, c2⟩, d⟩;clear b;have b := d;clear d
    go_wp2_with fail
    refine (HK.out _ b).mono ?_;rintro e w2 ⟨rfl, ⟨c0, c1, c2⟩, c⟩;clear b;have b := c;clear c
    go_wp2_with fail
    refine (HP.out _ b).mono ?_;rintro e w3 ⟨⟨a, f, n, rfl, -⟩, h⟩;go_wp2;go_ret;exact ⟨z01 (by rw [HM.out]; by_cases hp : pe = 0 <;> simp [hp]), h.out.below⟩
  | false =>
   go_enter Tryz.func124, Tryz.ntmps124
   go_wp2_with fail
   refine (HL.out _ b).mono ?_;rintro e w1 ⟨rfl, ⟨c0, c1, c2⟩, d⟩;clear b;have b := d;clear d;go_wp2;go_ret;exact ⟨by rw [HM.out]; rfl, b.out.below⟩
theorem zci (x : Ent) (w : World) (hE : EnvC w) (hF : FitE x) : Calls Tryz.prog 130 #[enV x] w fun e w' => e = .returned (.bool (mayB x)) /\ Below w.heap.size w w' := by
 have K := BK.mk1 w x hE;have HM := hid (may_eq x);have HL : Hid (∀ W, Hid (BK w w.heap.size x W) -> Calls Tryz.prog 164 #[.string x.loc] W fun e w' => e = .returned (.bool (Lc.locB x.loc.data.toList)) /\ (w'.cell? ⟨w.heap.size, 0, none⟩ = some (.string x.loc) /\ w'.cell? ⟨w.heap.size, 1, none⟩ = some (.string x.key) /\ w'.cell? ⟨w.heap.size, 2, none⟩ = some (.string x.pat)) /\ Hid (BK w w.heap.size x w')) := hid (fun W k => (Lc.zc1 x.loc W (by have := hF.1; omega)).mono fun e w' ⟨he, hw⟩ => by subst hw; exact ⟨he, ⟨k.out.row.cell rfl, k.out.row.cell rfl, k.out.row.cell rfl⟩, k⟩);have HK : Hid (∀ W, Hid (BK w w.heap.size x W) -> Calls Tryz.prog 165 #[.string x.key] W fun e w' => e = .returned (.bool (keyB x.key.data.toList)) /\ (w'.cell? ⟨w.heap.size, 0, none⟩ = some (.string x.loc) /\ w'.cell? ⟨w.heap.size, 1, none⟩ = some (.string x.key) /\ w'.cell? ⟨w.heap.size, 2, none⟩ = some (.string x.pat)) /\ Hid (BK w w.heap.size x w')) := hid (fun W k => (rkey_any x.key W hF.2.1).mono fun e w' ⟨he, hw⟩ => by subst hw; exact ⟨he, ⟨k.out.row.cell rfl, k.out.row.cell rfl, k.out.row.cell rfl⟩, k⟩)
 have HP : Hid (∀ W, Hid (BK w w.heap.size x W) -> Calls Tryz.prog 166 #[.string x.pat] W fun e w' => (∃ a f n, e = .returned (.tuple #[.slice a (z0r x.pat.data.toList).1.length f, .int .i64 (z0r x.pat.data.toList).2.1, .int .i64 (z0r x.pat.data.toList).2.2]) /\ SlP w' (Fsh W.heap.size w') n (.slice a (z0r x.pat.data.toList).1.length f) (z0r x.pat.data.toList).1) /\ Hid (BK w w.heap.size x w')) := hid (fun W k => by
  have h := Dr.zf8 x.pat W;rw [zip] at h
  exact h.mono fun e w' ⟨h1, h2⟩ => ⟨h1, hid (k.out.step h2)⟩)
 obtain ⟨bl, m⟩ := nmd (Lc.locB x.loc.data.toList);obtain ⟨bk, o⟩ := nmd (keyB x.key.data.toList);obtain ⟨pl, p⟩ := nmd ((z0r x.pat.data.toList).1.length);obtain ⟨pe, j⟩ := nmd ((z0r x.pat.data.toList).2.1);obtain ⟨po, q⟩ := nmd ((z0r x.pat.data.toList).2.2);have l : Hid (patB x.pat.data.toList = decide (pe = 0)) := hid (by rw [j.out]; rfl);rw [<- m.out] at HL HM;rw [<- o.out] at HK HM;rw [<- p.out, <- j.out, <- q.out] at HP;rw [l.out, <- zi8] at HM;have c0 := K.row.c0;have c1 := K.row.c1;have c2 := K.row.c2;have b := hid K;clear K hE hF;obtain ⟨xl, xk, xp⟩ := x;simp only at c0 c1 c2 HL HK HP HM b l
 cases hEB : xl.toList.isEmpty with
 | true =>
  have g := hid hEB;rw [g.out] at HM
  cases bk with
  | false =>
   go_enter Tryz.func130, Tryz.ntmps130
   go_wp2_with fail
   refine (HK.out _ b).mono ?_;rintro e w2 ⟨rfl, ⟨c0, c1, c2⟩, c⟩;clear b;have b := c;clear c;go_wp2;go_ret;exact ⟨by rw [HM.out]; rfl, b.out.below⟩
  | true =>
   go_enter Tryz.func130, Tryz.ntmps130
   go_wp2_with fail
   refine (HK.out _ b).mono ?_;rintro e w2 ⟨rfl, ⟨c0, c1, c2⟩, c⟩;clear b;have b := c;clear c
   go_wp2_with fail
   refine (HP.out _ b).mono ?_;rintro e w3 ⟨⟨a, f, n, rfl, -⟩, i⟩;go_wp2;go_ret;exact ⟨z01 (by rw [HM.out]; by_cases hp : pe = 0 <;> simp [hp]), i.out.below⟩
 | false =>
  have g := hid hEB;rw [g.out] at HM
  cases bl with
  | true =>
   cases bk with
   | false =>
    go_enter Tryz.func130, Tryz.ntmps130
    go_wp2_with fail
    refine (HL.out _ b).mono ?_;rintro e w1 ⟨rfl, ⟨c0, c1, c2⟩, d⟩;clear b;have b := d;clear d
    go_wp2_with fail
    refine (HK.out _ b).mono ?_;rintro e w2 ⟨rfl, ⟨c0, c1, c2⟩, c⟩;clear b;have b := c;clear c;go_wp2;go_ret;exact ⟨by rw [HM.out]; rfl, b.out.below⟩
   | true =>
    go_enter Tryz.func130, Tryz.ntmps130
    go_wp2_with fail
    refine (HL.out _ b).mono ?_;rintro e w1 ⟨rfl, ⟨c0, c1, c2⟩, d⟩;clear b;have b := d;clear d
    go_wp2_with fail
    refine (HK.out _ b).mono ?_;rintro e w2 ⟨rfl, ⟨c0, c1, c2⟩, c⟩;clear b;have b := c;clear c
    go_wp2_with fail
    refine (HP.out _ b).mono ?_;rintro e w3 ⟨⟨a, f, n, rfl, -⟩, i⟩;go_wp2;go_ret;exact ⟨z01 (by rw [HM.out]; by_cases hp : pe = 0 <;> simp [hp]), i.out.below⟩
  | false =>
   go_enter Tryz.func130, Tryz.ntmps130
   go_wp2_with fail
   refine (HL.out _ b).mono ?_;rintro e w1 ⟨rfl, ⟨c0, c1, c2⟩, d⟩;clear b;have b := d;clear d;go_wp2;go_ret;exact ⟨by rw [HM.out]; rfl, b.out.below⟩
end Go.Proofs.YtdkkkeoicekdgaaGreatDoor.Ca

end
