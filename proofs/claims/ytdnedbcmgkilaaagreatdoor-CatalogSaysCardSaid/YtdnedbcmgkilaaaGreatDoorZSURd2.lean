/- The reader: a number, a span. -/
import Derived.Test.YtdnedbcmgkilaaaGreatDoorZSg17

namespace Go.Proofs.YtdnedbcmgkilaaaGreatDoor.Pu
set_option maxHeartbeats 6400000
set_option maxRecDepth 100000
open Go.Lib (hid)
open Go.RowKit
theorem numL_dig {l : List UInt8} {n a : Nat} {c : UInt8} (hc : l[a]? = some c) (h1 : 48 <= c.toNat) (h2 : c.toNat <= 57) (h3 : n * 10 + (c.toNat - 48) <= 1000000) :
  numL l (l.length - a) n a = numL l (l.length - (a + 1)) (n * 10 + (c.toNat - 48)) (a + 1) := by
 have hlt := z0l hc
 rw [show l.length - a = (l.length - (a + 1)) + 1 by omega, numL, hc]
 simp [isDg, h1, h2, h3]
theorem numL_big {l : List UInt8} {n a : Nat} {c : UInt8} (hc : l[a]? = some c) (h3 : 1000000 < n * 10 + (c.toNat - 48)) : numL l (l.length - a) n a = (n, a) := by
 have hlt := z0l hc
 rw [show l.length - a = (l.length - (a + 1)) + 1 by omega, numL, hc]
 simp only []
 rw [if_neg (by omega)]
theorem numL_not {l : List UInt8} {n a : Nat} {c : UInt8} (hc : l[a]? = some c) (h : ¬ (48 <= c.toNat /\ c.toNat <= 57)) : numL l (l.length - a) n a = (n, a) := by
 have hlt := z0l hc
 rw [show l.length - a = (l.length - (a + 1)) + 1 by omega, numL, hc]
 simp only []
 rw [if_neg (by simp [isDg]; intro h1; omega)]
theorem numL_end {l : List UInt8} {n a : Nat} (hc : l[a]? = none) : numL l (l.length - a) n a = (n, a) := by
 rw [List.getElem?_eq_none_iff] at hc
 rw [show l.length - a = 0 by omega, numL]
def NumAt (l : List UInt8) (S : St) (n a : Nat) : Prop := (S.2 = true -> a = S.1 /\ n = 0) /\ (S.2 = false -> (a = S.1 -> n = 0) /\ numL l (l.length - S.1) 0 S.1 = numL l (l.length - a) n a /\ (a ≠ S.1 -> l[S.1]? ≠ some 48))
theorem NumAt.start (l : List UInt8) (S : St) : NumAt l S 0 S.1 := ⟨fun _ => ⟨rfl, rfl⟩, fun _ => ⟨fun _ => rfl, rfl, fun h => absurd rfl h⟩⟩
theorem NumAt.stuck {l : List UInt8} {a n b : Nat} (h : NumAt l (a, true) n b) : b = a /\ n = 0 := h.1 rfl
theorem NumAt.step {l : List UInt8} {S : St} {n a : Nat} {c : UInt8} (h : NumAt l S n a) (hs : S.2 = false) (hc : l[a]? = some c) (h1 : 48 <= c.toNat) (h2 : c.toNat <= 57) (h3 : n * 10 + (c.toNat - 48) <= 1000000) (h0 : a = S.1 -> c.toNat ≠ 48) (ha : S.1 <= a) : NumAt l S (n * 10 + (c.toNat - 48)) (a + 1) := by
 obtain ⟨p, q, r⟩ := h.2 hs
 refine ⟨fun e => (by rw [hs] at e; cases e), fun _ => ⟨fun e => by omega, q.trans (numL_dig hc h1 h2 h3), fun _ => ?_⟩⟩
 by_cases e : a = S.1
 ·subst e
  rw [hc]
  intro hh
  have := h0 rfl
  obtain rfl := Option.some.inj hh
  exact this rfl
 ·exact r e
theorem NumAt.zero {l : List UInt8} {S : St} (hs : S.2 = false) (hc : l[S.1]? = some 48) : numF l S = (0, (S.1 + 1, false)) := by
 unfold numF; rw [hs]; simp [hc]
theorem NumAt.done {l : List UInt8} {S : St} {n a : Nat} (h : NumAt l S n a) (hs : S.2 = false) (he : numL l (l.length - a) n a = (n, a)) (h0 : a = S.1 -> l[a]? ≠ some 48) : numF l S = (n, (a, decide (a = S.1))) := by
 obtain ⟨p, q, r⟩ := h.2 hs
 have h48 : l[S.1]? ≠ some 48 := by
  by_cases e : a = S.1
  ·rw [<- e]; exact h0 e
  ·exact r e
 unfold numF
 rw [hs, if_neg (by simp), if_neg h48, q, he]
theorem zb4 (l : List UInt8) (a : Nat) : numF l (a, true) = (0, (a, true)) := by unfold numF; rfl
theorem z5c {l : List UInt8} {a : Nat} {c : UInt8} (h : l[a]? = some c) : peekF l (a, false) = c.toNat := by unfold peekF; simp [h]
theorem zh6 {l : List UInt8} {a : Nat} (h : l[a]? = none) : peekF l (a, false) = 0 := by unfold peekF; simp [h]
theorem u8_of {c : UInt8} {n : Nat} (h : c.toNat = n) : c = UInt8.ofNat n := by rw [<- h, UInt8.ofNat_toNat]
def plc (m rb : Nat) (w : World) : Nat := match w.cell? ⟨rb, 1, none⟩ with | some (.int _ a) => m - a.toNat | _ => 0
theorem z2c {m rb : Nat} {w : World} {s : BA} {S : St} (h : RdAt w rb s S) : plc m rb w = m - S.1 := by unfold plc; rw [h.c1]; simp
theorem get10 {c : UInt8} : (48 <= c.toNat /\ c.toNat <= 57) -> c.toNat = 48 ∨ c.toNat = 49 ∨ c.toNat = 50 ∨ c.toNat = 51 ∨ c.toNat = 52 ∨ c.toNat = 53 ∨ c.toNat = 54 ∨ c.toNat = 55 ∨ c.toNat = 56 ∨ c.toNat = 57 := by omega
theorem z2q (rb : Nat) (s : BA) (S : St) (w : World) (hs : s.size <= 400) (hS : S.1 <= s.size) (hR : RdAt w rb s S) :
  Calls Tryz.prog 252 #[.pointer (some ⟨rb, 0, none⟩)] w fun e w' => e = .returned (.int .i64 (numF s.data.toList S).1) /\ RdAt w' rb s (numF s.data.toList S).2 /\ Fr (· = rb) w w' := by
 have HR := hid hR
 have c1 := hR.c1
 obtain ⟨a0, st⟩ := S
 simp only at hS c1
 clear hR
 go_enter Tryz.func252, Tryz.ntmps252
 go_wp2
 clear c1
 go_loopw [3] (fun i wr => ∃ (n a : Nat), n <= 1000000 /\ i = .int .i64 n /\ a0 <= a /\ a <= s.size /\ Hid (RdAt wr rb s (a, st)) /\ Hid (Fr (· = rb) w wr) /\ Hid (NumAt s.data.toList (a0, st) n a)) (fun _ wr => plc s.size rb wr)
 case atStart => exact ⟨0, a0, by omega, rfl, by omega, hS, HR, hid (Fr.refl _ _), hid (NumAt.start _ _)⟩
 case round =>
  obtain ⟨n, a, hn, rfl, ha0, ha, HRT, HF, HA⟩ := hrel
  have HM := hid (z2c (m := s.size) HRT.out)
  have HN := hid (peek_any rb s (a, st) wr hs ha HRT.out)
  clear HR
  cases st with
  | true =>
   obtain ⟨e1, e2⟩ := HA.out.stuck
   subst e1
   subst e2
   have HP : Hid (peekF s.data.toList (a, true) = 0) := hid rfl
   have HE := hid (zb4 s.data.toList a)
   go_wp2_with fail
   refine HN.out.mono ?_
   rintro e w2 ⟨rfl, hw2⟩
   rw [HP.out]
   have HR2 := hid (HRT.out.same hw2)
   have HF2 := hid (HF.out.trans (Fr.of_same hw2))
   clear hw2 HN HP
   have c1 := HR2.out.c1
   have c2 := HR2.out.c2
   have z1 := HR2.out.thaw 1
   have z2 := HR2.out.thaw 2
   simp only at c1 c2
   have HQ : Hid (RdAt (w2.setCell ⟨rb, 2, none⟩ (.bool true)) rb s (a, true)) := hid (HR2.out.set2 true)
   have HF3 : Hid (Fr (· = rb) w (w2.setCell ⟨rb, 2, none⟩ (.bool true))) := hid (HF2.out.trans (z0d 2 _))
   have hB : ((a : Int) == (a : Int)) = true := by simp
   go_wp2
   go_ret
   exact ⟨z0z (by first | (rw [HE.out]; done) | (rw [HE.out]; rfl)), by rw [HE.out]; exact HQ.out, HF3.out⟩
  | false =>
   by_cases hd : ∃ c, s.data.toList[a]? = some c /\ 48 <= c.toNat /\ c.toNat <= 57
   ·obtain ⟨c, hc, hd1, hd2⟩ := hd
    have hlt := z0l hc
    simp only [Array.length_toList, ByteArray.size_data] at hlt
    by_cases hz : a = a0 /\ c.toNat = 48
    ·obtain ⟨hza, hz⟩ := hz
     subst hza
     have HP : Hid (peekF s.data.toList (a, false) = 48) := hid (by rw [z5c hc, hz])
     have HE : Hid (numF s.data.toList (a, false) = (0, (a + 1, false))) := hid (NumAt.zero rfl (by rw [hc, u8_of hz]; rfl))
     clear hc
     go_wp2_with fail
     refine HN.out.mono ?_
     rintro e w2 ⟨rfl, hw2⟩
     rw [HP.out]
     have HR2 := hid (HRT.out.same hw2)
     have HF2 := hid (HF.out.trans (Fr.of_same hw2))
     clear hw2 HN HP
     have c1 := HR2.out.c1
     have c2 := HR2.out.c2
     have z1 := HR2.out.thaw 1
     have z2 := HR2.out.thaw 2
     simp only at c1 c2
     have HQ : Hid (RdAt (w2.setCell ⟨rb, 1, none⟩ (.int .i64 ((a : Int) + 1))) rb s (a + 1, false)) := hid (HR2.out.set1 (a + 1))
     have HF3 : Hid (Fr (· = rb) w (w2.setCell ⟨rb, 1, none⟩ (.int .i64 ((a : Int) + 1)))) := hid (HF2.out.trans (z0d 1 _))
     have hB : ((a : Int) == (a : Int)) = true := by simp
     go_wp2
     go_ret
     exact ⟨z0z (by first | (rw [HE.out]; done) | (rw [HE.out]; rfl)), by rw [HE.out]; exact HQ.out, HF3.out⟩
    ·by_cases hbig : 1000000 < n * 10 + (c.toNat - 48)
     ·have hne : a ≠ a0 := fun e => by
       have := (HA.out.2 rfl).1 e; omega
      have HE : Hid (numF s.data.toList (a0, false) = (n, (a, false))) := hid (by rw [HA.out.done rfl (numL_big hc hbig) (fun e => absurd e hne)]; simp [hne])
      have hB : ((a : Int) == (a0 : Int)) = false := by simp; omega
      have HP0 := hid (z5c hc)
      have HC := hid hc
      clear hc hz
      rcases get10 ⟨hd1, hd2⟩ with h | h | h | h | h | h | h | h | h | h
      ·rw [h] at hbig HP0
       have HP := HP0
       have hb2 : (1000000 : Int) < (n : Int) * 10 + 0 := by omega
       clear h hd1 hd2 HP0 hbig
       go_wp2_with fail
       refine HN.out.mono ?_
       rintro e w2 ⟨rfl, hw2⟩
       rw [HP.out]
       have HR2 := hid (HRT.out.same hw2)
       have HF2 := hid (HF.out.trans (Fr.of_same hw2))
       clear hw2 HN HP
       have c1 := HR2.out.c1
       have c2 := HR2.out.c2
       have z1 := HR2.out.thaw 1
       have z2 := HR2.out.thaw 2
       simp only at c1 c2
       go_wp2
       go_ret
       exact ⟨z0z (by first | (rw [HE.out]; done) | (rw [HE.out]; rfl)), by rw [HE.out]; exact HR2.out, HF2.out⟩
      ·rw [h] at hbig HP0
       have HP := HP0
       have hb2 : (1000000 : Int) < (n : Int) * 10 + 1 := by omega
       clear h hd1 hd2 HP0 hbig
       go_wp2_with fail
       refine HN.out.mono ?_
       rintro e w2 ⟨rfl, hw2⟩
       rw [HP.out]
       have HR2 := hid (HRT.out.same hw2)
       have HF2 := hid (HF.out.trans (Fr.of_same hw2))
       clear hw2 HN HP
       have c1 := HR2.out.c1
       have c2 := HR2.out.c2
       have z1 := HR2.out.thaw 1
       have z2 := HR2.out.thaw 2
       simp only at c1 c2
       go_wp2
       go_ret
       exact ⟨z0z (by first | (rw [HE.out]; done) | (rw [HE.out]; rfl)), by rw [HE.out]; exact HR2.out, HF2.out⟩
      ·rw [h] at hbig HP0
       have HP := HP0
       have hb2 : (1000000 : Int) < (n : Int) * 10 + 2 := by omega
       clear h hd1 hd2 HP0 hbig
       go_wp2_with fail
       refine HN.out.mono ?_
       rintro e w2 ⟨rfl, hw2⟩
       rw [HP.out]
       have HR2 := hid (HRT.out.same hw2)
       have HF2 := hid (HF.out.trans (Fr.of_same hw2))
       clear hw2 HN HP
       have c1 := HR2.out.c1
       have c2 := HR2.out.c2
       have z1 := HR2.out.thaw 1
       have z2 := HR2.out.thaw 2
       simp only at c1 c2
       go_wp2
       go_ret
       exact ⟨z0z (by first | (rw [HE.out]; done) | (rw [HE.out]; rfl)), by rw [HE.out]; exact HR2.out, HF2.out⟩
      ·rw [h] at hbig HP0
       have HP := HP0
       have hb2 : (1000000 : Int) < (n : Int) * 10 + 3 := by omega
       clear h hd1 hd2 HP0 hbig
       go_wp2_with fail
       refine HN.out.mono ?_
       rintro e w2 ⟨rfl, hw2⟩
       rw [HP.out]
       have HR2 := hid (HRT.out.same hw2)
       have HF2 := hid (HF.out.trans (Fr.of_same hw2))
       clear hw2 HN HP
       have c1 := HR2.out.c1
       have c2 := HR2.out.c2
       have z1 := HR2.out.thaw 1
       have z2 := HR2.out.thaw 2
       simp only at c1 c2
       go_wp2
       go_ret
       exact ⟨z0z (by first | (rw [HE.out]; done) | (rw [HE.out]; rfl)), by rw [HE.out]; exact HR2.out, HF2.out⟩
      ·rw [h] at hbig HP0
       have HP := HP0
       have hb2 : (1000000 : Int) < (n : Int) * 10 + 4 := by omega
       clear h hd1 hd2 HP0 hbig
       go_wp2_with fail
       refine HN.out.mono ?_
       rintro e w2 ⟨rfl, hw2⟩
       rw [HP.out]
       have HR2 := hid (HRT.out.same hw2)
       have HF2 := hid (HF.out.trans (Fr.of_same hw2))
       clear hw2 HN HP
       have c1 := HR2.out.c1
       have c2 := HR2.out.c2
       have z1 := HR2.out.thaw 1
       have z2 := HR2.out.thaw 2
       simp only at c1 c2
       go_wp2
       go_ret
       exact ⟨z0z (by first | (rw [HE.out]; done) | (rw [HE.out]; rfl)), by rw [HE.out]; exact HR2.out, HF2.out⟩
      ·rw [h] at hbig HP0
       have HP := HP0
       have hb2 : (1000000 : Int) < (n : Int) * 10 + 5 := by omega
       clear h hd1 hd2 HP0 hbig
       go_wp2_with fail
       refine HN.out.mono ?_
       rintro e w2 ⟨rfl, hw2⟩
       rw [HP.out]
       have HR2 := hid (HRT.out.same hw2)
       have HF2 := hid (HF.out.trans (Fr.of_same hw2))
       clear hw2 HN HP
       have c1 := HR2.out.c1
       have c2 := HR2.out.c2
       have z1 := HR2.out.thaw 1
       have z2 := HR2.out.thaw 2
       simp only at c1 c2
       go_wp2
       go_ret
       exact ⟨z0z (by first | (rw [HE.out]; done) | (rw [HE.out]; rfl)), by rw [HE.out]; exact HR2.out, HF2.out⟩
      ·rw [h] at hbig HP0
       have HP := HP0
       have hb2 : (1000000 : Int) < (n : Int) * 10 + 6 := by omega
       clear h hd1 hd2 HP0 hbig
       go_wp2_with fail
       refine HN.out.mono ?_
       rintro e w2 ⟨rfl, hw2⟩
       rw [HP.out]
       have HR2 := hid (HRT.out.same hw2)
       have HF2 := hid (HF.out.trans (Fr.of_same hw2))
       clear hw2 HN HP
       have c1 := HR2.out.c1
       have c2 := HR2.out.c2
       have z1 := HR2.out.thaw 1
       have z2 := HR2.out.thaw 2
       simp only at c1 c2
       go_wp2
       go_ret
       exact ⟨z0z (by first | (rw [HE.out]; done) | (rw [HE.out]; rfl)), by rw [HE.out]; exact HR2.out, HF2.out⟩
      ·rw [h] at hbig HP0
       have HP := HP0
       have hb2 : (1000000 : Int) < (n : Int) * 10 + 7 := by omega
       clear h hd1 hd2 HP0 hbig
       go_wp2_with fail
       refine HN.out.mono ?_
       rintro e w2 ⟨rfl, hw2⟩
       rw [HP.out]
       have HR2 := hid (HRT.out.same hw2)
       have HF2 := hid (HF.out.trans (Fr.of_same hw2))
       clear hw2 HN HP
       have c1 := HR2.out.c1
       have c2 := HR2.out.c2
       have z1 := HR2.out.thaw 1
       have z2 := HR2.out.thaw 2
       simp only at c1 c2
       go_wp2
       go_ret
       exact ⟨z0z (by first | (rw [HE.out]; done) | (rw [HE.out]; rfl)), by rw [HE.out]; exact HR2.out, HF2.out⟩
      ·rw [h] at hbig HP0
       have HP := HP0
       have hb2 : (1000000 : Int) < (n : Int) * 10 + 8 := by omega
       clear h hd1 hd2 HP0 hbig
       go_wp2_with fail
       refine HN.out.mono ?_
       rintro e w2 ⟨rfl, hw2⟩
       rw [HP.out]
       have HR2 := hid (HRT.out.same hw2)
       have HF2 := hid (HF.out.trans (Fr.of_same hw2))
       clear hw2 HN HP
       have c1 := HR2.out.c1
       have c2 := HR2.out.c2
       have z1 := HR2.out.thaw 1
       have z2 := HR2.out.thaw 2
       simp only at c1 c2
       go_wp2
       go_ret
       exact ⟨z0z (by first | (rw [HE.out]; done) | (rw [HE.out]; rfl)), by rw [HE.out]; exact HR2.out, HF2.out⟩
      ·rw [h] at hbig HP0
       have HP := HP0
       have hb2 : (1000000 : Int) < (n : Int) * 10 + 9 := by omega
       clear h hd1 hd2 HP0 hbig
       go_wp2_with fail
       refine HN.out.mono ?_
       rintro e w2 ⟨rfl, hw2⟩
       rw [HP.out]
       have HR2 := hid (HRT.out.same hw2)
       have HF2 := hid (HF.out.trans (Fr.of_same hw2))
       clear hw2 HN HP
       have c1 := HR2.out.c1
       have c2 := HR2.out.c2
       have z1 := HR2.out.thaw 1
       have z2 := HR2.out.thaw 2
       simp only at c1 c2
       go_wp2
       go_ret
       exact ⟨z0z (by first | (rw [HE.out]; done) | (rw [HE.out]; rfl)), by rw [HE.out]; exact HR2.out, HF2.out⟩
     ·have HQ2 := hid (HA.out.step rfl hc hd1 hd2 (by omega) (fun e h => hz ⟨e, h⟩) ha0)
      have HP0 := hid (z5c hc)
      have HC := hid hc
      have HZ := hid hz
      clear hc hz
      rcases get10 ⟨hd1, hd2⟩ with h | h | h | h | h | h | h | h | h | h
      ·rw [h] at hbig HP0 HQ2
       have HP := HP0
       have HNB : Hid (n * 10 + 0 <= 1000000) := hid (by omega)
       have hb2 : decide ((1000000 : Int) < (n : Int) * 10) = false := decide_eq_false (by omega)
       have hB : ((a : Int) == (a0 : Int)) = false := by
        have := HZ.out
        simp; intro e; exact this ⟨by omega, h⟩
       clear h hd1 hd2 HP0 hbig
       go_wp2_with fail
       refine HN.out.mono ?_
       rintro e w2 ⟨rfl, hw2⟩
       rw [HP.out]
       have HR2 := hid (HRT.out.same hw2)
       have HF2 := hid (HF.out.trans (Fr.of_same hw2))
       clear hw2 HN HP
       have c1 := HR2.out.c1
       have c2 := HR2.out.c2
       have z1 := HR2.out.thaw 1
       have z2 := HR2.out.thaw 2
       simp only at c1 c2
       have HQ : Hid (RdAt (w2.setCell ⟨rb, 1, none⟩ (.int .i64 ((a : Int) + 1))) rb s (a + 1, false)) := hid (HR2.out.set1 (a + 1))
       have HF3 : Hid (Fr (· = rb) w (w2.setCell ⟨rb, 1, none⟩ (.int .i64 ((a : Int) + 1)))) := hid (HF2.out.trans (z0d 1 _))
       go_wp2
       go_roundw
       case rel => exact ⟨n * 10 + 0, a + 1, HNB.out, by go_num, by omega, by omega, HQ, HF3, HQ2⟩
       case measure =>
        have h1 := z2c (m := s.size) HQ.out
        rw [HM.out, h1]
        simp only
        omega
      ·rw [h] at hbig HP0 HQ2
       have HP := HP0
       have HNB : Hid (n * 10 + 1 <= 1000000) := hid (by omega)
       have hb2 : decide ((1000000 : Int) < (n : Int) * 10 + 1) = false := decide_eq_false (by omega)
       clear h hd1 hd2 HP0 hbig
       go_wp2_with fail
       refine HN.out.mono ?_
       rintro e w2 ⟨rfl, hw2⟩
       rw [HP.out]
       have HR2 := hid (HRT.out.same hw2)
       have HF2 := hid (HF.out.trans (Fr.of_same hw2))
       clear hw2 HN HP
       have c1 := HR2.out.c1
       have c2 := HR2.out.c2
       have z1 := HR2.out.thaw 1
       have z2 := HR2.out.thaw 2
       simp only at c1 c2
       have HQ : Hid (RdAt (w2.setCell ⟨rb, 1, none⟩ (.int .i64 ((a : Int) + 1))) rb s (a + 1, false)) := hid (HR2.out.set1 (a + 1))
       have HF3 : Hid (Fr (· = rb) w (w2.setCell ⟨rb, 1, none⟩ (.int .i64 ((a : Int) + 1)))) := hid (HF2.out.trans (z0d 1 _))
       go_wp2
       go_roundw
       case rel => exact ⟨n * 10 + 1, a + 1, HNB.out, by go_num, by omega, by omega, HQ, HF3, HQ2⟩
       case measure =>
        have h1 := z2c (m := s.size) HQ.out
        rw [HM.out, h1]
        simp only
        omega
      ·rw [h] at hbig HP0 HQ2
       have HP := HP0
       have HNB : Hid (n * 10 + 2 <= 1000000) := hid (by omega)
       have hb2 : decide ((1000000 : Int) < (n : Int) * 10 + 2) = false := decide_eq_false (by omega)
       clear h hd1 hd2 HP0 hbig
       go_wp2_with fail
       refine HN.out.mono ?_
       rintro e w2 ⟨rfl, hw2⟩
       rw [HP.out]
       have HR2 := hid (HRT.out.same hw2)
       have HF2 := hid (HF.out.trans (Fr.of_same hw2))
       clear hw2 HN HP
       have c1 := HR2.out.c1
       have c2 := HR2.out.c2
       have z1 := HR2.out.thaw 1
       have z2 := HR2.out.thaw 2
       simp only at c1 c2
       have HQ : Hid (RdAt (w2.setCell ⟨rb, 1, none⟩ (.int .i64 ((a : Int) + 1))) rb s (a + 1, false)) := hid (HR2.out.set1 (a + 1))
       have HF3 : Hid (Fr (· = rb) w (w2.setCell ⟨rb, 1, none⟩ (.int .i64 ((a : Int) + 1)))) := hid (HF2.out.trans (z0d 1 _))
       go_wp2
       go_roundw
       case rel => exact ⟨n * 10 + 2, a + 1, HNB.out, by go_num, by omega, by omega, HQ, HF3, HQ2⟩
       case measure =>
        have h1 := z2c (m := s.size) HQ.out
        rw [HM.out, h1]
        simp only
        omega
      ·rw [h] at hbig HP0 HQ2
       have HP := HP0
       have HNB : Hid (n * 10 + 3 <= 1000000) := hid (by omega)
       have hb2 : decide ((1000000 : Int) < (n : Int) * 10 + 3) = false := decide_eq_false (by omega)
       clear h hd1 hd2 HP0 hbig
       go_wp2_with fail
       refine HN.out.mono ?_
       rintro e w2 ⟨rfl, hw2⟩
       rw [HP.out]
       have HR2 := hid (HRT.out.same hw2)
       have HF2 := hid (HF.out.trans (Fr.of_same hw2))
       clear hw2 HN HP
       have c1 := HR2.out.c1
       have c2 := HR2.out.c2
       have z1 := HR2.out.thaw 1
       have z2 := HR2.out.thaw 2
       simp only at c1 c2
       have HQ : Hid (RdAt (w2.setCell ⟨rb, 1, none⟩ (.int .i64 ((a : Int) + 1))) rb s (a + 1, false)) := hid (HR2.out.set1 (a + 1))
       have HF3 : Hid (Fr (· = rb) w (w2.setCell ⟨rb, 1, none⟩ (.int .i64 ((a : Int) + 1)))) := hid (HF2.out.trans (z0d 1 _))
       go_wp2
       go_roundw
       case rel => exact ⟨n * 10 + 3, a + 1, HNB.out, by go_num, by omega, by omega, HQ, HF3, HQ2⟩
       case measure =>
        have h1 := z2c (m := s.size) HQ.out
        rw [HM.out, h1]
        simp only
        omega
      ·rw [h] at hbig HP0 HQ2
       have HP := HP0
       have HNB : Hid (n * 10 + 4 <= 1000000) := hid (by omega)
       have hb2 : decide ((1000000 : Int) < (n : Int) * 10 + 4) = false := decide_eq_false (by omega)
       clear h hd1 hd2 HP0 hbig
       go_wp2_with fail
       refine HN.out.mono ?_
       rintro e w2 ⟨rfl, hw2⟩
       rw [HP.out]
       have HR2 := hid (HRT.out.same hw2)
       have HF2 := hid (HF.out.trans (Fr.of_same hw2))
       clear hw2 HN HP
       have c1 := HR2.out.c1
       have c2 := HR2.out.c2
       have z1 := HR2.out.thaw 1
       have z2 := HR2.out.thaw 2
       simp only at c1 c2
       have HQ : Hid (RdAt (w2.setCell ⟨rb, 1, none⟩ (.int .i64 ((a : Int) + 1))) rb s (a + 1, false)) := hid (HR2.out.set1 (a + 1))
       have HF3 : Hid (Fr (· = rb) w (w2.setCell ⟨rb, 1, none⟩ (.int .i64 ((a : Int) + 1)))) := hid (HF2.out.trans (z0d 1 _))
       go_wp2
       go_roundw
       case rel => exact ⟨n * 10 + 4, a + 1, HNB.out, by go_num, by omega, by omega, HQ, HF3, HQ2⟩
       case measure =>
        have h1 := z2c (m := s.size) HQ.out
        rw [HM.out, h1]
        simp only
        omega
      ·rw [h] at hbig HP0 HQ2
       have HP := HP0
       have HNB : Hid (n * 10 + 5 <= 1000000) := hid (by omega)
       have hb2 : decide ((1000000 : Int) < (n : Int) * 10 + 5) = false := decide_eq_false (by omega)
       clear h hd1 hd2 HP0 hbig
       go_wp2_with fail
       refine HN.out.mono ?_
       rintro e w2 ⟨rfl, hw2⟩
       rw [HP.out]
       have HR2 := hid (HRT.out.same hw2)
       have HF2 := hid (HF.out.trans (Fr.of_same hw2))
       clear hw2 HN HP
       have c1 := HR2.out.c1
       have c2 := HR2.out.c2
       have z1 := HR2.out.thaw 1
       have z2 := HR2.out.thaw 2
       simp only at c1 c2
       have HQ : Hid (RdAt (w2.setCell ⟨rb, 1, none⟩ (.int .i64 ((a : Int) + 1))) rb s (a + 1, false)) := hid (HR2.out.set1 (a + 1))
       have HF3 : Hid (Fr (· = rb) w (w2.setCell ⟨rb, 1, none⟩ (.int .i64 ((a : Int) + 1)))) := hid (HF2.out.trans (z0d 1 _))
       go_wp2
       go_roundw
       case rel => exact ⟨n * 10 + 5, a + 1, HNB.out, by go_num, by omega, by omega, HQ, HF3, HQ2⟩
       case measure =>
        have h1 := z2c (m := s.size) HQ.out
        rw [HM.out, h1]
        simp only
        omega
      ·rw [h] at hbig HP0 HQ2
       have HP := HP0
       have HNB : Hid (n * 10 + 6 <= 1000000) := hid (by omega)
       have hb2 : decide ((1000000 : Int) < (n : Int) * 10 + 6) = false := decide_eq_false (by omega)
       clear h hd1 hd2 HP0 hbig
       go_wp2_with fail
       refine HN.out.mono ?_
       rintro e w2 ⟨rfl, hw2⟩
       rw [HP.out]
       have HR2 := hid (HRT.out.same hw2)
       have HF2 := hid (HF.out.trans (Fr.of_same hw2))
       clear hw2 HN HP
       have c1 := HR2.out.c1
       have c2 := HR2.out.c2
       have z1 := HR2.out.thaw 1
       have z2 := HR2.out.thaw 2
       simp only at c1 c2
       have HQ : Hid (RdAt (w2.setCell ⟨rb, 1, none⟩ (.int .i64 ((a : Int) + 1))) rb s (a + 1, false)) := hid (HR2.out.set1 (a + 1))
       have HF3 : Hid (Fr (· = rb) w (w2.setCell ⟨rb, 1, none⟩ (.int .i64 ((a : Int) + 1)))) := hid (HF2.out.trans (z0d 1 _))
       go_wp2
       go_roundw
       case rel => exact ⟨n * 10 + 6, a + 1, HNB.out, by go_num, by omega, by omega, HQ, HF3, HQ2⟩
       case measure =>
        have h1 := z2c (m := s.size) HQ.out
        rw [HM.out, h1]
        simp only
        omega
      ·rw [h] at hbig HP0 HQ2
       have HP := HP0
       have HNB : Hid (n * 10 + 7 <= 1000000) := hid (by omega)
       have hb2 : decide ((1000000 : Int) < (n : Int) * 10 + 7) = false := decide_eq_false (by omega)
       clear h hd1 hd2 HP0 hbig
       go_wp2_with fail
       refine HN.out.mono ?_
       rintro e w2 ⟨rfl, hw2⟩
       rw [HP.out]
       have HR2 := hid (HRT.out.same hw2)
       have HF2 := hid (HF.out.trans (Fr.of_same hw2))
       clear hw2 HN HP
       have c1 := HR2.out.c1
       have c2 := HR2.out.c2
       have z1 := HR2.out.thaw 1
       have z2 := HR2.out.thaw 2
       simp only at c1 c2
       have HQ : Hid (RdAt (w2.setCell ⟨rb, 1, none⟩ (.int .i64 ((a : Int) + 1))) rb s (a + 1, false)) := hid (HR2.out.set1 (a + 1))
       have HF3 : Hid (Fr (· = rb) w (w2.setCell ⟨rb, 1, none⟩ (.int .i64 ((a : Int) + 1)))) := hid (HF2.out.trans (z0d 1 _))
       go_wp2
       go_roundw
       case rel => exact ⟨n * 10 + 7, a + 1, HNB.out, by go_num, by omega, by omega, HQ, HF3, HQ2⟩
       case measure =>
        have h1 := z2c (m := s.size) HQ.out
        rw [HM.out, h1]
        simp only
        omega
      ·rw [h] at hbig HP0 HQ2
       have HP := HP0
       have HNB : Hid (n * 10 + 8 <= 1000000) := hid (by omega)
       have hb2 : decide ((1000000 : Int) < (n : Int) * 10 + 8) = false := decide_eq_false (by omega)
       clear h hd1 hd2 HP0 hbig
       go_wp2_with fail
       refine HN.out.mono ?_
       rintro e w2 ⟨rfl, hw2⟩
       rw [HP.out]
       have HR2 := hid (HRT.out.same hw2)
       have HF2 := hid (HF.out.trans (Fr.of_same hw2))
       clear hw2 HN HP
       have c1 := HR2.out.c1
       have c2 := HR2.out.c2
       have z1 := HR2.out.thaw 1
       have z2 := HR2.out.thaw 2
       simp only at c1 c2
       have HQ : Hid (RdAt (w2.setCell ⟨rb, 1, none⟩ (.int .i64 ((a : Int) + 1))) rb s (a + 1, false)) := hid (HR2.out.set1 (a + 1))
       have HF3 : Hid (Fr (· = rb) w (w2.setCell ⟨rb, 1, none⟩ (.int .i64 ((a : Int) + 1)))) := hid (HF2.out.trans (z0d 1 _))
       go_wp2
       go_roundw
       case rel => exact ⟨n * 10 + 8, a + 1, HNB.out, by go_num, by omega, by omega, HQ, HF3, HQ2⟩
       case measure =>
        have h1 := z2c (m := s.size) HQ.out
        rw [HM.out, h1]
        simp only
        omega
      ·rw [h] at hbig HP0 HQ2
       have HP := HP0
       have HNB : Hid (n * 10 + 9 <= 1000000) := hid (by omega)
       have hb2 : decide ((1000000 : Int) < (n : Int) * 10 + 9) = false := decide_eq_false (by omega)
       clear h hd1 hd2 HP0 hbig
       go_wp2_with fail
       refine HN.out.mono ?_
       rintro e w2 ⟨rfl, hw2⟩
       rw [HP.out]
       have HR2 := hid (HRT.out.same hw2)
       have HF2 := hid (HF.out.trans (Fr.of_same hw2))
       clear hw2 HN HP
       have c1 := HR2.out.c1
       have c2 := HR2.out.c2
       have z1 := HR2.out.thaw 1
       have z2 := HR2.out.thaw 2
       simp only at c1 c2
       have HQ : Hid (RdAt (w2.setCell ⟨rb, 1, none⟩ (.int .i64 ((a : Int) + 1))) rb s (a + 1, false)) := hid (HR2.out.set1 (a + 1))
       have HF3 : Hid (Fr (· = rb) w (w2.setCell ⟨rb, 1, none⟩ (.int .i64 ((a : Int) + 1)))) := hid (HF2.out.trans (z0d 1 _))
       go_wp2
       go_roundw
       case rel => exact ⟨n * 10 + 9, a + 1, HNB.out, by go_num, by omega, by omega, HQ, HF3, HQ2⟩
       case measure =>
        have h1 := z2c (m := s.size) HQ.out
        rw [HM.out, h1]
        simp only
        omega
   ·have hn0 : numL s.data.toList (s.data.toList.length - a) n a = (n, a) := by
     cases hc : s.data.toList[a]? with
     | none => exact numL_end hc
     | some c => exact numL_not hc (fun h => hd ⟨c, hc, h⟩)
    have h48 : s.data.toList[a]? ≠ some 48 := fun h => hd ⟨48, h, by decide, by decide⟩
    have HE0 := hid (HA.out.done rfl hn0 (fun _ => h48))
    obtain ⟨p, HP, hp1⟩ : ∃ p : Nat, Hid (peekF s.data.toList (a, false) = p) /\ ¬ (48 <= p /\ p <= 57) := by
     cases hc : s.data.toList[a]? with
     | none => exact ⟨0, hid (zh6 hc), by omega⟩
     | some c => exact ⟨c.toNat, hid (z5c hc), fun h => hd ⟨c, hc, h⟩⟩
    clear hd hn0 h48
    have k48 : ((p : Int) == 48) = false := by simp; omega
    have k49 : ((p : Int) == 49) = false := by simp; omega
    have k50 : ((p : Int) == 50) = false := by simp; omega
    have k51 : ((p : Int) == 51) = false := by simp; omega
    have k52 : ((p : Int) == 52) = false := by simp; omega
    have k53 : ((p : Int) == 53) = false := by simp; omega
    have k54 : ((p : Int) == 54) = false := by simp; omega
    have k55 : ((p : Int) == 55) = false := by simp; omega
    have k56 : ((p : Int) == 56) = false := by simp; omega
    have k57 : ((p : Int) == 57) = false := by simp; omega
    by_cases hst : a = a0
    ·subst hst
     have HE : Hid (numF s.data.toList (a, false) = (n, (a, true))) := hid (HE0.out.trans (by simp))
     have hB : ((a : Int) == (a : Int)) = true := by simp
     clear hp1 HE0
     go_wp2_with fail
     refine HN.out.mono ?_
     rintro e w2 ⟨rfl, hw2⟩
     rw [HP.out]
     have HR2 := hid (HRT.out.same hw2)
     have HF2 := hid (HF.out.trans (Fr.of_same hw2))
     clear hw2 HN HP
     have c1 := HR2.out.c1
     have c2 := HR2.out.c2
     have z1 := HR2.out.thaw 1
     have z2 := HR2.out.thaw 2
     simp only at c1 c2
     have HQ : Hid (RdAt (w2.setCell ⟨rb, 2, none⟩ (.bool true)) rb s (a, true)) := hid (HR2.out.set2 true)
     have HF3 : Hid (Fr (· = rb) w (w2.setCell ⟨rb, 2, none⟩ (.bool true))) := hid (HF2.out.trans (z0d 2 _))
     go_wp2
     go_ret
     exact ⟨z0z (by first | (rw [HE.out]; done) | (rw [HE.out]; rfl)), by rw [HE.out]; exact HQ.out, HF3.out⟩
    ·have HE : Hid (numF s.data.toList (a0, false) = (n, (a, false))) := hid (HE0.out.trans (by simp [hst]))
     have hB : ((a : Int) == (a0 : Int)) = false := by simp; omega
     clear hp1 HE0
     go_wp2_with fail
     refine HN.out.mono ?_
     rintro e w2 ⟨rfl, hw2⟩
     rw [HP.out]
     have HR2 := hid (HRT.out.same hw2)
     have HF2 := hid (HF.out.trans (Fr.of_same hw2))
     clear hw2 HN HP
     have c1 := HR2.out.c1
     have c2 := HR2.out.c2
     have z1 := HR2.out.thaw 1
     have z2 := HR2.out.thaw 2
     simp only at c1 c2
     go_wp2
     go_ret
     exact ⟨z0z (by first | (rw [HE.out]; done) | (rw [HE.out]; rfl)), by rw [HE.out]; exact HR2.out, HF2.out⟩
end Go.Proofs.YtdnedbcmgkilaaaGreatDoor.Pu
