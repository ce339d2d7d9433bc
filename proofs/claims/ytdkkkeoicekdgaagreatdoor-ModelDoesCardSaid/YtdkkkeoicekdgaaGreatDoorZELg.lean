/- The reader: longest, key, quoted. -/
import Derived.Test.YtdkkkeoicekdgaaGreatDoorZEg14

namespace Go.Proofs.YtdkkkeoicekdgaaGreatDoor
set_option maxHeartbeats 1600000
set_option maxRecDepth 100000
open Go.Lib (hid)
open Go.RowKit
theorem z36 (R : BA) (n : Nat) : ByteArray.extract R 0 n = ba (R.data.toList.take n) := by
 apply ByteArray.ext
 simp [ByteArray.data_extract, <- Array.toList_inj, List.extract_eq_take_drop]
theorem zdz {p : List UInt8 -> Bool} {r : List UInt8} {f k : Nat} (hk : k < r.length) (hf : r.length <= f) (hp : p (r.take (k + 1)) = true) : longN p r (f - k) k = longN p r (f - (k + 1)) (k + 1) := by
 obtain ⟨d, hd⟩ : ∃ d, f - k = d + 1 := ⟨f - k - 1, by omega⟩;rw [hd, longN, if_pos ⟨hk, hp⟩, show f - (k + 1) = d by omega]
theorem z9b {p : List UInt8 -> Bool} {r : List UInt8} {f k : Nat} (h : ¬ (k < r.length /\ p (r.take (k + 1)) = true)) : longN p r f k = k := by
 cases f with
 | zero => rw [longN]
 | succ f => rw [longN, if_neg h]
theorem zh6 {s : BA} {p : List UInt8 -> Bool} {S : St} {n : Nat} (h : longN p (restF s S).data.toList s.size 0 = n) : longF s.data.toList p S = ((restF s S).data.toList.take n, if n = 0 then failF s.data.toList S else (S.1 + n, 0)) /\ (n ≠ 0 -> S.2 = 0) := by
 by_cases h0 : S.2 = 0
 ·rw [z3e h0] at h ⊢
  unfold longF
  rw [if_pos h0, z08, h];refine ⟨?_, fun _ => h0⟩
  by_cases hn : n = 0
  ·rw [if_pos hn, if_pos hn, hn, List.take_zero]
  ·rw [if_neg hn, if_neg hn]
 ·rw [z1w h0] at h ⊢
  have hn : n = 0 := by
   rw [<- h];exact z9b (fun q => by have := q.1; simp at this)
  subst hn;rw [z4i h0, z1i h0];exact ⟨by simp, fun q => absurd rfl q⟩
theorem zad {s : BA} {S : St} : (restF s S).size <= s.size := by
 rw [<- z08, <- z08]
 by_cases h0 : S.2 = 0
 ·rw [z3e h0]; simp
 ·rw [z1w h0]; simp
theorem z67 (rb : Nat) (s : BA) (o : Nat) (S : St) (w : World) (hs : s.size <= 2000) (hS : Wf s.data.toList S) (hR : RdAt w rb s o S) (hE : Env w rb) :
  Calls Tryz.prog 267 #[.pointer (some ⟨rb, 0, none⟩), .func (.func 268) #[] #[]] w fun e w' => e = .returned (.string (ba (longF s.data.toList nameB S).1)) /\ RdAt w' rb s o (longF s.data.toList nameB S).2 /\ Fr (· = rb) w w' := by
 have HC := hid (z32 rb s o S w hs hS hR);have HP : Hid (∀ (t : BA) (w1 : World), t.size <= 2000 -> Env w1 rb -> Calls Tryz.prog 268 #[.string t] w1 fun e w' => e = .returned (.bool (nameB t.data.toList)) /\ Below w1.heap.size w1 w') := hid (fun t w1 ht h => (z4g t w1 (by omega)).mono (fun e w2 ⟨he, hw⟩ => ⟨he, by rw [hw]; exact Below.refl _ _⟩));have y := hid (fun w2 (h : RdAt w2 rb s o S) => z5k rb s o S w2 hs hS h);have HR := hid hR;have HE := hid hE;have H := z3j hS;have E : (restF s S).size <= s.size := zad;have HN := hid (fun n => zh6 (s := s) (p := nameB) (S := S) (n := n));clear hR hE
 go_enter Tryz.func267, Tryz.ntmps267
 go_wp2_with fail
 refine HC.out.mono ?_;rintro e w2 ⟨rfl, r⟩;have z := hid (HR.out.same r);have A := hid (HE.out.same r);have B : Hid (Fr (· = rb) w w2) := hid (Fr.of_same r);clear r HC HR HE
 generalize restF s S = R at *
 go_wp2
 go_loopw [6] (fun i wr => ∃ (k : Nat), k <= R.size /\ i = .int .i64 k /\ Hid (RdAt wr rb s o S) /\ Hid (Env wr rb) /\ Hid (Fr (· = rb) w wr) /\ Hid (longN nameB R.data.toList s.size 0 = longN nameB R.data.toList (s.size - k) k)) (fun i _ => R.size - (intOf i).toNat)
 case atStart => exact ⟨0, by omega, rfl, z, A, B, hid rfl⟩
 case round =>
  obtain ⟨k, hk, rfl, u, C, HF, HW⟩ := hrel;clear z A B;have a : Hid (¬ (k < R.data.toList.length /\ nameB (R.data.toList.take (k + 1)) = true) -> longN nameB R.data.toList s.size 0 = k) := hid (fun q => HW.out.trans (z9b q))
  by_cases hlt : k < R.size
  ·have D : (k : Int) < (R.size : Int) := by omega
   have HX : Hid ((ByteArray.extract R 0 (k + 1)).data.toList = R.data.toList.take (k + 1)) := hid (by rw [z36]);have HT := hid (HP.out (ByteArray.extract R 0 (k + 1)) wr (by rw [z36]; show (List.take (k + 1) R.data.toList).toArray.size <= 2000; rw [List.size_toArray, List.length_take]; omega) C.out);rw [HX.out] at HT
   cases hp : nameB (R.data.toList.take (k + 1)) with
   | true =>
    have F := hid (HW.out.trans (zdz (by rw [z08]; exact hlt) (by rw [z08]; exact E) hp));rw [hp] at HT;clear hp a HX
    go_wp2_with fail
    refine HT.out.mono ?_;rintro e w3 ⟨rfl, d⟩;have b := hid (u.out.below d);have G := hid (C.out.below d);have f : Hid (Fr (· = rb) w w3) := hid (HF.out.trans (Fr.of_below d));clear d HT;go_wp2;go_roundw
    case rel => exact ⟨k + 1, by omega, by go_num, b, G, f, F⟩
    case measure => simp [intOf]; omega
   | false =>
    have HK := hid (HN.out k (a.out (fun q => by rw [hp] at q; cases q.2)));rw [hp] at HT;clear hp a HX
    go_wp2_with fail
    refine HT.out.mono ?_;rintro e w3 ⟨rfl, d⟩;have b := hid (u.out.below d);have f : Hid (Fr (· = rb) w w3) := hid (HF.out.trans (Fr.of_below d));clear d HT
    by_cases hk0 : k = 0
    ·have c := hid HK.out.1
     rw [if_pos hk0] at c;subst hk0;clear HK
     go_wp2_with fail
     refine (y.out _ b.out).mono ?_;rintro e w4 ⟨rfl, j, l⟩;have g := hid j;have v := hid (f.out.trans l);have m := hid (z25 s.data.toList S);clear j l
     generalize failF s.data.toList S = T at *
     have c1 := g.out.c1;have z1 := g.out.thaw 1;rw [m.out] at c1;go_wp2;go_ret;rw [c.out];have hq := g.out.set1 S.1
     have hT : (S.1, T.2) = T := by rw [<- m.out]
     rw [hT] at hq;exact ⟨rfl, hq, v.out.trans (z0l 1 _)⟩
    ·have c := hid HK.out.1
     have x := HK.out.2 hk0;rw [if_neg hk0] at c
     have hB : ((k : Int) == (0 : Int)) = false := by simp; omega
     clear HK;have c1 := b.out.c1;have z1 := b.out.thaw 1;have HX := hid (z36 R k);go_wp2;go_ret;rw [c.out];have hq := b.out.set1 (S.1 + k);rw [x] at hq;exact ⟨by rw [<- HX.out]; rfl, hq, f.out.trans (z0l 1 _)⟩
  ·have HK := hid (HN.out k (a.out (fun q => by have := q.1; rw [z08] at this; omega)))
   have D : ¬ (k : Int) < (R.size : Int) := by omega
   have b := u;have f := HF;have w3 := wr;clear a
   by_cases hk0 : k = 0
   ·have c := hid HK.out.1
    rw [if_pos hk0] at c;subst hk0;clear HK
    go_wp2_with fail
    refine (y.out _ b.out).mono ?_;rintro e w4 ⟨rfl, j, l⟩;have g := hid j;have v := hid (f.out.trans l);have m := hid (z25 s.data.toList S);clear j l
    generalize failF s.data.toList S = T at *
    have c1 := g.out.c1;have z1 := g.out.thaw 1;rw [m.out] at c1;go_wp2;go_ret;rw [c.out];have hq := g.out.set1 S.1
    have hT : (S.1, T.2) = T := by rw [<- m.out]
    rw [hT] at hq;exact ⟨rfl, hq, v.out.trans (z0l 1 _)⟩
   ·have c := hid HK.out.1
    have x := HK.out.2 hk0;rw [if_neg hk0] at c
    have hB : ((k : Int) == (0 : Int)) = false := by simp; omega
    clear HK;have c1 := b.out.c1;have z1 := b.out.thaw 1;have HX := hid (z36 R k);go_wp2;go_ret;rw [c.out];have hq := b.out.set1 (S.1 + k);rw [x] at hq;exact ⟨by rw [<- HX.out]; rfl, hq, f.out.trans (z0l 1 _)⟩
theorem zck (rb : Nat) (s : BA) (o : Nat) (S : St) (w : World) (hs : s.size <= 2000) (hS : Wf s.data.toList S) (hR : RdAt w rb s o S) (hE : Env w rb) :
  Calls Tryz.prog 267 #[.pointer (some ⟨rb, 0, none⟩), .func (.func 287) #[] #[]] w fun e w' => e = .returned (.string (ba (longF s.data.toList numB S).1)) /\ RdAt w' rb s o (longF s.data.toList numB S).2 /\ Fr (· = rb) w w' := by
 have HC := hid (z32 rb s o S w hs hS hR);have HP : Hid (∀ (t : BA) (w1 : World), t.size <= 2000 -> Env w1 rb -> Calls Tryz.prog 287 #[.string t] w1 fun e w' => e = .returned (.bool (numB t.data.toList)) /\ Below w1.heap.size w1 w') := hid (fun t w1 ht h => z89 t w1 (by omega) h.env);have y := hid (fun w2 (h : RdAt w2 rb s o S) => z5k rb s o S w2 hs hS h);have HR := hid hR;have HE := hid hE;have H := z3j hS;have E : (restF s S).size <= s.size := zad;have HN := hid (fun n => zh6 (s := s) (p := numB) (S := S) (n := n));clear hR hE
 go_enter Tryz.func267, Tryz.ntmps267
 go_wp2_with fail
 refine HC.out.mono ?_;rintro e w2 ⟨rfl, r⟩;have z := hid (HR.out.same r);have A := hid (HE.out.same r);have B : Hid (Fr (· = rb) w w2) := hid (Fr.of_same r);clear r HC HR HE
 generalize restF s S = R at *
 go_wp2
 go_loopw [6] (fun i wr => ∃ (k : Nat), k <= R.size /\ i = .int .i64 k /\ Hid (RdAt wr rb s o S) /\ Hid (Env wr rb) /\ Hid (Fr (· = rb) w wr) /\ Hid (longN numB R.data.toList s.size 0 = longN numB R.data.toList (s.size - k) k)) (fun i _ => R.size - (intOf i).toNat)
 case atStart => exact ⟨0, by omega, rfl, z, A, B, hid rfl⟩
 case round =>
  obtain ⟨k, hk, rfl, u, C, HF, HW⟩ := hrel;clear z A B;have a : Hid (¬ (k < R.data.toList.length /\ numB (R.data.toList.take (k + 1)) = true) -> longN numB R.data.toList s.size 0 = k) := hid (fun q => HW.out.trans (z9b q))
  by_cases hlt : k < R.size
  ·have D : (k : Int) < (R.size : Int) := by omega
   have HX : Hid ((ByteArray.extract R 0 (k + 1)).data.toList = R.data.toList.take (k + 1)) := hid (by rw [z36]);have HT := hid (HP.out (ByteArray.extract R 0 (k + 1)) wr (by rw [z36]; show (List.take (k + 1) R.data.toList).toArray.size <= 2000; rw [List.size_toArray, List.length_take]; omega) C.out);rw [HX.out] at HT
   cases hp : numB (R.data.toList.take (k + 1)) with
   | true =>
    have F := hid (HW.out.trans (zdz (by rw [z08]; exact hlt) (by rw [z08]; exact E) hp));rw [hp] at HT;clear hp a HX
    go_wp2_with fail
    refine HT.out.mono ?_;rintro e w3 ⟨rfl, d⟩;have b := hid (u.out.below d);have G := hid (C.out.below d);have f : Hid (Fr (· = rb) w w3) := hid (HF.out.trans (Fr.of_below d));clear d HT;go_wp2;go_roundw
    case rel => exact ⟨k + 1, by omega, by go_num, b, G, f, F⟩
    case measure => simp [intOf]; omega
   | false =>
    have HK := hid (HN.out k (a.out (fun q => by rw [hp] at q; cases q.2)));rw [hp] at HT;clear hp a HX
    go_wp2_with fail
    refine HT.out.mono ?_;rintro e w3 ⟨rfl, d⟩;have b := hid (u.out.below d);have f : Hid (Fr (· = rb) w w3) := hid (HF.out.trans (Fr.of_below d));clear d HT
    by_cases hk0 : k = 0
    ·have c := hid HK.out.1
     rw [if_pos hk0] at c;subst hk0;clear HK
     go_wp2_with fail
     refine (y.out _ b.out).mono ?_;rintro e w4 ⟨rfl, j, l⟩;have g := hid j;have v := hid (f.out.trans l);have m := hid (z25 s.data.toList S);clear j l
     generalize failF s.data.toList S = T at *
     have c1 := g.out.c1;have z1 := g.out.thaw 1;rw [m.out] at c1;go_wp2;go_ret;rw [c.out];have hq := g.out.set1 S.1
     have hT : (S.1, T.2) = T := by rw [<- m.out]
     rw [hT] at hq;exact ⟨rfl, hq, v.out.trans (z0l 1 _)⟩
    ·have c := hid HK.out.1
     have x := HK.out.2 hk0;rw [if_neg hk0] at c
     have hB : ((k : Int) == (0 : Int)) = false := by simp; omega
     clear HK;have c1 := b.out.c1;have z1 := b.out.thaw 1;have HX := hid (z36 R k);go_wp2;go_ret;rw [c.out];have hq := b.out.set1 (S.1 + k);rw [x] at hq;exact ⟨by rw [<- HX.out]; rfl, hq, f.out.trans (z0l 1 _)⟩
  ·have HK := hid (HN.out k (a.out (fun q => by have := q.1; rw [z08] at this; omega)))
   have D : ¬ (k : Int) < (R.size : Int) := by omega
   have b := u;have f := HF;have w3 := wr;clear a
   by_cases hk0 : k = 0
   ·have c := hid HK.out.1
    rw [if_pos hk0] at c;subst hk0;clear HK
    go_wp2_with fail
    refine (y.out _ b.out).mono ?_;rintro e w4 ⟨rfl, j, l⟩;have g := hid j;have v := hid (f.out.trans l);have m := hid (z25 s.data.toList S);clear j l
    generalize failF s.data.toList S = T at *
    have c1 := g.out.c1;have z1 := g.out.thaw 1;rw [m.out] at c1;go_wp2;go_ret;rw [c.out];have hq := g.out.set1 S.1
    have hT : (S.1, T.2) = T := by rw [<- m.out]
    rw [hT] at hq;exact ⟨rfl, hq, v.out.trans (z0l 1 _)⟩
   ·have c := hid HK.out.1
    have x := HK.out.2 hk0;rw [if_neg hk0] at c
    have hB : ((k : Int) == (0 : Int)) = false := by simp; omega
    clear HK;have c1 := b.out.c1;have z1 := b.out.thaw 1;have HX := hid (z36 R k);go_wp2;go_ret;rw [c.out];have hq := b.out.set1 (S.1 + k);rw [x] at hq;exact ⟨by rw [<- HX.out]; rfl, hq, f.out.trans (z0l 1 _)⟩
end Go.Proofs.YtdkkkeoicekdgaaGreatDoor
