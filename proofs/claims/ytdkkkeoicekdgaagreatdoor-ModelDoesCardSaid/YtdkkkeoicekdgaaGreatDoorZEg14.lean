/- Letters and names. -/
import Derived.Lib.ItoaLen
import Derived.Test.YtdkkkeoicekdgaaGreatDoorZEg2
import Derived.Test.YtdkkkeoicekdgaaGreatDoorZEg35

section

namespace Go.Proofs.YtdkkkeoicekdgaaGreatDoor
set_option maxHeartbeats 3200000
set_option maxRecDepth 100000
open Go.Lib (hid)
open Go.RowKit
theorem z2q (c : UInt8) (w : World) : Calls Tryz.prog 283 #[.int .u8 c.toNat] w fun e w' => e = .returned (.bool (isLet c)) /\ w' = w := by
 have hc := c.toNat_lt
 by_cases h1 : 97 <= c.toNat
 ·by_cases h2 : c.toNat <= 122
  ·have HE : Hid (isLet c = true) := hid (by unfold isLet; simp [h1, h2])
   have g1 : (97 : Int) <= (c.toNat : Int) := by omega
   have g2 : (c.toNat : Int) <= 122 := by omega
   go_enter Tryz.func283, Tryz.ntmps283
   go_wp2;go_ret;exact ⟨by rw [HE.out]; rfl, rfl⟩
  ·have HE : Hid (isLet c = false) := hid (by unfold isLet; simp [h2])
   have g1 : (97 : Int) <= (c.toNat : Int) := by omega
   have g2 : ¬ (c.toNat : Int) <= 122 := by omega
   go_enter Tryz.func283, Tryz.ntmps283
   go_wp2;go_ret;exact ⟨by rw [HE.out]; rfl, rfl⟩
 ·have HE : Hid (isLet c = false) := hid (by unfold isLet; simp [h1])
  have g1 : ¬ (97 : Int) <= (c.toNat : Int) := by omega
  go_enter Tryz.func283, Tryz.ntmps283
  go_wp2;go_ret;exact ⟨by rw [HE.out]; rfl, rfl⟩
theorem z4h {l : List UInt8} {c : UInt8} (h : l[0]? = some c) : nameB l = (decide (l.length <= 32) && isLet c && l.all isWrd) := by
 cases l with
 | nil => cases h
 | cons d r =>
  obtain rfl : d = c := by simpa using h
  show (decide (r.length <= 31) && _ && _) = _
  have : decide (r.length <= 31) = decide ((d :: r).length <= 32) := by simp
  rw [this]
theorem zdt {l : List UInt8} {k : Nat} {c : UInt8} (h : l[k]? = some c) (hc : isWrd c = false) : nameB l = false := by
 cases h0 : l[0]? with
 | none => rw [List.getElem?_eq_none_iff] at h0; have := z0z h; omega
 | some d =>
  rw [z4h h0]
  have : l.all isWrd = false := by
   rw [List.all_eq_false];exact ⟨c, List.mem_of_getElem? h, by simp [hc]⟩
  simp [this]
theorem zhe {c : UInt8} (h : isLet c = true) : isWrd c = true := by unfold isWrd; simp [h]
theorem z6h {l : List UInt8} {k : Nat} {c : UInt8} (h : l[k]? = some c) (hc : isWrd c = true) (ha : (l.take k).all isWrd = true) : (l.take (k + 1)).all isWrd = true := by
 rw [List.take_add_one, h, List.all_append, ha]; simp [hc]
theorem z4g (t : BA) (w : World) (ht : t.size <= 140737488351232) : Calls Tryz.prog 268 #[.string t] w fun e w' => e = .returned (.bool (nameB t.data.toList)) /\ w' = w := by
 by_cases h0 : t.size < 1
 ·have HE : Hid (nameB t.data.toList = false) := hid (by
   cases hl : t.data.toList with
   | nil => rfl
   | cons c r => have := z08 t; rw [hl] at this; simp at this; omega)
  have g : (t.size : Int) < 1 := by omega
  go_enter Tryz.func268, Tryz.ntmps268
  go_wp2;go_ret;exact ⟨by rw [HE.out]; rfl, rfl⟩
 have m : ¬ (t.size : Int) < 1 := by omega
 have b := z3f t 0 (by omega)
 by_cases h1 : 32 < t.size
 ·have HE : Hid (nameB t.data.toList = false) := hid (by rw [z4h b, decide_eq_false (by rw [z08]; omega)]; rfl)
  have n : (32 : Int) < (t.size : Int) := by omega
  clear b
  go_enter Tryz.func268, Tryz.ntmps268
  go_wp2;go_ret;exact ⟨by rw [HE.out]; rfl, rfl⟩
 have o : ¬ (32 : Int) < (t.size : Int) := by omega
 have p : 0 < t.size := by omega
 have HL := hid (fun w => z2q t[0] w)
 cases hlet : isLet t[0] with
 | false =>
  have HE : Hid (nameB t.data.toList = false) := hid (by rw [z4h b, hlet]; simp);rw [hlet] at HL;clear b hlet
  go_enter Tryz.func268, Tryz.ntmps268
  go_wp2_with fail
  refine (HL.out _).mono ?_;rintro e w1 ⟨rfl, rfl⟩;go_wp2;go_ret;exact ⟨by rw [HE.out]; rfl, rfl⟩
 | true =>
  have HE : Hid (nameB t.data.toList = t.data.toList.all isWrd) := hid (by rw [z4h b, hlet, decide_eq_true (by rw [z08]; omega)]; rfl);rw [hlet] at HL;clear b hlet
  go_enter Tryz.func268, Tryz.ntmps268
  go_wp2_with fail
  refine (HL.out _).mono ?_;rintro e w1 ⟨rfl, rfl⟩;clear HL;go_wp2
  go_loop [21] (fun i => ∃ k : Nat, i = .int .i64 k /\ k <= t.size /\ Hid ((t.data.toList.take k).all isWrd = true)) (fun i => t.size - (intOf i).toNat)
  case atStart => exact ⟨0, rfl, by omega, hid rfl⟩
  case round =>
   obtain ⟨k, rfl, hk, HA⟩ := hrel
   by_cases g : k < t.size
   ·have d := hid (z3f t k g)
    have j : (k : Int) < (t.size : Int) := by omega
    obtain ⟨c, l⟩ : ∃ c, t[k] = c := ⟨_, rfl⟩;rw [l] at d;have HL := hid (fun w => z2q c w);have q := c.toNat_lt
    cases hlc : isLet c with
    | true =>
     have f := hid (z6h d.out (zhe hlc) HA.out);rw [hlc] at HL;clear hlc
     go_wp2_with fail
     refine (HL.out _).mono ?_;rintro e w1 ⟨rfl, rfl⟩;go_wp2
     go_round
     case rel => exact ⟨k + 1, by go_num, by omega, f⟩
     case measure => simp [intOf]; omega
    | false =>
     rw [hlc] at HL
     by_cases hd : 48 <= c.toNat /\ c.toNat <= 57
     ·have f := hid (z6h d.out (show isWrd c = true by unfold isWrd isDig; simp [hd.1, hd.2]) HA.out)
      have g1 : ¬ (c.toNat : Int) < 48 := by omega
      have g2 : ¬ (57 : Int) < (c.toNat : Int) := by omega
      clear hlc hd
      go_wp2_with fail
      refine (HL.out _).mono ?_;rintro e w1 ⟨rfl, rfl⟩;go_wp2
      go_round
      case rel => exact ⟨k + 1, by go_num, by omega, f⟩
      case measure => simp [intOf]; omega
     ·have a : isDig c = false := by unfold isDig; simp; omega
      by_cases hu : c.toNat = 95
      ·have f := hid (z6h d.out (show isWrd c = true by unfold isWrd; have : c = 95 := UInt8.toNat_inj.1 hu; simp [this]) HA.out)
       have g1 : ¬ (c.toNat : Int) < 48 := by omega
       have g2 : (57 : Int) < (c.toNat : Int) := by omega
       have g3 : ((c.toNat : Int) != (95 : Int)) = false := by simp; omega
       clear hlc hd a hu
       go_wp2_with fail
       refine (HL.out _).mono ?_;rintro e w1 ⟨rfl, rfl⟩;go_wp2
       go_round
       case rel => exact ⟨k + 1, by go_num, by omega, f⟩
       case measure => simp [intOf]; omega
      ·have HN := hid (zdt d.out (show isWrd c = false by unfold isWrd; have : c ≠ 95 := fun e => hu (by rw [e]; rfl); simp [hlc, a, this]))
       have g3 : ((c.toNat : Int) != (95 : Int)) = true := by simp; omega
       by_cases h48 : c.toNat < 48
       ·have g1 : (c.toNat : Int) < 48 := by omega
        clear hlc hd a hu
        go_wp2_with fail
        refine (HL.out _).mono ?_;rintro e w1 ⟨rfl, rfl⟩;go_wp2;go_ret;exact ⟨by rw [HN.out]; rfl, rfl⟩
       ·have g1 : ¬ (c.toNat : Int) < 48 := by omega
        have g2 : (57 : Int) < (c.toNat : Int) := by omega
        clear hlc hd a hu
        go_wp2_with fail
        refine (HL.out _).mono ?_;rintro e w1 ⟨rfl, rfl⟩;go_wp2;go_ret;exact ⟨by rw [HN.out]; rfl, rfl⟩
   ·have HT : Hid (nameB t.data.toList = true) := hid (by
     have h := HA.out;rw [List.take_of_length_le (by simp; omega)] at h
     rw [HE.out]; exact h)
    have j : ¬ (k : Int) < (t.size : Int) := by omega
    go_wp2;go_ret;exact ⟨by rw [HT.out]; rfl, rfl⟩

set_option maxHeartbeats 1600000
set_option maxRecDepth 100000
theorem z4o (n : Nat) (c : UInt8) : nx n c = n * 10 + (c.toNat - 48) := by unfold nx; rfl
theorem zhz : ∀ (r : List UInt8) (n : Nat), n <= r.foldl nx n
 | [], _ => Nat.le_refl _
 | c :: r, n => Nat.le_trans (by rw [z4o]; omega) (zhz r (nx n c))
theorem z2c {c : UInt8} : isDig c = true ↔ 48 <= c.toNat /\ c.toNat <= 57 := by unfold isDig; simp
theorem dec_step {n : Nat} {c : UInt8} (hn : 0 < n) (hc : isDig c = true) : Lib.decDigits (nx n c) = Lib.decDigits n ++ [c] := by
 have h := z2c.1 hc;rw [z4o, Lib.decDigits, dif_neg (by omega), show (n * 10 + (c.toNat - 48)) / 10 = n by omega, show (n * 10 + (c.toNat - 48)) % 10 = c.toNat - 48 by omega, show 48 + (c.toNat - 48) = c.toNat by omega, UInt8.ofNat_toNat]
theorem zin {c : UInt8} (hc : isDig c = true) : Lib.decDigits (c.toNat - 48) = [c] := by
 have h := z2c.1 hc;rw [Lib.decDigits, dif_pos (by omega), show 48 + (c.toNat - 48) = c.toNat by omega, UInt8.ofNat_toNat]
theorem zim : ∀ (r : List UInt8) (n : Nat), 0 < n -> r.all isDig = true -> Lib.decDigits (r.foldl nx n) = Lib.decDigits n ++ r
 | [], n, _, _ => by simp
 | c :: r, n, hn, h => by
  rw [List.all_cons, Bool.and_eq_true] at h
  rw [List.foldl_cons, zim r (nx n c) (by rw [z4o]; omega) h.2, dec_step hn h.1]; simp
theorem zdp {l : List UInt8} (h : numB l = true) : l = Lib.decDigits (l.foldl nx 0) /\ l.foldl nx 0 <= 1000000 := by
 cases l with
 | nil => cases h
 | cons c r =>
  unfold numB at h
  simp only [Bool.and_eq_true, decide_eq_true_eq] at h;obtain ⟨⟨⟨h1, h2⟩, h3⟩, h4⟩ := h;rw [List.all_cons, Bool.and_eq_true] at h1;refine ⟨?_, h4⟩;have hd := z2c.1 h1.1
  have e0 : nx 0 c = c.toNat - 48 := by rw [z4o]; omega
  rw [List.foldl_cons, e0]
  by_cases h48 : c = 48
  ·subst h48
   have : r = [] := by simpa using h2
   subst this
   rw [List.foldl_nil]; exact (zin h1.1).symm
  ·have : c.toNat ≠ 48 := fun e => h48 (UInt8.toNat_inj.1 e)
   rw [zim r _ (by omega) h1.2, zin h1.1]; rfl
theorem nd_le : ∀ (k u : Nat), u < 10 ^ (k + 1) -> Lib.nDigits u <= k + 1
 | 0, u, h => by rw [Lib.nDigits_small (by simpa using h)]; omega
 | k + 1, u, h => by
  by_cases h10 : u < 10
  ·rw [Lib.nDigits_small h10]; omega
  ·rw [Lib.nDigits_big h10]
   have := nd_le k (u / 10) (by rw [Nat.pow_succ] at h; omega)
   omega
theorem zba {d : Nat} (h : d < 10) : isDig (UInt8.ofNat (48 + d)) = true /\ (UInt8.ofNat (48 + d)).toNat = 48 + d := by
 have : (UInt8.ofNat (48 + d)).toNat = 48 + d := by rw [UInt8.toNat_ofNat']; omega
 exact ⟨by rw [z2c, this]; omega, this⟩
theorem zio (u : Nat) : (Lib.decDigits u).all isDig = true /\ (Lib.decDigits u).foldl nx 0 = u /\ 1 <= (Lib.decDigits u).length /\ (0 < u -> (Lib.decDigits u).head? ≠ some 48) := by
 induction u using Nat.strongRecOn with
 | _ u ih =>
  rw [Lib.decDigits]
  by_cases h : u < 10
  ·rw [dif_pos h]
   obtain ⟨h1, h2⟩ := zba h;refine ⟨by simpa using h1, ?_, by simp, fun h0 hh => ?_⟩
   ·rw [List.foldl_cons, List.foldl_nil, z4o, h2]; omega
   ·simp only [List.head?_cons, Option.some.injEq] at hh
    rw [hh] at h2;have : (48 : UInt8).toNat = 48 := rfl
    omega
  ·rw [dif_neg h]
   obtain ⟨i1, i2, i3, i4⟩ := ih (u / 10) (by omega);obtain ⟨h1, h2⟩ := zba (show u % 10 < 10 by omega);refine ⟨by rw [List.all_append, i1]; simpa using h1, ?_, by simp, fun _ => ?_⟩
   ·rw [List.foldl_append, i2, List.foldl_cons, List.foldl_nil, z4o, h2]; omega
   ·rw [List.head?_append]
    cases hh : (Lib.decDigits (u / 10)).head? with
    | none => rw [List.head?_eq_none_iff] at hh; rw [hh] at i3; simp at i3
    | some c => rw [hh] at i4; simpa using i4 (by omega)
theorem dec_numB {v : Nat} (h : v <= 1000000) : numB (Lib.decDigits v) = true := by
 obtain ⟨h1, h2, h3, h4⟩ := zio v
 have h5 : (Lib.decDigits v).length <= 7 := by rw [Lib.decDigits_length]; exact nd_le 6 v (by omega)
 by_cases h0 : v = 0
 ·subst h0; rw [Lib.decDigits_one (by omega)]; decide
 ·have h4 := h4 (by omega)
  generalize Lib.decDigits v = l at *
  cases l with
  | nil => simp at h3
  | cons c r =>
   unfold numB
   simp only [Bool.and_eq_true, decide_eq_true_eq];refine ⟨⟨⟨h1, ?_⟩, by simp at h5; omega⟩, by omega⟩
   have : c ≠ 48 := fun e => h4 (by rw [e]; rfl)
   simp [this]
theorem zaj : ∀ (r : List UInt8) (n : Nat), r.all isDig = true -> r.foldl nx n <= 1000000 -> Lib.parseUint10 n r = .ok (r.foldl nx n)
 | [], n, _, _ => rfl
 | c :: r, n, h, hm => by
  rw [List.all_cons, Bool.and_eq_true] at h;have hd := z2c.1 h.1;rw [List.foldl_cons] at hm;have g1 := zhz r (nx n c);have e0 := z4o n c;rw [Lib.parseUint10, if_pos hd, if_neg (by omega), if_neg (by omega), List.foldl_cons, <- e0];exact zaj r (nx n c) h.2 hm
theorem z5n {l : List UInt8} (h : numB l = true) : Lib.atoiAll l = .ok ((l.foldl nx 0 : Nat) : Int) /\ Lib.itoa ((l.foldl nx 0 : Nat) : Int) = l := by
 obtain ⟨h1, h2⟩ := zdp h;refine ⟨?_, by unfold Lib.itoa; rw [if_neg (by omega)]; exact h1.symm⟩
 cases l with
 | nil => cases h
 | cons c r =>
  unfold numB at h
  simp only [Bool.and_eq_true] at h;have ha := h.1.1.1;have a := ha;rw [List.all_cons, Bool.and_eq_true] at ha;have hd := z2c.1 ha.1
  unfold Lib.atoiAll
  simp only;rw [if_neg (by omega)]
  unfold Lib.parseMag
  rw [if_neg (by simp), zaj _ 0 a h2];simp only;rw [if_neg (by omega), if_neg (by omega), if_neg (by omega)]
theorem itoa_num {l : List UInt8} {v : Int} (h0 : 0 <= v) (h1 : v <= 1000000) (h : Lib.itoa v = l) : numB l = true := by
 subst h
 unfold Lib.itoa
 rw [if_neg (by omega)];exact dec_numB (by omega)
structure EnvW (w : World) : Prop where
 tab : Lib.TabIs Tryz.prog w "internal/strconv.uint64pow10" .u64 Lib.pow10Tab
 syn : ∃ tp p, w.cell? ⟨5, 0, none⟩ = some (.iface tp p)
 rng : ∃ tp p, w.cell? ⟨6, 0, none⟩ = some (.iface tp p)
theorem ziv {w : World} {b i : Nat} {v : Value} (h : w.cell? ⟨b, i, none⟩ = some v) : b < w.heap.size := by
 rcases Nat.lt_or_ge b w.heap.size with h' | h'
 ·exact h'
 ·simp [World.cell?, Array.getElem?_eq_none h'] at h
theorem EnvW.below {w w' : World} (h : EnvW w) (hb : Below w.heap.size w w') : EnvW w' := by
 obtain ⟨h1, ⟨t2, p2, h2⟩, ⟨t3, p3, h3⟩⟩ := h;exact ⟨Lib.tabBelow_of_tabIs h1 w' hb, ⟨t2, p2, (World.cell?_of_block (hb.block 5 (ziv h2))).trans h2⟩, ⟨t3, p3, (World.cell?_of_block (hb.block 6 (ziv h3))).trans h3⟩⟩
def Env (w : World) (rb : Nat) : Prop := ∃ W, EnvW W /\ Below W.heap.size W w /\ W.heap.size <= rb
theorem Env.env {w : World} {rb : Nat} (h : Env w rb) : EnvW w := by
 obtain ⟨W, h1, h2, -⟩ := h;exact h1.below h2
theorem Env.fr {w w' : World} {rb : Nat} (h : Env w rb) (hf : Fr (· = rb) w w') : Env w' rb := by
 obtain ⟨W, h1, h2, h3⟩ := h;exact ⟨W, h1, Fr.to_below h2 hf h3, h3⟩
theorem Env.below {w w' : World} {rb : Nat} (h : Env w rb) (hf : Below w.heap.size w w') : Env w' rb := by
 obtain ⟨W, h1, h2, h3⟩ := h;exact ⟨W, h1, h2.trans (hf.mono h2.size), h3⟩
theorem Env.same {w w' : World} {rb : Nat} (h : Env w rb) (hf : Same w w') : Env w' rb := h.below hf.below
theorem zd0 (w : World) (t : ByteArray) : Below w.heap.size w (Lib.bytesWorld w 5 t) := Lib.bytesWorld_below w 5 t
theorem z3g (w : World) (k : Nat) (os : Array Obj) : Below w.heap.size w (Sort.grow (w.drewN k) os) :=
 ⟨rfl, rfl, rfl, by show w.heap.size <= (w.heap ++ os).size; simp, fun i hi => by show (w.heap ++ os)[i]? = _; rw [Array.getElem?_append_left hi]⟩
theorem itoa_str {v : Int} {t : BA} (h : Lib.itoa v = t.data.toList) : (⟨(Lib.itoa v).toArray⟩ : BA) = t := by rw [h]
theorem z89 (t : BA) (w : World) (ht : t.size <= 140737488351232) (hE : EnvW w) : Calls Tryz.prog 287 #[.string t] w fun e w' => e = .returned (.bool (numB t.data.toList)) /\ Below w.heap.size w w' := by
 rcases ha : Lib.atoiAll t.data.toList with v | _ | _
 ·have HC := hid (Tryz.strconv_Atoi_ok t (by omega) v ha w)
  have d := hid hE;clear hE
  have b : ∀ w', (w' = w ∨ ∃ t, w' = Lib.bytesWorld w 5 t) -> Below w.heap.size w w' := fun w' h => by
   rcases h with rfl | ⟨t, rfl⟩
   ·exact Below.refl _ _
   ·exact zd0 w t
  by_cases h0 : 0 <= v
  ·by_cases h1 : v <= 1000000
   ·have HI := hid (fun w1 (h : EnvW w1) => Tryz.strconv_Itoa v (by omega) (by omega) w1 h.tab)
    by_cases hi : Lib.itoa v = t.data.toList
    ·have HE := hid (itoa_num h0 h1 hi)
     have HS := hid (itoa_str hi);clear ha hi
     go_enter Tryz.func287, Tryz.ntmps287
     go_wp2_with fail
     refine HC.out.mono ?_;rintro e w1 ⟨rfl, a⟩;have HB := hid (b w1 a);clear a HC b
     go_wp2_with fail
     refine (HI.out _ (d.out.below HB.out)).mono ?_;rintro e w2 ⟨rfl, k, os, rfl⟩;have c := hid (z00 HB.out (z3g w1 k os))
     generalize Go.Sort.grow (w1.drewN k) os = w3 at *
     rw [HS.out];go_wp2;go_ret;exact ⟨by rw [HE.out]; rfl, c.out⟩
    ·have HE : Hid (numB t.data.toList = false) := hid (by
      cases hb : numB t.data.toList with
      | false => rfl
      | true =>
       obtain ⟨q1, q2⟩ := z5n hb;rw [q1] at ha
       injection ha with ha
       rw [ha] at q2
       exact absurd q2 hi)
     have hB : ((⟨(Lib.itoa v).toArray⟩ : BA).toList == t.toList) = false := by
      rw [beq_eq_false_iff_ne, ByteArray.toList_eq, ByteArray.toList_eq]; exact hi
     clear ha hi
     go_enter Tryz.func287, Tryz.ntmps287
     go_wp2_with fail
     refine HC.out.mono ?_;rintro e w1 ⟨rfl, a⟩;have HB := hid (b w1 a);clear a HC b
     go_wp2_with fail
     refine (HI.out _ (d.out.below HB.out)).mono ?_;rintro e w2 ⟨rfl, k, os, rfl⟩;have c := hid (z00 HB.out (z3g w1 k os))
     generalize Go.Sort.grow (w1.drewN k) os = w3 at *
     generalize (⟨(Lib.itoa v).toArray⟩ : BA) = R at *
     go_wp2;go_ret;exact ⟨by rw [HE.out]; first | rfl | (simp [hB]), c.out⟩
   ·have HE : Hid (numB t.data.toList = false) := hid (by
     cases hb : numB t.data.toList with
     | false => rfl
     | true =>
      obtain ⟨q1, q2⟩ := z5n hb;have := (zdp hb).2;rw [q1] at ha
      injection ha with ha
      omega)
    clear ha
    go_enter Tryz.func287, Tryz.ntmps287
    go_wp2_with fail
    refine HC.out.mono ?_;rintro e w1 ⟨rfl, a⟩;have HB := hid (b w1 a);clear a HC b;go_wp2;go_ret;exact ⟨by rw [HE.out]; rfl, HB.out⟩
  ·have HE : Hid (numB t.data.toList = false) := hid (by
    cases hb : numB t.data.toList with
    | false => rfl
    | true =>
     obtain ⟨q1, q2⟩ := z5n hb;rw [q1] at ha
     injection ha with ha
     omega)
   clear ha
   go_enter Tryz.func287, Tryz.ntmps287
   go_wp2_with fail
   refine HC.out.mono ?_;rintro e w1 ⟨rfl, a⟩;have HB := hid (b w1 a);clear a HC b;go_wp2;go_ret;exact ⟨by rw [HE.out]; rfl, HB.out⟩
 ·have HE : Hid (numB t.data.toList = false) := hid (by
   cases hb : numB t.data.toList with
   | false => rfl
   | true => rw [(z5n hb).1] at ha; cases ha)
  obtain ⟨tp, p, hv⟩ := hE.syn;have HC := hid (Tryz.strconv_Atoi_syntax t (by omega) ⟨fun e => by (rw [ha] at e; cases e), fun v e => by (rw [ha] at e; cases e)⟩ _ w hv (.inr ⟨tp, p, rfl⟩));clear ha hE hv
  go_enter Tryz.func287, Tryz.ntmps287
  go_wp2_with fail
  refine HC.out.mono ?_;rintro e w1 ⟨M, rfl, -, -, hb⟩;have HB := hid hb;clear hb HC;go_wp2;go_ret;exact ⟨by rw [HE.out]; rfl, HB.out⟩
 ·have HE : Hid (numB t.data.toList = false) := hid (by
   cases hb : numB t.data.toList with
   | false => rfl
   | true => rw [(z5n hb).1] at ha; cases ha)
  obtain ⟨tp, p, hv⟩ := hE.rng;have HC := hid (Tryz.strconv_Atoi_range t (by omega) ha _ w hv (.inr ⟨tp, p, rfl⟩));clear ha hE hv
  go_enter Tryz.func287, Tryz.ntmps287
  go_wp2_with fail
  refine HC.out.mono ?_;rintro e w1 ⟨M, rfl, -, -, hb⟩;have HB := hid hb;clear hb HC;go_wp2;go_ret;exact ⟨by rw [HE.out]; rfl, HB.out⟩
end Go.Proofs.YtdkkkeoicekdgaaGreatDoor

end

section

namespace Go.Proofs
open Go.Shelf
def Tryz.lays144_ren : Go.Shelf.Ren := ⟨fun | 144 => 285 | 143 => 244 | 219 => 266 | 217 => 279 | 225 => 280 | 224 => 281 | 267 => 282 | 266 => 289 | 314 => 290 | n => n, fun | 9 => 9 | 4 => 4 | 3 => 3 | 5 => 5 | 46 => 177 | 146 => 252 | 51 => 168 | n => n, fun | 1 => 0 | n => n⟩
theorem Tryz.lays144 : Go.Proofs.Lays.n144 Tryz.prog Tryz.lays144_ren := {
 mixed := by kernel_rfl
 f143 := Tryz.func244.trans (congrArg some (by kernel_rfl))
 f144 := Tryz.func285.trans (congrArg some (by kernel_rfl))
 f217 := Tryz.func279.trans (congrArg some (by kernel_rfl))
 f219 := Tryz.func266.trans (congrArg some (by kernel_rfl))
 f224 := Tryz.func281.trans (congrArg some (by kernel_rfl))
 f225 := Tryz.func280.trans (congrArg some (by kernel_rfl))
 f266 := Tryz.func289.trans (congrArg some (by kernel_rfl))
 f267 := Tryz.func282.trans (congrArg some (by kernel_rfl))
 f314 := Tryz.func290.trans (congrArg some (by kernel_rfl))
 t3 := Tryz.underlying3
 a3 := Tryz.isAgg3
 z3 := Tryz.sizeOf3
 v3 := Tryz.zeroValue3
 t4 := Tryz.underlying4
 a4 := Tryz.isAgg4
 z4 := Tryz.sizeOf4
 v4 := Tryz.zeroValue4
 t5 := Tryz.underlying5
 a5 := Tryz.isAgg5
 z5 := Tryz.sizeOf5
 v5 := Tryz.zeroValue5
 t9 := Tryz.underlying9
 a9 := Tryz.isAgg9
 z9 := Tryz.sizeOf9
 v9 := Tryz.zeroValue9
 t46 := Tryz.underlying177
 a46 := Tryz.isAgg177
 z46 := Tryz.sizeOf177
 v46 := Tryz.zeroValue177
 t51 := Tryz.underlying168
 a51 := Tryz.isAgg168
 z51 := Tryz.sizeOf168
 v51 := Tryz.zeroValue168
 t146 := Tryz.underlying252
 a146 := Tryz.isAgg252
 z146 := Tryz.sizeOf252
 v146 := Tryz.zeroValue252
 g1 := by kernel_rfl }
open Go.RowKit Go.Lib in
theorem Tryz.strings_Contains_one (s : ByteArray) (c : UInt8) (w : World) :
  Calls Tryz.prog 285 #[.string s, .string ⟨#[c]⟩] w fun e w' => e = .returned (.bool (decide (0 <= Lib.indexByte s.data.toList c))) /\ w' = w := Any.strings_Contains_one Tryz.lays144 s c w
end Go.Proofs

end

section

namespace Go.Proofs.YtdkkkeoicekdgaaGreatDoor
set_option maxHeartbeats 1600000
set_option maxRecDepth 100000
open Go.Lib (hid)
open Go.RowKit
def RdAt (w : World) (rb : Nat) (s : BA) (o : Nat) (S : St) : Prop := w.heap[rb]? = some (.cells #[.string s, .int .i64 S.1, .int .i64 o, .int .i64 S.2] 234 (0, 0))
section
variable {w w' : World} {rb : Nat} {s : BA} {o : Nat} {S : St}
theorem RdAt.row (h : RdAt w rb s o S) : Row w rb 234 [.string s, .int .i64 S.1, .int .i64 o, .int .i64 S.2] := h
theorem RdAt.lt (h : RdAt w rb s o S) : rb < w.heap.size := (Array.getElem?_eq_some_iff.1 h).1
theorem RdAt.c0 (h : RdAt w rb s o S) : w.cell? ⟨rb, 0, none⟩ = some (.string s) := h.row.cell rfl
theorem RdAt.c1 (h : RdAt w rb s o S) : w.cell? ⟨rb, 1, none⟩ = some (.int .i64 S.1) := h.row.cell rfl
theorem RdAt.c2 (h : RdAt w rb s o S) : w.cell? ⟨rb, 2, none⟩ = some (.int .i64 o) := h.row.cell rfl
theorem RdAt.c3 (h : RdAt w rb s o S) : w.cell? ⟨rb, 3, none⟩ = some (.int .i64 S.2) := h.row.cell rfl
theorem RdAt.thaw (h : RdAt w rb s o S) (i : Nat) : w.frozen? ⟨rb, i, none⟩ = false := h.row.thaw i
theorem RdAt.keep (h : RdAt w rb s o S) (hk : w'.heap[rb]? = w.heap[rb]?) : RdAt w' rb s o S := hk.trans h
theorem RdAt.same (h : RdAt w rb s o S) (hk : Same w w') : RdAt w' rb s o S := h.keep (by rw [hk.heap])
theorem RdAt.below (h : RdAt w rb s o S) (hk : Below w.heap.size w w') : RdAt w' rb s o S := h.keep (hk.block rb h.lt)
theorem RdAt.alloc (h : RdAt w rb s o S) (ob : Obj) : RdAt (w.alloc ob) rb s o S := h.keep (Below.heap_alloc _ _ _ h.lt)
theorem RdAt.set1 (h : RdAt w rb s o S) (a : Nat) : RdAt (w.setCell ⟨rb, 1, none⟩ (.int .i64 a)) rb s o (a, S.2) := h.row.set 1 _
theorem RdAt.set2 (h : RdAt w rb s o S) (p : Nat) : RdAt (w.setCell ⟨rb, 2, none⟩ (.int .i64 p)) rb s p S := h.row.set 2 _
theorem RdAt.set3 (h : RdAt w rb s o S) (e : Nat) : RdAt (w.setCell ⟨rb, 3, none⟩ (.int .i64 e)) rb s o (S.1, e) := h.row.set 3 _
end
theorem z0l {w : World} {rb : Nat} (i : Nat) (u : Value) : Fr (· = rb) w (w.setCell ⟨rb, i, none⟩ u) := Fr.setCell (X := (· = rb)) (Fr.refl _ w) (p := ⟨rb, i, none⟩) (.inr rfl) u
def restF (s : BA) (S : St) : BA := if S.2 = 0 then s.extract S.1 s.size else ⟨#[]⟩
theorem z3e {s : BA} {S : St} (h : S.2 = 0) : (restF s S).data.toList = s.data.toList.drop S.1 := by
 unfold restF; rw [if_pos h]; simp only [ByteArray.data_extract, Array.toList_extract]; rw [List.extract_eq_take_drop, List.take_of_length_le (by simp)]
theorem z1w {s : BA} {S : St} (h : S.2 ≠ 0) : restF s S = ⟨#[]⟩ := by unfold restF; rw [if_neg h]
theorem z5k (rb : Nat) (s : BA) (o : Nat) (S : St) (w : World) (_hs : s.size <= 2000) (hS : Wf s.data.toList S) (hR : RdAt w rb s o S) :
  Calls Tryz.prog 190 #[.pointer (some ⟨rb, 0, none⟩)] w fun e w' => e = .returned (.tuple #[]) /\ RdAt w' rb s o (failF s.data.toList S) /\ Fr (· = rb) w w' := by
 obtain ⟨a, st⟩ := S;have c0 := hR.c0;have c1 := hR.c1;have c3 := hR.c3;have z3 := hR.thaw 3;simp only at c1 c3;have HR := hid hR;have f := hS.1;rw [z08] at f;simp only at f;clear hR hS
 by_cases hst : st = 0
 ·subst hst
  by_cases he : a = s.size
  ·have HE : Hid (failF s.data.toList (a, 0) = (a, 10)) := hid (by unfold failF; simp [he])
   have HQ : Hid (RdAt (w.setCell ⟨rb, 3, none⟩ (.int .i64 10)) rb s o (a, 10)) := hid (HR.out.set3 10)
   have hB : ((a : Int) == (s.size : Int)) = true := by simp; omega
   clear he
   go_enter Tryz.func190, Tryz.ntmps190
   go_wp2
   go_quiet (fail)
   generalize hw0 : w.drewN nq = w2
   have b : Same w w2 := by rw [<- hw0]; exact (Same.refl _).drewN _
   have c := hid (HR.out.same b);have d : Hid (Fr (· = rb) w w2) := hid (Fr.of_same b);clear b hw0 HQ c0 c1 c3 z3;have z3 := c.out.thaw 3;have c3 := c.out.c3;go_wp2
   go_end0
   exact ⟨rfl, by rw [HE.out]; exact c.out.set3 10, d.out.trans (z0l 3 _)⟩
  ·have HE : Hid (failF s.data.toList (a, 0) = (a, 90)) := hid (by unfold failF; simp [he])
   have hB : ((a : Int) == (s.size : Int)) = false := by simp; omega
   clear he
   go_enter Tryz.func190, Tryz.ntmps190
   go_wp2
   go_quiet (fail)
   generalize hw0 : w.drewN nq = w2
   have b : Same w w2 := by rw [<- hw0]; exact (Same.refl _).drewN _
   have c := hid (HR.out.same b);have d : Hid (Fr (· = rb) w w2) := hid (Fr.of_same b);clear b hw0 c0 c1 c3 z3;have z3 := c.out.thaw 3;have c3 := c.out.c3;go_wp2
   go_end0
   exact ⟨rfl, by rw [HE.out]; exact c.out.set3 90, d.out.trans (z0l 3 _)⟩
 ·have HE : Hid (failF s.data.toList (a, st) = (a, st)) := hid (z1i hst)
  have hB : ((st : Int) != (0 : Int)) = true := by simp; omega
  go_enter Tryz.func190, Tryz.ntmps190
  go_wp2
  go_end0
  exact ⟨rfl, by rw [HE.out]; exact HR.out, Fr.refl _ _⟩
theorem z32 (rb : Nat) (s : BA) (o : Nat) (S : St) (w : World) (_hs : s.size <= 2000) (hS : Wf s.data.toList S) (hR : RdAt w rb s o S) :
  Calls Tryz.prog 218 #[.pointer (some ⟨rb, 0, none⟩)] w fun e w' => e = .returned (.string (restF s S)) /\ Same w w' := by
 obtain ⟨a, st⟩ := S;have c0 := hR.c0;have c1 := hR.c1;have c3 := hR.c3;simp only at c1 c3;have b := hS.1;rw [z08] at b;simp only at b;clear hR hS
 by_cases hst : st = 0
 ·subst hst
  have HE : Hid (restF s (a, 0) = s.extract a s.size) := hid rfl
  go_enter Tryz.func218, Tryz.ntmps218
  go_wp2
  go_quiet (fail)
  go_wp2;go_ret;exact ⟨by rw [HE.out]; rfl, (Same.refl _).drewN _⟩
 ·have HE : Hid (restF s (a, st) = ⟨#[]⟩) := hid (z1w hst)
  have hB : ((st : Int) != (0 : Int)) = true := by simp; omega
  go_enter Tryz.func218, Tryz.ntmps218
  go_wp2;go_ret;exact ⟨by rw [HE.out]; rfl, Same.refl _⟩
theorem z2i (rb : Nat) (s t : BA) (o : Nat) (S : St) (w : World) (hs : s.size <= 2000) (hS : Wf s.data.toList S) (ht : 0 < t.size) (hR : RdAt w rb s o S) :
  Calls Tryz.prog 219 #[.pointer (some ⟨rb, 0, none⟩), .string t] w fun e w' => e = .returned (.bool (nextF s.data.toList t.data.toList S)) /\ Same w w' := by
 have HC := hid (z32 rb s o S w hs hS hR)
 have HE : Hid (Lib.hasPrefix (restF s S).data.toList t.data.toList = nextF s.data.toList t.data.toList S) := hid (by
  unfold nextF
  by_cases h0 : S.2 = 0
  ·rw [z3e h0]; simp [h0, Lib.hasPrefix]
  ·rw [z1w h0]; simp only [h0, decide_false, Bool.false_and, Lib.hasPrefix]
   cases ht2 : t.data.toList with
   | nil => have := z08 t; rw [ht2] at this; simp at this; omega
   | cons c r => rfl)
 clear hR hS
 go_enter Tryz.func219, Tryz.ntmps219
 go_wp2_with fail
 refine HC.out.mono ?_;rintro e w2 ⟨rfl, a⟩;have HW := hid a;clear a HC
 go_wp2_with fail
 refine (Tryz.strings_HasPrefix _ _ _).mono ?_;rintro e w3 ⟨rfl, rfl⟩;go_wp2;go_ret;exact ⟨by rw [<- HE.out]; rfl, HW.out⟩
end Go.Proofs.YtdkkkeoicekdgaaGreatDoor

end

section

namespace Go.Proofs.YtdkkkeoicekdgaaGreatDoor
set_option maxHeartbeats 1600000
set_option maxRecDepth 100000
open Go.Lib (hid)
open Go.RowKit
theorem z3j {s : BA} {S : St} (h : Wf s.data.toList S) : S.1 <= s.size := by have := h.1; rw [z08] at this; exact this
theorem z30 {l : List UInt8} {S T : St} (h : Ge l S T) (hS : Wf l S) : Wf l T := h.2.1 hS
theorem zaf {s : BA} {S : St} {c : UInt8} (h0 : S.2 = 0) (hx : s.data.toList[S.1]? = some c) : ∃ r, restF s S = ⟨(c :: r).toArray⟩ /\ (c :: r).length + S.1 = s.size /\ c :: r = s.data.toList.drop S.1 := by
 obtain ⟨hi, he⟩ := List.getElem?_eq_some_iff.1 hx;refine ⟨s.data.toList.drop (S.1 + 1), ?_, ?_, ?_⟩
 ·have h := z3e (s := s) h0
  rw [List.drop_eq_getElem_cons hi, he] at h;rw [<- h]
 ·have := z08 s; simp at hi ⊢; omega
 ·rw [List.drop_eq_getElem_cons hi, he]
theorem zae {s : BA} {S : St} (hx : S.2 = 0 -> s.data.toList[S.1]? = none) : restF s S = ⟨#[]⟩ := by
 by_cases h0 : S.2 = 0
 ·have h := z3e (s := s) h0
  have := hx h0;rw [List.getElem?_eq_none_iff] at this;rw [List.drop_eq_nil_iff.2 this] at h
  cases hr : restF s S with
  | mk d => rw [hr] at h; simp at h; rw [h]
 ·exact z1w h0
theorem one_in {l m : List UInt8} {S : St} {c : UInt8} (h0 : S.2 = 0) (hx : l[S.1]? = some c) (hm : c ∈ m) : oneF l m S = ([c], (S.1 + 1, 0)) := by
 unfold oneF; rw [if_pos h0, hx]; simp [hm]
theorem zgu {l m : List UInt8} {S : St} (h : ∀ c, S.2 = 0 -> l[S.1]? = some c -> c ∉ m) : oneF l m S = ([], failF l S) := by
 unfold oneF
 split
 ·rename_i h0
  split
  ·rename_i c hc; rw [if_neg (h c h0 hc)]
  ·rfl
 ·rename_i h0; rw [z1i h0]
theorem zaw : ∀ (m : List UInt8) (c : UInt8), decide (0 <= Lib.indexByte m c) = decide (c ∈ m)
 | [], c => rfl
 | b :: l, c => by
  have ih := zaw l c;have d := Lib.indexByte_ge l c;rw [Lib.indexByte]
  by_cases hbc : b = c
  ·subst hbc; simp
  ·have a : ¬ c = b := fun e => hbc e.symm
   rw [if_neg (by simp [hbc])];simp only [decide_eq_decide] at ih ⊢;rw [List.mem_cons]
   by_cases h1 : Lib.indexByte l c = -1
   ·rw [if_pos (by simp [h1])]
    rw [h1] at ih
    constructor
    ·intro h; omega
    ·rintro (h | h)
     ·exact absurd h a
     ·have := ih.2 h; omega
   ·rw [if_neg (by simp [h1])]
    constructor
    ·intro h; exact .inr (ih.1 (by omega))
    ·intro _; omega
theorem z94 (rb : Nat) (s m : BA) (o : Nat) (S : St) (w : World) (hs : s.size <= 2000) (hS : Wf s.data.toList S) (hR : RdAt w rb s o S) :
  Calls Tryz.prog 270 #[.pointer (some ⟨rb, 0, none⟩), .string m] w fun e w' => e = .returned (.string (ba (oneF s.data.toList m.data.toList S).1)) /\ RdAt w' rb s o (oneF s.data.toList m.data.toList S).2 /\ Fr (· = rb) w w' := by
 have HC := hid (z32 rb s o S w hs hS hR);have HF := hid (fun w2 (h : RdAt w2 rb s o S) => z5k rb s o S w2 hs hS h);have HR := hid hR;have q := z3j hS;clear hR
 by_cases hx : ∃ c, S.2 = 0 /\ s.data.toList[S.1]? = some c
 ·obtain ⟨c, h0, hx⟩ := hx
  obtain ⟨r, g, t, -⟩ := zaf h0 hx;have u := za6 c r;have v := zi5 c r;have x : (c :: r).length = r.length + 1 := rfl
  have y : ((⟨(c :: r).toArray⟩ : BA).toList.isEmpty) = false := by rw [ByteArray.toList_eq]; rfl
  rw [g] at HC;have HI := hid (zaw m.data.toList c)
  by_cases hm : c ∈ m.data.toList
  ·have HE := hid (one_in h0 hx hm)
   rw [decide_eq_true hm] at HI;obtain ⟨a, st⟩ := S;simp only at h0 t q HE;subst h0;clear hx hm g
   go_enter Tryz.func270, Tryz.ntmps270
   go_wp2_with fail
   refine HC.out.mono ?_;rintro e w2 ⟨rfl, b⟩;have f := hid (HR.out.same b);have i : Hid (Fr (· = rb) w w2) := hid (Fr.of_same b);clear b HC
   generalize (⟨(c :: r).toArray⟩ : BA) = R at *
   go_wp2_with fail
   refine (Tryz.strings_Contains_one _ _ _).mono ?_;rintro e w3 ⟨rfl, rfl⟩;rw [HI.out];have c1 := f.out.c1;have z1 := f.out.thaw 1;simp only at c1;go_wp2;go_ret;rw [HE.out];exact ⟨rfl, f.out.set1 (a + 1), i.out.trans (z0l 1 _)⟩
  ·have HE := hid (zgu (l := s.data.toList) (m := m.data.toList) (S := S) (fun d _ hd => by rw [hx] at hd; injection hd with hd; rw [<- hd]; exact hm))
   rw [decide_eq_false hm] at HI;clear hx hm g
   go_enter Tryz.func270, Tryz.ntmps270
   go_wp2_with fail
   refine HC.out.mono ?_;rintro e w2 ⟨rfl, b⟩;have f := hid (HR.out.same b);have i : Hid (Fr (· = rb) w w2) := hid (Fr.of_same b);clear b HC
   generalize (⟨(c :: r).toArray⟩ : BA) = R at *
   go_wp2_with fail
   refine (Tryz.strings_Contains_one _ _ _).mono ?_;rintro e w3 ⟨rfl, rfl⟩;rw [HI.out]
   go_wp2_with fail
   refine (HF.out _ f.out).mono ?_;rintro e w4 ⟨rfl, j, k⟩;have n := hid j;have p := hid (i.out.trans k);clear j k;go_wp2;go_ret;rw [HE.out];exact ⟨rfl, n.out, p.out⟩
 ·have g : restF s S = ⟨#[]⟩ := zae (fun h0 => by
   cases hq : s.data.toList[S.1]? with
   | none => rfl
   | some c => exact absurd ⟨c, h0, hq⟩ hx)
  have HE := hid (zgu (l := s.data.toList) (m := m.data.toList) (S := S) (fun d h0 hd => absurd ⟨d, h0, hd⟩ hx));rw [g] at HC;clear g hx
  go_enter Tryz.func270, Tryz.ntmps270
  go_wp2_with fail
  refine HC.out.mono ?_;rintro e w2 ⟨rfl, b⟩;have f := hid (HR.out.same b);have i : Hid (Fr (· = rb) w w2) := hid (Fr.of_same b);clear b HC
  go_wp2_with fail
  refine (HF.out _ f.out).mono ?_;rintro e w4 ⟨rfl, j, k⟩;have n := hid j;have p := hid (i.out.trans k);clear j k;go_wp2;go_ret;rw [HE.out];exact ⟨rfl, n.out, p.out⟩
theorem z13 (rb : Nat) (s t : BA) (o : Nat) (S : St) (w : World) (hs : s.size <= 2000) (ht : t.size <= 100) (hS : Wf s.data.toList S) (hR : RdAt w rb s o S) :
  Calls Tryz.prog 247 #[.pointer (some ⟨rb, 0, none⟩), .string t] w fun e w' => e = .returned (.tuple #[]) /\ RdAt w' rb s o (wordF s.data.toList t.data.toList S) /\ Fr (· = rb) w w' := by
 have HR := hid hR;have HS := hid hS;clear hR hS
 go_enter Tryz.func247, Tryz.ntmps247
 go_wp2
 go_loopw [7] (fun i wr => ∃ (k : Nat) (T : St), k <= t.size /\ i = .int .i64 k /\ Hid (Wf s.data.toList T) /\ Hid (RdAt wr rb s o T) /\ Hid (Fr (· = rb) w wr) /\ Hid (wordF s.data.toList t.data.toList S = wordF s.data.toList (t.data.toList.drop k) T)) (fun i _ => t.size - (intOf i).toNat)
 case atStart => exact ⟨0, S, by omega, rfl, HS, HR, hid (Fr.refl _ _), hid (by rw [List.drop_zero])⟩
 case round =>
  obtain ⟨k, T, hk, rfl, HT, b, HF, HW⟩ := hrel;clear HR
  by_cases hlt : k < t.size
  ·have hc := z3f t k hlt
   have HD := hid (HW.out.trans (by rw [drop_at hc, wordF]));have HN := hid (fun (m : BA) => z94 rb s m o T wr hs HT.out b.out);have HX : Hid ((ByteArray.extract t k (k + 1)).data.toList = [t[k]]) := hid (by rw [zct t k hlt]);clear hc HW
   generalize t[k] = c at *
   go_wp2_with fail
   refine (HN.out _).mono ?_;rintro e w2 ⟨rfl, a, d⟩;rw [HX.out] at a;have f := hid a;have g := hid (HF.out.trans d);have h := hid (z30 (z1f s.data.toList [c] T) HT.out);clear a d HN HX;go_wp2;go_roundw
   case rel => exact ⟨k + 1, _, by omega, by go_num, h, f, g, HD⟩
   case measure => simp [intOf]; omega
  ·have HD : Hid (t.data.toList.drop k = []) := hid (by rw [List.drop_eq_nil_iff]; simp; omega)
   go_wp2
   go_end0
   exact ⟨rfl, by rw [HW.out, HD.out]; exact b.out, HF.out⟩
end Go.Proofs.YtdkkkeoicekdgaaGreatDoor

end
