/- Numbers of keys. -/
import Derived.Lib.ItoaLen
import Derived.Laws.Cover1
import Derived.Lib.AppendZerosOnto
import Derived.Test.YtdkkkeoicekdgaaGreatDoorZFg21

section

namespace Go.Proofs.YtdkkkeoicekdgaaGreatDoor
set_option maxHeartbeats 1600000
set_option maxRecDepth 100000
open Go.Lib (hid)
open Go.RowKit
theorem z4l (n : Nat) (c : UInt8) : nx n c = n * 10 + (c.toNat - 48) := by unfold nx; rfl
theorem zhz : ∀ (r : List UInt8) (n : Nat), n <= r.foldl nx n
 | [], _ => Nat.le_refl _
 | c :: r, n => Nat.le_trans (by rw [z4l]; omega) (zhz r (nx n c))
theorem z2d {c : UInt8} : isDig c = true ↔ 48 <= c.toNat /\ c.toNat <= 57 := by unfold isDig; simp
theorem dec_step {n : Nat} {c : UInt8} (hn : 0 < n) (hc : isDig c = true) : Lib.decDigits (nx n c) = Lib.decDigits n ++ [c] := by
 have h := z2d.1 hc;rw [z4l, Lib.decDigits, dif_neg (by omega), show (n * 10 + (c.toNat - 48)) / 10 = n by omega, show (n * 10 + (c.toNat - 48)) % 10 = c.toNat - 48 by omega, show 48 + (c.toNat - 48) = c.toNat by omega, UInt8.ofNat_toNat]
theorem zim {c : UInt8} (hc : isDig c = true) : Lib.decDigits (c.toNat - 48) = [c] := by
 have h := z2d.1 hc;rw [Lib.decDigits, dif_pos (by omega), show 48 + (c.toNat - 48) = c.toNat by omega, UInt8.ofNat_toNat]
theorem zil : ∀ (r : List UInt8) (n : Nat), 0 < n -> r.all isDig = true -> Lib.decDigits (r.foldl nx n) = Lib.decDigits n ++ r
 | [], n, _, _ => by simp
 | c :: r, n, hn, h => by
  rw [List.all_cons, Bool.and_eq_true] at h
  rw [List.foldl_cons, zil r (nx n c) (by rw [z4l]; omega) h.2, dec_step hn h.1]; simp
theorem zdl {l : List UInt8} (h : numB l = true) : l = Lib.decDigits (l.foldl nx 0) /\ l.foldl nx 0 <= 1000000 := by
 cases l with
 | nil => cases h
 | cons c r =>
  unfold numB at h
  simp only [Bool.and_eq_true, decide_eq_true_eq] at h;obtain ⟨⟨⟨h1, h2⟩, h3⟩, h4⟩ := h;rw [List.all_cons, Bool.and_eq_true] at h1;refine ⟨?_, h4⟩;have hd := z2d.1 h1.1
  have e0 : nx 0 c = c.toNat - 48 := by rw [z4l]; omega
  rw [List.foldl_cons, e0]
  by_cases h48 : c = 48
  ·subst h48
   have : r = [] := by simpa using h2
   subst this
   rw [List.foldl_nil]; exact (zim h1.1).symm
  ·have : c.toNat ≠ 48 := fun e => h48 (UInt8.toNat_inj.1 e)
   rw [zil r _ (by omega) h1.2, zim h1.1]; rfl
theorem nd_le : ∀ (k u : Nat), u < 10 ^ (k + 1) -> Lib.nDigits u <= k + 1
 | 0, u, h => by rw [Lib.nDigits_small (by simpa using h)]; omega
 | k + 1, u, h => by
  by_cases h10 : u < 10
  ·rw [Lib.nDigits_small h10]; omega
  ·rw [Lib.nDigits_big h10]
   have := nd_le k (u / 10) (by rw [Nat.pow_succ] at h; omega)
   omega
theorem zb8 {d : Nat} (h : d < 10) : isDig (UInt8.ofNat (48 + d)) = true /\ (UInt8.ofNat (48 + d)).toNat = 48 + d := by
 have : (UInt8.ofNat (48 + d)).toNat = 48 + d := by rw [UInt8.toNat_ofNat']; omega
 exact ⟨by rw [z2d, this]; omega, this⟩
theorem zin (u : Nat) : (Lib.decDigits u).all isDig = true /\ (Lib.decDigits u).foldl nx 0 = u /\ 1 <= (Lib.decDigits u).length /\ (0 < u -> (Lib.decDigits u).head? ≠ some 48) := by
 induction u using Nat.strongRecOn with
 | _ u ih =>
  rw [Lib.decDigits]
  by_cases h : u < 10
  ·rw [dif_pos h]
   obtain ⟨h1, h2⟩ := zb8 h;refine ⟨by simpa using h1, ?_, by simp, fun h0 hh => ?_⟩
   ·rw [List.foldl_cons, List.foldl_nil, z4l, h2]; omega
   ·simp only [List.head?_cons, Option.some.injEq] at hh
    rw [hh] at h2;have : (48 : UInt8).toNat = 48 := rfl
    omega
  ·rw [dif_neg h]
   obtain ⟨i1, i2, i3, i4⟩ := ih (u / 10) (by omega);obtain ⟨h1, h2⟩ := zb8 (show u % 10 < 10 by omega);refine ⟨by rw [List.all_append, i1]; simpa using h1, ?_, by simp, fun _ => ?_⟩
   ·rw [List.foldl_append, i2, List.foldl_cons, List.foldl_nil, z4l, h2]; omega
   ·rw [List.head?_append]
    cases hh : (Lib.decDigits (u / 10)).head? with
    | none => rw [List.head?_eq_none_iff] at hh; rw [hh] at i3; simp at i3
    | some c => rw [hh] at i4; simpa using i4 (by omega)
theorem dec_numB {v : Nat} (h : v <= 1000000) : numB (Lib.decDigits v) = true := by
 obtain ⟨h1, h2, h3, h4⟩ := zin v
 have h5 : (Lib.decDigits v).length <= 7 := by rw [Lib.decDigits_length]; exact nd_le 6 v (by omega)
 by_cases h0 : v = 0
 ·subst h0; rw [Lib.decDigits_one (by omega)]; decide
 ·have h4 := h4 (by omega)
  generalize Lib.decDigits v = l at *
  cases l with
  | nil => simp at h3
  | cons c r =>
   unfold numB
   simp only [Bool.and_eq_true, decide_eq_true_eq];refine ⟨⟨⟨h1, ?_⟩, by simp at h5; omega⟩, by omega⟩
   have : c ≠ 48 := fun e => h4 (by rw [e]; rfl)
   simp [this]
theorem zah : ∀ (r : List UInt8) (n : Nat), r.all isDig = true -> r.foldl nx n <= 1000000 -> Lib.parseUint10 n r = .ok (r.foldl nx n)
 | [], n, _, _ => rfl
 | c :: r, n, h, hm => by
  rw [List.all_cons, Bool.and_eq_true] at h;have hd := z2d.1 h.1;rw [List.foldl_cons] at hm;have g1 := zhz r (nx n c);have e0 := z4l n c;rw [Lib.parseUint10, if_pos hd, if_neg (by omega), if_neg (by omega), List.foldl_cons, <- e0];exact zah r (nx n c) h.2 hm
theorem z5h {l : List UInt8} (h : numB l = true) : Lib.atoiAll l = .ok ((l.foldl nx 0 : Nat) : Int) /\ Lib.itoa ((l.foldl nx 0 : Nat) : Int) = l := by
 obtain ⟨h1, h2⟩ := zdl h;refine ⟨?_, by unfold Lib.itoa; rw [if_neg (by omega)]; exact h1.symm⟩
 cases l with
 | nil => cases h
 | cons c r =>
  unfold numB at h
  simp only [Bool.and_eq_true] at h;have ha := h.1.1.1;have a := ha;rw [List.all_cons, Bool.and_eq_true] at ha;have hd := z2d.1 ha.1
  unfold Lib.atoiAll
  simp only;rw [if_neg (by omega)]
  unfold Lib.parseMag
  rw [if_neg (by simp), zah _ 0 a h2];simp only;rw [if_neg (by omega), if_neg (by omega), if_neg (by omega)]
theorem itoa_num {l : List UInt8} {v : Int} (h0 : 0 <= v) (h1 : v <= 1000000) (h : Lib.itoa v = l) : numB l = true := by
 subst h
 unfold Lib.itoa
 rw [if_neg (by omega)];exact dec_numB (by omega)
structure EnvW (w : World) : Prop where
 tab : Lib.TabIs Tryz.prog w "internal/strconv.uint64pow10" .u64 Lib.pow10Tab
 syn : ∃ tp p, w.cell? ⟨5, 0, none⟩ = some (.iface tp p)
 rng : ∃ tp p, w.cell? ⟨6, 0, none⟩ = some (.iface tp p)
theorem zis {w : World} {b i : Nat} {v : Value} (h : w.cell? ⟨b, i, none⟩ = some v) : b < w.heap.size := by
 rcases Nat.lt_or_ge b w.heap.size with h' | h'
 ·exact h'
 ·simp [World.cell?, Array.getElem?_eq_none h'] at h
theorem EnvW.below {w w' : World} (h : EnvW w) (hb : Below w.heap.size w w') : EnvW w' := by
 obtain ⟨h1, ⟨t2, p2, h2⟩, ⟨t3, p3, h3⟩⟩ := h;exact ⟨Lib.tabBelow_of_tabIs h1 w' hb, ⟨t2, p2, (World.cell?_of_block (hb.block 5 (zis h2))).trans h2⟩, ⟨t3, p3, (World.cell?_of_block (hb.block 6 (zis h3))).trans h3⟩⟩
def Env (w : World) (rb : Nat) : Prop := ∃ W, EnvW W /\ Below W.heap.size W w /\ W.heap.size <= rb
theorem Env.env {w : World} {rb : Nat} (h : Env w rb) : EnvW w := by
 obtain ⟨W, h1, h2, -⟩ := h;exact h1.below h2
theorem Env.fr {w w' : World} {rb : Nat} (h : Env w rb) (hf : Fr (· = rb) w w') : Env w' rb := by
 obtain ⟨W, h1, h2, h3⟩ := h;exact ⟨W, h1, Fr.to_below h2 hf h3, h3⟩
theorem Env.below {w w' : World} {rb : Nat} (h : Env w rb) (hf : Below w.heap.size w w') : Env w' rb := by
 obtain ⟨W, h1, h2, h3⟩ := h;exact ⟨W, h1, h2.trans (hf.mono h2.size), h3⟩
theorem Env.same {w w' : World} {rb : Nat} (h : Env w rb) (hf : Same w w') : Env w' rb := h.below hf.below
theorem zcw (w : World) (t : ByteArray) : Below w.heap.size w (Lib.bytesWorld w 5 t) := Lib.bytesWorld_below w 5 t
theorem z3h (w : World) (k : Nat) (os : Array Obj) : Below w.heap.size w (Sort.grow (w.drewN k) os) :=
 ⟨rfl, rfl, rfl, by show w.heap.size <= (w.heap ++ os).size; simp, fun i hi => by show (w.heap ++ os)[i]? = _; rw [Array.getElem?_append_left hi]⟩
theorem itoa_str {v : Int} {t : BA} (h : Lib.itoa v = t.data.toList) : (⟨(Lib.itoa v).toArray⟩ : BA) = t := by rw [h]
theorem z86 (t : BA) (w : World) (ht : t.size <= 140737488351232) (hE : EnvW w) : Calls Tryz.prog 287 #[.string t] w fun e w' => e = .returned (.bool (numB t.data.toList)) /\ Below w.heap.size w w' := by
 rcases ha : Lib.atoiAll t.data.toList with v | _ | _
 ·have HC := hid (Tryz.strconv_Atoi_ok t (by omega) v ha w)
  have d := hid hE;clear hE
  have b : ∀ w', (w' = w ∨ ∃ t, w' = Lib.bytesWorld w 5 t) -> Below w.heap.size w w' := fun w' h => by
   rcases h with rfl | ⟨t, rfl⟩
   ·exact Below.refl _ _
   ·exact zcw w t
  by_cases h0 : 0 <= v
  ·by_cases h1 : v <= 1000000
   ·have HI := hid (fun w1 (h : EnvW w1) => Tryz.strconv_Itoa v (by omega) (by omega) w1 h.tab)
    by_cases hi : Lib.itoa v = t.data.toList
    ·have HE := hid (itoa_num h0 h1 hi)
     have HS := hid (itoa_str hi);clear ha hi
     go_enter Tryz.func287, Tryz.ntmps287
     go_wp2_with fail
     refine HC.out.mono ?_;rintro e w1 ⟨rfl, a⟩;have HB := hid (b w1 a);clear a HC b
     go_wp2_with fail
     refine (HI.out _ (d.out.below HB.out)).mono ?_;rintro e w2 ⟨rfl, k, os, rfl⟩;have c := hid (z00 HB.out (z3h w1 k os))
     generalize Go.Sort.grow (w1.drewN k) os = w3 at *
     rw [HS.out];go_wp2;go_ret;exact ⟨by rw [HE.out]; rfl, c.out⟩
    ·have HE : Hid (numB t.data.toList = false) := hid (by
      cases hb : numB t.data.toList with
      | false => rfl
      | true =>
       obtain ⟨q1, q2⟩ := z5h hb;rw [q1] at ha
       injection ha with ha
       rw [ha] at q2
       exact absurd q2 hi)
     have hB : ((⟨(Lib.itoa v).toArray⟩ : BA).toList == t.toList) = false := by
      rw [beq_eq_false_iff_ne, ByteArray.toList_eq, ByteArray.toList_eq]; exact hi
     clear ha hi
     go_enter Tryz.func287, Tryz.ntmps287
     go_wp2_with fail
     refine HC.out.mono ?_;rintro e w1 ⟨rfl, a⟩;have HB := hid (b w1 a);clear a HC b
     go_wp2_with fail
     refine (HI.out _ (d.out.below HB.out)).mono ?_;rintro e w2 ⟨rfl, k, os, rfl⟩;have c := hid (z00 HB.out (z3h w1 k os))
     generalize Go.Sort.grow (w1.drewN k) os = w3 at *
     generalize (⟨(Lib.itoa v).toArray⟩ : BA) = R at *
     go_wp2;go_ret;exact ⟨by rw [HE.out]; first | rfl | (simp [hB]), c.out⟩
   ·have HE : Hid (numB t.data.toList = false) := hid (by
     cases hb : numB t.data.toList with
     | false => rfl
     | true =>
      obtain ⟨q1, q2⟩ := z5h hb;have := (zdl hb).2;rw [q1] at ha
      injection ha with ha
      omega)
    clear ha
    go_enter Tryz.func287, Tryz.ntmps287
    go_wp2_with fail
    refine HC.out.mono ?_;rintro e w1 ⟨rfl, a⟩;have HB := hid (b w1 a);clear a HC b;go_wp2;go_ret;exact ⟨by rw [HE.out]; rfl, HB.out⟩
  ·have HE : Hid (numB t.data.toList = false) := hid (by
    cases hb : numB t.data.toList with
    | false => rfl
    | true =>
     obtain ⟨q1, q2⟩ := z5h hb;rw [q1] at ha
     injection ha with ha
     omega)
   clear ha
   go_enter Tryz.func287, Tryz.ntmps287
   go_wp2_with fail
   refine HC.out.mono ?_;rintro e w1 ⟨rfl, a⟩;have HB := hid (b w1 a);clear a HC b;go_wp2;go_ret;exact ⟨by rw [HE.out]; rfl, HB.out⟩
 ·have HE : Hid (numB t.data.toList = false) := hid (by
   cases hb : numB t.data.toList with
   | false => rfl
   | true => rw [(z5h hb).1] at ha; cases ha)
  obtain ⟨tp, p, hv⟩ := hE.syn;have HC := hid (Tryz.strconv_Atoi_syntax t (by omega) ⟨fun e => by (rw [ha] at e; cases e), fun v e => by (rw [ha] at e; cases e)⟩ _ w hv (.inr ⟨tp, p, rfl⟩));clear ha hE hv
  go_enter Tryz.func287, Tryz.ntmps287
  go_wp2_with fail
  refine HC.out.mono ?_;rintro e w1 ⟨M, rfl, -, -, hb⟩;have HB := hid hb;clear hb HC;go_wp2;go_ret;exact ⟨by rw [HE.out]; rfl, HB.out⟩
 ·have HE : Hid (numB t.data.toList = false) := hid (by
   cases hb : numB t.data.toList with
   | false => rfl
   | true => rw [(z5h hb).1] at ha; cases ha)
  obtain ⟨tp, p, hv⟩ := hE.rng;have HC := hid (Tryz.strconv_Atoi_range t (by omega) ha _ w hv (.inr ⟨tp, p, rfl⟩));clear ha hE hv
  go_enter Tryz.func287, Tryz.ntmps287
  go_wp2_with fail
  refine HC.out.mono ?_;rintro e w1 ⟨M, rfl, -, -, hb⟩;have HB := hid hb;clear hb HC;go_wp2;go_ret;exact ⟨by rw [HE.out]; rfl, HB.out⟩
end Go.Proofs.YtdkkkeoicekdgaaGreatDoor

end

section

namespace Go.Proofs.YtdkkkeoicekdgaaGreatDoor.Lc
open Go.RowKit Go.Lib
end Go.Proofs.YtdkkkeoicekdgaaGreatDoor.Lc

end

section

namespace Go.Proofs.YtdkkkeoicekdgaaGreatDoor.Ca
open Go.Proofs.YtdkkkeoicekdgaaGreatDoor
abbrev BA := ByteArray
theorem baExt {a b : BA} (h : a.toList = b.toList) : a = b := by
 rw [ByteArray.toList_eq, ByteArray.toList_eq] at h;exact ByteArray.ext (Array.toList_inj.1 h)
theorem bl_irr : ∀ x : List UInt8, Op.bytesLess x x = false
 | [] => rfl
 | a :: x => by rw [Op.bytesLess, bl_irr x]; simp
theorem zeu : ∀ x y z : List UInt8, Op.bytesLess x y = true -> Op.bytesLess y z = true -> Op.bytesLess x z = true
 | [], [], _, h, _ => by simp [Op.bytesLess] at h
 | [], _ :: _, [], _, h => by simp [Op.bytesLess] at h
 | [], _ :: _, _ :: _, _, _ => rfl
 | _ :: _, [], _, h, _ => by simp [Op.bytesLess] at h
 | _ :: _, _ :: _, [], _, h => by simp [Op.bytesLess] at h
 | a :: x, b :: y, c :: z, h, k => by
  rw [Op.bytesLess] at h k ⊢;simp only [Bool.or_eq_true, Bool.and_eq_true, decide_eq_true_eq, beq_iff_eq] at h k ⊢
  rcases h with h | ⟨rfl, h⟩
  ·rcases k with k | ⟨rfl, k⟩
   ·exact .inl (UInt8.lt_trans h k)
   ·exact .inl h
  ·rcases k with k | ⟨rfl, k⟩
   ·exact .inl k
   ·exact .inr ⟨rfl, zeu x y z h k⟩
theorem bl_tri : ∀ x y : List UInt8, Op.bytesLess x y = false -> Op.bytesLess y x = false -> x = y
 | [], [], _, _ => rfl
 | [], _ :: _, h, _ => by simp [Op.bytesLess] at h
 | _ :: _, [], _, h => by simp [Op.bytesLess] at h
 | a :: x, b :: y, h, k => by
  rw [Op.bytesLess] at h k;simp only [Bool.or_eq_false_iff, Bool.and_eq_false_iff, decide_eq_false_iff_not, beq_eq_false_iff_ne] at h k
  have c : a = b := by
   have h1 := h.1;have h2 := k.1;rw [UInt8.lt_iff_toNat_lt] at h1 h2;exact UInt8.toNat_inj.1 (by omega)
  subst c
  have h3 : Op.bytesLess x y = false := by
   rcases h.2 with h | h
   ·exact absurd rfl h
   ·exact h
  have h4 : Op.bytesLess y x = false := by
   rcases k.2 with h | h
   ·exact absurd rfl h
   ·exact h
  rw [bl_tri x y h3 h4]
def ltB (a b : BA) : Bool := Op.bytesLess a.toList b.toList
theorem zce (a : BA) : ltB a a = false := bl_irr _
theorem zao {a b c : BA} (h : ltB a b = true) (k : ltB b c = true) : ltB a c = true := zeu _ _ _ h k
theorem zh4 {a b : BA} (h : ltB a b = false) (k : ltB b a = false) : a = b := baExt (bl_tri _ _ h k)
structure Ent where
 loc : BA
 key : BA
 pat : BA
def isKc (c : UInt8) : Bool := (decide (97 <= c.toNat) && decide (c.toNat <= 122)) || (decide (65 <= c.toNat) && decide (c.toNat <= 90)) || (decide (48 <= c.toNat) && decide (c.toNat <= 57)) || c == 46 || c == 95 || c == 45
def keyB (l : List UInt8) : Bool := decide (1 <= l.length) && decide (l.length <= 32) && l.all isKc
def patB (l : List UInt8) : Bool := decide ((z0q l).2.1 = 0)
def locOK (l : List UInt8) : Bool := l.isEmpty || Lc.locB l
def mayB (e : Ent) : Bool := locOK e.loc.data.toList && keyB e.key.data.toList && patB e.pat.data.toList
def ahB (a b : Ent) : Bool := ltB a.loc b.loc || (decide (a.loc = b.loc) && ltB a.key b.key)
theorem ahB_irr (a : Ent) : ahB a a = false := by simp [ahB, zce]
theorem z5i {a b c : Ent} (h : ahB a b = true) (k : ahB b c = true) : ahB a c = true := by
 unfold ahB at *
 simp only [Bool.or_eq_true, Bool.and_eq_true, decide_eq_true_eq] at *
 rcases h with h | ⟨h, h'⟩
 ·rcases k with k | ⟨k, k'⟩
  ·exact .inl (zao h k)
  ·exact .inl (k ▸ h)
 ·rcases k with k | ⟨k, k'⟩
  ·exact .inl (h ▸ k)
  ·exact .inr ⟨h.trans k, zao h' k'⟩
theorem zj1 {a b : Ent} (h : ahB a b = false) (k : ahB b a = false) : a.loc = b.loc /\ a.key = b.key := by
 unfold ahB at *
 simp only [Bool.or_eq_false_iff, Bool.and_eq_false_iff, decide_eq_false_iff_not] at *
 have h1 := zh4 h.1 k.1;refine ⟨h1, ?_⟩
 rcases h.2 with h2 | h2
 ·exact absurd h1 h2
 ·rcases k.2 with k2 | k2
  ·exact absurd h1.symm k2
  ·exact zh4 h2 k2
theorem z2o {a b : Ent} (h : a.loc = b.loc) (k : a.key = b.key) : ahB a b = false := by unfold ahB; rw [h, k, zce, zce]; simp
theorem zcy {a b : Ent} (h : ahB a b = true) : ahB b a = false := by
 cases hb : ahB b a with
 | false => rfl
 | true => have := z5i h hb; rw [ahB_irr] at this; cases this
def sameB (loc key : BA) (e : Ent) : Bool := decide (e.loc = loc /\ e.key = key)
def findC (l : List Ent) (loc key : BA) : Option Ent := l.find? (sameB loc key)
def Srt (l : List Ent) : Prop := l.Pairwise (fun a b => ahB a b = true)
structure Rgt (l : List Ent) : Prop where
 len : l.length <= 200
 may : ∀ e, e ∈ l -> mayB e = true
 srt : Srt l
open Classical in
noncomputable def z0n (l : List Ent) : Nat := if 200 < l.length then 2 else if (∀ e, e ∈ l -> mayB e = true) /\ Srt l then 0 else 110
theorem z22 {l : List Ent} : z0n l = 0 ↔ Rgt l := by
 unfold z0n
 split
 ·exact ⟨fun h => by omega, fun h => by have := h.len; omega⟩
 ·split
  ·rename_i h1 h2
   exact ⟨fun _ => ⟨by omega, h2.1, h2.2⟩, fun _ => rfl⟩
  ·rename_i h1 h2
   exact ⟨fun h => by omega, fun h => absurd ⟨h.may, h.srt⟩ h2⟩
def insC (x : Ent) : List Ent -> List Ent
 | [] => [x]
 | y :: r => if ahB x y then x :: y :: r else y :: insC x r
def dropC (loc key : BA) (l : List Ent) : List Ent := l.filter (fun e => !sameB loc key e)
def putC (x : Ent) (l : List Ent) : List Ent := insC x (dropC x.loc x.key l)
structure Chg where
 drop : Bool
 e : Ent
abbrev Ans := Except Nat (List Ent)
def oneC (l : List Ent) (c : Chg) : Ans :=
 if c.drop then
  if c.e.pat ≠ ⟨#[]⟩ then .error 110 else if (findC l c.e.loc c.e.key).isNone then .error 60 else .ok (dropC c.e.loc c.e.key l)
 else if mayB c.e = false then .error 110 else if 200 < (putC c.e l).length then .error 2 else .ok (putC c.e l)
def foldC : List Ent -> List Chg -> Ans
 | l, [] => .ok l
 | l, c :: r => match oneC l c with
  | .ok l' => foldC l' r
  | .error k => .error k
noncomputable def z17 (l : List Ent) (cs : List Chg) : Ans := if z0n l ≠ 0 then .error (z0n l) else if 20 < cs.length then .error 2 else foldC l cs
theorem z0o {loc key : BA} {e : Ent} : sameB loc key e = true ↔ e.loc = loc /\ e.key = key := by unfold sameB; simp
theorem z9f {l : List Ent} (h : Srt l) (loc key : BA) : Srt (dropC loc key l) := List.Pairwise.filter _ h
theorem z6i {l : List Ent} {loc key : BA} {e : Ent} : e ∈ dropC loc key l ↔ e ∈ l /\ ¬ (e.loc = loc /\ e.key = key) := by
 unfold dropC
 rw [List.mem_filter]
 constructor
 ·rintro ⟨h1, h2⟩
  exact ⟨h1, fun hh => by rw [z0o.2 hh] at h2; cases h2⟩
 ·rintro ⟨h1, h2⟩
  refine ⟨h1, ?_⟩
  cases hs : sameB loc key e with
  | false => rfl
  | true => exact absurd (z0o.1 hs) h2
theorem zcl {x : Ent} : ∀ {l : List Ent} {e : Ent}, e ∈ insC x l ↔ e = x ∨ e ∈ l
 | [], e => by simp [insC]
 | y :: r, e => by
  rw [insC]
  split
  ·simp
  ·rw [List.mem_cons, zcl, List.mem_cons]
   constructor
   ·rintro (h | h | h)
    ·exact .inr (.inl h)
    ·exact .inl h
    ·exact .inr (.inr h)
   ·rintro (h | h | h)
    ·exact .inr (.inl h)
    ·exact .inl h
    ·exact .inr (.inr h)
theorem zhe {x : Ent} : ∀ {l : List Ent}, Srt l -> (∀ e, e ∈ l -> ¬ (e.loc = x.loc /\ e.key = x.key)) -> Srt (insC x l)
 | [], _, _ => by rw [insC]; exact List.pairwise_singleton _ _
 | y :: r, h, hn => by
  rw [insC]
  unfold Srt at h
  rw [List.pairwise_cons] at h
  split
  ·rename_i ha
   unfold Srt
   rw [List.pairwise_cons];refine ⟨fun e he => ?_, List.pairwise_cons.2 h⟩
   rcases List.mem_cons.1 he with rfl | he
   ·exact ha
   ·exact z5i ha (h.1 e he)
  ·rename_i ha
   have hy : ahB y x = true := by
    cases hyx : ahB y x with
    | true => rfl
    | false =>
     have := zj1 hyx (by simpa using ha);exact absurd this (hn y (by simp))
   unfold Srt
   rw [List.pairwise_cons];refine ⟨fun e he => ?_, zhe h.2 (fun e he => hn e (by simp [he]))⟩
   rcases zcl.1 he with rfl | he
   ·exact hy
   ·exact h.1 e he
theorem put_mem {x : Ent} {l : List Ent} {e : Ent} : e ∈ putC x l ↔ e = x ∨ (e ∈ l /\ ¬ (e.loc = x.loc /\ e.key = x.key)) := by
 unfold putC
 rw [zcl, z6i]
theorem put_srt {x : Ent} {l : List Ent} (h : Srt l) : Srt (putC x l) := zhe (z9f h _ _) (fun _ he => (z6i.1 he).2)
theorem z71 {l l' : List Ent} {c : Chg} (h : Rgt l) (ho : oneC l c = .ok l') : Rgt l' := by
 unfold oneC at ho
 split at ho
 ·split at ho
  ·cases ho
  ·split at ho
   ·cases ho
   ·cases ho
    exact ⟨Nat.le_trans (List.length_filter_le _ _) h.len, fun e he => h.may e (z6i.1 he).1, z9f h.srt _ _⟩
 ·split at ho
  ·cases ho
  ·rename_i hm
   split at ho
   ·cases ho
   ·cases ho
    refine ⟨by omega, fun e he => ?_, put_srt h.srt⟩
    rcases put_mem.1 he with rfl | he
    ·simpa using hm
    ·exact h.may e he.1
theorem z8b {l l' : List Ent} : ∀ {cs : List Chg}, Rgt l -> foldC l cs = .ok l' -> Rgt l'
 | [], h, ho => by rw [foldC] at ho; cases ho; exact h
 | c :: r, h, ho => by
  rw [foldC] at ho
  cases h1 : oneC l c with
  | ok m => rw [h1] at ho; exact z8b (z71 h h1) ho
  | error k => rw [h1] at ho; cases ho
theorem zb1 {l : List Ent} {loc key : BA} {e : Ent} (h : Srt l) (he : e ∈ l) (h1 : e.loc = loc) (h2 : e.key = key) : findC l loc key = some e := by
 induction l with
 | nil => cases he
 | cons y r ih =>
  unfold Srt at h
  rw [List.pairwise_cons] at h
  unfold findC
  rcases List.mem_cons.1 he with rfl | he
  ·rw [List.find?_cons_of_pos (z0o.2 ⟨h1, h2⟩)]
  ·by_cases hy : sameB loc key y = true
   ·have a := z0o.1 hy
    have := h.1 e he;rw [z2o (a.1.trans h1.symm) (a.2.trans h2.symm)] at this
    cases this
   ·rw [List.find?_cons_of_neg hy]
    exact ih h.2 he
theorem z44 {l : List Ent} {loc key : BA} : findC l loc key = none ↔ ∀ e, e ∈ l -> ¬ (e.loc = loc /\ e.key = key) := by
 unfold findC
 rw [List.find?_eq_none];exact ⟨fun h e he hs => h e he (z0o.2 hs), fun h e he hs => h e he (z0o.1 hs)⟩
theorem zi3 {l : List Ent} {loc key : BA} {e : Ent} (h : findC l loc key = some e) : e ∈ l /\ e.loc = loc /\ e.key = key :=
 ⟨List.mem_of_find?_eq_some h, z0o.1 (List.find?_some (p := sameB loc key) h)⟩
theorem z7d {l : List Ent} {loc key : BA} (h : findC l loc key = none) : dropC loc key l = l := by
 unfold dropC
 rw [List.filter_eq_self];intro e he;have := z44.1 h e he
 cases hs : sameB loc key e with
 | false => rfl
 | true => exact absurd (z0o.1 hs) this

def posE (x : Ent) : List Ent -> Nat
  | [] => 0
  | y :: r => if ahB y x then posE x r + 1 else 0
theorem z8w (x : Ent) : ∀ l : List Ent, posE x l <= l.length
  | [] => Nat.le_refl _
  | y :: r => by
    rw [posE]
    split
    · have := z8w x r; simp; omega
    · exact Nat.zero_le _
theorem z9o {x : Ent} : ∀ {l : List Ent} {j : Nat} {y : Ent}, l[j]? = some y -> j < posE x l -> ahB y x = true
  | [], j, y, h, _ => by simp at h
  | z :: r, j, y, h, hj => by
    rw [posE] at hj
    split at hj
    · rename_i hz
      cases j with
      | zero => obtain rfl : z = y := by simpa using h
                exact hz
      | succ j => exact z9o (l := r) (j := j) (by simpa using h) (by omega)
    · omega
theorem z78 {x : Ent} {l : List Ent} {j : Nat} {y : Ent} (h : l[j]? = some y) (hn : ahB y x = false) : posE x l <= j := by
  by_cases hj : j < posE x l
  · rw [z9o h hj] at hn; cases hn
  · omega
theorem z97 {x : Ent} : ∀ {l : List Ent} {j : Nat} {y : Ent}, Srt l -> l[j]? = some y -> ahB y x = true -> j < posE x l
  | [], j, y, _, h, _ => by simp at h
  | z :: r, j, y, hs, h, ha => by
    unfold Srt at hs
    rw [List.pairwise_cons] at hs;rw [posE]
    cases j with
    | zero =>
      obtain rfl : z = y := by simpa using h
      rw [if_pos ha]; omega
    | succ j =>
      have hy : r[j]? = some y := by simpa using h
      have hz : ahB z x = true := z5i (hs.1 y (List.mem_of_getElem? hy)) ha;rw [if_pos hz];have := z97 (l := r) hs.2 hy ha
      omega
theorem not_at {x : Ent} : ∀ {l : List Ent} {y : Ent}, l[posE x l]? = some y -> ahB y x = false
  | [], y, h => by simp at h
  | z :: r, y, h => by
    rw [posE] at h
    cases hz : ahB z x with
    | true =>
      rw [hz] at h;exact not_at (l := r) (by simpa using h)
    | false =>
      rw [hz] at h
      obtain rfl : z = y := by simpa using h
      exact hz
theorem zj2 {a b c : Ent} (h1 : b.loc = c.loc) (h2 : b.key = c.key) : ahB a b = ahB a c := by unfold ahB; rw [h1, h2]
theorem ahB_left {a b c : Ent} (h1 : b.loc = c.loc) (h2 : b.key = c.key) : ahB b a = ahB c a := by unfold ahB; rw [h1, h2]
def fndE (x : Ent) (l : List Ent) : Bool := match l[posE x l]? with
  | some y => sameB x.loc x.key y
  | none => false
theorem z9e {x e : Ent} {l : List Ent} (hs : Srt l) (h : findC l x.loc x.key = some e) : l[posE x l]? = some e /\ fndE x l = true := by
  obtain ⟨hm, h1, h2⟩ := zi3 h;obtain ⟨j, hj⟩ := List.mem_iff_getElem?.1 hm;have c : posE x l <= j := z78 hj (z2o h1 h2)
  have b : l[posE x l]? = some e := by
    rcases Nat.lt_or_eq_of_le c with hlt | he
    · have d := (List.getElem?_eq_some_iff.1 hj).1
      have hp : l[posE x l]? = some (l[posE x l]'(by omega)) := List.getElem?_eq_getElem (by omega);have f := not_at hp
      have a : ahB (l[posE x l]'(by omega)) e = true := by
        have := List.pairwise_iff_getElem.1 hs (posE x l) j (by omega) d hlt;rw [(List.getElem?_eq_some_iff.1 hj).2] at this;exact this
      rw [zj2 h1 h2, f] at a
      cases a
    · rw [he]; exact hj
  refine ⟨b, ?_⟩
  unfold fndE
  rw [b];exact z0o.2 ⟨h1, h2⟩
theorem ze9 {x : Ent} {l : List Ent} (h : fndE x l = true) : ∃ y, l[posE x l]? = some y /\ y.loc = x.loc /\ y.key = x.key := by
  unfold fndE at h
  split at h
  · rename_i y hy
    exact ⟨y, hy, z0o.1 h⟩
  · cases h
theorem zi0 {x : Ent} {l : List Ent} (hs : Srt l) (h : fndE x l = false) : findC l x.loc x.key = none := by
  cases hf : findC l x.loc x.key with
  | none => rfl
  | some e => rw [(z9e hs hf).2] at h; cases h
theorem zco {x : Ent} {l : List Ent} (hs : Srt l) (h : fndE x l = true) : ∃ y, l[posE x l]? = some y /\ findC l x.loc x.key = some y := by
  obtain ⟨y, hy, h1, h2⟩ := ze9 h;exact ⟨y, hy, zb1 hs (List.mem_of_getElem? hy) h1 h2⟩
theorem zhf {x : Ent} : ∀ {l : List Ent}, (∀ e, e ∈ l -> ¬ (e.loc = x.loc /\ e.key = x.key)) -> insC x l = l.take (posE x l) ++ x :: l.drop (posE x l)
  | [], _ => rfl
  | y :: r, h => by
    rw [insC, posE]
    cases hxy : ahB x y with
    | true =>
      rw [zcy hxy]
      rfl
    | false =>
      have a : ahB y x = true := by
        cases a : ahB y x with
        | true => rfl
        | false => exact absurd (zj1 a hxy) (h y (by simp))
      rw [a];simp only [Bool.false_eq_true, if_false, if_true, List.take_succ_cons, List.drop_succ_cons, List.cons_append];rw [<- zhf (fun e he => h e (by simp [he]))]
theorem put_new {x : Ent} {l : List Ent} (hs : Srt l) (h : fndE x l = false) : putC x l = l.take (posE x l) ++ x :: l.drop (posE x l) := by
  have hn := zi0 hs h
  unfold putC
  rw [z7d hn];exact zhf (z44.1 hn)
theorem z9h {x : Ent} : ∀ {l : List Ent}, Srt l -> fndE x l = true -> dropC x.loc x.key l = l.take (posE x l) ++ l.drop (posE x l + 1)
  | [], _, h => by cases h
  | y :: r, hs, h => by
    have a := hs
    unfold Srt at a
    rw [List.pairwise_cons] at a
    unfold fndE at h
    rw [posE] at h ⊢
    cases hyx : ahB y x with
    | true =>
      rw [hyx] at h;simp only [if_true, List.getElem?_cons_succ] at h
      have hy : sameB x.loc x.key y = false := by
        cases hh : sameB x.loc x.key y with
        | false => rfl
        | true =>
          have := z0o.1 hh;rw [z2o this.1 this.2] at hyx
          cases hyx
      have ih := z9h (x := x) (l := r) a.2 h
      unfold dropC at ih ⊢
      rw [List.filter_cons_of_pos (by simp [hy]), ih]
      simp
    | false =>
      rw [hyx] at h;have hy : sameB x.loc x.key y = true := h;have b := z0o.1 hy
      have hr : dropC x.loc x.key r = r := z7d (z44.2 (fun e he hh => by
        have := a.1 e he;rw [z2o (b.1.trans hh.1.symm) (b.2.trans hh.2.symm)] at this
        cases this))
      unfold dropC at hr ⊢
      rw [List.filter_cons_of_neg (by simp [hy]), hr]
      simp
theorem put_old {x : Ent} {l : List Ent} (hs : Srt l) (h : fndE x l = true) : putC x l = l.set (posE x l) x := by
  have hd := z9h hs h;obtain ⟨y, hy, h1, h2⟩ := ze9 h;have c := (List.getElem?_eq_some_iff.1 hy).1
  unfold putC
  have hn : ∀ e, e ∈ dropC x.loc x.key l -> ¬ (e.loc = x.loc /\ e.key = x.key) := fun e he => (z6i.1 he).2
  have hp : posE x (dropC x.loc x.key l) = posE x l := by
    have d := z9f hs x.loc x.key
    have i : posE x l <= posE x (dropC x.loc x.key l) := by
      by_cases h0 : posE x l = 0
      · omega
      · have hj : (dropC x.loc x.key l)[posE x l - 1]? = l[posE x l - 1]? := by
          rw [hd, List.getElem?_append_left (by rw [List.length_take]; omega), List.getElem?_take, if_pos (by omega)]
        have a : l[posE x l - 1]? = some (l[posE x l - 1]'(by omega)) := List.getElem?_eq_getElem (by omega);have := z97 d (hj.trans a) (z9o (x := x) a (by omega))
        omega
    have j : posE x (dropC x.loc x.key l) <= posE x l := by
      by_cases hl : posE x l < (dropC x.loc x.key l).length
      · have hj : (dropC x.loc x.key l)[posE x l]? = l[posE x l + 1]? := by
          rw [hd, List.getElem?_append_right (by rw [List.length_take]; omega), List.length_take, Nat.min_eq_left (by omega), Nat.sub_self, List.getElem?_drop, Nat.add_zero]
        have g : (dropC x.loc x.key l).length = l.length - 1 := by
          rw [hd, List.length_append, List.length_take, List.length_drop]; omega
        have a : l[posE x l + 1]? = some (l[posE x l + 1]'(by omega)) := List.getElem?_eq_getElem (by omega);refine z78 (hj.trans a) ?_;have b : ahB (l[posE x l]'c) (l[posE x l + 1]'(by omega)) = true := List.pairwise_iff_getElem.1 hs _ _ _ _ (by omega);rw [(List.getElem?_eq_some_iff.1 hy).2, ahB_left h1 h2] at b;exact zcy b
      · have := z8w x (dropC x.loc x.key l)
        omega
    omega
  rw [zhf hn, hp, hd]
  have ht : (l.take (posE x l) ++ l.drop (posE x l + 1)).take (posE x l) = l.take (posE x l) := by
    rw [List.take_append_of_le_length (by rw [List.length_take]; omega), List.take_take, Nat.min_self]
  have f : (l.take (posE x l) ++ l.drop (posE x l + 1)).drop (posE x l) = l.drop (posE x l + 1) := by
    rw [List.drop_append_of_le_length (by rw [List.length_take]; omega)];rw [List.drop_eq_nil_of_le (by rw [List.length_take]; omega), List.nil_append]
  rw [ht, f, List.set_eq_take_append_cons_drop, if_pos c]
theorem cmp_lt : ∀ a b : List UInt8, (Lib.compareBytes a b = -1 /\ Op.bytesLess a b = true) ∨ (Lib.compareBytes a b = 0 /\ a = b) ∨ (Lib.compareBytes a b = 1 /\ Op.bytesLess b a = true)
  | [], [] => .inr (.inl ⟨rfl, rfl⟩)
  | [], _ :: _ => .inl ⟨rfl, rfl⟩
  | _ :: _, [] => .inr (.inr ⟨rfl, rfl⟩)
  | a :: x, b :: y => by
    rw [Lib.compareBytes, Op.bytesLess, Op.bytesLess]
    by_cases h1 : a < b
    · exact .inl ⟨by rw [if_pos h1], by simp [h1]⟩
    · by_cases h2 : b < a
      · exact .inr (.inr ⟨by rw [if_neg h1, if_pos h2], by simp [h2]⟩)
      · have c : a = b := by
          rw [UInt8.lt_iff_toNat_lt] at h1 h2;exact UInt8.toNat_inj.1 (by omega)
        subst c;rw [if_neg h1, if_neg h1]
        rcases cmp_lt x y with ⟨k1, k2⟩ | ⟨k1, k2⟩ | ⟨k1, k2⟩
        · exact .inl ⟨k1, by simp [k2]⟩
        · exact .inr (.inl ⟨k1, by rw [k2]⟩)
        · exact .inr (.inr ⟨k1, by simp [k2]⟩)
def cmpB (a b : BA) : Int := Lib.compareBytes a.data.toList b.data.toList
def cmpE (a b : Ent) : Int := if cmpB a.loc b.loc = 0 then cmpB a.key b.key else cmpB a.loc b.loc
theorem z9l (a b : BA) : (cmpB a b = -1 /\ ltB a b = true) ∨ (cmpB a b = 0 /\ a = b) ∨ (cmpB a b = 1 /\ ltB b a = true) := by
  unfold cmpB ltB
  rw [ByteArray.toList_eq, ByteArray.toList_eq]
  rcases cmp_lt a.data.toList b.data.toList with h | h | h
  · exact .inl h
  · exact .inr (.inl ⟨h.1, ByteArray.ext (Array.toList_inj.1 h.2)⟩)
  · exact .inr (.inr h)
theorem zes (a b : Ent) : (cmpE a b = -1 /\ ahB a b = true) ∨ (cmpE a b = 0 /\ a.loc = b.loc /\ a.key = b.key) ∨ (cmpE a b = 1 /\ ahB b a = true) := by
  unfold cmpE ahB
  rcases z9l a.loc b.loc with ⟨h1, h2⟩ | ⟨h1, h2⟩ | ⟨h1, h2⟩
  · exact .inl ⟨by rw [h1]; rfl, by rw [h2]; rfl⟩
  · rw [if_pos h1]
    rcases z9l a.key b.key with ⟨k1, k2⟩ | ⟨k1, k2⟩ | ⟨k1, k2⟩
    · exact .inl ⟨k1, by simp [h2, k2]⟩
    · exact .inr (.inl ⟨k1, h2, k2⟩)
    · exact .inr (.inr ⟨k1, by simp [h2, k2]⟩)
  · exact .inr (.inr ⟨by rw [h1]; rfl, by rw [h2]; rfl⟩)
theorem zcu (a b : Ent) : decide (cmpE a b < 0) = ahB a b := by
  rcases zes a b with ⟨h, k⟩ | ⟨h, k1, k2⟩ | ⟨h, k⟩
  · rw [h, k]; rfl
  · rw [h, z2o k1 k2]; rfl
  · rw [h, zcy k]; rfl
theorem cmpE_0 (a b : Ent) : (cmpE a b == 0) = sameB b.loc b.key a := by
  rcases zes a b with ⟨h, k⟩ | ⟨h, k1, k2⟩ | ⟨h, k⟩
  · rw [h]
    cases hs : sameB b.loc b.key a with
    | false => rfl
    | true => have := z0o.1 hs; rw [z2o this.1 this.2] at k; cases k
  · rw [h, z0o.2 ⟨k1, k2⟩]; rfl
  · rw [h]
    cases hs : sameB b.loc b.key a with
    | false => rfl
    | true => have := z0o.1 hs; rw [z2o this.1.symm this.2.symm] at k; cases k
theorem z8f (a b : BA) : -1 <= cmpB a b /\ cmpB a b <= 1 := by
  rcases z9l a b with h | h | h <;> rw [h.1] <;> decide
theorem z5z {l : List Ent} (h : ∀ (i : Nat) a b, l[i]? = some a -> l[i + 1]? = some b -> ahB a b = true) : Srt l := by
  induction l with
  | nil => exact List.Pairwise.nil
  | cons y r ih =>
    have hr : Srt r := ih (fun i a b ha hb => h (i + 1) a b (by simpa using ha) (by simpa using hb))
    unfold Srt
    rw [List.pairwise_cons];refine ⟨fun e he => ?_, hr⟩
    cases r with
    | nil => cases he
    | cons z q =>
      have c := h 0 y z rfl rfl
      rcases List.mem_cons.1 he with rfl | he
      · exact c
      · unfold Srt at hr
        rw [List.pairwise_cons] at hr;exact z5i c (hr.1 e he)
theorem z6s {l : List Ent} (h : Srt l) {i : Nat} {a b : Ent} (ha : l[i]? = some a) (hb : l[i + 1]? = some b) : ahB a b = true := by
  obtain ⟨h1, rfl⟩ := List.getElem?_eq_some_iff.1 ha;obtain ⟨h2, rfl⟩ := List.getElem?_eq_some_iff.1 hb;exact List.pairwise_iff_getElem.1 h i (i + 1) h1 h2 (by omega)
end Go.Proofs.YtdkkkeoicekdgaaGreatDoor.Ca

end

section

namespace Go.Proofs.YtdkkkeoicekdgaaGreatDoor.Ca
open Go.RowKit Go.Proofs.YtdkkkeoicekdgaaGreatDoor
def CE (x : Ent) (cs : List Value) : Prop := cs = [.string x.loc, .string x.key, .string x.pat]
abbrev enV (x : Ent) : Value := .agg #[.string x.loc, .string x.key, .string x.pat]
abbrev enC (x : Ent) : Array Value := #[.string x.loc, .string x.key, .string x.pat]
abbrev SlE (w : World) (S : Nat -> Prop) (v : Value) (xs : List Ent) : Prop := Sl 3 CE w S v xs
theorem SlE.old {w w' : World} {v : Value} {xs : List Ent} (h : SlE w (Old w) v xs) (hb : Below w.heap.size w w') : SlE w' (Old w') v xs := Sl.keep h (fun b hb2 => hb.block b hb2) (fun _ h => Nat.lt_of_lt_of_le h hb.size) (fun _ _ h => h)
theorem SlE.same {w w' : World} {v : Value} {xs : List Ent} (h : SlE w (Old w) v xs) (hb : Same w w') : SlE w' (Old w') v xs := h.old hb.below
theorem At.e {w : World} {b o : Nat} {x : Ent} (h : At 3 CE w b o x) : w.cell? ⟨b, o, none⟩ = some (.string x.loc) /\ w.cell? ⟨b, o + 1, none⟩ = some (.string x.key) /\ w.cell? ⟨b, o + 2, none⟩ = some (.string x.pat) := by
 obtain ⟨cs, -, rfl, hc⟩ := h;exact ⟨hc 0 _ rfl, hc 1 _ rfl, hc 2 _ rfl⟩
theorem SlE.len {w : World} {S : Nat -> Prop} {a : Option Addr} {n cap : Nat} {xs : List Ent} (h : SlE w S (.slice a n cap) xs) : n = xs.length /\ xs.length <= cap /\ cap <= 9223372036854775807 := by
 obtain ⟨a', b, hv, h1, h2, -⟩ := h
 injection hv with _ h3 h4
 exact ⟨h3, by omega, by omega⟩
theorem SlE.get {w : World} {S : Nat -> Prop} {a : Option Addr} {n cap : Nat} {xs : List Ent} (h : SlE w S (.slice a n cap) xs) {j : Nat} {x : Ent} (hx : xs[j]? = some x) :
  ∃ b off, a = some ⟨b, off, none⟩ /\ S b /\ w.cell? ⟨b, off + j * 3, none⟩ = some (.string x.loc) /\ w.cell? ⟨b, off + j * 3 + 1, none⟩ = some (.string x.key) /\ w.cell? ⟨b, off + j * 3 + 2, none⟩ = some (.string x.pat) := by
 obtain ⟨a', d, hv, h1, h2, h3⟩ := h
 injection hv with h4 _ _
 subst h4;obtain ⟨b, off, ha, hb, c⟩ := h3 (fun e => by subst e; simp at hx);exact ⟨b, off, ha, hb, At.e (c j x hx)⟩
theorem SlE.take {w : World} {S : Nat -> Prop} {a : Option Addr} {n cap : Nat} {xs : List Ent} (h : SlE w S (.slice a n cap) xs) (k : Nat) (hk : k <= xs.length) : SlE w S (.slice a k cap) (xs.take k) := by
 obtain ⟨a', g, hv, h1, h2, h3⟩ := h
 injection hv with h4 _ h5
 subst h4 h5;refine ⟨a, cap, by rw [List.length_take, Nat.min_eq_left hk], by rw [List.length_take]; omega, h2, fun hne => ?_⟩;obtain ⟨b, c, ha, hb, d⟩ := h3 (fun e => by subst e; simp at hne);refine ⟨b, c, ha, hb, fun j x hj => d j x ?_⟩;have f := (List.getElem?_eq_some_iff.1 hj).1;rw [List.length_take] at f;rw [List.getElem?_take, if_pos (by omega)] at hj;exact hj
def flat : List Ent -> List Value
 | [] => []
 | x :: r => .string x.loc :: .string x.key :: .string x.pat :: flat r
theorem z0p : ∀ xs : List Ent, (flat xs).length = xs.length * 3
 | [] => rfl
 | x :: r => by simp only [flat, List.length_cons, z0p r]; omega
theorem z1b : ∀ xs ys : List Ent, flat (xs ++ ys) = flat xs ++ flat ys
 | [], _ => rfl
 | x :: r, ys => by simp only [List.cons_append, flat, z1b r ys]
theorem z42 : ∀ (xs : List Ent) (k : Nat), flat (xs.take k) = (flat xs).take (k * 3)
 | [], k => by simp [flat]
 | x :: r, 0 => rfl
 | x :: r, k + 1 => by
  rw [show (k + 1) * 3 = k * 3 + 1 + 1 + 1 by omega];simp only [List.take_succ_cons, flat, z42 r k]
theorem z43 : ∀ (xs : List Ent) (k : Nat), flat (xs.drop k) = (flat xs).drop (k * 3)
 | [], k => by simp [flat]
 | x :: r, 0 => rfl
 | x :: r, k + 1 => by
  rw [show (k + 1) * 3 = k * 3 + 1 + 1 + 1 by omega];simp only [List.drop_succ_cons, flat, z43 r k]
theorem zea : ∀ {xs : List Ent} {j : Nat} {x : Ent}, xs[j]? = some x -> (flat xs)[j * 3]? = some (.string x.loc) /\ (flat xs)[j * 3 + 1]? = some (.string x.key) /\ (flat xs)[j * 3 + 2]? = some (.string x.pat)
 | y :: r, 0, x, h => by
  obtain rfl := Option.some.inj h;exact ⟨rfl, rfl, rfl⟩
 | y :: r, j + 1, x, h => by
  have := zea (xs := r) (j := j) (x := x) (by simpa using h);rw [show (j + 1) * 3 = j * 3 + 3 by omega]
  simpa [flat] using this
theorem z2m : ∀ {xs : List Ent}, ∀ u ∈ flat xs, u.oneCell' = true
 | x :: r, u, h => by
  simp only [flat, List.mem_cons] at h
  rcases h with rfl | rfl | rfl | h
  ·rfl
  ·rfl
  ·rfl
  ·exact z2m u h
theorem zi2 {xs : List Ent} {i : Nat} {u : Value} (h : (flat xs)[i]? = some u) : ∃ j x, xs[j]? = some x /\ (i = j * 3 /\ u = .string x.loc ∨ i = j * 3 + 1 /\ u = .string x.key ∨ i = j * 3 + 2 /\ u = .string x.pat) := by
 have a : i < (flat xs).length := (List.getElem?_eq_some_iff.1 h).1;rw [z0p] at a;have hj : xs[i / 3]? = some (xs[i / 3]'(by omega)) := List.getElem?_eq_getElem (by omega);obtain ⟨h0, h1, h2⟩ := zea hj;refine ⟨i / 3, _, hj, ?_⟩
 have h3 : i = i / 3 * 3 ∨ i = i / 3 * 3 + 1 ∨ i = i / 3 * 3 + 2 := by omega
 rcases h3 with e | e | e
 ·rw [<- e, h] at h0; exact .inl ⟨e, Option.some.inj h0⟩
 ·rw [<- e, h] at h1; exact .inr (.inl ⟨e, Option.some.inj h1⟩)
 ·rw [<- e, h] at h2; exact .inr (.inr ⟨e, Option.some.inj h2⟩)
theorem zeb : ∀ xs : List Ent, Cat 3 CE xs (flat xs)
 | [] => rfl
 | x :: r => ⟨[.string x.loc, .string x.key, .string x.pat], flat r, rfl, rfl, rfl, zeb r⟩
theorem SlE.cells {w : World} {S : Nat -> Prop} {a : Addr} {n cap : Nat} {xs : List Ent} (h : SlE w S (.slice (some a) n cap) xs) : ∀ i u, (flat xs)[i]? = some u -> w.cell? (a.add i) = some u := fun i u hu => by
 obtain ⟨j, x, hx, hj⟩ := zi2 hu;obtain ⟨b, c, ha, -, h0, h1, h2⟩ := h.get hx;obtain rfl := Option.some.inj ha;rw [Addr.add_mid]
 rcases hj with ⟨rfl, rfl⟩ | ⟨rfl, rfl⟩ | ⟨rfl, rfl⟩
 ·exact h0
 ·exact h1
 ·exact h2
abbrev Own (w : World) (base : Nat) (v : Value) (xs : List Ent) : Prop := w.ownsRow base 81 3 v xs.length (flat xs)
theorem Own.sl {w : World} {base : Nat} {v : Value} {xs : List Ent} (h : Own w base v xs) : SlE w (Old w) v xs := Sl.of_owns h (zeb xs) (fun _ _ _ hh => (Array.getElem?_eq_some_iff.1 hh).1)
theorem Own.fsh {w : World} {base : Nat} {v : Value} {xs : List Ent} (h : Own w base v xs) : SlE w (Fsh base w) v xs := by
 obtain ⟨a, c, hv, h1, h2, h3⟩ := h.sl;refine ⟨a, c, hv, h1, h2, fun hne => ?_⟩;obtain ⟨b, d, ha, hb, f⟩ := h3 hne;exact ⟨b, d, ha, ⟨(h.lt b (by rw [hv, ha]; rfl)).1, hb⟩, f⟩
theorem ze1 : (Tryz.prog.info? 81).map (fun i => (i.zero, i.size, i.bytes)) = some (some (.agg #[.string ByteArray.empty, .string ByteArray.empty, .string ByteArray.empty]), 3, 48) := by kernel_rfl
structure EnvC (w : World) : Prop where
 env : EnvW w
 max : ∃ m, Lc.MaxW m w
theorem EnvC.below {w w' : World} (h : EnvC w) (hb : Below w.heap.size w w') : EnvC w' := by
 obtain ⟨h1, m, h2⟩ := h;exact ⟨h1.below hb, m, h2.next hb⟩
end Go.Proofs.YtdkkkeoicekdgaaGreatDoor.Ca

end

section

namespace Go.Proofs.YtdkkkeoicekdgaaGreatDoor.Ca
set_option maxHeartbeats 3200000
set_option maxRecDepth 100000
open Go.Lib (hid)
open Go.RowKit Go.Proofs.YtdkkkeoicekdgaaGreatDoor
theorem z5p (a b : BA) (w : World) : Calls Tryz.prog 215 #[.string a, .string b] w fun e w' => e = .returned (.int .i64 (cmpB a b)) /\ w = w' := by
 go_enter Tryz.func215, Tryz.ntmps215
 go_wp2;rw [run_callFunc_extern Tryz.func241 (by kernel_rfl) (by kernel_rfl) (by kernel_rfl) (e := Extern.BytealgCompare.compare) (by kernel_rfl), Lib.run_compareString];simp only [Result.andThen];rw [Oper.upon_value];go_wp2;go_ret;exact ⟨rfl, rfl⟩
theorem z61 (a b : BA) (w : World) : Calls Tryz.prog 184 #[.string a, .string b] w fun e w' => e = .returned (.int .i64 (cmpB a b)) /\ w = w' := by
 go_enter Tryz.func184, Tryz.ntmps184
 go_wp2_with fail
 refine (z5p a b w).mono ?_;rintro e w1 ⟨rfl, rfl⟩;go_wp2;go_ret;exact ⟨rfl, rfl⟩
theorem or_any (x y : Int) (w : World) (g c : Nat) (h0 : w.cell? ⟨g, 0, none⟩ = some (.int .i64 x)) (h1 : w.cell? ⟨g, 1, none⟩ = some (.int .i64 y)) (hx : -1 <= x /\ x <= 1) (hy : -1 <= y /\ y <= 1) :
  Calls Tryz.prog 183 #[.slice (some ⟨g, 0, none⟩) 2 c] w fun e w' => e = .returned (.int .i64 (if x = 0 then y else x)) /\ w = w' := by
 by_cases h00 : x = 0
 ·subst h00
  rw [if_pos rfl]
  cases hyb : (y != 0) with
  | true =>
   go_enter Tryz.func183, Tryz.ntmps183
   go_wp2
   go_loop [8] (fun i => ∃ k : Nat, k <= 1 /\ i = .int .i64 k) (fun i => 2 - (intOf i).toNat)
   case atStart => exact ⟨0, by omega, rfl⟩
   case round =>
    obtain ⟨k, hk, rfl⟩ := hrel
    rcases (show k = 0 ∨ k = 1 by omega) with rfl | rfl
    ·go_wp2
     go_round
     case rel => exact ⟨1, by omega, by go_num⟩
     case measure => simp [intOf]
    ·go_wp2
     go_ret;exact ⟨rfl, rfl⟩
  | false =>
   have a : y = 0 := by simpa using hyb
   subst a
   go_enter Tryz.func183, Tryz.ntmps183
   go_wp2
   go_loop [8] (fun i => ∃ k : Nat, k <= 2 /\ i = .int .i64 k) (fun i => 2 - (intOf i).toNat)
   case atStart => exact ⟨0, by omega, rfl⟩
   case round =>
    obtain ⟨k, hk, rfl⟩ := hrel
    rcases (show k = 0 ∨ k = 1 ∨ k = 2 by omega) with rfl | rfl | rfl
    ·go_wp2
     go_round
     case rel => exact ⟨1, by omega, by go_num⟩
     case measure => simp [intOf]
    ·go_wp2
     go_round
     case rel => exact ⟨2, by omega, by go_num⟩
     case measure => simp [intOf]
    ·go_wp2
     go_ret;exact ⟨rfl, rfl⟩
 ·rw [if_neg h00]
  have b : (x != 0) = true := by simpa using h00
  clear h00
  go_enter Tryz.func183, Tryz.ntmps183
  go_wp2
  go_loop [8] (fun i => i = .int .i64 0) (fun i => 2 - (intOf i).toNat)
  case atStart => exact rfl
  case round =>
   subst hrel;go_wp2;go_ret;exact ⟨rfl, rfl⟩
structure CK (w : World) (A B : Nat) (a b : Ent) (W : World) : Prop where
 ra : Row W A 81 [.string a.loc, .string a.key, .string a.pat]
 rb : Row W B 81 [.string b.loc, .string b.key, .string b.pat]
 below : Below w.heap.size w W
 hA : w.heap.size <= A
theorem CK.step {w W W' : World} {A B : Nat} {a b : Ent} (h : CK w A B a b W) (hb : Below W.heap.size W W') : CK w A B a b W' := ⟨h.ra.below hb, h.rb.below hb, z00 h.below hb, h.hA⟩
theorem CK.cells {w W : World} {A B : Nat} {a b : Ent} (h : CK w A B a b W) : W.cell? ⟨A, 0, none⟩ = some (.string a.loc) /\ W.cell? ⟨A, 1, none⟩ = some (.string a.key) /\ W.cell? ⟨B, 0, none⟩ = some (.string b.loc) /\ W.cell? ⟨B, 1, none⟩ = some (.string b.key) := ⟨h.ra.cell rfl, h.ra.cell rfl, h.rb.cell rfl, h.rb.cell rfl⟩
theorem cmpE_if (a b : Ent) : cmpE a b = if cmpB a.loc b.loc = 0 then cmpB a.key b.key else cmpB a.loc b.loc := rfl
theorem z4u (a b : Ent) (w : World) : Calls Tryz.prog 155 #[enV a, enV b] w fun e w' => e = .returned (.int .i64 (cmpE a b)) /\ Below w.heap.size w w' := by
 have k1 : CK w w.heap.size (w.heap.size + 1) a b ((w.alloc (.cells (enC a) 81)).alloc (.cells (enC b) 81)) := by
  have h2 := z02 (w.alloc (.cells (enC a) 81)) (enC b) 81;rw [World.size_alloc] at h2;exact ⟨(z02 w (enC a) 81).alloc _, h2, z3p _ _ _, Nat.le_refl _⟩
 have k0 := k1.step (W' := ((w.alloc (.cells (enC a) 81)).alloc (.cells (enC b) 81)).drew) (Below.refl _ _).drew;have K0 : Hid (CK w w.heap.size (w.heap.size + 1) a b ((w.alloc (.cells (enC a) 81)).alloc (.cells (enC b) 81)).drew) := hid k0;have d0 := k0.cells;clear k0 k1;have h1 := z8f a.loc b.loc;have h2 := z8f a.key b.key;have HE := hid (cmpE_if a b)
 have d : Hid (∀ W, Hid (CK w w.heap.size (w.heap.size + 1) a b W) -> Calls Tryz.prog 184 #[.string a.loc, .string b.loc] W fun e w' => e = .returned (.int .i64 (cmpB a.loc b.loc)) /\ (w'.cell? ⟨w.heap.size, 0, none⟩ = some (.string a.loc) /\ w'.cell? ⟨w.heap.size, 1, none⟩ = some (.string a.key) /\ w'.cell? ⟨w.heap.size + 1, 0, none⟩ = some (.string b.loc) /\ w'.cell? ⟨w.heap.size + 1, 1, none⟩ = some (.string b.key)) /\ Hid (CK w w.heap.size (w.heap.size + 1) a b w')) :=
  hid (fun W k => (z61 a.loc b.loc W).mono fun e w' ⟨he, hw⟩ => by subst hw; exact ⟨he, k.out.cells, k⟩)
 have f : Hid (∀ W, Hid (CK w w.heap.size (w.heap.size + 1) a b W) -> Calls Tryz.prog 184 #[.string a.key, .string b.key] W fun e w' => e = .returned (.int .i64 (cmpB a.key b.key)) /\ (w'.cell? ⟨w.heap.size, 0, none⟩ = some (.string a.loc) /\ w'.cell? ⟨w.heap.size, 1, none⟩ = some (.string a.key) /\ w'.cell? ⟨w.heap.size + 1, 0, none⟩ = some (.string b.loc) /\ w'.cell? ⟨w.heap.size + 1, 1, none⟩ = some (.string b.key)) /\ Hid (CK w w.heap.size (w.heap.size + 1) a b w')) :=
  hid (fun W k => (z61 a.key b.key W).mono fun e w' ⟨he, hw⟩ => by subst hw; exact ⟨he, k.out.cells, k⟩)
 have c : Hid (∀ W, Hid (CK w w.heap.size (w.heap.size + 1) a b W) -> Calls Tryz.prog 183 #[.slice (some ⟨W.heap.size, 0, none⟩) 2 2] (W.alloc (.cells #[.int .i64 (cmpB a.loc b.loc), .int .i64 (cmpB a.key b.key)] 3)) fun e w' => e = .returned (.int .i64 (cmpE a b)) /\ (w'.cell? ⟨w.heap.size, 0, none⟩ = some (.string a.loc) /\ w'.cell? ⟨w.heap.size, 1, none⟩ = some (.string a.key) /\ w'.cell? ⟨w.heap.size + 1, 0, none⟩ = some (.string b.loc) /\ w'.cell? ⟨w.heap.size + 1, 1, none⟩ = some (.string b.key)) /\ Hid (CK w w.heap.size (w.heap.size + 1) a b w')) :=
  hid (fun W k => by
   have r := z02 W #[.int .i64 (cmpB a.loc b.loc), .int .i64 (cmpB a.key b.key)] 3;have k2 := k.out.step (z04 W (.cells #[.int .i64 (cmpB a.loc b.loc), .int .i64 (cmpB a.key b.key)] 3))
   refine (or_any _ _ _ _ _ (r.cell rfl) (r.cell rfl) h1 h2).mono fun e w' ⟨he, hw⟩ => ?_
   subst hw
   exact ⟨by rw [he, HE.out], k2.cells, hid k2⟩)
 obtain ⟨x, HX⟩ := nmd (cmpB a.loc b.loc);obtain ⟨y, HY⟩ := nmd (cmpB a.key b.key);rw [<- HX.out] at d c;rw [<- HY.out] at f c;clear h1 h2 HE;obtain ⟨al, ak, ap⟩ := a;obtain ⟨bl, bk, bp⟩ := b;simp only at d0 d f c K0
 go_enter Tryz.func155, Tryz.ntmps155
 go_wp2
 go_region_held3 (fun W => W.cell? ⟨w.heap.size, 0, none⟩ = some (.string al) /\ W.cell? ⟨w.heap.size, 1, none⟩ = some (.string ak) /\ W.cell? ⟨w.heap.size + 1, 0, none⟩ = some (.string bl) /\ W.cell? ⟨w.heap.size + 1, 1, none⟩ = some (.string bk)) (first | go_keep | assumption)
  (first
   | (go_at_call_of 184 (Value.string al); refine (d.out _ ?_).mono ?_; assumption; rintro e U1 ⟨rfl, h, i⟩)
   | (go_at_call_of 184 (Value.string ak); refine (f.out _ ?_).mono ?_; assumption; rintro e U2 ⟨rfl, j, l⟩)
   | (go_at_call 183; refine (c.out _ ?_).mono ?_; assumption; rintro e U3 ⟨rfl, m, g⟩)
   | fail)
 all_goals go_wp2
 all_goals go_ret
 all_goals exact ⟨rfl, g.out.below⟩
end Go.Proofs.YtdkkkeoicekdgaaGreatDoor.Ca

end
