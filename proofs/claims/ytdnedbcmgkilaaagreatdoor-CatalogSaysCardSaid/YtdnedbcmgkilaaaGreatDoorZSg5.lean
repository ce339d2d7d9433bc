/- Numbers of keys. -/
import Derived.Lib.ItoaNum
import Derived.Lib.ItoaLen
import Derived.Lib.AtoiAll
import Derived.Test.YtdnedbcmgkilaaaGreatDoorZSg31
import Derived.Test.YtdnedbcmgkilaaaGreatDoorZSg35

section

namespace Go.Proofs.YtdnedbcmgkilaaaGreatDoor
set_option maxHeartbeats 1600000
set_option maxRecDepth 100000
open Go.Lib (hid)
open Go.RowKit
theorem z4l (n : Nat) (c : UInt8) : nx n c = n * 10 + (c.toNat - 48) := by unfold nx; rfl
theorem zir : ∀ (r : List UInt8) (n : Nat), n <= r.foldl nx n
 | [], _ => Nat.le_refl _
 | c :: r, n => Nat.le_trans (by rw [z4l]; omega) (zir r (nx n c))
theorem z29 {c : UInt8} : isDig c = true ↔ 48 <= c.toNat /\ c.toNat <= 57 := by unfold isDig; simp
theorem dec_step {n : Nat} {c : UInt8} (hn : 0 < n) (hc : isDig c = true) : Lib.decDigits (nx n c) = Lib.decDigits n ++ [c] := by
 have h := z29.1 hc
 rw [z4l, Lib.decDigits, dif_neg (by omega), show (n * 10 + (c.toNat - 48)) / 10 = n by omega, show (n * 10 + (c.toNat - 48)) % 10 = c.toNat - 48 by omega, show 48 + (c.toNat - 48) = c.toNat by omega, UInt8.ofNat_toNat]
theorem zj8 {c : UInt8} (hc : isDig c = true) : Lib.decDigits (c.toNat - 48) = [c] := by
 have h := z29.1 hc
 rw [Lib.decDigits, dif_pos (by omega), show 48 + (c.toNat - 48) = c.toNat by omega, UInt8.ofNat_toNat]
theorem zj7 : ∀ (r : List UInt8) (n : Nat), 0 < n -> r.all isDig = true -> Lib.decDigits (r.foldl nx n) = Lib.decDigits n ++ r
 | [], n, _, _ => by simp
 | c :: r, n, hn, h => by
  rw [List.all_cons, Bool.and_eq_true] at h
  rw [List.foldl_cons, zj7 r (nx n c) (by rw [z4l]; omega) h.2, dec_step hn h.1]; simp
theorem ze4 {l : List UInt8} (h : numB l = true) : l = Lib.decDigits (l.foldl nx 0) /\ l.foldl nx 0 <= 1000000 := by
 cases l with
 | nil => cases h
 | cons c r =>
  unfold numB at h
  simp only [Bool.and_eq_true, decide_eq_true_eq] at h
  obtain ⟨⟨⟨h1, h2⟩, h3⟩, h4⟩ := h
  rw [List.all_cons, Bool.and_eq_true] at h1
  refine ⟨?_, h4⟩
  have hd := z29.1 h1.1
  have e0 : nx 0 c = c.toNat - 48 := by rw [z4l]; omega
  rw [List.foldl_cons, e0]
  by_cases h48 : c = 48
  ·subst h48
   have : r = [] := by simpa using h2
   subst this
   rw [List.foldl_nil]; exact (zj8 h1.1).symm
  ·have : c.toNat ≠ 48 := fun e => h48 (UInt8.toNat_inj.1 e)
   rw [zj7 r _ (by omega) h1.2, zj8 h1.1]; rfl
theorem nd_le : ∀ (k u : Nat), u < 10 ^ (k + 1) -> Lib.nDigits u <= k + 1
 | 0, u, h => by rw [Lib.nDigits_small (by simpa using h)]; omega
 | k + 1, u, h => by
  by_cases h10 : u < 10
  ·rw [Lib.nDigits_small h10]; omega
  ·rw [Lib.nDigits_big h10]
   have := nd_le k (u / 10) (by rw [Nat.pow_succ] at h; omega)
   omega
theorem zbs {d : Nat} (h : d < 10) : isDig (UInt8.ofNat (48 + d)) = true /\ (UInt8.ofNat (48 + d)).toNat = 48 + d := by
 have : (UInt8.ofNat (48 + d)).toNat = 48 + d := by rw [UInt8.toNat_ofNat']; omega
 exact ⟨by rw [z29, this]; omega, this⟩
theorem zj9 (u : Nat) : (Lib.decDigits u).all isDig = true /\ (Lib.decDigits u).foldl nx 0 = u /\ 1 <= (Lib.decDigits u).length /\ (0 < u -> (Lib.decDigits u).head? ≠ some 48) := by
 induction u using Nat.strongRecOn with
 | _ u ih =>
  rw [Lib.decDigits]
  by_cases h : u < 10
  ·rw [dif_pos h]
   obtain ⟨h1, h2⟩ := zbs h
   refine ⟨by simpa using h1, ?_, by simp, fun h0 hh => ?_⟩
   ·rw [List.foldl_cons, List.foldl_nil, z4l, h2]; omega
   ·simp only [List.head?_cons, Option.some.injEq] at hh
    rw [hh] at h2
    have : (48 : UInt8).toNat = 48 := rfl
    omega
  ·rw [dif_neg h]
   obtain ⟨i1, i2, i3, i4⟩ := ih (u / 10) (by omega)
   obtain ⟨h1, h2⟩ := zbs (show u % 10 < 10 by omega)
   refine ⟨by rw [List.all_append, i1]; simpa using h1, ?_, by simp, fun _ => ?_⟩
   ·rw [List.foldl_append, i2, List.foldl_cons, List.foldl_nil, z4l, h2]; omega
   ·rw [List.head?_append]
    cases hh : (Lib.decDigits (u / 10)).head? with
    | none => rw [List.head?_eq_none_iff] at hh; rw [hh] at i3; simp at i3
    | some c => rw [hh] at i4; simpa using i4 (by omega)
theorem dec_numB {v : Nat} (h : v <= 1000000) : numB (Lib.decDigits v) = true := by
 obtain ⟨h1, h2, h3, h4⟩ := zj9 v
 have h5 : (Lib.decDigits v).length <= 7 := by rw [Lib.decDigits_length]; exact nd_le 6 v (by omega)
 by_cases h0 : v = 0
 ·subst h0; rw [Lib.decDigits_one (by omega)]; decide
 ·have h4 := h4 (by omega)
  generalize Lib.decDigits v = l at *
  cases l with
  | nil => simp at h3
  | cons c r =>
   unfold numB
   simp only [Bool.and_eq_true, decide_eq_true_eq]
   refine ⟨⟨⟨h1, ?_⟩, by simp at h5; omega⟩, by omega⟩
   have : c ≠ 48 := fun e => h4 (by rw [e]; rfl)
   simp [this]
theorem zb1 : ∀ (r : List UInt8) (n : Nat), r.all isDig = true -> r.foldl nx n <= 1000000 -> Lib.parseUint10 n r = .ok (r.foldl nx n)
 | [], n, _, _ => rfl
 | c :: r, n, h, hm => by
  rw [List.all_cons, Bool.and_eq_true] at h
  have hd := z29.1 h.1
  rw [List.foldl_cons] at hm
  have g1 := zir r (nx n c)
  have e0 := z4l n c
  rw [Lib.parseUint10, if_pos hd, if_neg (by omega), if_neg (by omega), List.foldl_cons, <- e0]
  exact zb1 r (nx n c) h.2 hm
theorem z5l {l : List UInt8} (h : numB l = true) : Lib.atoiAll l = .ok ((l.foldl nx 0 : Nat) : Int) /\ Lib.itoa ((l.foldl nx 0 : Nat) : Int) = l := by
 obtain ⟨h1, h2⟩ := ze4 h
 refine ⟨?_, by unfold Lib.itoa; rw [if_neg (by omega)]; exact h1.symm⟩
 cases l with
 | nil => cases h
 | cons c r =>
  unfold numB at h
  simp only [Bool.and_eq_true] at h
  have ha := h.1.1.1
  have ha2 := ha
  rw [List.all_cons, Bool.and_eq_true] at ha
  have hd := z29.1 ha.1
  unfold Lib.atoiAll
  simp only
  rw [if_neg (by omega)]
  unfold Lib.parseMag
  rw [if_neg (by simp), zb1 _ 0 ha2 h2]
  simp only
  rw [if_neg (by omega), if_neg (by omega), if_neg (by omega)]
theorem itoa_num {l : List UInt8} {v : Int} (h0 : 0 <= v) (h1 : v <= 1000000) (h : Lib.itoa v = l) : numB l = true := by
 subst h
 unfold Lib.itoa
 rw [if_neg (by omega)]
 exact dec_numB (by omega)
structure EnvW (w : World) : Prop where
 tab : Lib.TabIs Tryz.prog w "internal/strconv.uint64pow10" .u64 Lib.pow10Tab
 syn : ∃ tp p, w.cell? ⟨4, 0, none⟩ = some (.iface tp p)
 rng : ∃ tp p, w.cell? ⟨5, 0, none⟩ = some (.iface tp p)
theorem zjf {w : World} {b i : Nat} {v : Value} (h : w.cell? ⟨b, i, none⟩ = some v) : b < w.heap.size := by
 rcases Nat.lt_or_ge b w.heap.size with h' | h'
 ·exact h'
 ·simp [World.cell?, Array.getElem?_eq_none h'] at h
theorem EnvW.below {w w' : World} (h : EnvW w) (hb : Below w.heap.size w w') : EnvW w' := by
 obtain ⟨h1, ⟨t2, p2, h2⟩, ⟨t3, p3, h3⟩⟩ := h
 exact ⟨Lib.tabBelow_of_tabIs h1 w' hb, ⟨t2, p2, (World.cell?_of_block (hb.block 4 (zjf h2))).trans h2⟩, ⟨t3, p3, (World.cell?_of_block (hb.block 5 (zjf h3))).trans h3⟩⟩
def Env (w : World) (rb : Nat) : Prop := ∃ W, EnvW W /\ Below W.heap.size W w /\ W.heap.size <= rb
theorem Env.env {w : World} {rb : Nat} (h : Env w rb) : EnvW w := by
 obtain ⟨W, h1, h2, -⟩ := h
 exact h1.below h2
theorem Env.fr {w w' : World} {rb : Nat} (h : Env w rb) (hf : Fr (· = rb) w w') : Env w' rb := by
 obtain ⟨W, h1, h2, h3⟩ := h
 exact ⟨W, h1, Fr.to_below h2 hf h3, h3⟩
theorem Env.below {w w' : World} {rb : Nat} (h : Env w rb) (hf : Below w.heap.size w w') : Env w' rb := by
 obtain ⟨W, h1, h2, h3⟩ := h
 exact ⟨W, h1, h2.trans (hf.mono h2.size), h3⟩
theorem Env.same {w w' : World} {rb : Nat} (h : Env w rb) (hf : Same w w') : Env w' rb := h.below hf.below
theorem zdg (w : World) (t : ByteArray) : Below w.heap.size w (Lib.bytesWorld w 5 t) := Lib.bytesWorld_below w 5 t
theorem z2t (w : World) (k : Nat) (os : Array Obj) : Below w.heap.size w (Sort.grow (w.drewN k) os) :=
 ⟨rfl, rfl, rfl, by show w.heap.size <= (w.heap ++ os).size; simp, fun i hi => by show (w.heap ++ os)[i]? = _; rw [Array.getElem?_append_left hi]⟩
theorem itoa_str {v : Int} {t : BA} (h : Lib.itoa v = t.data.toList) : (⟨(Lib.itoa v).toArray⟩ : BA) = t := by rw [h]
theorem z2q (t : BA) (w : World) (ht : t.size <= 140737488351232) (hE : EnvW w) : Calls Tryz.prog 220 #[.string t] w fun e w' => e = .returned (.bool (numB t.data.toList)) /\ Below w.heap.size w w' := by
 rcases ha : Lib.atoiAll t.data.toList with v | _ | _
 ·have HC := hid (Tryz.strconv_Atoi_ok t (by omega) v ha w)
  have HEN := hid hE
  clear hE
  have hbw : ∀ w', (w' = w ∨ ∃ t, w' = Lib.bytesWorld w 5 t) -> Below w.heap.size w w' := fun w' h => by
   rcases h with rfl | ⟨t, rfl⟩
   ·exact Below.refl _ _
   ·exact zdg w t
  by_cases h0 : 0 <= v
  ·by_cases h1 : v <= 1000000
   ·have HI := hid (fun w1 (h : EnvW w1) => Tryz.strconv_Itoa v (by omega) (by omega) w1 h.tab)
    by_cases hi : Lib.itoa v = t.data.toList
    ·have HE := hid (itoa_num h0 h1 hi)
     have HS := hid (itoa_str hi)
     clear ha hi
     go_enter Tryz.func220, Tryz.ntmps220
     go_wp2_with fail
     refine HC.out.mono ?_
     rintro e w1 ⟨rfl, hw1⟩
     have HB := hid (hbw w1 hw1)
     clear hw1 HC hbw
     go_wp2_with fail
     refine (HI.out _ (HEN.out.below HB.out)).mono ?_
     rintro e w2 ⟨rfl, k, os, rfl⟩
     have HB2 := hid (z00 HB.out (z2t w1 k os))
     generalize Go.Sort.grow (w1.drewN k) os = w3 at *
     rw [HS.out]
     go_wp2
     go_ret
     exact ⟨by rw [HE.out]; rfl, HB2.out⟩
    ·have HE : Hid (numB t.data.toList = false) := hid (by
      cases hb : numB t.data.toList with
      | false => rfl
      | true =>
       obtain ⟨q1, q2⟩ := z5l hb
       rw [q1] at ha
       injection ha with ha
       rw [ha] at q2
       exact absurd q2 hi)
     have hB : ((⟨(Lib.itoa v).toArray⟩ : BA).toList == t.toList) = false := by
      rw [beq_eq_false_iff_ne, ByteArray.toList_eq, ByteArray.toList_eq]; exact hi
     clear ha hi
     go_enter Tryz.func220, Tryz.ntmps220
     go_wp2_with fail
     refine HC.out.mono ?_
     rintro e w1 ⟨rfl, hw1⟩
     have HB := hid (hbw w1 hw1)
     clear hw1 HC hbw
     go_wp2_with fail
     refine (HI.out _ (HEN.out.below HB.out)).mono ?_
     rintro e w2 ⟨rfl, k, os, rfl⟩
     have HB2 := hid (z00 HB.out (z2t w1 k os))
     generalize Go.Sort.grow (w1.drewN k) os = w3 at *
     generalize (⟨(Lib.itoa v).toArray⟩ : BA) = R at *
     go_wp2
     go_ret
     exact ⟨by rw [HE.out]; first | rfl | (simp [hB]), HB2.out⟩
   ·have HE : Hid (numB t.data.toList = false) := hid (by
     cases hb : numB t.data.toList with
     | false => rfl
     | true =>
      obtain ⟨q1, q2⟩ := z5l hb
      have := (ze4 hb).2
      rw [q1] at ha
      injection ha with ha
      omega)
    clear ha
    go_enter Tryz.func220, Tryz.ntmps220
    go_wp2_with fail
    refine HC.out.mono ?_
    rintro e w1 ⟨rfl, hw1⟩
    have HB := hid (hbw w1 hw1)
    clear hw1 HC hbw
    go_wp2
    go_ret
    exact ⟨by rw [HE.out]; rfl, HB.out⟩
  ·have HE : Hid (numB t.data.toList = false) := hid (by
    cases hb : numB t.data.toList with
    | false => rfl
    | true =>
     obtain ⟨q1, q2⟩ := z5l hb
     rw [q1] at ha
     injection ha with ha
     omega)
   clear ha
   go_enter Tryz.func220, Tryz.ntmps220
   go_wp2_with fail
   refine HC.out.mono ?_
   rintro e w1 ⟨rfl, hw1⟩
   have HB := hid (hbw w1 hw1)
   clear hw1 HC hbw
   go_wp2
   go_ret
   exact ⟨by rw [HE.out]; rfl, HB.out⟩
 ·have HE : Hid (numB t.data.toList = false) := hid (by
   cases hb : numB t.data.toList with
   | false => rfl
   | true => rw [(z5l hb).1] at ha; cases ha)
  obtain ⟨tp, p, hv⟩ := hE.syn
  have HC := hid (Tryz.strconv_Atoi_syntax t (by omega) ⟨fun e => by (rw [ha] at e; cases e), fun v e => by (rw [ha] at e; cases e)⟩ _ w hv (.inr ⟨tp, p, rfl⟩))
  clear ha hE hv
  go_enter Tryz.func220, Tryz.ntmps220
  go_wp2_with fail
  refine HC.out.mono ?_
  rintro e w1 ⟨M, rfl, -, -, hb⟩
  have HB := hid hb
  clear hb HC
  go_wp2
  go_ret
  exact ⟨by rw [HE.out]; rfl, HB.out⟩
 ·have HE : Hid (numB t.data.toList = false) := hid (by
   cases hb : numB t.data.toList with
   | false => rfl
   | true => rw [(z5l hb).1] at ha; cases ha)
  obtain ⟨tp, p, hv⟩ := hE.rng
  have HC := hid (Tryz.strconv_Atoi_range t (by omega) ha _ w hv (.inr ⟨tp, p, rfl⟩))
  clear ha hE hv
  go_enter Tryz.func220, Tryz.ntmps220
  go_wp2_with fail
  refine HC.out.mono ?_
  rintro e w1 ⟨M, rfl, -, -, hb⟩
  have HB := hid hb
  clear hb HC
  go_wp2
  go_ret
  exact ⟨by rw [HE.out]; rfl, HB.out⟩
end Go.Proofs.YtdnedbcmgkilaaaGreatDoor

end

section

namespace Go.Proofs.YtdnedbcmgkilaaaGreatDoor
set_option maxHeartbeats 3200000
set_option maxRecDepth 100000
open Go.Lib (hid)
open Go.RowKit
theorem Sl.at_ {α : Type} {k : Nat} {C : α -> List Value -> Prop} {w : World} {S : Nat -> Prop} {a : Option Addr} {n cap : Nat} {xs : List α} (h : Sl k C w S (.slice a n cap) xs) {j : Nat} {x : α} (hj : xs[j]? = some x) : ∃ b off, a = some ⟨b, off, none⟩ /\ S b /\ At k C w b (off + j * k) x := by
 obtain ⟨a', cap', hv, -, -, hx⟩ := h
 injection hv with h1 h2 h3
 subst h1
 obtain ⟨b, off, ha, hb, hat⟩ := hx (by intro e; subst e; simp at hj)
 exact ⟨b, off, ha, hb, hat j x hj⟩
theorem Sl.form3 {α : Type} {k : Nat} {C : α -> List Value -> Prop} {w : World} {S : Nat -> Prop} {v : Value} {xs : List α} (h : Sl k C w S v xs) : ∃ a cap, v = .slice a xs.length cap := by
 obtain ⟨a, cap, hv, -⟩ := h
 exact ⟨a, cap, hv⟩
theorem At.p {w : World} {S : Nat -> Prop} {n b o : Nat} {x : Pt} (h : At 4 (CP w S n) w b o x) : w.cell? ⟨b, o, none⟩ = some (.int .i64 x.k) /\ w.cell? ⟨b, o + 1, none⟩ = some (.string x.t) /\ w.cell? ⟨b, o + 2, none⟩ = some (.string x.n) /\ ∃ m a cap, n = m + 1 /\ w.cell? ⟨b, o + 3, none⟩ = some (.slice a x.cs.length cap) /\ SlC w S m (.slice a x.cs.length cap) x.cs := by
 obtain ⟨cs, -, hx, hc⟩ := h
 obtain ⟨m, v, rfl, rfl, hs⟩ := hx.out
 obtain ⟨a, cap, rfl⟩ := hs.form3
 exact ⟨hc 0 _ rfl, hc 1 _ rfl, hc 2 _ rfl, m, a, cap, rfl, hc 3 _ rfl, hs⟩
theorem At.c {w : World} {S : Nat -> Prop} {n b o : Nat} {x : Cs} (h : At 2 (CC w S n) w b o x) : w.cell? ⟨b, o, none⟩ = some (.string x.key) /\ ∃ a cap, w.cell? ⟨b, o + 1, none⟩ = some (.slice a x.kids.length cap) /\ SlP w S n (.slice a x.kids.length cap) x.kids := by
 obtain ⟨cs, -, ⟨v, rfl, hs⟩, hc⟩ := h
 obtain ⟨a, cap, rfl⟩ := hs.form3
 exact ⟨hc 0 _ rfl, a, cap, hc 1 _ rfl, hs⟩
abbrev z3b (cb db vb : Nat) : Value := .func (.func 157) #[] #[.pointer (some ⟨cb, 0, none⟩), .pointer (some ⟨db, 0, none⟩), .pointer (some ⟨vb, 0, none⟩)]
structure VEnv (M cb db vb c d : Nat) (w : World) : Prop where
 cnt : Row w cb 3 [.int .i64 c]
 dep : Row w db 3 [.int .i64 d]
 vis : Row w vb 183 [z3b cb db vb]
 n1 : cb ≠ db
 n2 : vb ≠ cb
 n3 : vb ≠ db
 le : M <= cb /\ M <= db /\ M <= vb
section
variable {M cb db vb c d : Nat} {w w' : World}
theorem VEnv.alloc (h : VEnv M cb db vb c d w) (o : Obj) : VEnv M cb db vb c d (w.alloc o) := ⟨h.cnt.alloc o, h.dep.alloc o, h.vis.alloc o, h.n1, h.n2, h.n3, h.le⟩
theorem VEnv.set (h : VEnv M cb db vb c d w) (c' d' : Nat) : VEnv M cb db vb c' d' ((w.setCell ⟨cb, 0, none⟩ (.int .i64 c')).setCell ⟨db, 0, none⟩ (.int .i64 d')) :=
 ⟨(h.cnt.set 0 (.int .i64 c')).keep (Below.heap_setCell _ _ _ _ h.n1), Row.set (cs := [.int .i64 d]) (h.dep.keep (Below.heap_setCell _ _ _ _ h.n1.symm)) 0 (.int .i64 d'), h.vis.keep ((Below.heap_setCell _ _ _ _ h.n3).trans (Below.heap_setCell _ _ _ _ h.n2)), h.n1, h.n2, h.n3, h.le⟩
end
abbrev XX (cb db : Nat) (k : Nat) : Prop := k = cb ∨ k = db
abbrev Lt (M : Nat) (b : Nat) : Prop := b < M
theorem SlP.low {M cb db n : Nat} {w w' : World} {v : Value} {xs : List Pt} (h : SlP w (Lt M) n v xs) (hM : M <= w.heap.size) (hf : Fr (XX cb db) w w') (hc : M <= cb /\ M <= db) : SlP w' (Lt M) n v xs := h.keep (fun b hb => hf.block b (Nat.lt_of_lt_of_le hb hM) (fun e => by unfold Lt at hb; rcases e with e | e <;> omega)) (fun _ h => h)
theorem SlC.low {M cb db n : Nat} {w w' : World} {v : Value} {xs : List Cs} (h : SlC w (Lt M) n v xs) (hM : M <= w.heap.size) (hf : Fr (XX cb db) w w') (hc : M <= cb /\ M <= db) : SlC w' (Lt M) n v xs := h.keep (fun b hb => hf.block b (Nat.lt_of_lt_of_le hb hM) (fun e => by unfold Lt at hb; rcases e with e | e <;> omega)) (fun _ h => h)
def zdm (n : Nat) : Prop := ∀ (M cb db vb c d br : Nat) (w : World) (a : Option Addr) (cap : Nat) (xs : List Pt), VEnv M cb db vb c d w -> SlP w (Lt M) n (.slice a xs.length cap) xs -> c <= 1000 -> cntPs xs <= 2000 -> br + cntPs xs <= 4000 -> d <= 4000 ->
 Calls Tryz.prog 157 #[.slice a xs.length cap, .int .i64 br, .pointer (some ⟨cb, 0, none⟩), .pointer (some ⟨db, 0, none⟩), .pointer (some ⟨vb, 0, none⟩)] w fun e w' =>
  e = .returned (.tuple #[]) /\ (∃ C D, VEnv M cb db vb C D w' /\ Vi c d br (cntPs xs) (dpPs xs) C D /\ D <= 4000) /\ Fr (XX cb db) w w'
theorem visit_of (n : Nat) (HV : ∀ m, m < n -> zdm m) : zdm n := by
 intro M cb db vb c d br w a cap xs env hxs hc hcn hbr hd
 have hlc := env.cnt.lt
 have hld := env.dep.lt
 have hlv := env.vis.lt
 have hM := env.le
 have hMw : M <= w.heap.size := by omega
 have hsub := z1x xs
 have c0 := env.cnt.cell (i := 0) rfl
 have c1 := env.dep.cell (i := 0) rfl
 have z0 := env.cnt.thaw 0
 have z1 := env.dep.thaw 0
 obtain ⟨L, HL⟩ : ∃ L, Hid (L = xs.length) := ⟨_, hid rfl⟩
 rw [<- HL.out] at hxs ⊢
 have hL2 : L <= 2000 := by have := HL.out; omega
 obtain ⟨C0, HC0⟩ : ∃ C0, Hid (C0 = c + L) := ⟨_, hid rfl⟩
 obtain ⟨D0, HD0⟩ : ∃ D0, Hid (D0 = max d br) := ⟨_, hid rfl⟩
 have hci : ((c : Int) + (L : Int)) = (C0 : Int) := by have := HC0.out; omega
 have hdi : max (d : Int) (br : Int) = (D0 : Int) := by have := HD0.out; omega
 have hcd1 : (w.setCell ⟨cb, 0, none⟩ (.int .i64 C0)).cell? ⟨db, 0, none⟩ = some (.int .i64 d) := (World.cell?_setCell_other w _ _ _ (fun e => by injection e with e; exact env.n1 e)).trans c1
 have HE0 : Hid (VEnv M cb db vb C0 D0 ((w.setCell ⟨cb, 0, none⟩ (.int .i64 C0)).setCell ⟨db, 0, none⟩ (.int .i64 D0))) := hid (env.set C0 D0)
 have HF0 : Hid (Fr (XX cb db) w ((w.setCell ⟨cb, 0, none⟩ (.int .i64 C0)).setCell ⟨db, 0, none⟩ (.int .i64 D0))) := hid (((Fr.refl _ w).setCell (p := ⟨cb, 0, none⟩) (.inr (.inl rfl)) _).setCell (p := ⟨db, 0, none⟩) (.inr (.inr rfl)) _)
 have HX0 := hid (hxs.low hMw HF0.out ⟨hM.1, hM.2.1⟩)
 have HVI : Hid (Vi c d br (L + 0) 0 C0 D0) := hid (by have := HC0.out; have := HD0.out; exact ⟨by omega, by omega, fun _ => ⟨by omega, by omega⟩⟩)
 have HD40 : Hid (D0 <= 4000) := hid (by have := HD0.out; omega)
 have hC0b : C0 <= 3000 := by have := HC0.out; omega
 have HSUB : Hid (cntPs xs = L + subs xs) := hid (by have := HL.out; omega)
 have HVV := hid HV
 clear env hxs HV
 go_enter Tryz.func157, Tryz.ntmps157
 go_wp2
 generalize hW : (w.setCell ⟨cb, 0, none⟩ (.int .i64 C0)).setCell ⟨db, 0, none⟩ (.int .i64 D0) = W2 at *
 clear hW hcd1 c0 c1 z0 z1 hci hdi
 go_loopw [20] (fun i wr => ∃ k C D : Nat, k <= L /\ i = .int .i64 k /\ Hid (VEnv M cb db vb C D wr) /\ Hid (Fr (XX cb db) w wr) /\ Hid (SlP wr (Lt M) n (.slice a L cap) xs) /\ Hid (Vi c d br (L + subs (xs.take k)) (dpPs (xs.take k)) C D) /\ Hid (D <= 4000)) (fun i _ => L - (intOf i).toNat)
 case atStart => exact ⟨0, C0, D0, Nat.zero_le _, rfl, HE0, HF0, HX0, hid (by simpa [subs, dpPs] using HVI.out), HD40⟩
 case round =>
  obtain ⟨k, C, D, hk, rfl, HE, HF, HX, HI, HD⟩ := hrel
  clear HE0 HF0 HX0 HVI HD40
  by_cases hlt : k < L
  ·obtain ⟨x, hx⟩ : ∃ x, xs[k]? = some x := ⟨_, List.getElem?_eq_getElem (by have := HL.out; omega)⟩
   obtain ⟨b, off, rfl, hb, hat⟩ := HX.out.at_ hx
   obtain ⟨h0, h1, h2, m, a1, p1, hnm, h3, hcs⟩ := hat.p
   have HXG := hid hx
   have HSA := hid (subs_at hx)
   have HST := hid (zac hx)
   have HDT := hid (zbq hx)
   obtain ⟨pk, pt, pn, cs⟩ := x
   simp only [Pt.k, Pt.t, Pt.n, Pt.cs] at h0 h1 h2 h3 hcs HSA HST HDT
   have hMr : M <= wr.heap.size := by have := HF.out.size; omega
   obtain ⟨L1, HL1⟩ : ∃ L1, Hid (L1 = cs.length) := ⟨_, hid rfl⟩
   rw [<- HL1.out] at h3 hcs
   have R := z04 wr #[.int .i64 pk, .string pt, .string pn, .slice a1 L1 p1] 141
   have g3 := R.cell (i := 3) rfl
   have HE1 : Hid (VEnv M cb db vb C D (wr.alloc (.cells #[.int .i64 pk, .string pt, .string pn, .slice a1 L1 p1] 141))) := hid (HE.out.alloc _)
   have HF1 : Hid (Fr (XX cb db) w (wr.alloc (.cells #[.int .i64 pk, .string pt, .string pn, .slice a1 L1 p1] 141))) := hid (HF.out.alloc _)
   have HX1 : Hid (SlP (wr.alloc (.cells #[.int .i64 pk, .string pt, .string pn, .slice a1 L1 p1] 141)) (Lt M) n (.slice (some ⟨b, off, none⟩) L cap) xs) := hid (HX.out.low hMr ((Fr.refl _ wr).alloc _) ⟨hM.1, hM.2.1⟩)
   have HC1 : Hid (SlC (wr.alloc (.cells #[.int .i64 pk, .string pt, .string pn, .slice a1 L1 p1] 141)) (Lt M) m (.slice a1 L1 p1) cs) := hid (hcs.low hMr ((Fr.refl _ wr).alloc _) ⟨hM.1, hM.2.1⟩)
   have HNM := hid hnm
   clear R hat hcs hx hb hnm
   go_wp2
   generalize wr.alloc (.cells #[.int .i64 pk, .string pt, .string pn, .slice a1 L1 p1] 141) = w3 at *
   clear g3 h0 h1 h2 h3
   have hLc : L1 <= 9223372036854775807 := by obtain ⟨_, _, hv, h1, h2, -⟩ := HC1.out; injection hv with _ e1 e2; omega
   go_loopw [27] (fun i wr => ∃ j C D : Nat, j <= L1 /\ i = .int .i64 j /\ Hid (VEnv M cb db vb C D wr) /\ Hid (Fr (XX cb db) w wr) /\ Hid (SlP wr (Lt M) n (.slice (some ⟨b, off, none⟩) L cap) xs) /\ Hid (SlC wr (Lt M) m (.slice a1 L1 p1) cs) /\ Hid (Vi c d br (L + subs (xs.take k) + cntCs (cs.take j)) (max (dpPs (xs.take k)) (dpCs (cs.take j))) C D) /\ Hid (D <= 4000)) (fun i _ => L1 - (intOf i).toNat)
   case atStart => exact ⟨0, C, D, Nat.zero_le _, rfl, HE1, HF1, HX1, HC1, hid (by simpa [cntCs, dpCs] using HI.out), HD⟩
   case round =>
    obtain ⟨j, C2, D2, hj, rfl, HE2, HF2, HX2, HC2, HI2, HD2⟩ := hrel
    clear HE1 HF1 HX1 HC1 HI HE HF HX HD
    by_cases hlj : j < L1
    ·obtain ⟨y, hy⟩ : ∃ y, cs[j]? = some y := ⟨_, List.getElem?_eq_getElem (by have := HL1.out; omega)⟩
     obtain ⟨b2, off2, rfl, hb2, hat2⟩ := HC2.out.at_ hy
     obtain ⟨i0, a3, p3, i1, hks⟩ := hat2.c
     have HKA := hid (zi3 hy)
     have HCT := hid (z5x hy)
     have HDC := hid (zbr hy)
     have hMr2 : M <= wr.heap.size := by have := HF2.out.size; omega
     obtain ⟨key, kids⟩ := y
     simp only [Cs.key, Cs.kids] at i0 i1 hks HKA HCT HDC
     have hkc := zd5 kids
     have hka := HKA.out
     have hsa := HSA.out
     have hsb := HSUB.out
     have hvi := HI2.out
     have hCb : C2 <= 4000 := by have := hvi.2.1; omega
     obtain ⟨L3, HL3⟩ : ∃ L3, Hid (L3 = kids.length) := ⟨_, hid rfl⟩
     have hks2 := hks
     rw [<- HL3.out] at i1
     have R := z04 wr #[.string key, .slice a3 L3 p3] 185
     have g0 := R.cell (i := 0) rfl
     have g1 := R.cell (i := 1) rfl
     have HE3 : Hid (VEnv M cb db vb C2 D2 (wr.alloc (.cells #[.string key, .slice a3 L3 p3] 185))) := hid (HE2.out.alloc _)
     have HF3 : Hid (Fr (XX cb db) w (wr.alloc (.cells #[.string key, .slice a3 L3 p3] 185))) := hid (HF2.out.alloc _)
     have HA := (Fr.refl (XX cb db) wr).alloc (.cells #[.string key, .slice a3 L3 p3] 185)
     have HX3 : Hid (SlP (wr.alloc (.cells #[.string key, .slice a3 L3 p3] 185)) (Lt M) n (.slice (some ⟨b, off, none⟩) L cap) xs) := hid (HX2.out.low hMr2 HA ⟨hM.1, hM.2.1⟩)
     have HC3 : Hid (SlC (wr.alloc (.cells #[.string key, .slice a3 L3 p3] 185)) (Lt M) m (.slice (some ⟨b2, off2, none⟩) L1 p1) cs) := hid (HC2.out.low hMr2 HA ⟨hM.1, hM.2.1⟩)
     have HK3 : Hid (SlP (wr.alloc (.cells #[.string key, .slice a3 L3 p3] 185)) (Lt M) m (.slice a3 kids.length p3) kids) := hid (hks.low hMr2 HA ⟨hM.1, hM.2.1⟩)
     clear R hat2 hks hks2 hy hb2 HA HX2 HC2 HF2
     have k0 := HE3.out.cnt.cell (i := 0) rfl
     have k2 := HE3.out.vis.cell (i := 0) rfl
     by_cases hbig : 1000 < C2
     ·have hB : ((C2 : Int) > 1000) := by omega
      go_wp2
      exact bodyPost_ret (v := .tuple #[]) (by simp [results, Tryz.results157, go_sem]) rfl ⟨rfl, ⟨C2, D2, HE3.out, by rw [hsb]; exact hvi.over hbig (by omega), HD2.out⟩, HF3.out⟩
     ·obtain ⟨B1, HB1⟩ : ∃ B1, Hid (B1 = br + 1) := ⟨_, hid rfl⟩
      have hbi : ((br : Int) + 1) = (B1 : Int) := by have := HB1.out; omega
      have hb1 := HB1.out
      have HCALL := hid (HVV.out m (by have := HNM.out; omega) M cb db vb C2 D2 B1 _ a3 p3 kids HE3.out HK3.out (by omega) (by omega) (by omega) HD2.out)
      rw [<- HL3.out] at HCALL
      clear hb1
      go_wp2_with fail
      generalize wr.alloc (.cells #[.string key, .slice a3 L3 p3] 185) = w4 at *
      refine HCALL.out.mono ?_
      rintro e w5 ⟨rfl, ⟨C5, D5, he5, hi5, hd5⟩, hf5⟩
      have hMw4 : M <= w4.heap.size := by have := HF3.out.size; omega
      have HE5 := hid he5
      have HF5 : Hid (Fr (XX cb db) w w5) := hid (HF3.out.trans hf5)
      have HX5 := hid (HX3.out.low hMw4 hf5 ⟨hM.1, hM.2.1⟩)
      have HC5 := hid (HC3.out.low hMw4 hf5 ⟨hM.1, hM.2.1⟩)
      have HI5 := hid (hvi.step (by omega) (by rw [HB1.out] at hi5; exact hi5))
      have HD5 := hid hd5
      clear he5 hi5 hd5 hf5 HCALL HF3 HX3 HC3 HE3 HK3
      go_wp2
      go_roundw
      case rel => exact ⟨j + 1, C5, D5, by omega, by go_num, HE5, HF5, HX5, HC5, hid (by rw [HCT.out, HDC.out, <- Nat.add_assoc, <- Nat.max_assoc]; exact HI5.out), HD5⟩
      case measure => simp [intOf]; omega
    ·have hcj : cs.take j = cs := List.take_of_length_le (by have := HL1.out; omega)
     have HI3 : Hid (Vi c d br (L + subs (xs.take (k + 1))) (dpPs (xs.take (k + 1))) C2 D2) := hid (by rw [HST.out, HDT.out, <- Nat.add_assoc]; have := HI2.out; rw [hcj] at this; exact this)
     clear hcj HI2
     go_wp2
     go_roundw
     case rel => exact ⟨k + 1, C2, D2, by omega, by go_num, HE2, HF2, HX2, HI3, HD2⟩
     case measure => simp [intOf]; omega
  ·have hkn : xs.take k = xs := List.take_of_length_le (by have := HL.out; omega)
   have HIE : Hid (Vi c d br (cntPs xs) (dpPs xs) C D) := hid (by have := HI.out; rw [hkn, <- HSUB.out] at this; exact this)
   clear hkn
   go_wp2
   go_end0
   exact ⟨rfl, ⟨C, D, HE.out, HIE.out, HD.out⟩, HF.out⟩
theorem zg5 : ∀ n, zdm n := fun n => by
 induction n using Nat.strongRecOn with
 | _ n ih => exact visit_of n ih
end Go.Proofs.YtdnedbcmgkilaaaGreatDoor

end
