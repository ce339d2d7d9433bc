/- Package format: Locale, Language, Chain. -/
import Derived.Laws.Cover1
import Derived.Lib.AppendZerosOnto
import Derived.Test.YtdkkkeoicekdgaaGreatDoorZEg14

section

namespace Go.Proofs.YtdkkkeoicekdgaaGreatDoor.Lc
set_option maxHeartbeats 3200000
open Go.Lib (hid)
open Go.RowKit Go.Lib
theorem z4v (n : Nat) (w : World) : Calls Tryz.prog 187 #[.int .i32 n] w fun e w' => e = .returned (.bool (!sgnN n)) /\ w' = w := by
 rcases (show n < 48 ∨ (48 <= n /\ n <= 57) ∨ (57 < n /\ n < 65) ∨ (65 <= n /\ n <= 90) ∨ (90 < n /\ n < 97) ∨ (97 <= n /\ n <= 122) ∨ 122 < n by omega) with h | h | h | h | h | h | h
 ·have e : sgnN n = false := by unfold sgnN; simp; omega
  rw [e]; clear e
  go_enter Tryz.func187, Tryz.ntmps187
  go_wp2;go_ret;exact ⟨z01 (by first | rfl | (simp; done) | (simp; omega)), rfl⟩
 ·have e : sgnN n = true := by unfold sgnN; simp; omega
  rw [e]; clear e
  go_enter Tryz.func187, Tryz.ntmps187
  go_wp2;go_ret;exact ⟨z01 (by first | rfl | (simp; done) | (simp; omega)), rfl⟩
 ·have e : sgnN n = false := by unfold sgnN; simp; omega
  rw [e]; clear e
  go_enter Tryz.func187, Tryz.ntmps187
  go_wp2;go_ret;exact ⟨z01 (by first | rfl | (simp; done) | (simp; omega)), rfl⟩
 ·have e : sgnN n = true := by unfold sgnN; simp; omega
  rw [e]; clear e
  go_enter Tryz.func187, Tryz.ntmps187
  go_wp2;go_ret;exact ⟨z01 (by first | rfl | (simp; done) | (simp; omega)), rfl⟩
 ·have e : sgnN n = false := by unfold sgnN; simp; omega
  rw [e]; clear e
  go_enter Tryz.func187, Tryz.ntmps187
  go_wp2;go_ret;exact ⟨z01 (by first | rfl | (simp; done) | (simp; omega)), rfl⟩
 ·have e : sgnN n = true := by unfold sgnN; simp; omega
  rw [e]; clear e
  go_enter Tryz.func187, Tryz.ntmps187
  go_wp2;go_ret;exact ⟨z01 (by first | rfl | (simp; done) | (simp; omega)), rfl⟩
 ·have e : sgnN n = false := by unfold sgnN; simp; omega
  rw [e]; clear e
  go_enter Tryz.func187, Tryz.ntmps187
  go_wp2;go_ret;exact ⟨z01 (by first | rfl | (simp; done) | (simp; omega)), rfl⟩
theorem z5g (s : ByteArray) (w : World) : Calls Tryz.prog 186 #[.string s, .func (.func 187) #[] #[]] w fun e w' => e = .returned (.bool (!(s.data.toList.all sgn))) /\ Below w.heap.size w w' := by
 have h := Tryz.strings_ContainsFunc 187 #[] (enters_of Tryz.func187 (by kernel_rfl) rfl) (fun n => !sgnN n) s w (fun W x _ => (z4v x W).mono fun e w' h => ⟨h.1, 0, h.2⟩);rw [zbb] at h;exact h
theorem xs_len (s : ByteArray) : (splitB ⟨#[45]⟩ 0 (countB s ⟨#[45]⟩) s).length = countB s ⟨#[45]⟩ + 1 := splitB_all ⟨#[45]⟩ (by decide) 0 _ s rfl
theorem count_le (s : ByteArray) : countB s ⟨#[45]⟩ <= s.size := countB_le ⟨#[45]⟩ (by decide) s.size s (Nat.le_refl _)
def onB (p : ByteArray) : Bool := z3m p.data.toList
theorem loc_big (s : ByteArray) (h : ¬ s.size <= 32) : locB s.data.toList = false := by
 unfold locB; rw [decide_eq_false (by rw [z3t]; exact h)]; rfl
theorem zh7 (s : ByteArray) (h : s.size <= 32) : locB s.data.toList = (splitB ⟨#[45]⟩ 0 (countB s ⟨#[45]⟩) s).all onB := by
 unfold locB; rw [decide_eq_true (by rw [z3t]; exact h), Bool.true_and, <- za3]; rfl
theorem all_at {xs : List ByteArray} {k : Nat} (h : k < xs.length) : (xs.drop k).all onB = (onB xs[k] && (xs.drop (k + 1)).all onB) := by
 rw [List.drop_eq_getElem_cons h, List.all_cons]
theorem onB_nil : onB ⟨#[]⟩ = false := rfl
theorem onB_ne {x : ByteArray} (h : x.toList.isEmpty = false) : onB x = x.data.toList.all sgn := by
 rw [ByteArray.toList_eq] at h
 unfold onB z3m; rw [h]; rfl
theorem zfh (s : ByteArray) (m : Int) (w : World) (hm : MaxW m w) : Calls Tryz.prog 157 #[.string s] w fun e w' => e = .returned (.bool (locB s.data.toList)) /\ Below w.heap.size w w' := by
 by_cases hl : s.size <= 32
 ·have HS := hid (Tryz.strings_Split s ⟨#[45]⟩ m w (by omega) hm (by decide))
  have HL := hid (zh7 s hl);have hx := xs_len s;have hc := count_le s
  generalize splitB ⟨#[45]⟩ 0 (countB s ⟨#[45]⟩) s = xs at *
  rw [<- hx] at HS
  have hn : xs.length <= 33 := by omega
  have HR := hid (zge w xs 9);have c := hid (z03 w (.cells (strs xs).toArray 9));have HZ := hid c.out.size;clear hx hc hm
  go_enter Tryz.func157, Tryz.ntmps157
  go_wp2_with fail
  refine HS.out.mono ?_;rintro e w1 ⟨rfl, rfl⟩
  generalize w.alloc (.cells (strs xs).toArray 9) = w1 at *
  clear HS;go_wp2
  go_loopw [11] (fun i wr => ∃ k : Nat, k <= xs.length /\ i = .int .i64 k /\ Hid (Below w1.heap.size w1 wr) /\ Hid (locB s.data.toList = (xs.drop k).all onB)) (fun i _ => xs.length - (intOf i).toNat)
  case atStart => exact ⟨0, Nat.zero_le _, rfl, hid (Below.refl _ _), HL⟩
  case round =>
   obtain ⟨k, hk, rfl, HB, HQ⟩ := hrel
   by_cases hlt : k < xs.length
   ·have f : xs ≠ [] := by intro h; subst h; simp at hlt
    obtain ⟨g1, a, -, g⟩ := (HR.out.below HB.out).2 f
    have j : g1 = w.heap.size := by injection a with a; injection a with a; exact a.symm
    subst j;have h1 := g k hlt;have HA := hid (HQ.out.trans (all_at hlt))
    generalize xs[k] = x at *
    clear g f HQ a
    by_cases hx : x = ⟨#[]⟩
    ·subst hx
     have HF : Hid (locB s.data.toList = false) := hid (by rw [HA.out, onB_nil]; rfl);go_wp2;go_ret;exact ⟨z01 HF.out.symm, c.out.trans (HB.out.mono HZ.out)⟩
    ·have l : x.toList.isEmpty = false := by
      rw [ByteArray.toList_eq]
      cases hl : x.data.toList with
      | nil => exact absurd (ba_ext (b := ⟨#[]⟩) (by rw [hl])) hx
      | cons => rfl
     have HP := hid (z5g x wr);have HO := hid (onB_ne l);clear hx
     cases ha : x.data.toList.all sgn with
     | false =>
      rw [ha] at HP HO;have HF : Hid (locB s.data.toList = false) := hid (by rw [HA.out, HO.out]; rfl);clear ha
      go_wp2_with fail
      refine HP.out.mono ?_;rintro e w2 ⟨rfl, hb⟩;have d := hid (z00 HB.out hb);clear hb;go_wp2;go_ret;exact ⟨z01 HF.out.symm, c.out.trans (d.out.mono HZ.out)⟩
     | true =>
      rw [ha] at HP HO;have HF : Hid (locB s.data.toList = (xs.drop (k + 1)).all onB) := hid (by rw [HA.out, HO.out]; rfl);clear ha
      go_wp2_with fail
      refine HP.out.mono ?_;rintro e w2 ⟨rfl, hb⟩;have d := hid (z00 HB.out hb);clear hb;go_wp2;go_roundw
      case rel => exact ⟨k + 1, by omega, by go_num, d, HF⟩
      case measure => simp [intOf]; omega
   ·have HF : Hid (locB s.data.toList = true) := hid (by rw [HQ.out, List.drop_eq_nil_of_le (by omega)]; rfl)
    go_wp2;go_ret;exact ⟨z01 HF.out.symm, c.out.trans (HB.out.mono HZ.out)⟩
 ·have HF := hid (loc_big s hl)
  clear hm
  go_enter Tryz.func157, Tryz.ntmps157
  go_wp2;go_ret;exact ⟨z01 HF.out.symm, Below.refl _ _⟩
end Go.Proofs.YtdkkkeoicekdgaaGreatDoor.Lc

end

section

namespace Go.Proofs.YtdkkkeoicekdgaaGreatDoor.Lc
open Go.RowKit Go.Lib
end Go.Proofs.YtdkkkeoicekdgaaGreatDoor.Lc

end

section

namespace Go.Proofs.YtdkkkeoicekdgaaGreatDoor.Ca
open Go.Proofs.YtdkkkeoicekdgaaGreatDoor
abbrev BA := ByteArray
theorem baExt {a b : BA} (h : a.toList = b.toList) : a = b := by
 rw [ByteArray.toList_eq, ByteArray.toList_eq] at h;exact ByteArray.ext (Array.toList_inj.1 h)
theorem bl_irr : ∀ x : List UInt8, Op.bytesLess x x = false
 | [] => rfl
 | a :: x => by rw [Op.bytesLess, bl_irr x]; simp
theorem zex : ∀ x y z : List UInt8, Op.bytesLess x y = true -> Op.bytesLess y z = true -> Op.bytesLess x z = true
 | [], [], _, h, _ => by simp [Op.bytesLess] at h
 | [], _ :: _, [], _, h => by simp [Op.bytesLess] at h
 | [], _ :: _, _ :: _, _, _ => rfl
 | _ :: _, [], _, h, _ => by simp [Op.bytesLess] at h
 | _ :: _, _ :: _, [], _, h => by simp [Op.bytesLess] at h
 | a :: x, b :: y, c :: z, h, k => by
  rw [Op.bytesLess] at h k ⊢;simp only [Bool.or_eq_true, Bool.and_eq_true, decide_eq_true_eq, beq_iff_eq] at h k ⊢
  rcases h with h | ⟨rfl, h⟩
  ·rcases k with k | ⟨rfl, k⟩
   ·exact .inl (UInt8.lt_trans h k)
   ·exact .inl h
  ·rcases k with k | ⟨rfl, k⟩
   ·exact .inl k
   ·exact .inr ⟨rfl, zex x y z h k⟩
theorem bl_tri : ∀ x y : List UInt8, Op.bytesLess x y = false -> Op.bytesLess y x = false -> x = y
 | [], [], _, _ => rfl
 | [], _ :: _, h, _ => by simp [Op.bytesLess] at h
 | _ :: _, [], _, h => by simp [Op.bytesLess] at h
 | a :: x, b :: y, h, k => by
  rw [Op.bytesLess] at h k;simp only [Bool.or_eq_false_iff, Bool.and_eq_false_iff, decide_eq_false_iff_not, beq_eq_false_iff_ne] at h k
  have c : a = b := by
   have h1 := h.1;have h2 := k.1;rw [UInt8.lt_iff_toNat_lt] at h1 h2;exact UInt8.toNat_inj.1 (by omega)
  subst c
  have h3 : Op.bytesLess x y = false := by
   rcases h.2 with h | h
   ·exact absurd rfl h
   ·exact h
  have h4 : Op.bytesLess y x = false := by
   rcases k.2 with h | h
   ·exact absurd rfl h
   ·exact h
  rw [bl_tri x y h3 h4]
def ltB (a b : BA) : Bool := Op.bytesLess a.toList b.toList
theorem zcj (a : BA) : ltB a a = false := bl_irr _
theorem zas {a b c : BA} (h : ltB a b = true) (k : ltB b c = true) : ltB a c = true := zex _ _ _ h k
theorem zh4 {a b : BA} (h : ltB a b = false) (k : ltB b a = false) : a = b := baExt (bl_tri _ _ h k)
structure Ent where
 loc : BA
 key : BA
 pat : BA
def isKc (c : UInt8) : Bool := (decide (97 <= c.toNat) && decide (c.toNat <= 122)) || (decide (65 <= c.toNat) && decide (c.toNat <= 90)) || (decide (48 <= c.toNat) && decide (c.toNat <= 57)) || c == 46 || c == 95 || c == 45
def keyB (l : List UInt8) : Bool := decide (1 <= l.length) && decide (l.length <= 32) && l.all isKc
def patB (l : List UInt8) : Bool := decide ((z0r l).2.1 = 0)
def locOK (l : List UInt8) : Bool := l.isEmpty || Lc.locB l
def mayB (e : Ent) : Bool := locOK e.loc.data.toList && keyB e.key.data.toList && patB e.pat.data.toList
def ahB (a b : Ent) : Bool := ltB a.loc b.loc || (decide (a.loc = b.loc) && ltB a.key b.key)
theorem ahB_irr (a : Ent) : ahB a a = false := by simp [ahB, zcj]
theorem z5o {a b c : Ent} (h : ahB a b = true) (k : ahB b c = true) : ahB a c = true := by
 unfold ahB at *
 simp only [Bool.or_eq_true, Bool.and_eq_true, decide_eq_true_eq] at *
 rcases h with h | ⟨h, h'⟩
 ·rcases k with k | ⟨k, k'⟩
  ·exact .inl (zas h k)
  ·exact .inl (k ▸ h)
 ·rcases k with k | ⟨k, k'⟩
  ·exact .inl (h ▸ k)
  ·exact .inr ⟨h.trans k, zas h' k'⟩
theorem zj3 {a b : Ent} (h : ahB a b = false) (k : ahB b a = false) : a.loc = b.loc /\ a.key = b.key := by
 unfold ahB at *
 simp only [Bool.or_eq_false_iff, Bool.and_eq_false_iff, decide_eq_false_iff_not] at *
 have h1 := zh4 h.1 k.1;refine ⟨h1, ?_⟩
 rcases h.2 with h2 | h2
 ·exact absurd h1 h2
 ·rcases k.2 with k2 | k2
  ·exact absurd h1.symm k2
  ·exact zh4 h2 k2
theorem z2n {a b : Ent} (h : a.loc = b.loc) (k : a.key = b.key) : ahB a b = false := by unfold ahB; rw [h, k, zcj, zcj]; simp
theorem zd1 {a b : Ent} (h : ahB a b = true) : ahB b a = false := by
 cases hb : ahB b a with
 | false => rfl
 | true => have := z5o h hb; rw [ahB_irr] at this; cases this
def sameB (loc key : BA) (e : Ent) : Bool := decide (e.loc = loc /\ e.key = key)
def findC (l : List Ent) (loc key : BA) : Option Ent := l.find? (sameB loc key)
def Srt (l : List Ent) : Prop := l.Pairwise (fun a b => ahB a b = true)
structure Rgt (l : List Ent) : Prop where
 len : l.length <= 200
 may : ∀ e, e ∈ l -> mayB e = true
 srt : Srt l
open Classical in
noncomputable def z0o (l : List Ent) : Nat := if 200 < l.length then 2 else if (∀ e, e ∈ l -> mayB e = true) /\ Srt l then 0 else 110
theorem z22 {l : List Ent} : z0o l = 0 ↔ Rgt l := by
 unfold z0o
 split
 ·exact ⟨fun h => by omega, fun h => by have := h.len; omega⟩
 ·split
  ·rename_i h1 h2
   exact ⟨fun _ => ⟨by omega, h2.1, h2.2⟩, fun _ => rfl⟩
  ·rename_i h1 h2
   exact ⟨fun h => by omega, fun h => absurd ⟨h.may, h.srt⟩ h2⟩
def insC (x : Ent) : List Ent -> List Ent
 | [] => [x]
 | y :: r => if ahB x y then x :: y :: r else y :: insC x r
def dropC (loc key : BA) (l : List Ent) : List Ent := l.filter (fun e => !sameB loc key e)
def putC (x : Ent) (l : List Ent) : List Ent := insC x (dropC x.loc x.key l)
structure Chg where
 drop : Bool
 e : Ent
abbrev Ans := Except Nat (List Ent)
def oneC (l : List Ent) (c : Chg) : Ans :=
 if c.drop then
  if c.e.pat ≠ ⟨#[]⟩ then .error 110 else if (findC l c.e.loc c.e.key).isNone then .error 60 else .ok (dropC c.e.loc c.e.key l)
 else if mayB c.e = false then .error 110 else if 200 < (putC c.e l).length then .error 2 else .ok (putC c.e l)
def foldC : List Ent -> List Chg -> Ans
 | l, [] => .ok l
 | l, c :: r => match oneC l c with
  | .ok l' => foldC l' r
  | .error k => .error k
noncomputable def z17 (l : List Ent) (cs : List Chg) : Ans := if z0o l ≠ 0 then .error (z0o l) else if 20 < cs.length then .error 2 else foldC l cs
theorem z0p {loc key : BA} {e : Ent} : sameB loc key e = true ↔ e.loc = loc /\ e.key = key := by unfold sameB; simp
theorem z9h {l : List Ent} (h : Srt l) (loc key : BA) : Srt (dropC loc key l) := List.Pairwise.filter _ h
theorem z6o {l : List Ent} {loc key : BA} {e : Ent} : e ∈ dropC loc key l ↔ e ∈ l /\ ¬ (e.loc = loc /\ e.key = key) := by
 unfold dropC
 rw [List.mem_filter]
 constructor
 ·rintro ⟨h1, h2⟩
  exact ⟨h1, fun hh => by rw [z0p.2 hh] at h2; cases h2⟩
 ·rintro ⟨h1, h2⟩
  refine ⟨h1, ?_⟩
  cases hs : sameB loc key e with
  | false => rfl
  | true => exact absurd (z0p.1 hs) h2
theorem zcp {x : Ent} : ∀ {l : List Ent} {e : Ent}, e ∈ insC x l ↔ e = x ∨ e ∈ l
 | [], e => by simp [insC]
 | y :: r, e => by
  rw [insC]
  split
  ·simp
  ·rw [List.mem_cons, zcp, List.mem_cons]
   constructor
   ·rintro (h | h | h)
    ·exact .inr (.inl h)
    ·exact .inl h
    ·exact .inr (.inr h)
   ·rintro (h | h | h)
    ·exact .inr (.inl h)
    ·exact .inl h
    ·exact .inr (.inr h)
theorem zhf {x : Ent} : ∀ {l : List Ent}, Srt l -> (∀ e, e ∈ l -> ¬ (e.loc = x.loc /\ e.key = x.key)) -> Srt (insC x l)
 | [], _, _ => by rw [insC]; exact List.pairwise_singleton _ _
 | y :: r, h, hn => by
  rw [insC]
  unfold Srt at h
  rw [List.pairwise_cons] at h
  split
  ·rename_i ha
   unfold Srt
   rw [List.pairwise_cons];refine ⟨fun e he => ?_, List.pairwise_cons.2 h⟩
   rcases List.mem_cons.1 he with rfl | he
   ·exact ha
   ·exact z5o ha (h.1 e he)
  ·rename_i ha
   have hy : ahB y x = true := by
    cases hyx : ahB y x with
    | true => rfl
    | false =>
     have := zj3 hyx (by simpa using ha);exact absurd this (hn y (by simp))
   unfold Srt
   rw [List.pairwise_cons];refine ⟨fun e he => ?_, zhf h.2 (fun e he => hn e (by simp [he]))⟩
   rcases zcp.1 he with rfl | he
   ·exact hy
   ·exact h.1 e he
theorem put_mem {x : Ent} {l : List Ent} {e : Ent} : e ∈ putC x l ↔ e = x ∨ (e ∈ l /\ ¬ (e.loc = x.loc /\ e.key = x.key)) := by
 unfold putC
 rw [zcp, z6o]
theorem put_srt {x : Ent} {l : List Ent} (h : Srt l) : Srt (putC x l) := zhf (z9h h _ _) (fun _ he => (z6o.1 he).2)
theorem z78 {l l' : List Ent} {c : Chg} (h : Rgt l) (ho : oneC l c = .ok l') : Rgt l' := by
 unfold oneC at ho
 split at ho
 ·split at ho
  ·cases ho
  ·split at ho
   ·cases ho
   ·cases ho
    exact ⟨Nat.le_trans (List.length_filter_le _ _) h.len, fun e he => h.may e (z6o.1 he).1, z9h h.srt _ _⟩
 ·split at ho
  ·cases ho
  ·rename_i hm
   split at ho
   ·cases ho
   ·cases ho
    refine ⟨by omega, fun e he => ?_, put_srt h.srt⟩
    rcases put_mem.1 he with rfl | he
    ·simpa using hm
    ·exact h.may e he.1
theorem z8e {l l' : List Ent} : ∀ {cs : List Chg}, Rgt l -> foldC l cs = .ok l' -> Rgt l'
 | [], h, ho => by rw [foldC] at ho; cases ho; exact h
 | c :: r, h, ho => by
  rw [foldC] at ho
  cases h1 : oneC l c with
  | ok m => rw [h1] at ho; exact z8e (z78 h h1) ho
  | error k => rw [h1] at ho; cases ho
theorem zb3 {l : List Ent} {loc key : BA} {e : Ent} (h : Srt l) (he : e ∈ l) (h1 : e.loc = loc) (h2 : e.key = key) : findC l loc key = some e := by
 induction l with
 | nil => cases he
 | cons y r ih =>
  unfold Srt at h
  rw [List.pairwise_cons] at h
  unfold findC
  rcases List.mem_cons.1 he with rfl | he
  ·rw [List.find?_cons_of_pos (z0p.2 ⟨h1, h2⟩)]
  ·by_cases hy : sameB loc key y = true
   ·have a := z0p.1 hy
    have := h.1 e he;rw [z2n (a.1.trans h1.symm) (a.2.trans h2.symm)] at this
    cases this
   ·rw [List.find?_cons_of_neg hy]
    exact ih h.2 he
theorem z47 {l : List Ent} {loc key : BA} : findC l loc key = none ↔ ∀ e, e ∈ l -> ¬ (e.loc = loc /\ e.key = key) := by
 unfold findC
 rw [List.find?_eq_none];exact ⟨fun h e he hs => h e he (z0p.2 hs), fun h e he hs => h e he (z0p.1 hs)⟩
theorem zi3 {l : List Ent} {loc key : BA} {e : Ent} (h : findC l loc key = some e) : e ∈ l /\ e.loc = loc /\ e.key = key :=
 ⟨List.mem_of_find?_eq_some h, z0p.1 (List.find?_some (p := sameB loc key) h)⟩
theorem z7i {l : List Ent} {loc key : BA} (h : findC l loc key = none) : dropC loc key l = l := by
 unfold dropC
 rw [List.filter_eq_self];intro e he;have := z47.1 h e he
 cases hs : sameB loc key e with
 | false => rfl
 | true => exact absurd (z0p.1 hs) this

def posE (x : Ent) : List Ent -> Nat
  | [] => 0
  | y :: r => if ahB y x then posE x r + 1 else 0
theorem z8z (x : Ent) : ∀ l : List Ent, posE x l <= l.length
  | [] => Nat.le_refl _
  | y :: r => by
    rw [posE]
    split
    · have := z8z x r; simp; omega
    · exact Nat.zero_le _
theorem z9q {x : Ent} : ∀ {l : List Ent} {j : Nat} {y : Ent}, l[j]? = some y -> j < posE x l -> ahB y x = true
  | [], j, y, h, _ => by simp at h
  | z :: r, j, y, h, hj => by
    rw [posE] at hj
    split at hj
    · rename_i hz
      cases j with
      | zero => obtain rfl : z = y := by simpa using h
                exact hz
      | succ j => exact z9q (l := r) (j := j) (by simpa using h) (by omega)
    · omega
theorem z7e {x : Ent} {l : List Ent} {j : Nat} {y : Ent} (h : l[j]? = some y) (hn : ahB y x = false) : posE x l <= j := by
  by_cases hj : j < posE x l
  · rw [z9q h hj] at hn; cases hn
  · omega
theorem z98 {x : Ent} : ∀ {l : List Ent} {j : Nat} {y : Ent}, Srt l -> l[j]? = some y -> ahB y x = true -> j < posE x l
  | [], j, y, _, h, _ => by simp at h
  | z :: r, j, y, hs, h, ha => by
    unfold Srt at hs
    rw [List.pairwise_cons] at hs;rw [posE]
    cases j with
    | zero =>
      obtain rfl : z = y := by simpa using h
      rw [if_pos ha]; omega
    | succ j =>
      have hy : r[j]? = some y := by simpa using h
      have hz : ahB z x = true := z5o (hs.1 y (List.mem_of_getElem? hy)) ha;rw [if_pos hz];have := z98 (l := r) hs.2 hy ha
      omega
theorem not_at {x : Ent} : ∀ {l : List Ent} {y : Ent}, l[posE x l]? = some y -> ahB y x = false
  | [], y, h => by simp at h
  | z :: r, y, h => by
    rw [posE] at h
    cases hz : ahB z x with
    | true =>
      rw [hz] at h;exact not_at (l := r) (by simpa using h)
    | false =>
      rw [hz] at h
      obtain rfl : z = y := by simpa using h
      exact hz
theorem zj4 {a b c : Ent} (h1 : b.loc = c.loc) (h2 : b.key = c.key) : ahB a b = ahB a c := by unfold ahB; rw [h1, h2]
theorem ahB_left {a b c : Ent} (h1 : b.loc = c.loc) (h2 : b.key = c.key) : ahB b a = ahB c a := by unfold ahB; rw [h1, h2]
def fndE (x : Ent) (l : List Ent) : Bool := match l[posE x l]? with
  | some y => sameB x.loc x.key y
  | none => false
theorem z9g {x e : Ent} {l : List Ent} (hs : Srt l) (h : findC l x.loc x.key = some e) : l[posE x l]? = some e /\ fndE x l = true := by
  obtain ⟨hm, h1, h2⟩ := zi3 h;obtain ⟨j, hj⟩ := List.mem_iff_getElem?.1 hm;have c : posE x l <= j := z7e hj (z2n h1 h2)
  have b : l[posE x l]? = some e := by
    rcases Nat.lt_or_eq_of_le c with hlt | he
    · have d := (List.getElem?_eq_some_iff.1 hj).1
      have hp : l[posE x l]? = some (l[posE x l]'(by omega)) := List.getElem?_eq_getElem (by omega);have f := not_at hp
      have a : ahB (l[posE x l]'(by omega)) e = true := by
        have := List.pairwise_iff_getElem.1 hs (posE x l) j (by omega) d hlt;rw [(List.getElem?_eq_some_iff.1 hj).2] at this;exact this
      rw [zj4 h1 h2, f] at a
      cases a
    · rw [he]; exact hj
  refine ⟨b, ?_⟩
  unfold fndE
  rw [b];exact z0p.2 ⟨h1, h2⟩
theorem zed {x : Ent} {l : List Ent} (h : fndE x l = true) : ∃ y, l[posE x l]? = some y /\ y.loc = x.loc /\ y.key = x.key := by
  unfold fndE at h
  split at h
  · rename_i y hy
    exact ⟨y, hy, z0p.1 h⟩
  · cases h
theorem zi0 {x : Ent} {l : List Ent} (hs : Srt l) (h : fndE x l = false) : findC l x.loc x.key = none := by
  cases hf : findC l x.loc x.key with
  | none => rfl
  | some e => rw [(z9g hs hf).2] at h; cases h
theorem zcs {x : Ent} {l : List Ent} (hs : Srt l) (h : fndE x l = true) : ∃ y, l[posE x l]? = some y /\ findC l x.loc x.key = some y := by
  obtain ⟨y, hy, h1, h2⟩ := zed h;exact ⟨y, hy, zb3 hs (List.mem_of_getElem? hy) h1 h2⟩
theorem zhg {x : Ent} : ∀ {l : List Ent}, (∀ e, e ∈ l -> ¬ (e.loc = x.loc /\ e.key = x.key)) -> insC x l = l.take (posE x l) ++ x :: l.drop (posE x l)
  | [], _ => rfl
  | y :: r, h => by
    rw [insC, posE]
    cases hxy : ahB x y with
    | true =>
      rw [zd1 hxy]
      rfl
    | false =>
      have a : ahB y x = true := by
        cases a : ahB y x with
        | true => rfl
        | false => exact absurd (zj3 a hxy) (h y (by simp))
      rw [a];simp only [Bool.false_eq_true, if_false, if_true, List.take_succ_cons, List.drop_succ_cons, List.cons_append];rw [<- zhg (fun e he => h e (by simp [he]))]
theorem put_new {x : Ent} {l : List Ent} (hs : Srt l) (h : fndE x l = false) : putC x l = l.take (posE x l) ++ x :: l.drop (posE x l) := by
  have hn := zi0 hs h
  unfold putC
  rw [z7i hn];exact zhg (z47.1 hn)
theorem z9j {x : Ent} : ∀ {l : List Ent}, Srt l -> fndE x l = true -> dropC x.loc x.key l = l.take (posE x l) ++ l.drop (posE x l + 1)
  | [], _, h => by cases h
  | y :: r, hs, h => by
    have a := hs
    unfold Srt at a
    rw [List.pairwise_cons] at a
    unfold fndE at h
    rw [posE] at h ⊢
    cases hyx : ahB y x with
    | true =>
      rw [hyx] at h;simp only [if_true, List.getElem?_cons_succ] at h
      have hy : sameB x.loc x.key y = false := by
        cases hh : sameB x.loc x.key y with
        | false => rfl
        | true =>
          have := z0p.1 hh;rw [z2n this.1 this.2] at hyx
          cases hyx
      have ih := z9j (x := x) (l := r) a.2 h
      unfold dropC at ih ⊢
      rw [List.filter_cons_of_pos (by simp [hy]), ih]
      simp
    | false =>
      rw [hyx] at h;have hy : sameB x.loc x.key y = true := h;have b := z0p.1 hy
      have hr : dropC x.loc x.key r = r := z7i (z47.2 (fun e he hh => by
        have := a.1 e he;rw [z2n (b.1.trans hh.1.symm) (b.2.trans hh.2.symm)] at this
        cases this))
      unfold dropC at hr ⊢
      rw [List.filter_cons_of_neg (by simp [hy]), hr]
      simp
theorem put_old {x : Ent} {l : List Ent} (hs : Srt l) (h : fndE x l = true) : putC x l = l.set (posE x l) x := by
  have hd := z9j hs h;obtain ⟨y, hy, h1, h2⟩ := zed h;have c := (List.getElem?_eq_some_iff.1 hy).1
  unfold putC
  have hn : ∀ e, e ∈ dropC x.loc x.key l -> ¬ (e.loc = x.loc /\ e.key = x.key) := fun e he => (z6o.1 he).2
  have hp : posE x (dropC x.loc x.key l) = posE x l := by
    have d := z9h hs x.loc x.key
    have i : posE x l <= posE x (dropC x.loc x.key l) := by
      by_cases h0 : posE x l = 0
      · omega
      · have hj : (dropC x.loc x.key l)[posE x l - 1]? = l[posE x l - 1]? := by
          rw [hd, List.getElem?_append_left (by rw [List.length_take]; omega), List.getElem?_take, if_pos (by omega)]
        have a : l[posE x l - 1]? = some (l[posE x l - 1]'(by omega)) := List.getElem?_eq_getElem (by omega);have := z98 d (hj.trans a) (z9q (x := x) a (by omega))
        omega
    have j : posE x (dropC x.loc x.key l) <= posE x l := by
      by_cases hl : posE x l < (dropC x.loc x.key l).length
      · have hj : (dropC x.loc x.key l)[posE x l]? = l[posE x l + 1]? := by
          rw [hd, List.getElem?_append_right (by rw [List.length_take]; omega), List.length_take, Nat.min_eq_left (by omega), Nat.sub_self, List.getElem?_drop, Nat.add_zero]
        have g : (dropC x.loc x.key l).length = l.length - 1 := by
          rw [hd, List.length_append, List.length_take, List.length_drop]; omega
        have a : l[posE x l + 1]? = some (l[posE x l + 1]'(by omega)) := List.getElem?_eq_getElem (by omega);refine z7e (hj.trans a) ?_;have b : ahB (l[posE x l]'c) (l[posE x l + 1]'(by omega)) = true := List.pairwise_iff_getElem.1 hs _ _ _ _ (by omega);rw [(List.getElem?_eq_some_iff.1 hy).2, ahB_left h1 h2] at b;exact zd1 b
      · have := z8z x (dropC x.loc x.key l)
        omega
    omega
  rw [zhg hn, hp, hd]
  have ht : (l.take (posE x l) ++ l.drop (posE x l + 1)).take (posE x l) = l.take (posE x l) := by
    rw [List.take_append_of_le_length (by rw [List.length_take]; omega), List.take_take, Nat.min_self]
  have f : (l.take (posE x l) ++ l.drop (posE x l + 1)).drop (posE x l) = l.drop (posE x l + 1) := by
    rw [List.drop_append_of_le_length (by rw [List.length_take]; omega)];rw [List.drop_eq_nil_of_le (by rw [List.length_take]; omega), List.nil_append]
  rw [ht, f, List.set_eq_take_append_cons_drop, if_pos c]
theorem cmp_lt : ∀ a b : List UInt8, (Lib.compareBytes a b = -1 /\ Op.bytesLess a b = true) ∨ (Lib.compareBytes a b = 0 /\ a = b) ∨ (Lib.compareBytes a b = 1 /\ Op.bytesLess b a = true)
  | [], [] => .inr (.inl ⟨rfl, rfl⟩)
  | [], _ :: _ => .inl ⟨rfl, rfl⟩
  | _ :: _, [] => .inr (.inr ⟨rfl, rfl⟩)
  | a :: x, b :: y => by
    rw [Lib.compareBytes, Op.bytesLess, Op.bytesLess]
    by_cases h1 : a < b
    · exact .inl ⟨by rw [if_pos h1], by simp [h1]⟩
    · by_cases h2 : b < a
      · exact .inr (.inr ⟨by rw [if_neg h1, if_pos h2], by simp [h2]⟩)
      · have c : a = b := by
          rw [UInt8.lt_iff_toNat_lt] at h1 h2;exact UInt8.toNat_inj.1 (by omega)
        subst c;rw [if_neg h1, if_neg h1]
        rcases cmp_lt x y with ⟨k1, k2⟩ | ⟨k1, k2⟩ | ⟨k1, k2⟩
        · exact .inl ⟨k1, by simp [k2]⟩
        · exact .inr (.inl ⟨k1, by rw [k2]⟩)
        · exact .inr (.inr ⟨k1, by simp [k2]⟩)
def cmpB (a b : BA) : Int := Lib.compareBytes a.data.toList b.data.toList
def cmpE (a b : Ent) : Int := if cmpB a.loc b.loc = 0 then cmpB a.key b.key else cmpB a.loc b.loc
theorem z9n (a b : BA) : (cmpB a b = -1 /\ ltB a b = true) ∨ (cmpB a b = 0 /\ a = b) ∨ (cmpB a b = 1 /\ ltB b a = true) := by
  unfold cmpB ltB
  rw [ByteArray.toList_eq, ByteArray.toList_eq]
  rcases cmp_lt a.data.toList b.data.toList with h | h | h
  · exact .inl h
  · exact .inr (.inl ⟨h.1, ByteArray.ext (Array.toList_inj.1 h.2)⟩)
  · exact .inr (.inr h)
theorem zev (a b : Ent) : (cmpE a b = -1 /\ ahB a b = true) ∨ (cmpE a b = 0 /\ a.loc = b.loc /\ a.key = b.key) ∨ (cmpE a b = 1 /\ ahB b a = true) := by
  unfold cmpE ahB
  rcases z9n a.loc b.loc with ⟨h1, h2⟩ | ⟨h1, h2⟩ | ⟨h1, h2⟩
  · exact .inl ⟨by rw [h1]; rfl, by rw [h2]; rfl⟩
  · rw [if_pos h1]
    rcases z9n a.key b.key with ⟨k1, k2⟩ | ⟨k1, k2⟩ | ⟨k1, k2⟩
    · exact .inl ⟨k1, by simp [h2, k2]⟩
    · exact .inr (.inl ⟨k1, h2, k2⟩)
    · exact .inr (.inr ⟨k1, by simp [h2, k2]⟩)
  · exact .inr (.inr ⟨by rw [h1]; rfl, by rw [h2]; rfl⟩)
theorem zcy (a b : Ent) : decide (cmpE a b < 0) = ahB a b := by
  rcases zev a b with ⟨h, k⟩ | ⟨h, k1, k2⟩ | ⟨h, k⟩
  · rw [h, k]; rfl
  · rw [h, z2n k1 k2]; rfl
  · rw [h, zd1 k]; rfl
theorem cmpE_0 (a b : Ent) : (cmpE a b == 0) = sameB b.loc b.key a := by
  rcases zev a b with ⟨h, k⟩ | ⟨h, k1, k2⟩ | ⟨h, k⟩
  · rw [h]
    cases hs : sameB b.loc b.key a with
    | false => rfl
    | true => have := z0p.1 hs; rw [z2n this.1 this.2] at k; cases k
  · rw [h, z0p.2 ⟨k1, k2⟩]; rfl
  · rw [h]
    cases hs : sameB b.loc b.key a with
    | false => rfl
    | true => have := z0p.1 hs; rw [z2n this.1.symm this.2.symm] at k; cases k
theorem z8i (a b : BA) : -1 <= cmpB a b /\ cmpB a b <= 1 := by
  rcases z9n a b with h | h | h <;> rw [h.1] <;> decide
theorem z66 {l : List Ent} (h : ∀ (i : Nat) a b, l[i]? = some a -> l[i + 1]? = some b -> ahB a b = true) : Srt l := by
  induction l with
  | nil => exact List.Pairwise.nil
  | cons y r ih =>
    have hr : Srt r := ih (fun i a b ha hb => h (i + 1) a b (by simpa using ha) (by simpa using hb))
    unfold Srt
    rw [List.pairwise_cons];refine ⟨fun e he => ?_, hr⟩
    cases r with
    | nil => cases he
    | cons z q =>
      have c := h 0 y z rfl rfl
      rcases List.mem_cons.1 he with rfl | he
      · exact c
      · unfold Srt at hr
        rw [List.pairwise_cons] at hr;exact z5o c (hr.1 e he)
theorem z6x {l : List Ent} (h : Srt l) {i : Nat} {a b : Ent} (ha : l[i]? = some a) (hb : l[i + 1]? = some b) : ahB a b = true := by
  obtain ⟨h1, rfl⟩ := List.getElem?_eq_some_iff.1 ha;obtain ⟨h2, rfl⟩ := List.getElem?_eq_some_iff.1 hb;exact List.pairwise_iff_getElem.1 h i (i + 1) h1 h2 (by omega)
end Go.Proofs.YtdkkkeoicekdgaaGreatDoor.Ca

end

section

namespace Go.Proofs.YtdkkkeoicekdgaaGreatDoor.Ca
open Go.RowKit Go.Proofs.YtdkkkeoicekdgaaGreatDoor
def CE (x : Ent) (cs : List Value) : Prop := cs = [.string x.loc, .string x.key, .string x.pat]
abbrev enV (x : Ent) : Value := .agg #[.string x.loc, .string x.key, .string x.pat]
abbrev enC (x : Ent) : Array Value := #[.string x.loc, .string x.key, .string x.pat]
abbrev SlE (w : World) (S : Nat -> Prop) (v : Value) (xs : List Ent) : Prop := Sl 3 CE w S v xs
theorem SlE.old {w w' : World} {v : Value} {xs : List Ent} (h : SlE w (Old w) v xs) (hb : Below w.heap.size w w') : SlE w' (Old w') v xs := Sl.keep h (fun b hb2 => hb.block b hb2) (fun _ h => Nat.lt_of_lt_of_le h hb.size) (fun _ _ h => h)
theorem At.e {w : World} {b o : Nat} {x : Ent} (h : At 3 CE w b o x) : w.cell? ⟨b, o, none⟩ = some (.string x.loc) /\ w.cell? ⟨b, o + 1, none⟩ = some (.string x.key) /\ w.cell? ⟨b, o + 2, none⟩ = some (.string x.pat) := by
 obtain ⟨cs, -, rfl, hc⟩ := h;exact ⟨hc 0 _ rfl, hc 1 _ rfl, hc 2 _ rfl⟩
theorem SlE.len {w : World} {S : Nat -> Prop} {a : Option Addr} {n cap : Nat} {xs : List Ent} (h : SlE w S (.slice a n cap) xs) : n = xs.length /\ xs.length <= cap /\ cap <= 9223372036854775807 := by
 obtain ⟨a', b, hv, h1, h2, -⟩ := h
 injection hv with _ h3 h4
 exact ⟨h3, by omega, by omega⟩
theorem SlE.get {w : World} {S : Nat -> Prop} {a : Option Addr} {n cap : Nat} {xs : List Ent} (h : SlE w S (.slice a n cap) xs) {j : Nat} {x : Ent} (hx : xs[j]? = some x) :
  ∃ b off, a = some ⟨b, off, none⟩ /\ S b /\ w.cell? ⟨b, off + j * 3, none⟩ = some (.string x.loc) /\ w.cell? ⟨b, off + j * 3 + 1, none⟩ = some (.string x.key) /\ w.cell? ⟨b, off + j * 3 + 2, none⟩ = some (.string x.pat) := by
 obtain ⟨a', d, hv, h1, h2, h3⟩ := h
 injection hv with h4 _ _
 subst h4;obtain ⟨b, off, ha, hb, c⟩ := h3 (fun e => by subst e; simp at hx);exact ⟨b, off, ha, hb, At.e (c j x hx)⟩
def flat : List Ent -> List Value
 | [] => []
 | x :: r => .string x.loc :: .string x.key :: .string x.pat :: flat r
theorem z0q : ∀ xs : List Ent, (flat xs).length = xs.length * 3
 | [] => rfl
 | x :: r => by simp only [flat, List.length_cons, z0q r]; omega
theorem z1c : ∀ xs ys : List Ent, flat (xs ++ ys) = flat xs ++ flat ys
 | [], _ => rfl
 | x :: r, ys => by simp only [List.cons_append, flat, z1c r ys]
theorem z44 : ∀ (xs : List Ent) (k : Nat), flat (xs.take k) = (flat xs).take (k * 3)
 | [], k => by simp [flat]
 | x :: r, 0 => rfl
 | x :: r, k + 1 => by
  rw [show (k + 1) * 3 = k * 3 + 1 + 1 + 1 by omega];simp only [List.take_succ_cons, flat, z44 r k]
theorem z45 : ∀ (xs : List Ent) (k : Nat), flat (xs.drop k) = (flat xs).drop (k * 3)
 | [], k => by simp [flat]
 | x :: r, 0 => rfl
 | x :: r, k + 1 => by
  rw [show (k + 1) * 3 = k * 3 + 1 + 1 + 1 by omega];simp only [List.drop_succ_cons, flat, z45 r k]
theorem zee : ∀ {xs : List Ent} {j : Nat} {x : Ent}, xs[j]? = some x -> (flat xs)[j * 3]? = some (.string x.loc) /\ (flat xs)[j * 3 + 1]? = some (.string x.key) /\ (flat xs)[j * 3 + 2]? = some (.string x.pat)
 | y :: r, 0, x, h => by
  obtain rfl := Option.some.inj h;exact ⟨rfl, rfl, rfl⟩
 | y :: r, j + 1, x, h => by
  have := zee (xs := r) (j := j) (x := x) (by simpa using h);rw [show (j + 1) * 3 = j * 3 + 3 by omega]
  simpa [flat] using this
theorem z2l : ∀ {xs : List Ent}, ∀ u ∈ flat xs, u.oneCell' = true
 | x :: r, u, h => by
  simp only [flat, List.mem_cons] at h
  rcases h with rfl | rfl | rfl | h
  ·rfl
  ·rfl
  ·rfl
  ·exact z2l u h
theorem zi2 {xs : List Ent} {i : Nat} {u : Value} (h : (flat xs)[i]? = some u) : ∃ j x, xs[j]? = some x /\ (i = j * 3 /\ u = .string x.loc ∨ i = j * 3 + 1 /\ u = .string x.key ∨ i = j * 3 + 2 /\ u = .string x.pat) := by
 have a : i < (flat xs).length := (List.getElem?_eq_some_iff.1 h).1;rw [z0q] at a;have hj : xs[i / 3]? = some (xs[i / 3]'(by omega)) := List.getElem?_eq_getElem (by omega);obtain ⟨h0, h1, h2⟩ := zee hj;refine ⟨i / 3, _, hj, ?_⟩
 have h3 : i = i / 3 * 3 ∨ i = i / 3 * 3 + 1 ∨ i = i / 3 * 3 + 2 := by omega
 rcases h3 with e | e | e
 ·rw [<- e, h] at h0; exact .inl ⟨e, Option.some.inj h0⟩
 ·rw [<- e, h] at h1; exact .inr (.inl ⟨e, Option.some.inj h1⟩)
 ·rw [<- e, h] at h2; exact .inr (.inr ⟨e, Option.some.inj h2⟩)
theorem zef : ∀ xs : List Ent, Cat 3 CE xs (flat xs)
 | [] => rfl
 | x :: r => ⟨[.string x.loc, .string x.key, .string x.pat], flat r, rfl, rfl, rfl, zef r⟩
theorem SlE.cells {w : World} {S : Nat -> Prop} {a : Addr} {n cap : Nat} {xs : List Ent} (h : SlE w S (.slice (some a) n cap) xs) : ∀ i u, (flat xs)[i]? = some u -> w.cell? (a.add i) = some u := fun i u hu => by
 obtain ⟨j, x, hx, hj⟩ := zi2 hu;obtain ⟨b, c, ha, -, h0, h1, h2⟩ := h.get hx;obtain rfl := Option.some.inj ha;rw [Addr.add_mid]
 rcases hj with ⟨rfl, rfl⟩ | ⟨rfl, rfl⟩ | ⟨rfl, rfl⟩
 ·exact h0
 ·exact h1
 ·exact h2
abbrev Own (w : World) (base : Nat) (v : Value) (xs : List Ent) : Prop := w.ownsRow base 81 3 v xs.length (flat xs)
theorem Own.sl {w : World} {base : Nat} {v : Value} {xs : List Ent} (h : Own w base v xs) : SlE w (Old w) v xs := Sl.of_owns h (zef xs) (fun _ _ _ hh => (Array.getElem?_eq_some_iff.1 hh).1)
theorem ze6 : (Tryz.prog.info? 81).map (fun i => (i.zero, i.size, i.bytes)) = some (some (.agg #[.string ByteArray.empty, .string ByteArray.empty, .string ByteArray.empty]), 3, 48) := by kernel_rfl
structure EnvC (w : World) : Prop where
 env : EnvW w
 max : ∃ m, Lc.MaxW m w
theorem EnvC.below {w w' : World} (h : EnvC w) (hb : Below w.heap.size w w') : EnvC w' := by
 obtain ⟨h1, m, h2⟩ := h;exact ⟨h1.below hb, m, h2.next hb⟩
end Go.Proofs.YtdkkkeoicekdgaaGreatDoor.Ca

end

section

namespace Go.Proofs.YtdkkkeoicekdgaaGreatDoor.Ca
set_option maxHeartbeats 3200000
set_option maxRecDepth 100000
open Go.Lib (hid)
open Go.RowKit Go.Proofs.YtdkkkeoicekdgaaGreatDoor
theorem z5x (a b : BA) (w : World) : Calls Tryz.prog 215 #[.string a, .string b] w fun e w' => e = .returned (.int .i64 (cmpB a b)) /\ w = w' := by
 go_enter Tryz.func215, Tryz.ntmps215
 go_wp2;rw [run_callFunc_extern Tryz.func241 (by kernel_rfl) (by kernel_rfl) (by kernel_rfl) (e := Extern.BytealgCompare.compare) (by kernel_rfl), Lib.run_compareString];simp only [Result.andThen];rw [Oper.upon_value];go_wp2;go_ret;exact ⟨rfl, rfl⟩
theorem z68 (a b : BA) (w : World) : Calls Tryz.prog 184 #[.string a, .string b] w fun e w' => e = .returned (.int .i64 (cmpB a b)) /\ w = w' := by
 go_enter Tryz.func184, Tryz.ntmps184
 go_wp2_with fail
 refine (z5x a b w).mono ?_;rintro e w1 ⟨rfl, rfl⟩;go_wp2;go_ret;exact ⟨rfl, rfl⟩
theorem or_any (x y : Int) (w : World) (g c : Nat) (h0 : w.cell? ⟨g, 0, none⟩ = some (.int .i64 x)) (h1 : w.cell? ⟨g, 1, none⟩ = some (.int .i64 y)) (hx : -1 <= x /\ x <= 1) (hy : -1 <= y /\ y <= 1) :
  Calls Tryz.prog 183 #[.slice (some ⟨g, 0, none⟩) 2 c] w fun e w' => e = .returned (.int .i64 (if x = 0 then y else x)) /\ w = w' := by
 by_cases h00 : x = 0
 ·subst h00
  rw [if_pos rfl]
  cases hyb : (y != 0) with
  | true =>
   go_enter Tryz.func183, Tryz.ntmps183
   go_wp2
   go_loop [8] (fun i => ∃ k : Nat, k <= 1 /\ i = .int .i64 k) (fun i => 2 - (intOf i).toNat)
   case atStart => exact ⟨0, by omega, rfl⟩
   case round =>
    obtain ⟨k, hk, rfl⟩ := hrel
    rcases (show k = 0 ∨ k = 1 by omega) with rfl | rfl
    ·go_wp2
     go_round
     case rel => exact ⟨1, by omega, by go_num⟩
     case measure => simp [intOf]
    ·go_wp2
     go_ret;exact ⟨rfl, rfl⟩
  | false =>
   have a : y = 0 := by simpa using hyb
   subst a
   go_enter Tryz.func183, Tryz.ntmps183
   go_wp2
   go_loop [8] (fun i => ∃ k : Nat, k <= 2 /\ i = .int .i64 k) (fun i => 2 - (intOf i).toNat)
   case atStart => exact ⟨0, by omega, rfl⟩
   case round =>
    obtain ⟨k, hk, rfl⟩ := hrel
    rcases (show k = 0 ∨ k = 1 ∨ k = 2 by omega) with rfl | rfl | rfl
    ·go_wp2
     go_round
     case rel => exact ⟨1, by omega, by go_num⟩
     case measure => simp [intOf]
    ·go_wp2
     go_round
     case rel => exact ⟨2, by omega, by go_num⟩
     case measure => simp [intOf]
    ·go_wp2
     go_ret;exact ⟨rfl, rfl⟩
 ·rw [if_neg h00]
  have b : (x != 0) = true := by simpa using h00
  clear h00
  go_enter Tryz.func183, Tryz.ntmps183
  go_wp2
  go_loop [8] (fun i => i = .int .i64 0) (fun i => 2 - (intOf i).toNat)
  case atStart => exact rfl
  case round =>
   subst hrel;go_wp2;go_ret;exact ⟨rfl, rfl⟩
structure CK (w : World) (A B : Nat) (a b : Ent) (W : World) : Prop where
 ra : Row W A 81 [.string a.loc, .string a.key, .string a.pat]
 rb : Row W B 81 [.string b.loc, .string b.key, .string b.pat]
 below : Below w.heap.size w W
 hA : w.heap.size <= A
theorem CK.step {w W W' : World} {A B : Nat} {a b : Ent} (h : CK w A B a b W) (hb : Below W.heap.size W W') : CK w A B a b W' := ⟨h.ra.below hb, h.rb.below hb, z00 h.below hb, h.hA⟩
theorem CK.cells {w W : World} {A B : Nat} {a b : Ent} (h : CK w A B a b W) : W.cell? ⟨A, 0, none⟩ = some (.string a.loc) /\ W.cell? ⟨A, 1, none⟩ = some (.string a.key) /\ W.cell? ⟨B, 0, none⟩ = some (.string b.loc) /\ W.cell? ⟨B, 1, none⟩ = some (.string b.key) := ⟨h.ra.cell rfl, h.ra.cell rfl, h.rb.cell rfl, h.rb.cell rfl⟩
theorem cmpE_if (a b : Ent) : cmpE a b = if cmpB a.loc b.loc = 0 then cmpB a.key b.key else cmpB a.loc b.loc := rfl
theorem z4y (a b : Ent) (w : World) : Calls Tryz.prog 155 #[enV a, enV b] w fun e w' => e = .returned (.int .i64 (cmpE a b)) /\ Below w.heap.size w w' := by
 have k1 : CK w w.heap.size (w.heap.size + 1) a b ((w.alloc (.cells (enC a) 81)).alloc (.cells (enC b) 81)) := by
  have h2 := z02 (w.alloc (.cells (enC a) 81)) (enC b) 81;rw [World.size_alloc] at h2;exact ⟨(z02 w (enC a) 81).alloc _, h2, z3s _ _ _, Nat.le_refl _⟩
 have k0 := k1.step (W' := ((w.alloc (.cells (enC a) 81)).alloc (.cells (enC b) 81)).drew) (Below.refl _ _).drew;have K0 : Hid (CK w w.heap.size (w.heap.size + 1) a b ((w.alloc (.cells (enC a) 81)).alloc (.cells (enC b) 81)).drew) := hid k0;have d0 := k0.cells;clear k0 k1;have h1 := z8i a.loc b.loc;have h2 := z8i a.key b.key;have HE := hid (cmpE_if a b)
 have d : Hid (∀ W, Hid (CK w w.heap.size (w.heap.size + 1) a b W) -> Calls Tryz.prog 184 #[.string a.loc, .string b.loc] W fun e w' => e = .returned (.int .i64 (cmpB a.loc b.loc)) /\ (w'.cell? ⟨w.heap.size, 0, none⟩ = some (.string a.loc) /\ w'.cell? ⟨w.heap.size, 1, none⟩ = some (.string a.key) /\ w'.cell? ⟨w.heap.size + 1, 0, none⟩ = some (.string b.loc) /\ w'.cell? ⟨w.heap.size + 1, 1, none⟩ = some (.string b.key)) /\ Hid (CK w w.heap.size (w.heap.size + 1) a b w')) :=
  hid (fun W k => (z68 a.loc b.loc W).mono fun e w' ⟨he, hw⟩ => by subst hw; exact ⟨he, k.out.cells, k⟩)
 have f : Hid (∀ W, Hid (CK w w.heap.size (w.heap.size + 1) a b W) -> Calls Tryz.prog 184 #[.string a.key, .string b.key] W fun e w' => e = .returned (.int .i64 (cmpB a.key b.key)) /\ (w'.cell? ⟨w.heap.size, 0, none⟩ = some (.string a.loc) /\ w'.cell? ⟨w.heap.size, 1, none⟩ = some (.string a.key) /\ w'.cell? ⟨w.heap.size + 1, 0, none⟩ = some (.string b.loc) /\ w'.cell? ⟨w.heap.size + 1, 1, none⟩ = some (.string b.key)) /\ Hid (CK w w.heap.size (w.heap.size + 1) a b w')) :=
  hid (fun W k => (z68 a.key b.key W).mono fun e w' ⟨he, hw⟩ => by subst hw; exact ⟨he, k.out.cells, k⟩)
 have c : Hid (∀ W, Hid (CK w w.heap.size (w.heap.size + 1) a b W) -> Calls Tryz.prog 183 #[.slice (some ⟨W.heap.size, 0, none⟩) 2 2] (W.alloc (.cells #[.int .i64 (cmpB a.loc b.loc), .int .i64 (cmpB a.key b.key)] 3)) fun e w' => e = .returned (.int .i64 (cmpE a b)) /\ (w'.cell? ⟨w.heap.size, 0, none⟩ = some (.string a.loc) /\ w'.cell? ⟨w.heap.size, 1, none⟩ = some (.string a.key) /\ w'.cell? ⟨w.heap.size + 1, 0, none⟩ = some (.string b.loc) /\ w'.cell? ⟨w.heap.size + 1, 1, none⟩ = some (.string b.key)) /\ Hid (CK w w.heap.size (w.heap.size + 1) a b w')) :=
  hid (fun W k => by
   have r := z02 W #[.int .i64 (cmpB a.loc b.loc), .int .i64 (cmpB a.key b.key)] 3;have k2 := k.out.step (z03 W (.cells #[.int .i64 (cmpB a.loc b.loc), .int .i64 (cmpB a.key b.key)] 3))
   refine (or_any _ _ _ _ _ (r.cell rfl) (r.cell rfl) h1 h2).mono fun e w' ⟨he, hw⟩ => ?_
   subst hw
   exact ⟨by rw [he, HE.out], k2.cells, hid k2⟩)
 obtain ⟨x, HX⟩ := nmd (cmpB a.loc b.loc);obtain ⟨y, HY⟩ := nmd (cmpB a.key b.key);rw [<- HX.out] at d c;rw [<- HY.out] at f c;clear h1 h2 HE;obtain ⟨al, ak, ap⟩ := a;obtain ⟨bl, bk, bp⟩ := b;simp only at d0 d f c K0
 go_enter Tryz.func155, Tryz.ntmps155
 go_wp2
 go_region_held3 (fun W => W.cell? ⟨w.heap.size, 0, none⟩ = some (.string al) /\ W.cell? ⟨w.heap.size, 1, none⟩ = some (.string ak) /\ W.cell? ⟨w.heap.size + 1, 0, none⟩ = some (.string bl) /\ W.cell? ⟨w.heap.size + 1, 1, none⟩ = some (.string bk)) (first | go_keep | assumption)
  (first
   | (go_at_call_of 184 (Value.string al); refine (d.out _ ?_).mono ?_; assumption; rintro e U1 ⟨rfl, h, i⟩)
   | (go_at_call_of 184 (Value.string ak); refine (f.out _ ?_).mono ?_; assumption; rintro e U2 ⟨rfl, j, l⟩)
   | (go_at_call 183; refine (c.out _ ?_).mono ?_; assumption; rintro e U3 ⟨rfl, m, g⟩)
   | fail)
 all_goals go_wp2
 all_goals go_ret
 all_goals exact ⟨rfl, g.out.below⟩
end Go.Proofs.YtdkkkeoicekdgaaGreatDoor.Ca

end
