/- The text of a valid rule. -/
import Derived.Deep.RegionHeld3
import Derived.Test.YtdnedbcmgkilaaaGreatDoorZSURg

namespace Go.Proofs.YtdnedbcmgkilaaaGreatDoor.Pu
set_option maxHeartbeats 3200000
set_option maxRecDepth 100000
open Go.Lib (hid)
open Go.RowKit
def S8 (l : List UInt8) : BA := ⟨l.toArray⟩
theorem z4z (l : List UInt8) : (S8 l).data.toList = l := by simp [S8]
theorem z7n (l : List UInt8) : (S8 l).size = l.length := by simp [S8, ByteArray.size]
theorem zju {s : BA} {l : List UInt8} (h : s.data.toList = l) : s = S8 l := by subst h; simp [S8]
theorem z3i (a b : BA) : (a ++ b).data.toList = a.data.toList ++ b.data.toList := by simp [ByteArray.data_append]
theorem z2t (w : World) (k : Nat) (os : Array Obj) : Below w.heap.size w (Sort.grow (w.drewN k) os) :=
 ⟨rfl, rfl, rfl, by simp [Sort.grow, World.drewN], fun i hi => by simp [Sort.grow, World.drewN, Array.getElem?_append_left hi]⟩
theorem z9h (n : Int) (w : World) (h0 : 0 <= n) (h1 : n <= 1000000) (ht : TabW w) : Calls Tryz.prog 64 #[.int .i64 n] w fun e w' => e = .returned (.string (S8 (Lib.itoa n))) /\ Below w.heap.size w w' :=
 (Tryz.strconv_Itoa n (by omega) (by omega) w ht).mono fun _ _ ⟨he, k, os, hw⟩ => ⟨he, by subst hw; exact z2t w k os⟩
theorem z4d {n : Int} (h0 : 0 <= n) (h1 : n <= 1000000) : (Lib.itoa n).length <= 21 := Lib.itoa_length_le n (by omega) (by omega)
theorem z8x {x : Sp} (h : rgS x = true) : 0 <= x.lo /\ x.lo <= x.hi /\ x.hi <= 1000000 := by simpa [rgS] using h
theorem z3p {α : Type} {f : α -> Bool} {l : List α} (h : allR f l = true) : 1 <= l.length /\ l.length <= 10 /\ ∀ x ∈ l, f x = true := by
 unfold allR at h
 rw [Bool.and_eq_true, decide_eq_true_eq, List.all_eq_true] at h
 exact ⟨h.1.1, h.1.2, h.2⟩
theorem zc7 {x : Sp} (h : rgS x = true) : (txS x).length <= 44 := by
 obtain ⟨a, b, c⟩ := z8x h
 have h1 := z4d a (by omega)
 have h2 := z4d (show 0 <= x.hi by omega) c
 unfold txS; split
 ·omega
 ·simp only [List.length_append, List.length_cons, List.length_nil]; omega
theorem zbd {α : Type} {f : α -> List UInt8} {sep : List UInt8} {B : Nat} : ∀ {l : List α}, (∀ x ∈ l, (f x).length <= B) -> (joinF f sep l).length <= l.length * (B + sep.length)
 | [], _ => by simp [joinF]
 | [x], h => by have := h x (by simp); simp [joinF]; omega
 | x :: y :: r, h => by
  have h1 := h x (by simp)
  have h2 := zbd (sep := sep) (l := y :: r) (fun z hz => h z (by simp at hz ⊢; right; exact hz))
  rw [joinF]
  simp only [List.length_append, List.length_cons] at h2 ⊢
  rw [Nat.succ_mul]
  omega
theorem z2x {α : Type} {f : α -> List UInt8} {g : α -> Bool} {sep : List UInt8} {B : Nat} {l : List α} (h : allR g l = true) (hB : ∀ x, g x = true -> (f x).length <= B) : (joinF f sep l).length <= 10 * (B + sep.length) := by
 obtain ⟨-, h2, h3⟩ := z3p h
 exact Nat.le_trans (zbd (fun x hx => hB x (h3 x hx))) (Nat.mul_le_mul_right _ h2)
theorem z1v {α : Type} {f : α -> List UInt8} {sep : List UInt8} : ∀ (l : List α), Lib.join (l.map f) sep = joinF f sep l
 | [] => rfl
 | [x] => Lib.join_one _ _
 | x :: y :: r => by
  have h := z1v (f := f) (sep := sep) (y :: r)
  rw [joinF, <- h, List.map_cons, List.map_cons, Lib.join_cons, Lib.join_cons]
  simp [Lib.joinTail, List.append_assoc]
theorem z8y {x : Rl} (h : rgR x = true) : 0 <= x.m /\ x.m <= 1000000 /\ allR rgS x.sp = true := by
 unfold rgR at h
 rw [Bool.and_eq_true, decide_eq_true_eq] at h
 exact ⟨h.1.1, h.1.2.2, h.2⟩
theorem zg6 {x : Rl} (h : rgR x = true) : (txR x).length <= 500 := by
 obtain ⟨a, b, c⟩ := z8y h
 have h1 := z4d a b
 have h2 := z2x (f := txS) (sep := [44]) c (fun x hx => zc7 hx)
 unfold txR
 simp only [List.length_append, List.length_cons, List.length_nil] at h2 ⊢
 have h3 : (if 0 < x.m then [32, 37, 32] ++ Lib.itoa x.m else []).length <= 24 := by
  split
  ·simp only [List.length_append, List.length_cons, List.length_nil]; omega
  ·simp
 have h4 : (if x.neg = true then ([32, 33, 61, 32] : List UInt8) else [32, 61, 32]).length <= 4 := by split <;> simp
 omega
theorem zaa {x : List Rl} (h : rgRow x = true) : (txRow x).length <= 5050 := by
 have := z2x (f := txR) (sep := [32, 97, 110, 100, 32]) h (fun x hx => zg6 hx)
 simpa [txRow] using this
theorem zfh {x : Rule} (h : z0x x = true) : (z0h x).length <= 50540 := by
 have := z2x (f := txRow) (sep := [32, 111, 114, 32]) h (fun x hx => zaa hx)
 simpa [z0h] using this
theorem zaj (x : Sp) (w : World) (hr : rgS x = true) (ht : TabW w) : Calls Tryz.prog 261 #[.agg #[.int .i64 x.lo, .int .i64 x.hi]] w fun e w' => e = .returned (.string (S8 (txS x))) /\ Below w.heap.size w w' := by
 obtain ⟨h0, h1, h2⟩ := z8x hr
 clear hr
 obtain ⟨lo, hi⟩ := x
 simp only at h0 h1 h2
 have HT := hid ht
 clear ht
 have HB0 := hid (z02 w (.cells #[.int .i64 lo, .int .i64 hi] 266))
 have R := z04 w #[.int .i64 lo, .int .i64 hi] 266
 have c0 := R.cell (i := 0) rfl
 have c1 := R.cell (i := 1) rfl
 by_cases he : hi = lo
 ·have HE : Hid (txS ⟨lo, hi⟩ = Lib.itoa lo) := hid (if_pos he)
  subst he
  have HC := hid (z9h hi _ h0 h2 (HT.out.below HB0.out))
  clear R
  go_enter Tryz.func261, Tryz.ntmps261
  go_wp2_with fail
  refine HC.out.mono ?_
  rintro e w5 ⟨rfl, hb5⟩
  have HB := hid (z00 HB0.out hb5)
  clear hb5
  go_wp2
  go_ret
  exact ⟨by rw [HE.out]; rfl, HB.out⟩
 ·have HE : Hid (S8 (Lib.itoa lo) ++ ⟨#[46, 46]⟩ ++ S8 (Lib.itoa hi) = S8 (txS ⟨lo, hi⟩)) := hid (zju (by
   rw [z3i, z3i, z4z, z4z]
   exact (if_neg he).symm))
  have hB : (hi == lo) = false := by simpa using he
  have hl1 := z4d h0 (show lo <= 1000000 by omega)
  have hl2 := z4d (show 0 <= hi by omega) h2
  rw [<- z7n] at hl1 hl2
  have HC : Hid (∀ W2 n, 0 <= n -> n <= 1000000 -> Below (w.alloc (.cells #[.int .i64 lo, .int .i64 hi] 266)).heap.size (w.alloc (.cells #[.int .i64 lo, .int .i64 hi] 266)) W2 -> Calls Tryz.prog 64 #[.int .i64 n] W2 fun e w' => e = .returned (.string (S8 (Lib.itoa n))) /\ w'.cell? ⟨w.heap.size, 0, none⟩ = some (.int .i64 lo) /\ w'.cell? ⟨w.heap.size, 1, none⟩ = some (.int .i64 hi) /\ Below (w.alloc (.cells #[.int .i64 lo, .int .i64 hi] 266)).heap.size (w.alloc (.cells #[.int .i64 lo, .int .i64 hi] 266)) w') := hid (fun W2 n a b hb2 =>
   (z9h n W2 a b ((HT.out.below HB0.out).below hb2)).mono fun e w' ⟨he, hb⟩ => ⟨he, (R.below (z00 hb2 hb)).cell (i := 0) rfl, (R.below (z00 hb2 hb)).cell (i := 1) rfl, z00 hb2 hb⟩)
  clear he R
  have HRF := hid (Below.refl (w.alloc (.cells #[.int .i64 lo, .int .i64 hi] 266)).heap.size (w.alloc (.cells #[.int .i64 lo, .int .i64 hi] 266)))
  generalize hia : S8 (Lib.itoa lo) = ia at *
  generalize hib : S8 (Lib.itoa hi) = ib at *
  have HIA : Hid (∀ W2, Below (w.alloc (.cells #[.int .i64 lo, .int .i64 hi] 266)).heap.size (w.alloc (.cells #[.int .i64 lo, .int .i64 hi] 266)) W2 -> Calls Tryz.prog 64 #[.int .i64 lo] W2 fun e w' => e = .returned (.string ia) /\ w'.cell? ⟨w.heap.size, 0, none⟩ = some (.int .i64 lo) /\ w'.cell? ⟨w.heap.size, 1, none⟩ = some (.int .i64 hi) /\ Below (w.alloc (.cells #[.int .i64 lo, .int .i64 hi] 266)).heap.size (w.alloc (.cells #[.int .i64 lo, .int .i64 hi] 266)) w') := hid (fun W2 hb => by rw [<- hia]; exact HC.out W2 lo h0 (by omega) hb)
  have HIB : Hid (∀ W2, Below (w.alloc (.cells #[.int .i64 lo, .int .i64 hi] 266)).heap.size (w.alloc (.cells #[.int .i64 lo, .int .i64 hi] 266)) W2 -> Calls Tryz.prog 64 #[.int .i64 hi] W2 fun e w' => e = .returned (.string ib) /\ w'.cell? ⟨w.heap.size, 0, none⟩ = some (.int .i64 lo) /\ w'.cell? ⟨w.heap.size, 1, none⟩ = some (.int .i64 hi) /\ Below (w.alloc (.cells #[.int .i64 lo, .int .i64 hi] 266)).heap.size (w.alloc (.cells #[.int .i64 lo, .int .i64 hi] 266)) w') := hid (fun W2 hb => by rw [<- hib]; exact HC.out W2 hi (by omega) h2 hb)
  clear HC hia hib
  have hf1 : ¬ 9223372036854775807 < ia.size + 2 := by omega
  have hf2 : ¬ 9223372036854775807 < ia.size + 2 + ib.size := by omega
  go_enter Tryz.func261, Tryz.ntmps261
  go_wp2
  generalize w.alloc (.cells #[.int .i64 lo, .int .i64 hi] 266) = W at *
  have hrf := HRF.out
  go_region_held3 (fun w' => w'.cell? ⟨w.heap.size, 0, none⟩ = some (.int .i64 lo) /\ w'.cell? ⟨w.heap.size, 1, none⟩ = some (.int .i64 hi) /\ Below W.heap.size W w') (refine ⟨?_, ?_, ?_⟩ <;> first | assumption | exact Below.drew (by assumption))
   (first
    | (go_at_call_of 64 (Value.int .i64 lo); refine (HIA.out _ ?_).mono ?_; (first | assumption | exact Below.drew (by assumption) | exact Below.drew (Below.drew (by assumption))); rintro e w2 ⟨rfl, hM1, hN1, hb2⟩)
    | (go_at_call_of 64 (Value.int .i64 hi); refine (HIB.out _ ?_).mono ?_; (first | assumption | exact Below.drew (by assumption) | exact Below.drew (Below.drew (by assumption))); rintro e w3 ⟨rfl, hM2, hN2, hb3⟩)
    | fail)
  all_goals go_wp2
  all_goals go_ret
  all_goals exact ⟨by rw [<- HE.out]; rfl, z00 HB0.out (by assumption)⟩
def strL (l : List (List UInt8)) : List Value := l.map fun t => Value.string (S8 t)
theorem z6u (l : List (List UInt8)) (t : List UInt8) : strL (l ++ [t]) = strL l ++ [.string (S8 t)] := by simp [strL]
theorem z5q {α β : Type} {f : α -> β} {xs : List α} {k : Nat} {x : α} (h : xs[k]? = some x) : (xs.take (k + 1)).map f = (xs.take k).map f ++ [f x] := by
 rw [List.take_add_one, h]; simp
theorem z7z {α : Type} {f : α -> List UInt8} (xs : List α) : (xs.map (fun x => S8 (f x))).map (fun s => s.data.toList) = xs.map f := by
 rw [List.map_map]; exact List.map_congr_left (fun x _ => z4z _)
theorem z4m (w : World) (a : Option Addr) (cap : Nat) (xs : List (Sp)) (hIn : SlS w (Old w) (.slice a xs.length cap) xs) (hr : allR rgS xs = true) (ht : TabW w) :
  Calls Tryz.prog 260 #[.slice a xs.length cap, .func (.func 261) #[] #[], .string ⟨#[44]⟩] w fun e w' => e = .returned (.string (S8 (joinF txS [44] xs))) /\ Below w.heap.size w w' := by
 obtain ⟨i0, hi, hz0, hz1, hz2⟩ := info_parts info9
 have HIN := hid hIn
 have HT := hid ht
 have HLEN := hid (z2x (f := txS) (sep := [44]) hr (fun x hx => zc7 hx))
 obtain ⟨hg1, hg2, hg3⟩ := z3p hr
 have HG := hid hg3
 clear hIn ht hr hg3
 go_enter Tryz.func260, Tryz.ntmps260
 go_wp2
 go_loopw [7, 12] (fun v i wr => ∃ (k : Nat) (ad : Option Addr) (c : Nat), k <= xs.length /\ i = .int .i64 k /\ v = .slice ad k c /\ Hid (wr.ownsRow w.heap.size 9 1 (.slice ad k c) k (strL ((xs.take k).map txS))) /\ Hid (Below w.heap.size w wr)) (fun _ i _ => xs.length - (intOf i).toNat)
 case atStart => exact ⟨0, none, 0, by omega, rfl, rfl, hid (World.ownsRow_nil _ _ _ _), hid (Below.refl _ _)⟩
 case round =>
  obtain ⟨k, ad, c, hk, rfl, rfl, HO, HB⟩ := hrel
  by_cases hlt : k < xs.length
  ·obtain ⟨x, hx⟩ : ∃ x, xs[k]? = some x := ⟨_, List.getElem?_eq_getElem hlt⟩
   obtain ⟨b, off, rfl, hb, hat⟩ := (HIN.out.below HB.out).at_ hx
   have HX := hid hx
   have HGX := hid (HG.out x (List.mem_of_getElem? hx))
   have HTW := hid (HT.out.below HB.out)
   clear hx
   obtain ⟨h0, h9⟩ := hat.s
   obtain ⟨lo, hi1⟩ := x
   simp only at h0 h9
   have R := z04 wr #[.int .i64 lo, .int .i64 hi1] 266
   have c0 := R.cell (i := 0) rfl
   have c1 := R.cell (i := 1) rfl
   clear R hat
   have HC1 := hid (zaj ⟨lo, hi1⟩ (wr.alloc (.cells #[.int .i64 lo, .int .i64 hi1] 266)) HGX.out (HTW.out.below (z02 _ _)))
   go_wp2_with fail
   refine HC1.out.mono ?_
   rintro e w5 ⟨rfl, hb5⟩
   have HB5 := hid (z00 (z02 _ _) hb5)
   have HBW := hid (z00 HB.out HB5.out)
   have HO5 := hid (z11 HO.out HB5.out)
   have HZ : Hid (w.heap.size <= w5.heap.size) := hid HBW.out.size
   have hz5 := HZ.out
   clear hb5
   obtain ⟨tx, HTX⟩ : ∃ t, Hid (S8 (txS ⟨lo, hi1⟩) = t) := ⟨_, hid rfl⟩
   rw [HTX.out]
   go_wp2_with (at_builtin; refine wpList_append_lies _ rfl _ _ 67 rfl w.heap.size 9 i0 _ 1 16 Tryz.underlying67 hi hz0 hz1 hz2 rfl (by decide) _ _ _ rfl (HO5.out.alloc _) _ 1 1 [.string tx] rfl rfl (z0s _ #[.string tx] _ rfl) (by simp [Value.oneCell']) (by decide) (by unfold maxLen; omega) (by omega) (by simp; omega) (w5.heap.size + 1) (by simp) ?_; intro g6 c6 w6 hown6 hgrow6 _ _; have HO6 := hid hown6; have HG6 := hid hgrow6; clear hown6 hgrow6)
   have HB6 : Hid (Below w.heap.size w w6) := hid (HBW.out.trans (((Below.refl _ w5).alloc (Nat.le_refl _) (.cells #[.string tx] 9)).mono HBW.out.size |>.grown HG6.out (by simp; omega) (fun g hg => (HO5.out.lt g hg).1)))
   go_roundw
   case rel => exact ⟨k + 1, some ⟨g6, 0, none⟩, c6, by omega, by go_num, rfl, hid (by rw [z5q HX.out, z6u, HTX.out]; exact HO6.out), HB6⟩
   case measure => simp [intOf]; omega
  ·obtain rfl : k = xs.length := by omega
   rw [List.take_length] at HO
   obtain ⟨g, hg⟩ : ∃ g, ad = some ⟨g, 0, none⟩ := by
    obtain ⟨a', c', hv, -, -, hx⟩ := z0m HO.out
    obtain ⟨g, hg⟩ := hx (by omega)
    injection hv with h1
    exact ⟨g, h1.trans hg⟩
   subst hg
   obtain ⟨-, ⟨cs, z, hh⟩, hcell⟩ := z1m HO.out rfl
   have hgl : g < wr.heap.size := (Array.getElem?_eq_some_iff.1 hh).1
   have hxc : xs.length <= c := by
    obtain ⟨a', c', hv, h1, -, -⟩ := z0m HO.out
    injection hv with _ _ h2; omega
   have HJ := hid (Tryz.strings_Join g 0 c (xs.map (fun x => S8 (txS x))) ⟨#[44]⟩ wr (fun j t hj => by rw [Nat.zero_add]; exact hcell j _ (by rw [List.getElem?_map] at hj; rw [strL, List.getElem?_map, List.getElem?_map]; revert hj; cases xs[j]? with | none => simp | some x => simp)) hgl (by rw [List.length_map]; omega) (by rw [List.length_map]; exact hxc) (by rw [z7z, z1v]; exact Nat.le_trans HLEN.out (by decide)))
   rw [List.length_map, z7z, z1v] at HJ
   clear hcell hh
   go_wp2_with fail
   refine HJ.out.mono ?_
   rintro e w5 ⟨rfl, hb5⟩
   have HB5 := hid (z00 HB.out hb5)
   clear hb5
   go_wp2
   go_ret
   exact ⟨rfl, HB5.out⟩
theorem txR_of (m : Int) (ng : Bool) (sp : List Sp) : S8 (txR ⟨m, ng, sp⟩) = (if ng then (if 0 < m then ⟨#[105]⟩ ++ (⟨#[32, 37, 32]⟩ ++ S8 (Lib.itoa m)) else ⟨#[105]⟩) ++ ⟨#[32, 33, 61, 32]⟩ else (if 0 < m then ⟨#[105]⟩ ++ (⟨#[32, 37, 32]⟩ ++ S8 (Lib.itoa m)) else ⟨#[105]⟩) ++ ⟨#[32, 61, 32]⟩) ++ S8 (joinF txS [44] sp) := by
 symm
 apply zju
 rw [z3i, z4z]
 unfold txR
 cases ng
 ·by_cases h : 0 < m
  ·rw [if_neg (by simp), if_pos h, z3i, z3i, z3i, z4z]; simp [h]
  ·rw [if_neg (by simp), if_neg h, z3i]; simp [h]
 ·by_cases h : 0 < m
  ·rw [if_pos rfl, if_pos h, z3i, z3i, z3i, z4z]; simp [h]
  ·rw [if_pos rfl, if_neg h, z3i]; simp [h]
theorem zcn (w : World) (m : Int) (ng : Bool) (a : Option Addr) (cap : Nat) (sp : List Sp) (hIn : SlS w (Old w) (.slice a sp.length cap) sp) (hr : rgR ⟨m, ng, sp⟩ = true) (ht : TabW w) :
  Calls Tryz.prog 256 #[.agg #[.int .i64 m, .bool ng, .slice a sp.length cap]] w fun e w' => e = .returned (.string (S8 (txR ⟨m, ng, sp⟩))) /\ Below w.heap.size w w' := by
 obtain ⟨hm0, hm1, hsp⟩ := z8y hr
 simp only at hm0 hm1 hsp
 have HSP := hid hsp
 have HB0 := hid (z02 w (.cells #[.int .i64 m, .bool ng, .slice a sp.length cap] 245))
 have HIN := hid (hIn.below HB0.out)
 have HT := hid (ht.below HB0.out)
 have HR := hid (z04 w #[.int .i64 m, .bool ng, .slice a sp.length cap] 245)
 have hjl := z2x (f := txS) (sep := [44]) hsp (fun x hx => zc7 hx)
 rw [<- z7n] at hjl
 simp only [List.length_cons, List.length_nil] at hjl
 clear hIn ht hr hsp
 have HE := hid (txR_of m ng sp)
 by_cases hm : 0 < m
 ·have hil := z4d hm0 hm1
  rw [<- z7n] at hil
  have HC := hid (z9h m _ hm0 hm1 HT.out)
  have HE2 := hid (HE.out.trans (by rw [if_pos hm]))
  clear HE
  generalize S8 (Lib.itoa m) = im at *
  have c0 := HR.out.cell (i := 0) rfl
  have hf1 : ¬ 9223372036854775807 < 3 + im.size := by omega
  have hf2 : ¬ 9223372036854775807 < 1 + (3 + im.size) := by omega
  go_enter Tryz.func256, Tryz.ntmps256
  go_wp2_with fail
  refine HC.out.mono ?_
  rintro e w5 ⟨rfl, hb5⟩
  have HB5 := hid (z00 HB0.out hb5)
  have HR5 := hid (HR.out.below hb5)
  have HJ := hid (z4m w5 a cap sp (HIN.out.below hb5) HSP.out (HT.out.below hb5))
  clear hb5 c0
  have c0 := HR5.out.cell (i := 0) rfl
  have c1 := HR5.out.cell (i := 1) rfl
  have c2 := HR5.out.cell (i := 2) rfl
  cases ng with
  | true =>
   have HE3 := hid (HE2.out.trans (by rw [if_pos rfl]))
   clear HE2
   go_wp2_with fail
   refine HJ.out.mono ?_
   rintro e w6 ⟨rfl, hb6⟩
   have HB6 := hid (z00 HB5.out hb6)
   clear hb6
   generalize S8 (joinF txS [44] sp) = js at *
   go_wp2
   go_ret
   exact ⟨by rw [HE3.out]; rfl, HB6.out⟩
  | false =>
   have HE3 := hid (HE2.out.trans (by rw [if_neg (by simp)]))
   clear HE2
   go_wp2_with fail
   refine HJ.out.mono ?_
   rintro e w6 ⟨rfl, hb6⟩
   have HB6 := hid (z00 HB5.out hb6)
   clear hb6
   generalize S8 (joinF txS [44] sp) = js at *
   go_wp2
   go_ret
   exact ⟨by rw [HE3.out]; rfl, HB6.out⟩
 ·have HE2 := hid (HE.out.trans (by rw [if_neg hm]))
  clear HE
  have HJ := hid (z4m _ a cap sp HIN.out HSP.out HT.out)
  have c0 := HR.out.cell (i := 0) rfl
  have c1 := HR.out.cell (i := 1) rfl
  have c2 := HR.out.cell (i := 2) rfl
  cases ng with
  | true =>
   have HE3 := hid (HE2.out.trans (by rw [if_pos rfl]))
   clear HE2
   go_enter Tryz.func256, Tryz.ntmps256
   go_wp2_with fail
   refine HJ.out.mono ?_
   rintro e w6 ⟨rfl, hb6⟩
   have HB6 := hid (z00 HB0.out hb6)
   clear hb6
   generalize S8 (joinF txS [44] sp) = js at *
   go_wp2
   go_ret
   exact ⟨by rw [HE3.out]; rfl, HB6.out⟩
  | false =>
   have HE3 := hid (HE2.out.trans (by rw [if_neg (by simp)]))
   clear HE2
   go_enter Tryz.func256, Tryz.ntmps256
   go_wp2_with fail
   refine HJ.out.mono ?_
   rintro e w6 ⟨rfl, hb6⟩
   have HB6 := hid (z00 HB0.out hb6)
   clear hb6
   generalize S8 (joinF txS [44] sp) = js at *
   go_wp2
   go_ret
   exact ⟨by rw [HE3.out]; rfl, HB6.out⟩
theorem z9g (w : World) (a : Option Addr) (cap : Nat) (xs : List (Rl)) (hIn : SlR w (Old w) (.slice a xs.length cap) xs) (hr : allR rgR xs = true) (ht : TabW w) :
  Calls Tryz.prog 255 #[.slice a xs.length cap, .func (.func 256) #[] #[], .string ⟨#[32, 97, 110, 100, 32]⟩] w fun e w' => e = .returned (.string (S8 (joinF txR [32, 97, 110, 100, 32] xs))) /\ Below w.heap.size w w' := by
 obtain ⟨i0, hi, hz0, hz1, hz2⟩ := info_parts info9
 have HIN := hid hIn
 have HT := hid ht
 have HLEN := hid (z2x (f := txR) (sep := [32, 97, 110, 100, 32]) hr (fun x hx => zg6 hx))
 obtain ⟨hg1, hg2, hg3⟩ := z3p hr
 have HG := hid hg3
 clear hIn ht hr hg3
 go_enter Tryz.func255, Tryz.ntmps255
 go_wp2
 go_loopw [7, 12] (fun v i wr => ∃ (k : Nat) (ad : Option Addr) (c : Nat), k <= xs.length /\ i = .int .i64 k /\ v = .slice ad k c /\ Hid (wr.ownsRow w.heap.size 9 1 (.slice ad k c) k (strL ((xs.take k).map txR))) /\ Hid (Below w.heap.size w wr)) (fun _ i _ => xs.length - (intOf i).toNat)
 case atStart => exact ⟨0, none, 0, by omega, rfl, rfl, hid (World.ownsRow_nil _ _ _ _), hid (Below.refl _ _)⟩
 case round =>
  obtain ⟨k, ad, c, hk, rfl, rfl, HO, HB⟩ := hrel
  by_cases hlt : k < xs.length
  ·obtain ⟨x, hx⟩ : ∃ x, xs[k]? = some x := ⟨_, List.getElem?_eq_getElem hlt⟩
   obtain ⟨b, off, rfl, hb, hat⟩ := (HIN.out.below HB.out).at_ hx
   have HX := hid hx
   have HGX := hid (HG.out x (List.mem_of_getElem? hx))
   have HTW := hid (HT.out.below HB.out)
   clear hx
   obtain ⟨h0, h1', a1, p1, h9, hsl⟩ := hat.r
   obtain ⟨m, ng, sp⟩ := x
   simp only at h0 h1' h9 hsl
   have R := z04 wr #[.int .i64 m, .bool ng, .slice a1 sp.length p1] 245
   have c0 := R.cell (i := 0) rfl
   have c1 := R.cell (i := 1) rfl
   have c2 := R.cell (i := 2) rfl
   have HC1 := hid (zcn (wr.alloc (.cells #[.int .i64 m, .bool ng, .slice a1 sp.length p1] 245)) m ng a1 p1 sp (hsl.below (z02 _ _)) HGX.out (HTW.out.below (z02 _ _)))
   clear R hsl hat
   go_wp2_with fail
   refine HC1.out.mono ?_
   rintro e w5 ⟨rfl, hb5⟩
   have HB5 := hid (z00 (z02 _ _) hb5)
   have HBW := hid (z00 HB.out HB5.out)
   have HO5 := hid (z11 HO.out HB5.out)
   have HZ : Hid (w.heap.size <= w5.heap.size) := hid HBW.out.size
   have hz5 := HZ.out
   clear hb5
   obtain ⟨tx, HTX⟩ : ∃ t, Hid (S8 (txR ⟨m, ng, sp⟩) = t) := ⟨_, hid rfl⟩
   rw [HTX.out]
   go_wp2_with (at_builtin; refine wpList_append_lies _ rfl _ _ 67 rfl w.heap.size 9 i0 _ 1 16 Tryz.underlying67 hi hz0 hz1 hz2 rfl (by decide) _ _ _ rfl (HO5.out.alloc _) _ 1 1 [.string tx] rfl rfl (z0s _ #[.string tx] _ rfl) (by simp [Value.oneCell']) (by decide) (by unfold maxLen; omega) (by omega) (by simp; omega) (w5.heap.size + 1) (by simp) ?_; intro g6 c6 w6 hown6 hgrow6 _ _; have HO6 := hid hown6; have HG6 := hid hgrow6; clear hown6 hgrow6)
   have HB6 : Hid (Below w.heap.size w w6) := hid (HBW.out.trans (((Below.refl _ w5).alloc (Nat.le_refl _) (.cells #[.string tx] 9)).mono HBW.out.size |>.grown HG6.out (by simp; omega) (fun g hg => (HO5.out.lt g hg).1)))
   go_roundw
   case rel => exact ⟨k + 1, some ⟨g6, 0, none⟩, c6, by omega, by go_num, rfl, hid (by rw [z5q HX.out, z6u, HTX.out]; exact HO6.out), HB6⟩
   case measure => simp [intOf]; omega
  ·obtain rfl : k = xs.length := by omega
   rw [List.take_length] at HO
   obtain ⟨g, hg⟩ : ∃ g, ad = some ⟨g, 0, none⟩ := by
    obtain ⟨a', c', hv, -, -, hx⟩ := z0m HO.out
    obtain ⟨g, hg⟩ := hx (by omega)
    injection hv with h1
    exact ⟨g, h1.trans hg⟩
   subst hg
   obtain ⟨-, ⟨cs, z, hh⟩, hcell⟩ := z1m HO.out rfl
   have hgl : g < wr.heap.size := (Array.getElem?_eq_some_iff.1 hh).1
   have hxc : xs.length <= c := by
    obtain ⟨a', c', hv, h1, -, -⟩ := z0m HO.out
    injection hv with _ _ h2; omega
   have HJ := hid (Tryz.strings_Join g 0 c (xs.map (fun x => S8 (txR x))) ⟨#[32, 97, 110, 100, 32]⟩ wr (fun j t hj => by rw [Nat.zero_add]; exact hcell j _ (by rw [List.getElem?_map] at hj; rw [strL, List.getElem?_map, List.getElem?_map]; revert hj; cases xs[j]? with | none => simp | some x => simp)) hgl (by rw [List.length_map]; omega) (by rw [List.length_map]; exact hxc) (by rw [z7z, z1v]; exact Nat.le_trans HLEN.out (by decide)))
   rw [List.length_map, z7z, z1v] at HJ
   clear hcell hh
   go_wp2_with fail
   refine HJ.out.mono ?_
   rintro e w5 ⟨rfl, hb5⟩
   have HB5 := hid (z00 HB.out hb5)
   clear hb5
   go_wp2
   go_ret
   exact ⟨rfl, HB5.out⟩
theorem zcl (w : World) (a : Option Addr) (cap : Nat) (xs : List Rl) (hIn : SlR w (Old w) (.slice a xs.length cap) xs) (hr : rgRow xs = true) (ht : TabW w) : Calls Tryz.prog 251 #[.slice a xs.length cap] w fun e w' => e = .returned (.string (S8 (txRow xs))) /\ Below w.heap.size w w' := by
 have HC := hid (z9g _ a cap xs hIn hr ht)
 clear hIn hr ht
 go_enter Tryz.func251, Tryz.ntmps251
 go_wp2_with fail
 refine HC.out.mono ?_
 rintro e w5 ⟨rfl, hb5⟩
 go_wp2
 go_ret
 exact ⟨rfl, hb5⟩
theorem z9f (w : World) (a : Option Addr) (cap : Nat) (xs : List (List Rl)) (hIn : SlW w (Old w) (.slice a xs.length cap) xs) (hr : allR rgRow xs = true) (ht : TabW w) :
  Calls Tryz.prog 250 #[.slice a xs.length cap, .func (.func 251) #[] #[], .string ⟨#[32, 111, 114, 32]⟩] w fun e w' => e = .returned (.string (S8 (joinF txRow [32, 111, 114, 32] xs))) /\ Below w.heap.size w w' := by
 obtain ⟨i0, hi, hz0, hz1, hz2⟩ := info_parts info9
 have HIN := hid hIn
 have HT := hid ht
 have HLEN := hid (z2x (f := txRow) (sep := [32, 111, 114, 32]) hr (fun x hx => zaa hx))
 obtain ⟨hg1, hg2, hg3⟩ := z3p hr
 have HG := hid hg3
 clear hIn ht hr hg3
 go_enter Tryz.func250, Tryz.ntmps250
 go_wp2
 go_loopw [7, 12] (fun v i wr => ∃ (k : Nat) (ad : Option Addr) (c : Nat), k <= xs.length /\ i = .int .i64 k /\ v = .slice ad k c /\ Hid (wr.ownsRow w.heap.size 9 1 (.slice ad k c) k (strL ((xs.take k).map txRow))) /\ Hid (Below w.heap.size w wr)) (fun _ i _ => xs.length - (intOf i).toNat)
 case atStart => exact ⟨0, none, 0, by omega, rfl, rfl, hid (World.ownsRow_nil _ _ _ _), hid (Below.refl _ _)⟩
 case round =>
  obtain ⟨k, ad, c, hk, rfl, rfl, HO, HB⟩ := hrel
  by_cases hlt : k < xs.length
  ·obtain ⟨x, hx⟩ : ∃ x, xs[k]? = some x := ⟨_, List.getElem?_eq_getElem hlt⟩
   obtain ⟨b, off, rfl, hb, hat⟩ := (HIN.out.below HB.out).at_ hx
   have HX := hid hx
   have HGX := hid (HG.out x (List.mem_of_getElem? hx))
   have HTW := hid (HT.out.below HB.out)
   clear hx
   obtain ⟨a1, p1, h9, hsl⟩ := hat.w
   rw [Nat.mul_one] at h9
   have HC1 := hid (zcl wr a1 p1 x hsl HGX.out HTW.out)
   clear hsl hat
   go_wp2_with fail
   refine HC1.out.mono ?_
   rintro e w5 ⟨rfl, hb5⟩
   have HB5 := hid (hb5)
   have HBW := hid (z00 HB.out HB5.out)
   have HO5 := hid (z11 HO.out HB5.out)
   have HZ : Hid (w.heap.size <= w5.heap.size) := hid HBW.out.size
   have hz5 := HZ.out
   clear hb5
   obtain ⟨tx, HTX⟩ : ∃ t, Hid (S8 (txRow x) = t) := ⟨_, hid rfl⟩
   rw [HTX.out]
   go_wp2_with (at_builtin; refine wpList_append_lies _ rfl _ _ 67 rfl w.heap.size 9 i0 _ 1 16 Tryz.underlying67 hi hz0 hz1 hz2 rfl (by decide) _ _ _ rfl (HO5.out.alloc _) _ 1 1 [.string tx] rfl rfl (z0s _ #[.string tx] _ rfl) (by simp [Value.oneCell']) (by decide) (by unfold maxLen; omega) (by omega) (by simp; omega) (w5.heap.size + 1) (by simp) ?_; intro g6 c6 w6 hown6 hgrow6 _ _; have HO6 := hid hown6; have HG6 := hid hgrow6; clear hown6 hgrow6)
   have HB6 : Hid (Below w.heap.size w w6) := hid (HBW.out.trans (((Below.refl _ w5).alloc (Nat.le_refl _) (.cells #[.string tx] 9)).mono HBW.out.size |>.grown HG6.out (by simp; omega) (fun g hg => (HO5.out.lt g hg).1)))
   go_roundw
   case rel => exact ⟨k + 1, some ⟨g6, 0, none⟩, c6, by omega, by go_num, rfl, hid (by rw [z5q HX.out, z6u, HTX.out]; exact HO6.out), HB6⟩
   case measure => simp [intOf]; omega
  ·obtain rfl : k = xs.length := by omega
   rw [List.take_length] at HO
   obtain ⟨g, hg⟩ : ∃ g, ad = some ⟨g, 0, none⟩ := by
    obtain ⟨a', c', hv, -, -, hx⟩ := z0m HO.out
    obtain ⟨g, hg⟩ := hx (by omega)
    injection hv with h1
    exact ⟨g, h1.trans hg⟩
   subst hg
   obtain ⟨-, ⟨cs, z, hh⟩, hcell⟩ := z1m HO.out rfl
   have hgl : g < wr.heap.size := (Array.getElem?_eq_some_iff.1 hh).1
   have hxc : xs.length <= c := by
    obtain ⟨a', c', hv, h1, -, -⟩ := z0m HO.out
    injection hv with _ _ h2; omega
   have HJ := hid (Tryz.strings_Join g 0 c (xs.map (fun x => S8 (txRow x))) ⟨#[32, 111, 114, 32]⟩ wr (fun j t hj => by rw [Nat.zero_add]; exact hcell j _ (by rw [List.getElem?_map] at hj; rw [strL, List.getElem?_map, List.getElem?_map]; revert hj; cases xs[j]? with | none => simp | some x => simp)) hgl (by rw [List.length_map]; omega) (by rw [List.length_map]; exact hxc) (by rw [z7z, z1v]; exact Nat.le_trans HLEN.out (by decide)))
   rw [List.length_map, z7z, z1v] at HJ
   clear hcell hh
   go_wp2_with fail
   refine HJ.out.mono ?_
   rintro e w5 ⟨rfl, hb5⟩
   have HB5 := hid (z00 HB.out hb5)
   clear hb5
   go_wp2
   go_ret
   exact ⟨rfl, HB5.out⟩
theorem zan (w : World) (a : Option Addr) (cap : Nat) (xs : Rule) (hIn : SlW w (Old w) (.slice a xs.length cap) xs) (hr : z0x xs = true) (ht : TabW w) : Calls Tryz.prog 245 #[.slice a xs.length cap] w fun e w' => e = .returned (.string (S8 (z0h xs))) /\ Below w.heap.size w w' := by
 have HC := hid (z9f _ a cap xs hIn hr ht)
 clear hIn hr ht
 go_enter Tryz.func245, Tryz.ntmps245
 go_wp2_with fail
 refine HC.out.mono ?_
 rintro e w5 ⟨rfl, hb5⟩
 go_wp2
 go_ret
 exact ⟨rfl, hb5⟩
end Go.Proofs.YtdnedbcmgkilaaaGreatDoor.Pu
