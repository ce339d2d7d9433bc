/- Print and Parse. -/
import Derived.Test.YtdnedbcmgkilaaaGreatDoorZSg15
import Derived.Test.YtdnedbcmgkilaaaGreatDoorZSUTx

section

namespace Go.Proofs.YtdnedbcmgkilaaaGreatDoor.Pu
set_option maxHeartbeats 3200000
set_option maxRecDepth 100000
open Go.Lib (hid)
open Go.RowKit
def z64 (r : Rule) : List UInt8 × Nat := if z0x r then (if 400 < (z0h r).length then ([], 2) else (z0h r, 0)) else ([], 1)
theorem zaz {r : Rule} (h : z0x r = false) : z64 r = ([], 1) := by unfold z64; rw [h]; rfl
theorem z7w {r : Rule} (h : z0x r = true) (h2 : 400 < (z0h r).length) : z64 r = ([], 2) := by unfold z64; rw [if_pos h, if_pos h2]
theorem zdx {r : Rule} (h : z0x r = true) (h2 : ¬ 400 < (z0h r).length) : z64 r = (z0h r, 0) := by unfold z64; rw [if_pos h, if_neg h2]
theorem zh4 (w : World) (a : Option Addr) (cap : Nat) (xs : Rule) (hIn : SlW w (Old w) (.slice a xs.length cap) xs) (ht : TabW w) :
  Calls Tryz.prog 239 #[.slice a xs.length cap] w fun e w' => e = .returned (.tuple #[.string (S8 (z64 xs).1), .int .i64 (z64 xs).2]) /\ Below w.heap.size w w' := by
 have HIN := hid hIn
 have HT := hid ht
 have HC := hid (z1o w a cap xs hIn)
 clear hIn ht
 cases hr : z0x xs with
 | false =>
  have HE := hid (zaz hr)
  rw [hr] at HC
  clear hr
  go_enter Tryz.func239, Tryz.ntmps239
  go_wp2_with fail
  refine HC.out.mono ?_
  rintro e w5 ⟨rfl, hb5⟩
  go_wp2
  go_ret2
  exact ⟨by rw [HE.out]; rfl, hb5⟩
 | true =>
  rw [hr] at HC
  have HR := hid hr
  have hl := zfh hr
  rw [<- z7n] at hl
  clear hr
  go_enter Tryz.func239, Tryz.ntmps239
  go_wp2_with fail
  refine HC.out.mono ?_
  rintro e w5 ⟨rfl, hb5⟩
  have HB5 := hid hb5
  have HX := hid (zan w5 a cap xs (HIN.out.below hb5) HR.out (HT.out.below hb5))
  clear hb5
  go_wp2_with fail
  refine HX.out.mono ?_
  rintro e w6 ⟨rfl, hb6⟩
  have HB6 := hid (z00 HB5.out hb6)
  clear hb6
  have HS : Hid ((S8 (z0h xs)).size = (z0h xs).length) := hid (z7n _)
  by_cases h4 : 400 < (S8 (z0h xs)).size
  ·have HE := hid (z7w HR.out (by rw [<- HS.out]; exact h4))
   go_wp2
   go_ret2
   exact ⟨by rw [HE.out]; rfl, HB6.out⟩
  ·have HE := hid (zdx HR.out (by rw [<- HS.out]; exact h4))
   go_wp2
   go_ret2
   exact ⟨by rw [HE.out]; rfl, HB6.out⟩
theorem z5s {l : List UInt8} (h : 400 < l.length) : z03 l = ([], 2, 0) := by unfold z03; rw [if_pos h]
theorem zcv {l : List UInt8} (h : ¬ 400 < l.length) (h2 : (ruleF l (0, false)).2.2 = true) : z03 l = ([], if (ruleF l (0, false)).2.1 = l.length then 10 else 80, (ruleF l (0, false)).2.1) := by unfold z03; rw [if_neg h, if_pos h2]
theorem z0u {l : List UInt8} (h : ¬ 400 < l.length) (h2 : (ruleF l (0, false)).2.2 = false) (h3 : z0x (ruleF l (0, false)).1 = true) (h4 : z0h (ruleF l (0, false)).1 = l) : z03 l = ((ruleF l (0, false)).1, 0, 0) := by
 unfold z03; rw [if_neg h, h2, if_neg (by simp), if_pos ⟨h3, h4⟩]
theorem z74 {l : List UInt8} (h : ¬ 400 < l.length) (h2 : (ruleF l (0, false)).2.2 = false) (h3 : ¬ (z0x (ruleF l (0, false)).1 = true /\ z0h (ruleF l (0, false)).1 = l)) : z03 l = ([], 1, 0) := by
 unfold z03; rw [if_neg h, h2, if_neg (by simp), if_neg h3]
theorem SlW.kpt {w w' : World} {T : List Nat} {v : Value} {xs : Rule} (h : SlW w (Ty T w) v xs) (hb : KpT T w w') : SlW w' (Ty T w') v xs := SlW.keep (fun b h => hb b h) (fun b h => h.keep (hb b h)) h
def PPost (l : List UInt8) (w : World) (e : Ending) (w' : World) : Prop :=
 ∃ a cap, e = .returned (.tuple #[.slice a (z03 l).1.length cap, .int .i64 (z03 l).2.1, .int .i64 (z03 l).2.2]) /\ SlW w' (Ty [266, 245, 231] w') (.slice a (z03 l).1.length cap) (z03 l).1 /\ Below w.heap.size w w'
theorem slw_nil (w : World) (S : Nat -> Prop) : SlW w S (.slice none ([] : Rule).length 0) [] := ⟨none, 0, rfl, Nat.le_refl _, by omega, fun h => absurd rfl h⟩
theorem z2p {l : List UInt8} {w w' : World} {er at_ : Nat} (h : z03 l = ([], er, at_)) (hb : Below w.heap.size w w') : PPost l w (.returned (.tuple #[.slice none 0 0, .int .i64 er, .int .i64 at_])) w' := by
 unfold PPost; rw [h]; exact ⟨none, 0, rfl, slw_nil _ _, hb⟩
theorem z3a {s t : BA} (h : s.data.toList = t.data.toList) : s = t := (zju h).trans (zju rfl).symm
theorem ba_ne {s t : BA} (h : s ≠ t) : (s.toList == t.toList) = false := by
 rw [beq_eq_false_iff_ne]
 intro h2
 rw [ByteArray.toList_eq, ByteArray.toList_eq] at h2
 exact h (z3a h2)
theorem z5e (w : World) (s : BA) (hs : s.size <= 9223372036854775807) (ht : TabW w) : Calls Tryz.prog 234 #[.string s] w (PPost s.data.toList w) := by
 by_cases hlong : 400 < s.size
 ·have HE := hid (z5s (l := s.data.toList) (by simpa using hlong))
  go_enter Tryz.func234, Tryz.ntmps234
  go_wp2
  refine bodyPost_ret (v := .tuple #[.slice none 0 0, .int .i64 2, .int .i64 0]) (by simp [results, Tryz.results234, go_sem]) rfl (z2p HE.out (Below.refl _ _))
 ·have HL : Hid (¬ 400 < s.data.toList.length) := hid (by simpa using hlong)
  have HT := hid ht
  have HR0 : Hid (RdAt (w.alloc (.cells #[.string s, .int .i64 0, .bool false] 255)) w.heap.size s (0, false)) := hid (z04 w #[.string s, .int .i64 0, .bool false] 255)
  have HRU := hid (rule_any w.heap.size s (0, false) _ (by omega) (by simp) HR0.out)
  have HGE : Hid ((ruleF s.data.toList (0, false)).2.1 <= s.size) := hid (by have := (ge_rule s.data.toList (0, false)).2 (by simp); simpa using this)
  clear ht
  go_enter Tryz.func234, Tryz.ntmps234
  go_wp2_with fail
  refine HRU.out.mono ?_
  rintro e w1 ⟨a, cap, rfl, hsl, hr1, hf1⟩
  have HB1 : Hid (Below w.heap.size w w1) := hid (Fr.to_below (z02 w _) hf1 (Nat.le_refl _))
  have HSL := hid hsl
  have HR1 := hid hr1
  clear hr1 hf1 hsl HRU HR0
  have hE1 := fun h => zcv (l := s.data.toList) HL.out h
  have hE2 := fun h => z0u (l := s.data.toList) HL.out h
  have hE3 := fun h => z74 (l := s.data.toList) HL.out h
  generalize ruleF s.data.toList (0, false) = q at *
  obtain ⟨r, at1, st⟩ := q
  simp only at HSL HR1 HGE hE1 hE2 hE3 ⊢
  have HE1 := hid hE1
  have HE2 := hid hE2
  have HE3 := hid hE3
  clear hE1 hE2 hE3
  have c1 := HR1.out.c1
  have c2 := HR1.out.c2
  simp only at c1 c2
  cases st with
  | true =>
   have HE := hid (HE1.out rfl)
   clear HE1 HE2 HE3
   by_cases hat : at1 = s.size
   ·obtain rfl := hat
    have hB : ((s.size : Int) == (s.size : Int)) = true := by simp
    have HEE : Hid (z03 s.data.toList = ([], 10, s.size)) := hid (by rw [HE.out, if_pos (by simp)])
    clear HE
    go_wp2
    go_quiet (fail)
    go_wp2
    refine bodyPost_ret (v := .tuple #[.slice none 0 0, .int .i64 10, .int .i64 s.size]) (by simp [results, Tryz.results234, go_sem]) rfl (z2p HEE.out (z0r HB1.out _))
   ·have hB : ((at1 : Int) == (s.size : Int)) = false := by simp; omega
    have HEE : Hid (z03 s.data.toList = ([], 80, at1)) := hid (by rw [HE.out, if_neg (by simpa using hat)])
    clear HE
    go_wp2
    go_quiet (fail)
    go_wp2
    refine bodyPost_ret (v := .tuple #[.slice none 0 0, .int .i64 80, .int .i64 at1]) (by simp [results, Tryz.results234, go_sem]) rfl (z2p HEE.out (z0r HB1.out _))
  | false =>
   have HP := hid (zh4 w1 a cap r HSL.out.old (HT.out.below HB1.out))
   go_wp2_with fail
   refine HP.out.mono ?_
   rintro e w2 ⟨rfl, hb2⟩
   have HB2 := hid (z00 HB1.out hb2)
   have HSL2 := hid (HSL.out.kpt (KpT.of_below hb2))
   clear hb2 HP HSL HR1
   cases hr : z0x r with
   | false =>
    have HEE := hid (HE3.out trivial (fun h => by rw [hr] at h; cases h.1))
    rw [zaz hr]
    clear HE1 HE2 HE3 hr
    go_wp2
    refine bodyPost_ret (v := .tuple #[.slice none 0 0, .int .i64 1, .int .i64 0]) (by simp [results, Tryz.results234, go_sem]) rfl (z2p HEE.out HB2.out)
   | true =>
    by_cases h4 : 400 < (z0h r).length
    ·have HEE := hid (HE3.out trivial (fun h => by have := HL.out; rw [<- h.2] at this; exact this h4))
     rw [z7w hr h4]
     clear HE1 HE2 HE3 hr
     go_wp2
     refine bodyPost_ret (v := .tuple #[.slice none 0 0, .int .i64 1, .int .i64 0]) (by simp [results, Tryz.results234, go_sem]) rfl (z2p HEE.out HB2.out)
    ·rw [zdx hr h4]
     by_cases he : z0h r = s.data.toList
     ·have HEE := hid (HE2.out trivial hr he)
      have hS : S8 (z0h r) = s := by rw [he]; exact (zju rfl).symm
      rw [hS]
      clear HE1 HE2 HE3 hr he h4 hS
      go_wp2
      refine bodyPost_ret (v := .tuple #[.slice a r.length cap, .int .i64 0, .int .i64 0]) (by simp [results, Tryz.results234, go_sem]) rfl ?_
      unfold PPost; rw [HEE.out]; exact ⟨a, cap, rfl, HSL2.out, HB2.out⟩
     ·have HEE := hid (HE3.out trivial (fun h => he h.2))
      have hS : S8 (z0h r) ≠ s := fun h => he (by rw [<- h, z4z])
      clear HE1 HE2 HE3 hr he h4
      generalize S8 (z0h r) = t at *
      have hB := ba_ne hS
      clear hS
      go_wp2
      refine bodyPost_ret (v := .tuple #[.slice none 0 0, .int .i64 1, .int .i64 0]) (by simp [results, Tryz.results234, go_sem]) rfl (z2p HEE.out HB2.out)
end Go.Proofs.YtdnedbcmgkilaaaGreatDoor.Pu

end

section

namespace Go.Proofs.YtdnedbcmgkilaaaGreatDoor.Pu
set_option maxHeartbeats 3200000
set_option maxRecDepth 100000
open Go.Lib (hid)
open Go.RowKit
theorem inS_yes {sp : List Sp} {i : Int} {j : Nat} {x : Sp} (hj : sp[j]? = some x) (h1 : x.lo <= i) (h2 : i <= x.hi) : inS sp i = true := by
 unfold inS; rw [List.any_eq_true]; exact ⟨x, List.mem_of_getElem? hj, by simp [h1, h2]⟩
theorem inS_no {sp : List Sp} {i : Int} (h : ∀ (j : Nat) (x : Sp), sp[j]? = some x -> ¬ (x.lo <= i /\ i <= x.hi)) : inS sp i = false := by
 unfold inS; rw [List.any_eq_false]; intro x hx
 obtain ⟨j, hj⟩ := List.mem_iff_getElem?.1 hx
 have := h j x hj
 simpa using this
theorem z7a (w : World) (a : Option Addr) (cap : Nat) (xs : List Sp) (i : Int) (hi0 : 0 <= i) (hIn : SlS w (Old w) (.slice a xs.length cap) xs) (hr : allR rgS xs = true) :
  Calls Tryz.prog 242 #[.slice a xs.length cap, .int .u64 i] w fun e w' => e = .returned (.bool (inS xs i)) /\ Below w.heap.size w w' := by
 have HIN := hid hIn
 obtain ⟨hg1, hg2, hg3⟩ := z3p hr
 have HG := hid hg3
 clear hIn hr hg3
 go_enter Tryz.func242, Tryz.ntmps242
 go_wp2
 go_loopw [9] (fun v wr => ∃ k : Nat, k <= xs.length /\ v = .int .i64 k /\ Hid (∀ (j : Nat) (x : Sp), j < k -> xs[j]? = some x -> ¬ (x.lo <= i /\ i <= x.hi)) /\ Hid (Below w.heap.size w wr)) (fun v _ => xs.length - (intOf v).toNat)
 case atStart => exact ⟨0, by omega, rfl, hid (fun j x hj => by omega), hid (Below.refl _ _)⟩
 case round =>
  obtain ⟨k, hk, rfl, HA, HB⟩ := hrel
  by_cases hlt : k < xs.length
  ·obtain ⟨x, hx⟩ : ∃ x, xs[k]? = some x := ⟨_, List.getElem?_eq_getElem hlt⟩
   obtain ⟨b, off, rfl, hb, hat⟩ := (HIN.out.below HB.out).at_ hx
   obtain ⟨hs0, hs1, hs2⟩ := z8x (HG.out x (List.mem_of_getElem? hx))
   have HX := hid hx
   clear hx
   obtain ⟨h0, h9⟩ := hat.s
   obtain ⟨lo, hi⟩ := x
   simp only at h0 h9 hs0 hs1 hs2
   have R := z04 wr #[.int .i64 lo, .int .i64 hi] 266
   have c0 := R.cell (i := 0) rfl
   have c1 := R.cell (i := 1) rfl
   have HB2 := hid (z00 HB.out (z02 wr (.cells #[.int .i64 lo, .int .i64 hi] 266)))
   clear R hat
   by_cases h1 : lo <= i
   ·by_cases h2 : i <= hi
    ·have HE := hid (inS_yes HX.out h1 h2)
     go_wp2
     go_ret
     exact ⟨z01 HE.out.symm, HB2.out⟩
    ·have HN : Hid (¬ (lo <= i /\ i <= hi)) := hid (fun h => h2 h.2)
     go_wp2
     go_roundw
     case rel => exact ⟨k + 1, by omega, by go_num, hid (fun j y hj hy => by
      by_cases hjk : j < k
      ·exact HA.out j y hjk hy
      ·obtain rfl : j = k := by omega
       rw [HX.out] at hy; obtain rfl := Option.some.inj hy; exact HN.out), HB2⟩
     case measure => simp [intOf]; omega
   ·have HN : Hid (¬ (lo <= i /\ i <= hi)) := hid (fun h => h1 h.1)
    go_wp2
    go_roundw
    case rel => exact ⟨k + 1, by omega, by go_num, hid (fun j y hj hy => by
     by_cases hjk : j < k
     ·exact HA.out j y hjk hy
     ·obtain rfl : j = k := by omega
      rw [HX.out] at hy; obtain rfl := Option.some.inj hy; exact HN.out), HB2⟩
    case measure => simp [intOf]; omega
  ·have HE := hid (inS_no (sp := xs) (i := i) (fun j x hx => HA.out j x (by have := (List.getElem?_eq_some_iff.1 hx).1; omega) hx))
   go_wp2
   go_ret
   exact ⟨z01 HE.out.symm, HB.out⟩
theorem hoR_mod {m i : Int} {ng : Bool} {sp : List Sp} (h : 0 < m) : hoR ⟨m, ng, sp⟩ i = (inS sp (i % m) != ng) := by unfold hoR; rw [if_pos h]
theorem hoR_all {m i : Int} {ng : Bool} {sp : List Sp} (h : ¬ 0 < m) : hoR ⟨m, ng, sp⟩ i = (inS sp i != ng) := by unfold hoR; rw [if_neg h]
theorem zay (w : World) (m : Int) (ng : Bool) (a : Option Addr) (cap : Nat) (sp : List Sp) (i : Int) (hi0 : 0 <= i) (hIn : SlS w (Old w) (.slice a sp.length cap) sp) (hr : rgR ⟨m, ng, sp⟩ = true) :
  Calls Tryz.prog 237 #[.agg #[.int .i64 m, .bool ng, .slice a sp.length cap], .int .u64 i] w fun e w' => e = .returned (.bool (hoR ⟨m, ng, sp⟩ i)) /\ Below w.heap.size w w' := by
 obtain ⟨hm0, hm1, hsp⟩ := z8y hr
 simp only at hm0 hm1 hsp
 have HSP := hid hsp
 have HB0 := hid (z02 w (.cells #[.int .i64 m, .bool ng, .slice a sp.length cap] 245))
 have HIN := hid (hIn.below HB0.out)
 have HR := hid (z04 w #[.int .i64 m, .bool ng, .slice a sp.length cap] 245)
 have hrf := Below.refl (w.alloc (.cells #[.int .i64 m, .bool ng, .slice a sp.length cap] 245)).heap.size (w.alloc (.cells #[.int .i64 m, .bool ng, .slice a sp.length cap] 245))
 clear hIn hr hsp
 by_cases hm : 0 < m
 ·have hmz : m ≠ 0 := by omega
  have c0 := HR.out.cell (i := 0) rfl
  go_enter Tryz.func237, Tryz.ntmps237
  go_wp2
  generalize w.alloc (.cells #[.int .i64 m, .bool ng, .slice a sp.length cap] 245) = W at *
  have HE := hid (hoR_mod (i := i) (ng := ng) (sp := sp) (by omega : 0 < m))
  have HC : Hid (∀ W2, Below W.heap.size W W2 -> Calls Tryz.prog 242 #[.slice a sp.length cap, .int .u64 (i % m)] W2 fun e w' => e = .returned (.bool (inS sp (i % m))) /\ w'.cell? ⟨w.heap.size, 1, none⟩ = some (.bool ng) /\ w'.cell? ⟨w.heap.size, 2, none⟩ = some (.slice a sp.length cap) /\ Below W.heap.size W w') := hid (fun W2 hb2 =>
   (z7a W2 a cap sp (i % m) (Int.emod_nonneg _ (by omega)) (HIN.out.below hb2) HSP.out).mono fun e w' ⟨he, hb⟩ => ⟨he, (HR.out.below (z00 hb2 hb)).cell (i := 1) rfl, (HR.out.below (z00 hb2 hb)).cell (i := 2) rfl, z00 hb2 hb⟩)
  have c1 := HR.out.cell (i := 1) rfl
  have c2 := HR.out.cell (i := 2) rfl
  clear c0
  go_region_held3 (fun w' => w'.cell? ⟨w.heap.size, 1, none⟩ = some (.bool ng) /\ w'.cell? ⟨w.heap.size, 2, none⟩ = some (.slice a sp.length cap) /\ Below W.heap.size W w') (refine ⟨?_, ?_, ?_⟩ <;> first | assumption | exact Below.drew (by assumption))
   (first
    | (go_at_call 242; refine (HC.out _ ?_).mono ?_; (first | assumption | exact Below.drew (by assumption) | exact Below.drew (Below.drew (by assumption))); rintro e w2 ⟨rfl, hM1, hN1, hb2⟩)
    | fail)
  all_goals go_wp2
  all_goals go_ret
  all_goals exact ⟨z01 HE.out.symm, z00 HB0.out (by assumption)⟩
 ·have hmz : m <= 0 := by omega
  have c0 := HR.out.cell (i := 0) rfl
  go_enter Tryz.func237, Tryz.ntmps237
  go_wp2
  generalize w.alloc (.cells #[.int .i64 m, .bool ng, .slice a sp.length cap] 245) = W at *
  have HE := hid (hoR_all (i := i) (ng := ng) (sp := sp) (by omega : ¬ 0 < m))
  have HC : Hid (∀ W2, Below W.heap.size W W2 -> Calls Tryz.prog 242 #[.slice a sp.length cap, .int .u64 i] W2 fun e w' => e = .returned (.bool (inS sp i)) /\ w'.cell? ⟨w.heap.size, 1, none⟩ = some (.bool ng) /\ w'.cell? ⟨w.heap.size, 2, none⟩ = some (.slice a sp.length cap) /\ Below W.heap.size W w') := hid (fun W2 hb2 =>
   (z7a W2 a cap sp i (hi0) (HIN.out.below hb2) HSP.out).mono fun e w' ⟨he, hb⟩ => ⟨he, (HR.out.below (z00 hb2 hb)).cell (i := 1) rfl, (HR.out.below (z00 hb2 hb)).cell (i := 2) rfl, z00 hb2 hb⟩)
  have c1 := HR.out.cell (i := 1) rfl
  have c2 := HR.out.cell (i := 2) rfl
  clear c0
  go_region_held3 (fun w' => w'.cell? ⟨w.heap.size, 1, none⟩ = some (.bool ng) /\ w'.cell? ⟨w.heap.size, 2, none⟩ = some (.slice a sp.length cap) /\ Below W.heap.size W w') (refine ⟨?_, ?_, ?_⟩ <;> first | assumption | exact Below.drew (by assumption))
   (first
    | (go_at_call 242; refine (HC.out _ ?_).mono ?_; (first | assumption | exact Below.drew (by assumption) | exact Below.drew (Below.drew (by assumption))); rintro e w2 ⟨rfl, hM1, hN1, hb2⟩)
    | fail)
  all_goals go_wp2
  all_goals go_ret
  all_goals exact ⟨z01 HE.out.symm, z00 HB0.out (by assumption)⟩
theorem hoRow_no {r : List Rl} {i : Int} {j : Nat} {x : Rl} (hj : r[j]? = some x) (h : hoR x i = false) : hoRow r i = false := by
 unfold hoRow; rw [List.all_eq_false]; exact ⟨x, List.mem_of_getElem? hj, by simp [h]⟩
theorem zif {r : List Rl} {i : Int} (h : ∀ (j : Nat) (x : Rl), r[j]? = some x -> hoR x i = true) : hoRow r i = true := by
 unfold hoRow; rw [List.all_eq_true]; intro x hx
 obtain ⟨j, hj⟩ := List.mem_iff_getElem?.1 hx
 exact h j x hj
theorem zfu {r : Rule} {i : Int} {j : Nat} {x : List Rl} (hj : r[j]? = some x) (h : hoRow x i = true) : z1g r i = true := by
 unfold z1g; rw [List.any_eq_true]; exact ⟨x, List.mem_of_getElem? hj, h⟩
theorem zie {r : Rule} {i : Int} (h : ∀ (j : Nat) (x : List Rl), r[j]? = some x -> hoRow x i = false) : z1g r i = false := by
 unfold z1g; rw [List.any_eq_false]; intro x hx
 obtain ⟨j, hj⟩ := List.mem_iff_getElem?.1 hx
 simp [h j x hj]
theorem zao (w : World) (a : Option Addr) (cap : Nat) (xs : List Rl) (i : Int) (hi0 : 0 <= i) (hIn : SlR w (Old w) (.slice a xs.length cap) xs) (hr : rgRow xs = true) :
  Calls Tryz.prog 224 #[.slice a xs.length cap, .int .u64 i] w fun e w' => e = .returned (.bool (hoRow xs i)) /\ Below w.heap.size w w' := by
 have HIN := hid hIn
 obtain ⟨hg1, hg2, hg3⟩ := z3p hr
 have HG := hid hg3
 clear hIn hr hg3
 go_enter Tryz.func224, Tryz.ntmps224
 go_wp2
 go_loopw [9] (fun v wr => ∃ k : Nat, k <= xs.length /\ v = .int .i64 k /\ Hid (∀ (j : Nat) (x : Rl), j < k -> xs[j]? = some x -> hoR x i = true) /\ Hid (Below w.heap.size w wr)) (fun v _ => xs.length - (intOf v).toNat)
 case atStart => exact ⟨0, by omega, rfl, hid (fun j x hj => by omega), hid (Below.refl _ _)⟩
 case round =>
  obtain ⟨k, hk, rfl, HA, HB⟩ := hrel
  by_cases hlt : k < xs.length
  ·obtain ⟨x, hx⟩ : ∃ x, xs[k]? = some x := ⟨_, List.getElem?_eq_getElem hlt⟩
   obtain ⟨b, off, rfl, hb, hat⟩ := (HIN.out.below HB.out).at_ hx
   have HX := hid hx
   have HGX := hid (HG.out x (List.mem_of_getElem? hx))
   clear hx
   obtain ⟨h0, h1', a1, p1, h9, hsl⟩ := hat.r
   obtain ⟨m, ng, sp⟩ := x
   simp only at h0 h1' h9 hsl
   have R := z04 wr #[.int .i64 m, .bool ng, .slice a1 sp.length p1] 245
   have c0 := R.cell (i := 0) rfl
   have c1 := R.cell (i := 1) rfl
   have c2 := R.cell (i := 2) rfl
   have HC1 := hid (zay (wr.alloc (.cells #[.int .i64 m, .bool ng, .slice a1 sp.length p1] 245)) m ng a1 p1 sp i hi0 (hsl.below (z02 _ _)) HGX.out)
   clear R hsl hat
   go_wp2_with fail
   refine HC1.out.mono ?_
   rintro e w5 ⟨rfl, hb5⟩
   have HB5 := hid (z00 HB.out (z00 (z02 _ _) hb5))
   clear hb5
   cases hc : hoR ⟨m, ng, sp⟩ i with
   | true =>
    have HE := hid hc
    clear hc
    go_wp2
    go_roundw
    case rel => exact ⟨k + 1, by omega, by go_num, hid (fun j y hj hy => by
     by_cases hjk : j < k
     ·exact HA.out j y hjk hy
     ·obtain rfl : j = k := by omega
      rw [HX.out] at hy; obtain rfl := Option.some.inj hy; exact HE.out), HB5⟩
    case measure => simp [intOf]; omega
   | false =>
    have HE := hid (hoRow_no HX.out hc)
    clear hc
    go_wp2
    go_ret
    exact ⟨z01 HE.out.symm, HB5.out⟩
  ·have HE := hid (zif (r := xs) (i := i) (fun j x hx => HA.out j x (by have := (List.getElem?_eq_some_iff.1 hx).1; omega) hx))
   go_wp2
   go_ret
   exact ⟨z01 HE.out.symm, HB.out⟩
def absF (n : Int) : Int := if n < 0 then -n else n
theorem zfd {n : Int} (h : n < 0) : absF n = -n := if_pos h
theorem zfc {n : Int} (h : ¬ n < 0) : absF n = n := if_neg h
theorem z30 (n : Int) : 0 <= absF n := by unfold absF; split <;> omega
theorem wrap_neg {n : Int} (h1 : -9223372036854775808 <= n) (h : n < 0) : IntKind.u64.wrap (-IntKind.u64.wrap n) = -n := by
 simp [IntKind.wrap, IntKind.bits, IntKind.signed]
 omega
theorem zc3 (n : Int) (w : World) (h1 : -9223372036854775808 <= n) (h2 : n <= 9223372036854775807) : Calls Tryz.prog 223 #[.int .i64 n] w fun e w' => e = .returned (.int .u64 (absF n)) /\ w = w' := by
 by_cases h : n < 0
 ·have HE := hid (zfd h)
  go_enter Tryz.func223, Tryz.ntmps223
  go_wp2
  go_ret
  exact ⟨by rw [HE.out]; exact congrArg (fun z => Ending.returned (.int .u64 z)) (wrap_neg h1 h), rfl⟩
 ·have HE := hid (zfc h)
  go_enter Tryz.func223, Tryz.ntmps223
  go_wp2
  go_ret
  exact ⟨by rw [HE.out]; rfl, rfl⟩
theorem zid (w : World) (a : Option Addr) (cap : Nat) (xs : Rule) (n : Int) (h1 : -9223372036854775808 <= n) (h2 : n <= 9223372036854775807) (hIn : SlW w (Old w) (.slice a xs.length cap) xs) :
  Calls Tryz.prog 198 #[.slice a xs.length cap, .int .i64 n] w fun e w' => e = .returned (.bool (z0x xs && z1g xs (absF n))) /\ Below w.heap.size w w' := by
 have HC := hid (z1o w a cap xs hIn)
 cases hr : z0x xs with
 | false =>
  rw [hr] at HC
  clear hr hIn h1 h2
  go_enter Tryz.func198, Tryz.ntmps198
  go_wp2_with fail
  refine HC.out.mono ?_
  rintro e w5 ⟨rfl, hb5⟩
  go_wp2
  go_ret
  exact ⟨rfl, hb5⟩
 | true =>
  rw [hr] at HC
  obtain ⟨hg1, hg2, hg3⟩ := z3p hr
  have HG := hid hg3
  have HA0 := hid (fun w => zc3 n w h1 h2)
  have HNN := hid (z30 n)
  have HIN := hid hIn
  clear hr hIn h1 h2 hg3
  generalize absF n = i at *
  go_enter Tryz.func198, Tryz.ntmps198
  go_wp2_with fail
  refine HC.out.mono ?_
  rintro e w5 ⟨rfl, hb5⟩
  have HB5 := hid hb5
  have HIN5 := hid (HIN.out.below hb5)
  clear hb5
  go_wp2_with fail
  refine (HA0.out _).mono ?_
  rintro e w6 ⟨rfl, rfl⟩
  go_wp2
  go_loopw [15] (fun v wr => ∃ k : Nat, k <= xs.length /\ v = .int .i64 k /\ Hid (∀ (j : Nat) (x : List Rl), j < k -> xs[j]? = some x -> hoRow x i = false) /\ Hid (Below w5.heap.size w5 wr)) (fun v _ => xs.length - (intOf v).toNat)
  case atStart => exact ⟨0, by omega, rfl, hid (fun j x hj => by omega), hid (Below.refl _ _)⟩
  case round =>
   obtain ⟨k, hk, rfl, HA, HB⟩ := hrel
   by_cases hlt : k < xs.length
   ·obtain ⟨x, hx⟩ : ∃ x, xs[k]? = some x := ⟨_, List.getElem?_eq_getElem hlt⟩
    obtain ⟨b, off, rfl, hb, hat⟩ := (HIN5.out.below HB.out).at_ hx
    have HX := hid hx
    have HGX := hid (HG.out x (List.mem_of_getElem? hx))
    clear hx
    obtain ⟨a1, p1, h9, hsl⟩ := hat.w
    rw [Nat.mul_one] at h9
    have HC1 := hid (zao wr a1 p1 x i HNN.out hsl HGX.out)
    clear hsl hat
    go_wp2_with fail
    refine HC1.out.mono ?_
    rintro e w7 ⟨rfl, hb7⟩
    have HB7 := hid (z00 HB.out hb7)
    clear hb7
    cases hc : hoRow x i with
    | true =>
     have HE := hid (zfu HX.out hc)
     clear hc
     go_wp2
     go_ret
     exact ⟨z01 (by rw [HE.out]; rfl), z00 HB5.out HB7.out⟩
    | false =>
     have HE := hid hc
     clear hc
     go_wp2
     go_roundw
     case rel => exact ⟨k + 1, by omega, by go_num, hid (fun j y hj hy => by
      by_cases hjk : j < k
      ·exact HA.out j y hjk hy
      ·obtain rfl : j = k := by omega
       rw [HX.out] at hy; obtain rfl := Option.some.inj hy; exact HE.out), HB7⟩
     case measure => simp [intOf]; omega
   ·have HE := hid (zie (r := xs) (i := i) (fun j x hx => HA.out j x (by have := (List.getElem?_eq_some_iff.1 hx).1; omega) hx))
    go_wp2
    go_ret
    exact ⟨z01 (by rw [HE.out]; rfl), z00 HB5.out HB.out⟩
end Go.Proofs.YtdnedbcmgkilaaaGreatDoor.Pu

end

section

namespace Go.Proofs.YtdnedbcmgkilaaaGreatDoor.Pu
set_option maxHeartbeats 3200000
set_option maxRecDepth 100000
open Go.Lib (hid)
open Go.RowKit
theorem z0w (w : World) (nm s : BA) (hs : s.size <= 9223372036854775807) (ht : TabW w) :
  Calls Tryz.prog 221 #[.string nm, .string s] w fun e w' => ∃ a cap, e = .returned (.agg #[.string nm, .slice a (z03 s.data.toList).1.length cap]) /\ SlW w' (Ty [266, 245, 231] w') (.slice a (z03 s.data.toList).1.length cap) (z03 s.data.toList).1 /\ Below w.heap.size w w' := by
 have HP := hid (z5e (w.alloc (.cells #[.string ⟨#[]⟩, .slice none 0 0] 210)) s hs (ht.below (z02 _ _)))
 have HQ := hid (z04 w #[.string ⟨#[]⟩, .slice none 0 0] 210)
 clear ht
 go_enter Tryz.func221, Tryz.ntmps221
 go_wp2_with fail
 refine HP.out.mono ?_
 rintro e w1 ⟨a, cap, rfl, hsl, hb⟩
 have HB := hid (z00 (z02 w _) hb)
 have HSL := hid hsl
 have HQ1 := hid (HQ.out.below hb)
 clear hb hsl HP HQ
 obtain ⟨r, e1, e2, HPF⟩ : ∃ r e1 e2, Hid (z03 s.data.toList = (r, e1, e2)) := ⟨_, _, _, hid rfl⟩
 rw [HPF.out] at HSL ⊢
 simp only at HSL ⊢
 obtain ⟨n, HL⟩ : ∃ n, Hid (n = r.length) := ⟨_, hid rfl⟩
 rw [<- HL.out]
 have d0 := HQ1.out.cell (i := 0) rfl
 have d1 := HQ1.out.cell (i := 1) rfl
 have z0 := HQ1.out.thaw 0
 have z1 := HQ1.out.thaw 1
 go_wp2
 have Q3 := HQ1.out.put2 (.string nm) (.slice a n cap)
 have B3 := But.put2 w.heap.size w1 (.string nm) (.slice a n cap)
 generalize ((w1.setCell ⟨w.heap.size, 0, none⟩ (.string nm)).setCell ⟨w.heap.size, 1, none⟩ (.slice a n cap)) = w3 at Q3 B3 ⊢
 have e0 := Q3.cell (i := 0) rfl
 have e1 := Q3.cell (i := 1) rfl
 have hsl := HSL.out.kpt (KpT.of_but B3 HQ1.out (by decide))
 exact bodyPost_ret (v := .agg #[.string nm, .slice a n cap]) (by simp [results, Tryz.results221, go_sem, e0, e1]) rfl (by rw [HPF.out]; rw [HL.out]; exact ⟨a, cap, rfl, hsl, HB.out.trans (B3.below (B := w.heap.size) (Nat.le_refl _))⟩)
end Go.Proofs.YtdnedbcmgkilaaaGreatDoor.Pu

end
