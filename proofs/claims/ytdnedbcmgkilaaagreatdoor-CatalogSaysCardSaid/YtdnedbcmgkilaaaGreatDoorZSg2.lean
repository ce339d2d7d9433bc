/- Package format: Language, Chain. -/
import Derived.Defers
import Derived.Recover
import Derived.Test.YtdnedbcmgkilaaaGreatDoorZSLLo
import Derived.Test.YtdnedbcmgkilaaaGreatDoorZSBd
import Derived.Test.YtdnedbcmgkilaaaGreatDoorZSRh
import Derived.Test.YtdnedbcmgkilaaaGreatDoorZSAs

section

namespace Go.Proofs.YtdnedbcmgkilaaaGreatDoor.Lc
set_option maxHeartbeats 3200000
open Go.Lib (hid)
open Go.RowKit Go.Lib
def langS (s : ByteArray) : ByteArray := if locB s.data.toList then str (langF s.data.toList) else ⟨#[]⟩
theorem zbc {s : ByteArray} (h : locB s.data.toList = true) : langS s = str (langF s.data.toList) := by unfold langS; rw [if_pos h]
theorem zec {s : ByteArray} (h : locB s.data.toList = false) : langS s = ⟨#[]⟩ := by unfold langS; rw [if_neg (by rw [h]; simp)]
theorem lang_any (s : ByteArray) (m : Int) (w : World) (hm : MaxW m w) : Calls Tryz.prog 46 #[.string s] w fun e w' => e = .returned (.string (langS s)) /\ Below w.heap.size w w' := by
 have HL := hid (z5t s m w hm)
 have HM := hid hm
 clear hm
 cases hl : locB s.data.toList with
 | false =>
  rw [hl] at HL
  have HF := hid (zec hl)
  clear hl
  go_enter Tryz.func46, Tryz.ntmps46
  go_wp2_with fail
  refine HL.out.mono ?_
  rintro e w1 ⟨rfl, hb⟩
  have HB := hid hb
  clear hb
  go_wp2
  go_ret
  exact ⟨z90 HF.out.symm, HB.out⟩
 | true =>
  rw [hl] at HL
  have HF := hid (zbc hl)
  have hs := zb9 hl
  clear hl
  go_enter Tryz.func46, Tryz.ntmps46
  go_wp2_with fail
  refine HL.out.mono ?_
  rintro e w1 ⟨rfl, hb⟩
  have HB := hid hb
  clear hb
  have HC := hid (Tryz.strings_Cut s ⟨#[45]⟩ m w1 (by omega) (HM.out.next HB.out))
  have HT : Hid ((⟨(Lib.cut s.data.toList (⟨#[45]⟩ : ByteArray).data.toList).1.toArray⟩ : ByteArray) = langS s) := hid (by
   rw [HF.out]
   have := cut_lang s.data.toList
   exact congrArg str this)
  go_wp2_with fail
  refine HC.out.mono ?_
  rintro e w2 ⟨rfl, n, rfl⟩
  rw [HT.out]
  have HB2 := hid (z0r HB.out n)
  generalize w1.drewN n = w2 at *
  generalize (⟨(Lib.cut s.data.toList (⟨#[45]⟩ : ByteArray).data.toList).2.1.toArray⟩ : ByteArray) = r2 at *
  generalize (Lib.cut s.data.toList (⟨#[45]⟩ : ByteArray).data.toList).2.2 = r3 at *
  go_wp2
  go_ret
  exact ⟨rfl, HB2.out⟩
abbrev lists (xs : List ByteArray) : List (List UInt8) := xs.map (·.data.toList)
theorem zba : ∀ {xs ys : List ByteArray}, lists xs = lists ys -> xs = ys
 | [], [], _ => rfl
 | [], _ :: _, h => by cases h
 | _ :: _, [], h => by cases h
 | x :: xs, y :: ys, h => by
  injection h with h1 h2
  rw [z3a h1, zba h2]
def z1c (l : List UInt8) : List (List UInt8) := if l = [] ∨ locB l = true then z2d l else []
theorem z7h (l : List UInt8) (h : l ≠ []) : z2d l = l :: z2d (l.take (lastD l l.length)) := by
 have hk := z9e l l.length
 have e1 : (l.take (lastD l l.length)).length = lastD l l.length := by rw [List.length_take]; omega
 unfold z2d
 rw [if_neg h]
 by_cases h0 : lastD l l.length = 0
 ·have ep := z92 l l.length
  rw [if_pos h0] at ep
  rw [ep, h0, List.take_zero, if_pos rfl]; rfl
 ·have hne : l.take (lastD l l.length) ≠ [] := by
   intro e; rw [e] at e1; simp at e1; omega
  rw [if_neg hne, e1, zdy l _ _ (Nat.le_refl _)]
  have ep := z92 l l.length
  rw [if_neg h0] at ep
  rw [ep]; rfl
theorem z8b {l : List UInt8} (h : locB l = true) : z1c l = z2d l := by unfold z1c; rw [if_pos (.inr h)]
theorem zf3 {l : List UInt8} (h : locB l = false) (h0 : l ≠ []) : z1c l = [] := by unfold z1c; rw [if_neg (by rw [h]; simp [h0])]
def szV : Value -> Nat
 | .string x => x.size
 | _ => 0
theorem ze9 (x : ByteArray) : max 0 (lastIndexByte x 45) = (lastD x.data.toList x.data.toList.length : Int) := by
 have h := z3y x x.size (Nat.le_refl _)
 rw [z1k]; exact h
theorem z36 (x : ByteArray) (k : Nat) : (x.extract 0 k).data.toList = x.data.toList.take k := by simp
end Go.Proofs.YtdnedbcmgkilaaaGreatDoor.Lc

end

section

namespace Go.Proofs.YtdnedbcmgkilaaaGreatDoor
set_option maxHeartbeats 1600000
set_option maxRecDepth 100000
open Go.Lib (hid)
open Go.RowKit
theorem z8e {B b : Nat} {p : Value} {bs : List Value} {w w' : World} (h : Lib.BuilderAtF 153 5 B b p bs w) (hb : Below w.heap.size w w') : Lib.BuilderAtF 153 5 B b p bs w' := by
 have hlt := h.lt
 obtain ⟨hB, v, hv, hown, hne⟩ := h
 exact ⟨hB, v, (hb.block b hlt).trans hv, hown.kept (row := none) ⟨hb.os, hb.tape, hb.output, hb.size, fun k hk _ => hb.block k hk⟩ (Classical.em _), hne⟩
theorem z9z {B b : Nat} {bs : List Value} {w w' : World} (h : Lib.IsBuilderF 153 5 B b bs w) (hb : Below w.heap.size w w') : Lib.IsBuilderF 153 5 B b bs w' := h.elim (fun x => .inl (z8e x hb)) (fun x => .inr (z8e x hb))
theorem zb2 {b : Nat} {w w' : World} (hb : Below w.heap.size w w') : Lib.OthersKept 5 (some b) w w' := fun k _ hk _ _ => (hb.block k (Array.getElem?_eq_some_iff.1 hk).1).trans hk
structure Ekp (B b : Nat) (w w' : World) : Prop where
 below : Below B w w'
 others : Lib.OthersKept 5 (some b) w w'
theorem Ekp.trans {B b : Nat} {a w w' : World} (h : Ekp B b a w) (k : Ekp B b w w') : Ekp B b a w' := ⟨h.below.trans k.below, h.others.trans k.others⟩
theorem Ekp.of_below {B b : Nat} {w w' : World} (hB : B <= w.heap.size) (h : Below w.heap.size w w') : Ekp B b w w' := ⟨h.mono hB, zb2 h⟩
theorem Ekp.row {B b c : Nat} {w w' : World} {t : TypeId} {cs : List Value} (h : Ekp B b w w') (hr : Row w c t cs) (ht : t ≠ 5) (hc : c ≠ b) : Row w' c t cs :=
 h.others c _ hr (fun e => hc (Option.some.inj e)) (fun c2 fz e => by injection e with _ e2 _; exact ht e2)
abbrev OutAt (B b : Nat) (l : List UInt8) (w : World) : Prop := Lib.IsBuilderF 153 5 B b (Lib.byteCells l) w
abbrev addFn (b : Nat) : Value := .func (.func 123) #[.pointer (some ⟨b, 0, none⟩)] #[]
theorem z4y (B b : Nat) (l : List UInt8) (s : BA) (w : World) (h : OutAt B b l w) (hl : l.length + s.size <= 8000) (hB : B <= w.heap.size) :
  Calls Tryz.prog 123 #[.pointer (some ⟨b, 0, none⟩), .string s] w fun e w' => e = .returned (.tuple #[]) /\ OutAt B b (l ++ s.data.toList) w' /\ Ekp B b w w' := by
 have hlen : (Lib.byteCells l).length = l.length := Lib.byteCells_length _
 have HLN := hid (zi0 B b _ w h)
 have HWR := hid (z6r B b _ s w h (by rw [hlen]; omega) hB)
 rw [hlen] at HLN
 rw [zc2] at HWR
 have hl2 : ¬ (8000 : Int) < (l.length : Int) + (s.size : Int) := by omega
 clear h hlen
 go_enter Tryz.func123, Tryz.ntmps123
 go_wp2_with fail
 refine HLN.out.mono ?_
 rintro e w2 ⟨rfl, rfl⟩
 go_wp2_with fail
 refine HWR.out.mono ?_
 rintro e w3 ⟨rfl, h3, hb3, ho3⟩
 have HF : Hid (OutAt B b (l ++ s.data.toList) w3 /\ Ekp B b w2 w3) := hid ⟨.inr h3, hb3, ho3⟩
 clear h3 hb3 ho3
 go_wp2
 go_end0
 exact ⟨rfl, HF.out⟩
end Go.Proofs.YtdnedbcmgkilaaaGreatDoor

end

section

namespace Go.Proofs.YtdnedbcmgkilaaaGreatDoor
open Go.RowKit
theorem idle_any (p q : Value) (w : World) :
  CallsD Tryz.prog 121 #[p, q] .returning w fun e u' w' => e = .returned (.tuple #[]) /\ u' = .returning /\ w' = w := by
 refine callsD_of_wpS Tryz.func121 rfl fun c₀ cs hu => ?_
 apply wpS_seq
 apply wpS_region
 simp [wpOpsS, go_sem, recoverD, hu, Tryz.ntmps121, Exit.thenS]
 apply wpS_seq
 apply wpS_region
 simp [wpOpsS, go_sem, Act.eval, Exit.thenS, Array.replicate]
 refine wpS_cond (t := false) (by simp [Act.eval]) ?_
 simp only [Bool.false_eq_true, if_false]
 refine wpS_of_wp (wp_skip ?_)
 cases c₀
 simp_all [bodyPostS, results, Tryz.results121]
end Go.Proofs.YtdnedbcmgkilaaaGreatDoor

end

section

namespace Go.Proofs.YtdnedbcmgkilaaaGreatDoor
open Go.RowKit
end Go.Proofs.YtdnedbcmgkilaaaGreatDoor

end

section

namespace Go.Proofs.YtdnedbcmgkilaaaGreatDoor
open Go.RowKit
theorem zdq (s : BA) : (⟨s.data.toList.toArray⟩ : BA) = s := by apply ByteArray.ext; simp
end Go.Proofs.YtdnedbcmgkilaaaGreatDoor

end
