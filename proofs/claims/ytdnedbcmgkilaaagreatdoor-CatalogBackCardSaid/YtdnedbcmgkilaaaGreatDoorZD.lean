/- Slices of strings in memory, and the blocks that stand. -/
import Derived.WalkKit
import Derived.Lib.Hide
import Derived.Deep.MidRow
import Derived.Lib.UnsafeStr
import Derived.Below
import Derived.Laws.OwnMore
import Derived.Deep.Draws
import Derived.Maps.AppendAt
import Derived.Deep.RegionHeld3
import Derived.Test.YtdnedbcmgkilaaaGreatDoorZC
import Derived.Test.YtdnedbcmgkilaaaGreatDoorZB

section

namespace Go.Proofs.YtdnedbcmgkilaaaGreatDoor.Lc
open Go.RowKit

theorem ba_len (s : ByteArray) : s.data.toList.length = s.size := Array.length_toList
theorem ba_ext {a b : ByteArray} (h : a.data.toList = b.data.toList) : a = b := by
  cases a; cases b; congr 1; exact Array.toList_inj.1 h
theorem ret_bool {a b : Bool} (h : a = b) : Ending.returned (.bool a) = .returned (.bool b) := by rw [h]
theorem ret_str {a b : ByteArray} (h : a = b) : Ending.returned (.string a) = .returned (.string b) := by rw [h]
abbrev str (l : List UInt8) : ByteArray := ⟨l.toArray⟩
theorem str_list (l : List UInt8) : (str l).data.toList = l := List.toList_toArray
theorem str_back (s : ByteArray) : str s.data.toList = s := ba_ext (str_list _)
theorem below_drewN {B : Nat} {a w : World} (h : Below B a w) (n : Nat) : Below B a (w.drewN n) := ⟨h.os, h.tape, h.output, h.size, h.block⟩
theorem below1 (w : World) (o : Obj) : Below w.heap.size w (w.alloc o) := (Below.refl _ w).alloc (Nat.le_refl _) o
theorem below_trans {w w1 w2 : World} (h1 : Below w.heap.size w w1) (h2 : Below w1.heap.size w1 w2) : Below w.heap.size w w2 := h1.trans (h2.mono h1.size)
theorem ownsRow_below {w w' : World} {base : Nat} {e : TypeId} {size : Nat} {v : Value} {n : Nat} {xs : List Value} (h : w.ownsRow base e size v n xs) (hb : Below w.heap.size w w') : w'.ownsRow base e size v n xs := by
  refine ⟨h.1, ?_⟩
  rcases h.2 with h0 | ⟨g, cap, cur, hv, hbs, hh, hr⟩
  · exact .inl h0
  · exact .inr ⟨g, cap, cur, hv, hbs, (hb.block g (Array.getElem?_eq_some_iff.1 hh).1).trans hh, hr⟩

/-- The slice's elements are these strings, in a block of the world. -/
def Reads (w : World) (a : Option Addr) (cap : Nat) (xs : List ByteArray) : Prop :=
  xs.length ≤ cap ∧ (xs ≠ [] → ∃ g, a = some ⟨g, 0, none⟩ ∧ g < w.heap.size ∧ ∀ j (h : j < xs.length), w.cell? ⟨g, j, none⟩ = some (.string xs[j]))
theorem Reads.below {w w' : World} {a : Option Addr} {cap : Nat} {xs : List ByteArray} (h : Reads w a cap xs) (hb : Below w.heap.size w w') : Reads w' a cap xs :=
  ⟨h.1, fun hx => by
    obtain ⟨g, ha, hg, hc⟩ := h.2 hx
    exact ⟨g, ha, Nat.lt_of_lt_of_le hg hb.size, fun j hj => (hb.cell (p := ⟨g, j, none⟩) hg).trans (hc j hj)⟩⟩
abbrev strs (xs : List ByteArray) : List Value := xs.map Value.string
theorem reads_of_owns {w : World} {base : Nat} {v : Value} {xs : List ByteArray} (h : w.ownsRow base 9 1 v xs.length (strs xs)) : ∃ a cap, v = .slice a xs.length cap ∧ Reads w a cap xs := by
  rcases h.2 with ⟨rfl, h0⟩ | ⟨g, cap, cur, rfl, hb, hh, hc, -, hs, ht⟩
  · have : xs = [] := List.length_eq_zero_iff.1 h0
    subst this
    exact ⟨none, 0, rfl, Nat.le_refl _, fun h => absurd rfl h⟩
  · refine ⟨_, cap, rfl, hc, fun _ => ⟨g, rfl, (Array.getElem?_eq_some_iff.1 hh).1, fun j hj => ?_⟩⟩
    have h1 : (cur.toList.take (xs.length * 1))[j]? = (xs.map Value.string)[j]? := by rw [ht]
    rw [List.getElem?_take, if_pos (by omega), Array.getElem?_toList] at h1
    simp only [World.cell?, hh, h1]
    simp [List.getElem?_eq_getElem hj]
/-- A fresh block of strings reads as them. -/
theorem reads_new (w : World) (xs : List ByteArray) (t : TypeId) : Reads (w.alloc (.cells (strs xs).toArray t)) (some ⟨w.heap.size, 0, none⟩) xs.length xs :=
  ⟨Nat.le_refl _, fun _ => ⟨w.heap.size, rfl, by simp, fun j hj => by
    have hh : (w.alloc (.cells (strs xs).toArray t)).heap[w.heap.size]? = some (.cells (strs xs).toArray t (0, 0)) := by
      show (w.heap.push _)[w.heap.size]? = _
      simp
    simp only [World.cell?, hh]
    simp [hj]⟩⟩
theorem info9 : (Tryz.prog.info? 9).map (fun i => (i.zero, i.size, i.bytes)) = some (some (.string ByteArray.empty), 1, 16) := by kernel_rfl
theorem ownsRow_succ {w : World} {base : Nat} {e : TypeId} {v : Value} {n : Nat} {xs : List Value} (h : w.ownsRow base e 1 v (n + 1) xs) : ∃ g cap, v = .slice (some ⟨g, 0, none⟩) (n + 1) cap := by
  rcases h.2 with ⟨-, h0⟩ | ⟨g, cap, cur, rfl, -⟩
  · cases h0
  · exact ⟨g, cap, rfl⟩
/-- The variable that the table of strings' search names. -/
def MaxW (m : Int) (w : World) : Prop := w.cell? ⟨0, 0, none⟩ = some (.int .i64 m)
theorem MaxW.below {m : Int} {w w' : World} (h : MaxW m w) (h0 : 0 < w.heap.size) (hb : Below w.heap.size w w') : MaxW m w' := (hb.cell (p := ⟨0, 0, none⟩) h0).trans h
theorem MaxW.pos {m : Int} {w : World} (h : MaxW m w) : 0 < w.heap.size := by
  unfold MaxW at h
  by_cases h0 : w.heap.size = 0
  · have : w.heap[0]? = none := Array.getElem?_eq_none (by omega)
    simp only [World.cell?, this] at h; cases h
  · omega
theorem MaxW.next {m : Int} {w w' : World} (h : MaxW m w) (hb : Below w.heap.size w w') : MaxW m w' := h.below h.pos hb
end Go.Proofs.YtdnedbcmgkilaaaGreatDoor.Lc

end

/- Package format: Locale, Language, Chain. -/
section

namespace Go.Proofs.YtdnedbcmgkilaaaGreatDoor.Lc
open Go.RowKit Go.Lib

set_option maxHeartbeats 1600000 in
theorem foreign_any (n : Nat) (w : World) : Calls Tryz.prog 94 #[.int .i32 n] w fun e w' => e = .returned (.bool (!sgnN n)) ∧ w' = w := by
  rcases (show n < 48 ∨ (48 ≤ n ∧ n ≤ 57) ∨ (57 < n ∧ n < 65) ∨ (65 ≤ n ∧ n ≤ 90) ∨ (90 < n ∧ n < 97) ∨ (97 ≤ n ∧ n ≤ 122) ∨ 122 < n by omega) with h | h | h | h | h | h | h
  · have e : sgnN n = false := by unfold sgnN; simp; omega
    rw [e]; clear e
    go_enter Tryz.func94, Tryz.ntmps94
    go_wp2
    go_ret
    exact ⟨ret_bool (by first | rfl | (simp; done) | (simp; omega)), rfl⟩
  · have e : sgnN n = true := by unfold sgnN; simp; omega
    rw [e]; clear e
    go_enter Tryz.func94, Tryz.ntmps94
    go_wp2
    go_ret
    exact ⟨ret_bool (by first | rfl | (simp; done) | (simp; omega)), rfl⟩
  · have e : sgnN n = false := by unfold sgnN; simp; omega
    rw [e]; clear e
    go_enter Tryz.func94, Tryz.ntmps94
    go_wp2
    go_ret
    exact ⟨ret_bool (by first | rfl | (simp; done) | (simp; omega)), rfl⟩
  · have e : sgnN n = true := by unfold sgnN; simp; omega
    rw [e]; clear e
    go_enter Tryz.func94, Tryz.ntmps94
    go_wp2
    go_ret
    exact ⟨ret_bool (by first | rfl | (simp; done) | (simp; omega)), rfl⟩
  · have e : sgnN n = false := by unfold sgnN; simp; omega
    rw [e]; clear e
    go_enter Tryz.func94, Tryz.ntmps94
    go_wp2
    go_ret
    exact ⟨ret_bool (by first | rfl | (simp; done) | (simp; omega)), rfl⟩
  · have e : sgnN n = true := by unfold sgnN; simp; omega
    rw [e]; clear e
    go_enter Tryz.func94, Tryz.ntmps94
    go_wp2
    go_ret
    exact ⟨ret_bool (by first | rfl | (simp; done) | (simp; omega)), rfl⟩
  · have e : sgnN n = false := by unfold sgnN; simp; omega
    rw [e]; clear e
    go_enter Tryz.func94, Tryz.ntmps94
    go_wp2
    go_ret
    exact ⟨ret_bool (by first | rfl | (simp; done) | (simp; omega)), rfl⟩

theorem part_any (s : ByteArray) (w : World) : Calls Tryz.prog 93 #[.string s, .func (.func 94) #[] #[]] w fun e w' => e = .returned (.bool (!(s.data.toList.all sgn))) ∧ Below w.heap.size w w' := by
  have h := Tryz.strings_ContainsFunc 94 #[] (enters_of Tryz.func94 (by kernel_rfl) rfl) (fun n => !sgnN n) s w (fun W x _ => (foreign_any x W).mono fun e w' h => ⟨h.1, 0, h.2⟩)
  rw [contains_sgn] at h
  exact h

theorem xs_len (s : ByteArray) : (splitB ⟨#[45]⟩ 0 (countB s ⟨#[45]⟩) s).length = countB s ⟨#[45]⟩ + 1 := splitB_all ⟨#[45]⟩ (by decide) 0 _ s rfl
theorem count_le (s : ByteArray) : countB s ⟨#[45]⟩ ≤ s.size := countB_le ⟨#[45]⟩ (by decide) s.size s (Nat.le_refl _)
def onB (p : ByteArray) : Bool := onePart p.data.toList
theorem loc_big (s : ByteArray) (h : ¬ s.size ≤ 32) : locB s.data.toList = false := by
  unfold locB; rw [decide_eq_false (by rw [ba_len]; exact h)]; rfl
theorem loc_small (s : ByteArray) (h : s.size ≤ 32) : locB s.data.toList = (splitB ⟨#[45]⟩ 0 (countB s ⟨#[45]⟩) s).all onB := by
  unfold locB; rw [decide_eq_true (by rw [ba_len]; exact h), Bool.true_and, ← splitB_parts]; rfl
theorem loc_le {s : ByteArray} (h : locB s.data.toList = true) : s.size ≤ 32 := by
  by_cases hs : s.size ≤ 32
  · exact hs
  · rw [loc_big s hs] at h; cases h
theorem all_at {xs : List ByteArray} {k : Nat} (h : k < xs.length) : (xs.drop k).all onB = (onB xs[k] && (xs.drop (k + 1)).all onB) := by
  rw [List.drop_eq_getElem_cons h, List.all_cons]
theorem onB_nil : onB ⟨#[]⟩ = false := rfl
theorem onB_ne {x : ByteArray} (h : x.toList.isEmpty = false) : onB x = x.data.toList.all sgn := by
  rw [ByteArray.toList_eq] at h
  unfold onB onePart; rw [h]; rfl

set_option maxHeartbeats 3200000 in
theorem locale_any (s : ByteArray) (m : Int) (w : World) (hm : MaxW m w) : Calls Tryz.prog 55 #[.string s] w fun e w' => e = .returned (.bool (locB s.data.toList)) ∧ Below w.heap.size w w' := by
  by_cases hl : s.size ≤ 32
  · have HS := Lib.hid (Tryz.strings_Split s ⟨#[45]⟩ m w (by omega) hm (by decide))
    have HL := Lib.hid (loc_small s hl)
    have hx := xs_len s
    have hc := count_le s
    generalize splitB ⟨#[45]⟩ 0 (countB s ⟨#[45]⟩) s = xs at *
    rw [← hx] at HS
    have hn : xs.length ≤ 33 := by omega
    have HR := Lib.hid (reads_new w xs 9)
    have HB1 := Lib.hid (below1 w (.cells (strs xs).toArray 9))
    have HZ := Lib.hid HB1.out.size
    clear hx hc hm
    go_enter Tryz.func55, Tryz.ntmps55
    go_wp2_with fail
    refine HS.out.mono ?_
    rintro e w1 ⟨rfl, rfl⟩
    generalize w.alloc (.cells (strs xs).toArray 9) = w1 at *
    clear HS
    go_wp2
    go_loopw [11] (fun i wr => ∃ k : Nat, k ≤ xs.length ∧ i = .int .i64 k ∧ Hid (Below w1.heap.size w1 wr) ∧ Hid (locB s.data.toList = (xs.drop k).all onB)) (fun i _ => xs.length - (intOf i).toNat)
    case atStart => exact ⟨0, Nat.zero_le _, rfl, Lib.hid (Below.refl _ _), HL⟩
    case round =>
      obtain ⟨k, hk, rfl, HB, HQ⟩ := hrel
      by_cases hlt : k < xs.length
      · have hne : xs ≠ [] := by intro h; subst h; simp at hlt
        obtain ⟨g1, hg1, -, hc1⟩ := (HR.out.below HB.out).2 hne
        have hg2 : g1 = w.heap.size := by injection hg1 with hg1; injection hg1 with hg1; exact hg1.symm
        subst hg2
        have h1 := hc1 k hlt
        have HA := Lib.hid (HQ.out.trans (all_at hlt))
        generalize xs[k] = x at *
        clear hc1 hne HQ hg1
        by_cases hx : x = ⟨#[]⟩
        · subst hx
          have HF : Hid (locB s.data.toList = false) := Lib.hid (by rw [HA.out, onB_nil]; rfl)
          go_wp2
          go_ret
          exact ⟨ret_bool HF.out.symm, HB1.out.trans (HB.out.mono HZ.out)⟩
        · have hxe : x.toList.isEmpty = false := by
            rw [ByteArray.toList_eq]
            cases hl : x.data.toList with
            | nil => exact absurd (ba_ext (b := ⟨#[]⟩) (by rw [hl])) hx
            | cons => rfl
          have HP := Lib.hid (part_any x wr)
          have HO := Lib.hid (onB_ne hxe)
          clear hx
          cases ha : x.data.toList.all sgn with
          | false =>
            rw [ha] at HP HO
            have HF : Hid (locB s.data.toList = false) := Lib.hid (by rw [HA.out, HO.out]; rfl)
            clear ha
            go_wp2_with fail
            refine HP.out.mono ?_
            rintro e w2 ⟨rfl, hb⟩
            have HB2 := Lib.hid (below_trans HB.out hb)
            clear hb
            go_wp2
            go_ret
            exact ⟨ret_bool HF.out.symm, HB1.out.trans (HB2.out.mono HZ.out)⟩
          | true =>
            rw [ha] at HP HO
            have HF : Hid (locB s.data.toList = (xs.drop (k + 1)).all onB) := Lib.hid (by rw [HA.out, HO.out]; rfl)
            clear ha
            go_wp2_with fail
            refine HP.out.mono ?_
            rintro e w2 ⟨rfl, hb⟩
            have HB2 := Lib.hid (below_trans HB.out hb)
            clear hb
            go_wp2
            go_roundw
            case rel => exact ⟨k + 1, by omega, by go_num, HB2, HF⟩
            case measure => simp [intOf]; omega
      · have HF : Hid (locB s.data.toList = true) := Lib.hid (by rw [HQ.out, List.drop_eq_nil_of_le (by omega)]; rfl)
        go_wp2
        go_ret
        exact ⟨ret_bool HF.out.symm, HB1.out.trans (HB.out.mono HZ.out)⟩
  · have HF := Lib.hid (loc_big s hl)
    clear hm
    go_enter Tryz.func55, Tryz.ntmps55
    go_wp2
    go_ret
    exact ⟨ret_bool HF.out.symm, Below.refl _ _⟩
end Go.Proofs.YtdnedbcmgkilaaaGreatDoor.Lc

end

/- Package format: Language, Chain. -/
section

namespace Go.Proofs.YtdnedbcmgkilaaaGreatDoor.Lc
open Go.RowKit Go.Lib

/-- The language of a text. -/
def langS (s : ByteArray) : ByteArray := if locB s.data.toList then str (langF s.data.toList) else ⟨#[]⟩
theorem langS_yes {s : ByteArray} (h : locB s.data.toList = true) : langS s = str (langF s.data.toList) := by unfold langS; rw [if_pos h]
theorem langS_no {s : ByteArray} (h : locB s.data.toList = false) : langS s = ⟨#[]⟩ := by unfold langS; rw [if_neg (by rw [h]; simp)]

set_option maxHeartbeats 3200000 in
theorem lang_any (s : ByteArray) (m : Int) (w : World) (hm : MaxW m w) : Calls Tryz.prog 46 #[.string s] w fun e w' => e = .returned (.string (langS s)) ∧ Below w.heap.size w w' := by
  have HL := Lib.hid (locale_any s m w hm)
  have HM := Lib.hid hm
  clear hm
  cases hl : locB s.data.toList with
  | false =>
    rw [hl] at HL
    have HF := Lib.hid (langS_no hl)
    clear hl
    go_enter Tryz.func46, Tryz.ntmps46
    go_wp2_with fail
    refine HL.out.mono ?_
    rintro e w1 ⟨rfl, hb⟩
    have HB := Lib.hid hb
    clear hb
    go_wp2
    go_ret
    exact ⟨ret_str HF.out.symm, HB.out⟩
  | true =>
    rw [hl] at HL
    have HF := Lib.hid (langS_yes hl)
    have hs := loc_le hl
    clear hl
    go_enter Tryz.func46, Tryz.ntmps46
    go_wp2_with fail
    refine HL.out.mono ?_
    rintro e w1 ⟨rfl, hb⟩
    have HB := Lib.hid hb
    clear hb
    have HC := Lib.hid (Tryz.strings_Cut s ⟨#[45]⟩ m w1 (by omega) (HM.out.next HB.out))
    have HT : Hid ((⟨(Lib.cut s.data.toList (⟨#[45]⟩ : ByteArray).data.toList).1.toArray⟩ : ByteArray) = langS s) := Lib.hid (by
      rw [HF.out]
      have := cut_lang s.data.toList
      exact congrArg str this)
    go_wp2_with fail
    refine HC.out.mono ?_
    rintro e w2 ⟨rfl, n, rfl⟩
    rw [HT.out]
    have HB2 := Lib.hid (below_drewN HB.out n)
    generalize w1.drewN n = w2 at *
    generalize (⟨(Lib.cut s.data.toList (⟨#[45]⟩ : ByteArray).data.toList).2.1.toArray⟩ : ByteArray) = r2 at *
    generalize (Lib.cut s.data.toList (⟨#[45]⟩ : ByteArray).data.toList).2.2 = r3 at *
    go_wp2
    go_ret
    exact ⟨rfl, HB2.out⟩

abbrev lists (xs : List ByteArray) : List (List UInt8) := xs.map (·.data.toList)
theorem lists_inj : ∀ {xs ys : List ByteArray}, lists xs = lists ys → xs = ys
  | [], [], _ => rfl
  | [], _ :: _, h => by cases h
  | _ :: _, [], h => by cases h
  | x :: xs, y :: ys, h => by
    injection h with h1 h2
    rw [ba_ext h1, lists_inj h2]
/-- Whom a text asks. -/
def chainS (l : List UInt8) : List (List UInt8) := if l = [] ∨ locB l = true then chainF l else []
theorem chainF_nil : chainF [] = [[]] := rfl
theorem chainF_step (l : List UInt8) (h : l ≠ []) : chainF l = l :: chainF (l.take (lastD l l.length)) := by
  have hk := lastD_le l l.length
  have e1 : (l.take (lastD l l.length)).length = lastD l l.length := by rw [List.length_take]; omega
  unfold chainF
  rw [if_neg h]
  by_cases h0 : lastD l l.length = 0
  · have ep := pre_last l l.length
    rw [if_pos h0] at ep
    rw [ep, h0, List.take_zero, if_pos rfl]; rfl
  · have hne : l.take (lastD l l.length) ≠ [] := by
      intro e; rw [e] at e1; simp at e1; omega
    rw [if_neg hne, e1, pre_take l _ _ (Nat.le_refl _)]
    have ep := pre_last l l.length
    rw [if_neg h0] at ep
    rw [ep]; rfl
theorem chain_some {l : List UInt8} (h : locB l = true) : chainS l = chainF l := by unfold chainS; rw [if_pos (.inr h)]
theorem chain_no {l : List UInt8} (h : locB l = false) (h0 : l ≠ []) : chainS l = [] := by unfold chainS; rw [if_neg (by rw [h]; simp [h0])]
def szV : Value → Nat
  | .string x => x.size
  | _ => 0
theorem last_max (x : ByteArray) : max 0 (lastIndexByte x 45) = (lastD x.data.toList x.data.toList.length : Int) := by
  have h := lastIndex_lastD x x.size (Nat.le_refl _)
  rw [ba_len]; exact h
theorem extract_take (x : ByteArray) (k : Nat) : (x.extract 0 k).data.toList = x.data.toList.take k := by simp
end Go.Proofs.YtdnedbcmgkilaaaGreatDoor.Lc

end

/- The document's Locale. -/
section

namespace Go.Proofs.YtdnedbcmgkilaaaGreatDoor.Lc
open Go.RowKit Go.Lib

set_option maxHeartbeats 1600000 in
theorem sign_any (n : Nat) (w : World) : Calls Tryz.prog 50 #[.int .u8 n] w fun e w' => e = .returned (.bool (sgnN n)) ∧ w' = w := by
  rcases (show n < 48 ∨ (48 ≤ n ∧ n ≤ 57) ∨ (57 < n ∧ n < 65) ∨ (65 ≤ n ∧ n ≤ 90) ∨ (90 < n ∧ n < 97) ∨ (97 ≤ n ∧ n ≤ 122) ∨ 122 < n by omega) with h | h | h | h | h | h | h
  · have e : sgnN n = false := by unfold sgnN; simp; omega
    rw [e]; clear e
    go_enter Tryz.func50, Tryz.ntmps50
    go_wp2
    go_ret
    exact ⟨ret_bool (by first | rfl | (simp; done) | (simp; omega)), rfl⟩
  · have e : sgnN n = true := by unfold sgnN; simp; omega
    rw [e]; clear e
    go_enter Tryz.func50, Tryz.ntmps50
    go_wp2
    go_ret
    exact ⟨ret_bool (by first | rfl | (simp; done) | (simp; omega)), rfl⟩
  · have e : sgnN n = false := by unfold sgnN; simp; omega
    rw [e]; clear e
    go_enter Tryz.func50, Tryz.ntmps50
    go_wp2
    go_ret
    exact ⟨ret_bool (by first | rfl | (simp; done) | (simp; omega)), rfl⟩
  · have e : sgnN n = true := by unfold sgnN; simp; omega
    rw [e]; clear e
    go_enter Tryz.func50, Tryz.ntmps50
    go_wp2
    go_ret
    exact ⟨ret_bool (by first | rfl | (simp; done) | (simp; omega)), rfl⟩
  · have e : sgnN n = false := by unfold sgnN; simp; omega
    rw [e]; clear e
    go_enter Tryz.func50, Tryz.ntmps50
    go_wp2
    go_ret
    exact ⟨ret_bool (by first | rfl | (simp; done) | (simp; omega)), rfl⟩
  · have e : sgnN n = true := by unfold sgnN; simp; omega
    rw [e]; clear e
    go_enter Tryz.func50, Tryz.ntmps50
    go_wp2
    go_ret
    exact ⟨ret_bool (by first | rfl | (simp; done) | (simp; omega)), rfl⟩
  · have e : sgnN n = false := by unfold sgnN; simp; omega
    rw [e]; clear e
    go_enter Tryz.func50, Tryz.ntmps50
    go_wp2
    go_ret
    exact ⟨ret_bool (by first | rfl | (simp; done) | (simp; omega)), rfl⟩

theorem at_list (s : ByteArray) (k : Nat) (h : k < s.size) : s.data.toList[k]? = some s[k] := by
  rw [List.getElem?_eq_getElem (by rw [ba_len]; exact h), Array.getElem_toList]; rfl
theorem ok_sgn {s : ByteArray} {k : Nat} (h : k < s.size) (hs : sgn s[k] = true) : okAt s.data.toList k = true := by
  unfold okAt; rw [at_list s k h]; simp [hs]
theorem ok_other {s : ByteArray} {k : Nat} (h : k < s.size) (hs : sgn s[k] = false) (h2 : s[k] ≠ 45) : okAt s.data.toList k = false := by
  unfold okAt; rw [at_list s k h]; simp [hs, h2]
theorem ok_first {s : ByteArray} (h : 0 < s.size) (h2 : s[0] = 45) : okAt s.data.toList 0 = false := by
  unfold okAt; rw [at_list s 0 h]; simp [h2, sgn_dash]
theorem ok_last {s : ByteArray} {k : Nat} (h : k < s.size) (h2 : s[k] = 45) (h3 : k + 1 = s.size) : okAt s.data.toList k = false := by
  unfold okAt; rw [at_list s k h]; simp [h2, sgn_dash, h3]
theorem ok_dash {s : ByteArray} {k : Nat} (h : k + 1 < s.size) (h2 : s[k + 1] = 45) (h3 : k + 2 ≠ s.size) : okAt s.data.toList (k + 1) = decide (s[k] ≠ 45) := by
  have e : s.data.toList[k]? = some s[k] := at_list s k (by omega)
  unfold okAt; rw [at_list s (k + 1) h]; simp [h2, sgn_dash, h3, e]
theorem byte_ne {c : UInt8} {n : Nat} (d : UInt8) (hd : d.toNat = n) (h : c ≠ d) : ((c.toNat : Int) != (n : Int)) = true := by
  rw [bne_iff_ne]
  intro e
  exact h (UInt8.toNat_inj.1 (by omega))

set_option maxHeartbeats 3200000 in
theorem rlocale_any (s : ByteArray) (w : World) (hs : s.size ≤ 281474976710656) : Calls Tryz.prog 25 #[.string s] w fun e w' => e = .returned (.bool (locB s.data.toList)) ∧ w' = w := by
  go_enter Tryz.func25, Tryz.ntmps25
  go_wp2
  go_loopw [3] (fun i wr => ∃ k : Nat, k ≤ s.size ∧ i = .int .i64 k ∧ wr = w ∧ Hid (∀ j, j < k → okAt s.data.toList j = true)) (fun i _ => s.size - (intOf i).toNat)
  case atStart => exact ⟨0, Nat.zero_le _, rfl, rfl, Lib.hid (fun j h => by omega)⟩
  case round =>
    obtain ⟨k, hk, rfl, rfl, HA⟩ := hrel
    by_cases hlt : k < s.size
    · have hlt2 : k < s.data.size := hlt
      have HS := Lib.hid (sign_any s[k].toNat wr)
      cases hc : sgnN s[k].toNat with
      | true =>
        rw [hc] at HS
        have HN : Hid (∀ j, j < k + 1 → okAt s.data.toList j = true) := Lib.hid (fun j hj => by
          rcases Nat.lt_or_eq_of_le (Nat.le_of_lt_succ hj) with h | rfl
          · exact HA.out j h
          · exact ok_sgn hlt hc)
        clear hc
        go_wp2_with fail
        refine HS.out.mono ?_
        rintro e w2 ⟨rfl, rfl⟩
        go_wp2
        go_roundw
        case rel => exact ⟨k + 1, by omega, by go_num, trivial, HN⟩
        case measure => simp [intOf]; omega
      | false =>
        rw [hc] at HS
        by_cases h45 : s[k] = 45
        rotate_left
        · have HF : Hid (locB s.data.toList = false) := Lib.hid (loc_no _ (.inr (.inr ⟨k, by rw [ba_len]; exact hlt, ok_other hlt hc h45⟩)))
          have hB : ((s[k].toNat : Int) != 45) = true := byte_ne 45 rfl h45
          clear hc h45
          go_wp2_with fail
          refine HS.out.mono ?_
          rintro e w2 ⟨rfl, rfl⟩
          go_wp2
          go_ret
          exact ⟨ret_bool HF.out.symm, rfl⟩
        have hB : ((s[k].toNat : Int) != 45) = false := by rw [h45]; rfl
        by_cases h0 : k = 0
        · subst h0
          have HF : Hid (locB s.data.toList = false) := Lib.hid (loc_no _ (.inr (.inr ⟨0, by rw [ba_len]; exact hlt, ok_first hlt h45⟩)))
          clear hc h45
          go_wp2_with fail
          refine HS.out.mono ?_
          rintro e w2 ⟨rfl, rfl⟩
          go_wp2
          go_ret
          exact ⟨ret_bool HF.out.symm, rfl⟩
        by_cases hl : k + 1 = s.size
        · have HF : Hid (locB s.data.toList = false) := Lib.hid (loc_no _ (.inr (.inr ⟨k, by rw [ba_len]; exact hlt, ok_last hlt h45 hl⟩)))
          have h1 : ((k : Int) == 0) = false := by rw [beq_eq_false_iff_ne]; omega
          have h2 : ((k : Int) == (s.size : Int) - 1) = true := by rw [beq_iff_eq]; omega
          clear hc h45
          go_wp2_with fail
          refine HS.out.mono ?_
          rintro e w2 ⟨rfl, rfl⟩
          go_wp2
          go_ret
          exact ⟨ret_bool HF.out.symm, rfl⟩
        obtain ⟨q, rfl⟩ : ∃ q, k = q + 1 := ⟨k - 1, by omega⟩
        have h1 : ((q : Int) + 1 == 0) = false := by rw [beq_eq_false_iff_ne]; omega
        have h2 : ((q : Int) + 1 == (s.size : Int) - 1) = false := by rw [beq_eq_false_iff_ne]; omega
        have hq : q < s.size := by omega
        have hq2 : q < s.data.size := hq
        have HD := Lib.hid (ok_dash hlt h45 hl)
        have e1 : ((q + 1 : Nat) : Int) - 1 = (q : Int) := by omega
        by_cases hd : s[q] = 45
        · have HF : Hid (locB s.data.toList = false) := Lib.hid (loc_no _ (.inr (.inr ⟨q + 1, by rw [ba_len]; exact hlt, by rw [HD.out, hd]; rfl⟩)))
          have h3 : ((s[q].toNat : Int) == 45) = true := by rw [hd]; rfl
          clear hc h45 hd
          go_wp2_with fail
          refine HS.out.mono ?_
          rintro e w2 ⟨rfl, rfl⟩
          go_wp2
          go_ret
          exact ⟨ret_bool HF.out.symm, rfl⟩
        · have HN : Hid (∀ j, j < q + 1 + 1 → okAt s.data.toList j = true) := Lib.hid (fun j hj => by
            rcases Nat.lt_or_eq_of_le (Nat.le_of_lt_succ hj) with h | rfl
            · exact HA.out j h
            · rw [HD.out]; simp [hd])
          have h3 : ((s[q].toNat : Int) == 45) = false := by
            have := byte_ne (n := 45) 45 rfl hd
            simpa [bne] using this
          clear hc h45 hd
          go_wp2_with fail
          refine HS.out.mono ?_
          rintro e w2 ⟨rfl, rfl⟩
          go_wp2
          have hz : s.data.size = s.size := rfl
          refine ⟨⟨q + 1 + 1, by omega, by go_num, trivial, HN⟩, ?_⟩
          simp [intOf]; omega
    · have hk2 : k = s.size := by omega
      by_cases h0 : s.size < 1
      · have HF : Hid (locB s.data.toList = false) := Lib.hid (loc_no _ (.inl (by rw [ba_len]; exact h0)))
        go_wp2
        go_ret
        exact ⟨ret_bool HF.out.symm, rfl⟩
      by_cases h1 : 32 < s.size
      · have HF : Hid (locB s.data.toList = false) := Lib.hid (loc_no _ (.inr (.inl (by rw [ba_len]; exact h1))))
        go_wp2
        go_ret
        exact ⟨ret_bool (by rw [HF.out]; simp; omega), rfl⟩
      · have HF : Hid (locB s.data.toList = true) := Lib.hid (loc_yes _ (by rw [ba_len]; omega) (by rw [ba_len]; omega) (fun i hi => HA.out i (by rw [ba_len] at hi; omega)))
        go_wp2
        go_ret
        exact ⟨ret_bool (by rw [HF.out]; simp; omega), rfl⟩
end Go.Proofs.YtdnedbcmgkilaaaGreatDoor.Lc

end
