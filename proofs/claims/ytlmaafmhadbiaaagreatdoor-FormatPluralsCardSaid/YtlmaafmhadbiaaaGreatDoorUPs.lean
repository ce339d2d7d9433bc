/- Print and Parse. -/
import Derived.Test.YtlmaafmhadbiaaaGreatDoorURd7
import Derived.Test.YtlmaafmhadbiaaaGreatDoorUTx
namespace Go.Proofs.YtlmaafmhadbiaaaGreatDoor.Pu
open Go.RowKit

/-- What Print answers. -/
def printF (r : Rule) : List UInt8 × Nat := if rgRule r then (if 400 < (txRule r).length then ([], 2) else (txRule r, 0)) else ([], 1)
theorem print_bad {r : Rule} (h : rgRule r = false) : printF r = ([], 1) := by unfold printF; rw [h]; rfl
theorem print_long {r : Rule} (h : rgRule r = true) (h2 : 400 < (txRule r).length) : printF r = ([], 2) := by unfold printF; rw [if_pos h, if_pos h2]
theorem print_ok {r : Rule} (h : rgRule r = true) (h2 : ¬ 400 < (txRule r).length) : printF r = (txRule r, 0) := by unfold printF; rw [if_pos h, if_neg h2]
theorem S8_nil : S8 [] = ⟨#[]⟩ := rfl

set_option maxHeartbeats 3200000 in
set_option maxRecDepth 100000 in
theorem print_any (w : World) (a : Option Addr) (cap : Nat) (xs : Rule) (hIn : SlW w (Old w) (.slice a xs.length cap) xs) (ht : TabW w) :
    Calls Tryz.prog 60 #[.slice a xs.length cap] w fun e w' => e = .returned (.tuple #[.string (S8 (printF xs).1), .int .i64 (printF xs).2]) ∧ Below w.heap.size w w' := by
  have HIN := Lib.hid hIn
  have HT := Lib.hid ht
  have HC := Lib.hid (right_any w a cap xs hIn)
  clear hIn ht
  cases hr : rgRule xs with
  | false =>
    have HE := Lib.hid (print_bad hr)
    rw [hr] at HC
    clear hr
    go_enter Tryz.func60, Tryz.ntmps60
    go_wp2_with fail
    refine HC.out.mono ?_
    rintro e w5 ⟨rfl, hb5⟩
    go_wp2
    go_ret2
    exact ⟨by rw [HE.out]; rfl, hb5⟩
  | true =>
    rw [hr] at HC
    have HR := Lib.hid hr
    have hl := txRule_len hr
    rw [← S8_size] at hl
    clear hr
    go_enter Tryz.func60, Tryz.ntmps60
    go_wp2_with fail
    refine HC.out.mono ?_
    rintro e w5 ⟨rfl, hb5⟩
    have HB5 := Lib.hid hb5
    have HX := Lib.hid (ruleText_any w5 a cap xs (HIN.out.below hb5) HR.out (HT.out.below hb5))
    clear hb5
    go_wp2_with fail
    refine HX.out.mono ?_
    rintro e w6 ⟨rfl, hb6⟩
    have HB6 := Lib.hid (below_trans HB5.out hb6)
    clear hb6
    have HS : Hid ((S8 (txRule xs)).size = (txRule xs).length) := Lib.hid (S8_size _)
    by_cases h4 : 400 < (S8 (txRule xs)).size
    · have HE := Lib.hid (print_long HR.out (by rw [← HS.out]; exact h4))
      go_wp2
      go_ret2
      exact ⟨by rw [HE.out]; rfl, HB6.out⟩
    · have HE := Lib.hid (print_ok HR.out (by rw [← HS.out]; exact h4))
      go_wp2
      go_ret2
      exact ⟨by rw [HE.out]; rfl, HB6.out⟩

theorem parse_long {l : List UInt8} (h : 400 < l.length) : parseF l = ([], 2, 0) := by unfold parseF; rw [if_pos h]
theorem parse_stuck {l : List UInt8} (h : ¬ 400 < l.length) (h2 : (ruleF l (0, false)).2.2 = true) : parseF l = ([], if (ruleF l (0, false)).2.1 = l.length then 10 else 80, (ruleF l (0, false)).2.1) := by unfold parseF; rw [if_neg h, if_pos h2]
theorem parse_ok {l : List UInt8} (h : ¬ 400 < l.length) (h2 : (ruleF l (0, false)).2.2 = false) (h3 : rgRule (ruleF l (0, false)).1 = true) (h4 : txRule (ruleF l (0, false)).1 = l) : parseF l = ((ruleF l (0, false)).1, 0, 0) := by
  unfold parseF; rw [if_neg h, h2, if_neg (by simp), if_pos ⟨h3, h4⟩]
theorem parse_bad {l : List UInt8} (h : ¬ 400 < l.length) (h2 : (ruleF l (0, false)).2.2 = false) (h3 : ¬ (rgRule (ruleF l (0, false)).1 = true ∧ txRule (ruleF l (0, false)).1 = l)) : parseF l = ([], 1, 0) := by
  unfold parseF; rw [if_neg h, h2, if_neg (by simp), if_neg h3]
theorem SlW.kpt {w w' : World} {T : List Nat} {v : Value} {xs : Rule} (h : SlW w (Ty T w) v xs) (hb : KpT T w w') : SlW w' (Ty T w') v xs := SlW.keep (fun b h => hb b h) (fun b h => h.keep (hb b h)) h
/-- What a call of Parse answers and leaves. -/
def PPost (l : List UInt8) (w : World) (e : Ending) (w' : World) : Prop :=
  ∃ a cap, e = .returned (.tuple #[.slice a (parseF l).1.length cap, .int .i64 (parseF l).2.1, .int .i64 (parseF l).2.2]) ∧ SlW w' (Ty [130, 102, 76] w') (.slice a (parseF l).1.length cap) (parseF l).1 ∧ Below w.heap.size w w'
theorem slw_nil (w : World) (S : Nat → Prop) : SlW w S (.slice none ([] : Rule).length 0) [] := ⟨none, 0, rfl, Nat.le_refl _, by omega, fun h => absurd rfl h⟩
theorem ppost_none {l : List UInt8} {w w' : World} {er at_ : Nat} (h : parseF l = ([], er, at_)) (hb : Below w.heap.size w w') : PPost l w (.returned (.tuple #[.slice none 0 0, .int .i64 er, .int .i64 at_])) w' := by
  unfold PPost; rw [h]; exact ⟨none, 0, rfl, slw_nil _ _, hb⟩

theorem ba_ext {s t : BA} (h : s.data.toList = t.data.toList) : s = t := (S8_of h).trans (S8_of rfl).symm
theorem ba_ne {s t : BA} (h : s ≠ t) : (s.toList == t.toList) = false := by
  rw [beq_eq_false_iff_ne]
  intro h2
  rw [ByteArray.toList_eq, ByteArray.toList_eq] at h2
  exact h (ba_ext h2)

set_option maxHeartbeats 3200000 in
set_option maxRecDepth 100000 in
theorem parse_any (w : World) (s : BA) (hs : s.size ≤ 9223372036854775807) (ht : TabW w) : Calls Tryz.prog 48 #[.string s] w (PPost s.data.toList w) := by
  by_cases hlong : 400 < s.size
  · have HE := Lib.hid (parse_long (l := s.data.toList) (by simpa using hlong))
    go_enter Tryz.func48, Tryz.ntmps48
    go_wp2
    refine bodyPost_ret (v := .tuple #[.slice none 0 0, .int .i64 2, .int .i64 0]) (by simp [results, Tryz.results48, go_sem]) rfl (ppost_none HE.out (Below.refl _ _))
  · have HL : Hid (¬ 400 < s.data.toList.length) := Lib.hid (by simpa using hlong)
    have HT := Lib.hid ht
    have HR0 : Hid (RdAt (w.alloc (.cells #[.string s, .int .i64 0, .bool false] 110)) w.heap.size s (0, false)) := Lib.hid (row_new w #[.string s, .int .i64 0, .bool false] 110)
    have HRU := Lib.hid (rule_any w.heap.size s (0, false) _ (by omega) (by simp) HR0.out)
    have HGE : Hid ((ruleF s.data.toList (0, false)).2.1 ≤ s.size) := Lib.hid (by have := (ge_rule s.data.toList (0, false)).2 (by simp); simpa using this)
    clear ht
    go_enter Tryz.func48, Tryz.ntmps48
    go_wp2_with fail
    refine HRU.out.mono ?_
    rintro e w1 ⟨a, cap, rfl, hsl, hr1, hf1⟩
    have HB1 : Hid (Below w.heap.size w w1) := Lib.hid (Fr.to_below (below1 w _) hf1 (Nat.le_refl _))
    have HSL := Lib.hid hsl
    have HR1 := Lib.hid hr1
    clear hr1 hf1 hsl HRU HR0
    have hE1 := fun h => parse_stuck (l := s.data.toList) HL.out h
    have hE2 := fun h => parse_ok (l := s.data.toList) HL.out h
    have hE3 := fun h => parse_bad (l := s.data.toList) HL.out h
    generalize ruleF s.data.toList (0, false) = q at *
    obtain ⟨r, at1, st⟩ := q
    simp only at HSL HR1 HGE hE1 hE2 hE3 ⊢
    have HE1 := Lib.hid hE1
    have HE2 := Lib.hid hE2
    have HE3 := Lib.hid hE3
    clear hE1 hE2 hE3
    have c1 := HR1.out.c1
    have c2 := HR1.out.c2
    simp only at c1 c2
    cases st with
    | true =>
      have HE := Lib.hid (HE1.out rfl)
      clear HE1 HE2 HE3
      by_cases hat : at1 = s.size
      · obtain rfl := hat
        have hB : ((s.size : Int) == (s.size : Int)) = true := by simp
        have HEE : Hid (parseF s.data.toList = ([], 10, s.size)) := Lib.hid (by rw [HE.out, if_pos (by simp)])
        clear HE
        go_wp2
        go_quiet (fail)
        go_wp2
        refine bodyPost_ret (v := .tuple #[.slice none 0 0, .int .i64 10, .int .i64 s.size]) (by simp [results, Tryz.results48, go_sem]) rfl (ppost_none HEE.out (below_drewN HB1.out _))
      · have hB : ((at1 : Int) == (s.size : Int)) = false := by simp; omega
        have HEE : Hid (parseF s.data.toList = ([], 80, at1)) := Lib.hid (by rw [HE.out, if_neg (by simpa using hat)])
        clear HE
        go_wp2
        go_quiet (fail)
        go_wp2
        refine bodyPost_ret (v := .tuple #[.slice none 0 0, .int .i64 80, .int .i64 at1]) (by simp [results, Tryz.results48, go_sem]) rfl (ppost_none HEE.out (below_drewN HB1.out _))
    | false =>
      have HP := Lib.hid (print_any w1 a cap r HSL.out.old (HT.out.below HB1.out))
      go_wp2_with fail
      refine HP.out.mono ?_
      rintro e w2 ⟨rfl, hb2⟩
      have HB2 := Lib.hid (below_trans HB1.out hb2)
      have HSL2 := Lib.hid (HSL.out.kpt (KpT.of_below hb2))
      clear hb2 HP HSL HR1
      cases hr : rgRule r with
      | false =>
        have HEE := Lib.hid (HE3.out trivial (fun h => by rw [hr] at h; cases h.1))
        rw [print_bad hr]
        clear HE1 HE2 HE3 hr
        go_wp2
        refine bodyPost_ret (v := .tuple #[.slice none 0 0, .int .i64 1, .int .i64 0]) (by simp [results, Tryz.results48, go_sem]) rfl (ppost_none HEE.out HB2.out)
      | true =>
        by_cases h4 : 400 < (txRule r).length
        · have HEE := Lib.hid (HE3.out trivial (fun h => by have := HL.out; rw [← h.2] at this; exact this h4))
          rw [print_long hr h4]
          clear HE1 HE2 HE3 hr
          go_wp2
          refine bodyPost_ret (v := .tuple #[.slice none 0 0, .int .i64 1, .int .i64 0]) (by simp [results, Tryz.results48, go_sem]) rfl (ppost_none HEE.out HB2.out)
        · rw [print_ok hr h4]
          by_cases he : txRule r = s.data.toList
          · have HEE := Lib.hid (HE2.out trivial hr he)
            have hS : S8 (txRule r) = s := by rw [he]; exact (S8_of rfl).symm
            rw [hS]
            clear HE1 HE2 HE3 hr he h4 hS
            go_wp2
            refine bodyPost_ret (v := .tuple #[.slice a r.length cap, .int .i64 0, .int .i64 0]) (by simp [results, Tryz.results48, go_sem]) rfl ?_
            unfold PPost; rw [HEE.out]; exact ⟨a, cap, rfl, HSL2.out, HB2.out⟩
          · have HEE := Lib.hid (HE3.out trivial (fun h => he h.2))
            have hS : S8 (txRule r) ≠ s := fun h => he (by rw [← h, S8_list])
            clear HE1 HE2 HE3 hr he h4
            generalize S8 (txRule r) = t at *
            have hB := ba_ne hS
            clear hS
            go_wp2
            refine bodyPost_ret (v := .tuple #[.slice none 0 0, .int .i64 1, .int .i64 0]) (by simp [results, Tryz.results48, go_sem]) rfl (ppost_none HEE.out HB2.out)
end Go.Proofs.YtlmaafmhadbiaaaGreatDoor.Pu
