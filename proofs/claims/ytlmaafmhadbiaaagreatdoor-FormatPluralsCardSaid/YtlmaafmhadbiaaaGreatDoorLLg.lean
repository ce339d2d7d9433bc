/- Package format: Language, Chain. -/
import Derived.Test.YtlmaafmhadbiaaaGreatDoorLLo
namespace Go.Proofs.YtlmaafmhadbiaaaGreatDoor.Lc
open Go.RowKit Go.Lib

/-- The language of a text. -/
def langS (s : ByteArray) : ByteArray := if locB s.data.toList then str (langF s.data.toList) else ⟨#[]⟩
theorem langS_yes {s : ByteArray} (h : locB s.data.toList = true) : langS s = str (langF s.data.toList) := by unfold langS; rw [if_pos h]
theorem langS_no {s : ByteArray} (h : locB s.data.toList = false) : langS s = ⟨#[]⟩ := by unfold langS; rw [if_neg (by rw [h]; simp)]

set_option maxHeartbeats 3200000 in
theorem lang_any (s : ByteArray) (m : Int) (w : World) (hm : MaxW m w) : Calls Tryz.prog 10 #[.string s] w fun e w' => e = .returned (.string (langS s)) ∧ Below w.heap.size w w' := by
  have HL := Lib.hid (locale_any s m w hm)
  have HM := Lib.hid hm
  clear hm
  cases hl : locB s.data.toList with
  | false =>
    rw [hl] at HL
    have HF := Lib.hid (langS_no hl)
    clear hl
    go_enter Tryz.func10, Tryz.ntmps10
    go_wp2_with fail
    refine HL.out.mono ?_
    rintro e w1 ⟨rfl, hb⟩
    have HB := Lib.hid hb
    clear hb
    go_wp2
    go_ret
    exact ⟨ret_str HF.out.symm, HB.out⟩
  | true =>
    rw [hl] at HL
    have HF := Lib.hid (langS_yes hl)
    have hs := loc_le hl
    clear hl
    go_enter Tryz.func10, Tryz.ntmps10
    go_wp2_with fail
    refine HL.out.mono ?_
    rintro e w1 ⟨rfl, hb⟩
    have HB := Lib.hid hb
    clear hb
    have HC := Lib.hid (Tryz.strings_Cut s ⟨#[45]⟩ m w1 (by omega) (HM.out.next HB.out))
    have HT : Hid ((⟨(Lib.cut s.data.toList (⟨#[45]⟩ : ByteArray).data.toList).1.toArray⟩ : ByteArray) = langS s) := Lib.hid (by
      rw [HF.out]
      have := cut_lang s.data.toList
      exact congrArg str this)
    go_wp2_with fail
    refine HC.out.mono ?_
    rintro e w2 ⟨rfl, n, rfl⟩
    rw [HT.out]
    have HB2 := Lib.hid (below_drewN HB.out n)
    generalize w1.drewN n = w2 at *
    generalize (⟨(Lib.cut s.data.toList (⟨#[45]⟩ : ByteArray).data.toList).2.1.toArray⟩ : ByteArray) = r2 at *
    generalize (Lib.cut s.data.toList (⟨#[45]⟩ : ByteArray).data.toList).2.2 = r3 at *
    go_wp2
    go_ret
    exact ⟨rfl, HB2.out⟩

abbrev lists (xs : List ByteArray) : List (List UInt8) := xs.map (·.data.toList)
theorem lists_inj : ∀ {xs ys : List ByteArray}, lists xs = lists ys → xs = ys
  | [], [], _ => rfl
  | [], _ :: _, h => by cases h
  | _ :: _, [], h => by cases h
  | x :: xs, y :: ys, h => by
    injection h with h1 h2
    rw [ba_ext h1, lists_inj h2]
/-- Whom a text asks. -/
def chainS (l : List UInt8) : List (List UInt8) := if l = [] ∨ locB l = true then chainF l else []
theorem chainF_nil : chainF [] = [[]] := rfl
theorem chainF_step (l : List UInt8) (h : l ≠ []) : chainF l = l :: chainF (l.take (lastD l l.length)) := by
  have hk := lastD_le l l.length
  have e1 : (l.take (lastD l l.length)).length = lastD l l.length := by rw [List.length_take]; omega
  unfold chainF
  rw [if_neg h]
  by_cases h0 : lastD l l.length = 0
  · have ep := pre_last l l.length
    rw [if_pos h0] at ep
    rw [ep, h0, List.take_zero, if_pos rfl]; rfl
  · have hne : l.take (lastD l l.length) ≠ [] := by
      intro e; rw [e] at e1; simp at e1; omega
    rw [if_neg hne, e1, pre_take l _ _ (Nat.le_refl _)]
    have ep := pre_last l l.length
    rw [if_neg h0] at ep
    rw [ep]; rfl
theorem chain_some {l : List UInt8} (h : locB l = true) : chainS l = chainF l := by unfold chainS; rw [if_pos (.inr h)]
theorem chain_no {l : List UInt8} (h : locB l = false) (h0 : l ≠ []) : chainS l = [] := by unfold chainS; rw [if_neg (by rw [h]; simp [h0])]
def szV : Value → Nat
  | .string x => x.size
  | _ => 0
theorem last_max (x : ByteArray) : max 0 (lastIndexByte x 45) = (lastD x.data.toList x.data.toList.length : Int) := by
  have h := lastIndex_lastD x x.size (Nat.le_refl _)
  rw [ba_len]; exact h
theorem extract_take (x : ByteArray) (k : Nat) : (x.extract 0 k).data.toList = x.data.toList.take k := by simp
end Go.Proofs.YtlmaafmhadbiaaaGreatDoor.Lc
