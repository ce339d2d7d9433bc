/- The document's reader goes on, and stays where it got stuck. -/
import Derived.Test.YtapnieogfddjkaaDoorDq
namespace Go.Proofs.YtapnieogfddjkaaDoor

theorem ge_step {l : List UInt8} {S : St} {c : UInt8} (h : nowF l S = some c) : Ge l S (S.1 + 1, 0) := ⟨Nat.le_succ _, fun _ => wf_next h, fun e => absurd (now_live h).1 e⟩
theorem ge_run (l : List UInt8) (w : UInt8 → Bool) (p : List UInt8 → Bool) : ∀ (f : Nat) (acc : List UInt8) (S : St), Ge l S (runL l w p f acc S).2
  | 0, acc, S => by rw [runL]; exact Ge.refl _ _
  | f + 1, acc, S => by
    rw [runL]
    cases hn : nowF l S with
    | none => exact Ge.refl _ _
    | some c =>
      simp only
      split
      · split
        · exact (ge_step hn).trans (ge_run l w p f _ _)
        · exact ge_fail l S
      · exact Ge.refl _ _
theorem ge_dName (l : List UInt8) (S : St) : Ge l S (dName l S).2 := by
  unfold dName
  split
  · exact ge_run _ _ _ _ _ _
  · exact (ge_fail l S).trans (ge_run _ _ _ _ _ _)
theorem ge_dKey (l : List UInt8) (S : St) : Ge l S (dKey l S).2 := by
  unfold dKey
  split
  · rename_i h
    split
    · exact (ge_step h).trans (ge_run _ _ _ _ _ _)
    · exact (ge_step h).trans (ge_fail _ _)
  · exact ge_dName l S
theorem ge_over {l : List UInt8} {R : St} (h : nowF l R = some 123) : Ge l R (R.1, 12) := ⟨Nat.le_refl _, fun _ => ⟨Nat.le_of_lt (get_lt (now_live h).2), .inr (.inr ⟨.inr rfl, get_lt (now_live h).2⟩)⟩, fun e => absurd (now_live h).1 e⟩
theorem ge_dHole {l : List UInt8} {cf : Bool → St → List Cs × St} (hc : ∀ h S, Ge l S (cf h S).2) (h : Bool) (S : St) : Ge l (S.1 + 1, 0) (dHoleG l cf h S).2 := by
  have hn := ge_dName l (S.1 + 1, 0)
  unfold dHoleG
  simp only
  split
  · rename_i h1
    exact hn.trans (ge_step h1)
  · split
    · exact hn.trans ((ge_word l _ _).trans ((ge_word l _ _).trans (hc _ _)))
    · exact hn.trans ((ge_word l _ _).trans ((ge_word l _ _).trans (hc _ _)))
theorem ge_dBoth (l : List UInt8) : ∀ f, (∀ o h acc S, Ge l S (dPartsL l f o h acc S).2) ∧ (∀ o h acc S, Ge l S (dCasesL l f o h acc S).2)
  | 0 => ⟨fun o h acc S => by rw [dPartsL]; exact Ge.refl _ _, fun o h acc S => by rw [dCasesL]; exact Ge.refl _ _⟩
  | f + 1 => by
    obtain ⟨i1, i2⟩ := ge_dBoth l f
    refine ⟨fun o h acc S => ?_, fun o h acc S => ?_⟩
    · rw [dPartsL]
      cases hn : nowF l S with
      | none => exact Ge.refl _ _
      | some c =>
        simp only
        split
        · exact Ge.refl _ _
        · split
          · exact ge_fail l S
          · split
            · exact (ge_step hn).trans ((ge_dHole (fun h S => i2 o h [] S) h S).trans (i1 _ _ _ _))
            · split
              · exact (ge_step hn).trans (i1 _ _ _ _)
              · split
                · cases hd : nowF l (S.1 + 1, 0) with
                  | none => exact (ge_step hn).trans (ge_fail _ _)
                  | some d =>
                    simp only
                    split
                    · refine (ge_step hn).trans (Ge.trans (ge_step hd) (Ge.trans ?_ (i1 _ _ _ _)))
                      split
                      · exact Ge.refl _ _
                      · exact ge_word l [39] _
                    · exact (ge_step hn).trans (ge_fail _ _)
                · exact (ge_step hn).trans (i1 _ _ _ _)
    · rw [dCasesL]
      split
      · simp only
        have hk := (ge_word l [32] S).trans (ge_dKey l (wordF l [32] S))
        have hr := hk.trans (ge_word l [32] (dKey l (wordF l [32] S)).2)
        split
        · rename_i h1
          exact hr.trans (ge_over h1.1)
        · have hp := hr.trans ((ge_word l [123] _).trans ((i1 (o + 1) h [] (wordF l [123] (wordF l [32] (dKey l (wordF l [32] S)).2))).trans (ge_word l [125] _)))
          split
          · rename_i h1
            exact hp.trans (ge_step h1)
          · exact hp.trans (i2 _ _ _ _)
      · exact Ge.refl _ _
theorem ge_dParts (l : List UInt8) (f o : Nat) (h : Bool) (acc : List Pt) (S : St) : Ge l S (dPartsL l f o h acc S).2 := (ge_dBoth l f).1 o h acc S
theorem ge_dCases (l : List UInt8) (f o : Nat) (h : Bool) (acc : List Cs) (S : St) : Ge l S (dCasesL l f o h acc S).2 := (ge_dBoth l f).2 o h acc S
end Go.Proofs.YtapnieogfddjkaaDoor
