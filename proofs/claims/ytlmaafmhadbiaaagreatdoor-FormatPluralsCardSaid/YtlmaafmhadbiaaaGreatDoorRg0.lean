/- What may be, one by one: mathematics. -/
import Derived.Test.YtlmaafmhadbiaaaGreatDoorPp
namespace Go.Proofs.YtlmaafmhadbiaaaGreatDoor

/-- What lies inside the cases of parts. -/
def subs : List Pt → Nat
  | [] => 0
  | x :: r => cntCs x.cs + subs r
theorem cntP_eq (x : Pt) : cntP x = 1 + cntCs x.cs := by cases x; rw [cntP]; rfl
theorem cntC_eq (x : Cs) : cntC x = cntPs x.kids := by cases x; rw [cntC]; rfl
theorem dpP_eq (x : Pt) : dpP x = dpCs x.cs := by cases x; rw [dpP]; rfl
theorem dpC_eq (x : Cs) : dpC x = dpPs x.kids + 1 := by cases x; rw [dpC]; rfl
theorem cntPs_subs : ∀ xs : List Pt, cntPs xs = xs.length + subs xs
  | [] => by rw [cntPs, subs]; rfl
  | x :: r => by rw [cntPs, cntP_eq, subs, cntPs_subs r, List.length_cons]; omega
theorem subs_snoc : ∀ (xs : List Pt) (x : Pt), subs (xs ++ [x]) = subs xs + cntCs x.cs
  | [], x => by simp [subs]
  | y :: r, x => by show subs (y :: (r ++ [x])) = _; rw [subs, subs, subs_snoc r x]; omega
theorem cntCs_snoc : ∀ (xs : List Cs) (x : Cs), cntCs (xs ++ [x]) = cntCs xs + cntC x
  | [], x => by simp [cntCs]
  | y :: r, x => by show cntCs (y :: (r ++ [x])) = _; rw [cntCs, cntCs, cntCs_snoc r x]; omega
theorem take_one {α : Type} {xs : List α} {k : Nat} {x : α} (h : xs[k]? = some x) : xs.take (k + 1) = xs.take k ++ [x] := by
  obtain ⟨hlt, hx⟩ := List.getElem?_eq_some_iff.1 h
  rw [List.take_succ_eq_append_getElem hlt, hx]
theorem drop_one {α : Type} {xs : List α} {k : Nat} {x : α} (h : xs[k]? = some x) : xs.drop k = x :: xs.drop (k + 1) := by
  obtain ⟨hlt, hx⟩ := List.getElem?_eq_some_iff.1 h
  rw [List.drop_eq_getElem_cons hlt, hx]
theorem subs_take {xs : List Pt} {k : Nat} {x : Pt} (h : xs[k]? = some x) : subs (xs.take (k + 1)) = subs (xs.take k) + cntCs x.cs := by rw [take_one h, subs_snoc]
theorem cntCs_take {xs : List Cs} {k : Nat} {x : Cs} (h : xs[k]? = some x) : cntCs (xs.take (k + 1)) = cntCs (xs.take k) + cntPs x.kids := by rw [take_one h, cntCs_snoc, cntC_eq]
theorem dpPs_take {xs : List Pt} {k : Nat} {x : Pt} (h : xs[k]? = some x) : dpPs (xs.take (k + 1)) = max (dpPs (xs.take k)) (dpCs x.cs) := by rw [take_one h, dp_snoc, dpP_eq]
theorem dpCs_take {xs : List Cs} {k : Nat} {x : Cs} (h : xs[k]? = some x) : dpCs (xs.take (k + 1)) = max (dpCs (xs.take k)) (dpPs x.kids + 1) := by rw [take_one h, dpC_snoc, dpC_eq]
theorem subs_le : ∀ (xs : List Pt) (k : Nat), subs (xs.take k) ≤ subs xs
  | [], k => by simp
  | _ :: _, 0 => by simp [subs]
  | x :: r, k + 1 => by rw [List.take_succ_cons, subs, subs]; have := subs_le r k; omega
theorem cntCs_le : ∀ (xs : List Cs) (k : Nat), cntCs (xs.take k) ≤ cntCs xs
  | [], k => by simp
  | _ :: _, 0 => by simp [cntCs]
  | x :: r, k + 1 => by rw [List.take_succ_cons, cntCs, cntCs]; have := cntCs_le r k; omega
theorem subs_at {xs : List Pt} {k : Nat} {x : Pt} (h : xs[k]? = some x) : subs (xs.take k) + cntCs x.cs ≤ subs xs := by
  have := subs_le xs (k + 1); rw [subs_take h] at this; exact this
theorem kids_at {xs : List Cs} {k : Nat} {x : Cs} (h : xs[k]? = some x) : cntCs (xs.take k) + cntPs x.kids ≤ cntCs xs := by
  have := cntCs_le xs (k + 1); rw [cntCs_take h] at this; exact this
theorem len_cnt (xs : List Pt) : xs.length ≤ cntPs xs := by rw [cntPs_subs]; omega
/-- What has been counted: as far as that is not too much. -/
def Vi (c d br N dp C D : Nat) : Prop := c ≤ C ∧ C ≤ c + N ∧ (C ≤ 1000 → C = c + N ∧ D = max d (br + dp))
theorem Vi.step {c d br N dp C D N' dp' C' D' : Nat} (h : Vi c d br N dp C D) (hC : C ≤ 1000) (k : Vi C D (br + 1) N' dp' C' D') : Vi c d br (N + N') (max dp (dp' + 1)) C' D' := by
  obtain ⟨h1, h2, h3⟩ := h
  obtain ⟨k1, k2, k3⟩ := k
  obtain ⟨h4, h5⟩ := h3 hC
  refine ⟨by omega, by omega, fun hC' => ?_⟩
  obtain ⟨k4, k5⟩ := k3 hC'
  exact ⟨by omega, by omega⟩
theorem Vi.over {c d br N dp C D N' dp' : Nat} (h : Vi c d br N dp C D) (hC : 1000 < C) (hN : N ≤ N') : Vi c d br N' dp' C D := by
  obtain ⟨h1, h2, h3⟩ := h
  exact ⟨h1, by omega, fun h => by omega⟩
theorem cntPs_snoc (xs : List Pt) (x : Pt) : cntPs (xs ++ [x]) = cntPs xs + cntP x := by
  rw [cntPs_subs, cntPs_subs, subs_snoc, cntP_eq, List.length_append, List.length_singleton]; omega
theorem cnt_both (l : List UInt8) : ∀ f, (∀ h o acc S, (partsL l f h o acc S).2.2 = 0 → cntPs (partsL l f h o acc S).1 + S.1 ≤ cntPs acc + (partsL l f h o acc S).2.1) ∧ (∀ h o acc b, (casesL l f h o acc b).2.2 = 0 → cntCs (casesL l f h o acc b).1 + b.2.1 ≤ cntCs acc + (casesL l f h o acc b).2.1)
  | 0 => ⟨fun h o acc S _ => by rw [partsL]; exact Nat.le_refl _, fun h o acc b _ => by rw [casesL]; exact Nat.le_refl _⟩
  | f + 1 => by
    obtain ⟨ih1, ih2⟩ := cnt_both l f
    refine ⟨fun h o acc S h3 => ?_, fun h o acc b h3 => ?_⟩
    · rw [partsL] at h3 ⊢
      split
      · rename_i hc
        rw [if_pos hc] at h3
        have hl := (ge_parts l f h o _ _).live h3
        have e1 := ih1 _ _ _ _ h3
        rw [cntPs_snoc] at e1
        have e2 : cntP (partG l (fun h b => casesL l f h o [] b) h S).1 + S.1 ≤ (partG l (fun h b => casesL l f h o [] b) h S).2.1 := by
          have hadv := part_adv (cf := fun h b => casesL l f h o [] b) (fun h b => ge_cases l f h o [] b) (h := h) hc.1 hc.2.1 hc.2.2
          rw [cntP_eq]
          unfold partG at hl hadv ⊢
          split at hl
          · rename_i hn
            rw [if_pos hn] at hadv ⊢
            have hw : S.1 + 1 ≤ (wordF l [123] S).1 := by rw [word_yes hn]; exact (ge_word l [] (S.1 + 1, 0)).1
            have g1 := (ge_long l nameB (wordF l [123] S)).1
            unfold holeG at hl hadv ⊢
            simp only at hl hadv ⊢
            split at hl
            · rename_i hs
              rw [if_pos hs]
              have := ih2 h o [] _ hl
              have g2 := ((ge_word l seW (longF l nameB (wordF l [123] S)).2).trans (ge_one l [32] _)).1
              simp only [cntCs, Pt.cs] at this ⊢
              omega
            · rename_i hs
              rw [if_neg hs] at hadv ⊢
              split at hl
              · rename_i hp
                rw [if_pos hp]
                have := ih2 true o [] _ hl
                have g2 := ((ge_word l plW (longF l nameB (wordF l [123] S)).2).trans (ge_one l [32] _)).1
                simp only [cntCs, Pt.cs] at this ⊢
                omega
              · rename_i hp
                rw [if_neg hp] at hadv ⊢
                simp only [cntCs, Pt.cs] at *
                omega
          · rename_i hn
            rw [if_neg hn] at hadv ⊢
            split at hl
            · rename_i hn2
              rw [if_pos hn2] at hadv ⊢
              simp only [cntCs, Pt.cs] at *
              omega
            · rename_i hn2
              rw [if_neg hn2] at hadv ⊢
              simp only [cntCs, Pt.cs] at *
              omega
        omega
      · exact Nat.le_refl _
    · rw [casesL] at h3 ⊢
      split
      · rename_i hc
        rw [if_pos hc] at h3
        have hl0 := (ge_cases l f h o _ _).live h3
        have hl := (ge_one l [32, 125] _).live hl0
        have e1 := ih2 _ _ _ _ h3
        rw [cntCs_snoc, cntC_eq] at e1
        have g1 := (ge_one l [32, 125] (branchG l (fun S => partsL l f h (o + 1) [] S) o b.2).2).1
        have e2 : cntPs (branchG l (fun S => partsL l f h (o + 1) [] S) o b.2).1.kids + b.2.1 ≤ (branchG l (fun S => partsL l f h (o + 1) [] S) o b.2).2.1 := by
          unfold branchG at hl ⊢
          simp only at hl ⊢
          have hl2 := (ge_word l [125] _).live hl
          have := ih1 h (o + 1) [] _ hl2
          have g2 := ((ge_key l b.2).trans ((ge_word l [32] _).trans ((ge_deep l o _).trans (ge_word l [123] _)))).1
          have g3 := (ge_word l [125] (partsL l f h (o + 1) [] (wordF l [123] (deepF l o (wordF l [32] (keyF l b.2).2)))).2).1
          simp only [cntPs, Cs.kids] at this ⊢
          omega
        omega
      · exact Nat.le_refl _
theorem cnt_read {l : List UInt8} (h : (readF l).2.2 = 0) : cntPs (readF l).1 ≤ l.length := by
  have h1 := (cnt_both l (l.length + 1)).1 false 0 [] (0, 0) h
  have h2 := (read_wf l).1
  simp only [cntPs] at h1
  unfold readF at h2 ⊢
  omega
end Go.Proofs.YtlmaafmhadbiaaaGreatDoor
