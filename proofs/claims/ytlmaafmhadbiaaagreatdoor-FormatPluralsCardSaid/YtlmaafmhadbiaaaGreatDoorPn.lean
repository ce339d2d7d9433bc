/- The reader: no branch is too deep, what was read is the text, nothing behind a fault matters. -/
import Derived.Test.YtlmaafmhadbiaaaGreatDoorPm
namespace Go.Proofs.YtlmaafmhadbiaaaGreatDoor

/- Depth. -/
theorem dp_snoc : ∀ (xs : List Pt) (x : Pt), dpPs (xs ++ [x]) = max (dpPs xs) (dpP x)
  | [], x => by simp [dpPs]
  | y :: r, x => by simp only [List.cons_append, dpPs]; rw [dp_snoc r x]; omega
theorem dpC_snoc : ∀ (xs : List Cs) (x : Cs), dpCs (xs ++ [x]) = max (dpCs xs) (dpC x)
  | [], x => by simp [dpCs]
  | y :: r, x => by simp only [List.cons_append, dpCs]; rw [dpC_snoc r x]; omega
theorem deep_word (l : List UInt8) (S : St) : (wordF l [123] (deepF l 32 S)).2 ≠ 0 := by
  unfold deepF
  split
  · rw [word_stuck l _ (by simp)]; simp
  · rename_i h
    cases hb : nextF l [123] S with
    | true => exact absurd ⟨hb, rfl⟩ h
    | false => exact word_no hb
theorem dp_both (l : List UInt8) : ∀ f, (∀ h o acc S, dpPs acc + o ≤ 32 → o ≤ 32 → (partsL l f h o acc S).2.2 = 0 → dpPs (partsL l f h o acc S).1 + o ≤ 32) ∧ (∀ h o acc b, dpCs acc + o ≤ 32 → o ≤ 32 → (casesL l f h o acc b).2.2 = 0 → dpCs (casesL l f h o acc b).1 + o ≤ 32)
  | 0 => ⟨fun h o acc S h1 _ _ => by rw [partsL]; exact h1, fun h o acc b h1 _ _ => by rw [casesL]; exact h1⟩
  | f + 1 => by
    obtain ⟨ih1, ih2⟩ := dp_both l f
    refine ⟨fun h o acc S h1 h2 h3 => ?_, fun h o acc b h1 h2 h3 => ?_⟩
    · rw [partsL] at h3 ⊢
      split
      · rename_i hc
        rw [if_pos hc] at h3
        refine ih1 _ _ _ _ ?_ h2 h3
        have hl := (ge_parts l f h o _ _).live h3
        rw [dp_snoc]
        have : dpP (partG l (fun h b => casesL l f h o [] b) h S).1 + o ≤ 32 := by
          unfold partG at hl ⊢
          split at hl
          · rename_i hn
            rw [if_pos hn]
            unfold holeG at hl ⊢
            simp only at hl ⊢
            split at hl
            · rename_i hs
              rw [if_pos hs]
              exact ih2 h o [] _ (by simp [dpCs]; exact h2) h2 hl
            · rename_i hs
              rw [if_neg hs]
              split at hl
              · rename_i hp
                rw [if_pos hp]
                exact ih2 true o [] _ (by simp [dpCs]; exact h2) h2 hl
              · rename_i hp
                rw [if_neg hp]
                simp [dpP, dpCs]; exact h2
          · rename_i hn
            rw [if_neg hn]
            split
            · simp [dpP, dpCs]; exact h2
            · simp [dpP, dpCs]; exact h2
        omega
      · exact h1
    · rw [casesL] at h3 ⊢
      split
      · rename_i hc
        rw [if_pos hc] at h3
        refine ih2 _ _ _ _ ?_ h2 h3
        have hl := (ge_one l [32, 125] _).live ((ge_cases l f h o _ _).live h3)
        rw [dpC_snoc]
        unfold branchG at hl ⊢
        simp only at hl ⊢
        have hl2 := (ge_word l [125] _).live hl
        have ho : o ≠ 32 := by
          rintro rfl
          exact deep_word l _ ((ge_parts l f h (32 + 1) [] _).live hl2)
        have := ih1 h (o + 1) [] _ (by simp [dpPs]; omega) (by omega) hl2
        simp only [dpC]
        omega
      · exact h1
theorem dp_read {l : List UInt8} (h : (readF l).2.2 = 0) : dpPs (readF l).1 ≤ 32 := by
  have := (dp_both l (l.length + 1)).1 false 0 [] (0, 0) (by simp [dpPs]) (by omega) h
  unfold readF; omega

/- What was read is the text. -/
theorem one_text {l m : List UInt8} {S : St} (h : (oneF l m S).2.2 = 0) : ∃ c ∈ m, (oneF l m S).1 = [c] ∧ l.drop S.1 = c :: l.drop (oneF l m S).2.1 := by
  rcases one_cases l m S with h1 | ⟨d, h0, h1, h2, h3⟩
  · exact absurd h h1.1
  · rw [h3]
    obtain ⟨hi, rfl⟩ := List.getElem?_eq_some_iff.1 h1
    exact ⟨_, h2, rfl, List.drop_eq_getElem_cons hi⟩
theorem word_text {l : List UInt8} : ∀ {t : List UInt8} {S : St}, (wordF l t S).2 = 0 → l.drop S.1 = t ++ l.drop (wordF l t S).1
  | [], S, _ => rfl
  | c :: r, S, h => by
    rw [wordF] at h ⊢
    obtain ⟨d, hd, -, h1⟩ := one_text ((ge_word l r _).live h)
    rw [List.mem_singleton] at hd; subst hd
    rw [h1, word_text h]; rfl
theorem long_text {l : List UInt8} {p : List UInt8 → Bool} {S : St} (h : (longF l p S).2.2 = 0) : l.drop S.1 = (longF l p S).1 ++ l.drop (longF l p S).2.1 := by
  unfold longF at *
  split at h
  · rename_i h0
    rw [if_pos h0]
    split at h
    · exact absurd h (fail_ne l S)
    · rename_i h1
      rw [if_neg h1]
      simp only
      rw [← List.drop_drop, List.take_append_drop]
  · rename_i h0; exact absurd h h0
theorem key_text {l : List UInt8} {S : St} (h : (keyF l S).2.2 = 0) : l.drop S.1 = (keyF l S).1 ++ l.drop (keyF l S).2.1 := by
  unfold keyF at *
  split at h
  · rename_i hn
    rw [if_pos hn]
    simp only
    have h2 := long_text h
    rw [word_text ((ge_long l numB _).live h), h2, List.append_assoc]
  · rename_i hn
    rw [if_neg hn]
    exact long_text h
theorem esc_app : ∀ (a b : List UInt8), escF (a ++ b) = escF a ++ escF b
  | [], b => rfl
  | c :: r, b => by rw [List.cons_append, escF, escF, esc_app r b, List.append_assoc]
theorem quot_text {l : List UInt8} {S : St} (h : (quotF l S).2.2 = 0) : l.drop S.1 = escF (quotF l S).1 ++ l.drop (quotF l S).2.1 := by
  unfold quotF at *
  split at h
  · rename_i h1
    rw [if_pos h1]
    obtain ⟨c, hc, h2, h3⟩ := one_text h
    rw [h1] at h2
    injection h2 with h2
    subst h2
    rw [word_text ((ge_one l _ _).live h), h3, h1]; rfl
  · rename_i h1
    rw [if_neg h1]
    have h4 := (ge_word l [39] _).live h
    obtain ⟨c, hc, h2, h3⟩ := one_text h4
    rw [word_text ((ge_one l _ _).live h4), h3, word_text h, h2]
    rw [h2] at h1
    have hn : c ≠ 39 := fun e => h1 (by rw [e])
    have hm : c = 123 ∨ c = 125 ∨ c = 35 := by
      simp only [List.mem_cons, List.not_mem_nil, or_false] at hc
      rcases hc with e | e
      · exact absurd e hn
      · exact e
    rw [escF, if_neg hn, if_pos hm, escF]; rfl
theorem text_text {l : List UInt8} : ∀ (f : Nat) (acc : List UInt8) (S : St), (textL l f acc S).2.2 = 0 → ∃ ys, (textL l f acc S).1 = acc ++ ys ∧ l.drop S.1 = escF ys ++ l.drop (textL l f acc S).2.1
  | 0, acc, S, _ => ⟨[], by rw [textL]; simp, by rw [textL]; rfl⟩
  | f + 1, acc, S, h => by
    rw [textL] at h ⊢
    split at h
    · rename_i h0
      rw [if_pos h0]
      split at h
      · rename_i hx
        exact ⟨[], by simp, rfl⟩
      · rename_i c hx
        split at h
        · rename_i h1
          rw [if_pos h1]
          exact ⟨[], by simp, rfl⟩
        · rename_i h1
          rw [if_neg h1]
          split at h
          · rename_i h2
            rw [if_pos h2]
            obtain ⟨ys, e1, e2⟩ := text_text f _ _ h
            have e3 := quot_text ((ge_text l f _ _).live h)
            exact ⟨(quotF l S).1 ++ ys, by rw [e1, List.append_assoc], by rw [e3, e2, esc_app, List.append_assoc]⟩
          · rename_i h2
            rw [if_neg h2]
            obtain ⟨ys, e1, e2⟩ := text_text f _ _ h
            obtain ⟨hi, rfl⟩ := List.getElem?_eq_some_iff.1 hx
            refine ⟨l[S.1] :: ys, by rw [e1]; simp, ?_⟩
            rw [List.drop_eq_getElem_cons hi, e2, escF, if_neg h2, if_neg (by rintro (e | e | e); exact h1 (.inl e); exact h1 (.inr (.inl e)); exact h1 (.inr (.inr e)))]; rfl
    · rename_i h0; exact absurd h h0
theorem txPs_app : ∀ (a b : List Pt), txPs (a ++ b) = txPs a ++ txPs b
  | [], b => rfl
  | c :: r, b => by rw [List.cons_append, txPs, txPs, txPs_app r b, List.append_assoc]
theorem txCs_app : ∀ (a b : List Cs), txCs (a ++ b) = txCs a ++ txCs b
  | [], b => rfl
  | c :: r, b => by rw [List.cons_append, txCs, txCs, txCs_app r b, List.append_assoc]
theorem ba_list (l : List UInt8) : (ba l).data.toList = l := rfl
theorem part_tx {l : List UInt8} {cf : Bool → List UInt8 × St → List Cs × St} {h : Bool} {S : St} (hge : ∀ h b, Ge l b.2 (cf h b).2) (hS : S.1 ≤ l.length)
    (Hc : ∀ h b, b.1 = [32] → b.2.1 ≤ l.length → S.1 + 1 ≤ b.2.1 → (cf h b).2.2 = 0 → b.1 ++ l.drop b.2.1 = txCs (cf h b).1 ++ [125] ++ l.drop (cf h b).2.1)
    (hl : (partG l cf h S).2.2 = 0) : l.drop S.1 = txP (partG l cf h S).1 ++ l.drop (partG l cf h S).2.1 := by
  unfold partG at hl ⊢
  split at hl
  · rename_i hn
    rw [if_pos hn]
    have hS0 := (next_iff.1 hn).1
    unfold holeG at hl ⊢
    simp only at hl ⊢
    split at hl
    · rename_i hs
      rw [if_pos hs]
      simp only at hl ⊢
      have k1 := (hge h _).live hl
      have k2 := (ge_one l [32] _).live k1
      have k3 := (ge_word l seW _).live k2
      have k4 := (ge_long l nameB _).live k3
      obtain ⟨c, hc1, hc2, hc3⟩ := one_text k1
      rw [List.mem_singleton] at hc1; subst hc1
      have g := (((ge_word l [123] S).trans (ge_long l nameB _)).trans (ge_word l seW _)).trans (ge_one l [32] _)
      have a1 := one_adv k1
      have a2 := ((ge_word l [123] S).trans ((ge_long l nameB _).trans (ge_word l seW _))).1
      have := Hc h _ hc2 (g.2.1 ⟨hS, .inl hS0⟩).1 (by omega) hl
      rw [word_text k4, long_text k3, word_text k2, hc3]
      rw [hc2] at this
      rw [List.singleton_append] at this
      rw [this]
      simp [txP, List.append_assoc]
    · rename_i hs
      rw [if_neg hs]
      split at hl
      · rename_i hp
        rw [if_pos hp]
        simp only at hl ⊢
        have k1 := (hge true _).live hl
        have k2 := (ge_one l [32] _).live k1
        have k3 := (ge_word l plW _).live k2
        have k4 := (ge_long l nameB _).live k3
        obtain ⟨c, hc1, hc2, hc3⟩ := one_text k1
        rw [List.mem_singleton] at hc1; subst hc1
        have g := (((ge_word l [123] S).trans (ge_long l nameB _)).trans (ge_word l plW _)).trans (ge_one l [32] _)
        have a1 := one_adv k1
        have a2 := ((ge_word l [123] S).trans ((ge_long l nameB _).trans (ge_word l plW _))).1
        have := Hc true _ hc2 (g.2.1 ⟨hS, .inl hS0⟩).1 (by omega) hl
        rw [word_text k4, long_text k3, word_text k2, hc3]
        rw [hc2] at this
        rw [List.singleton_append] at this
        rw [this]
        simp [txP, List.append_assoc]
      · rename_i hp
        rw [if_neg hp]
        simp only at hl ⊢
        have k3 := (ge_word l [125] _).live hl
        have k4 := (ge_long l nameB _).live k3
        rw [word_text k4, long_text k3, word_text hl]
        simp [txP, List.append_assoc]
  · rename_i hn
    rw [if_neg hn]
    split at hl
    · rename_i hn2
      rw [if_pos hn2]
      simp only at hl ⊢
      cases h with
      | true =>
        simp only [if_true] at hl ⊢
        rw [word_text hl]; simp [txP]
      | false =>
        simp only [Bool.false_eq_true, if_false] at hl
        rw [word_stuck l _ (fail_ne l S)] at hl
        exact absurd hl (fail_ne l S)
    · rename_i hn2
      rw [if_neg hn2]
      simp only at hl ⊢
      obtain ⟨ys, e1, e2⟩ := text_text _ _ _ hl
      rw [List.nil_append] at e1
      rw [e1, e2]; simp [txP]
theorem branch_tx {l : List UInt8} {pf : St → List Pt × St} {o : Nat} {S : St} (hge : ∀ S, Ge l S (pf S).2) (hS : S.1 ≤ l.length) (hS0 : S.2 = 0)
    (Hp : ∀ T : St, T.2 = 0 → T.1 ≤ l.length → S.1 + 1 ≤ T.1 → (pf T).2.2 = 0 → l.drop T.1 = txPs (pf T).1 ++ l.drop (pf T).2.1)
    (hl : (branchG l pf o S).2.2 = 0) : 32 :: l.drop S.1 = txC (branchG l pf o S).1 ++ l.drop (branchG l pf o S).2.1 := by
  unfold branchG at hl ⊢
  simp only at hl ⊢
  have k1 := (ge_word l [125] _).live hl
  have k2 := (hge _).live k1
  have k3 := (ge_word l [123] _).live k2
  have k4 := (ge_deep l o _).live k3
  have k5 := (ge_word l [32] _).live k4
  have hd : deepF l o (wordF l [32] (keyF l S).2) = wordF l [32] (keyF l S).2 := by
    unfold deepF at k3 ⊢
    split
    · rename_i h; rw [if_pos h] at k3; simp at k3
    · rfl
  have g := (((ge_key l S).trans (ge_word l [32] _)).trans (ge_deep l o _)).trans (ge_word l [123] _)
  have a1 := word_adv k2
  have a2 := (((ge_key l S).trans (ge_word l [32] _)).trans (ge_deep l o _)).1
  have := Hp _ k2 (g.2.1 ⟨hS, .inl hS0⟩).1 (by omega) k1
  rw [hd] at hl this k2 ⊢
  rw [key_text k5, word_text k4, word_text k2, this, word_text hl]
  simp [txC, List.append_assoc]
theorem tx_both (l : List UInt8) : ∀ f,
    (∀ h o acc (S : St), S.1 ≤ l.length → l.length - S.1 < f → (partsL l f h o acc S).2.2 = 0 → ∃ ys, (partsL l f h o acc S).1 = acc ++ ys ∧ l.drop S.1 = txPs ys ++ l.drop (partsL l f h o acc S).2.1) ∧
    (∀ h o acc (b : List UInt8 × St), (b.1 = [32] ∨ b.1 = [125]) → b.2.1 ≤ l.length → (b.1 = [32] → l.length - b.2.1 < f) → (casesL l f h o acc b).2.2 = 0 → ∃ ys, (casesL l f h o acc b).1 = acc ++ ys ∧ b.1 ++ l.drop b.2.1 = txCs ys ++ [125] ++ l.drop (casesL l f h o acc b).2.1)
  | 0 => ⟨fun h o acc S _ h2 _ => by omega, fun h o acc b h1 h2 h3 _ => by
      rcases h1 with h1 | h1
      · have := h3 h1; omega
      · exact ⟨[], by rw [casesL]; simp, by rw [casesL, h1]; rfl⟩⟩
  | f + 1 => by
    obtain ⟨ih1, ih2⟩ := tx_both l f
    refine ⟨fun h o acc S hS hf hl => ?_, fun h o acc b hb hle hf hl => ?_⟩
    · rw [partsL] at hl ⊢
      split
      · rename_i hc
        rw [if_pos hc] at hl
        have hl1 := (ge_parts l f h o _ _).live hl
        have hadv : S.1 + 1 ≤ (partG l (fun h b => casesL l f h o [] b) h S).2.1 := by
          rcases part_adv (cf := fun h b => casesL l f h o [] b) (fun h b => ge_cases l f h o [] b) (h := h) hc.1 hc.2.1 hc.2.2 with z | z
          · exact absurd hl1 z
          · exact z
        have hwf : (partG l (fun h b => casesL l f h o [] b) h S).2.1 ≤ l.length := ((ge_part (fun h b => ge_cases l f h o [] b) h S).2.1 ⟨hS, .inl hc.1⟩).1
        obtain ⟨ys, e1, e2⟩ := ih1 _ _ _ _ hwf (by omega) hl
        have key := part_tx (cf := fun h b => casesL l f h o [] b) (fun h b => ge_cases l f h o [] b) hS (fun h b q1 q2 q3 q4 => by
          obtain ⟨zs, w1, w2⟩ := ih2 h o [] b (.inl q1) q2 (fun _ => by omega) q4
          rw [List.nil_append] at w1
          rw [w1]; exact w2) hl1
        exact ⟨_ :: ys, by rw [e1, List.append_assoc]; rfl, by rw [key, e2, txPs, List.append_assoc]⟩
      · exact ⟨[], by simp, rfl⟩
    · rw [casesL] at hl ⊢
      split
      · rename_i hc
        rw [if_pos hc] at hl
        have hl1 := (ge_cases l f h o _ _).live hl
        have hl2 := (ge_one l [32, 125] _).live hl1
        have hl3 := (ge_branch (fun S => ge_parts l f h (o + 1) [] S) o b.2).live hl2
        have hb2 := hf hc
        have hwf := (ge_branch (fun S => ge_parts l f h (o + 1) [] S) o b.2).2.1 ⟨hle, .inl hl3⟩
        have hwf2 := ((ge_one l [32, 125] _).2.1 hwf).1
        have a1 := one_adv hl1
        have a2 := (ge_branch (fun S => ge_parts l f h (o + 1) [] S) o b.2).1
        obtain ⟨c, hcm, hc1, hc2⟩ := one_text hl1
        obtain ⟨ys, e1, e2⟩ := ih2 h o _ _ (by rw [hc1]; simp only [List.mem_cons, List.not_mem_nil, or_false] at hcm; rcases hcm with e | e <;> simp [e]) hwf2 (fun _ => by omega) hl
        have key := branch_tx (pf := fun S => partsL l f h (o + 1) [] S) (o := o) (fun S => ge_parts l f h (o + 1) [] S) hle hl3 (fun T q1 q2 q3 q4 => by
          obtain ⟨zs, w1, w2⟩ := ih1 h (o + 1) [] T q2 (by omega) q4
          rw [List.nil_append] at w1
          rw [w1]; exact w2) hl2
        refine ⟨_ :: ys, by rw [e1, List.append_assoc]; rfl, ?_⟩
        rw [hc, List.singleton_append, key, hc2, txCs]
        rw [hc1] at e2
        rw [List.singleton_append] at e2
        rw [e2]; simp [List.append_assoc]
      · rename_i hc
        rcases hb with hb | hb
        · exact absurd hb hc
        · exact ⟨[], by simp, by rw [hb]; rfl⟩
/-- What was read, to the end, is the text. -/
theorem tx_read {l : List UInt8} (h : (readF l).2.2 = 0) : l = txPs (readF l).1 ++ l.drop (readF l).2.1 := by
  obtain ⟨ys, e1, e2⟩ := (tx_both l (l.length + 1)).1 false 0 [] (0, 0) (by simp) (by simp) h
  unfold readF
  rw [e1, List.nil_append]; exact e2
theorem parse_text {l : List UInt8} (h : (parseF l).2.1 = 0) : txPs (parseF l).1 = l ∧ l.length ≤ 2000 ∧ rightE (parseF l).1 = 0 ∧ (parseF l).2.2 = 0 := by
  unfold parseF at *
  split at h
  · simp at h
  · rename_i h1
    rw [if_neg h1]
    split at h
    · rename_i h2; exact absurd h h2
    · rename_i h2
      rw [if_neg h2]
      split at h
      · rename_i h3; exact absurd h h3
      · rename_i h3
        rw [if_neg h3]
        have hge := ge_parts l (l.length + 1) false 0 [] (0, 0)
        have hend : (readF l).2.2 = 0 ∧ (readF l).2.1 = l.length := by
          simp only [ne_eq, Decidable.not_not] at h2
          unfold endF at h2
          split at h2
          · exact absurd h2 (fail_ne l _)
          · rename_i h4
            refine ⟨h2, ?_⟩
            have := (hge.2.1 ⟨Nat.zero_le _, .inl rfl⟩).1
            unfold readF at h4 ⊢
            omega
        have := tx_read hend.1
        rw [hend.2, List.drop_length, List.append_nil] at this
        exact ⟨this.symm, by omega, by simpa using h3, rfl⟩
end Go.Proofs.YtlmaafmhadbiaaaGreatDoor
