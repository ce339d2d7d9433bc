/- The reader: it goes on, it stays where it got stuck. -/
import Derived.Test.YtlmaafmhadbiaaaGreatDoorPl
namespace Go.Proofs.YtlmaafmhadbiaaaGreatDoor

def Wf (l : List UInt8) (S : St) : Prop := S.1 ≤ l.length ∧ (S.2 = 0 ∨ (S.2 = 10 ∧ S.1 = l.length) ∨ ((S.2 = 90 ∨ S.2 = 12) ∧ S.1 < l.length))
/-- From S to S'. -/
def Ge (l : List UInt8) (S S' : St) : Prop := S.1 ≤ S'.1 ∧ (Wf l S → Wf l S') ∧ (S.2 ≠ 0 → S' = S)
theorem Ge.refl (l : List UInt8) (S : St) : Ge l S S := ⟨Nat.le_refl _, id, fun _ => rfl⟩
theorem Ge.trans {l : List UInt8} {A B C : St} (h : Ge l A B) (k : Ge l B C) : Ge l A C :=
  ⟨Nat.le_trans h.1 k.1, fun x => k.2.1 (h.2.1 x), fun x => by have h1 := h.2.2 x; rw [h1] at k; exact k.2.2 x⟩
theorem Ge.live {l : List UInt8} {A B : St} (h : Ge l A B) (hB : B.2 = 0) : A.2 = 0 := by
  rcases Nat.eq_zero_or_pos A.2 with h0 | h0
  · exact h0
  · rw [h.2.2 (by omega)] at hB; exact hB
theorem get_lt {l : List UInt8} {a : Nat} {c : UInt8} (h : l[a]? = some c) : a < l.length := (List.getElem?_eq_some_iff.1 h).1
theorem fail_stuck {l : List UInt8} {S : St} (h : S.2 ≠ 0) : failF l S = S := by unfold failF; rw [if_neg h]
theorem fail_fst (l : List UInt8) (S : St) : (failF l S).1 = S.1 := by unfold failF; split <;> rfl
theorem fail_ne (l : List UInt8) (S : St) : (failF l S).2 ≠ 0 := by
  unfold failF; split
  · simp only; split <;> omega
  · assumption
theorem ge_fail (l : List UInt8) (S : St) : Ge l S (failF l S) := by
  refine ⟨by rw [fail_fst]; exact Nat.le_refl _, fun h => ?_, fun h => fail_stuck h⟩
  unfold failF
  split
  · obtain ⟨h1, h2⟩ := h
    refine ⟨h1, ?_⟩
    simp only
    split
    · right; left; exact ⟨rfl, by assumption⟩
    · right; right; exact ⟨.inl rfl, by omega⟩
  · exact h
theorem one_stuck {l m : List UInt8} {S : St} (h : S.2 ≠ 0) : oneF l m S = ([], S) := by unfold oneF; rw [if_neg h]
theorem ge_one (l m : List UInt8) (S : St) : Ge l S (oneF l m S).2 := by
  unfold oneF
  split
  · rename_i h0
    split
    · rename_i c hc
      split
      · refine ⟨by simp, fun h => ⟨get_lt hc, .inl rfl⟩, fun h => absurd h0 h⟩
      · exact ge_fail l S
    · exact ge_fail l S
  · exact Ge.refl l S
/-- What one byte's reading did. -/
theorem one_cases (l m : List UInt8) (S : St) : ((oneF l m S).2.2 ≠ 0 ∧ (oneF l m S).1 = [] ∧ (oneF l m S).2.1 = S.1) ∨ ∃ c, S.2 = 0 ∧ l[S.1]? = some c ∧ c ∈ m ∧ oneF l m S = ([c], (S.1 + 1, 0)) := by
  unfold oneF
  split
  · rename_i h0
    split
    · rename_i c hc
      split
      · right; exact ⟨c, h0, hc, by assumption, rfl⟩
      · left; exact ⟨fail_ne l S, rfl, fail_fst l S⟩
    · left; exact ⟨fail_ne l S, rfl, fail_fst l S⟩
  · left; exact ⟨by assumption, rfl, rfl⟩
theorem ge_word (l : List UInt8) : ∀ (t : List UInt8) (S : St), Ge l S (wordF l t S)
  | [], S => Ge.refl l S
  | c :: r, S => by rw [wordF]; exact (ge_one l [c] S).trans (ge_word l r _)
theorem word_stuck (l t : List UInt8) {S : St} (h : S.2 ≠ 0) : wordF l t S = S := (ge_word l t S).2.2 h
theorem next_live {l t : List UInt8} {S : St} (h : nextF l t S = true) : S.2 = 0 := by
  unfold nextF at h; simp at h; exact h.1
theorem next_iff {l : List UInt8} {c : UInt8} {S : St} : nextF l [c] S = true ↔ S.2 = 0 ∧ l[S.1]? = some c := by
  unfold nextF
  cases hd : l.drop S.1 with
  | nil =>
    have : l[S.1]? = none := by rw [List.getElem?_eq_none]; simpa using hd
    simp [this]
  | cons d r =>
    have : l[S.1]? = some d := by rw [← Nat.add_zero S.1, ← List.getElem?_drop, hd]; rfl
    rw [this]; simp [List.isPrefixOf]; intro _; exact eq_comm
theorem next_in {l t : List UInt8} {c : UInt8} {S : St} (h : nextF l (c :: t) S = true) : nextF l [c] S = true := by
  unfold nextF at *
  cases hd : l.drop S.1 with
  | nil => rw [hd] at h; simp [List.isPrefixOf] at h
  | cons d r => rw [hd] at h; simp [List.isPrefixOf] at h ⊢; exact ⟨h.1, h.2.1⟩
theorem one_yes {l : List UInt8} {c : UInt8} {S : St} (h : nextF l [c] S = true) : oneF l [c] S = ([c], (S.1 + 1, 0)) := by
  obtain ⟨h1, h2⟩ := next_iff.1 h
  unfold oneF; rw [if_pos h1, h2]; simp
theorem one_no {l : List UInt8} {c : UInt8} {S : St} (h : nextF l [c] S = false) : (oneF l [c] S).2.2 ≠ 0 := by
  rcases one_cases l [c] S with h1 | ⟨d, h0, h1, h2, -⟩
  · exact h1.1
  · rw [List.mem_singleton] at h2; subst h2; rw [next_iff.2 ⟨h0, h1⟩] at h; cases h
theorem word_yes {l r : List UInt8} {c : UInt8} {S : St} (h : nextF l [c] S = true) : wordF l (c :: r) S = wordF l r (S.1 + 1, 0) := by rw [wordF, one_yes h]
theorem word_no {l r : List UInt8} {c : UInt8} {S : St} (h : nextF l [c] S = false) : (wordF l (c :: r) S).2 ≠ 0 := by
  rw [wordF, word_stuck _ _ (one_no h)]; exact one_no h
theorem word_adv {l r : List UInt8} {c : UInt8} {S : St} (h : (wordF l (c :: r) S).2 = 0) : S.1 + 1 ≤ (wordF l (c :: r) S).1 := by
  cases hb : nextF l [c] S with
  | true => rw [word_yes hb]; exact (ge_word l r (S.1 + 1, 0)).1
  | false => exact absurd h (word_no hb)
theorem one_adv {l m : List UInt8} {S : St} (h : (oneF l m S).2.2 = 0) : S.1 + 1 = (oneF l m S).2.1 := by
  rcases one_cases l m S with h1 | ⟨d, h0, h1, h2, h3⟩
  · exact absurd h h1.1
  · rw [h3]
/- The longest. -/
theorem longN_le (p : List UInt8 → Bool) (r : List UInt8) : ∀ (f n : Nat), n ≤ r.length → n ≤ longN p r f n ∧ longN p r f n ≤ r.length
  | 0, n, h => ⟨Nat.le_refl _, h⟩
  | f + 1, n, h => by
    rw [longN]
    split
    · rename_i hh
      have := longN_le p r f (n + 1) hh.1
      omega
    · exact ⟨Nat.le_refl _, h⟩
theorem longN_yes (p : List UInt8 → Bool) (r : List UInt8) : ∀ (f n j : Nat), n ≤ j → j < longN p r f n → p (r.take (j + 1)) = true
  | 0, n, j, h, k => by rw [longN] at k; omega
  | f + 1, n, j, h, k => by
    rw [longN] at k
    split at k
    · rename_i hh
      by_cases hj : j = n
      · subst hj; exact hh.2
      · exact longN_yes p r f (n + 1) j (by omega) k
    · omega
theorem longN_end (p : List UInt8 → Bool) (r : List UInt8) : ∀ (f n : Nat), r.length ≤ n + f → longN p r f n < r.length → p (r.take (longN p r f n + 1)) = false
  | 0, n, h, k => by rw [longN] at k; omega
  | f + 1, n, h, k => by
    rw [longN] at k ⊢
    split at k
    · rename_i hh
      rw [if_pos hh]
      exact longN_end p r f (n + 1) (by omega) k
    · rename_i hh
      rw [if_neg hh]
      cases hp : p (r.take (n + 1)) with
      | false => rfl
      | true => exact absurd ⟨k, hp⟩ hh
/-- It is the one number with these properties. -/
theorem longN_is {p : List UInt8 → Bool} {r : List UInt8} {f n : Nat} (hf : r.length ≤ f) (hn : n ≤ r.length) (h1 : ∀ j, j < n → p (r.take (j + 1)) = true) (h2 : n < r.length → p (r.take (n + 1)) = false) : longN p r f 0 = n := by
  rcases Nat.lt_trichotomy (longN p r f 0) n with h | h | h
  · have := longN_end p r f 0 (by omega) (by omega)
    rw [h1 _ h] at this; cases this
  · exact h
  · have := longN_yes p r f 0 n (by omega) h
    have h3 := (longN_le p r f 0 (by omega)).2
    rw [h2 (by omega)] at this; cases this
theorem long_stuck {l : List UInt8} {p : List UInt8 → Bool} {S : St} (h : S.2 ≠ 0) : longF l p S = ([], S) := by unfold longF; rw [if_neg h]
theorem ge_long (l : List UInt8) (p : List UInt8 → Bool) (S : St) : Ge l S (longF l p S).2 := by
  unfold longF
  split
  · rename_i h0
    split
    · exact ge_fail l S
    · refine ⟨by simp, fun h => ⟨?_, .inl rfl⟩, fun h => absurd h0 h⟩
      have h3 := (longN_le p (l.drop S.1) l.length 0 (by omega)).2
      have := h.1
      rw [List.length_drop] at h3
      simp only; omega
  · exact Ge.refl l S
theorem long_adv {l : List UInt8} {p : List UInt8 → Bool} {S : St} (h : (longF l p S).2.2 = 0) : S.1 + 1 ≤ (longF l p S).2.1 := by
  unfold longF at *
  split at h
  · rename_i h0
    rw [if_pos h0]
    split at h
    · exact absurd h (fail_ne l S)
    · rename_i h1; rw [if_neg h1]; simp only; omega
  · rename_i h0; exact absurd h h0
theorem ge_key (l : List UInt8) (S : St) : Ge l S (keyF l S).2 := by
  unfold keyF
  split
  · exact (ge_word l _ _).trans (ge_long l _ _)
  · exact ge_long l _ _
theorem ge_quot (l : List UInt8) (S : St) : Ge l S (quotF l S).2 := by
  unfold quotF
  split
  · exact (ge_word l _ _).trans (ge_one l _ _)
  · exact (ge_word l _ _).trans ((ge_one l _ _).trans (ge_word l _ _))
theorem ge_text (l : List UInt8) : ∀ (f : Nat) (acc : List UInt8) (S : St), Ge l S (textL l f acc S).2
  | 0, acc, S => Ge.refl l S
  | f + 1, acc, S => by
    rw [textL]
    split
    · rename_i h0
      split
      · exact Ge.refl l S
      · rename_i c hc
        split
        · exact Ge.refl l S
        · split
          · exact (ge_quot l S).trans (ge_text l f _ _)
          · have h1 : Ge l S (S.1 + 1, 0) := ⟨by simp, fun h => ⟨get_lt hc, .inl rfl⟩, fun h => absurd h0 h⟩
            exact h1.trans (ge_text l f _ _)
    · exact Ge.refl l S
theorem deep_stuck {l : List UInt8} {o : Nat} {S : St} (h : S.2 ≠ 0) : deepF l o S = S := by
  unfold deepF; rw [if_neg]; intro k; exact h (next_live k.1)
theorem ge_deep (l : List UInt8) (o : Nat) (S : St) : Ge l S (deepF l o S) := by
  unfold deepF
  split
  · rename_i h
    have h1 := next_iff.1 h.1
    exact ⟨Nat.le_refl _, fun hw => ⟨hw.1, .inr (.inr ⟨.inr rfl, get_lt h1.2⟩)⟩, fun h2 => absurd h1.1 h2⟩
  · exact Ge.refl l S
section
variable {l : List UInt8}
theorem ge_hole {cf : Bool → List UInt8 × St → List Cs × St} (hc : ∀ h b, Ge l b.2 (cf h b).2) (h : Bool) (S : St) : Ge l S (holeG l cf h S).2 := by
  unfold holeG
  simp only
  split
  · exact (ge_word l _ _).trans ((ge_long l _ _).trans ((ge_word l _ _).trans ((ge_one l _ _).trans (hc _ _))))
  · split
    · exact (ge_word l _ _).trans ((ge_long l _ _).trans ((ge_word l _ _).trans ((ge_one l _ _).trans (hc _ _))))
    · exact (ge_word l _ _).trans ((ge_long l _ _).trans (ge_word l _ _))
theorem ge_part {cf : Bool → List UInt8 × St → List Cs × St} (hc : ∀ h b, Ge l b.2 (cf h b).2) (h : Bool) (S : St) : Ge l S (partG l cf h S).2 := by
  unfold partG
  split
  · exact ge_hole hc h S
  · split
    · split
      · exact ge_word l _ _
      · exact (ge_fail l _).trans (ge_word l _ _)
    · exact ge_text l _ _ _
theorem ge_branch {pf : St → List Pt × St} (hp : ∀ S, Ge l S (pf S).2) (o : Nat) (S : St) : Ge l S (branchG l pf o S).2 := by
  unfold branchG
  exact (ge_key l S).trans ((ge_word l _ _).trans ((ge_deep l o _).trans ((ge_word l _ _).trans ((hp _).trans (ge_word l _ _)))))
end
theorem ge_both (l : List UInt8) : ∀ f, (∀ h o acc S, Ge l S (partsL l f h o acc S).2) ∧ (∀ h o acc b, Ge l b.2 (casesL l f h o acc b).2)
  | 0 => ⟨fun h o acc S => by rw [partsL]; exact Ge.refl l S, fun h o acc b => by rw [casesL]; exact Ge.refl l b.2⟩
  | f + 1 => by
    obtain ⟨ih1, ih2⟩ := ge_both l f
    refine ⟨fun h o acc S => ?_, fun h o acc b => ?_⟩
    · rw [partsL]
      split
      · exact (ge_part (fun h b => ih2 h o [] b) h S).trans (ih1 _ _ _ _)
      · exact Ge.refl l S
    · rw [casesL]
      split
      · exact (ge_branch (fun S => ih1 h (o + 1) [] S) o b.2).trans ((ge_one l _ _).trans (ih2 _ _ _ _))
      · exact Ge.refl l b.2
theorem ge_parts (l : List UInt8) (f : Nat) (h : Bool) (o : Nat) (acc : List Pt) (S : St) : Ge l S (partsL l f h o acc S).2 := (ge_both l f).1 h o acc S
theorem ge_cases (l : List UInt8) (f : Nat) (h : Bool) (o : Nat) (acc : List Cs) (b : List UInt8 × St) : Ge l b.2 (casesL l f h o acc b).2 := (ge_both l f).2 h o acc b
/- Progress. -/
theorem quot_adv {l : List UInt8} {S : St} (h : (quotF l S).2.2 = 0) : S.1 + 1 ≤ (quotF l S).2.1 := by
  have key : (wordF l [39] S).2 = 0 → S.1 + 1 ≤ (wordF l [39] S).1 := word_adv
  unfold quotF at *
  split at h
  · rename_i h1
    rw [if_pos h1]
    have := key ((ge_one l [39, 123, 125, 35] (wordF l [39] S)).live h)
    have h2 := (ge_one l [39, 123, 125, 35] (wordF l [39] S)).1
    omega
  · rename_i h1
    rw [if_neg h1]
    have h3 := (ge_word l [39] (oneF l [39, 123, 125, 35] (wordF l [39] S)).2)
    have := key ((ge_one l [39, 123, 125, 35] (wordF l [39] S)).live (h3.live h))
    have h2 := (ge_one l [39, 123, 125, 35] (wordF l [39] S)).1
    have := h3.1
    simp only at *
    omega
theorem part_adv {l : List UInt8} {cf : Bool → List UInt8 × St → List Cs × St} (hc : ∀ h b, Ge l b.2 (cf h b).2) {h : Bool} {S : St} (h0 : S.2 = 0) (h1 : S.1 < l.length) (h2 : nextF l [125] S = false) : (partG l cf h S).2.2 ≠ 0 ∨ S.1 + 1 ≤ (partG l cf h S).2.1 := by
  rcases Nat.eq_zero_or_pos (partG l cf h S).2.2 with hl | hl
  · right
    unfold partG at *
    split at hl
    · rename_i hn
      rw [if_pos hn]
      unfold holeG
      simp only
      have hw : S.1 + 1 ≤ (wordF l [123] S).1 := by rw [word_yes hn]; exact (ge_word l [] (S.1 + 1, 0)).1
      have e1 := (ge_long l nameB (wordF l [123] S)).1
      split
      · have e2 := ((ge_word l seW (longF l nameB (wordF l [123] S)).2).trans ((ge_one l [32] _).trans (hc h _))).1
        show S.1 + 1 ≤ (cf h _).2.1
        omega
      · split
        · have e2 := ((ge_word l plW (longF l nameB (wordF l [123] S)).2).trans ((ge_one l [32] _).trans (hc true _))).1
          show S.1 + 1 ≤ (cf true _).2.1
          omega
        · have e2 := (ge_word l [125] (longF l nameB (wordF l [123] S)).2).1
          simp only at *
          omega
    · rename_i hn
      rw [if_neg hn]
      split at hl
      · rename_i hn2
        rw [if_pos hn2]
        cases h with
        | true => simp only [if_true] at *; rw [word_yes hn2]; exact (ge_word l [] (S.1 + 1, 0)).1
        | false =>
          simp only [Bool.false_eq_true, if_false] at *
          rw [word_stuck l _ (fail_ne l S)] at hl
          exact absurd hl (fail_ne l S)
      · rename_i hn2
        rw [if_neg hn2]
        have hx : l[S.1]? = some l[S.1] := List.getElem?_eq_getElem h1
        have hlen : ∃ f, l.length = f + 1 := ⟨l.length - 1, by omega⟩
        obtain ⟨f, hf⟩ := hlen
        rw [hf] at hl ⊢
        rw [textL, if_pos h0, hx] at hl ⊢
        simp only at hl ⊢
        have n1 : ¬ (l[S.1] = 123 ∨ l[S.1] = 125 ∨ l[S.1] = 35) := by
          rintro (e | e | e)
          · exact hn (next_iff.2 ⟨h0, by rw [hx, e]⟩)
          · rw [next_iff.2 ⟨h0, by rw [hx, e]⟩] at h2; cases h2
          · exact hn2 (next_iff.2 ⟨h0, by rw [hx, e]⟩)
        rw [if_neg n1] at hl ⊢
        split at hl
        · rename_i h39
          rw [if_pos h39]
          have g := ge_text l f ([] ++ (quotF l S).1) (quotF l S).2
          have := quot_adv (g.live hl)
          have := g.1
          omega
        · rename_i h39
          rw [if_neg h39]
          exact (ge_text l f _ (S.1 + 1, 0)).1
  · left; omega
end Go.Proofs.YtlmaafmhadbiaaaGreatDoor
