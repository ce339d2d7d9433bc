/- The document's Parse is the program's: plain mathematics. -/
import Derived.Test.YtlgodcbffimcoaaDoorSr
namespace Go.Proofs.YtlgodcbffimcoaaDoor

theorem loop_dead (l : List UInt8) (f : Nat) (d : Rule) (c : List Rl) (a : Nat) (b : Bool) : rLoop l f d c (a, true) b = (d ++ [c], (a, true), b) := by
  cases f with
  | zero => rw [rLoop]
  | succ f => rw [rLoop, if_neg (by simp)]
theorem loop_pre (l : List UInt8) : ∀ (f : Nat) (d : Rule) (c : List Rl) (S : St) (b : Bool), ∀ r ∈ d, r ∈ (rLoop l f d c S b).1
  | 0, d, c, S, b, r, h => by rw [rLoop]; simp [h]
  | f + 1, d, c, S, b, r, h => by
    rw [rLoop]
    split
    · split
      · exact loop_pre l f _ _ _ _ r h
      · exact loop_pre l f _ _ _ _ r (by simp [h])
    · simp [h]
theorem loop_mem (l : List UInt8) : ∀ (f : Nat) (d : Rule) (c : List Rl) (S : St) (b : Bool), ∀ x ∈ c, ∃ r ∈ (rLoop l f d c S b).1, x ∈ r
  | 0, d, c, S, b, x, h => by rw [rLoop]; exact ⟨c, by simp, h⟩
  | f + 1, d, c, S, b, x, h => by
    rw [rLoop]
    split
    · split
      · exact loop_mem l f _ _ _ _ x (by simp [h])
      · exact ⟨c, loop_pre l f _ _ _ _ c (by simp), h⟩
    · exact ⟨c, by simp, h⟩
theorem joinF_snoc' {α : Type} {f : α → List UInt8} {sep : List UInt8} {x : α} : ∀ {l : List α}, l ≠ [] → joinF f sep (l ++ [x]) = joinF f sep l ++ (sep ++ f x)
  | [], h => absurd rfl h
  | [y], _ => by simp [joinF]
  | y :: z :: r, _ => by
    have h := joinF_snoc' (f := f) (sep := sep) (x := x) (l := z :: r) (by simp)
    simp only [List.cons_append] at h ⊢
    rw [joinF, h, joinF]; simp [List.append_assoc]
theorem rule_and (d : Rule) (c : List Rl) (x : Rl) (hc : c ≠ []) : txRule (d ++ [c ++ [x]]) = txRule (d ++ [c]) ++ ([32, 97, 110, 100, 32] ++ txR x) := by
  have hr : txRow (c ++ [x]) = txRow c ++ ([32, 97, 110, 100, 32] ++ txR x) := joinF_snoc' hc
  unfold txRule
  by_cases hd : d = []
  · subst hd; simp only [List.nil_append, joinF]; exact hr
  · rw [joinF_snoc' hd, joinF_snoc' hd, hr]; simp [List.append_assoc]
theorem rule_or (d : Rule) (c : List Rl) (x : Rl) : txRule (d ++ [c] ++ [[x]]) = txRule (d ++ [c]) ++ ([32, 111, 114, 32] ++ txR x) := by
  unfold txRule
  rw [joinF_snoc' (by simp)]
  rfl
theorem cons_loop {l : List UInt8} : ∀ (f : Nat) (d : Rule) (c : List Rl) (a : Nat) (b : Bool), a ≤ l.length → c ≠ [] → (rLoop l f d c (a, false) b).2.1.2 = false →
    ∃ q t, (rLoop l f d c (a, false) b).2.2 = (b && q) ∧ ((∀ r ∈ (rLoop l f d c (a, false) b).1, ∀ x ∈ r, rgR x = true) → Cons l a (rLoop l f d c (a, false) b).2.1.1 t q ∧ txRule (rLoop l f d c (a, false) b).1 = txRule (d ++ [c]) ++ t)
  | 0, d, c, a, b, ha, _, _ => ⟨true, [], by rw [rLoop]; simp, fun _ => by rw [rLoop]; exact ⟨(Rdt.nil ha).cons, by simp⟩⟩
  | f + 1, d, c, a, b, ha, hc, h => by
    rw [rLoop] at h ⊢
    by_cases hlt : (a, false).2 = false ∧ (a, false).1 < l.length
    · rw [if_pos hlt] at h ⊢
      by_cases hn : nowF l (wordF l [32] (a, false)) = some 97
      · have hw : wordF l [97, 110, 100, 32] (wordF l [32] (a, false)) = wordF l [32, 97, 110, 100, 32] (a, false) := (word_app l [32] [97, 110, 100, 32] _).symm
        rw [if_pos hn, hw] at h ⊢
        have h1 : (rRel l (wordF l [32, 97, 110, 100, 32] (a, false)) b).2.1.2 = false := by
          cases hq : (rRel l (wordF l [32, 97, 110, 100, 32] (a, false)) b).2.1 with
          | mk e st =>
            cases st with
            | false => rfl
            | true => rw [hq, loop_dead] at h; cases h
        have h2 : (wordF l [32, 97, 110, 100, 32] (a, false)).2 = false := by
          cases hq : wordF l [32, 97, 110, 100, 32] (a, false) with
          | mk e st =>
            cases st with
            | false => rfl
            | true =>
              have hz := (rel_agr l (e, true) b).1
              rw [relD, gd_stuck] at hz
              rw [hq, hz] at h1; cases h1
        have r1 : Rdt l a (wordF l [32, 97, 110, 100, 32] (a, false)).1 [32, 97, 110, 100, 32] := rdt_word ha rfl h2
        have e1 : wordF l [32, 97, 110, 100, 32] (a, false) = ((wordF l [32, 97, 110, 100, 32] (a, false)).1, false) := Prod.ext rfl h2
        generalize (wordF l [32, 97, 110, 100, 32] (a, false)).1 = a1 at *
        rw [e1] at h h1 ⊢
        obtain ⟨q1, m1, m2⟩ := cons_rel r1.le h1
        have hle : (rRel l (a1, false) b).2.1.1 ≤ l.length := by
          have hz := (rel_agr l (a1, false) b).1
          rw [hz, gd_fst]; exact (ge_rel l (a1, false)).2 r1.le
        have e2 : (rRel l (a1, false) b).2.1 = ((rRel l (a1, false) b).2.1.1, false) := Prod.ext rfl h1
        have hmem := loop_mem l f d (c ++ [(rRel l (a1, false) b).1]) (rRel l (a1, false) b).2.1 (rRel l (a1, false) b).2.2 (rRel l (a1, false) b).1 (by simp)
        generalize (rRel l (a1, false) b).1 = x at *
        generalize (rRel l (a1, false) b).2.2 = b2 at *
        generalize (rRel l (a1, false) b).2.1.1 = a2 at *
        rw [e2] at h hmem ⊢
        obtain ⟨q2, t, n1, n2⟩ := cons_loop f d (c ++ [x]) a2 b2 hle (by simp) h
        refine ⟨q1 && q2, ([32, 97, 110, 100, 32] ++ txR x) ++ t, by rw [n1, m1, Bool.and_assoc], fun hR => ?_⟩
        obtain ⟨row, hrow, hx⟩ := hmem
        obtain ⟨k1, k2⟩ := n2 hR
        have k3 := m2 (hR row hrow x hx)
        refine ⟨?_, by rw [k2, rule_and d c x hc, List.append_assoc]⟩
        have := (r1.cons.app k3).app k1
        simpa using this
      · have hw : wordF l [111, 114, 32] (wordF l [32] (a, false)) = wordF l [32, 111, 114, 32] (a, false) := (word_app l [32] [111, 114, 32] _).symm
        rw [if_neg hn, hw] at h ⊢
        have h1 : (rRel l (wordF l [32, 111, 114, 32] (a, false)) b).2.1.2 = false := by
          cases hq : (rRel l (wordF l [32, 111, 114, 32] (a, false)) b).2.1 with
          | mk e st =>
            cases st with
            | false => rfl
            | true => rw [hq, loop_dead] at h; cases h
        have h2 : (wordF l [32, 111, 114, 32] (a, false)).2 = false := by
          cases hq : wordF l [32, 111, 114, 32] (a, false) with
          | mk e st =>
            cases st with
            | false => rfl
            | true =>
              have hz := (rel_agr l (e, true) b).1
              rw [relD, gd_stuck] at hz
              rw [hq, hz] at h1; cases h1
        have r1 : Rdt l a (wordF l [32, 111, 114, 32] (a, false)).1 [32, 111, 114, 32] := rdt_word ha rfl h2
        have e1 : wordF l [32, 111, 114, 32] (a, false) = ((wordF l [32, 111, 114, 32] (a, false)).1, false) := Prod.ext rfl h2
        generalize (wordF l [32, 111, 114, 32] (a, false)).1 = a1 at *
        rw [e1] at h h1 ⊢
        obtain ⟨q1, m1, m2⟩ := cons_rel r1.le h1
        have hle : (rRel l (a1, false) b).2.1.1 ≤ l.length := by
          have hz := (rel_agr l (a1, false) b).1
          rw [hz, gd_fst]; exact (ge_rel l (a1, false)).2 r1.le
        have e2 : (rRel l (a1, false) b).2.1 = ((rRel l (a1, false) b).2.1.1, false) := Prod.ext rfl h1
        have hmem := loop_mem l f (d ++ [c]) [(rRel l (a1, false) b).1] (rRel l (a1, false) b).2.1 (rRel l (a1, false) b).2.2 (rRel l (a1, false) b).1 (by simp)
        generalize (rRel l (a1, false) b).1 = x at *
        generalize (rRel l (a1, false) b).2.2 = b2 at *
        generalize (rRel l (a1, false) b).2.1.1 = a2 at *
        rw [e2] at h hmem ⊢
        obtain ⟨q2, t, n1, n2⟩ := cons_loop f (d ++ [c]) [x] a2 b2 hle (by simp) h
        refine ⟨q1 && q2, ([32, 111, 114, 32] ++ txR x) ++ t, by rw [n1, m1, Bool.and_assoc], fun hR => ?_⟩
        obtain ⟨row, hrow, hx⟩ := hmem
        obtain ⟨k1, k2⟩ := n2 hR
        have k3 := m2 (hR row hrow x hx)
        refine ⟨?_, by rw [k2, rule_or d c x, List.append_assoc]⟩
        have := (r1.cons.app k3).app k1
        simpa using this
    · rw [if_neg hlt]
      exact ⟨true, [], by simp, fun _ => ⟨(Rdt.nil ha).cons, by simp⟩⟩
theorem ruleL_end (l : List UInt8) : ∀ (f : Nat) (xs : Rule) (S : St), (S.2 = false → l.length - S.1 ≤ f) → (ruleL l f xs S).2.2 = true ∨ l.length ≤ (ruleL l f xs S).2.1
  | 0, xs, (a, st), h => by
    rw [ruleL]
    cases st with
    | true => exact .inl rfl
    | false => right; have := h rfl; simp only at this ⊢; omega
  | f + 1, xs, S, h => by
    rw [ruleL]
    by_cases hc : S.2 = false ∧ S.1 < l.length
    · rw [if_pos hc]
      obtain ⟨a, st⟩ := S
      obtain ⟨hst, hlt⟩ := hc
      simp only at hst hlt
      subst hst
      have h0 := h rfl
      simp only at h0
      refine ruleL_end l f _ _ (fun q => ?_)
      rcases word_adv l 32 [111, 114, 32] a with z | z
      · rw [z, rowD] at q; cases q
      · have := (ge_row l (wordF l [32, 111, 114, 32] (a, false))).1; omega
    · rw [if_neg hc]
      obtain ⟨a, st⟩ := S
      cases st with
      | true => exact .inl rfl
      | false => right; have : ¬ a < l.length := fun q => hc ⟨rfl, q⟩; simp only; omega
/-- The document's Parse. -/
def rParse (l : List UInt8) : Rule × Nat × Nat :=
  if 400 < l.length then ([], 2, 0)
  else if (rRule l).2.1.2 then ([], if l.length ≤ (rRule l).2.1.1 then 10 else 80, (rRule l).2.1.1)
  else if (rRule l).2.2 = true ∧ rgRule (rRule l).1 = true then ((rRule l).1, 0, 0) else ([], 1, 0)
theorem rParse_eq (l : List UInt8) : rParse l = parseF l := by
  unfold rParse parseF
  by_cases h4 : 400 < l.length
  · rw [if_pos h4, if_pos h4]
  · rw [if_neg h4, if_neg h4]
    obtain ⟨g1, g2⟩ := rule_agr l
    have hle : (ruleF l (0, false)).2.1 ≤ l.length := (ge_rule l (0, false)).2 (Nat.zero_le _)
    cases hs : (ruleF l (0, false)).2.2 with
    | true =>
      rw [g1, hs, if_pos rfl, if_pos rfl]
      by_cases he : (ruleF l (0, false)).2.1 = l.length
      · rw [if_pos (by omega), if_pos he]
      · rw [if_neg (by omega), if_neg he]
    | false =>
      have hl : (rRule l).2.1.2 = false := by rw [g1, hs]
      have hv := g2 hl
      rw [if_neg (show ¬ (rRule l).2.1.2 = true by rw [hl]; simp), if_neg (show ¬ (false = true) by simp)]
      have hend : (ruleF l (0, false)).2.1 = l.length := by
        rcases ruleL_end l l.length [(rowF l (0, false)).1] (rowF l (0, false)).2 (fun _ => by omega) with z | z
        · unfold ruleF at hs; rw [z] at hs; cases hs
        · unfold ruleF at hle ⊢; omega
      by_cases hr : rgRule (rRule l).1 = true
      · have hall : ∀ r ∈ (rRule l).1, ∀ x ∈ r, rgR x = true := fun r hr1 x hx => (allR_t ((allR_t hr).2.2 r hr1)).2.2 x hx
        have key : (rRule l).2.2 = true ↔ txRule (rRule l).1 = l := by
          have h1 : (rRel l (0, false) true).2.1.2 = false := by
            cases hq : (rRel l (0, false) true).2.1 with
            | mk e st =>
              cases st with
              | false => rfl
              | true => unfold rRule at hl; rw [hq, loop_dead] at hl; cases hl
          obtain ⟨q1, m1, m2⟩ := cons_rel (Nat.zero_le _) h1
          have hle1 : (rRel l (0, false) true).2.1.1 ≤ l.length := by
            have hz := (rel_agr l (0, false) true).1
            rw [hz, gd_fst]; exact (ge_rel l (0, false)).2 (Nat.zero_le _)
          have e2 : (rRel l (0, false) true).2.1 = ((rRel l (0, false) true).2.1.1, false) := Prod.ext rfl h1
          have hmem := loop_mem l l.length [] [(rRel l (0, false) true).1] (rRel l (0, false) true).2.1 (rRel l (0, false) true).2.2 (rRel l (0, false) true).1 (by simp)
          have hat : (rRule l).2.1.1 = l.length := by rw [g1]; exact hend
          unfold rRule at hl hall hat ⊢
          rw [e2] at hl hmem hall hat ⊢
          obtain ⟨q2, t, n1, n2⟩ := cons_loop l.length [] [(rRel l (0, false) true).1] _ _ hle1 (by simp) hl
          obtain ⟨k1, k2⟩ := n2 hall
          obtain ⟨row, hrow, hx⟩ := hmem
          have k3 := m2 (hall row hrow _ hx)
          rw [hat] at k1
          obtain ⟨s, r1, r2, r3⟩ := (k3.app k1).ex
          have hsl : s = l := by
            have := r1.eq
            rw [List.drop_zero, List.drop_length, List.append_nil] at this; exact this.symm
          have htx : txRule ([] ++ [[(rRel l (0, false) true).1]]) = txR (rRel l (0, false) true).1 := rfl
          rw [k2, htx, n1, m1, Bool.true_and, r3, hsl]
        rw [hv] at hr key
        by_cases hm : (rRule l).2.2 = true
        · rw [if_pos ⟨hm, by rw [hv]; exact hr⟩, if_pos ⟨hr, key.1 hm⟩, hv]
        · rw [if_neg (fun z => hm z.1), if_neg (fun z => hm (key.2 z.2))]
      · rw [if_neg (fun z => hr z.2), if_neg (fun z => hr (by rw [hv]; exact z.1))]
end Go.Proofs.YtlgodcbffimcoaaDoor
