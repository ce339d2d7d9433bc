/- The document's reader reads what the program's reads: spans and relations. -/
import Derived.Test.YtlgodcbffimcoaaDoorSn
namespace Go.Proofs.YtlgodcbffimcoaaDoor

/-- A reading by the document and by the program: the state, and the value where it is not stuck. -/
def Agr {α : Type} (l : List UInt8) (v : α) (S : St) (w : α) (T : St) : Prop := S = gd l T ∧ (S.2 = false → v = w)
theorem gd_gd_word {l r : List UInt8} {c : UInt8} (hc : isDg c = false) {S T : St} (h : S = gd l T) : wordF l (c :: r) S = wordF l (c :: r) T := by rw [h, word_gd hc]
theorem next_live' {l t : List UInt8} {c : UInt8} {S : St} (h : nextF l (c :: t) S = true) (hc : isDg c = false) : gd l S = S := by
  obtain ⟨h1, h2⟩ := next_in h
  unfold gd
  rw [if_neg]
  rintro ⟨-, d, h3, h4⟩
  rw [h2] at h3; obtain rfl := Option.some.inj h3; rw [hc] at h4; cases h4
theorem num_agr (l : List UInt8) (S : St) : Agr l (rNum l S).1 (rNum l S).2 (numF l S).1 (numF l S).2 := rNum_num l S
theorem span_agr (l : List UInt8) (S : St) (b : Bool) : Agr l (rSpan l S b).1 (rSpan l S b).2.1 (spanF l S).1 (spanF l S).2 := by
  obtain ⟨h1, h2⟩ := num_agr l S
  have hw : wordF l [46, 46] (rNum l S).2 = wordF l [46, 46] (numF l S).2 := gd_gd_word rfl h1
  obtain ⟨h3, h4⟩ := num_agr l (wordF l [46, 46] (numF l S).2)
  have hnow : (nowF l (rNum l S).2 = some 46) ↔ nextF l [46] (numF l S).2 = true := by rw [h1, now_gd rfl, now_iff]
  unfold rSpan spanF
  by_cases hn : nextF l [46] (numF l S).2 = true
  · rw [if_pos (hnow.2 hn), if_pos hn, hw]
    refine ⟨h3, fun h => ?_⟩
    have hl : (rNum l S).2.2 = false := by rw [h1, next_live' hn rfl]; exact (next_in hn).1
    have e1 := h2 hl
    have e2 := h4 h
    simp only [e1, e2]
  · rw [if_neg (fun h => hn (hnow.1 h)), if_neg hn]
    exact ⟨h1, fun h => by simp only [h2 h]⟩
theorem next_word {l : List UInt8} {c : UInt8} {S : St} (h : nextF l [c] S = true) : wordF l [c] S = (S.1 + 1, false) := by rw [wordF, if_pos h]; rfl
theorem spansL_agr (l : List UInt8) : ∀ (f : Nat) (xs ys : List Sp) (S T : St) (b : Bool), Agr l xs S ys T → Agr l (rSpansL l f xs S b).1 (rSpansL l f xs S b).2.1 (spansL l f ys T).1 (spansL l f ys T).2
  | 0, xs, ys, S, T, b, h => by rw [rSpansL, spansL]; exact h
  | f + 1, xs, ys, S, T, b, h => by
    have hnow : (nowF l S = some 44) ↔ nextF l [44] T = true := by rw [h.1, now_gd rfl, now_iff]
    rw [rSpansL, spansL]
    by_cases hn : nextF l [44] T = true
    · rw [if_pos (hnow.2 hn), if_pos hn]
      have hS : S = T := by rw [h.1, next_live' hn rfl]
      have hl : S.2 = false := by rw [hS]; exact (next_in hn).1
      subst hS
      rw [next_word hn]
      obtain ⟨h1, h2⟩ := span_agr l (S.1 + 1, false) b
      exact spansL_agr l f _ _ _ _ _ ⟨h1, fun hq => by rw [h.2 hl, h2 hq]⟩
    · rw [if_neg (fun q => hn (hnow.1 q)), if_neg hn]; exact h
theorem spans_agr (l : List UInt8) (S : St) (b : Bool) : Agr l (rSpans l S b).1 (rSpans l S b).2.1 (spansF l S).1 (spansF l S).2 := by
  obtain ⟨h1, h2⟩ := span_agr l S b
  exact spansL_agr l _ _ _ _ _ _ ⟨h1, fun h => by rw [h2 h]⟩
theorem now_at' {l : List UInt8} {a : Nat} : nowF l (a, false) = l[a]? := by unfold nowF; simp
theorem rNum_dead (l : List UInt8) (a : Nat) : rNum l (a, true) = (0, (a, true)) := rfl
theorem rSpan_dead (l : List UInt8) (a : Nat) (b : Bool) : (rSpan l (a, true) b).2.1 = (a, true) := by
  unfold rSpan; rw [rNum_dead, if_neg (by intro e; cases e)]
theorem rSpans_dead (l : List UInt8) (a : Nat) (b : Bool) : (rSpans l (a, true) b).2.1 = (a, true) := by
  unfold rSpans
  rw [rSpan_dead]
  cases l.length with
  | zero => rw [rSpansL]
  | succ f => rw [rSpansL, if_neg (by intro e; cases e)]
/-- Two bytes ahead: one read, one seen. -/
theorem now_word {l : List UInt8} {c d : UInt8} {S : St} : nowF l (wordF l [c] S) = some d ↔ nextF l [c, d] S = true := by
  obtain ⟨a, st⟩ := S
  cases st with
  | true =>
    rw [word_stuck]
    constructor
    · intro h; cases h
    · intro h; cases h
  | false =>
    unfold nextF
    rw [wordF]
    cases hb : nextF l [c] (a, false) with
    | false =>
      rw [if_neg (by simp)]
      constructor
      · intro h; cases h
      · intro h
        have := next_in (l := l) (t := [d]) (c := c) (S := (a, false)) (by unfold nextF; exact h)
        rw [next_iff.2 this] at hb; cases hb
    | true =>
      rw [if_pos rfl]
      have hg := (next_iff.1 hb).2
      have hd : l.drop a = c :: l.drop (a + 1) := by
        obtain ⟨hi, rfl⟩ := List.getElem?_eq_some_iff.1 hg
        exact List.drop_eq_getElem_cons hi
      simp only [wordF]
      rw [now_at']
      cases hq : l.drop (a + 1) with
      | nil =>
        have : l[a + 1]? = none := by rw [List.getElem?_eq_none]; simpa using hq
        rw [this, hd, hq]; simp [List.isPrefixOf]
      | cons e r =>
        rw [get_drop hq, hd, hq]; simp [List.isPrefixOf]; exact eq_comm
theorem mod_agr (l : List UInt8) (X : St) (b : Bool) : (rMod l (wordF l [32] X) b).2.1 = wordF l [32] (modF l X).2 ∧ ((rMod l (wordF l [32] X) b).2.1.2 = false → (rMod l (wordF l [32] X) b).1 = (modF l X).1) := by
  unfold rMod modF
  by_cases hn : nextF l [32, 37] X = true
  · have hw : wordF l [37, 32] (wordF l [32] X) = wordF l [32, 37, 32] X := (word_app l [32] [37, 32] X).symm
    rw [if_pos (now_word.2 hn), if_pos hn, hw]
    obtain ⟨h1, h2⟩ := num_agr l (wordF l [32, 37, 32] X)
    refine ⟨gd_gd_word rfl h1, fun h => h2 ?_⟩
    cases hq : (rNum l (wordF l [32, 37, 32] X)).2 with
    | mk a st =>
      cases st with
      | false => rfl
      | true => simp only [hq, word_stuck] at h; cases h
  · rw [if_neg (fun h => hn (now_word.1 h)), if_neg hn]
    exact ⟨rfl, fun _ => rfl⟩
theorem neg_agr (l : List UInt8) (X : St) : rNeg l (wordF l [32] X) = negF l X := by
  unfold rNeg negF
  by_cases hn : nextF l [32, 33] X = true
  · have hw : wordF l [32, 33, 61, 32] X = wordF l [61, 32] (wordF l [33] (wordF l [32] X)) := by
      rw [← word_app, ← word_app]; rfl
    rw [if_pos (now_word.2 hn), if_pos hn, hw, next_word (now_iff.1 (now_word.2 hn))]
  · rw [if_neg (fun h => hn (now_word.1 h)), if_neg hn, ← word_app]; rfl
theorem rel_agr (l : List UInt8) (S : St) (b : Bool) : Agr l (rRel l S b).1 (rRel l S b).2.1 (relF l S).1 (relF l S).2 := by
  have hw : wordF l [105, 32] S = wordF l [32] (wordF l [105] S) := word_app l [105] [32] S
  obtain ⟨h1, h2⟩ := mod_agr l (wordF l [105] S) b
  unfold rRel relF
  rw [hw, h1, neg_agr]
  obtain ⟨h3, h4⟩ := spans_agr l (negF l (modF l (wordF l [105] S)).2).2 (rMod l (wordF l [32] (wordF l [105] S)) b).2.2
  refine ⟨h3, fun h => ?_⟩
  have e1 := h4 h
  have e2 : (rMod l (wordF l [32] (wordF l [105] S)) b).1 = (modF l (wordF l [105] S)).1 := h2 (by
    rw [h1]
    cases hq : wordF l [32] (modF l (wordF l [105] S)).2 with
    | mk a st =>
      cases st with
      | false => rfl
      | true =>
        exfalso
        have hn : negF l (modF l (wordF l [105] S)).2 = (false, (a, true)) := by
          rw [← neg_agr, hq]; unfold rNeg; rw [if_neg (by intro e; cases e), word_stuck]
        rw [hn] at h
        have := rSpans_dead l a (rMod l (wordF l [32] (wordF l [105] S)) b).2.2
        rw [this] at h; cases h)
  simp only [e1, e2]
end Go.Proofs.YtlgodcbffimcoaaDoor
