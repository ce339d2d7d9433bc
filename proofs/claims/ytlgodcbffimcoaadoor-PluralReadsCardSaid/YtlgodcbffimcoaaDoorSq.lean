/- What the document's reader read is the text of what it tells, just if nothing was written in another way: plain mathematics. -/
import Derived.Test.YtlgodcbffimcoaaDoorSp
namespace Go.Proofs.YtlgodcbffimcoaaDoor

/-- From a to e the text is t. -/
structure Rdt (l : List UInt8) (a e : Nat) (t : List UInt8) : Prop where
  eq : l.drop a = t ++ l.drop e
  at_ : e = a + t.length
  le : e ≤ l.length
theorem Rdt.nil {l : List UInt8} {a : Nat} (h : a ≤ l.length) : Rdt l a a [] := ⟨rfl, rfl, h⟩
theorem Rdt.app {l t u : List UInt8} {a b c : Nat} (h : Rdt l a b t) (k : Rdt l b c u) : Rdt l a c (t ++ u) :=
  ⟨by rw [h.eq, k.eq, List.append_assoc], by rw [k.at_, h.at_, List.length_append, Nat.add_assoc], k.le⟩
theorem Rdt.one {l : List UInt8} {a : Nat} {c : UInt8} (h : l[a]? = some c) : Rdt l a (a + 1) [c] := by
  obtain ⟨hi, rfl⟩ := List.getElem?_eq_some_iff.1 h
  exact ⟨List.drop_eq_getElem_cons hi, rfl, hi⟩
theorem rdt_word {l : List UInt8} : ∀ {t : List UInt8} {a : Nat} {S : St}, a ≤ l.length → wordF l t (a, false) = S → S.2 = false → Rdt l a S.1 t
  | [], a, S, ha, h, _ => by subst h; exact Rdt.nil ha
  | c :: r, a, S, ha, h, hs => by
    cases hb : nextF l [c] (a, false) with
    | false => rw [wordF, hb, if_neg (by simp)] at h; subst h; cases hs
    | true =>
      have hg := (next_iff.1 hb).2
      rw [wordF, if_pos hb] at h
      have h1 := Rdt.one hg
      exact h1.app (rdt_word h1.le h hs)
/-- What was read from a to e is no shorter than t; and it is t, just if b. -/
structure Cons (l : List UInt8) (a e : Nat) (t : List UInt8) (b : Bool) : Prop where
  ex : ∃ s, Rdt l a e s ∧ t.length ≤ s.length ∧ (b = true ↔ t = s)
theorem Rdt.cons {l t : List UInt8} {a e : Nat} (h : Rdt l a e t) : Cons l a e t true := ⟨t, h, Nat.le_refl _, by simp⟩
theorem Cons.app {l t u : List UInt8} {a b c : Nat} {x y : Bool} (h : Cons l a b t x) (k : Cons l b c u y) : Cons l a c (t ++ u) (x && y) := by
  obtain ⟨s, h1, h2, h3⟩ := h.ex
  obtain ⟨r, k1, k2, k3⟩ := k.ex
  refine ⟨s ++ r, h1.app k1, by simp only [List.length_append]; omega, ?_⟩
  rw [Bool.and_eq_true, h3, k3]
  constructor
  · rintro ⟨rfl, rfl⟩; rfl
  · intro e
    have hl := congrArg List.length e
    simp only [List.length_append] at hl
    exact List.append_inj e (by omega)
theorem dec_step {n : Nat} {c : UInt8} (hn : 0 < n) (hc : isDg c = true) : Lib.decDigits (nx n c) = Lib.decDigits n ++ [c] := by
  have h : 48 ≤ c.toNat ∧ c.toNat ≤ 57 := by unfold isDg at hc; simpa using hc
  rw [nx_def, Lib.decDigits, dif_neg (by omega), show (n * 10 + (c.toNat - 48)) / 10 = n by omega, show (n * 10 + (c.toNat - 48)) % 10 = c.toNat - 48 by omega, show 48 + (c.toNat - 48) = c.toNat by omega, UInt8.ofNat_toNat]
theorem dec_one {c : UInt8} (hc : isDg c = true) : Lib.decDigits (c.toNat - 48) = [c] := by
  have h : 48 ≤ c.toNat ∧ c.toNat ≤ 57 := by unfold isDg at hc; simpa using hc
  rw [Lib.decDigits, dif_pos (by omega), show 48 + (c.toNat - 48) = c.toNat by omega, UInt8.ofNat_toNat]
theorem rdt_numL {l : List UInt8} : ∀ (f n a : Nat), a ≤ l.length → (rNumL l f n a).2.2 = false → ∃ ds, Rdt l a (rNumL l f n a).2.1 ds ∧ Lib.decDigits (rNumL l f n a).1 = Lib.decDigits n ++ ds
  | 0, n, a, ha, _ => ⟨[], by rw [rNumL]; exact Rdt.nil ha, by rw [rNumL]; simp⟩
  | f + 1, n, a, ha, h => by
    rw [rNumL] at h ⊢
    cases hc : l[a]? with
    | none => exact ⟨[], Rdt.nil ha, by simp⟩
    | some c =>
      rw [hc] at h
      simp only at h ⊢
      cases hd : isDg c with
      | false => simp only [Bool.false_eq_true, if_false]; exact ⟨[], Rdt.nil ha, by simp⟩
      | true =>
        rw [hd] at h
        simp only [if_true] at h ⊢
        by_cases hb : n = 0 ∨ 1000000 < nx n c
        · rw [if_pos hb] at h; cases h
        · rw [if_neg hb] at h ⊢
          have h1 := Rdt.one hc
          obtain ⟨ds, hr, hds⟩ := rdt_numL f (nx n c) (a + 1) h1.le h
          exact ⟨c :: ds, h1.app hr, by rw [hds, dec_step (by omega) hd, List.append_assoc]; rfl⟩
theorem rdt_num {l : List UInt8} {a : Nat} (h : (rNum l (a, false)).2.2 = false) : Rdt l a (rNum l (a, false)).2.1 (Lib.decDigits (rNum l (a, false)).1) := by
  unfold rNum at h ⊢
  simp only [Bool.false_eq_true, if_false] at h ⊢
  cases hc : l[a]? with
  | none => rw [hc] at h; cases h
  | some c =>
    rw [hc] at h
    simp only at h ⊢
    cases hd : isDg c with
    | false => rw [hd] at h; simp at h
    | true =>
      rw [hd] at h
      simp only [if_true] at h ⊢
      have h1 := Rdt.one hc
      obtain ⟨ds, hr, hds⟩ := rdt_numL _ _ _ h1.le h
      rw [hds, dec_one hd]
      exact h1.app hr
theorem dead_num {l : List UInt8} {S : St} (h : (rNum l S).2.2 = false) : S.2 = false := by
  obtain ⟨a, st⟩ := S
  cases st with
  | false => rfl
  | true => cases h
theorem dead_word {l t : List UInt8} {S : St} (h : (wordF l t S).2 = false) : S.2 = false := by
  obtain ⟨a, st⟩ := S
  cases st with
  | false => rfl
  | true => rw [word_stuck] at h; cases h
theorem dec_pos (u : Nat) : 1 ≤ (Lib.decDigits u).length := (dec_facts u).2.2.1
theorem itoaN (n : Nat) : Lib.itoa (n : Int) = Lib.decDigits n := by rw [itoa_nat (by omega)]; rfl
theorem cons_span {l : List UInt8} {a : Nat} {b : Bool} (h : (rSpan l (a, false) b).2.1.2 = false) : ∃ q, (rSpan l (a, false) b).2.2 = (b && q) ∧ (rgS (rSpan l (a, false) b).1 = true → Cons l a (rSpan l (a, false) b).2.1.1 (txS (rSpan l (a, false) b).1) q) := by
  unfold rSpan at h ⊢
  by_cases hn : nowF l (rNum l (a, false)).2 = some 46
  · rw [if_pos hn] at h ⊢
    simp only at h ⊢
    have h2 := dead_word (dead_num h)
    have r1 := rdt_num h2
    obtain ⟨e1, st1⟩ : ∃ e s, (rNum l (a, false)).2 = (e, s) := ⟨_, _, rfl⟩
    have hw := dead_num h
    have r2 : Rdt l (rNum l (a, false)).2.1 (wordF l [46, 46] (rNum l (a, false)).2).1 [46, 46] := by
      refine rdt_word (a := (rNum l (a, false)).2.1) r1.le ?_ hw
      exact congrArg (wordF l [46, 46]) (Prod.ext rfl h2.symm)
    have r3 : Rdt l (wordF l [46, 46] (rNum l (a, false)).2).1 (rNum l (wordF l [46, 46] (rNum l (a, false)).2)).2.1 (Lib.decDigits (rNum l (wordF l [46, 46] (rNum l (a, false)).2)).1) := by
      have he : wordF l [46, 46] (rNum l (a, false)).2 = ((wordF l [46, 46] (rNum l (a, false)).2).1, false) := Prod.ext rfl hw
      rw [he] at h ⊢
      exact rdt_num h
    refine ⟨decide ((rNum l (a, false)).1 < (rNum l (wordF l [46, 46] (rNum l (a, false)).2)).1), rfl, fun hr => ?_⟩
    obtain ⟨-, hle, -⟩ := rgS_t hr
    simp only at hle
    have rr := (r1.app r2).app r3
    generalize (rNum l (a, false)).1 = n at *
    generalize (rNum l (wordF l [46, 46] (rNum l (a, false)).2)).1 = m at *
    refine ⟨_, rr, ?_, ?_⟩
    · unfold txS
      simp only
      split
      · rw [itoaN]; simp only [List.length_append]; omega
      · rw [itoaN, itoaN]; exact Nat.le_refl _
    · unfold txS
      simp only [decide_eq_true_eq]
      by_cases hnm : n < m
      · rw [if_neg (by omega), itoaN, itoaN]; simp [hnm]
      · rw [if_pos (by omega), itoaN]
        constructor
        · intro q; exact absurd q hnm
        · intro q
          have := congrArg List.length q
          simp only [List.length_append, List.length_cons, List.length_nil] at this; omega
  · rw [if_neg hn] at h ⊢
    simp only at h ⊢
    refine ⟨true, by simp, fun _ => ?_⟩
    have r1 := rdt_num h
    unfold txS
    rw [if_pos rfl, itoaN]
    exact r1.cons
theorem cons_spansL {l : List UInt8} : ∀ (f : Nat) (xs : List Sp) (a : Nat) (b : Bool), a ≤ l.length → (rSpansL l f xs (a, false) b).2.1.2 = false →
    ∃ zs q, (rSpansL l f xs (a, false) b).1 = xs ++ zs ∧ (rSpansL l f xs (a, false) b).2.2 = (b && q) ∧ ((∀ z ∈ zs, rgS z = true) → Cons l a (rSpansL l f xs (a, false) b).2.1.1 (tailF txS [44] zs) q)
  | 0, xs, a, b, ha, _ => ⟨[], true, by rw [rSpansL]; simp, by rw [rSpansL]; simp, fun _ => by rw [rSpansL]; exact (Rdt.nil ha).cons⟩
  | f + 1, xs, a, b, ha, h => by
    rw [rSpansL] at h ⊢
    by_cases hn : nowF l (a, false) = some 44
    · rw [if_pos hn] at h ⊢
      have hg : l[a]? = some 44 := by rw [now_at'] at hn; exact hn
      have r0 := Rdt.one hg
      have hs : (rSpan l (a + 1, false) b).2.1.2 = false := by
        cases hq : (rSpan l (a + 1, false) b).2.1 with
        | mk e st =>
          cases st with
          | false => rfl
          | true =>
            simp only at h
            rw [hq] at h
            cases f with
            | zero => rw [rSpansL] at h; cases h
            | succ f => rw [rSpansL, if_neg (by intro e; cases e)] at h; cases h
      obtain ⟨q1, e1, c1⟩ := cons_span hs
      simp only at h ⊢
      have hp : (rSpan l (a + 1, false) b).2.1 = ((rSpan l (a + 1, false) b).2.1.1, false) := Prod.ext rfl hs
      have hle : (rSpan l (a + 1, false) b).2.1.1 ≤ l.length := by
        have h1 := (span_agr l (a + 1, false) b).1
        rw [h1, gd_fst]; exact (ge_span l (a + 1, false)).2 r0.le
      rw [hp] at h ⊢
      obtain ⟨zs, q2, e2, e3, c2⟩ := cons_spansL f (xs ++ [(rSpan l (a + 1, false) b).1]) _ (rSpan l (a + 1, false) b).2.2 hle h
      refine ⟨(rSpan l (a + 1, false) b).1 :: zs, q1 && q2, by rw [e2]; simp, by rw [e3, e1, Bool.and_assoc], fun hz => ?_⟩
      have k1 := c1 (hz _ (by simp))
      have k2 := c2 (fun z hzz => hz z (by simp [hzz]))
      have := (r0.cons).app (k1.app k2)
      rw [Bool.true_and] at this
      exact this
    · rw [if_neg hn] at h ⊢
      exact ⟨[], true, by simp, by simp, fun _ => (Rdt.nil ha).cons⟩
theorem cons_spans {l : List UInt8} {a : Nat} {b : Bool} (ha : a ≤ l.length) (h : (rSpans l (a, false) b).2.1.2 = false) : ∃ q, (rSpans l (a, false) b).2.2 = (b && q) ∧ (allR rgS (rSpans l (a, false) b).1 = true → Cons l a (rSpans l (a, false) b).2.1.1 (joinF txS [44] (rSpans l (a, false) b).1) q) := by
  unfold rSpans at h ⊢
  have hs : (rSpan l (a, false) b).2.1.2 = false := by
    cases hq : (rSpan l (a, false) b).2.1 with
    | mk e st =>
      cases st with
      | false => rfl
      | true =>
        rw [hq] at h
        cases hl : l.length with
        | zero => rw [hl, rSpansL] at h; cases h
        | succ f => rw [hl, rSpansL, if_neg (by intro e; cases e)] at h; cases h
  obtain ⟨q1, e1, c1⟩ := cons_span hs
  have hp : (rSpan l (a, false) b).2.1 = ((rSpan l (a, false) b).2.1.1, false) := Prod.ext rfl hs
  have hle : (rSpan l (a, false) b).2.1.1 ≤ l.length := by
    have h1 := (span_agr l (a, false) b).1
    rw [h1, gd_fst]; exact (ge_span l (a, false)).2 ha
  rw [hp] at h ⊢
  obtain ⟨zs, q2, e2, e3, c2⟩ := cons_spansL l.length [(rSpan l (a, false) b).1] _ (rSpan l (a, false) b).2.2 hle h
  refine ⟨q1 && q2, by rw [e3, e1, Bool.and_assoc], fun hr => ?_⟩
  obtain ⟨-, -, h3⟩ := allR_t hr
  rw [e2] at h3 ⊢
  rw [List.singleton_append, join_tail]
  exact (c1 (h3 _ (by simp))).app (c2 (fun z hz => h3 z (by simp [hz])))
end Go.Proofs.YtlgodcbffimcoaaDoor
