/- The reader: what stands behind the place where it stands matters nothing. -/
import Derived.Test.YtlmaafmhadbiaaaGreatDoorPn
namespace Go.Proofs.YtlmaafmhadbiaaaGreatDoor

theorem one_live {l t : List UInt8} {S : St} {c : UInt8} (h : (oneF l t S).1 = [c]) : (oneF l t S).2.2 = 0 := by
  rcases one_cases l t S with z | ⟨d, z0, z1, z2, z3⟩
  · rw [z.2.1] at h; cases h
  · rw [z3]
/-- Two texts that begin alike. -/
structure Ag (l m : List UInt8) (k : Nat) : Prop where
  hl : k ≤ l.length
  hm : k ≤ m.length
  eq : ∀ i, i < k → m[i]? = l[i]?
section
variable {l m : List UInt8} {k : Nat} (A : Ag l m k)
include A
theorem Ag.fail {S : St} (h : S.1 < k) : failF m S = failF l S := by
  unfold failF
  have h1 := A.hl; have h2 := A.hm
  rw [if_neg (show ¬ S.1 = m.length by omega), if_neg (show ¬ S.1 = l.length by omega)]
theorem Ag.one {t : List UInt8} {S : St} (h : S.1 < k) : oneF m t S = oneF l t S := by
  unfold oneF
  rw [A.eq _ h, A.fail h]
theorem Ag.word : ∀ {t : List UInt8} {S : St}, (wordF l t S).1 < k → wordF m t S = wordF l t S
  | [], S, _ => rfl
  | c :: r, S, h => by
    rw [wordF] at h ⊢
    rw [wordF]
    have h1 := (ge_word l r (oneF l [c] S).2).1
    have h2 := (ge_one l [c] S).1
    rw [A.one (by omega)]
    exact Ag.word h
theorem Ag.next {c : UInt8} {S : St} (h : S.1 < k) : nextF m [c] S = nextF l [c] S := by
  have e := A.eq _ h
  cases hb : nextF l [c] S with
  | true => rw [next_iff] at hb ⊢; rw [e]; exact hb
  | false =>
    cases hc : nextF m [c] S with
    | false => rfl
    | true => rw [next_iff] at hc; rw [e] at hc; rw [next_iff.2 hc] at hb; cases hb
theorem Ag.take {a n : Nat} (h : a + n ≤ k) : (m.drop a).take n = (l.drop a).take n := by
  apply List.ext_getElem?
  intro i
  rw [List.getElem?_take, List.getElem?_take]
  split
  · rw [List.getElem?_drop, List.getElem?_drop, A.eq _ (by omega)]
  · rfl
theorem Ag.long {p : List UInt8 → Bool} {S : St} (hS : S.1 ≤ l.length) (h : (longF l p S).2.1 < k) : longF m p S = longF l p S := by
  have h1 := A.hl; have h2 := A.hm
  by_cases h0 : S.2 = 0
  · have hn : S.1 + longN p (l.drop S.1) l.length 0 < k := by
      unfold longF at h
      rw [if_pos h0] at h
      split at h
      · rename_i e; rw [fail_fst] at h; omega
      · exact h
    have hle := longN_le p (l.drop S.1) l.length 0 (by omega)
    have hL : longN p (m.drop S.1) m.length 0 = longN p (l.drop S.1) l.length 0 := by
      refine longN_is (by simp) (by rw [List.length_drop]; omega) (fun j hj => ?_) (fun hj => ?_)
      · rw [A.take (by omega)]
        exact longN_yes p _ _ 0 j (by omega) hj
      · rw [A.take (by omega)]
        exact longN_end p _ _ 0 (by simp) (by rw [List.length_drop]; omega)
    unfold longF
    rw [if_pos h0, if_pos h0, hL, A.take (by omega)]
    split
    · rw [A.fail (by omega)]
    · rfl
  · rw [long_stuck h0, long_stuck h0]
theorem Ag.key {S : St} (hS : S.1 ≤ l.length) (h : (keyF l S).2.1 < k) : keyF m S = keyF l S := by
  have h0 := (ge_key l S).1
  unfold keyF at h ⊢
  rw [A.next (show S.1 < k by unfold keyF at h0; split at h <;> simp_all <;> omega)]
  split
  · rename_i hn
    rw [if_pos hn] at h
    simp only at h
    have h1 := (ge_long l numB (wordF l [61] S)).1
    have hw : (wordF l [61] S).1 ≤ l.length := by
      have := get_lt (next_iff.1 hn).2
      rw [word_yes hn]; exact this
    rw [A.word (by omega), A.long hw h]
  · rename_i hn
    rw [if_neg hn] at h
    exact A.long hS h
theorem Ag.quot {S : St} (h : (quotF l S).2.1 < k) : quotF m S = quotF l S := by
  have h1 := (ge_one l [39, 123, 125, 35] (wordF l [39] S)).1
  have h2 := (ge_word l [39] (oneF l [39, 123, 125, 35] (wordF l [39] S)).2).1
  have h3 : (wordF l [39] S).1 < k := by
    unfold quotF at h
    split at h
    · omega
    · simp only at h; omega
  have e1 := A.word h3
  have e2 := A.one (t := [39, 123, 125, 35]) h3
  unfold quotF at h ⊢
  rw [e1, e2]
  split
  · rfl
  · rename_i hh
    rw [if_neg hh] at h
    rw [A.word h]
theorem Ag.text : ∀ (f g : Nat) (acc : List UInt8) (S : St), (S.2 = 0 → l.length - S.1 ≤ f) → (S.2 = 0 → m.length - S.1 ≤ g) → (textL l f acc S).2.1 < k → textL m g acc S = textL l f acc S
  | f, g, acc, S, hf, hg, h => by
    have h1 := A.hl; have h2 := A.hm
    by_cases h0 : S.2 = 0
    · have hlt : S.1 < k := Nat.lt_of_le_of_lt (ge_text l f acc S).1 h
      have hf := hf h0
      have hg := hg h0
      obtain ⟨f', rfl⟩ : ∃ f', f = f' + 1 := ⟨f - 1, by omega⟩
      obtain ⟨g', rfl⟩ : ∃ g', g = g' + 1 := ⟨g - 1, by omega⟩
      rw [textL] at h ⊢
      rw [textL]
      rw [if_pos h0] at h ⊢
      rw [if_pos h0, A.eq _ hlt]
      split
      · rfl
      · rename_i c hc
        rw [hc] at h
        simp only at h
        split
        · rfl
        · rename_i n1
          rw [if_neg n1] at h
          split
          · rename_i n2
            rw [if_pos n2] at h
            have g1 := ge_text l f' (acc ++ (quotF l S).1) (quotF l S).2
            have g2 := g1.1
            rw [A.quot (by omega)]
            refine Ag.text f' g' _ _ (fun e => ?_) (fun e => ?_) h
            · have := quot_adv e; omega
            · have := quot_adv e; omega
          · rename_i n2
            rw [if_neg n2] at h
            exact Ag.text f' g' _ _ (fun _ => by simp only; omega) (fun _ => by simp only; omega) h
    · have e : ∀ (l : List UInt8) f, textL l f acc S = (acc, S) := fun l f => by
        cases f with
        | zero => rw [textL]
        | succ f => rw [textL, if_neg h0]
      rw [e, e]
theorem Ag.deep {o : Nat} {S : St} (h : S.1 < k) : deepF m o S = deepF l o S := by
  unfold deepF; rw [A.next h]
theorem Ag.next3 {S : St} (h : S.1 + 2 < k) : nextF m [44, 32, 115] S = nextF l [44, 32, 115] S := by
  have e : ∀ (l m : List UInt8), (∀ i, i < k → m[i]? = l[i]?) → nextF l [44, 32, 115] S = true → nextF m [44, 32, 115] S = true := fun l m ha hb => by
    unfold nextF at *
    simp only [Bool.and_eq_true, decide_eq_true_eq] at hb ⊢
    refine ⟨hb.1, ?_⟩
    rw [List.isPrefixOf_iff_prefix, List.prefix_iff_eq_take] at hb ⊢
    rw [hb.2]
    apply List.ext_getElem?
    intro i
    simp only [List.length_take, List.length_cons, List.length_nil]
    rw [List.getElem?_take, List.getElem?_take, List.getElem?_drop, List.getElem?_drop]
    have hlen := congrArg List.length hb.2
    simp only [List.length_take, List.length_cons, List.length_nil, List.length_drop] at hlen
    by_cases hi : i < 3
    · rw [if_pos (by omega), if_pos (by simp; omega), ha _ (by omega)]
    · rw [if_neg (by omega), if_neg (by simp; omega)]
  cases hb : nextF l [44, 32, 115] S with
  | true => exact e l m A.eq hb
  | false =>
    cases hc : nextF m [44, 32, 115] S with
    | false => rfl
    | true => rw [e m l (fun i hi => (A.eq i hi).symm) hc] at hb; cases hb
end
/-- A text that goes on by these. -/
theorem next_of_word {l : List UInt8} : ∀ {t : List UInt8} {S : St}, S.2 = 0 → (wordF l t S).2 = 0 → nextF l t S = true
  | t, S, h0, h => by
    unfold nextF
    simp only [Bool.and_eq_true, decide_eq_true_eq]
    refine ⟨h0, ?_⟩
    rw [List.isPrefixOf_iff_prefix, word_text h]
    exact List.prefix_append _ _
theorem next3_no {l : List UInt8} {S : St} (h : nextF l [44, 32, 115] S = false) (h0 : S.2 = 0) : (wordF l [44, 32, 115] S).2 ≠ 0 := fun e => by
  rw [next_of_word h0 e] at h; cases h
theorem word_app (l : List UInt8) : ∀ (s t : List UInt8) (S : St), wordF l (s ++ t) S = wordF l t (wordF l s S)
  | [], t, S => rfl
  | c :: r, t, S => by rw [List.cons_append, wordF, wordF, word_app l r t]
/-- The two words part at their third byte: where one is read, the other one can't be. -/
theorem Ag.next3' {l m : List UInt8} {k : Nat} (A : Ag l m k) {S : St} (h0 : S.2 = 0) (h : nextF l [44, 32, 115] S = false) (hk : (wordF l plW S).1 < k) : nextF m [44, 32, 115] S = false := by
  cases hc : nextF m [44, 32, 115] S with
  | false => rfl
  | true =>
    exfalso
    have hS : S.1 < k := Nat.lt_of_le_of_lt (ge_word l plW S).1 hk
    have e1 : nextF m [44] S = true := next_in hc
    have e1' : nextF l [44] S = true := by rw [← A.next hS]; exact e1
    have hpre : ∀ i c, ([44, 32, 115] : List UInt8)[i]? = some c → m[S.1 + i]? = some c := fun i c hi => by
      unfold nextF at hc
      simp only [Bool.and_eq_true, decide_eq_true_eq] at hc
      obtain ⟨t, ht⟩ := List.isPrefixOf_iff_prefix.1 hc.2
      rw [← List.getElem?_drop, ← ht, List.getElem?_append_left (List.getElem?_eq_some_iff.1 hi).1, hi]
    have hw : wordF l plW S = wordF l [112, 108, 117, 114, 97, 108, 44] (wordF l [32] (S.1 + 1, 0)) := by
      rw [show plW = 44 :: 32 :: [112, 108, 117, 114, 97, 108, 44] from rfl, word_yes e1']; rfl
    rw [hw] at hk
    have g2 := (ge_word l [112, 108, 117, 114, 97, 108, 44] (wordF l [32] (S.1 + 1, 0))).1
    have g1 := (ge_word l [32] (S.1 + 1, 0)).1
    have h1 : l[S.1 + 1]? = some 32 := by rw [← A.eq _ (by simp only at g1; omega)]; exact hpre 1 32 rfl
    have e2 : nextF l [32] (S.1 + 1, 0) = true := next_iff.2 ⟨rfl, h1⟩
    rw [word_yes e2] at hk g2
    have g3 : (wordF l [] ((S.1 + 1, 0).fst + 1, 0)).1 = S.1 + 2 := rfl
    rw [g3] at g2
    have h2 : l[S.1 + 2]? = some 115 := by rw [← A.eq _ (by omega)]; exact hpre 2 115 rfl
    have h3 : nextF l [44, 32, 115] S = true := by
      unfold nextF
      simp only [Bool.and_eq_true, decide_eq_true_eq]
      refine ⟨h0, ?_⟩
      obtain ⟨b0, c0⟩ := List.getElem?_eq_some_iff.1 (next_iff.1 e1').2
      obtain ⟨b1, c1⟩ := List.getElem?_eq_some_iff.1 h1
      obtain ⟨b2, c2⟩ := List.getElem?_eq_some_iff.1 h2
      rw [List.drop_eq_getElem_cons b0, List.drop_eq_getElem_cons b1, List.drop_eq_getElem_cons b2, c0, c1, c2]
      simp [List.isPrefixOf]
    rw [h3] at h; cases h
section
variable {l m : List UInt8} {k : Nat} (A : Ag l m k)
include A
theorem Ag.part {cf cg : Bool → List UInt8 × St → List Cs × St} {h : Bool} {S : St} (hge : ∀ h b, Ge l b.2 (cf h b).2) (h0 : S.2 = 0) (hS : S.1 < l.length)
    (Hc : ∀ h b, (b.1 = [32] → b.2.2 = 0) → b.2.1 ≤ l.length → S.1 + 1 ≤ b.2.1 → (cf h b).2.1 < k → cg h b = cf h b) (hk : (partG l cf h S).2.1 < k) (hge1 : S.1 ≤ (partG l cf h S).2.1) : partG m cg h S = partG l cf h S := by
  have h1 := A.hl; have h2 := A.hm
  have hlt : S.1 < k := by omega
  unfold partG at hk ⊢
  rw [A.next hlt]
  split
  · rename_i hn
    rw [if_pos hn] at hk
    unfold holeG at hk ⊢
    simp only at hk ⊢
    have w1 : (wordF l [123] S).1 = S.1 + 1 := by rw [word_yes hn]; rfl
    have wl : (wordF l [123] S).1 ≤ l.length := by omega
    have gl := (ge_long l nameB (wordF l [123] S))
    have hwf : Wf l (wordF l [123] S) := (ge_word l [123] S).2.1 ⟨by omega, .inl h0⟩
    have base : (longF l nameB (wordF l [123] S)).2.1 < k → wordF m [123] S = wordF l [123] S ∧ longF m nameB (wordF l [123] S) = longF l nameB (wordF l [123] S) := fun q => by
      have := gl.1
      exact ⟨A.word (by omega), A.long wl q⟩
    split at hk
    · rename_i hs
      have a1 := (ge_word l seW (longF l nameB (wordF l [123] S)).2)
      have a2 := (ge_one l [32] (wordF l seW (longF l nameB (wordF l [123] S)).2))
      have a3 := (hge h (oneF l [32] (wordF l seW (longF l nameB (wordF l [123] S)).2)))
      have a1' := a1.1; have a2' := a2.1; have a3' := a3.1; have gl' := gl.1
      simp only at hk
      obtain ⟨b1, b2⟩ := base (by omega)
      have hlong : (wordF l seW (longF l nameB (wordF l [123] S)).2).1 ≥ (longF l nameB (wordF l [123] S)).2.1 + 3 := by
        have hs0 := next_live hs
        have : wordF l seW (longF l nameB (wordF l [123] S)).2 = wordF l [101, 108, 101, 99, 116, 44] (wordF l [44, 32, 115] (longF l nameB (wordF l [123] S)).2) := word_app l [44, 32, 115] [101, 108, 101, 99, 116, 44] _
        rw [this]
        have g1 := (ge_word l [101, 108, 101, 99, 116, 44] (wordF l [44, 32, 115] (longF l nameB (wordF l [123] S)).2)).1
        have : (wordF l [44, 32, 115] (longF l nameB (wordF l [123] S)).2) = ((longF l nameB (wordF l [123] S)).2.1 + 3, 0) := by
          generalize (longF l nameB (wordF l [123] S)).2 = T at hs hs0
          unfold nextF at hs
          simp only [Bool.and_eq_true, decide_eq_true_eq] at hs
          obtain ⟨t, ht⟩ := List.isPrefixOf_iff_prefix.1 hs.2
          have gx : ∀ i c, ([44, 32, 115] : List UInt8)[i]? = some c → l[T.1 + i]? = some c := fun i c hi => by
            rw [← List.getElem?_drop, ← ht, List.getElem?_append_left (List.getElem?_eq_some_iff.1 hi).1, hi]
          rw [word_yes (next_iff.2 ⟨hs0, gx 0 44 rfl⟩), word_yes (next_iff.2 ⟨rfl, gx 1 32 rfl⟩), word_yes (next_iff.2 ⟨rfl, gx 2 115 rfl⟩)]
          rfl
        rw [this] at g1 ⊢
        exact g1
      rw [b1, b2, A.next3 (by omega), if_pos hs, if_pos hs, A.word (by omega), A.one (by omega)]
      rw [Hc h _ one_live (((a1.trans a2).2.1 (gl.2.1 hwf)).1) (by omega) hk]
    · rename_i hs
      split at hk
      · rename_i hp
        have a1 := (ge_word l plW (longF l nameB (wordF l [123] S)).2)
        have a2 := (ge_one l [32] (wordF l plW (longF l nameB (wordF l [123] S)).2))
        have a3 := (hge true (oneF l [32] (wordF l plW (longF l nameB (wordF l [123] S)).2)))
        have a1' := a1.1; have a2' := a2.1; have a3' := a3.1; have gl' := gl.1
        simp only at hk
        obtain ⟨b1, b2⟩ := base (by omega)
        rw [b1, b2, A.next3' (next_live hp) (by simpa using hs) (by omega), if_neg hs, if_neg (by simp), A.next (by omega), if_pos hp, if_pos hp, A.word (by omega), A.one (by omega)]
        rw [Hc true _ one_live (((a1.trans a2).2.1 (gl.2.1 hwf)).1) (by omega) hk]
      · rename_i hp
        have a1 := (ge_word l [125] (longF l nameB (wordF l [123] S)).2)
        have a1' := a1.1; have gl' := gl.1
        simp only at hk
        obtain ⟨b1, b2⟩ := base (by omega)
        have n3 : nextF m [44, 32, 115] (longF l nameB (wordF l [123] S)).2 = false := by
          cases hc : nextF m [44, 32, 115] (longF l nameB (wordF l [123] S)).2 with
          | false => rfl
          | true => exact absurd ((A.next (by omega)).symm.trans (next_in hc)) hp
        rw [b1, b2, n3, if_neg hs, if_neg (by simp), A.next (by omega), if_neg hp, if_neg hp, A.word (by omega)]
  · rename_i hn
    rw [if_neg hn] at hk
    rw [A.next hlt]
    split
    · rename_i hn2
      rw [if_pos hn2] at hk
      simp only at hk ⊢
      cases h with
      | true => simp only [if_true] at *; rw [A.word hk]
      | false =>
        simp only [Bool.false_eq_true, if_false] at *
        rw [A.fail hlt, A.word hk]
    · rename_i hn2
      rw [if_neg hn2] at hk
      simp only at hk ⊢
      rw [A.text l.length m.length [] S (fun _ => by omega) (fun _ => by omega) hk]
theorem Ag.branch {pf pg : St → List Pt × St} {o : Nat} {S : St} (hge : ∀ S, Ge l S (pf S).2) (hS : S.1 ≤ l.length) (h0 : S.2 = 0)
    (Hp : ∀ T : St, T.1 ≤ l.length → (T.2 = 0 → S.1 + 1 ≤ T.1) → (pf T).2.1 < k → pg T = pf T) (hk : (branchG l pf o S).2.1 < k) : branchG m pg o S = branchG l pf o S := by
  unfold branchG at hk ⊢
  simp only at hk ⊢
  have a1 := ge_key l S
  have a2 := ge_word l [32] (keyF l S).2
  have a3 := ge_deep l o (wordF l [32] (keyF l S).2)
  have a4 := ge_word l [123] (deepF l o (wordF l [32] (keyF l S).2))
  have a5 := hge (wordF l [123] (deepF l o (wordF l [32] (keyF l S).2)))
  have a6 := ge_word l [125] (pf (wordF l [123] (deepF l o (wordF l [32] (keyF l S).2)))).2
  have b1 := a1.1; have b2 := a2.1; have b3 := a3.1; have b4 := a4.1; have b5 := a5.1; have b6 := a6.1
  have hwf := (((a1.trans a2).trans a3).trans a4).2.1 ⟨hS, .inl h0⟩
  rw [A.key hS (by omega), A.word (show (wordF l [32] (keyF l S).2).1 < k by omega), A.deep (by omega), A.word (show (wordF l [123] (deepF l o (wordF l [32] (keyF l S).2))).1 < k by omega)]
  rw [Hp _ hwf.1 (fun e => by have := word_adv e; omega) (by omega), A.word hk]
theorem Ag.both : ∀ f g,
    (∀ h o acc (S : St), S.1 ≤ l.length → (S.2 = 0 → l.length - S.1 < f) → (S.2 = 0 → m.length - S.1 < g) → (partsL l f h o acc S).2.1 < k → partsL m g h o acc S = partsL l f h o acc S) ∧
    (∀ h o acc (b : List UInt8 × St), b.2.1 ≤ l.length → (b.1 = [32] → b.2.2 = 0 ∧ l.length - b.2.1 < f) → (b.1 = [32] → m.length - b.2.1 < g) → (casesL l f h o acc b).2.1 < k → casesL m g h o acc b = casesL l f h o acc b)
  | f, g => by
    have h1 := A.hl; have h2 := A.hm
    refine ⟨fun h o acc S hS hf hg hk => ?_, fun h o acc b hb hf hg hk => ?_⟩
    · have hlt : S.1 < k := Nat.lt_of_le_of_lt (ge_parts l f h o acc S).1 hk
      by_cases h0 : S.2 = 0
      · have hf := hf h0
        have hg := hg h0
        obtain ⟨f', rfl⟩ : ∃ f', f = f' + 1 := ⟨f - 1, by omega⟩
        obtain ⟨g', rfl⟩ : ∃ g', g = g' + 1 := ⟨g - 1, by omega⟩
        obtain ⟨ih1, ih2⟩ := Ag.both f' g'
        rw [partsL] at hk ⊢
        rw [partsL, A.next hlt]
        by_cases hc : nextF l [125] S = false
        · rw [if_pos ⟨h0, by omega, hc⟩] at hk ⊢
          rw [if_pos ⟨h0, by omega, hc⟩]
          have gp := ge_part (fun h b => ge_cases l f' h o [] b) h S
          have gr := ge_parts l f' h o (acc ++ [(partG l (fun h b => casesL l f' h o [] b) h S).1]) (partG l (fun h b => casesL l f' h o [] b) h S).2
          have gr1 := gr.1
          have gp1 : S.1 ≤ (partG l (fun h b => casesL l f' h o [] b) h S).2.1 := gp.1
          have hwf : (partG l (fun h b => casesL l f' h o [] b) h S).2.1 ≤ l.length := (gp.2.1 ⟨hS, .inl h0⟩).1
          have key : partG m (fun h b => casesL m g' h o [] b) h S = partG l (fun h b => casesL l f' h o [] b) h S :=
            A.part (fun h b => ge_cases l f' h o [] b) h0 (by omega) (fun h b q0 q1 q2 q3 => ih2 h o [] b q1 (fun e => ⟨q0 e, by omega⟩) (fun _ => by omega) q3) (by omega) gp1
          rw [key]
          refine ih1 _ _ _ _ hwf (fun e => ?_) (fun e => ?_) hk
          · rcases part_adv (cf := fun h b => casesL l f' h o [] b) (fun h b => ge_cases l f' h o [] b) (h := h) h0 (by omega) hc with z | z
            · exact absurd e z
            · have z2 : S.1 + 1 ≤ (partG l (fun h b => casesL l f' h o [] b) h S).2.1 := z
              omega
          · rcases part_adv (cf := fun h b => casesL l f' h o [] b) (fun h b => ge_cases l f' h o [] b) (h := h) h0 (by omega) hc with z | z
            · exact absurd e z
            · have z2 : S.1 + 1 ≤ (partG l (fun h b => casesL l f' h o [] b) h S).2.1 := z
              omega
        · rw [if_neg (fun e => hc e.2.2), if_neg (fun e => hc e.2.2)]
      · have e : ∀ (l : List UInt8) f, partsL l f h o acc S = (acc, S) := fun l f => by
          cases f with
          | zero => rw [partsL]
          | succ f => rw [partsL, if_neg (fun e => h0 e.1)]
        rw [e, e]
    · by_cases hc : b.1 = [32]
      · obtain ⟨hb0, hf⟩ := hf hc
        have hg := hg hc
        have hlt : b.2.1 < k := Nat.lt_of_le_of_lt (ge_cases l f h o acc b).1 hk
        obtain ⟨f', rfl⟩ : ∃ f', f = f' + 1 := ⟨f - 1, by omega⟩
        obtain ⟨g', rfl⟩ : ∃ g', g = g' + 1 := ⟨g - 1, by omega⟩
        obtain ⟨ih1, ih2⟩ := Ag.both f' g'
        rw [casesL] at hk ⊢
        rw [casesL]
        rw [if_pos hc] at hk ⊢
        rw [if_pos hc]
        have gb := ge_branch (fun S => ge_parts l f' h (o + 1) [] S) o b.2
        have gb1 := gb.1
        have go := ge_one l [32, 125] (branchG l (fun S => partsL l f' h (o + 1) [] S) o b.2).2
        have gc := ge_cases l f' h o (acc ++ [(branchG l (fun S => partsL l f' h (o + 1) [] S) o b.2).1]) (oneF l [32, 125] (branchG l (fun S => partsL l f' h (o + 1) [] S) o b.2).2)
        have go1 := go.1; have gc1 := gc.1
        have hwf := (gb.trans go).2.1 ⟨hb, .inl hb0⟩
        rw [A.branch (pf := fun S => partsL l f' h (o + 1) [] S) (fun S => ge_parts l f' h (o + 1) [] S) hb hb0 (fun T q1 q2 q3 => ih1 h (o + 1) [] T q1 (fun e => by have := q2 e; omega) (fun e => by have := q2 e; omega) q3) (by omega)]
        rw [A.one (by omega)]
        refine ih2 _ _ _ _ hwf.1 (fun e => ?_) (fun e => ?_) hk
        · rcases one_cases l [32, 125] (branchG l (fun S => partsL l f' h (o + 1) [] S) o b.2).2 with z | ⟨d, z0, z1, z2, z3⟩
          · rw [z.2.1] at e; cases e
          · rw [z3]; simp only; have := get_lt z1; exact ⟨trivial, by omega⟩
        · rcases one_cases l [32, 125] (branchG l (fun S => partsL l f' h (o + 1) [] S) o b.2).2 with z | ⟨d, z0, z1, z2, z3⟩
          · rw [z.2.1] at e; cases e
          · rw [z3]; simp only; omega
      · have e : ∀ (l : List UInt8) f, casesL l f h o acc b = (acc, b.2) := fun l f => by
          cases f with
          | zero => rw [casesL]
          | succ f => rw [casesL, if_neg hc]
        rw [e, e]
end
end Go.Proofs.YtlmaafmhadbiaaaGreatDoor
