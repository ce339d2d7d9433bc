/- The document's reader reads what the program's reads. -/
import Derived.Test.YtapnieogfddjkaaDoorDp
namespace Go.Proofs.YtapnieogfddjkaaDoor

def endO (l : List UInt8) (o : Nat) (T : St) : St := if o = 0 then endF l T else T
theorem end_stuck {l : List UInt8} {o : Nat} {T : St} (h : T.2 ≠ 0) : endO l o T = T := by
  unfold endO endF
  split
  · split
    · exact fail_stuck h
    · rfl
  · rfl
def clean (l : List UInt8) (acc : List Pt) (S : St) : Prop := (∀ x, acc.getLast? = some x → x.k ≠ 1) ∨ Stop l S
theorem word_nil (l : List UInt8) (S : St) : wordF l [] S = S := by rw [wordF]
theorem word_brace {l : List UInt8} {S : St} {c : UInt8} (h : nowF l S = some c) : wordF l [c] S = (S.1 + 1, 0) := by rw [word_go h, word_nil]
theorem key_stuck {l : List UInt8} {S : St} (h : S.2 ≠ 0) : dKey l S = ([], S) := by
  unfold dKey dName
  rw [now_stuck h, if_neg (by simp)]
  have hn : isNow l isLet S = false := by unfold isNow; rw [now_stuck h]
  rw [hn]
  simp only [Bool.false_eq_true, if_false]
  rw [fail_stuck h, run_stuck h]
theorem next3_now {l : List UInt8} {S : St} (h : nowF l S ≠ some 44) : nextF l [44, 32, 115] S = false := by
  cases hn : nextF l [44, 32, 115] S with
  | false => rfl
  | true => exact absurd (next_now.1 (next_in hn)) h
theorem next3_split {l : List UInt8} {S : St} (h : nextF l [44, 32, 115] S = true) : nowF l (wordF l [44, 32] S) = some 115 := by
  unfold nextF at h
  simp only [Bool.and_eq_true, decide_eq_true_eq] at h
  obtain ⟨h0, hp⟩ := h
  obtain ⟨r, hr⟩ := List.isPrefixOf_iff_prefix.1 hp
  have e0 : l[S.1]? = some 44 := by
    have : (l.drop S.1)[0]? = some 44 := by rw [← hr]; rfl
    simpa using this
  have e1 : l[S.1 + 1]? = some 32 := by
    have : (l.drop S.1)[1]? = some 32 := by rw [← hr]; rfl
    simpa using this
  have e2 : l[S.1 + 1 + 1]? = some 115 := by
    have : (l.drop S.1)[2]? = some 115 := by rw [← hr]; rfl
    rw [List.getElem?_drop] at this
    exact this
  rw [word_go (now_of h0 e0), word_go (now_of (S := (S.1 + 1, 0)) rfl e1), word_nil]
  exact now_of rfl e2
theorem next3_join {l : List UInt8} {S : St} (h : nowF l (wordF l [44, 32] S) = some 115) : nextF l [44, 32, 115] S = true := by
  obtain ⟨h0, h1⟩ := now_live h
  have hl : S.2 = 0 := (ge_word l [44, 32] S).live h0
  refine next_of_word hl ?_
  have : wordF l [44, 32, 115] S = wordF l [115] (wordF l [44, 32] S) := word_app l [44, 32] [115] S
  rw [this, word_brace h]

theorem hole_doc {l : List UInt8} {h : Bool} {S : St} (hn : nowF l S = some 123) {cd : Bool → St → List Cs × St} {cp : Bool → List UInt8 × St → List Cs × St}
    (hs : ∀ h T, T.2 ≠ 0 → (cd h T).2 = T) (hc : ∀ h T, Wf l T → (T.2 = 0 → S.1 + 1 ≤ T.1) → (cd h T).2 = (cp h (oneF l [32] T)).2 ∧ ((cd h T).2.2 = 0 → (cd h T).1 = (cp h (oneF l [32] T)).1)) :
    (dHoleG l cd h S).2 = (holeG l cp h S).2 ∧ ((dHoleG l cd h S).2.2 = 0 → (dHoleG l cd h S).1 = (holeG l cp h S).1) := by
  have hg := name_doc l (S.1 + 1, 0)
  have hw0 : Wf l (S.1 + 1, 0) := wf_next hn
  have hgl := ge_long l nameB (S.1 + 1, 0)
  unfold dHoleG holeG
  simp only
  rw [word_brace hn]
  generalize dName l (S.1 + 1, 0) = D at *
  generalize longF l nameB (S.1 + 1, 0) = P at *
  rcases hg with ⟨g1, g2⟩ | ⟨g1, g2, d, g3, g4⟩
  · have hwN : Wf l P.2 := hgl.2.1 hw0
    have hgN := hgl.1
    simp only at hgN
    obtain ⟨d1, D2⟩ := D
    obtain ⟨p1, N⟩ := P
    simp only at g1 g2 hwN hgN ⊢
    subst g1
    by_cases h125 : nowF l D2 = some 125
    · rw [if_pos h125, next3_now (by rw [h125]; simp), next_not (by rw [h125]; simp)]
      simp only [Bool.false_eq_true, if_false]
      rw [word_brace h125, g2 (now_live h125).1]
      exact ⟨rfl, fun _ => rfl⟩
    · rw [if_neg h125]
      have hA : Wf l (wordF l [44, 32] D2) := (ge_word l [44, 32] D2).2.1 hwN
      have hAg := (ge_word l [44, 32] D2).1
      by_cases h3 : nowF l (wordF l [44, 32] D2) = some 115
      · rw [if_pos h3, next3_join h3]
        simp only [if_true]
        have hseq : wordF l seW D2 = wordF l seT (wordF l [44, 32] D2) := word_app l [44, 32] seT D2
        have hgs := ge_word l seT (wordF l [44, 32] D2)
        obtain ⟨k1, k2⟩ := hc h (wordF l seT (wordF l [44, 32] D2)) (hgs.2.1 hA) (fun _ => by have := hgs.1; omega)
        rw [hseq]
        refine ⟨k1, fun hl => ?_⟩
        have hlc := k2 hl
        have hl2 : (wordF l [44, 32] D2).2 = 0 := (now_live h3).1
        rw [hlc, g2 ((ge_word l [44, 32] D2).live hl2)]
      · have hn3 : nextF l [44, 32, 115] D2 = false := by
          cases hx : nextF l [44, 32, 115] D2 with
          | false => rfl
          | true => exact absurd (next3_split hx) h3
        rw [if_neg h3, hn3]
        simp only [Bool.false_eq_true, if_false]
        by_cases h44 : nowF l D2 = some 44
        · rw [next_now.2 h44]
          simp only [if_true]
          have hseq : wordF l plW D2 = wordF l plT (wordF l [44, 32] D2) := word_app l [44, 32] plT D2
          have hgs := ge_word l plT (wordF l [44, 32] D2)
          obtain ⟨k1, k2⟩ := hc true (wordF l plT (wordF l [44, 32] D2)) (hgs.2.1 hA) (fun _ => by have := hgs.1; omega)
          rw [hseq]
          refine ⟨k1, fun hl => ?_⟩
          have hlc := k2 hl
          rw [hlc, g2 (now_live h44).1]
        · rw [next_not h44]
          simp only [Bool.false_eq_true, if_false]
          have hst := fail_ne l D2
          rw [word_fail h44, word_stuck l _ hst, word_fail h125]
          rw [hs true _ hst]
          exact ⟨rfl, fun e => absurd e hst⟩
  · have hst := fail_ne l P.2
    have hx : nowF l P.2 = some d := now_of g1 g3
    have n44 : nowF l P.2 ≠ some 44 := fun e => by rw [hx] at e; obtain rfl := Option.some.inj e; exact absurd g4 (by decide)
    have n125 : nowF l P.2 ≠ some 125 := fun e => by rw [hx] at e; obtain rfl := Option.some.inj e; exact absurd g4 (by decide)
    rw [g2, now_stuck hst, word_stuck l _ hst, now_stuck hst, word_stuck l _ hst, next3_now n44, next_not n44, word_fail n125]
    simp only [Bool.false_eq_true, if_false, reduceCtorEq]
    rw [word_stuck l plT hst, hs true _ hst]
    exact ⟨rfl, fun e => absurd e hst⟩
theorem parts_on {l : List UInt8} {f : Nat} {h : Bool} {o : Nat} {acc : List Pt} {S : St} {c : UInt8} (hn : nowF l S = some c) (hc : c ≠ 125) :
    partsL l (f + 1) h o acc S = partsL l f h o (acc ++ [(partG l (fun h b => casesL l f h o [] b) h S).1]) (partG l (fun h b => casesL l f h o [] b) h S).2 := by
  rw [partsL, if_pos ⟨(now_live hn).1, get_lt (now_live hn).2, next_not (by rw [hn]; intro e; exact hc (Option.some.inj e))⟩]
theorem parts_off {l : List UInt8} {f : Nat} {h : Bool} {o : Nat} {acc : List Pt} {S : St} (hn : nowF l S = none ∨ nowF l S = some 125) : partsL l f h o acc S = (acc, S) := by
  cases f with
  | zero => rw [partsL]
  | succ f =>
    rw [partsL, if_neg]
    rintro ⟨h0, h1, h2⟩
    rcases hn with hn | hn
    · rw [now_of h0 (List.getElem?_eq_getElem h1)] at hn; cases hn
    · rw [next_now.2 hn] at h2; cases h2
theorem last_snoc (acc : List Pt) (y : Pt) (h : y.k ≠ 1) : ∀ x, (acc ++ [y]).getLast? = some x → x.k ≠ 1 := fun x hx => by
  rw [List.getLast?_concat] at hx
  obtain rfl := Option.some.inj hx
  exact h
theorem one_same {l : List UInt8} {E : St} (h : nowF l E ≠ some 125) : oneF l [32, 125] E = oneF l [32] E := by
  by_cases h0 : E.2 = 0
  · unfold oneF
    rw [if_pos h0, if_pos h0]
    cases hx : l[E.1]? with
    | none => rfl
    | some c =>
      have hc : c ≠ 125 := fun e => h (by rw [now_of h0 hx, e])
      simp [hc]
  · rw [one_stuck h0, one_stuck h0]
theorem hole_k {l : List UInt8} {cp : Bool → List UInt8 × St → List Cs × St} {h : Bool} {S : St} : (holeG l cp h S).1.k ≠ 1 := by
  unfold holeG
  simp only
  split
  · simp [Pt.k]
  · split <;> simp [Pt.k]

theorem cases_on {l : List UInt8} {f o : Nat} {h : Bool} {acc : List Cs} {S : St} : casesL l (f + 1) h o acc (([32] : List UInt8), S) = casesL l f h o (acc ++ [(branchG l (fun S => partsL l f h (o + 1) [] S) o S).1]) (oneF l [32, 125] (branchG l (fun S => partsL l f h (o + 1) [] S) o S).2) := by
  rw [casesL, if_pos rfl]

theorem doc_both (l : List UInt8) : ∀ n,
    (∀ (o : Nat) (h : Bool) (acc : List Pt) (S : St) (g f : Nat), Wf l S → (o ≤ 32 ∨ S.2 ≠ 0) → (S.2 = 0 → l.length - S.1 ≤ n ∧ l.length - S.1 < g ∧ l.length - S.1 < f) → clean l acc S →
      (dPartsL l f o h acc S).2 = endO l o (partsL l g h o acc S).2 ∧ ((dPartsL l f o h acc S).2.2 = 0 → (dPartsL l f o h acc S).1 = (partsL l g h o acc S).1)) ∧
    (∀ (o : Nat) (h : Bool) (acc : List Cs) (S : St) (g f : Nat), Wf l S → o ≤ 32 → (S.2 = 0 → l.length - S.1 ≤ n ∧ l.length - S.1 < g ∧ l.length - S.1 < f) →
      (dCasesL l f o h acc S).2 = (casesL l g h o acc (oneF l [32] S)).2 ∧ ((dCasesL l f o h acc S).2.2 = 0 → (dCasesL l f o h acc S).1 = (casesL l g h o acc (oneF l [32] S)).1)) := by
  intro n
  induction n using Nat.strongRecOn with
  | _ n ih =>
  refine ⟨fun o h acc S g f hS ho hb hcl => ?_, fun o h acc S g f hS ho hb => ?_⟩
  · cases hn : nowF l S with
    | none =>
      rw [parts_off (.inl hn)]
      have hD : dPartsL l f o h acc S = (acc, S) := by
        cases f with
        | zero => rw [dPartsL]
        | succ f => rw [dPartsL, hn]
      rw [hD]
      refine ⟨?_, fun _ => rfl⟩
      by_cases h0 : S.2 = 0
      · unfold endO endF
        split
        · rw [if_neg]
          intro hlt
          rw [now_of h0 (List.getElem?_eq_getElem hlt)] at hn; cases hn
        · rfl
      · exact (end_stuck h0).symm
    | some c =>
      obtain ⟨h0, hx⟩ := now_live hn
      have hlt := get_lt hx
      obtain ⟨b1, b2, b3⟩ := hb h0
      have ho32 : o ≤ 32 := by
        rcases ho with ho | ho
        · exact ho
        · exact absurd h0 ho
      obtain ⟨g', rfl⟩ : ∃ g', g = g' + 1 := ⟨g - 1, by omega⟩
      obtain ⟨f', rfl⟩ : ∃ f', f = f' + 1 := ⟨f - 1, by omega⟩
      have hn1 : n - 1 < n := by omega
      by_cases h125 : c = 125
      · subst h125
        rw [parts_off (.inr hn)]
        by_cases hpos : 0 < o
        · have hD : dPartsL l (f' + 1) o h acc S = (acc, S) := by rw [dPartsL, hn]; simp only; rw [if_pos ⟨trivial, hpos⟩]
          rw [hD]
          exact ⟨by unfold endO; rw [if_neg (by omega)], fun _ => rfl⟩
        · have hD : dPartsL l (f' + 1) o h acc S = (acc, failF l S) := by rw [dPartsL, hn]; simp only; rw [if_neg (fun e => hpos e.2), if_pos (.inl trivial)]
          rw [hD]
          exact ⟨by unfold endO endF; rw [if_pos (by omega), if_pos hlt], fun e => absurd e (fail_ne l S)⟩
      rw [parts_on hn h125]
      by_cases h35 : c = 35
      · subst h35
        have hp : partG l (fun h b => casesL l g' h o [] b) h S = (.mk 3 (ba []) (ba []) [], wordF l [35] (if h then S else failF l S)) := by
          unfold partG; rw [if_neg (by rw [next_not (by rw [hn]; simp)]; simp), if_pos (next_now.2 hn)]
        rw [hp]
        cases h with
        | false =>
          have hD : dPartsL l (f' + 1) o false acc S = (acc, failF l S) := by rw [dPartsL, hn]; simp only; rw [if_neg (fun e => absurd e.1 (by decide)), if_pos (.inr ⟨trivial, trivial⟩)]
          rw [hD]
          have hst := fail_ne l S
          simp only [Bool.false_eq_true, if_false]
          rw [word_stuck l _ hst, parts_stuck hst]
          exact ⟨(end_stuck hst).symm, fun e => absurd e hst⟩
        | true =>
          have hD : dPartsL l (f' + 1) o true acc S = dPartsL l f' o true (acc ++ [.mk 3 (ba []) (ba []) []]) (S.1 + 1, 0) := by
            rw [dPartsL, hn]; simp only
            rw [if_neg (fun e => absurd e.1 (by decide)), if_neg (fun e => by rcases e with e | e; exact absurd e (by decide); cases e.2), if_neg (by decide), if_pos trivial]
          rw [hD]
          simp only [if_true]
          rw [word_brace hn]
          exact (ih (n - 1) hn1).1 o true _ (S.1 + 1, 0) g' f' (wf_next hn) (.inl ho32) (fun _ => by simp only; omega) (.inl (last_snoc _ _ (by simp [Pt.k])))
      by_cases h123 : c = 123
      · subst h123
        have hp : partG l (fun h b => casesL l g' h o [] b) h S = holeG l (fun h b => casesL l g' h o [] b) h S := by unfold partG; rw [if_pos (next_now.2 hn)]
        have hD : dPartsL l (f' + 1) o h acc S = dPartsL l f' o h (acc ++ [(dHoleG l (fun h S => dCasesL l f' o h [] S) h S).1]) (dHoleG l (fun h S => dCasesL l f' o h [] S) h S).2 := by
          rw [dPartsL, hn]; simp only
          rw [if_neg (fun e => absurd e.1 (by decide)), if_neg (fun e => by rcases e with e | e; exact absurd e (by decide); exact absurd e.1 (by decide)), if_pos trivial]
        have hd := hole_doc (h := h) hn (cd := fun h S => dCasesL l f' o h [] S) (cp := fun h b => casesL l g' h o [] b) (fun h T hT => by rw [dCases_stuck hT])
          (fun h T hT hge => (ih (n - 1) hn1).2 o h [] T g' f' hT ho32 (fun e => by have := hge e; omega))
        have hge := ge_hole (l := l) (cf := fun h b => casesL l g' h o [] b) (fun h b => ge_cases _ _ _ _ _ _) h S
        have hadv := part_adv (l := l) (cf := fun h b => casesL l g' h o [] b) (fun h b => ge_cases _ _ _ _ _ _) (h := h) h0 hlt (next_not (by rw [hn]; simp))
        have hk := hole_k (l := l) (cp := fun h b => casesL l g' h o [] b) (h := h) (S := S)
        rw [hp] at hadv ⊢
        rw [hD]
        have hwf := hge.2.1 hS
        generalize dHoleG l (fun h S => dCasesL l f' o h [] S) h S = rd at *
        generalize holeG l (fun h b => casesL l g' h o [] b) h S = rp at *
        obtain ⟨xd, Td⟩ := rd
        obtain ⟨xp, T⟩ := rp
        simp only at hd hadv hwf hk ⊢
        obtain ⟨e1, e2⟩ := hd
        subst e1
        by_cases hl : Td.2 = 0
        · rw [e2 hl]
          have hT := hadv.resolve_left (fun e => e hl)
          exact (ih (n - 1) hn1).1 o h _ Td g' f' hwf (.inl ho32) (fun _ => by omega) (.inl (last_snoc _ _ hk))
        · rw [dParts_stuck hl, parts_stuck hl]
          exact ⟨(end_stuck hl).symm, fun e => absurd e hl⟩
      -- a text
      have hp : partG l (fun h b => casesL l g' h o [] b) h S = (.mk 1 (ba (textL l l.length [] S).1) (ba []) [], (textL l l.length [] S).2) := by
        unfold partG
        rw [if_neg (by rw [next_not (by rw [hn]; intro e; exact h123 (Option.some.inj e))]; simp), if_neg (by rw [next_not (by rw [hn]; intro e; exact h35 (Option.some.inj e))]; simp)]
      rw [hp]
      have hlast : ∀ x, acc.getLast? = some x → x.k ≠ 1 := by
        rcases hcl with hcl | hcl
        · exact hcl
        · rcases hcl h0 c hx with e | e | e
          · exact absurd e h123
          · exact absurd e h125
          · exact absurd e h35
      have hD : dPartsL l (f' + 1) o h acc S = if c = 39 then
          (match nowF l (S.1 + 1, 0) with
          | some d => if isSp d then dPartsL l f' o h (acc ++ [tx [d]]) (if d = 39 then (S.1 + 2, 0) else wordF l [39] (S.1 + 2, 0)) else (acc, failF l (S.1 + 1, 0))
          | none => (acc, failF l (S.1 + 1, 0)))
        else dPartsL l f' o h (acc ++ [tx [c]]) (S.1 + 1, 0) := by
        rw [dPartsL, hn]
        simp only
        rw [if_neg (fun e => h125 e.1), if_neg (fun e => by rcases e with e | e; exact h125 e; exact h35 e.1), if_neg h123, if_neg h35, add_new hlast]
        by_cases hq : c = 39
        · rw [if_pos hq, if_pos hq]
          cases nowF l (S.1 + 1, 0) with
          | none => rfl
          | some d => simp only; rw [add_new hlast]
        · rw [if_neg hq, if_neg hq]
      obtain ⟨L', hL'⟩ : ∃ L', l.length = L' + 1 := ⟨l.length - 1, by omega⟩
      have hT : textL l l.length [] S = if c = 39 then textL l L' ([] ++ (quotF l S).1) (quotF l S).2 else textL l L' ([] ++ [c]) (S.1 + 1, 0) := by
        rw [hL', text_some hn, if_neg (fun e => by rcases e with e | e | e; exact h123 e; exact h125 e; exact h35 e)]
      rw [hD, hT]
      clear hD hT hp
      have close : ∀ (t : List UInt8) (Q : St), Wf l Q → S.1 + 1 ≤ Q.1 →
          (dPartsL l f' o h (acc ++ [tx t]) Q).2 = endO l o (partsL l g' h o (acc ++ [.mk 1 (ba (textL l L' t Q).1) (ba []) []]) (textL l L' t Q).2).2 ∧
          ((dPartsL l f' o h (acc ++ [tx t]) Q).2.2 = 0 → (dPartsL l f' o h (acc ++ [tx t]) Q).1 = (partsL l g' h o (acc ++ [.mk 1 (ba (textL l L' t Q).1) (ba []) []]) (textL l L' t Q).2).1) := by
        intro t Q hQ hge
        have hql := hQ.1
        obtain ⟨r1, r2, r3⟩ := run_text o h acc L' t Q f' hQ (fun _ => by omega) (fun _ => by omega)
        rcases r3 with ⟨r3, r4⟩ | ⟨r3, r4, f2, r5, r6⟩
        · rw [parts_stuck r3, r4]
          exact ⟨(end_stuck r3).symm, fun e => absurd e r3⟩
        · rw [r6]
          exact (ih (n - 1) hn1).1 o h _ _ g' f2 r1 (.inl ho32) (fun _ => by omega) (.inr r4)
      by_cases hq : c = 39
      · subst hq
        rw [if_pos rfl, if_pos rfl, quot_is hn]
        have hst := fail_ne l (S.1 + 1, 0)
        have hbad : (failF l (S.1 + 1, 0)) = endO l o (partsL l g' h o (acc ++ [.mk 1 (ba (textL l L' ([] ++ []) (failF l (S.1 + 1, 0))).1) (ba []) []]) (textL l L' ([] ++ []) (failF l (S.1 + 1, 0))).2).2 := by
          rw [text_none (now_stuck hst), parts_stuck hst]; exact (end_stuck hst).symm
        cases hd : nowF l (S.1 + 1, 0) with
        | none =>
          simp only
          exact ⟨hbad, fun e => absurd e hst⟩
        | some d =>
          simp only
          by_cases hsp : isSp d
          · rw [if_pos hsp, if_pos hsp]
            obtain ⟨hw, hge⟩ := ge_spot hd
            exact close [d] _ hw (by omega)
          · rw [if_neg hsp, if_neg hsp]
            exact ⟨hbad, fun e => absurd e hst⟩
      · rw [if_neg hq, if_neg hq]
        exact close [c] (S.1 + 1, 0) (wf_next hn) (Nat.le_refl _)
  · by_cases h0 : S.2 = 0
    · obtain ⟨b1, b2, b3⟩ := hb h0
      obtain ⟨g', rfl⟩ : ∃ g', g = g' + 1 := ⟨g - 1, by omega⟩
      obtain ⟨f', rfl⟩ : ∃ f', f = f' + 1 := ⟨f - 1, by omega⟩
      by_cases hsp : nowF l S = some 32
      · have hlt := get_lt (now_live hsp).2
        have hn1 : n - 1 < n := by omega
        rw [one_yes (next_now.2 hsp), dCasesL, if_pos h0, cases_on]
        simp only
        rw [word_brace hsp]
        have hkd := key_doc l (S.1 + 1, 0)
        have hgk := (ge_key l (S.1 + 1, 0)).trans (ge_word l [32] _)
        have hwd := hkd.word (c := 32) (r := []) (by decide)
        have hwR : Wf l (wordF l [32] (keyF l (S.1 + 1, 0)).2) := hgk.2.1 (wf_next hsp)
        have hgR := hgk.1
        have hval : (wordF l [32] (keyF l (S.1 + 1, 0)).2).2 = 0 → (dKey l (S.1 + 1, 0)).1 = (keyF l (S.1 + 1, 0)).1 := fun e => (hkd.val e (by decide)).1
        unfold branchG
        simp only
        rw [hwd]
        generalize wordF l [32] (keyF l (S.1 + 1, 0)).2 = R at *
        generalize (keyF l (S.1 + 1, 0)).1 = kp at *
        generalize (dKey l (S.1 + 1, 0)).1 = kd at *
        simp only at hgR
        by_cases hdeep : nowF l R = some 123 ∧ 32 ≤ o
        · rw [if_pos hdeep]
          have hX : deepF l o R = (R.1, 12) := by unfold deepF; rw [if_pos ⟨next_now.2 hdeep.1, by omega⟩]
          have hst : ((R.1, 12) : St).2 ≠ 0 := by simp
          rw [hX, word_stuck l _ hst, parts_stuck hst]
          simp only
          rw [word_stuck l _ hst, one_stuck hst, cases_end (by simp)]
          exact ⟨rfl, fun e => absurd e hst⟩
        · rw [if_neg hdeep]
          have hX : deepF l o R = R := by
            unfold deepF; rw [if_neg]; rintro ⟨e1, e2⟩; exact hdeep ⟨next_now.1 e1, by omega⟩
          rw [hX]
          have hgW := ge_word l [123] R
          have hWo : o + 1 ≤ 32 ∨ (wordF l [123] R).2 ≠ 0 := by
            by_cases hn : nowF l R = some 123
            · left; rcases Nat.lt_or_ge o 32 with hlt | hge
              · omega
              · exact absurd ⟨hn, hge⟩ hdeep
            · right; rw [word_fail hn]; exact fail_ne l R
          have hWadv : (wordF l [123] R).2 = 0 → R.1 + 1 ≤ (wordF l [123] R).1 := word_adv
          have hWl : (wordF l [123] R).2 = 0 → R.2 = 0 := hgW.live
          have hwW := hgW.2.1 hwR
          have hgW1 := hgW.1
          generalize wordF l [123] R = W at *
          have hi := (ih (n - 1) hn1).1 (o + 1) h [] W g' f' hwW hWo (fun e => by have := hWadv e; omega) (.inl (fun x hx => by cases hx))
          have he0 : ∀ T, endO l (o + 1) T = T := fun T => by unfold endO; rw [if_neg (by omega)]
          rw [he0] at hi
          have hgP := ge_parts l g' h (o + 1) [] W
          generalize dPartsL l f' (o + 1) h [] W = rd at *
          generalize partsL l g' h (o + 1) [] W = rp at *
          obtain ⟨xd, Vd⟩ := rd
          obtain ⟨xp, V⟩ := rp
          simp only at hi hgP ⊢
          obtain ⟨e1, e2⟩ := hi
          subst e1
          have hgE := ge_word l [125] Vd
          have hwE := hgE.2.1 (hgP.2.1 hwW)
          have hgE1 := hgE.1
          have hgP1 := hgP.1
          have hsame : (wordF l [125] Vd).2 = 0 → (Cs.mk (ba kd) xd) = .mk (ba kp) xp := fun e => by
            have hV := hgE.live e
            rw [e2 hV, hval (hWl (hgP.live hV))]
          generalize wordF l [125] Vd = E at *
          by_cases hE : nowF l E = some 125
          · rw [if_pos hE]
            have ho : oneF l [32, 125] E = ([125], (E.1 + 1, 0)) := by
              obtain ⟨q0, q1⟩ := now_live hE
              unfold oneF; rw [if_pos q0, q1]; simp
            rw [ho, cases_end (by simp)]
            exact ⟨rfl, fun _ => by simp only; rw [hsame (now_live hE).1]⟩
          · rw [if_neg hE, one_same hE]
            by_cases hEl : E.2 = 0
            · rw [hsame hEl]
              exact (ih (n - 1) hn1).2 o h _ E g' f' hwE ho (fun _ => by omega)
            · rw [dCases_stuck hEl, one_stuck hEl, cases_end (by simp)]
              exact ⟨rfl, fun e => absurd e hEl⟩
      · have hst := fail_ne l S
        have ho : oneF l [32] S = ([], failF l S) := by
          unfold oneF
          rw [if_pos h0]
          cases hx : l[S.1]? with
          | none => rfl
          | some d =>
            simp only
            rw [if_neg]
            intro hd
            obtain rfl : d = 32 := by simpa using hd
            exact hsp (now_of h0 hx)
        rw [ho, cases_end (by simp), dCasesL, if_pos h0]
        simp only
        rw [word_fail hsp, key_stuck hst]
        simp only
        rw [word_stuck l _ hst, now_stuck hst, if_neg (by simp), word_stuck l _ hst, dParts_stuck hst]
        simp only
        rw [word_stuck l _ hst, now_stuck hst, if_neg (by simp), dCases_stuck hst]
        exact ⟨rfl, fun e => absurd e hst⟩
    · rw [one_stuck h0, cases_end (by simp), dCases_stuck h0]
      exact ⟨rfl, fun e => absurd e h0⟩

/-- The document's parts, and where its reader stands behind them. -/
def dReadF (l : List UInt8) : List Pt × St := dPartsL l (l.length + 1) 0 false [] (0, 0)
def dParse (l : List UInt8) : List Pt × Nat × Nat :=
  if 2000 < l.length then ([], 2, 0)
  else if (dReadF l).2.2 ≠ 0 then ([], (dReadF l).2.2, (dReadF l).2.1)
  else if rightE (dReadF l).1 ≠ 0 then ([], rightE (dReadF l).1, 0)
  else ((dReadF l).1, 0, 0)
theorem dRead_eq (l : List UInt8) : (dReadF l).2 = endF l (readF l).2 ∧ ((dReadF l).2.2 = 0 → (dReadF l).1 = (readF l).1) := by
  have := (doc_both l l.length).1 0 false [] (0, 0) (l.length + 1) (l.length + 1) ⟨Nat.zero_le _, .inl rfl⟩ (.inl (by omega)) (fun _ => by simp only; omega) (.inl (fun x hx => by cases hx))
  unfold endO at this
  rw [if_pos rfl] at this
  exact this
theorem dParse_eq (l : List UInt8) : dParse l = parseF l := by
  obtain ⟨h1, h2⟩ := dRead_eq l
  unfold dParse parseF
  rw [← h1]
  split
  · rfl
  · split
    · rfl
    · rename_i h
      have h0 : (dReadF l).2.2 = 0 := by simpa using h
      rw [h2 h0]
end Go.Proofs.YtapnieogfddjkaaDoor
