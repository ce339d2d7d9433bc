/- The document's reader reads what the program's reads: rows and rules. -/
import Derived.Test.YtlgodcbffimcoaaDoorSo
namespace Go.Proofs.YtlgodcbffimcoaaDoor

def rLoop (l : List UInt8) : Nat → Rule → List Rl → St → Bool → Rule × St × Bool
  | 0, done, cur, S, b => (done ++ [cur], S, b)
  | f + 1, done, cur, S, b =>
    if S.2 = false ∧ S.1 < l.length then
      if nowF l (wordF l [32] S) = some 97 then
        rLoop l f done (cur ++ [(rRel l (wordF l [97, 110, 100, 32] (wordF l [32] S)) b).1]) (rRel l (wordF l [97, 110, 100, 32] (wordF l [32] S)) b).2.1 (rRel l (wordF l [97, 110, 100, 32] (wordF l [32] S)) b).2.2
      else
        rLoop l f (done ++ [cur]) [(rRel l (wordF l [111, 114, 32] (wordF l [32] S)) b).1] (rRel l (wordF l [111, 114, 32] (wordF l [32] S)) b).2.1 (rRel l (wordF l [111, 114, 32] (wordF l [32] S)) b).2.2
    else (done ++ [cur], S, b)
def rRule (l : List UInt8) : Rule × St × Bool := rLoop l l.length [] [(rRel l (0, false) true).1] (rRel l (0, false) true).2.1 (rRel l (0, false) true).2.2

theorem wordD (l : List UInt8) (c : UInt8) (r : List UInt8) (a : Nat) : wordF l (c :: r) (a, true) = (a, true) := word_stuck l _ a
theorem spanD (l : List UInt8) (a : Nat) : spanF l (a, true) = (⟨0, 0⟩, (a, true)) := by
  unfold spanF
  have : numF l (a, true) = (0, (a, true)) := by unfold numF; rfl
  rw [this]
  have h2 : nextF l [46] (a, true) = false := rfl
  simp [h2]
theorem rowLD (l : List UInt8) (a : Nat) (f : Nat) (xs : List Rl) : rowL l f xs (a, true) = (xs, (a, true)) := by
  cases f with
  | zero => rw [rowL]
  | succ f => rw [rowL]; rfl
theorem spansLD (l : List UInt8) (a : Nat) (f : Nat) (xs : List Sp) : spansL l f xs (a, true) = (xs, (a, true)) := by
  cases f with
  | zero => rw [spansL]
  | succ f => rw [spansL]; rfl
theorem relD (l : List UInt8) (a : Nat) : (relF l (a, true)).2 = (a, true) := by
  have h1 : modF l (a, true) = (0, (a, true)) := rfl
  have h2 : negF l (a, true) = (false, (a, true)) := by
    unfold negF
    rw [if_neg (by intro e; cases e), wordD]
  unfold relF
  simp only [wordD, h1, h2]
  unfold spansF
  rw [spanD, spansLD]
theorem rowD (l : List UInt8) (a : Nat) : (rowF l (a, true)).2 = (a, true) := by unfold rowF; rw [relD, rowLD]
theorem ruleLD (l : List UInt8) (a : Nat) (f : Nat) (xs : Rule) : ruleL l f xs (a, true) = (xs, (a, true)) := by
  cases f with
  | zero => rw [ruleL]
  | succ f => rw [ruleL, if_neg (by simp)]
theorem rowL_no' {l : List UInt8} {f : Nat} {xs : List Rl} {S : St} (h : nextF l [32, 97] S = false) : rowL l f xs S = (xs, S) := by
  cases f with
  | zero => rw [rowL]
  | succ f => rw [rowL, h]; rfl
theorem ruleL_no' {l : List UInt8} {f : Nat} {xs : Rule} {S : St} (h : ¬ (S.2 = false ∧ S.1 < l.length)) : ruleL l f xs S = (xs, S) := by
  cases f with
  | zero => rw [ruleL]
  | succ f => rw [ruleL, if_neg h]
/-- A word either takes a byte or gets stuck at once. -/
theorem word_adv (l : List UInt8) (c : UInt8) (r : List UInt8) (a : Nat) : (wordF l (c :: r) (a, false)) = (a, true) ∨ a + 1 ≤ (wordF l (c :: r) (a, false)).1 := by
  cases hb : nextF l [c] (a, false) with
  | true => right; exact word_on (u := r) hb
  | false => left; rw [wordF, hb]; rfl
theorem rel_adv (l : List UInt8) (c : UInt8) (r : List UInt8) (a : Nat) : (relF l (wordF l (c :: r) (a, false))).2.2 = true ∨ a + 1 ≤ (relF l (wordF l (c :: r) (a, false))).2.1 := by
  rcases word_adv l c r a with h | h
  · left; rw [h, relD]
  · right; exact Nat.le_trans h (ge_rel l _).1
theorem loop_agr (l : List UInt8) : ∀ (f fr fu : Nat) (d e : Rule) (c k : List Rl) (S T : St) (b : Bool), (T.2 = false → l.length - T.1 ≤ f) → (T.2 = false → l.length - T.1 ≤ fr) → (T.2 = false → l.length - T.1 ≤ fu) → Agr l (d, c) S (e, k) T →
    (rLoop l f d c S b).2.1 = (ruleL l fu (e ++ [(rowL l fr k T).1]) (rowL l fr k T).2).2 ∧ ((rLoop l f d c S b).2.1.2 = false → (rLoop l f d c S b).1 = (ruleL l fu (e ++ [(rowL l fr k T).1]) (rowL l fr k T).2).1) := by
  intro f
  induction f with
  | zero =>
    intro fr fu d e c k S T b hf hfr hfu h
    obtain ⟨a, st⟩ := T
    cases st with
    | true =>
      have hS : S = (a, true) := h.1.trans (gd_stuck l a)
      subst hS
      rw [rLoop, rowLD, ruleLD]
      exact ⟨rfl, fun q => by cases q⟩
    | false =>
      have hge : l.length ≤ a := by have := hf rfl; simp only at this; omega
      have hS : S = (a, false) := by
        rw [h.1]; unfold gd; rw [if_neg]
        rintro ⟨-, c, hc, -⟩
        have := get_lt hc; simp only at this; omega
      subst hS
      have hv := h.2 rfl
      injection hv with hv1 hv2
      subst hv1; subst hv2
      rw [rLoop, rowL_no' (next_end hge), ruleL_no' (by simp only; omega)]
      exact ⟨rfl, fun _ => rfl⟩
  | succ f ih =>
    intro fr fu d e c k S T b hf hfr hfu h
    obtain ⟨a, st⟩ := T
    cases st with
    | true =>
      have hS : S = (a, true) := h.1.trans (gd_stuck l a)
      subst hS
      rw [rLoop, if_neg (by simp), rowLD, ruleLD]
      exact ⟨rfl, fun q => by cases q⟩
    | false =>
      by_cases hlt : a < l.length
      · have hf1 := hf rfl
        have hfr1 := hfr rfl
        have hfu1 := hfu rfl
        simp only at hf1 hfr1 hfu1
        by_cases hdg : ∃ x, l[a]? = some x ∧ isDg x = true
        · have hS : S = (a, true) := by rw [h.1]; unfold gd; rw [if_pos ⟨rfl, hdg⟩]
          subst hS
          obtain ⟨x, hx, hd⟩ := hdg
          have hne : ∀ (c : UInt8) (r : List UInt8), isDg c = false → nextF l (c :: r) (a, false) = false := fun c r hc => by
            cases hb : nextF l (c :: r) (a, false) with
            | false => rfl
            | true => have := (next_in hb).2; rw [hx] at this; obtain rfl := Option.some.inj this; rw [hc] at hd; cases hd
          obtain ⟨fu, rfl⟩ : ∃ g, fu = g + 1 := ⟨fu - 1, by omega⟩
          rw [rLoop, if_neg (by simp), rowL_no' (hne 32 [97] rfl), ruleL, if_pos ⟨rfl, hlt⟩]
          have hw : wordF l [32, 111, 114, 32] (a, false) = (a, true) := by rw [wordF, hne 32 [] rfl]; rfl
          rw [hw, rowD, ruleLD]
          exact ⟨rfl, fun q => by cases q⟩
        · have hS : S = (a, false) := by rw [h.1]; unfold gd; rw [if_neg (fun q => hdg q.2)]
          subst hS
          have hv := h.2 rfl
          injection hv with hv1 hv2
          subst hv1; subst hv2
          rw [rLoop, if_pos ⟨rfl, hlt⟩]
          by_cases hn : nextF l [32, 97] (a, false) = true
          · have hw : wordF l [97, 110, 100, 32] (wordF l [32] (a, false)) = wordF l [32, 97, 110, 100, 32] (a, false) := (word_app l [32] [97, 110, 100, 32] _).symm
            rw [if_pos (now_word.2 hn), hw]
            obtain ⟨fr, rfl⟩ : ∃ g, fr = g + 1 := ⟨fr - 1, by omega⟩
            obtain ⟨r1, r2⟩ := rel_agr l (wordF l [32, 97, 110, 100, 32] (a, false)) b
            have hadv := rel_adv l 32 [97, 110, 100, 32] a
            rw [rowL, hn, if_pos rfl]
            exact ih fr fu d d _ _ _ _ _ (fun q => by rcases hadv with z | z; (rw [q] at z; cases z); omega) (fun q => by rcases hadv with z | z; (rw [q] at z; cases z); omega) (fun q => by rcases hadv with z | z; (rw [q] at z; cases z); omega) ⟨r1, fun q => by rw [r2 q]⟩
          · have hn' : nextF l [32, 97] (a, false) = false := by simpa using hn
            have hw : wordF l [111, 114, 32] (wordF l [32] (a, false)) = wordF l [32, 111, 114, 32] (a, false) := (word_app l [32] [111, 114, 32] _).symm
            rw [if_neg (fun q => hn (now_word.1 q)), hw]
            obtain ⟨fu, rfl⟩ : ∃ g, fu = g + 1 := ⟨fu - 1, by omega⟩
            obtain ⟨r1, r2⟩ := rel_agr l (wordF l [32, 111, 114, 32] (a, false)) b
            have hadv := rel_adv l 32 [111, 114, 32] a
            rw [rowL_no' hn', ruleL, if_pos ⟨rfl, hlt⟩]
            dsimp only
            exact ih l.length fu (d ++ [c]) (d ++ [c]) _ _ _ _ _ (fun q => by rcases hadv with z | z; (rw [q] at z; cases z); omega) (fun q => by omega) (fun q => by rcases hadv with z | z; (rw [q] at z; cases z); omega) ⟨r1, fun q => by rw [r2 q]⟩
      · have hge : l.length ≤ a := by omega
        have hS : S = (a, false) := by
          rw [h.1]; unfold gd; rw [if_neg]
          rintro ⟨-, c, hc, -⟩
          have := get_lt hc; simp only at this; omega
        subst hS
        have hv := h.2 rfl
        injection hv with hv1 hv2
        subst hv1; subst hv2
        rw [rLoop, if_neg (by simp only; omega), rowL_no' (next_end hge), ruleL_no' (by simp only; omega)]
        exact ⟨rfl, fun _ => rfl⟩
theorem rule_agr (l : List UInt8) : (rRule l).2.1 = (ruleF l (0, false)).2 ∧ ((rRule l).2.1.2 = false → (rRule l).1 = (ruleF l (0, false)).1) := by
  obtain ⟨h1, h2⟩ := rel_agr l (0, false) true
  have := loop_agr l l.length l.length l.length [] [] [(rRel l (0, false) true).1] [(relF l (0, false)).1] (rRel l (0, false) true).2.1 (relF l (0, false)).2 (rRel l (0, false) true).2.2 (fun _ => by omega) (fun _ => by omega) (fun _ => by omega) ⟨h1, fun q => by rw [h2 q]⟩
  unfold rRule ruleF rowF
  exact this
end Go.Proofs.YtlgodcbffimcoaaDoor
