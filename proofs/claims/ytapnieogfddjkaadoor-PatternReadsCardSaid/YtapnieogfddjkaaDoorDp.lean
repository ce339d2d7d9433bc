/- The document's reader: parts; it reads what the program's reads. -/
import Derived.Test.YtapnieogfddjkaaDoorDn
namespace Go.Proofs.YtapnieogfddjkaaDoor

def addF (acc : List Pt) (c : UInt8) : List Pt := match acc.getLast? with
  | some x => if x.k = 1 then acc.dropLast ++ [.mk x.k (ba (x.t.data.toList ++ [c])) x.n x.cs] else acc ++ [.mk 1 (ba [c]) (ba []) []]
  | none => acc ++ [.mk 1 (ba [c]) (ba []) []]
abbrev seT : List UInt8 := [115, 101, 108, 101, 99, 116, 44]
abbrev plT : List UInt8 := [112, 108, 117, 114, 97, 108, 44]
/-- What begins with a brace. -/
def dHoleG (l : List UInt8) (cf : Bool → St → List Cs × St) (h : Bool) (S : St) : Pt × St :=
  let N := dName l (S.1 + 1, 0)
  if nowF l N.2 = some 125 then (.mk 2 (ba []) (ba N.1) [], (N.2.1 + 1, 0))
  else if nowF l (wordF l [44, 32] N.2) = some 115 then (.mk 5 (ba []) (ba N.1) (cf h (wordF l seT (wordF l [44, 32] N.2))).1, (cf h (wordF l seT (wordF l [44, 32] N.2))).2)
  else (.mk 4 (ba []) (ba N.1) (cf true (wordF l plT (wordF l [44, 32] N.2))).1, (cf true (wordF l plT (wordF l [44, 32] N.2))).2)
def isSp (d : UInt8) : Prop := d = 39 ∨ d = 123 ∨ d = 125 ∨ d = 35
instance (d : UInt8) : Decidable (isSp d) := by unfold isSp; infer_instance
mutual
def dPartsL (l : List UInt8) : Nat → Nat → Bool → List Pt → St → List Pt × St
  | 0, _, _, acc, S => (acc, S)
  | f + 1, o, h, acc, S => match nowF l S with
    | none => (acc, S)
    | some c =>
      if c = 125 ∧ 0 < o then (acc, S)
      else if c = 125 ∨ (c = 35 ∧ h = false) then (acc, failF l S)
      else if c = 123 then dPartsL l f o h (acc ++ [(dHoleG l (fun h S => dCasesL l f o h [] S) h S).1]) (dHoleG l (fun h S => dCasesL l f o h [] S) h S).2
      else if c = 35 then dPartsL l f o h (acc ++ [.mk 3 (ba []) (ba []) []]) (S.1 + 1, 0)
      else if c = 39 then
        (match nowF l (S.1 + 1, 0) with
        | some d => if isSp d then dPartsL l f o h (addF acc d) (if d = 39 then (S.1 + 2, 0) else wordF l [39] (S.1 + 2, 0)) else (acc, failF l (S.1 + 1, 0))
        | none => (acc, failF l (S.1 + 1, 0)))
      else dPartsL l f o h (addF acc c) (S.1 + 1, 0)
def dCasesL (l : List UInt8) : Nat → Nat → Bool → List Cs → St → List Cs × St
  | 0, _, _, acc, S => (acc, S)
  | f + 1, o, h, acc, S =>
    if S.2 = 0 then
      let K := dKey l (wordF l [32] S)
      let R := wordF l [32] K.2
      if nowF l R = some 123 ∧ 32 ≤ o then (acc, (R.1, 12))
      else
        let P := dPartsL l f (o + 1) h [] (wordF l [123] R)
        let E := wordF l [125] P.2
        if nowF l E = some 125 then (acc ++ [.mk (ba K.1) P.1], (E.1 + 1, 0)) else dCasesL l f o h (acc ++ [.mk (ba K.1) P.1]) E
    else (acc, S)
end
theorem dParts_stuck {l : List UInt8} {f o : Nat} {h : Bool} {acc : List Pt} {S : St} (h0 : S.2 ≠ 0) : dPartsL l f o h acc S = (acc, S) := by
  cases f with
  | zero => rw [dPartsL]
  | succ f => rw [dPartsL, now_stuck h0]
theorem dCases_stuck {l : List UInt8} {f o : Nat} {h : Bool} {acc : List Cs} {S : St} (h0 : S.2 ≠ 0) : dCasesL l f o h acc S = (acc, S) := by
  cases f with
  | zero => rw [dCasesL]
  | succ f => rw [dCasesL, if_neg h0]
theorem parts_stuck {l : List UInt8} {f o : Nat} {h : Bool} {acc : List Pt} {S : St} (h0 : S.2 ≠ 0) : partsL l f h o acc S = (acc, S) := by
  cases f with
  | zero => rw [partsL]
  | succ f => rw [partsL, if_neg (fun e => h0 e.1)]
theorem cases_end {l : List UInt8} {f o : Nat} {h : Bool} {acc : List Cs} {b : List UInt8 × St} (hb : b.1 ≠ [32]) : casesL l f h o acc b = (acc, b.2) := by
  cases f with
  | zero => rw [casesL]
  | succ f => rw [casesL, if_neg hb]
abbrev tx (t : List UInt8) : Pt := .mk 1 (ba t) (ba []) []
theorem add_tx (acc : List Pt) (t : List UInt8) (c : UInt8) : addF (acc ++ [tx t]) c = acc ++ [tx (t ++ [c])] := by
  unfold addF; simp [Pt.k, Pt.t, Pt.n, Pt.cs]
theorem add_new {acc : List Pt} (h : ∀ x, acc.getLast? = some x → x.k ≠ 1) (c : UInt8) : addF acc c = acc ++ [tx [c]] := by
  unfold addF
  cases hl : acc.getLast? with
  | none => rfl
  | some x => simp only; rw [if_neg (h x hl)]
/-- Where a text ends. -/
def Stop (l : List UInt8) (S : St) : Prop := S.2 = 0 → ∀ c, l[S.1]? = some c → c = 123 ∨ c = 125 ∨ c = 35
theorem wf_next {l : List UInt8} {S : St} {c : UInt8} (h : nowF l S = some c) : Wf l (S.1 + 1, 0) := ⟨get_lt (now_live h).2, .inl rfl⟩
theorem text_none {l : List UInt8} {f : Nat} {acc : List UInt8} {S : St} (h : nowF l S = none) : textL l f acc S = (acc, S) := by
  cases f with
  | zero => rw [textL]
  | succ f =>
    rw [textL]
    by_cases h0 : S.2 = 0
    · unfold nowF at h
      rw [if_pos h0] at h
      rw [if_pos h0, h]
    · rw [if_neg h0]
theorem text_some {l : List UInt8} {f : Nat} {acc : List UInt8} {S : St} {c : UInt8} (h : nowF l S = some c) : textL l (f + 1) acc S = if c = 123 ∨ c = 125 ∨ c = 35 then (acc, S) else if c = 39 then textL l f (acc ++ (quotF l S).1) (quotF l S).2 else textL l f (acc ++ [c]) (S.1 + 1, 0) := by
  obtain ⟨h0, hx⟩ := now_live h
  rw [textL, if_pos h0, hx]
theorem quot_is {l : List UInt8} {S : St} (h : nowF l S = some 39) : quotF l S = match nowF l (S.1 + 1, 0) with
    | some d => if isSp d then ([d], if d = 39 then (S.1 + 2, 0) else wordF l [39] (S.1 + 2, 0)) else ([], failF l (S.1 + 1, 0))
    | none => ([], failF l (S.1 + 1, 0)) := by
  unfold quotF
  rw [word_go h, wordF]
  have ho : oneF l [39, 123, 125, 35] (S.1 + 1, 0) = match nowF l (S.1 + 1, 0) with
      | some d => if isSp d then ([d], (S.1 + 2, 0)) else ([], failF l (S.1 + 1, 0))
      | none => ([], failF l (S.1 + 1, 0)) := by
    unfold oneF nowF
    simp only [if_true]
    cases hx : l[S.1 + 1]? with
    | none => rfl
    | some d =>
      simp only
      by_cases hd : isSp d
      · rw [if_pos hd, if_pos (by unfold isSp at hd; simpa using hd)]
      · rw [if_neg hd, if_neg (by unfold isSp at hd; simpa using hd)]
  rw [ho]
  cases hx : nowF l (S.1 + 1, 0) with
  | none => simp only; rw [if_neg (by simp), word_stuck l _ (fail_ne l _)]
  | some d =>
    simp only
    by_cases hd : isSp d
    · rw [if_pos hd, if_pos hd]
      simp only
      by_cases h39 : d = 39
      · subst h39; rw [if_pos rfl, if_pos rfl]
      · rw [if_neg (by simpa using h39), if_neg h39]
    · rw [if_neg hd, if_neg hd]
      simp only
      rw [if_neg (by simp), word_stuck l _ (fail_ne l _)]
theorem ge_spot {l : List UInt8} {S : St} {d : UInt8} (h : nowF l (S.1 + 1, 0) = some d) : Wf l (if d = 39 then (S.1 + 2, 0) else wordF l [39] (S.1 + 2, 0)) ∧ S.1 + 2 ≤ (if d = 39 then ((S.1 + 2, 0) : St) else wordF l [39] (S.1 + 2, 0)).1 := by
  have hw : Wf l (S.1 + 2, 0) := wf_next h
  by_cases h39 : d = 39
  · rw [if_pos h39]; exact ⟨hw, Nat.le_refl _⟩
  · rw [if_neg h39]; exact ⟨(ge_word l [39] _).2.1 hw, (ge_word l [39] (S.1 + 2, 0)).1⟩
/-- A text that is under way. -/
theorem run_text {l : List UInt8} (o : Nat) (h : Bool) (acc : List Pt) : ∀ (g : Nat) (t : List UInt8) (S : St) (f : Nat), Wf l S → (S.2 = 0 → l.length - S.1 < f) → (S.2 = 0 → l.length - S.1 ≤ g) →
    Wf l (textL l g t S).2 ∧ S.1 ≤ (textL l g t S).2.1 ∧ (((textL l g t S).2.2 ≠ 0 ∧ (dPartsL l f o h (acc ++ [tx t]) S).2 = (textL l g t S).2) ∨
      ((textL l g t S).2.2 = 0 ∧ Stop l (textL l g t S).2 ∧ ∃ f', l.length - (textL l g t S).2.1 < f' ∧ dPartsL l f o h (acc ++ [tx t]) S = dPartsL l f' o h (acc ++ [tx (textL l g t S).1]) (textL l g t S).2))
  | g, t, S, f, hS, hf, hg => by
    cases hn : nowF l S with
    | none =>
      rw [text_none hn]
      refine ⟨hS, Nat.le_refl _, ?_⟩
      by_cases h0 : S.2 = 0
      · refine .inr ⟨h0, fun _ c hc => ?_, f, hf h0, rfl⟩
        rw [now_of h0 hc] at hn; cases hn
      · exact .inl ⟨h0, by rw [dParts_stuck h0]⟩
    | some c =>
      obtain ⟨h0, hx⟩ := now_live hn
      have hlt := get_lt hx
      have h1 := hf h0
      have h2 := hg h0
      obtain ⟨g', rfl⟩ : ∃ g', g = g' + 1 := ⟨g - 1, by omega⟩
      obtain ⟨f', rfl⟩ : ∃ f', f = f' + 1 := ⟨f - 1, by omega⟩
      rw [text_some hn]
      by_cases hc : c = 123 ∨ c = 125 ∨ c = 35
      · rw [if_pos hc]
        refine ⟨hS, Nat.le_refl _, .inr ⟨h0, fun _ d hd => ?_, f' + 1, h1, rfl⟩⟩
        rw [hx] at hd; obtain rfl := Option.some.inj hd; exact hc
      · rw [if_neg hc]
        have n1 : c ≠ 123 := fun e => hc (.inl e)
        have n2 : c ≠ 125 := fun e => hc (.inr (.inl e))
        have n3 : c ≠ 35 := fun e => hc (.inr (.inr e))
        have hD : dPartsL l (f' + 1) o h (acc ++ [tx t]) S = if c = 39 then
            (match nowF l (S.1 + 1, 0) with
            | some d => if isSp d then dPartsL l f' o h (acc ++ [tx (t ++ [d])]) (if d = 39 then (S.1 + 2, 0) else wordF l [39] (S.1 + 2, 0)) else (acc ++ [tx t], failF l (S.1 + 1, 0))
            | none => (acc ++ [tx t], failF l (S.1 + 1, 0)))
          else dPartsL l f' o h (acc ++ [tx (t ++ [c])]) (S.1 + 1, 0) := by
          rw [dPartsL, hn]
          simp only
          rw [if_neg (fun e => n2 e.1), if_neg (fun e => by rcases e with e | e; exact n2 e; exact n3 e.1), if_neg n1, if_neg n3, add_tx]
          by_cases hq : c = 39
          · rw [if_pos hq, if_pos hq]
            cases nowF l (S.1 + 1, 0) with
            | none => rfl
            | some d => simp only; rw [add_tx]
          · rw [if_neg hq, if_neg hq]
        rw [hD]
        by_cases hq : c = 39
        · subst hq
          rw [if_pos rfl, if_pos rfl, quot_is hn]
          cases hd : nowF l (S.1 + 1, 0) with
          | none =>
            simp only
            have hst := fail_ne l (S.1 + 1, 0)
            have hw : Wf l (failF l (S.1 + 1, 0)) := (ge_fail l _).2.1 (wf_next hn)
            have := run_text o h acc g' (t ++ []) (failF l (S.1 + 1, 0)) f' hw (fun e => absurd e hst) (fun e => absurd e hst)
            have ht : textL l g' (t ++ []) (failF l (S.1 + 1, 0)) = (t ++ [], failF l (S.1 + 1, 0)) := text_none (now_stuck hst)
            rw [ht]
            exact ⟨hw, by rw [fail_fst]; exact Nat.le_succ _, .inl ⟨hst, rfl⟩⟩
          | some d =>
            simp only
            by_cases hsp : isSp d
            · rw [if_pos hsp, if_pos hsp]
              simp only
              obtain ⟨hw, hge⟩ := ge_spot hd
              have hlt2 := get_lt (now_live hd).2
              have hle := hw.1
              simp only at hlt2
              obtain ⟨i1, i2, i3⟩ := run_text o h acc g' (t ++ [d]) _ f' hw (fun _ => by omega) (fun _ => by omega)
              exact ⟨i1, by omega, i3⟩
            · rw [if_neg hsp, if_neg hsp]
              simp only
              have hst := fail_ne l (S.1 + 1, 0)
              have hw : Wf l (failF l (S.1 + 1, 0)) := (ge_fail l _).2.1 (wf_next hn)
              have ht : textL l g' (t ++ []) (failF l (S.1 + 1, 0)) = (t ++ [], failF l (S.1 + 1, 0)) := text_none (now_stuck hst)
              rw [ht]
              exact ⟨hw, by rw [fail_fst]; exact Nat.le_succ _, .inl ⟨hst, rfl⟩⟩
        · rw [if_neg hq, if_neg hq]
          obtain ⟨i1, i2, i3⟩ := run_text o h acc g' (t ++ [c]) (S.1 + 1, 0) f' (wf_next hn) (fun _ => by simp only; omega) (fun _ => by simp only; omega)
          exact ⟨i1, by simp only at i2; omega, i3⟩
  termination_by g => g
end Go.Proofs.YtapnieogfddjkaaDoor
