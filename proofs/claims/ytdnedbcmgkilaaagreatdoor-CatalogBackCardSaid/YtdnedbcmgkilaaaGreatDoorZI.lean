/- The document's reader in its own shape: names, numbers. -/
import Derived.Test.YtdnedbcmgkilaaaGreatDoorZA

section

namespace Go.Proofs.YtdnedbcmgkilaaaGreatDoor

def nowF (l : List UInt8) (S : St) : Option UInt8 := if S.2 = 0 then l[S.1]? else none
/-- Bytes that may stand in a word, as long as the word may be. -/
def runL (l : List UInt8) (w : UInt8 → Bool) (p : List UInt8 → Bool) : Nat → List UInt8 → St → List UInt8 × St
  | 0, acc, S => (acc, S)
  | f + 1, acc, S => match nowF l S with
    | some c => if w c then (if p (acc ++ [c]) then runL l w p f (acc ++ [c]) (S.1 + 1, 0) else ([], failF l S)) else (acc, S)
    | none => (acc, S)
def isNow (l : List UInt8) (w : UInt8 → Bool) (S : St) : Bool := match nowF l S with | some c => w c | none => false
def dName (l : List UInt8) (S : St) : List UInt8 × St := runL l isWrd nameB 33 [] (if isNow l isLet S then S else failF l S)
def dDig (l : List UInt8) (S : St) : List UInt8 × St := runL l isDig numB 33 [] S
def dKey (l : List UInt8) (S : St) : List UInt8 × St :=
  if nowF l S = some 61 then
    (if isNow l isDig (S.1 + 1, 0) then (if (dDig l (S.1 + 1, 0)).2.2 = 0 then 61 :: (dDig l (S.1 + 1, 0)).1 else [], (dDig l (S.1 + 1, 0)).2)
     else ([61], failF l (S.1 + 1, 0)))
  else dName l S

theorem now_live {l : List UInt8} {S : St} {c : UInt8} (h : nowF l S = some c) : S.2 = 0 ∧ l[S.1]? = some c := by
  unfold nowF at h; split at h
  · rename_i h0; exact ⟨h0, h⟩
  · cases h
theorem now_of {l : List UInt8} {S : St} {c : UInt8} (h0 : S.2 = 0) (h : l[S.1]? = some c) : nowF l S = some c := by unfold nowF; rw [if_pos h0, h]
theorem now_stuck {l : List UInt8} {S : St} (h : S.2 ≠ 0) : nowF l S = none := by unfold nowF; rw [if_neg h]
theorem next_now {l : List UInt8} {S : St} {c : UInt8} : nextF l [c] S = true ↔ nowF l S = some c := by
  rw [next_iff]
  constructor
  · intro h; exact now_of h.1 h.2
  · intro h; exact now_live h
theorem next_not {l : List UInt8} {S : St} {c : UInt8} (h : nowF l S ≠ some c) : nextF l [c] S = false := by
  cases hn : nextF l [c] S with
  | false => rfl
  | true => exact absurd (next_now.1 hn) h
theorem word_fail {l r : List UInt8} {S : St} {c : UInt8} (h : nowF l S ≠ some c) : wordF l (c :: r) S = failF l S := by
  by_cases h0 : S.2 = 0
  · rw [wordF]
    have : (oneF l [c] S).2 = failF l S := by
      unfold oneF
      rw [if_pos h0]
      cases hx : l[S.1]? with
      | none => rfl
      | some d =>
        simp only
        rw [if_neg]
        intro hd
        obtain rfl : d = c := by simpa using hd
        exact h (now_of h0 hx)
    rw [this, word_stuck l r (fail_ne l S)]
  · rw [word_stuck l _ h0, fail_stuck h0]
theorem word_go {l r : List UInt8} {S : St} {c : UInt8} (h : nowF l S = some c) : wordF l (c :: r) S = wordF l r (S.1 + 1, 0) := word_yes (next_now.2 h)
theorem run_stuck {l : List UInt8} {w : UInt8 → Bool} {p : List UInt8 → Bool} {f : Nat} {acc : List UInt8} {S : St} (h : S.2 ≠ 0) : runL l w p f acc S = (acc, S) := by
  cases f with
  | zero => rw [runL]
  | succ f => rw [runL, now_stuck h]
theorem fail_live {l : List UInt8} {S : St} {c : UInt8} (h : nowF l S = some c) : failF l S = (S.1, 90) := by
  obtain ⟨h0, hx⟩ := now_live h
  have := get_lt hx
  unfold failF; rw [if_pos h0, if_neg (by omega)]

/-- What the document's word and the program's have in common. -/
def Gd (l : List UInt8) (D P : List UInt8 × St) : Prop :=
  (D.2 = P.2 ∧ (D.2.2 = 0 → D.1 = P.1)) ∨ (P.2.2 = 0 ∧ D.2 = failF l P.2 ∧ ∃ c, l[P.2.1]? = some c ∧ isWrd c = true)

theorem run_at {l : List UInt8} {w : UInt8 → Bool} {p : List UInt8 → Bool} (hw : ∀ acc c, p (acc ++ [c]) = true → w c = true) {a n : Nat} (hn : longN p (l.drop a) l.length 0 = n) :
    ∀ (d k f : Nat), k + d = n → d < f → runL l w p f ((l.drop a).take k) (a + k, 0) = if isNow l w (a + n, 0) then ([], failF l (a + n, 0)) else ((l.drop a).take n, (a + n, 0))
  | d, k, 0, _, hf => by omega
  | d, k, f + 1, hk, hf => by
    have hle := (longN_le p (l.drop a) l.length 0 (Nat.zero_le _)).2
    rw [hn] at hle
    have hdl : (l.drop a).length = l.length - a := by simp
    have hstep : ∀ c, (l.drop a)[k]? = some c → (l.drop a).take k ++ [c] = (l.drop a).take (k + 1) := fun c hc => by
      obtain ⟨hlt, hx⟩ := List.getElem?_eq_some_iff.1 hc
      rw [List.take_succ_eq_append_getElem hlt, hx]
    have hget : (l.drop a)[k]? = l[a + k]? := by simp
    rw [runL]
    by_cases hkn : k < n
    · have hlt : k < (l.drop a).length := by omega
      obtain ⟨c, hc⟩ : ∃ c, (l.drop a)[k]? = some c := ⟨_, List.getElem?_eq_getElem hlt⟩
      have hp := longN_yes p (l.drop a) l.length 0 k (Nat.zero_le _) (by rw [hn]; exact hkn)
      rw [← hstep c hc] at hp
      rw [now_of (S := (a + k, 0)) rfl (by rw [← hget]; exact hc)]
      simp only
      rw [if_pos (hw _ _ hp), if_pos hp, hstep c hc]
      exact run_at hw hn (d - 1) (k + 1) f (by omega) (by omega)
    · obtain rfl : k = n := by omega
      cases hc : (l.drop a)[k]? with
      | none =>
        have hno : nowF l (a + k, 0) = none := by unfold nowF; rw [if_pos rfl, ← hget, hc]
        rw [hno]
        simp only [isNow, hno, Bool.false_eq_true, if_false]
      | some c =>
        have hso : nowF l (a + k, 0) = some c := now_of rfl (by rw [← hget]; exact hc)
        rw [hso]
        simp only [isNow, hso]
        by_cases hwc : w c = true
        · have hlt := (List.getElem?_eq_some_iff.1 hc).1
          have hp : p ((l.drop a).take (k + 1)) = false := by
            have := longN_end p (l.drop a) l.length 0 (by omega) (by rw [hn]; exact hlt)
            rw [hn] at this; exact this
          rw [← hstep c hc] at hp
          rw [if_pos hwc, if_neg (by rw [hp]; simp), if_pos hwc]
        · rw [if_neg hwc, if_neg hwc]
theorem long_doc {l : List UInt8} {w : UInt8 → Bool} {p : List UInt8 → Bool} {q : UInt8 → Bool} (hw : ∀ acc c, p (acc ++ [c]) = true → w c = true) (hq : ∀ c, p [c] = q c) (hqw : ∀ c, w c = true → isWrd c = true) (hb : ∀ t, p t = true → t.length < 33) (S : St) :
    Gd l (runL l w p 33 [] (if isNow l q S then S else failF l S)) (longF l p S) := by
  by_cases h0 : S.2 = 0
  · obtain ⟨a, s⟩ := S
    simp only at h0
    subst h0
    by_cases hn : isNow l q (a, 0) = true
    · rw [if_pos hn]
      obtain ⟨n, hN⟩ : ∃ n, longN p (l.drop a) l.length 0 = n := ⟨_, rfl⟩
      obtain ⟨c, hc, hqc⟩ : ∃ c, nowF l (a, 0) = some c ∧ q c = true := by
        unfold isNow at hn
        cases hx : nowF l (a, 0) with
        | none => rw [hx] at hn; cases hn
        | some c => rw [hx] at hn; exact ⟨c, rfl, hn⟩
      have hx := (now_live hc).2
      have hdc : l.drop a = c :: l.drop (a + 1) := by
        obtain ⟨hlt, he⟩ := List.getElem?_eq_some_iff.1 hx
        rw [List.drop_eq_getElem_cons hlt, he]
      have hle := longN_le p (l.drop a) l.length 0 (Nat.zero_le _)
      rw [hN] at hle
      have hn0 : n ≠ 0 := by
        intro e
        have := longN_end p (l.drop a) l.length 0 (by simp) (by rw [hN, e, hdc]; simp)
        rw [hN, e, hdc] at this
        simp only [Nat.zero_add, List.take_succ_cons, List.take_zero] at this
        rw [hq c, hqc] at this
        cases this
      have hnb : n < 33 := by
        have := longN_yes p (l.drop a) l.length 0 (n - 1) (Nat.zero_le _) (by rw [hN]; omega)
        have h2 := hb _ this
        rw [List.length_take] at h2
        omega
      have hR := run_at (l := l) (w := w) (p := p) hw hN n 0 33 (by omega) hnb
      simp only [List.take_zero, Nat.add_zero] at hR
      rw [hR]
      have hP : longF l p (a, 0) = ((l.drop a).take n, (a + n, 0)) := by unfold longF; rw [if_pos rfl]; simp only; rw [hN, if_neg hn0]
      rw [hP]
      by_cases he : isNow l w (a + n, 0) = true
      · rw [if_pos he]
        right
        refine ⟨rfl, rfl, ?_⟩
        unfold isNow at he
        cases hx : nowF l (a + n, 0) with
        | none => rw [hx] at he; cases he
        | some d => rw [hx] at he; exact ⟨d, (now_live hx).2, hqw d he⟩
      · rw [if_neg he]
        exact .inl ⟨rfl, fun _ => rfl⟩
    · rw [if_neg hn, run_stuck (fail_ne l _)]
      have hN : longN p (l.drop a) l.length 0 = 0 := by
        refine longN_is (by simp) (Nat.zero_le _) (fun j hj => by omega) (fun hlt => ?_)
        obtain ⟨c, r, hcr⟩ : ∃ c r, l.drop a = c :: r := by
          cases hd : l.drop a with
          | nil => rw [hd] at hlt; simp at hlt
          | cons c r => exact ⟨c, r, rfl⟩
        rw [hcr]
        simp only [Nat.zero_add, List.take_succ_cons, List.take_zero]
        rw [hq c]
        have hx : l[a]? = some c := by
          have : (l.drop a)[0]? = some c := by rw [hcr]; rfl
          simpa using this
        cases hqc : q c with
        | false => rfl
        | true => exact absurd (by unfold isNow; rw [now_of (S := (a, 0)) rfl hx]; exact hqc) hn
      have hP : longF l p (a, 0) = ([], failF l (a, 0)) := by unfold longF; rw [if_pos rfl]; simp only; rw [hN, if_pos rfl]
      rw [hP]
      exact .inl ⟨rfl, fun _ => rfl⟩
  · have hn : isNow l q S = false := by unfold isNow; rw [now_stuck h0]
    rw [hn, long_stuck h0]
    simp only [Bool.false_eq_true, if_false]
    rw [fail_stuck h0, run_stuck h0]
    exact .inl ⟨rfl, fun _ => rfl⟩
theorem dig_wrd (c : UInt8) (h : isDig c = true) : isWrd c = true := by unfold isWrd; simp [h]
theorem name_doc (l : List UInt8) (S : St) : Gd l (dName l S) (longF l nameB S) := by
  refine long_doc (q := isLet) (fun acc c h => ?_) (fun c => ?_) (fun c h => h) (fun t h => ?_) S
  · cases acc with
    | nil => simp only [List.nil_append, nameB, List.all_cons, Bool.and_eq_true] at h; exact h.2.1
    | cons d r =>
      simp only [List.cons_append, nameB, List.all_cons, List.all_append, Bool.and_eq_true] at h
      exact h.2.2.2.1
  · simp only [nameB, List.all_cons, List.all_nil, List.length_nil]
    by_cases hl : isLet c = true
    · have : isWrd c = true := by unfold isWrd; simp [hl]
      simp [hl, this]
    · simp [hl]
  · cases t with
    | nil => simp [nameB] at h
    | cons d r => simp only [nameB, Bool.and_eq_true, decide_eq_true_eq] at h; simp only [List.length_cons]; omega
theorem dig_doc (l : List UInt8) (S : St) : Gd l (runL l isDig numB 33 [] (if isNow l isDig S then S else failF l S)) (longF l numB S) := by
  refine long_doc (q := isDig) (fun acc c h => ?_) (fun c => ?_) (fun c h => dig_wrd c h) (fun t h => ?_) S
  · cases acc with
    | nil => simp only [List.nil_append, numB, List.all_cons, Bool.and_eq_true] at h; exact h.1.1.1.1
    | cons d r =>
      simp only [List.cons_append, numB, List.all_cons, List.all_append, Bool.and_eq_true] at h
      exact h.1.1.1.2.2.1
  · simp only [numB, List.all_cons, List.all_nil, List.length_nil, List.isEmpty_nil, Bool.or_true, Bool.and_true, List.foldl_cons, List.foldl_nil]
    have hc := c.toNat_lt
    have : nx 0 c ≤ 1000000 := by unfold nx; omega
    simp [this]
  · cases t with
    | nil => simp [numB] at h
    | cons d r => simp only [numB, Bool.and_eq_true, decide_eq_true_eq] at h; simp only [List.length_cons]; omega
theorem key_doc (l : List UInt8) (S : St) : Gd l (dKey l S) (keyF l S) := by
  unfold dKey keyF
  by_cases h : nowF l S = some 61
  · rw [if_pos h, if_pos (next_now.2 h), word_go h]
    show Gd l _ ([61] ++ (longF l numB (wordF l [] (S.1 + 1, 0))).1, (longF l numB (wordF l [] (S.1 + 1, 0))).2)
    rw [wordF]
    have hd := dig_doc l (S.1 + 1, 0)
    by_cases hn : isNow l isDig (S.1 + 1, 0) = true
    · rw [if_pos hn] at hd ⊢
      unfold dDig
      rcases hd with ⟨h1, h2⟩ | ⟨h1, h2, h3⟩
      · exact .inl ⟨h1, fun h4 => by simp only at h4 ⊢; rw [if_pos h4, h2 h4]; rfl⟩
      · exact .inr ⟨h1, h2, h3⟩
    · rw [if_neg hn] at hd ⊢
      rw [run_stuck (fail_ne l _)] at hd
      rcases hd with ⟨h1, h2⟩ | ⟨h1, h2, h3⟩
      · exact .inl ⟨h1, fun h4 => absurd h4 (fail_ne l _)⟩
      · exact .inr ⟨h1, h2, h3⟩
  · rw [if_neg h, if_neg (by rw [next_not h]; simp)]
    exact name_doc l S
theorem Gd.word {l : List UInt8} {D P : List UInt8 × St} (h : Gd l D P) {c : UInt8} {r : List UInt8} (hc : isWrd c = false) : wordF l (c :: r) D.2 = wordF l (c :: r) P.2 := by
  rcases h with ⟨h, -⟩ | ⟨h1, h2, d, h3, h4⟩
  · rw [h]
  · rw [h2, word_stuck l _ (fail_ne l _), word_fail]
    intro e
    have := (now_live e).2
    rw [h3] at this
    obtain rfl := Option.some.inj this
    rw [hc] at h4; cases h4
theorem Gd.val {l : List UInt8} {D P : List UInt8 × St} (h : Gd l D P) {c : UInt8} {r : List UInt8} (hw : (wordF l (c :: r) P.2).2 = 0) (hc : isWrd c = false) : D.1 = P.1 ∧ D.2 = P.2 := by
  rcases h with ⟨h, h'⟩ | ⟨h1, h2, d, h3, h4⟩
  · refine ⟨h' ?_, h⟩
    rw [h]; exact (ge_word l _ _).live hw
  · rw [word_fail] at hw
    · exact absurd hw (fail_ne l _)
    · intro e
      have := (now_live e).2
      rw [h3] at this
      obtain rfl := Option.some.inj this
      rw [hc] at h4; cases h4
end Go.Proofs.YtdnedbcmgkilaaaGreatDoor

end

/- The document's reader: parts; it reads what the program's reads. -/
section

namespace Go.Proofs.YtdnedbcmgkilaaaGreatDoor

def addF (acc : List Pt) (c : UInt8) : List Pt := match acc.getLast? with
  | some x => if x.k = 1 then acc.dropLast ++ [.mk x.k (ba (x.t.data.toList ++ [c])) x.n x.cs] else acc ++ [.mk 1 (ba [c]) (ba []) []]
  | none => acc ++ [.mk 1 (ba [c]) (ba []) []]
abbrev seT : List UInt8 := [115, 101, 108, 101, 99, 116, 44]
abbrev plT : List UInt8 := [112, 108, 117, 114, 97, 108, 44]
/-- What begins with a brace. -/
def dHoleG (l : List UInt8) (cf : Bool → St → List Cs × St) (h : Bool) (S : St) : Pt × St :=
  let N := dName l (S.1 + 1, 0)
  if nowF l N.2 = some 125 then (.mk 2 (ba []) (ba N.1) [], (N.2.1 + 1, 0))
  else if nowF l (wordF l [44, 32] N.2) = some 115 then (.mk 5 (ba []) (ba N.1) (cf h (wordF l seT (wordF l [44, 32] N.2))).1, (cf h (wordF l seT (wordF l [44, 32] N.2))).2)
  else (.mk 4 (ba []) (ba N.1) (cf true (wordF l plT (wordF l [44, 32] N.2))).1, (cf true (wordF l plT (wordF l [44, 32] N.2))).2)
def isSp (d : UInt8) : Prop := d = 39 ∨ d = 123 ∨ d = 125 ∨ d = 35
instance (d : UInt8) : Decidable (isSp d) := by unfold isSp; infer_instance
mutual
def dPartsL (l : List UInt8) : Nat → Nat → Bool → List Pt → St → List Pt × St
  | 0, _, _, acc, S => (acc, S)
  | f + 1, o, h, acc, S => match nowF l S with
    | none => (acc, S)
    | some c =>
      if c = 125 ∧ 0 < o then (acc, S)
      else if c = 125 ∨ (c = 35 ∧ h = false) then (acc, failF l S)
      else if c = 123 then dPartsL l f o h (acc ++ [(dHoleG l (fun h S => dCasesL l f o h [] S) h S).1]) (dHoleG l (fun h S => dCasesL l f o h [] S) h S).2
      else if c = 35 then dPartsL l f o h (acc ++ [.mk 3 (ba []) (ba []) []]) (S.1 + 1, 0)
      else if c = 39 then
        (match nowF l (S.1 + 1, 0) with
        | some d => if isSp d then dPartsL l f o h (addF acc d) (if d = 39 then (S.1 + 2, 0) else wordF l [39] (S.1 + 2, 0)) else (acc, failF l (S.1 + 1, 0))
        | none => (acc, failF l (S.1 + 1, 0)))
      else dPartsL l f o h (addF acc c) (S.1 + 1, 0)
def dCasesL (l : List UInt8) : Nat → Nat → Bool → List Cs → St → List Cs × St
  | 0, _, _, acc, S => (acc, S)
  | f + 1, o, h, acc, S =>
    if S.2 = 0 then
      let K := dKey l (wordF l [32] S)
      let R := wordF l [32] K.2
      if nowF l R = some 123 ∧ 32 ≤ o then (acc, (R.1, 12))
      else
        let P := dPartsL l f (o + 1) h [] (wordF l [123] R)
        let E := wordF l [125] P.2
        if nowF l E = some 125 then (acc ++ [.mk (ba K.1) P.1], (E.1 + 1, 0)) else dCasesL l f o h (acc ++ [.mk (ba K.1) P.1]) E
    else (acc, S)
end
theorem dParts_stuck {l : List UInt8} {f o : Nat} {h : Bool} {acc : List Pt} {S : St} (h0 : S.2 ≠ 0) : dPartsL l f o h acc S = (acc, S) := by
  cases f with
  | zero => rw [dPartsL]
  | succ f => rw [dPartsL, now_stuck h0]
theorem dCases_stuck {l : List UInt8} {f o : Nat} {h : Bool} {acc : List Cs} {S : St} (h0 : S.2 ≠ 0) : dCasesL l f o h acc S = (acc, S) := by
  cases f with
  | zero => rw [dCasesL]
  | succ f => rw [dCasesL, if_neg h0]
theorem parts_stuck {l : List UInt8} {f o : Nat} {h : Bool} {acc : List Pt} {S : St} (h0 : S.2 ≠ 0) : partsL l f h o acc S = (acc, S) := by
  cases f with
  | zero => rw [partsL]
  | succ f => rw [partsL, if_neg (fun e => h0 e.1)]
theorem cases_end {l : List UInt8} {f o : Nat} {h : Bool} {acc : List Cs} {b : List UInt8 × St} (hb : b.1 ≠ [32]) : casesL l f h o acc b = (acc, b.2) := by
  cases f with
  | zero => rw [casesL]
  | succ f => rw [casesL, if_neg hb]
abbrev tx (t : List UInt8) : Pt := .mk 1 (ba t) (ba []) []
theorem add_tx (acc : List Pt) (t : List UInt8) (c : UInt8) : addF (acc ++ [tx t]) c = acc ++ [tx (t ++ [c])] := by
  unfold addF; simp [Pt.k, Pt.t, Pt.n, Pt.cs]
theorem add_new {acc : List Pt} (h : ∀ x, acc.getLast? = some x → x.k ≠ 1) (c : UInt8) : addF acc c = acc ++ [tx [c]] := by
  unfold addF
  cases hl : acc.getLast? with
  | none => rfl
  | some x => simp only; rw [if_neg (h x hl)]
/-- Where a text ends. -/
def Stop (l : List UInt8) (S : St) : Prop := S.2 = 0 → ∀ c, l[S.1]? = some c → c = 123 ∨ c = 125 ∨ c = 35
theorem wf_next {l : List UInt8} {S : St} {c : UInt8} (h : nowF l S = some c) : Wf l (S.1 + 1, 0) := ⟨get_lt (now_live h).2, .inl rfl⟩
theorem text_none {l : List UInt8} {f : Nat} {acc : List UInt8} {S : St} (h : nowF l S = none) : textL l f acc S = (acc, S) := by
  cases f with
  | zero => rw [textL]
  | succ f =>
    rw [textL]
    by_cases h0 : S.2 = 0
    · unfold nowF at h
      rw [if_pos h0] at h
      rw [if_pos h0, h]
    · rw [if_neg h0]
theorem text_some {l : List UInt8} {f : Nat} {acc : List UInt8} {S : St} {c : UInt8} (h : nowF l S = some c) : textL l (f + 1) acc S = if c = 123 ∨ c = 125 ∨ c = 35 then (acc, S) else if c = 39 then textL l f (acc ++ (quotF l S).1) (quotF l S).2 else textL l f (acc ++ [c]) (S.1 + 1, 0) := by
  obtain ⟨h0, hx⟩ := now_live h
  rw [textL, if_pos h0, hx]
theorem quot_is {l : List UInt8} {S : St} (h : nowF l S = some 39) : quotF l S = match nowF l (S.1 + 1, 0) with
    | some d => if isSp d then ([d], if d = 39 then (S.1 + 2, 0) else wordF l [39] (S.1 + 2, 0)) else ([], failF l (S.1 + 1, 0))
    | none => ([], failF l (S.1 + 1, 0)) := by
  unfold quotF
  rw [word_go h, wordF]
  have ho : oneF l [39, 123, 125, 35] (S.1 + 1, 0) = match nowF l (S.1 + 1, 0) with
      | some d => if isSp d then ([d], (S.1 + 2, 0)) else ([], failF l (S.1 + 1, 0))
      | none => ([], failF l (S.1 + 1, 0)) := by
    unfold oneF nowF
    simp only [if_true]
    cases hx : l[S.1 + 1]? with
    | none => rfl
    | some d =>
      simp only
      by_cases hd : isSp d
      · rw [if_pos hd, if_pos (by unfold isSp at hd; simpa using hd)]
      · rw [if_neg hd, if_neg (by unfold isSp at hd; simpa using hd)]
  rw [ho]
  cases hx : nowF l (S.1 + 1, 0) with
  | none => simp only; rw [if_neg (by simp), word_stuck l _ (fail_ne l _)]
  | some d =>
    simp only
    by_cases hd : isSp d
    · rw [if_pos hd, if_pos hd]
      simp only
      by_cases h39 : d = 39
      · subst h39; rw [if_pos rfl, if_pos rfl]
      · rw [if_neg (by simpa using h39), if_neg h39]
    · rw [if_neg hd, if_neg hd]
      simp only
      rw [if_neg (by simp), word_stuck l _ (fail_ne l _)]
theorem ge_spot {l : List UInt8} {S : St} {d : UInt8} (h : nowF l (S.1 + 1, 0) = some d) : Wf l (if d = 39 then (S.1 + 2, 0) else wordF l [39] (S.1 + 2, 0)) ∧ S.1 + 2 ≤ (if d = 39 then ((S.1 + 2, 0) : St) else wordF l [39] (S.1 + 2, 0)).1 := by
  have hw : Wf l (S.1 + 2, 0) := wf_next h
  by_cases h39 : d = 39
  · rw [if_pos h39]; exact ⟨hw, Nat.le_refl _⟩
  · rw [if_neg h39]; exact ⟨(ge_word l [39] _).2.1 hw, (ge_word l [39] (S.1 + 2, 0)).1⟩
/-- A text that is under way. -/
theorem run_text {l : List UInt8} (o : Nat) (h : Bool) (acc : List Pt) : ∀ (g : Nat) (t : List UInt8) (S : St) (f : Nat), Wf l S → (S.2 = 0 → l.length - S.1 < f) → (S.2 = 0 → l.length - S.1 ≤ g) →
    Wf l (textL l g t S).2 ∧ S.1 ≤ (textL l g t S).2.1 ∧ (((textL l g t S).2.2 ≠ 0 ∧ (dPartsL l f o h (acc ++ [tx t]) S).2 = (textL l g t S).2) ∨
      ((textL l g t S).2.2 = 0 ∧ Stop l (textL l g t S).2 ∧ ∃ f', l.length - (textL l g t S).2.1 < f' ∧ dPartsL l f o h (acc ++ [tx t]) S = dPartsL l f' o h (acc ++ [tx (textL l g t S).1]) (textL l g t S).2))
  | g, t, S, f, hS, hf, hg => by
    cases hn : nowF l S with
    | none =>
      rw [text_none hn]
      refine ⟨hS, Nat.le_refl _, ?_⟩
      by_cases h0 : S.2 = 0
      · refine .inr ⟨h0, fun _ c hc => ?_, f, hf h0, rfl⟩
        rw [now_of h0 hc] at hn; cases hn
      · exact .inl ⟨h0, by rw [dParts_stuck h0]⟩
    | some c =>
      obtain ⟨h0, hx⟩ := now_live hn
      have hlt := get_lt hx
      have h1 := hf h0
      have h2 := hg h0
      obtain ⟨g', rfl⟩ : ∃ g', g = g' + 1 := ⟨g - 1, by omega⟩
      obtain ⟨f', rfl⟩ : ∃ f', f = f' + 1 := ⟨f - 1, by omega⟩
      rw [text_some hn]
      by_cases hc : c = 123 ∨ c = 125 ∨ c = 35
      · rw [if_pos hc]
        refine ⟨hS, Nat.le_refl _, .inr ⟨h0, fun _ d hd => ?_, f' + 1, h1, rfl⟩⟩
        rw [hx] at hd; obtain rfl := Option.some.inj hd; exact hc
      · rw [if_neg hc]
        have n1 : c ≠ 123 := fun e => hc (.inl e)
        have n2 : c ≠ 125 := fun e => hc (.inr (.inl e))
        have n3 : c ≠ 35 := fun e => hc (.inr (.inr e))
        have hD : dPartsL l (f' + 1) o h (acc ++ [tx t]) S = if c = 39 then
            (match nowF l (S.1 + 1, 0) with
            | some d => if isSp d then dPartsL l f' o h (acc ++ [tx (t ++ [d])]) (if d = 39 then (S.1 + 2, 0) else wordF l [39] (S.1 + 2, 0)) else (acc ++ [tx t], failF l (S.1 + 1, 0))
            | none => (acc ++ [tx t], failF l (S.1 + 1, 0)))
          else dPartsL l f' o h (acc ++ [tx (t ++ [c])]) (S.1 + 1, 0) := by
          rw [dPartsL, hn]
          simp only
          rw [if_neg (fun e => n2 e.1), if_neg (fun e => by rcases e with e | e; exact n2 e; exact n3 e.1), if_neg n1, if_neg n3, add_tx]
          by_cases hq : c = 39
          · rw [if_pos hq, if_pos hq]
            cases nowF l (S.1 + 1, 0) with
            | none => rfl
            | some d => simp only; rw [add_tx]
          · rw [if_neg hq, if_neg hq]
        rw [hD]
        by_cases hq : c = 39
        · subst hq
          rw [if_pos rfl, if_pos rfl, quot_is hn]
          cases hd : nowF l (S.1 + 1, 0) with
          | none =>
            simp only
            have hst := fail_ne l (S.1 + 1, 0)
            have hw : Wf l (failF l (S.1 + 1, 0)) := (ge_fail l _).2.1 (wf_next hn)
            have := run_text o h acc g' (t ++ []) (failF l (S.1 + 1, 0)) f' hw (fun e => absurd e hst) (fun e => absurd e hst)
            have ht : textL l g' (t ++ []) (failF l (S.1 + 1, 0)) = (t ++ [], failF l (S.1 + 1, 0)) := text_none (now_stuck hst)
            rw [ht]
            exact ⟨hw, by rw [fail_fst]; exact Nat.le_succ _, .inl ⟨hst, rfl⟩⟩
          | some d =>
            simp only
            by_cases hsp : isSp d
            · rw [if_pos hsp, if_pos hsp]
              simp only
              obtain ⟨hw, hge⟩ := ge_spot hd
              have hlt2 := get_lt (now_live hd).2
              have hle := hw.1
              simp only at hlt2
              obtain ⟨i1, i2, i3⟩ := run_text o h acc g' (t ++ [d]) _ f' hw (fun _ => by omega) (fun _ => by omega)
              exact ⟨i1, by omega, i3⟩
            · rw [if_neg hsp, if_neg hsp]
              simp only
              have hst := fail_ne l (S.1 + 1, 0)
              have hw : Wf l (failF l (S.1 + 1, 0)) := (ge_fail l _).2.1 (wf_next hn)
              have ht : textL l g' (t ++ []) (failF l (S.1 + 1, 0)) = (t ++ [], failF l (S.1 + 1, 0)) := text_none (now_stuck hst)
              rw [ht]
              exact ⟨hw, by rw [fail_fst]; exact Nat.le_succ _, .inl ⟨hst, rfl⟩⟩
        · rw [if_neg hq, if_neg hq]
          obtain ⟨i1, i2, i3⟩ := run_text o h acc g' (t ++ [c]) (S.1 + 1, 0) f' (wf_next hn) (fun _ => by simp only; omega) (fun _ => by simp only; omega)
          exact ⟨i1, by simp only at i2; omega, i3⟩
  termination_by g => g
end Go.Proofs.YtdnedbcmgkilaaaGreatDoor

end

/- The document's reader reads what the program's reads. -/
section

namespace Go.Proofs.YtdnedbcmgkilaaaGreatDoor

def endO (l : List UInt8) (o : Nat) (T : St) : St := if o = 0 then endF l T else T
theorem end_stuck {l : List UInt8} {o : Nat} {T : St} (h : T.2 ≠ 0) : endO l o T = T := by
  unfold endO endF
  split
  · split
    · exact fail_stuck h
    · rfl
  · rfl
def clean (l : List UInt8) (acc : List Pt) (S : St) : Prop := (∀ x, acc.getLast? = some x → x.k ≠ 1) ∨ Stop l S
theorem word_nil (l : List UInt8) (S : St) : wordF l [] S = S := by rw [wordF]
theorem word_brace {l : List UInt8} {S : St} {c : UInt8} (h : nowF l S = some c) : wordF l [c] S = (S.1 + 1, 0) := by rw [word_go h, word_nil]
theorem key_stuck {l : List UInt8} {S : St} (h : S.2 ≠ 0) : dKey l S = ([], S) := by
  unfold dKey dName
  rw [now_stuck h, if_neg (by simp)]
  have hn : isNow l isLet S = false := by unfold isNow; rw [now_stuck h]
  rw [hn]
  simp only [Bool.false_eq_true, if_false]
  rw [fail_stuck h, run_stuck h]
theorem next3_now {l : List UInt8} {S : St} (h : nowF l S ≠ some 44) : nextF l [44, 32, 115] S = false := by
  cases hn : nextF l [44, 32, 115] S with
  | false => rfl
  | true => exact absurd (next_now.1 (next_in hn)) h
theorem next3_split {l : List UInt8} {S : St} (h : nextF l [44, 32, 115] S = true) : nowF l (wordF l [44, 32] S) = some 115 := by
  unfold nextF at h
  simp only [Bool.and_eq_true, decide_eq_true_eq] at h
  obtain ⟨h0, hp⟩ := h
  obtain ⟨r, hr⟩ := List.isPrefixOf_iff_prefix.1 hp
  have e0 : l[S.1]? = some 44 := by
    have : (l.drop S.1)[0]? = some 44 := by rw [← hr]; rfl
    simpa using this
  have e1 : l[S.1 + 1]? = some 32 := by
    have : (l.drop S.1)[1]? = some 32 := by rw [← hr]; rfl
    simpa using this
  have e2 : l[S.1 + 1 + 1]? = some 115 := by
    have : (l.drop S.1)[2]? = some 115 := by rw [← hr]; rfl
    rw [List.getElem?_drop] at this
    exact this
  rw [word_go (now_of h0 e0), word_go (now_of (S := (S.1 + 1, 0)) rfl e1), word_nil]
  exact now_of rfl e2
theorem next3_join {l : List UInt8} {S : St} (h : nowF l (wordF l [44, 32] S) = some 115) : nextF l [44, 32, 115] S = true := by
  obtain ⟨h0, h1⟩ := now_live h
  have hl : S.2 = 0 := (ge_word l [44, 32] S).live h0
  refine next_of_word hl ?_
  have : wordF l [44, 32, 115] S = wordF l [115] (wordF l [44, 32] S) := word_app l [44, 32] [115] S
  rw [this, word_brace h]

theorem hole_doc {l : List UInt8} {h : Bool} {S : St} (hn : nowF l S = some 123) {cd : Bool → St → List Cs × St} {cp : Bool → List UInt8 × St → List Cs × St}
    (hs : ∀ h T, T.2 ≠ 0 → (cd h T).2 = T) (hc : ∀ h T, Wf l T → (T.2 = 0 → S.1 + 1 ≤ T.1) → (cd h T).2 = (cp h (oneF l [32] T)).2 ∧ ((cd h T).2.2 = 0 → (cd h T).1 = (cp h (oneF l [32] T)).1)) :
    (dHoleG l cd h S).2 = (holeG l cp h S).2 ∧ ((dHoleG l cd h S).2.2 = 0 → (dHoleG l cd h S).1 = (holeG l cp h S).1) := by
  have hg := name_doc l (S.1 + 1, 0)
  have hw0 : Wf l (S.1 + 1, 0) := wf_next hn
  have hgl := ge_long l nameB (S.1 + 1, 0)
  unfold dHoleG holeG
  simp only
  rw [word_brace hn]
  generalize dName l (S.1 + 1, 0) = D at *
  generalize longF l nameB (S.1 + 1, 0) = P at *
  rcases hg with ⟨g1, g2⟩ | ⟨g1, g2, d, g3, g4⟩
  · have hwN : Wf l P.2 := hgl.2.1 hw0
    have hgN := hgl.1
    simp only at hgN
    obtain ⟨d1, D2⟩ := D
    obtain ⟨p1, N⟩ := P
    simp only at g1 g2 hwN hgN ⊢
    subst g1
    by_cases h125 : nowF l D2 = some 125
    · rw [if_pos h125, next3_now (by rw [h125]; simp), next_not (by rw [h125]; simp)]
      simp only [Bool.false_eq_true, if_false]
      rw [word_brace h125, g2 (now_live h125).1]
      exact ⟨rfl, fun _ => rfl⟩
    · rw [if_neg h125]
      have hA : Wf l (wordF l [44, 32] D2) := (ge_word l [44, 32] D2).2.1 hwN
      have hAg := (ge_word l [44, 32] D2).1
      by_cases h3 : nowF l (wordF l [44, 32] D2) = some 115
      · rw [if_pos h3, next3_join h3]
        simp only [if_true]
        have hseq : wordF l seW D2 = wordF l seT (wordF l [44, 32] D2) := word_app l [44, 32] seT D2
        have hgs := ge_word l seT (wordF l [44, 32] D2)
        obtain ⟨k1, k2⟩ := hc h (wordF l seT (wordF l [44, 32] D2)) (hgs.2.1 hA) (fun _ => by have := hgs.1; omega)
        rw [hseq]
        refine ⟨k1, fun hl => ?_⟩
        have hlc := k2 hl
        have hl2 : (wordF l [44, 32] D2).2 = 0 := (now_live h3).1
        rw [hlc, g2 ((ge_word l [44, 32] D2).live hl2)]
      · have hn3 : nextF l [44, 32, 115] D2 = false := by
          cases hx : nextF l [44, 32, 115] D2 with
          | false => rfl
          | true => exact absurd (next3_split hx) h3
        rw [if_neg h3, hn3]
        simp only [Bool.false_eq_true, if_false]
        by_cases h44 : nowF l D2 = some 44
        · rw [next_now.2 h44]
          simp only [if_true]
          have hseq : wordF l plW D2 = wordF l plT (wordF l [44, 32] D2) := word_app l [44, 32] plT D2
          have hgs := ge_word l plT (wordF l [44, 32] D2)
          obtain ⟨k1, k2⟩ := hc true (wordF l plT (wordF l [44, 32] D2)) (hgs.2.1 hA) (fun _ => by have := hgs.1; omega)
          rw [hseq]
          refine ⟨k1, fun hl => ?_⟩
          have hlc := k2 hl
          rw [hlc, g2 (now_live h44).1]
        · rw [next_not h44]
          simp only [Bool.false_eq_true, if_false]
          have hst := fail_ne l D2
          rw [word_fail h44, word_stuck l _ hst, word_fail h125]
          rw [hs true _ hst]
          exact ⟨rfl, fun e => absurd e hst⟩
  · have hst := fail_ne l P.2
    have hx : nowF l P.2 = some d := now_of g1 g3
    have n44 : nowF l P.2 ≠ some 44 := fun e => by rw [hx] at e; obtain rfl := Option.some.inj e; exact absurd g4 (by decide)
    have n125 : nowF l P.2 ≠ some 125 := fun e => by rw [hx] at e; obtain rfl := Option.some.inj e; exact absurd g4 (by decide)
    rw [g2, now_stuck hst, word_stuck l _ hst, now_stuck hst, word_stuck l _ hst, next3_now n44, next_not n44, word_fail n125]
    simp only [Bool.false_eq_true, if_false, reduceCtorEq]
    rw [word_stuck l plT hst, hs true _ hst]
    exact ⟨rfl, fun e => absurd e hst⟩
theorem parts_on {l : List UInt8} {f : Nat} {h : Bool} {o : Nat} {acc : List Pt} {S : St} {c : UInt8} (hn : nowF l S = some c) (hc : c ≠ 125) :
    partsL l (f + 1) h o acc S = partsL l f h o (acc ++ [(partG l (fun h b => casesL l f h o [] b) h S).1]) (partG l (fun h b => casesL l f h o [] b) h S).2 := by
  rw [partsL, if_pos ⟨(now_live hn).1, get_lt (now_live hn).2, next_not (by rw [hn]; intro e; exact hc (Option.some.inj e))⟩]
theorem parts_off {l : List UInt8} {f : Nat} {h : Bool} {o : Nat} {acc : List Pt} {S : St} (hn : nowF l S = none ∨ nowF l S = some 125) : partsL l f h o acc S = (acc, S) := by
  cases f with
  | zero => rw [partsL]
  | succ f =>
    rw [partsL, if_neg]
    rintro ⟨h0, h1, h2⟩
    rcases hn with hn | hn
    · rw [now_of h0 (List.getElem?_eq_getElem h1)] at hn; cases hn
    · rw [next_now.2 hn] at h2; cases h2
theorem last_snoc (acc : List Pt) (y : Pt) (h : y.k ≠ 1) : ∀ x, (acc ++ [y]).getLast? = some x → x.k ≠ 1 := fun x hx => by
  rw [List.getLast?_concat] at hx
  obtain rfl := Option.some.inj hx
  exact h
theorem one_same {l : List UInt8} {E : St} (h : nowF l E ≠ some 125) : oneF l [32, 125] E = oneF l [32] E := by
  by_cases h0 : E.2 = 0
  · unfold oneF
    rw [if_pos h0, if_pos h0]
    cases hx : l[E.1]? with
    | none => rfl
    | some c =>
      have hc : c ≠ 125 := fun e => h (by rw [now_of h0 hx, e])
      simp [hc]
  · rw [one_stuck h0, one_stuck h0]
theorem hole_k {l : List UInt8} {cp : Bool → List UInt8 × St → List Cs × St} {h : Bool} {S : St} : (holeG l cp h S).1.k ≠ 1 := by
  unfold holeG
  simp only
  split
  · simp [Pt.k]
  · split <;> simp [Pt.k]

theorem cases_on {l : List UInt8} {f o : Nat} {h : Bool} {acc : List Cs} {S : St} : casesL l (f + 1) h o acc (([32] : List UInt8), S) = casesL l f h o (acc ++ [(branchG l (fun S => partsL l f h (o + 1) [] S) o S).1]) (oneF l [32, 125] (branchG l (fun S => partsL l f h (o + 1) [] S) o S).2) := by
  rw [casesL, if_pos rfl]

theorem doc_both (l : List UInt8) : ∀ n,
    (∀ (o : Nat) (h : Bool) (acc : List Pt) (S : St) (g f : Nat), Wf l S → (o ≤ 32 ∨ S.2 ≠ 0) → (S.2 = 0 → l.length - S.1 ≤ n ∧ l.length - S.1 < g ∧ l.length - S.1 < f) → clean l acc S →
      (dPartsL l f o h acc S).2 = endO l o (partsL l g h o acc S).2 ∧ ((dPartsL l f o h acc S).2.2 = 0 → (dPartsL l f o h acc S).1 = (partsL l g h o acc S).1)) ∧
    (∀ (o : Nat) (h : Bool) (acc : List Cs) (S : St) (g f : Nat), Wf l S → o ≤ 32 → (S.2 = 0 → l.length - S.1 ≤ n ∧ l.length - S.1 < g ∧ l.length - S.1 < f) →
      (dCasesL l f o h acc S).2 = (casesL l g h o acc (oneF l [32] S)).2 ∧ ((dCasesL l f o h acc S).2.2 = 0 → (dCasesL l f o h acc S).1 = (casesL l g h o acc (oneF l [32] S)).1)) := by
  intro n
  induction n using Nat.strongRecOn with
  | _ n ih =>
  refine ⟨fun o h acc S g f hS ho hb hcl => ?_, fun o h acc S g f hS ho hb => ?_⟩
  · cases hn : nowF l S with
    | none =>
      rw [parts_off (.inl hn)]
      have hD : dPartsL l f o h acc S = (acc, S) := by
        cases f with
        | zero => rw [dPartsL]
        | succ f => rw [dPartsL, hn]
      rw [hD]
      refine ⟨?_, fun _ => rfl⟩
      by_cases h0 : S.2 = 0
      · unfold endO endF
        split
        · rw [if_neg]
          intro hlt
          rw [now_of h0 (List.getElem?_eq_getElem hlt)] at hn; cases hn
        · rfl
      · exact (end_stuck h0).symm
    | some c =>
      obtain ⟨h0, hx⟩ := now_live hn
      have hlt := get_lt hx
      obtain ⟨b1, b2, b3⟩ := hb h0
      have ho32 : o ≤ 32 := by
        rcases ho with ho | ho
        · exact ho
        · exact absurd h0 ho
      obtain ⟨g', rfl⟩ : ∃ g', g = g' + 1 := ⟨g - 1, by omega⟩
      obtain ⟨f', rfl⟩ : ∃ f', f = f' + 1 := ⟨f - 1, by omega⟩
      have hn1 : n - 1 < n := by omega
      by_cases h125 : c = 125
      · subst h125
        rw [parts_off (.inr hn)]
        by_cases hpos : 0 < o
        · have hD : dPartsL l (f' + 1) o h acc S = (acc, S) := by rw [dPartsL, hn]; simp only; rw [if_pos ⟨trivial, hpos⟩]
          rw [hD]
          exact ⟨by unfold endO; rw [if_neg (by omega)], fun _ => rfl⟩
        · have hD : dPartsL l (f' + 1) o h acc S = (acc, failF l S) := by rw [dPartsL, hn]; simp only; rw [if_neg (fun e => hpos e.2), if_pos (.inl trivial)]
          rw [hD]
          exact ⟨by unfold endO endF; rw [if_pos (by omega), if_pos hlt], fun e => absurd e (fail_ne l S)⟩
      rw [parts_on hn h125]
      by_cases h35 : c = 35
      · subst h35
        have hp : partG l (fun h b => casesL l g' h o [] b) h S = (.mk 3 (ba []) (ba []) [], wordF l [35] (if h then S else failF l S)) := by
          unfold partG; rw [if_neg (by rw [next_not (by rw [hn]; simp)]; simp), if_pos (next_now.2 hn)]
        rw [hp]
        cases h with
        | false =>
          have hD : dPartsL l (f' + 1) o false acc S = (acc, failF l S) := by rw [dPartsL, hn]; simp only; rw [if_neg (fun e => absurd e.1 (by decide)), if_pos (.inr ⟨trivial, trivial⟩)]
          rw [hD]
          have hst := fail_ne l S
          simp only [Bool.false_eq_true, if_false]
          rw [word_stuck l _ hst, parts_stuck hst]
          exact ⟨(end_stuck hst).symm, fun e => absurd e hst⟩
        | true =>
          have hD : dPartsL l (f' + 1) o true acc S = dPartsL l f' o true (acc ++ [.mk 3 (ba []) (ba []) []]) (S.1 + 1, 0) := by
            rw [dPartsL, hn]; simp only
            rw [if_neg (fun e => absurd e.1 (by decide)), if_neg (fun e => by rcases e with e | e; exact absurd e (by decide); cases e.2), if_neg (by decide), if_pos trivial]
          rw [hD]
          simp only [if_true]
          rw [word_brace hn]
          exact (ih (n - 1) hn1).1 o true _ (S.1 + 1, 0) g' f' (wf_next hn) (.inl ho32) (fun _ => by simp only; omega) (.inl (last_snoc _ _ (by simp [Pt.k])))
      by_cases h123 : c = 123
      · subst h123
        have hp : partG l (fun h b => casesL l g' h o [] b) h S = holeG l (fun h b => casesL l g' h o [] b) h S := by unfold partG; rw [if_pos (next_now.2 hn)]
        have hD : dPartsL l (f' + 1) o h acc S = dPartsL l f' o h (acc ++ [(dHoleG l (fun h S => dCasesL l f' o h [] S) h S).1]) (dHoleG l (fun h S => dCasesL l f' o h [] S) h S).2 := by
          rw [dPartsL, hn]; simp only
          rw [if_neg (fun e => absurd e.1 (by decide)), if_neg (fun e => by rcases e with e | e; exact absurd e (by decide); exact absurd e.1 (by decide)), if_pos trivial]
        have hd := hole_doc (h := h) hn (cd := fun h S => dCasesL l f' o h [] S) (cp := fun h b => casesL l g' h o [] b) (fun h T hT => by rw [dCases_stuck hT])
          (fun h T hT hge => (ih (n - 1) hn1).2 o h [] T g' f' hT ho32 (fun e => by have := hge e; omega))
        have hge := ge_hole (l := l) (cf := fun h b => casesL l g' h o [] b) (fun h b => ge_cases _ _ _ _ _ _) h S
        have hadv := part_adv (l := l) (cf := fun h b => casesL l g' h o [] b) (fun h b => ge_cases _ _ _ _ _ _) (h := h) h0 hlt (next_not (by rw [hn]; simp))
        have hk := hole_k (l := l) (cp := fun h b => casesL l g' h o [] b) (h := h) (S := S)
        rw [hp] at hadv ⊢
        rw [hD]
        have hwf := hge.2.1 hS
        generalize dHoleG l (fun h S => dCasesL l f' o h [] S) h S = rd at *
        generalize holeG l (fun h b => casesL l g' h o [] b) h S = rp at *
        obtain ⟨xd, Td⟩ := rd
        obtain ⟨xp, T⟩ := rp
        simp only at hd hadv hwf hk ⊢
        obtain ⟨e1, e2⟩ := hd
        subst e1
        by_cases hl : Td.2 = 0
        · rw [e2 hl]
          have hT := hadv.resolve_left (fun e => e hl)
          exact (ih (n - 1) hn1).1 o h _ Td g' f' hwf (.inl ho32) (fun _ => by omega) (.inl (last_snoc _ _ hk))
        · rw [dParts_stuck hl, parts_stuck hl]
          exact ⟨(end_stuck hl).symm, fun e => absurd e hl⟩
      -- a text
      have hp : partG l (fun h b => casesL l g' h o [] b) h S = (.mk 1 (ba (textL l l.length [] S).1) (ba []) [], (textL l l.length [] S).2) := by
        unfold partG
        rw [if_neg (by rw [next_not (by rw [hn]; intro e; exact h123 (Option.some.inj e))]; simp), if_neg (by rw [next_not (by rw [hn]; intro e; exact h35 (Option.some.inj e))]; simp)]
      rw [hp]
      have hlast : ∀ x, acc.getLast? = some x → x.k ≠ 1 := by
        rcases hcl with hcl | hcl
        · exact hcl
        · rcases hcl h0 c hx with e | e | e
          · exact absurd e h123
          · exact absurd e h125
          · exact absurd e h35
      have hD : dPartsL l (f' + 1) o h acc S = if c = 39 then
          (match nowF l (S.1 + 1, 0) with
          | some d => if isSp d then dPartsL l f' o h (acc ++ [tx [d]]) (if d = 39 then (S.1 + 2, 0) else wordF l [39] (S.1 + 2, 0)) else (acc, failF l (S.1 + 1, 0))
          | none => (acc, failF l (S.1 + 1, 0)))
        else dPartsL l f' o h (acc ++ [tx [c]]) (S.1 + 1, 0) := by
        rw [dPartsL, hn]
        simp only
        rw [if_neg (fun e => h125 e.1), if_neg (fun e => by rcases e with e | e; exact h125 e; exact h35 e.1), if_neg h123, if_neg h35, add_new hlast]
        by_cases hq : c = 39
        · rw [if_pos hq, if_pos hq]
          cases nowF l (S.1 + 1, 0) with
          | none => rfl
          | some d => simp only; rw [add_new hlast]
        · rw [if_neg hq, if_neg hq]
      obtain ⟨L', hL'⟩ : ∃ L', l.length = L' + 1 := ⟨l.length - 1, by omega⟩
      have hT : textL l l.length [] S = if c = 39 then textL l L' ([] ++ (quotF l S).1) (quotF l S).2 else textL l L' ([] ++ [c]) (S.1 + 1, 0) := by
        rw [hL', text_some hn, if_neg (fun e => by rcases e with e | e | e; exact h123 e; exact h125 e; exact h35 e)]
      rw [hD, hT]
      clear hD hT hp
      have close : ∀ (t : List UInt8) (Q : St), Wf l Q → S.1 + 1 ≤ Q.1 →
          (dPartsL l f' o h (acc ++ [tx t]) Q).2 = endO l o (partsL l g' h o (acc ++ [.mk 1 (ba (textL l L' t Q).1) (ba []) []]) (textL l L' t Q).2).2 ∧
          ((dPartsL l f' o h (acc ++ [tx t]) Q).2.2 = 0 → (dPartsL l f' o h (acc ++ [tx t]) Q).1 = (partsL l g' h o (acc ++ [.mk 1 (ba (textL l L' t Q).1) (ba []) []]) (textL l L' t Q).2).1) := by
        intro t Q hQ hge
        have hql := hQ.1
        obtain ⟨r1, r2, r3⟩ := run_text o h acc L' t Q f' hQ (fun _ => by omega) (fun _ => by omega)
        rcases r3 with ⟨r3, r4⟩ | ⟨r3, r4, f2, r5, r6⟩
        · rw [parts_stuck r3, r4]
          exact ⟨(end_stuck r3).symm, fun e => absurd e r3⟩
        · rw [r6]
          exact (ih (n - 1) hn1).1 o h _ _ g' f2 r1 (.inl ho32) (fun _ => by omega) (.inr r4)
      by_cases hq : c = 39
      · subst hq
        rw [if_pos rfl, if_pos rfl, quot_is hn]
        have hst := fail_ne l (S.1 + 1, 0)
        have hbad : (failF l (S.1 + 1, 0)) = endO l o (partsL l g' h o (acc ++ [.mk 1 (ba (textL l L' ([] ++ []) (failF l (S.1 + 1, 0))).1) (ba []) []]) (textL l L' ([] ++ []) (failF l (S.1 + 1, 0))).2).2 := by
          rw [text_none (now_stuck hst), parts_stuck hst]; exact (end_stuck hst).symm
        cases hd : nowF l (S.1 + 1, 0) with
        | none =>
          simp only
          exact ⟨hbad, fun e => absurd e hst⟩
        | some d =>
          simp only
          by_cases hsp : isSp d
          · rw [if_pos hsp, if_pos hsp]
            obtain ⟨hw, hge⟩ := ge_spot hd
            exact close [d] _ hw (by omega)
          · rw [if_neg hsp, if_neg hsp]
            exact ⟨hbad, fun e => absurd e hst⟩
      · rw [if_neg hq, if_neg hq]
        exact close [c] (S.1 + 1, 0) (wf_next hn) (Nat.le_refl _)
  · by_cases h0 : S.2 = 0
    · obtain ⟨b1, b2, b3⟩ := hb h0
      obtain ⟨g', rfl⟩ : ∃ g', g = g' + 1 := ⟨g - 1, by omega⟩
      obtain ⟨f', rfl⟩ : ∃ f', f = f' + 1 := ⟨f - 1, by omega⟩
      by_cases hsp : nowF l S = some 32
      · have hlt := get_lt (now_live hsp).2
        have hn1 : n - 1 < n := by omega
        rw [one_yes (next_now.2 hsp), dCasesL, if_pos h0, cases_on]
        simp only
        rw [word_brace hsp]
        have hkd := key_doc l (S.1 + 1, 0)
        have hgk := (ge_key l (S.1 + 1, 0)).trans (ge_word l [32] _)
        have hwd := hkd.word (c := 32) (r := []) (by decide)
        have hwR : Wf l (wordF l [32] (keyF l (S.1 + 1, 0)).2) := hgk.2.1 (wf_next hsp)
        have hgR := hgk.1
        have hval : (wordF l [32] (keyF l (S.1 + 1, 0)).2).2 = 0 → (dKey l (S.1 + 1, 0)).1 = (keyF l (S.1 + 1, 0)).1 := fun e => (hkd.val e (by decide)).1
        unfold branchG
        simp only
        rw [hwd]
        generalize wordF l [32] (keyF l (S.1 + 1, 0)).2 = R at *
        generalize (keyF l (S.1 + 1, 0)).1 = kp at *
        generalize (dKey l (S.1 + 1, 0)).1 = kd at *
        simp only at hgR
        by_cases hdeep : nowF l R = some 123 ∧ 32 ≤ o
        · rw [if_pos hdeep]
          have hX : deepF l o R = (R.1, 12) := by unfold deepF; rw [if_pos ⟨next_now.2 hdeep.1, by omega⟩]
          have hst : ((R.1, 12) : St).2 ≠ 0 := by simp
          rw [hX, word_stuck l _ hst, parts_stuck hst]
          simp only
          rw [word_stuck l _ hst, one_stuck hst, cases_end (by simp)]
          exact ⟨rfl, fun e => absurd e hst⟩
        · rw [if_neg hdeep]
          have hX : deepF l o R = R := by
            unfold deepF; rw [if_neg]; rintro ⟨e1, e2⟩; exact hdeep ⟨next_now.1 e1, by omega⟩
          rw [hX]
          have hgW := ge_word l [123] R
          have hWo : o + 1 ≤ 32 ∨ (wordF l [123] R).2 ≠ 0 := by
            by_cases hn : nowF l R = some 123
            · left; rcases Nat.lt_or_ge o 32 with hlt | hge
              · omega
              · exact absurd ⟨hn, hge⟩ hdeep
            · right; rw [word_fail hn]; exact fail_ne l R
          have hWadv : (wordF l [123] R).2 = 0 → R.1 + 1 ≤ (wordF l [123] R).1 := word_adv
          have hWl : (wordF l [123] R).2 = 0 → R.2 = 0 := hgW.live
          have hwW := hgW.2.1 hwR
          have hgW1 := hgW.1
          generalize wordF l [123] R = W at *
          have hi := (ih (n - 1) hn1).1 (o + 1) h [] W g' f' hwW hWo (fun e => by have := hWadv e; omega) (.inl (fun x hx => by cases hx))
          have he0 : ∀ T, endO l (o + 1) T = T := fun T => by unfold endO; rw [if_neg (by omega)]
          rw [he0] at hi
          have hgP := ge_parts l g' h (o + 1) [] W
          generalize dPartsL l f' (o + 1) h [] W = rd at *
          generalize partsL l g' h (o + 1) [] W = rp at *
          obtain ⟨xd, Vd⟩ := rd
          obtain ⟨xp, V⟩ := rp
          simp only at hi hgP ⊢
          obtain ⟨e1, e2⟩ := hi
          subst e1
          have hgE := ge_word l [125] Vd
          have hwE := hgE.2.1 (hgP.2.1 hwW)
          have hgE1 := hgE.1
          have hgP1 := hgP.1
          have hsame : (wordF l [125] Vd).2 = 0 → (Cs.mk (ba kd) xd) = .mk (ba kp) xp := fun e => by
            have hV := hgE.live e
            rw [e2 hV, hval (hWl (hgP.live hV))]
          generalize wordF l [125] Vd = E at *
          by_cases hE : nowF l E = some 125
          · rw [if_pos hE]
            have ho : oneF l [32, 125] E = ([125], (E.1 + 1, 0)) := by
              obtain ⟨q0, q1⟩ := now_live hE
              unfold oneF; rw [if_pos q0, q1]; simp
            rw [ho, cases_end (by simp)]
            exact ⟨rfl, fun _ => by simp only; rw [hsame (now_live hE).1]⟩
          · rw [if_neg hE, one_same hE]
            by_cases hEl : E.2 = 0
            · rw [hsame hEl]
              exact (ih (n - 1) hn1).2 o h _ E g' f' hwE ho (fun _ => by omega)
            · rw [dCases_stuck hEl, one_stuck hEl, cases_end (by simp)]
              exact ⟨rfl, fun e => absurd e hEl⟩
      · have hst := fail_ne l S
        have ho : oneF l [32] S = ([], failF l S) := by
          unfold oneF
          rw [if_pos h0]
          cases hx : l[S.1]? with
          | none => rfl
          | some d =>
            simp only
            rw [if_neg]
            intro hd
            obtain rfl : d = 32 := by simpa using hd
            exact hsp (now_of h0 hx)
        rw [ho, cases_end (by simp), dCasesL, if_pos h0]
        simp only
        rw [word_fail hsp, key_stuck hst]
        simp only
        rw [word_stuck l _ hst, now_stuck hst, if_neg (by simp), word_stuck l _ hst, dParts_stuck hst]
        simp only
        rw [word_stuck l _ hst, now_stuck hst, if_neg (by simp), dCases_stuck hst]
        exact ⟨rfl, fun e => absurd e hst⟩
    · rw [one_stuck h0, cases_end (by simp), dCases_stuck h0]
      exact ⟨rfl, fun e => absurd e h0⟩

/-- The document's parts, and where its reader stands behind them. -/
def dReadF (l : List UInt8) : List Pt × St := dPartsL l (l.length + 1) 0 false [] (0, 0)
def dParse (l : List UInt8) : List Pt × Nat × Nat :=
  if 2000 < l.length then ([], 2, 0)
  else if (dReadF l).2.2 ≠ 0 then ([], (dReadF l).2.2, (dReadF l).2.1)
  else if rightE (dReadF l).1 ≠ 0 then ([], rightE (dReadF l).1, 0)
  else ((dReadF l).1, 0, 0)
theorem dRead_eq (l : List UInt8) : (dReadF l).2 = endF l (readF l).2 ∧ ((dReadF l).2.2 = 0 → (dReadF l).1 = (readF l).1) := by
  have := (doc_both l l.length).1 0 false [] (0, 0) (l.length + 1) (l.length + 1) ⟨Nat.zero_le _, .inl rfl⟩ (.inl (by omega)) (fun _ => by simp only; omega) (.inl (fun x hx => by cases hx))
  unfold endO at this
  rw [if_pos rfl] at this
  exact this
theorem dParse_eq (l : List UInt8) : dParse l = parseF l := by
  obtain ⟨h1, h2⟩ := dRead_eq l
  unfold dParse parseF
  rw [← h1]
  split
  · rfl
  · split
    · rfl
    · rename_i h
      have h0 : (dReadF l).2.2 = 0 := by simpa using h
      rw [h2 h0]
end Go.Proofs.YtdnedbcmgkilaaaGreatDoor

end
