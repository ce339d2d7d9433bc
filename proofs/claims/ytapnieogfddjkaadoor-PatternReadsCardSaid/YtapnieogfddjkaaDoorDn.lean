/- The document's reader in its own shape: names, numbers. -/
import Derived.Test.YtapnieogfddjkaaDoorPp
namespace Go.Proofs.YtapnieogfddjkaaDoor

def nowF (l : List UInt8) (S : St) : Option UInt8 := if S.2 = 0 then l[S.1]? else none
/-- Bytes that may stand in a word, as long as the word may be. -/
def runL (l : List UInt8) (w : UInt8 → Bool) (p : List UInt8 → Bool) : Nat → List UInt8 → St → List UInt8 × St
  | 0, acc, S => (acc, S)
  | f + 1, acc, S => match nowF l S with
    | some c => if w c then (if p (acc ++ [c]) then runL l w p f (acc ++ [c]) (S.1 + 1, 0) else ([], failF l S)) else (acc, S)
    | none => (acc, S)
def isNow (l : List UInt8) (w : UInt8 → Bool) (S : St) : Bool := match nowF l S with | some c => w c | none => false
def dName (l : List UInt8) (S : St) : List UInt8 × St := runL l isWrd nameB 33 [] (if isNow l isLet S then S else failF l S)
def dDig (l : List UInt8) (S : St) : List UInt8 × St := runL l isDig numB 33 [] S
def dKey (l : List UInt8) (S : St) : List UInt8 × St :=
  if nowF l S = some 61 then
    (if isNow l isDig (S.1 + 1, 0) then (if (dDig l (S.1 + 1, 0)).2.2 = 0 then 61 :: (dDig l (S.1 + 1, 0)).1 else [], (dDig l (S.1 + 1, 0)).2)
     else ([61], failF l (S.1 + 1, 0)))
  else dName l S

theorem now_live {l : List UInt8} {S : St} {c : UInt8} (h : nowF l S = some c) : S.2 = 0 ∧ l[S.1]? = some c := by
  unfold nowF at h; split at h
  · rename_i h0; exact ⟨h0, h⟩
  · cases h
theorem now_of {l : List UInt8} {S : St} {c : UInt8} (h0 : S.2 = 0) (h : l[S.1]? = some c) : nowF l S = some c := by unfold nowF; rw [if_pos h0, h]
theorem now_stuck {l : List UInt8} {S : St} (h : S.2 ≠ 0) : nowF l S = none := by unfold nowF; rw [if_neg h]
theorem next_now {l : List UInt8} {S : St} {c : UInt8} : nextF l [c] S = true ↔ nowF l S = some c := by
  rw [next_iff]
  constructor
  · intro h; exact now_of h.1 h.2
  · intro h; exact now_live h
theorem next_not {l : List UInt8} {S : St} {c : UInt8} (h : nowF l S ≠ some c) : nextF l [c] S = false := by
  cases hn : nextF l [c] S with
  | false => rfl
  | true => exact absurd (next_now.1 hn) h
theorem word_fail {l r : List UInt8} {S : St} {c : UInt8} (h : nowF l S ≠ some c) : wordF l (c :: r) S = failF l S := by
  by_cases h0 : S.2 = 0
  · rw [wordF]
    have : (oneF l [c] S).2 = failF l S := by
      unfold oneF
      rw [if_pos h0]
      cases hx : l[S.1]? with
      | none => rfl
      | some d =>
        simp only
        rw [if_neg]
        intro hd
        obtain rfl : d = c := by simpa using hd
        exact h (now_of h0 hx)
    rw [this, word_stuck l r (fail_ne l S)]
  · rw [word_stuck l _ h0, fail_stuck h0]
theorem word_go {l r : List UInt8} {S : St} {c : UInt8} (h : nowF l S = some c) : wordF l (c :: r) S = wordF l r (S.1 + 1, 0) := word_yes (next_now.2 h)
theorem run_stuck {l : List UInt8} {w : UInt8 → Bool} {p : List UInt8 → Bool} {f : Nat} {acc : List UInt8} {S : St} (h : S.2 ≠ 0) : runL l w p f acc S = (acc, S) := by
  cases f with
  | zero => rw [runL]
  | succ f => rw [runL, now_stuck h]
theorem fail_live {l : List UInt8} {S : St} {c : UInt8} (h : nowF l S = some c) : failF l S = (S.1, 90) := by
  obtain ⟨h0, hx⟩ := now_live h
  have := get_lt hx
  unfold failF; rw [if_pos h0, if_neg (by omega)]

/-- What the document's word and the program's have in common. -/
def Gd (l : List UInt8) (D P : List UInt8 × St) : Prop :=
  (D.2 = P.2 ∧ (D.2.2 = 0 → D.1 = P.1)) ∨ (P.2.2 = 0 ∧ D.2 = failF l P.2 ∧ ∃ c, l[P.2.1]? = some c ∧ isWrd c = true)

theorem run_at {l : List UInt8} {w : UInt8 → Bool} {p : List UInt8 → Bool} (hw : ∀ acc c, p (acc ++ [c]) = true → w c = true) {a n : Nat} (hn : longN p (l.drop a) l.length 0 = n) :
    ∀ (d k f : Nat), k + d = n → d < f → runL l w p f ((l.drop a).take k) (a + k, 0) = if isNow l w (a + n, 0) then ([], failF l (a + n, 0)) else ((l.drop a).take n, (a + n, 0))
  | d, k, 0, _, hf => by omega
  | d, k, f + 1, hk, hf => by
    have hle := (longN_le p (l.drop a) l.length 0 (Nat.zero_le _)).2
    rw [hn] at hle
    have hdl : (l.drop a).length = l.length - a := by simp
    have hstep : ∀ c, (l.drop a)[k]? = some c → (l.drop a).take k ++ [c] = (l.drop a).take (k + 1) := fun c hc => by
      obtain ⟨hlt, hx⟩ := List.getElem?_eq_some_iff.1 hc
      rw [List.take_succ_eq_append_getElem hlt, hx]
    have hget : (l.drop a)[k]? = l[a + k]? := by simp
    rw [runL]
    by_cases hkn : k < n
    · have hlt : k < (l.drop a).length := by omega
      obtain ⟨c, hc⟩ : ∃ c, (l.drop a)[k]? = some c := ⟨_, List.getElem?_eq_getElem hlt⟩
      have hp := longN_yes p (l.drop a) l.length 0 k (Nat.zero_le _) (by rw [hn]; exact hkn)
      rw [← hstep c hc] at hp
      rw [now_of (S := (a + k, 0)) rfl (by rw [← hget]; exact hc)]
      simp only
      rw [if_pos (hw _ _ hp), if_pos hp, hstep c hc]
      exact run_at hw hn (d - 1) (k + 1) f (by omega) (by omega)
    · obtain rfl : k = n := by omega
      cases hc : (l.drop a)[k]? with
      | none =>
        have hno : nowF l (a + k, 0) = none := by unfold nowF; rw [if_pos rfl, ← hget, hc]
        rw [hno]
        simp only [isNow, hno, Bool.false_eq_true, if_false]
      | some c =>
        have hso : nowF l (a + k, 0) = some c := now_of rfl (by rw [← hget]; exact hc)
        rw [hso]
        simp only [isNow, hso]
        by_cases hwc : w c = true
        · have hlt := (List.getElem?_eq_some_iff.1 hc).1
          have hp : p ((l.drop a).take (k + 1)) = false := by
            have := longN_end p (l.drop a) l.length 0 (by omega) (by rw [hn]; exact hlt)
            rw [hn] at this; exact this
          rw [← hstep c hc] at hp
          rw [if_pos hwc, if_neg (by rw [hp]; simp), if_pos hwc]
        · rw [if_neg hwc, if_neg hwc]
theorem long_doc {l : List UInt8} {w : UInt8 → Bool} {p : List UInt8 → Bool} {q : UInt8 → Bool} (hw : ∀ acc c, p (acc ++ [c]) = true → w c = true) (hq : ∀ c, p [c] = q c) (hqw : ∀ c, w c = true → isWrd c = true) (hb : ∀ t, p t = true → t.length < 33) (S : St) :
    Gd l (runL l w p 33 [] (if isNow l q S then S else failF l S)) (longF l p S) := by
  by_cases h0 : S.2 = 0
  · obtain ⟨a, s⟩ := S
    simp only at h0
    subst h0
    by_cases hn : isNow l q (a, 0) = true
    · rw [if_pos hn]
      obtain ⟨n, hN⟩ : ∃ n, longN p (l.drop a) l.length 0 = n := ⟨_, rfl⟩
      obtain ⟨c, hc, hqc⟩ : ∃ c, nowF l (a, 0) = some c ∧ q c = true := by
        unfold isNow at hn
        cases hx : nowF l (a, 0) with
        | none => rw [hx] at hn; cases hn
        | some c => rw [hx] at hn; exact ⟨c, rfl, hn⟩
      have hx := (now_live hc).2
      have hdc : l.drop a = c :: l.drop (a + 1) := by
        obtain ⟨hlt, he⟩ := List.getElem?_eq_some_iff.1 hx
        rw [List.drop_eq_getElem_cons hlt, he]
      have hle := longN_le p (l.drop a) l.length 0 (Nat.zero_le _)
      rw [hN] at hle
      have hn0 : n ≠ 0 := by
        intro e
        have := longN_end p (l.drop a) l.length 0 (by simp) (by rw [hN, e, hdc]; simp)
        rw [hN, e, hdc] at this
        simp only [Nat.zero_add, List.take_succ_cons, List.take_zero] at this
        rw [hq c, hqc] at this
        cases this
      have hnb : n < 33 := by
        have := longN_yes p (l.drop a) l.length 0 (n - 1) (Nat.zero_le _) (by rw [hN]; omega)
        have h2 := hb _ this
        rw [List.length_take] at h2
        omega
      have hR := run_at (l := l) (w := w) (p := p) hw hN n 0 33 (by omega) hnb
      simp only [List.take_zero, Nat.add_zero] at hR
      rw [hR]
      have hP : longF l p (a, 0) = ((l.drop a).take n, (a + n, 0)) := by unfold longF; rw [if_pos rfl]; simp only; rw [hN, if_neg hn0]
      rw [hP]
      by_cases he : isNow l w (a + n, 0) = true
      · rw [if_pos he]
        right
        refine ⟨rfl, rfl, ?_⟩
        unfold isNow at he
        cases hx : nowF l (a + n, 0) with
        | none => rw [hx] at he; cases he
        | some d => rw [hx] at he; exact ⟨d, (now_live hx).2, hqw d he⟩
      · rw [if_neg he]
        exact .inl ⟨rfl, fun _ => rfl⟩
    · rw [if_neg hn, run_stuck (fail_ne l _)]
      have hN : longN p (l.drop a) l.length 0 = 0 := by
        refine longN_is (by simp) (Nat.zero_le _) (fun j hj => by omega) (fun hlt => ?_)
        obtain ⟨c, r, hcr⟩ : ∃ c r, l.drop a = c :: r := by
          cases hd : l.drop a with
          | nil => rw [hd] at hlt; simp at hlt
          | cons c r => exact ⟨c, r, rfl⟩
        rw [hcr]
        simp only [Nat.zero_add, List.take_succ_cons, List.take_zero]
        rw [hq c]
        have hx : l[a]? = some c := by
          have : (l.drop a)[0]? = some c := by rw [hcr]; rfl
          simpa using this
        cases hqc : q c with
        | false => rfl
        | true => exact absurd (by unfold isNow; rw [now_of (S := (a, 0)) rfl hx]; exact hqc) hn
      have hP : longF l p (a, 0) = ([], failF l (a, 0)) := by unfold longF; rw [if_pos rfl]; simp only; rw [hN, if_pos rfl]
      rw [hP]
      exact .inl ⟨rfl, fun _ => rfl⟩
  · have hn : isNow l q S = false := by unfold isNow; rw [now_stuck h0]
    rw [hn, long_stuck h0]
    simp only [Bool.false_eq_true, if_false]
    rw [fail_stuck h0, run_stuck h0]
    exact .inl ⟨rfl, fun _ => rfl⟩
theorem dig_wrd (c : UInt8) (h : isDig c = true) : isWrd c = true := by unfold isWrd; simp [h]
theorem name_doc (l : List UInt8) (S : St) : Gd l (dName l S) (longF l nameB S) := by
  refine long_doc (q := isLet) (fun acc c h => ?_) (fun c => ?_) (fun c h => h) (fun t h => ?_) S
  · cases acc with
    | nil => simp only [List.nil_append, nameB, List.all_cons, Bool.and_eq_true] at h; exact h.2.1
    | cons d r =>
      simp only [List.cons_append, nameB, List.all_cons, List.all_append, Bool.and_eq_true] at h
      exact h.2.2.2.1
  · simp only [nameB, List.all_cons, List.all_nil, List.length_nil]
    by_cases hl : isLet c = true
    · have : isWrd c = true := by unfold isWrd; simp [hl]
      simp [hl, this]
    · simp [hl]
  · cases t with
    | nil => simp [nameB] at h
    | cons d r => simp only [nameB, Bool.and_eq_true, decide_eq_true_eq] at h; simp only [List.length_cons]; omega
theorem dig_doc (l : List UInt8) (S : St) : Gd l (runL l isDig numB 33 [] (if isNow l isDig S then S else failF l S)) (longF l numB S) := by
  refine long_doc (q := isDig) (fun acc c h => ?_) (fun c => ?_) (fun c h => dig_wrd c h) (fun t h => ?_) S
  · cases acc with
    | nil => simp only [List.nil_append, numB, List.all_cons, Bool.and_eq_true] at h; exact h.1.1.1.1
    | cons d r =>
      simp only [List.cons_append, numB, List.all_cons, List.all_append, Bool.and_eq_true] at h
      exact h.1.1.1.2.2.1
  · simp only [numB, List.all_cons, List.all_nil, List.length_nil, List.isEmpty_nil, Bool.or_true, Bool.and_true, List.foldl_cons, List.foldl_nil]
    have hc := c.toNat_lt
    have : nx 0 c ≤ 1000000 := by unfold nx; omega
    simp [this]
  · cases t with
    | nil => simp [numB] at h
    | cons d r => simp only [numB, Bool.and_eq_true, decide_eq_true_eq] at h; simp only [List.length_cons]; omega
theorem key_doc (l : List UInt8) (S : St) : Gd l (dKey l S) (keyF l S) := by
  unfold dKey keyF
  by_cases h : nowF l S = some 61
  · rw [if_pos h, if_pos (next_now.2 h), word_go h]
    show Gd l _ ([61] ++ (longF l numB (wordF l [] (S.1 + 1, 0))).1, (longF l numB (wordF l [] (S.1 + 1, 0))).2)
    rw [wordF]
    have hd := dig_doc l (S.1 + 1, 0)
    by_cases hn : isNow l isDig (S.1 + 1, 0) = true
    · rw [if_pos hn] at hd ⊢
      unfold dDig
      rcases hd with ⟨h1, h2⟩ | ⟨h1, h2, h3⟩
      · exact .inl ⟨h1, fun h4 => by simp only at h4 ⊢; rw [if_pos h4, h2 h4]; rfl⟩
      · exact .inr ⟨h1, h2, h3⟩
    · rw [if_neg hn] at hd ⊢
      rw [run_stuck (fail_ne l _)] at hd
      rcases hd with ⟨h1, h2⟩ | ⟨h1, h2, h3⟩
      · exact .inl ⟨h1, fun h4 => absurd h4 (fail_ne l _)⟩
      · exact .inr ⟨h1, h2, h3⟩
  · rw [if_neg h, if_neg (by rw [next_not h]; simp)]
    exact name_doc l S
theorem Gd.word {l : List UInt8} {D P : List UInt8 × St} (h : Gd l D P) {c : UInt8} {r : List UInt8} (hc : isWrd c = false) : wordF l (c :: r) D.2 = wordF l (c :: r) P.2 := by
  rcases h with ⟨h, -⟩ | ⟨h1, h2, d, h3, h4⟩
  · rw [h]
  · rw [h2, word_stuck l _ (fail_ne l _), word_fail]
    intro e
    have := (now_live e).2
    rw [h3] at this
    obtain rfl := Option.some.inj this
    rw [hc] at h4; cases h4
theorem Gd.val {l : List UInt8} {D P : List UInt8 × St} (h : Gd l D P) {c : UInt8} {r : List UInt8} (hw : (wordF l (c :: r) P.2).2 = 0) (hc : isWrd c = false) : D.1 = P.1 ∧ D.2 = P.2 := by
  rcases h with ⟨h, h'⟩ | ⟨h1, h2, d, h3, h4⟩
  · refine ⟨h' ?_, h⟩
    rw [h]; exact (ge_word l _ _).live hw
  · rw [word_fail] at hw
    · exact absurd hw (fail_ne l _)
    · intro e
      have := (now_live e).2
      rw [h3] at this
      obtain rfl := Option.some.inj this
      rw [hc] at h4; cases h4
end Go.Proofs.YtapnieogfddjkaaDoor
