/- Locales: the plain mathematics: what is a locale, its language, its chain; the program's way over parts and the document's over places are one. -/
import Derived.Lib.Split
import Derived.Lib.SplitLaws
import Derived.Lib.LastIndexByte
import Derived.Lib.IndexMore
import Derived.Lib.DecodeN
import Derived.Shelf.GgClosure.StringsIndexFunc

section

namespace Go.Proofs.YtdnedbcmgkilaaaGreatDoor.Lc
open Go.Lib

/-- A letter or a digit. -/
def sgnN (n : Nat) : Bool := (decide (97 ≤ n) && decide (n ≤ 122)) || (decide (65 ≤ n) && decide (n ≤ 90)) || (decide (48 ≤ n) && decide (n ≤ 57))
def sgn (c : UInt8) : Bool := sgnN c.toNat
/-- Parts: 'b': something of the part stands already. -/
def prtB : Bool → List UInt8 → Bool
  | b, [] => b
  | b, c :: r => if c = 45 then b && prtB false r else sgn c && prtB true r
def locB (l : List UInt8) : Bool := decide (l.length ≤ 32) && prtB false l
/-- A part may be. -/
def onePart (l : List UInt8) : Bool := !l.isEmpty && l.all sgn

theorem prtB_noDash : ∀ (b : Bool) (l : List UInt8), (45 : UInt8) ∉ l → prtB b l = (l.all sgn && (b || !l.isEmpty))
  | b, [], _ => by cases b <;> rfl
  | b, c :: r, h => by
    have hc : c ≠ 45 := fun e => h (by simp [e])
    rw [prtB, if_neg hc, prtB_noDash true r (fun e => h (by simp [e]))]
    simp
theorem prtB_app : ∀ (b : Bool) (l r : List UInt8), (45 : UInt8) ∉ l → prtB b (l ++ 45 :: r) = (prtB b l && prtB false r)
  | b, [], r, _ => by simp [prtB]
  | b, c :: l, r, h => by
    have hc : c ≠ 45 := fun e => h (by simp [e])
    rw [List.cons_append, prtB, if_neg hc, prtB, if_neg hc, prtB_app true l r (fun e => h (by simp [e])), Bool.and_assoc]
theorem index_one_spec (s : List UInt8) : (index s [45] = -1 ∧ (45 : UInt8) ∉ s) ∨ ∃ i : Nat, index s [45] = i ∧ i < s.length ∧ (45 : UInt8) ∉ s.take i ∧ s = s.take i ++ 45 :: s.drop (i + 1) := by
  induction s with
  | nil => exact .inl ⟨by simp [index], by simp⟩
  | cons c r ih =>
    by_cases hc : c = 45
    · subst hc
      exact .inr ⟨0, by rw [index]; simp [List.isPrefixOf], by simp, by simp, by simp⟩
    · have hp : ([45] : List UInt8).isPrefixOf (c :: r) = false := by simp [List.isPrefixOf, Ne.symm hc]
      have hix : index (c :: r) [45] = if index r [45] == -1 then -1 else index r [45] + 1 := by rw [index, hp]; simp
      rcases ih with ⟨h1, h2⟩ | ⟨i, h1, h2, h3, h4⟩
      · exact .inl ⟨by rw [hix, h1]; rfl, by simp [h2, Ne.symm hc]⟩
      · refine .inr ⟨i + 1, by rw [hix, if_neg (by simp; omega), h1]; rfl, by simp; omega, by simp [h3, Ne.symm hc], ?_⟩
        simpa using h4
/-- The parts that Split makes may be just where the text is one of parts. -/
theorem split_parts : ∀ (k : Nat) (s : List UInt8), s.count 45 ≤ k → (splitK [45] 0 k s).all onePart = prtB false s
  | 0, s, h => by
    have hn : (45 : UInt8) ∉ s := fun e => by have := List.count_pos_iff.2 e; omega
    rw [prtB_noDash _ _ hn]; simp [splitK, onePart, Bool.and_comm]
  | k + 1, s, h => by
    rcases index_one_spec s with ⟨h1, h2⟩ | ⟨i, h1, h2, h3, h4⟩
    · have e : splitK [45] 0 (k + 1) s = [s] := by rw [splitK, h1]; rfl
      rw [e]
      rw [prtB_noDash _ _ h2]; simp [onePart, Bool.and_comm]
    · rw [splitK, h1, if_neg (by simp)]
      have hc : (s.drop (i + 1)).count 45 ≤ k := by
        have e := congrArg (List.count 45) h4
        rw [List.count_append, List.count_cons_self, List.count_eq_zero.2 h3] at e
        omega
      have ih := split_parts k (s.drop (i + 1)) hc
      rw [List.all_cons]
      simp only [Int.toNat_natCast, List.length_cons, List.length_nil, Nat.add_zero]
      rw [ih]
      conv => rhs; rw [h4]
      rw [prtB_app _ _ _ h3, prtB_noDash _ _ h3]
      simp [onePart, Bool.and_comm]

theorem splitB_parts (s : ByteArray) : (splitB ⟨#[45]⟩ 0 (countB s ⟨#[45]⟩) s).all (fun p => onePart p.data.toList) = prtB false s.data.toList := by
  have h1 : (splitB ⟨#[45]⟩ 0 (countB s ⟨#[45]⟩) s).all (fun p => onePart p.data.toList) = ((splitB ⟨#[45]⟩ 0 (countB s ⟨#[45]⟩) s).map (·.data.toList)).all onePart := by rw [List.all_map]; rfl
  rw [h1, splitB_data]
  exact split_parts _ _ (by
    have : countB s ⟨#[45]⟩ = s.data.toList.count 45 := count_one 45 s.data.toList
    omega)

/- The document's way: each place is a sign, or a dash that stands between two signs. -/
def okAt (l : List UInt8) (i : Nat) : Bool := match l[i]? with
  | some c => sgn c || (decide (c = 45) && decide (i ≠ 0) && decide (i + 1 ≠ l.length) && decide (l[i - 1]? ≠ some 45))
  | none => true
def okR : Option UInt8 → List UInt8 → Bool
  | _, [] => true
  | p, c :: r => (sgn c || (decide (c = 45) && decide (p ≠ none) && decide (p ≠ some 45) && !r.isEmpty)) && okR (some c) r
theorem okR_prt : ∀ (r : List UInt8) (p : Option UInt8) (b : Bool), b = (decide (p ≠ none) && decide (p ≠ some 45)) → prtB b r = (okR p r && (b || !r.isEmpty))
  | [], p, b, _ => by cases b <;> rfl
  | c :: r, p, b, hb => by
    by_cases hc : c = 45
    · subst hc
      rw [prtB, if_pos rfl, okR_prt r (some 45) false rfl, okR, hb]
      have : sgn 45 = false := rfl
      rw [this]
      cases decide (p ≠ none) <;> cases decide (p ≠ some 45) <;> simp [Bool.and_comm]
    · rw [prtB, if_neg hc, okR_prt r (some c) true (by simp [hc]), okR]
      simp [hc]
theorem okR_all (l : List UInt8) : ∀ (r : List UInt8) (k : Nat), l.drop k = r → ((∀ i, k ≤ i → i < l.length → okAt l i = true) ↔ okR (if k = 0 then none else l[k - 1]?) r = true)
  | [], k, h => by
    have := List.drop_eq_nil_iff.1 h
    exact ⟨fun _ => rfl, fun _ i h1 h2 => by omega⟩
  | c :: r, k, h => by
    have hk : k < l.length := Nat.lt_of_not_le (fun e => by rw [List.drop_eq_nil_of_le e] at h; cases h)
    have hc : l[k]? = some c := by
      have e := congrArg (·[0]?) h
      simpa [List.getElem?_drop] using e
    have hr : l.drop (k + 1) = r := by
      have e := congrArg (List.drop 1) h
      simpa [List.drop_drop, Nat.add_comm] using e
    have hl : r.isEmpty = decide (k + 1 = l.length) := by
      rw [← hr]
      have e : (l.drop (k + 1)).length = l.length - (k + 1) := List.length_drop
      cases h3 : l.drop (k + 1) with
      | nil => rw [h3] at e; simp at e; simp; omega
      | cons x y => rw [h3] at e; simp at e; simp; omega
    have ih := okR_all l r (k + 1) hr
    rw [if_neg (by omega), Nat.add_sub_cancel, hc] at ih
    have hA : okAt l k = (sgn c || (decide (c = 45) && decide ((if k = 0 then none else l[k - 1]?) ≠ none) && decide ((if k = 0 then none else l[k - 1]?) ≠ some 45) && !r.isEmpty)) := by
      unfold okAt; rw [hc, hl]
      by_cases h0 : k = 0
      · subst h0; simp
      · have : ∃ d, l[k - 1]? = some d := ⟨_, List.getElem?_eq_getElem (by omega)⟩
        obtain ⟨d, hd⟩ := this
        simp only [if_neg h0, hd]
        by_cases h1 : c = 45 <;> by_cases h2 : d = 45 <;> by_cases h3 : k + 1 = l.length <;> simp [h0, h1, h2, h3]
    rw [okR, ← hA, Bool.and_eq_true, ← ih]
    exact ⟨fun H => ⟨H k (Nat.le_refl _) hk, fun i h1 h2 => H i (by omega) h2⟩, fun H i h1 h2 => by
      rcases Nat.eq_or_lt_of_le h1 with rfl | h3
      · exact H.1
      · exact H.2 i (by omega) h2⟩
/-- The document's tests are the program's. -/
theorem loc_yes (l : List UInt8) (h1 : 1 ≤ l.length) (h2 : l.length ≤ 32) (h : ∀ i, i < l.length → okAt l i = true) : locB l = true := by
  have e := (okR_all l l 0 rfl).1 (fun i _ hi => h i hi)
  rw [if_pos rfl] at e
  have hl : l.isEmpty = false := by cases l with
    | nil => simp at h1
    | cons _ _ => rfl
  rw [locB, okR_prt l none false rfl, e, hl]; simp [h2]
theorem loc_no (l : List UInt8) (h : l.length < 1 ∨ 32 < l.length ∨ ∃ i, i < l.length ∧ okAt l i = false) : locB l = false := by
  rcases h with h | h | ⟨i, hi, h⟩
  · have : l = [] := List.eq_nil_of_length_eq_zero (by omega)
    subst this; rfl
  · rw [locB, decide_eq_false (by omega)]; rfl
  · have e : okR none l ≠ true := fun e => by
      have := (okR_all l l 0 rfl).2 (by rw [if_pos rfl]; exact e) i (Nat.zero_le _) hi
      rw [h] at this; cases this
    rw [locB, okR_prt l none false rfl, Bool.eq_false_iff.2 e]; simp
theorem sgn_dash : sgn 45 = false := rfl

/-- The language: what stands ahead of the first dash. -/
def langF (l : List UInt8) : List UInt8 := l.takeWhile (· != 45)
theorem cut_lang (s : List UInt8) : (cut s [45]).1 = langF s := by
  have key : ∀ (a : List UInt8), (45 : UInt8) ∉ a → langF a = a := fun a ha => by
    induction a with
    | nil => rfl
    | cons c r ih =>
      have hc : c ≠ 45 := fun e => ha (by simp [e])
      rw [langF, List.takeWhile_cons_of_pos (by simpa using hc)]
      exact congrArg (c :: ·) (ih (fun e => ha (by simp [e])))
  rcases index_one_spec s with ⟨h1, h2⟩ | ⟨i, h1, h2, h3, h4⟩
  · rw [cut, if_neg (by rw [h1]; omega)]; exact (key s h2).symm
  · rw [cut, if_pos (by rw [h1]; omega), h1]
    simp only [Int.toNat_natCast]
    conv => rhs; rw [h4]
    unfold langF
    rw [List.takeWhile_append_of_pos (fun x hx => by simp; intro e; exact h3 (e ▸ hx))]
    simp

/-- The prefixes that end ahead of a dash, of the first i places, the longest first. -/
def pre (l : List UInt8) : Nat → List (List UInt8)
  | 0 => []
  | i + 1 => if 0 < i ∧ l[i]? = some 45 then l.take i :: pre l i else pre l i
def chainF (l : List UInt8) : List (List UInt8) := (if l = [] then [] else l :: pre l l.length) ++ [[]]
/-- The last dash of the first k bytes, or 0. -/
def lastD (l : List UInt8) : Nat → Nat
  | 0 => 0
  | k + 1 => if l[k]? = some 45 then k else lastD l k
theorem lastD_le (l : List UInt8) : ∀ k, lastD l k ≤ k
  | 0 => Nat.le_refl _
  | k + 1 => by have := lastD_le l k; unfold lastD; split <;> omega
theorem lastD_lt (l : List UInt8) : ∀ k, 0 < k → lastD l k < k
  | 0, h => by omega
  | k + 1, _ => by have := lastD_le l k; unfold lastD; split <;> omega
theorem pre_last (l : List UInt8) : ∀ k, pre l k = if lastD l k = 0 then [] else l.take (lastD l k) :: pre l (lastD l k)
  | 0 => rfl
  | k + 1 => by
    by_cases h : l[k]? = some 45
    · have e : lastD l (k + 1) = k := by rw [lastD, if_pos h]
      rw [e, pre]
      by_cases hk : k = 0
      · subst hk; simp [pre]
      · rw [if_pos ⟨by omega, h⟩, if_neg hk]
    · have e : lastD l (k + 1) = lastD l k := by rw [lastD, if_neg h]
      rw [e, pre, if_neg (fun e => h e.2)]
      exact pre_last l k
theorem pre_take (l : List UInt8) (n : Nat) : ∀ k, k ≤ n → pre (l.take n) k = pre l k
  | 0, _ => rfl
  | k + 1, h => by
    rw [pre, pre, pre_take l n k (by omega), List.getElem?_take_of_lt (by omega), List.take_take, Nat.min_eq_left (by omega)]
theorem lastD_take (l : List UInt8) (n : Nat) : ∀ k, k ≤ n → lastD (l.take n) k = lastD l k
  | 0, _ => rfl
  | k + 1, h => by
    rw [lastD, lastD, lastD_take l n k (by omega), List.getElem?_take_of_lt (by omega)]
theorem lastIndex_lastD (s : ByteArray) : ∀ k, k ≤ s.size → max 0 (lastIdx s 45 k) = (lastD s.data.toList k : Int)
  | 0, _ => rfl
  | k + 1, h => by
    have hk : k < s.data.toList.length := by rw [Array.length_toList]; exact h
    have e : s.data.toList[k]? = some s.data[k]! := by
      rw [List.getElem?_eq_getElem hk]; simp [getElem!_pos s.data k (by simpa using hk)]
    rw [lastIdx, lastD, e]
    by_cases hc : s.data[k]! = 45
    · rw [if_pos (by rw [hc]; rfl), if_pos (by rw [hc])]; omega
    · have hc2 : ¬ ((s.data[k]!).toNat : Int) = 45 := fun e => hc (UInt8.toNat_inj.1 (by have : (45 : UInt8).toNat = 45 := rfl; omega))
      rw [if_neg hc2, if_neg (fun e => hc (Option.some.inj e))]
      exact lastIndex_lastD s k (by omega)
end Go.Proofs.YtdnedbcmgkilaaaGreatDoor.Lc

end

/- strings.ContainsFunc's answer where it asks for a character that is neither letter nor digit: whether not all bytes are signs. -/
section

namespace Go.Proofs.YtdnedbcmgkilaaaGreatDoor.Lc
open Go.Lib

theorem dec_lo (s : ByteArray) (i : Nat) (h : (s.get! i).toNat < 128) : Utf8.decode s i = ((s.get! i).toNat, 1) := by
  rw [decode_at]; unfold decodeN; rw [if_pos h]
theorem decN_hi (n b0 b1 b2 b3 : Nat) (h : 128 ≤ b0) : 128 ≤ (decodeN n b0 b1 b2 b3).1 := by
  unfold decodeN
  rw [if_neg (by omega)]
  repeat' split
  all_goals (first | (simp only; omega) | decide)
theorem dec_hi (s : ByteArray) (i : Nat) (h : 128 ≤ (s.get! i).toNat) : 128 ≤ (Utf8.decode s i).1 := by
  rw [decode_at]; exact decN_hi _ _ _ _ _ h
theorem sgnN_hi (n : Nat) (h : 128 ≤ n) : sgnN n = false := by
  simp [sgnN]; omega
theorem get_list (s : ByteArray) (i : Nat) (h : i < s.data.toList.length) : s.get! i = s.data.toList[i] := by
  have h2 : i < s.data.size := by simpa using h
  show s.data[i]! = _
  rw [getElem!_pos s.data i h2, Array.getElem_toList]
theorem idx_sgn (s : ByteArray) : ∀ (f pos : Nat), s.size ≤ pos + f → (0 ≤ idxFuncFrom (fun n => !sgnN n) true s f pos ↔ (s.data.toList.drop pos).all sgn = false)
  | 0, pos, h => by
    have hl : s.data.toList.length ≤ pos := by rw [Array.length_toList]; exact h
    rw [List.drop_eq_nil_of_le hl, idxFuncFrom]; simp
  | f + 1, pos, h => by
    rw [idxFuncFrom]
    by_cases hp : pos < s.size
    · have hl : pos < s.data.toList.length := by rw [Array.length_toList]; exact hp
      have hg := get_list s pos hl
      rw [if_pos hp, List.drop_eq_getElem_cons hl, List.all_cons, ← hg]
      cases hs : sgn (s.get! pos) with
      | true =>
        have hlo : (s.get! pos).toNat < 128 := Nat.lt_of_not_le (fun e => by
          have := sgnN_hi _ e
          have h2 : sgnN (s.get! pos).toNat = true := hs
          rw [this] at h2; cases h2)
        rw [dec_lo s pos hlo]
        have h2 : sgnN (s.get! pos).toNat = true := hs
        simp only [h2, Bool.not_true, Bool.false_eq_true, if_false, Bool.true_and]
        exact idx_sgn s f (pos + 1) (by omega)
      | false =>
        have h2 : sgnN (Utf8.decode s pos).1 = false := by
          by_cases hlo : (s.get! pos).toNat < 128
          · rw [dec_lo s pos hlo]; exact hs
          · exact sgnN_hi _ (dec_hi s pos (by omega))
        simp only [h2, Bool.not_false, if_true, Bool.false_and]
        simp
    · have hl : s.data.toList.length ≤ pos := by rw [Array.length_toList]; exact Nat.le_of_not_lt hp
      rw [if_neg hp, List.drop_eq_nil_of_le hl]; simp
theorem contains_sgn (s : ByteArray) : decide (0 ≤ idxFunc (fun n => !sgnN n) true s) = !(s.data.toList.all sgn) := by
  have h := idx_sgn s s.size 0 (by omega)
  rw [List.drop_zero] at h
  unfold idxFunc
  cases hs : s.data.toList.all sgn with
  | true => rw [hs] at h; exact decide_eq_false (fun e => by cases h.1 e)
  | false => exact decide_eq_true (h.2 hs)
end Go.Proofs.YtdnedbcmgkilaaaGreatDoor.Lc

end
