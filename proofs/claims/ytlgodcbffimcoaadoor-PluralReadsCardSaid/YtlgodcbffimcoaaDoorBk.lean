/- The text of a valid rule is read as that rule: plain mathematics. -/
import Derived.Test.YtlgodcbffimcoaaDoorPl
namespace Go.Proofs.YtlgodcbffimcoaaDoor

theorem drop_more {l a b : List UInt8} {i : Nat} (h : l.drop i = a ++ b) : l.drop (i + a.length) = b := by
  rw [← List.drop_drop, h, List.drop_left]
theorem drop_len {l a b : List UInt8} {i : Nat} (h : l.drop i = a ++ b) : a.length ≤ l.length - i := by
  have : (l.drop i).length = (a ++ b).length := by rw [h]
  rw [List.length_drop, List.length_append] at this; omega
theorem get_drop {l b : List UInt8} {i : Nat} {c : UInt8} (h : l.drop i = c :: b) : l[i]? = some c := by
  rw [← Nat.add_zero i, ← List.getElem?_drop, h]; rfl
/-- What does not begin with a digit. -/
def ND : List UInt8 → Prop
  | [] => True
  | c :: _ => isDg c = false
def foldG (g : Nat → UInt8 → Nat) : Nat → List UInt8 → Nat
  | n, [] => n
  | n, c :: r => foldG g (g n c) r
theorem foldG_cons (g : Nat → UInt8 → Nat) (n : Nat) (c : UInt8) (r : List UInt8) : foldG g n (c :: r) = foldG g (g n c) r := rfl
theorem foldG_ge {g : Nat → UInt8 → Nat} (hg : ∀ n c, n ≤ g n c) : ∀ (r : List UInt8) (n : Nat), n ≤ foldG g n r
  | [], _ => Nat.le_refl _
  | c :: r, n => Nat.le_trans (hg n c) (foldG_ge hg r (g n c))
theorem foldG_snoc (g : Nat → UInt8 → Nat) : ∀ (r : List UInt8) (n : Nat) (c : UInt8), foldG g n (r ++ [c]) = g (foldG g n r) c
  | [], n, c => rfl
  | d :: r, n, c => by
    rw [List.cons_append, foldG_cons, foldG_snoc g r, foldG_cons]
/-- One digit more. -/
def nx (n : Nat) (c : UInt8) : Nat := n * 10 + (c.toNat - 48)
theorem nx_def (n : Nat) (c : UInt8) : nx n c = n * 10 + (c.toNat - 48) := by unfold nx; rfl
theorem nx_ge (n : Nat) (c : UInt8) : n ≤ nx n c := by rw [nx_def]; omega
abbrev foldD (n : Nat) (l : List UInt8) : Nat := foldG nx n l
theorem numL_step {l : List UInt8} {f n a : Nat} {c : UInt8} (hc : l[a]? = some c) (hd : isDg c = true) (hb : nx n c ≤ 1000000) : numL l (f + 1) n a = numL l f (nx n c) (a + 1) := by
  rw [nx_def] at *
  rw [numL, hc]
  exact if_pos ⟨hd, hb⟩
theorem numL_stop {l : List UInt8} {f n a : Nat} {c : UInt8} (hc : l[a]? = some c) (hd : isDg c = false) : numL l (f + 1) n a = (n, a) := by
  rw [numL, hc]
  exact if_neg (fun hh => by rw [hd] at hh; cases hh.1)
theorem numL_none {l : List UInt8} {f n a : Nat} (hc : l[a]? = none) : numL l (f + 1) n a = (n, a) := by
  rw [numL, hc]
theorem numL_run {l rest : List UInt8} (hr : ND rest) (M : Nat) (hM : M = 1000000) (ds : List UInt8) : ∀ (n a f : Nat), l.drop a = ds ++ rest → (∀ c ∈ ds, isDg c = true) → foldD n ds ≤ M → ds.length ≤ f → numL l f n a = (foldD n ds, a + ds.length) := by
  induction ds with
  | nil =>
    intro n a f h _ _ _
    rw [List.nil_append] at h
    cases f with
    | zero => rw [numL]; rfl
    | succ f =>
      cases hc : l[a]? with
      | none => exact numL_none hc
      | some c =>
        have h2 : l.drop a = c :: l.drop (a + 1) := by
          obtain ⟨hi, rfl⟩ := List.getElem?_eq_some_iff.1 hc
          exact List.drop_eq_getElem_cons hi
        rw [← h, h2] at hr
        exact numL_stop hc hr
  | cons c ds ih =>
    intro n a f h hd hm hf
    rw [List.length_cons] at hf
    cases f with
    | zero => omega
    | succ f =>
      have hc := get_drop h
      have h2 : l.drop (a + 1) = ds ++ rest := drop_more (a := [c]) h
      have e1 : foldD n (c :: ds) = foldD (nx n c) ds := foldG_cons nx n c ds
      rw [e1] at hm ⊢
      have hb : nx n c ≤ M := Nat.le_trans (foldG_ge nx_ge ds _) hm
      have ih2 := ih (nx n c) (a + 1) f h2 (fun x hx => hd x (by simp [hx])) hm (by omega)
      rw [numL_step hc (hd c (by simp)) (by rw [← hM]; exact hb), ih2, List.length_cons, show a + 1 + ds.length = a + (ds.length + 1) by omega]
theorem dig_ofNat {d : Nat} (h : d < 10) : isDg (UInt8.ofNat (48 + d)) = true ∧ (UInt8.ofNat (48 + d)).toNat = 48 + d := by
  have : (UInt8.ofNat (48 + d)).toNat = 48 + d := by rw [UInt8.toNat_ofNat']; omega
  exact ⟨by unfold isDg; rw [this]; simp; omega, this⟩
theorem dec_facts (u : Nat) : (∀ c ∈ Lib.decDigits u, isDg c = true) ∧ foldD 0 (Lib.decDigits u) = u ∧ 1 ≤ (Lib.decDigits u).length ∧ (0 < u → (Lib.decDigits u).head? ≠ some 48) := by
  induction u using Nat.strongRecOn with
  | _ u ih =>
    rw [Lib.decDigits]
    by_cases h : u < 10
    · rw [dif_pos h]
      obtain ⟨h1, h2⟩ := dig_ofNat h
      refine ⟨by simpa using h1, ?_, by simp, fun h0 hh => ?_⟩
      · rw [foldD, foldG_cons, nx_def, h2, foldG]; omega
      · simp only [List.head?_cons, Option.some.injEq] at hh
        rw [hh] at h2
        have : (48 : UInt8).toNat = 48 := rfl
        omega
    · rw [dif_neg h]
      obtain ⟨i1, i2, i3, i4⟩ := ih (u / 10) (by omega)
      obtain ⟨h1, h2⟩ := dig_ofNat (show u % 10 < 10 by omega)
      refine ⟨fun c hc => ?_, ?_, by simp, fun _ => ?_⟩
      · rcases List.mem_append.1 hc with hc | hc
        · exact i1 c hc
        · rw [List.mem_singleton.1 hc]; exact h1
      · rw [foldD, foldG_snoc, nx_def, h2]; rw [foldD] at i2; rw [i2]; omega
      · rw [List.head?_append]
        cases hh : (Lib.decDigits (u / 10)).head? with
        | none => rw [List.head?_eq_none_iff] at hh; rw [hh] at i3; simp at i3
        | some c => rw [hh] at i4; simpa using i4 (by omega)
theorem num_back {l rest : List UInt8} {a u : Nat} (h : l.drop a = Lib.decDigits u ++ rest) (hu : u ≤ 1000000) (hr : ND rest) : numF l (a, false) = (u, (a + (Lib.decDigits u).length, false)) := by
  obtain ⟨h1, h2, h3, h4⟩ := dec_facts u
  unfold numF
  rw [if_neg (by simp)]
  rcases Nat.eq_zero_or_pos u with h0 | h0
  · subst h0
    have hz : Lib.decDigits 0 = [48] := by rw [Lib.decDigits]; rfl
    rw [hz] at h ⊢
    rw [if_pos (get_drop h)]; rfl
  · have hne : l[a]? ≠ some 48 := by
      cases hd : Lib.decDigits u with
      | nil => rw [hd] at h3; simp at h3
      | cons c r =>
        rw [hd] at h h4
        rw [get_drop h]
        simpa using h4 h0
    rw [if_neg hne, numL_run hr 1000000 rfl _ _ _ _ h h1 (Nat.le_trans (Nat.le_of_eq h2) hu) (drop_len h), h2]
    simp only [Prod.mk.injEq, decide_eq_false_iff_not, true_and]
    omega
theorem word_back {l : List UInt8} : ∀ {t rest : List UInt8} {a : Nat}, l.drop a = t ++ rest → wordF l t (a, false) = (a + t.length, false)
  | [], rest, a, h => rfl
  | c :: r, rest, a, h => by
    rw [wordF, if_pos (next_iff.2 ⟨rfl, get_drop h⟩)]
    have h2 : l.drop (a + 1) = r ++ rest := drop_more (a := [c]) h
    rw [word_back h2, List.length_cons]
    simp only [Prod.mk.injEq, and_true]; omega
theorem next_yes {l t rest : List UInt8} {a : Nat} (h : l.drop a = t ++ rest) : nextF l t (a, false) = true := by
  unfold nextF; rw [h]; simp
theorem next_head {l t rest : List UInt8} {a : Nat} {c d : UInt8} (h : l.drop a = d :: rest) (hne : c ≠ d) : nextF l (c :: t) (a, false) = false := by
  unfold nextF; rw [h]; simp [List.isPrefixOf, hne]
theorem next_head2 {l t rest : List UInt8} {a : Nat} {b c d : UInt8} (h : l.drop a = b :: d :: rest) (hne : c ≠ d) : nextF l (b :: c :: t) (a, false) = false := by
  unfold nextF; rw [h]; simp [List.isPrefixOf, hne]
theorem next_nil {l t : List UInt8} {a : Nat} {c : UInt8} (h : l.drop a = []) : nextF l (c :: t) (a, false) = false := by
  unfold nextF; rw [h]; rfl
/-- What may stand behind a span; behind spans; behind a row. -/
def F1 : List UInt8 → Prop
  | [] => True
  | c :: _ => isDg c = false ∧ c ≠ 46
def F2 : List UInt8 → Prop
  | [] => True
  | c :: _ => isDg c = false ∧ c ≠ 46 ∧ c ≠ 44
def F3 : List UInt8 → Prop
  | [] => True
  | [c] => isDg c = false ∧ c ≠ 46 ∧ c ≠ 44
  | c :: d :: _ => isDg c = false ∧ c ≠ 46 ∧ c ≠ 44 ∧ d ≠ 97
theorem F2.f1 : ∀ {r : List UInt8}, F2 r → F1 r
  | [], _ => trivial
  | _ :: _, h => ⟨h.1, h.2.1⟩
theorem F1.nd : ∀ {r : List UInt8}, F1 r → ND r
  | [], _ => trivial
  | _ :: _, h => h.1
theorem F3.f2 : ∀ {r : List UInt8}, F3 r → F2 r
  | [], _ => trivial
  | [_], h => h
  | _ :: _ :: _, h => ⟨h.1, h.2.1, h.2.2.1⟩
theorem F1.next {l rest : List UInt8} {a : Nat} (h : l.drop a = rest) (hr : F1 rest) : nextF l [46] (a, false) = false := by
  cases rest with
  | nil => exact next_nil h
  | cons c r => exact next_head h (fun e => hr.2 e.symm)
theorem F2.next {l rest : List UInt8} {a : Nat} (h : l.drop a = rest) (hr : F2 rest) : nextF l [44] (a, false) = false := by
  cases rest with
  | nil => exact next_nil h
  | cons c r => exact next_head h (fun e => hr.2.2 e.symm)
theorem F3.next {l rest : List UInt8} {a : Nat} (h : l.drop a = rest) (hr : F3 rest) : nextF l [32, 97] (a, false) = false := by
  match rest, hr with
  | [], _ => exact next_nil h
  | [c], _ => unfold nextF; rw [h]; simp [List.isPrefixOf]
  | c :: d :: r, hr =>
    unfold nextF; rw [h]; simp [List.isPrefixOf]
    intro _ e; exact absurd e.symm hr.2.2.2
theorem rgS_t {x : Sp} (h : rgS x = true) : 0 ≤ x.lo ∧ x.lo ≤ x.hi ∧ x.hi ≤ 1000000 := by simpa [rgS] using h
theorem allR_t {α : Type} {f : α → Bool} {l : List α} (h : allR f l = true) : 1 ≤ l.length ∧ l.length ≤ 10 ∧ ∀ x ∈ l, f x = true := by
  unfold allR at h
  rw [Bool.and_eq_true, decide_eq_true_eq, List.all_eq_true] at h
  exact ⟨h.1.1, h.1.2, h.2⟩
theorem rgR_t {x : Rl} (h : rgR x = true) : (0 ≤ x.m ∧ x.m ≠ 1 ∧ x.m ≤ 1000000) ∧ allR rgS x.sp = true := by
  unfold rgR at h
  rw [Bool.and_eq_true, decide_eq_true_eq] at h
  exact h
theorem itoa_nat {n : Int} (h : 0 ≤ n) : Lib.itoa n = Lib.decDigits n.toNat := by unfold Lib.itoa; rw [if_neg (by omega)]
theorem span_back {l rest : List UInt8} {a : Nat} {x : Sp} (h : l.drop a = txS x ++ rest) (hx : rgS x = true) (hr : F1 rest) : spanF l (a, false) = (x, (a + (txS x).length, false)) := by
  obtain ⟨h0, h1, h2⟩ := rgS_t hx
  obtain ⟨lo, hi⟩ := x
  simp only at h0 h1 h2
  unfold txS at h ⊢
  simp only at h ⊢
  by_cases he : hi = lo
  · rw [if_pos he, itoa_nat h0] at h
    rw [if_pos he, itoa_nat h0]
    have hn := num_back h (by omega) hr.nd
    unfold spanF
    rw [hn]
    simp only
    rw [F1.next (drop_more h) hr, if_neg (by simp)]
    simp only [Prod.mk.injEq, Sp.mk.injEq, and_true]
    omega
  · rw [if_neg he, itoa_nat h0, itoa_nat (show 0 ≤ hi by omega), List.append_assoc, List.append_assoc] at h
    rw [if_neg he, itoa_nat h0, itoa_nat (show 0 ≤ hi by omega)]
    have hn := num_back h (by omega) (show isDg 46 = false from rfl)
    have hd := drop_more h
    have hw := word_back (t := [46, 46]) hd
    have hd2 := drop_more hd
    have hn2 := num_back hd2 (by omega) hr.nd
    unfold spanF
    rw [hn]
    simp only
    rw [next_yes (t := [46]) (rest := 46 :: (Lib.decDigits hi.toNat ++ rest)) hd, if_pos rfl, hw, hn2]
    simp only [Prod.mk.injEq, Sp.mk.injEq, and_true, List.length_append, List.length_cons, List.length_nil]
    omega

def tailF {α : Type} (f : α → List UInt8) (sep : List UInt8) : List α → List UInt8
  | [] => []
  | x :: r => sep ++ (f x ++ tailF f sep r)
theorem join_tail {α : Type} {f : α → List UInt8} {sep : List UInt8} : ∀ (x : α) (r : List α), joinF f sep (x :: r) = f x ++ tailF f sep r
  | x, [] => by simp [joinF, tailF]
  | x, y :: r => by rw [joinF, join_tail y r, tailF]; simp [List.append_assoc]
theorem spansL_back {l rest : List UInt8} (hr : F2 rest) : ∀ (xs acc : List Sp) (a f : Nat), l.drop a = tailF txS [44] xs ++ rest → (∀ x ∈ xs, rgS x = true) → xs.length ≤ f → spansL l f acc (a, false) = (acc ++ xs, (a + (tailF txS [44] xs).length, false))
  | [], acc, a, f, h, _, _ => by
    have hn := F2.next (show l.drop a = rest from h) hr
    cases f with
    | zero => rw [spansL]; simp [tailF]
    | succ f => rw [spansL, hn, if_neg (by simp)]; simp [tailF]
  | x :: xs, acc, a, 0, _, _, hf => by simp at hf
  | x :: xs, acc, a, f + 1, h, hx, hf => by
    rw [tailF, List.append_assoc, List.append_assoc] at h
    have hd := drop_more h
    have hfo : F1 (tailF txS [44] xs ++ rest) := by
      cases xs with
      | nil => exact hr.f1
      | cons y r => exact ⟨rfl, by decide⟩
    rw [spansL, next_yes h, if_pos rfl, word_back h, span_back hd (hx x (by simp)) hfo]
    simp only
    rw [spansL_back hr xs _ _ f (drop_more hd) (fun y hy => hx y (by simp [hy])) (by simpa using hf)]
    simp only [tailF, List.append_assoc, List.singleton_append, Prod.mk.injEq, and_true, List.length_append, List.length_cons, List.length_nil, true_and]
    omega
theorem tail_len {α : Type} {f : α → List UInt8} {c : UInt8} {s : List UInt8} : ∀ (xs : List α), xs.length ≤ (tailF f (c :: s) xs).length
  | [] => Nat.zero_le _
  | x :: r => by
    have := tail_len (f := f) (c := c) (s := s) r
    simp only [tailF, List.length_append, List.length_cons] at this ⊢; omega
theorem spans_back {l rest : List UInt8} {a : Nat} {xs : List Sp} (h : l.drop a = joinF txS [44] xs ++ rest) (hx : allR rgS xs = true) (hr : F2 rest) : spansF l (a, false) = (xs, (a + (joinF txS [44] xs).length, false)) := by
  obtain ⟨h1, -, h3⟩ := allR_t hx
  cases xs with
  | nil => simp at h1
  | cons x r =>
    rw [join_tail, List.append_assoc] at h
    have hfo : F1 (tailF txS [44] r ++ rest) := by
      cases r with
      | nil => exact hr.f1
      | cons y r => exact ⟨rfl, by decide⟩
    have hd := drop_more h
    unfold spansF
    rw [span_back h (h3 x (by simp)) hfo]
    simp only
    rw [spansL_back hr r [x] _ l.length hd (fun y hy => h3 y (by simp [hy])) (by have := drop_len hd; have := tail_len (f := txS) (c := 44) (s := []) r; omega), join_tail]
    simp only [List.singleton_append, Prod.mk.injEq, and_true, List.length_append, true_and]
    omega
end Go.Proofs.YtlgodcbffimcoaaDoor
