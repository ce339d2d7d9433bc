/- The text of a valid rule is read as that rule: relations, rows, rules. -/
import Derived.Test.YtlgodcbffimcoaaDoorBk
namespace Go.Proofs.YtlgodcbffimcoaaDoor

theorem neg_back {l rest : List UInt8} {a : Nat} {ng : Bool} (h : l.drop a = (if ng then [32, 33, 61, 32] else [32, 61, 32]) ++ rest) :
    negF l (a, false) = (ng, (a + (if ng then ([32, 33, 61, 32] : List UInt8) else [32, 61, 32]).length, false)) := by
  cases ng with
  | true =>
    rw [if_pos rfl] at h ⊢
    unfold negF
    rw [next_yes (t := [32, 33]) (rest := 61 :: 32 :: rest) h, if_pos rfl, word_back h]
  | false =>
    rw [if_neg (by simp)] at h ⊢
    unfold negF
    rw [next_head2 (b := 32) (c := 33) (d := 61) (rest := 32 :: rest) h (by decide), if_neg (by simp), word_back h]
theorem neg_head (ng : Bool) : ∃ c r, (if ng then ([32, 33, 61, 32] : List UInt8) else [32, 61, 32]) = 32 :: c :: r ∧ c ≠ 37 := by
  cases ng
  · exact ⟨61, [32], rfl, by decide⟩
  · exact ⟨33, [61, 32], rfl, by decide⟩
theorem mod_back {l rest : List UInt8} {a : Nat} {m : Int} {ng : Bool} (hm : 0 ≤ m) (hm2 : m ≤ 1000000) (h : l.drop a = (if 0 < m then [32, 37, 32] ++ Lib.itoa m else []) ++ ((if ng then [32, 33, 61, 32] else [32, 61, 32]) ++ rest)) :
    modF l (a, false) = (m.toNat, (a + (if 0 < m then [32, 37, 32] ++ Lib.itoa m else []).length, false)) := by
  obtain ⟨c, r, hc, hne⟩ := neg_head ng
  by_cases h0 : 0 < m
  · rw [if_pos h0, itoa_nat hm, List.append_assoc] at h
    rw [if_pos h0, itoa_nat hm]
    have hd := drop_more h
    have hn := num_back hd (by omega) (by rw [hc]; exact (rfl : isDg 32 = false))
    unfold modF
    rw [next_yes (t := [32, 37]) (rest := 32 :: (Lib.decDigits m.toNat ++ ((if ng then [32, 33, 61, 32] else [32, 61, 32]) ++ rest))) h, if_pos rfl, word_back h, hn]
    simp only [Prod.mk.injEq, true_and, and_true, List.length_append, List.length_cons, List.length_nil]
    omega
  · rw [if_neg h0, List.nil_append, hc] at h
    rw [if_neg h0]
    unfold modF
    rw [next_head2 (b := 32) (c := 37) (d := c) (rest := r ++ rest) h (fun e => hne e.symm), if_neg (by simp)]
    simp only [List.length_nil, Nat.add_zero, Prod.mk.injEq, and_true]
    omega
theorem rel_back {l rest : List UInt8} {a : Nat} {x : Rl} (h : l.drop a = txR x ++ rest) (hx : rgR x = true) (hr : F2 rest) : relF l (a, false) = (x, (a + (txR x).length, false)) := by
  obtain ⟨⟨h0, -, h2⟩, h3⟩ := rgR_t hx
  obtain ⟨m, ng, sp⟩ := x
  simp only at h0 h2 h3
  unfold txR at h ⊢
  simp only at h ⊢
  rw [List.append_assoc, List.append_assoc, List.append_assoc] at h
  have hw := word_back h
  have d1 := drop_more h
  have hm := mod_back h0 h2 d1
  have d2 := drop_more d1
  have hn := neg_back d2
  have d3 := drop_more d2
  have hs := spans_back d3 h3 hr
  unfold relF
  rw [hw, hm]
  simp only
  rw [hn]
  simp only
  rw [hs]
  simp only [Prod.mk.injEq, Rl.mk.injEq, and_true, List.length_append, List.length_cons, List.length_nil]
  omega
theorem txR_head (x : Rl) : ∃ r, txR x = 105 :: r := ⟨_, by unfold txR; rfl⟩
theorem rowL_back {l rest : List UInt8} (hr : F3 rest) : ∀ (xs acc : List Rl) (a f : Nat), l.drop a = tailF txR [32, 97, 110, 100, 32] xs ++ rest → (∀ x ∈ xs, rgR x = true) → xs.length ≤ f → rowL l f acc (a, false) = (acc ++ xs, (a + (tailF txR [32, 97, 110, 100, 32] xs).length, false))
  | [], acc, a, f, h, _, _ => by
    have hn := F3.next (show l.drop a = rest from h) hr
    cases f with
    | zero => rw [rowL]; simp [tailF]
    | succ f => rw [rowL, hn, if_neg (by simp)]; simp [tailF]
  | x :: xs, acc, a, 0, _, _, hf => by simp at hf
  | x :: xs, acc, a, f + 1, h, hx, hf => by
    rw [tailF, List.append_assoc, List.append_assoc] at h
    have hd := drop_more h
    have hfo : F2 (tailF txR [32, 97, 110, 100, 32] xs ++ rest) := by
      cases xs with
      | nil => exact hr.f2
      | cons y r => exact ⟨rfl, by decide, by decide⟩
    rw [rowL, next_yes (t := [32, 97]) (rest := 110 :: 100 :: 32 :: (txR x ++ (tailF txR [32, 97, 110, 100, 32] xs ++ rest))) h, if_pos rfl, word_back h, rel_back hd (hx x (by simp)) hfo]
    simp only
    rw [rowL_back hr xs _ _ f (drop_more hd) (fun y hy => hx y (by simp [hy])) (by simpa using hf)]
    simp only [tailF, List.append_assoc, List.singleton_append, Prod.mk.injEq, and_true, List.length_append, List.length_cons, List.length_nil, true_and]
    omega
theorem row_back {l rest : List UInt8} {a : Nat} {xs : List Rl} (h : l.drop a = txRow xs ++ rest) (hx : rgRow xs = true) (hr : F3 rest) : rowF l (a, false) = (xs, (a + (txRow xs).length, false)) := by
  obtain ⟨h1, -, h3⟩ := allR_t hx
  unfold txRow at h ⊢
  cases xs with
  | nil => simp at h1
  | cons x r =>
    rw [join_tail, List.append_assoc] at h
    have hfo : F2 (tailF txR [32, 97, 110, 100, 32] r ++ rest) := by
      cases r with
      | nil => exact hr.f2
      | cons y r => exact ⟨rfl, by decide, by decide⟩
    have hd := drop_more h
    unfold rowF
    rw [rel_back h (h3 x (by simp)) hfo]
    simp only
    rw [rowL_back hr r [x] _ l.length hd (fun y hy => h3 y (by simp [hy])) (by have := drop_len hd; have := tail_len (f := txR) (c := 32) (s := [97, 110, 100, 32]) r; omega), join_tail]
    simp only [List.singleton_append, Prod.mk.injEq, and_true, List.length_append, true_and]
    omega
theorem ruleL_back {l : List UInt8} : ∀ (xs acc : Rule) (a f : Nat), l.drop a = tailF txRow [32, 111, 114, 32] xs → a ≤ l.length → (∀ x ∈ xs, rgRow x = true) → xs.length ≤ f → ruleL l f acc (a, false) = (acc ++ xs, (a + (tailF txRow [32, 111, 114, 32] xs).length, false))
  | [], acc, a, f, h, ha, _, _ => by
    have hl : a = l.length := by
      have : (l.drop a).length = 0 := by rw [h]; rfl
      rw [List.length_drop] at this; omega
    cases f with
    | zero => rw [ruleL]; simp [tailF]
    | succ f => rw [ruleL, if_neg (by simp; omega)]; simp [tailF]
  | x :: xs, acc, a, 0, _, _, _, hf => by simp at hf
  | x :: xs, acc, a, f + 1, h, ha, hx, hf => by
    rw [tailF] at h
    have hd := drop_more h
    have hfo : F3 (tailF txRow [32, 111, 114, 32] xs) := by
      cases xs with
      | nil => trivial
      | cons y r => exact ⟨rfl, by decide, by decide, by decide⟩
    have hlt : a < l.length := get_lt (get_drop h)
    have hl := drop_len hd
    have hl2 := drop_len h
    have hrow := row_back hd (hx x (by simp)) hfo
    have hge := (ge_row l (a + ([32, 111, 114, 32] : List UInt8).length, false)).2 (by simp only [List.length_cons, List.length_nil] at *; omega)
    rw [hrow] at hge
    rw [ruleL, if_pos ⟨rfl, hlt⟩, word_back h, hrow]
    simp only
    rw [ruleL_back xs _ _ f (drop_more hd) hge (fun y hy => hx y (by simp [hy])) (by simpa using hf)]
    simp only [tailF, List.append_assoc, List.singleton_append, Prod.mk.injEq, and_true, List.length_append, List.length_cons, List.length_nil, true_and]
    omega
theorem rule_back {xs : Rule} (hx : rgRule xs = true) : ruleF (txRule xs) (0, false) = (xs, ((txRule xs).length, false)) := by
  obtain ⟨h1, -, h3⟩ := allR_t hx
  cases xs with
  | nil => simp at h1
  | cons x r =>
    have h : (txRule (x :: r)).drop 0 = txRow x ++ tailF txRow [32, 111, 114, 32] r := by
      rw [List.drop_zero]; unfold txRule; exact join_tail x r
    have hfo : F3 (tailF txRow [32, 111, 114, 32] r) := by
      cases r with
      | nil => trivial
      | cons y r => exact ⟨rfl, by decide, by decide, by decide⟩
    have hd := drop_more h
    have hrow := row_back h (h3 x (by simp)) hfo
    have hge := (ge_row (txRule (x :: r)) (0, false)).2 (Nat.zero_le _)
    rw [hrow] at hge
    have hlen : (txRule (x :: r)).length = (txRow x).length + (tailF txRow [32, 111, 114, 32] r).length := by
      rw [List.drop_zero] at h; rw [h, List.length_append]
    unfold ruleF
    rw [hrow]
    simp only
    rw [ruleL_back r [x] _ _ hd hge (fun y hy => h3 y (by simp [hy])) (by have := drop_len (b := []) (by simpa using hd); have := tail_len (f := txRow) (c := 32) (s := [111, 114, 32]) r; omega)]
    simp only [List.singleton_append, Prod.mk.injEq, and_true, true_and]
    omega
theorem parse_back {xs : Rule} (hx : rgRule xs = true) (hl : ¬ 400 < (txRule xs).length) : parseF (txRule xs) = (xs, 0, 0) := by
  have h := rule_back hx
  unfold parseF
  rw [if_neg hl, h]
  simp only
  rw [if_neg (by simp), if_pos ⟨hx, trivial⟩]
end Go.Proofs.YtlgodcbffimcoaaDoor
