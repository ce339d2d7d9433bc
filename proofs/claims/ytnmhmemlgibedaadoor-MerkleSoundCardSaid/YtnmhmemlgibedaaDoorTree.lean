/- Trees of digests as plain functions: rows, tops, proofs, and what is shown; mathematics alone, for any digest that has 32 bytes. -/
import Derived.WalkKit
namespace Go.Proofs.YtnmhmemlgibedaaDoor

abbrev BA := ByteArray
theorem BA.ext {a b : BA} (h : a.data.toList = b.data.toList) : a = b := by
  cases a; cases b; simp at h; rw [ByteArray.mk.injEq]; exact h
theorem BA.len (s : BA) : s.data.toList.length = s.size := by simp

/-- The text of a pair. -/
def pairT (a b : BA) : BA := (⟨#[1]⟩ : BA) ++ a ++ b
/-- The text of a root. -/
def num4 (n : Nat) : BA := ⟨#[UInt8.ofNat (n / 16777216), UInt8.ofNat (n / 65536), UInt8.ofNat (n / 256), UInt8.ofNat n]⟩
def crownT (n : Nat) (t : BA) : BA := (⟨#[2]⟩ : BA) ++ num4 n ++ t
theorem pairT_list (a b : BA) : (pairT a b).data.toList = 1 :: (a.data.toList ++ b.data.toList) := by
  simp [pairT]
theorem crownT_list (n : Nat) (t : BA) : (crownT n t).data.toList = 2 :: UInt8.ofNat (n / 16777216) :: UInt8.ofNat (n / 65536) :: UInt8.ofNat (n / 256) :: UInt8.ofNat n :: t.data.toList := by
  simp [crownT, num4]
theorem pairT_size (a b : BA) : (pairT a b).size = 1 + a.size + b.size := by
  simp [pairT, ByteArray.size_append]; rfl
theorem crownT_size (n : Nat) (t : BA) : (crownT n t).size = 5 + t.size := by
  simp [crownT, ByteArray.size_append]; rfl
theorem pairT_inj {a b c d : BA} (h : pairT a b = pairT c d) (hs : a.size = c.size) : a = c ∧ b = d := by
  have h1 := congrArg (fun x : BA => x.data.toList) h
  simp only [pairT_list, List.cons.injEq, true_and] at h1
  have h2 := List.append_inj h1 (by rw [BA.len, BA.len]; exact hs)
  exact ⟨BA.ext h2.1, BA.ext h2.2⟩
theorem ofNat_inj {a b : Nat} (h : UInt8.ofNat a = UInt8.ofNat b) : a % 256 = b % 256 := by
  have := congrArg UInt8.toNat h
  simpa using this
theorem crownT_inj {n m : Nat} {a b : BA} (h : crownT n a = crownT m b) (hn : n ≤ 4294967295) (hm : m ≤ 4294967295) : n = m ∧ a = b := by
  have h1 := congrArg (fun x : BA => x.data.toList) h
  simp only [crownT_list, List.cons.injEq, true_and] at h1
  obtain ⟨h2, h3, h4, h5, h6⟩ := h1
  have := ofNat_inj h2
  have := ofNat_inj h3
  have := ofNat_inj h4
  have := ofNat_inj h5
  exact ⟨by omega, BA.ext h6⟩

section
variable (D : BA → BA)

/-- The next row, and the texts that its digests were made of. -/
def above : List BA → List BA
  | a :: b :: r => D (pairT a b) :: above r
  | [a] => [a]
  | [] => []
def aboveT : List BA → List BA
  | a :: b :: r => pairT a b :: aboveT r
  | _ => []
theorem above_length : ∀ r : List BA, (above D r).length = (r.length + 1) / 2
  | a :: b :: r => by
    rw [above, List.length_cons, above_length r]
    simp only [List.length_cons]
    omega
  | [a] => by simp [above]
  | [] => by simp [above]
theorem above_lt {r : List BA} (h : ¬ r.length ≤ 1) : (above D r).length < r.length := by
  rw [above_length]; omega
abbrev AllS (r : List BA) : Prop := ∀ x ∈ r, x.size = 32
theorem above_sized (hD : ∀ s, (D s).size = 32) : ∀ r : List BA, AllS r → AllS (above D r)
  | a :: b :: r, h => by
    intro x hx
    rw [above, List.mem_cons] at hx
    rcases hx with rfl | hx
    · exact hD _
    · exact above_sized hD r (fun y hy => h y (by simp [hy])) x hx
  | [a], h => h
  | [], h => h

def z32 : BA := ⟨(List.replicate 32 (0 : UInt8)).toArray⟩
def topF (r : List BA) : BA := if _h : r.length ≤ 1 then r.headD z32 else topF (above D r)
termination_by r.length
decreasing_by exact above_lt D _h
def topT (r : List BA) : List BA := if _h : r.length ≤ 1 then [] else aboveT r ++ topT (above D r)
termination_by r.length
decreasing_by exact above_lt D _h
def sib (i : Nat) : Nat := if i % 2 = 1 then i - 1 else i + 1
def proofF (r : List BA) (i : Nat) : List BA := if _h : r.length ≤ 1 then [] else (match r[sib i]? with | some q => [q] | none => []) ++ proofF (above D r) (i / 2)
termination_by r.length
decreasing_by exact above_lt D _h

/-- What a leaf and the elements beside make; none: too few or too many of them. -/
def stepT (i : Nat) (d q : BA) : BA := if i % 2 = 1 then pairT q d else pairT d q
def upF (n i : Nat) (d : BA) (p : List BA) : Option BA :=
  if _h : n ≤ 1 then (match p with | [] => some d | _ => none)
  else if sib i < n then (match p with | [] => none | q :: p' => upF ((n + 1) / 2) (i / 2) (D (stepT i d q)) p')
  else upF ((n + 1) / 2) (i / 2) d p
termination_by n
decreasing_by all_goals omega
def upT (n i : Nat) (d : BA) (p : List BA) : List BA :=
  if _h : n ≤ 1 then []
  else if sib i < n then (match p with | [] => [] | q :: p' => stepT i d q :: upT ((n + 1) / 2) (i / 2) (D (stepT i d q)) p')
  else upT ((n + 1) / 2) (i / 2) d p
termination_by n
decreasing_by all_goals omega

/-- Each place of a row, in the next row. -/
theorem above_pair : ∀ (r : List BA) (k : Nat) (a b : BA), r[2 * k]? = some a → r[2 * k + 1]? = some b → (above D r)[k]? = some (D (pairT a b)) ∧ pairT a b ∈ aboveT r
  | x :: y :: r, 0, a, b, ha, hb => by
    simp at ha hb
    subst ha hb
    exact ⟨by simp [above], by simp [aboveT]⟩
  | x :: y :: r, k + 1, a, b, ha, hb => by
    rw [show 2 * (k + 1) = 2 * k + 1 + 1 by omega, List.getElem?_cons_succ, List.getElem?_cons_succ] at ha
    rw [show 2 * (k + 1) + 1 = 2 * k + 1 + 1 + 1 by omega, List.getElem?_cons_succ, List.getElem?_cons_succ] at hb
    obtain ⟨h1, h2⟩ := above_pair r k a b ha hb
    exact ⟨by rw [above, List.getElem?_cons_succ]; exact h1, by rw [aboveT]; exact List.mem_cons_of_mem _ h2⟩
  | [x], k, a, b, ha, hb => by simp at hb
  | [], k, a, b, ha, hb => by simp at hb
theorem above_last : ∀ (r : List BA) (k : Nat) (a : BA), r[2 * k]? = some a → r[2 * k + 1]? = none → (above D r)[k]? = some a
  | x :: y :: r, 0, a, ha, hb => by simp at hb
  | x :: y :: r, k + 1, a, ha, hb => by
    rw [show 2 * (k + 1) = 2 * k + 1 + 1 by omega, List.getElem?_cons_succ, List.getElem?_cons_succ] at ha
    rw [show 2 * (k + 1) + 1 = 2 * k + 1 + 1 + 1 by omega, List.getElem?_cons_succ, List.getElem?_cons_succ] at hb
    rw [above, List.getElem?_cons_succ]
    exact above_last r k a ha hb
  | [x], 0, a, ha, hb => by simpa [above] using ha
  | [x], k + 1, a, ha, hb => by simp at ha
  | [], k, a, ha, hb => by simp at ha

/-- A place of a row with its neighbour. -/
theorem above_at {r : List BA} {i : Nat} {d q : BA} (hd : r[i]? = some d) (hq : r[sib i]? = some q) : (above D r)[i / 2]? = some (D (stepT i d q)) ∧ stepT i d q ∈ aboveT r := by
  unfold sib at hq
  unfold stepT
  by_cases h : i % 2 = 1
  · rw [if_pos h] at hq ⊢
    refine above_pair D r (i / 2) q d ?_ ?_
    · rw [← hq]; congr 1; omega
    · rw [← hd]; congr 1; omega
  · rw [if_neg h] at hq ⊢
    refine above_pair D r (i / 2) d q ?_ ?_
    · rw [← hd]; congr 1; omega
    · rw [← hq]; congr 1; omega
theorem above_alone {r : List BA} {i : Nat} {d : BA} (hd : r[i]? = some d) (hq : r[sib i]? = none) : (above D r)[i / 2]? = some d := by
  unfold sib at hq
  by_cases h : i % 2 = 1
  · rw [if_pos h] at hq
    have h1 := (List.getElem?_eq_some_iff.1 hd).1
    rw [List.getElem?_eq_none_iff] at hq
    omega
  · rw [if_neg h] at hq
    refine above_last D r (i / 2) d ?_ ?_
    · rw [← hd]; congr 1; omega
    · rw [← hq]; congr 1; omega
theorem half_lt {n i : Nat} (h : i < n) : i / 2 < (n + 1) / 2 := by omega
theorem sib_lt {n i : Nat} : sib i < n → i < n ∨ i % 2 = 1 := by unfold sib; split <;> omega

/-- The proof of a place shows what stands there. -/
theorem up_shows : ∀ (r : List BA) (i : Nat) (d : BA), r[i]? = some d → upF D r.length i d (proofF D r i) = some (topF D r) := by
  intro r
  induction hn : r.length using Nat.strongRecOn generalizing r with
  | _ n ih =>
    subst hn
    intro i d hd
    have hi := (List.getElem?_eq_some_iff.1 hd).1
    unfold upF proofF topF
    by_cases h : r.length ≤ 1
    · rw [dif_pos h, dif_pos h, dif_pos h]
      match r, h, hi, hd with
      | [x], _, hi, hd =>
        obtain rfl : i = 0 := by simpa using hi
        simp at hd
        subst hd
        rfl
    · rw [dif_neg h, dif_neg h, dif_neg h]
      have hl := above_length D r
      cases hq : r[sib i]? with
      | some q =>
        have hs := (List.getElem?_eq_some_iff.1 hq).1
        rw [if_pos hs]
        have := ih _ (above_lt D h) (above D r) rfl (i / 2) _ (above_at D hd hq).1
        rw [hl] at this
        exact this
      | none =>
        have hs : ¬ sib i < r.length := by rw [List.getElem?_eq_none_iff] at hq; omega
        rw [if_neg hs]
        have := ih _ (above_lt D h) (above D r) rfl (i / 2) _ (above_alone D hd hq)
        rw [hl] at this
        exact this

/-- Two unlike texts have one digest. -/
def Meet (xs ys : List BA) : Prop := ∃ x ∈ xs, ∃ y ∈ ys, x ≠ y ∧ D x = D y
theorem Meet.mono {xs ys xs' ys' : List BA} (h : Meet D xs ys) (h1 : ∀ x ∈ xs, x ∈ xs') (h2 : ∀ y ∈ ys, y ∈ ys') : Meet D xs' ys' := by
  obtain ⟨x, hx, y, hy, h3⟩ := h
  exact ⟨x, h1 x hx, y, h2 y hy, h3⟩

/-- What is shown to make the top stands there, or two texts meet. -/
theorem up_sound (hD : ∀ s, (D s).size = 32) : ∀ (r : List BA) (i : Nat) (d : BA) (p : List BA), AllS r → i < r.length → d.size = 32 → AllS p → upF D r.length i d p = some (topF D r) → (r[i]? = some d ∧ p = proofF D r i) ∨ Meet D (topT D r) (upT D r.length i d p) := by
  intro r
  induction hn : r.length using Nat.strongRecOn generalizing r with
  | _ n ih =>
    subst hn
    intro i d p hr hi hd hp hu
    unfold upF topF at hu
    unfold proofF topT upT
    by_cases h : r.length ≤ 1
    · rw [dif_pos h, dif_pos h] at hu
      rw [dif_pos h, dif_pos h, dif_pos h]
      match r, h, hi, hu with
      | [x], _, hi, hu =>
        obtain rfl : i = 0 := by simpa using hi
        cases p with
        | nil => exact .inl ⟨by simpa using hu.symm, rfl⟩
        | cons => cases hu
    · rw [dif_neg h, dif_neg h] at hu
      rw [dif_neg h, dif_neg h, dif_neg h]
      have hl := above_length D r
      have hra := above_sized D hD r hr
      obtain ⟨c, hc⟩ : ∃ c, r[i]? = some c := ⟨r[i], List.getElem?_eq_getElem hi⟩
      have hcs : c.size = 32 := hr c (List.mem_of_getElem? hc)
      cases hq : r[sib i]? with
      | some q =>
        have hs := (List.getElem?_eq_some_iff.1 hq).1
        have hqs : q.size = 32 := hr q (List.mem_of_getElem? hq)
        rw [if_pos hs] at hu ⊢
        cases p with
        | nil => cases hu
        | cons z p =>
          have hzs : z.size = 32 := hp z (by simp)
          simp only at hu ⊢
          rw [← hl] at hu
          obtain ⟨h1, h2⟩ := above_at D hc hq
          rcases ih _ (above_lt D h) (above D r) rfl (i / 2) _ p hra (by rw [hl]; omega) (hD _) (fun y hy => hp y (by simp [hy])) hu with ⟨h3, h4⟩ | h3
          · rw [h1] at h3
            by_cases ht : stepT i c q = stepT i d z
            · left
              have : c = d ∧ q = z := by
                unfold stepT at ht
                split at ht
                · obtain ⟨h5, h6⟩ := pairT_inj ht (by omega); exact ⟨h6, h5⟩
                · exact pairT_inj ht (by omega)
              obtain ⟨rfl, rfl⟩ := this
              exact ⟨hc, by rw [h4]; rfl⟩
            · right
              exact ⟨_, List.mem_append_left _ h2, _, by simp, ht, Option.some.inj h3⟩
          · right
            rw [← hl]
            exact h3.mono D (fun x hx => List.mem_append_right _ hx) (fun y hy => by simp [hy])
      | none =>
        have hs : ¬ sib i < r.length := by rw [List.getElem?_eq_none_iff] at hq; omega
        rw [if_neg hs] at hu ⊢
        rw [← hl] at hu ⊢
        have h1 := above_alone D hc hq
        rcases ih _ (above_lt D h) (above D r) rfl (i / 2) _ p hra (by rw [hl]; omega) hd hp hu with ⟨h3, h4⟩ | h3
        · rw [h1] at h3
          obtain rfl := Option.some.inj h3
          exact .inl ⟨hc, by rw [h4]; rfl⟩
        · right
          exact h3.mono D (fun x hx => List.mem_append_right _ hx) (fun y hy => hy)

/-- The root of leaves; what is checked. -/
def rootF (l : List BA) : BA := D (crownT l.length (topF D l))
def rootT (l : List BA) : List BA := topT D l ++ [crownT l.length (topF D l)]
structure Right (n i : Int) (leaf : BA) (p : List BA) : Prop where
  n1 : 1 ≤ n
  n2 : n ≤ 4096
  i1 : 0 ≤ i
  i2 : i < n
  leaf : leaf.size = 32
  all : AllS p
/-- What is shown by a place, a leaf and a proof: the top. -/
def Shown (n i : Int) (leaf : BA) (p : List BA) (e : BA) : Prop := Right n i leaf p ∧ upF D n.toNat i.toNat leaf p = some e
def shownT (n i : Int) (leaf : BA) (p : List BA) (e : BA) : List BA := upT D n.toNat i.toNat leaf p ++ [crownT n.toNat e]

theorem proof_sized (hD : ∀ s, (D s).size = 32) : ∀ (r : List BA) (i : Nat), AllS r → AllS (proofF D r i) := by
  intro r
  induction hn : r.length using Nat.strongRecOn generalizing r with
  | _ n ih =>
    subst hn
    intro i hr
    unfold proofF
    by_cases h : r.length ≤ 1
    · rw [dif_pos h]; intro x hx; cases hx
    · rw [dif_neg h]
      intro x hx
      rcases List.mem_append.1 hx with hx | hx
      · cases hq : r[sib i]? with
        | some q =>
          rw [hq] at hx
          obtain rfl := List.mem_singleton.1 hx
          exact hr x (List.mem_of_getElem? hq)
        | none => rw [hq] at hx; cases hx
      · exact ih _ (above_lt D h) (above D r) rfl (i / 2) (above_sized D hD r hr) x hx
theorem shown_of {l : List BA} (hD : ∀ s, (D s).size = 32) (hl : l.length ≤ 4096) (hs : AllS l) {i : Nat} {d : BA} (hd : l[i]? = some d) : Shown D l.length i d (proofF D l i) (topF D l) := by
  have hi := (List.getElem?_eq_some_iff.1 hd).1
  exact ⟨⟨by omega, by omega, by omega, by omega, hs d (List.mem_of_getElem? hd), proof_sized D hD l i hs⟩, up_shows D l i d hd⟩
/-- What is checked against the root of leaves stands there, or two texts meet. -/
theorem sound {l : List BA} (hD : ∀ s, (D s).size = 32) (hl : l.length ≤ 4096) (hs : AllS l) {n i : Int} {d : BA} {p : List BA} {e : BA} (h : Shown D n i d p e) (hr : D (crownT n.toNat e) = rootF D l) :
    (n = l.length ∧ 0 ≤ i ∧ l[i.toNat]? = some d ∧ p = proofF D l i.toNat) ∨ Meet D (rootT D l) (shownT D n i d p e) := by
  obtain ⟨h1, h2⟩ := h
  have e1 := h1.n1
  have e2 := h1.n2
  have e3 := h1.i1
  have e4 := h1.i2
  by_cases hc : crownT l.length (topF D l) = crownT n.toNat e
  · obtain ⟨h3, rfl⟩ := crownT_inj hc (by omega) (by omega)
    rw [← h3] at h2
    rcases up_sound D hD l i.toNat d p hs (by omega) h1.leaf h1.all h2 with ⟨h4, h5⟩ | h4
    · exact .inl ⟨by omega, e3, h4, h5⟩
    · right
      unfold rootT shownT
      rw [← h3]
      exact h4.mono D (fun x hx => List.mem_append_left _ hx) (fun y hy => List.mem_append_left _ hy)
  · right
    exact ⟨_, List.mem_append_right _ (List.mem_singleton_self _), _, List.mem_append_right _ (List.mem_singleton_self _), hc, hr.symm⟩
end
end Go.Proofs.YtnmhmemlgibedaaDoor
