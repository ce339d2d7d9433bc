/- FormatPlurals: the pattern that is built, what it says; plain mathematics. -/
import Derived.Test.YtlmaafmhadbiaaaGreatDoorUCg
import Derived.Test.YtlmaafmhadbiaaaGreatDoorLp
namespace Go.Proofs.YtlmaafmhadbiaaaGreatDoor
open Go.RowKit

/- The digits of a small number, from behind. -/
theorem dg_small {n : Nat} (h : n < 10) (s : List UInt8) : Lib.decDigits n ++ s = UInt8.ofNat (48 + n) :: s := by rw [Lib.decDigits, dif_pos h]; rfl
theorem dg_big {n : Nat} (h : ¬ n < 10) (s : List UInt8) : Lib.decDigits n ++ s = Lib.decDigits (n / 10) ++ UInt8.ofNat (48 + n % 10) :: s := by
  rw [Lib.decDigits, dif_neg h, List.append_assoc]; rfl
theorem itoa_nat (u : Nat) : Lib.itoa (u : Int) = Lib.decDigits u := by
  unfold Lib.itoa
  rw [if_neg (by omega)]; rfl
theorem itoa_one {u : Nat} {n : Int} (h : Lib.itoa n = Lib.decDigits u) : n = u := by
  unfold Lib.itoa at h
  by_cases hn : n < 0
  · rw [if_pos hn] at h
    have h1 := (dec_facts u).1
    rw [← h] at h1
    simp [isDig] at h1
  · rw [if_neg hn] at h
    have e1 := (dec_facts n.toNat).2.1
    have e2 := (dec_facts u).2.1
    rw [h, e2] at e1
    omega

abbrev kZero : BA := ⟨#[122, 101, 114, 111]⟩
abbrev kOne : BA := ⟨#[111, 110, 101]⟩
abbrev kTwo : BA := ⟨#[116, 119, 111]⟩
abbrev kFew : BA := ⟨#[102, 101, 119]⟩
abbrev kMany : BA := ⟨#[109, 97, 110, 121]⟩
abbrev kOther : BA := ⟨#[111, 116, 104, 101, 114]⟩
abbrev kJust : BA := ⟨#[106, 117, 115, 116]⟩
abbrev kN : BA := ⟨#[110]⟩
/-- A case of one text. -/
abbrev cs1 (k t : BA) : Cs := .mk k [onePt t]
/-- The six categories. -/
abbrev six : List BA := [kZero, kOne, kTwo, kFew, kMany, kOther]
/-- The key of an exact number. -/
abbrev exK (u : Nat) : BA := ⟨(61 :: Lib.decDigits u).toArray⟩
abbrev casesF (u : Nat) : List Cs := cs1 (exK u) kJust :: six.map (fun c => cs1 c c)
abbrev plPt (u : Nat) : Pt := .mk 4 ⟨#[]⟩ kN (casesF u)

theorem cat_six (g : BA) (n : Int) : Pu.catF g n ∈ six := by
  have hL : ∀ (l : List (BA × Pu.Rule)), (∀ x ∈ l, x.1 ∈ six) → Pu.catL l n ∈ six := by
    intro l
    induction l with
    | nil => intro _; rw [Pu.catL]; simp [six]
    | cons x r ih =>
      intro h
      rw [Pu.catL]
      split
      · exact h x (by simp)
      · exact ih (fun y hy => h y (by simp [hy]))
  unfold Pu.catF
  refine hL _ fun x hx => ?_
  unfold Pu.catsOf at hx
  obtain ⟨y, hy, rfl⟩ := List.mem_map.1 hx
  show y.1 ∈ six
  have hall : ∀ l ∈ [Pu.tab_en, Pu.tab_de, Pu.tab_fr, Pu.tab_ru, Pu.tab_pl, Pu.tab_cs, Pu.tab_ar, Pu.tab_sl, Pu.tab_cy, []], (l.all fun y => six.any fun c => decide (y.1 = c)) = true := by
    intro l hl
    simp only [List.mem_cons, List.not_mem_nil, or_false] at hl
    rcases hl with rfl | rfl | rfl | rfl | rfl | rfl | rfl | rfl | rfl | rfl <;> decide
  have hm : Pu.tabF g ∈ [Pu.tab_en, Pu.tab_de, Pu.tab_fr, Pu.tab_ru, Pu.tab_pl, Pu.tab_cs, Pu.tab_ar, Pu.tab_sl, Pu.tab_cy, []] := by
    unfold Pu.tabF
    repeat' split
    all_goals simp
  have := List.any_eq_true.1 (List.all_eq_true.1 (hall _ hm) y hy)
  obtain ⟨c, hc, he⟩ := this
  rw [of_decide_eq_true he]; exact hc

theorem pl_cnt (u : Nat) : cntPs [plPt u] = 8 := by simp [cntPs, cntP, cntCs, cntC]
theorem pl_dp (u : Nat) : dpPs [plPt u] = 1 := by simp [dpPs, dpP, dpCs, dpC]
theorem one_ok (h : Bool) {t : BA} (ht : t.data.toList ≠ []) : okPs h false [onePt t] = true := by
  have he : t.data.toList.isEmpty = false := by
    cases hl : t.data.toList with
    | nil => exact absurd hl ht
    | cons => rfl
  rw [okPs, okPs, okP]; simp [Pt.k, he]
theorem pl_ok {u : Nat} (hu : u ≤ 1000000) : okPs false false [plPt u] = true := by
  have hk : pkeyB (61 :: Lib.decDigits u) = true := by simp [pkeyB, dec_numB hu]
  have n1 : nameB [110] = true := by decide
  have ho : ∀ t ∈ kJust :: six, okPs true false [onePt t] = true := fun t ht => one_ok true (by
    simp at ht
    rcases ht with rfl | rfl | rfl | rfl | rfl | rfl | rfl <;> simp)
  have o0 := ho kJust (by simp)
  have o1 := ho kZero (by simp)
  have o2 := ho kOne (by simp)
  have o3 := ho kTwo (by simp)
  have o4 := ho kFew (by simp)
  have o5 := ho kMany (by simp)
  have o6 := ho kOther (by simp)
  have hgl : (casesF u).getLast?.map Cs.key = some (ba [111, 116, 104, 101, 114]) := by rfl
  have hes : (casesF u).isEmpty = false := by rfl
  have hcs : okCs pkeyB true [] (casesF u) = true := by
    simp only [List.map_cons, List.map_nil, okCs, okC, o0, o1, o2, o3, o4, o5, o6, Cs.key, hk]
    simp [pkeyB]
  rw [okPs, okPs, okP, hgl, hes, hcs]
  simp [Pt.k, n1]
theorem pl_right {u : Nat} (hu : u ≤ 1000000) : rightE [plPt u] = 0 := by
  unfold rightE
  rw [pl_cnt, pl_dp, pl_ok hu]; rfl
theorem pl_small {u : Nat} (hu : u ≤ 1000000) : smPs 140737488351232 [plPt u] := by
  have hz : (exK u).size ≤ 140737488351232 := by
    have h1 := nd_le 6 u (by omega)
    have h2 := Lib.decDigits_length u
    simp [ByteArray.size]; omega
  simp [smPs, smP, smCs, smC, hz]
  decide

/- What is chosen. -/
def choF (cs : List Cs) : List BA → List Pt
  | [] => []
  | k :: r => match cs.find? (fun c => decide (c.key = k)) with
    | some c => c.kids
    | none => choF cs r
theorem choF_hit {cs : List Cs} {k : BA} {r : List BA} {c : Cs} (h : cs.find? (fun c => decide (c.key = k)) = some c) : choF cs (k :: r) = c.kids := by rw [choF, h]
theorem choF_miss {cs : List Cs} {k : BA} {r : List BA} (h : cs.find? (fun c => decide (c.key = k)) = none) : choF cs (k :: r) = choF cs r := by rw [choF, h]
/-- What it says. -/
def wantF (u : Nat) (g : BA) (n : Int) : BA := if n = u then kJust else Pu.catF g n
theorem want_ne (u : Nat) (g : BA) (n : Int) : (wantF u g n).data.toList ≠ [] ∧ (wantF u g n).size ≤ 5 := by
  unfold wantF
  split
  · exact ⟨by decide, by decide⟩
  · have h := cat_six g n
    simp at h
    rcases h with h | h | h | h | h | h <;> rw [h] <;> exact ⟨by decide, by decide⟩
theorem ex_ne_six (u : Nat) {c : BA} (h : c ∈ six) : exK u ≠ c := by
  intro e
  have e1 : (exK u).data.toList.head? = c.data.toList.head? := by rw [e]
  simp at h e1
  rcases h with rfl | rfl | rfl | rfl | rfl | rfl <;> simp at e1
theorem cho_pl (u : Nat) (g : BA) (n : Int) : choF (casesF u) [⟨(61 :: Lib.itoa n).toArray⟩, Pu.catF g n, kOther] = [onePt (wantF u g n)] := by
  by_cases h : n = u
  · subst h
    rw [choF_hit (c := cs1 (exK u) kJust)]
    · unfold wantF; rw [if_pos rfl]; rfl
    · rw [itoa_nat]; simp [Cs.key]
  · have hne : ¬ exK u = ⟨(61 :: Lib.itoa n).toArray⟩ := by
      intro e
      have e1 : (exK u).data.toList = (61 :: Lib.itoa n) := by rw [e]
      have e2 : Lib.decDigits u = Lib.itoa n := by simpa using e1
      exact h (itoa_one e2.symm)
    have hsix : ∀ c ∈ six, ¬ c = (⟨(61 :: Lib.itoa n).toArray⟩ : BA) := by
      intro c hc e
      have e1 : c.data.toList.head? = some 61 := by rw [e]; rfl
      simp at hc
      rcases hc with rfl | rfl | rfl | rfl | rfl | rfl <;> simp at e1
    rw [choF_miss, choF_hit (c := cs1 (Pu.catF g n) (Pu.catF g n))]
    · unfold wantF; rw [if_neg h]; rfl
    · have hx := cat_six g n
      have he := ex_ne_six u hx
      generalize Pu.catF g n = c at hx he ⊢
      rw [show casesF u = cs1 (exK u) kJust :: six.map (fun c => cs1 c c) from rfl, List.find?_cons_of_neg (p := fun d : Cs => decide (d.key = c)) (a := cs1 (exK u) kJust) (fun e => he (of_decide_eq_true e))]
      simp at hx
      rcases hx with rfl | rfl | rfl | rfl | rfl | rfl <;> simp [List.find?, Cs.key]
    · rw [List.find?_eq_none]
      intro x hx
      rcases List.mem_cons.1 hx with rfl | hx
      · exact fun e => hne (of_decide_eq_true e)
      · obtain ⟨c, hc, rfl⟩ := List.mem_map.1 hx
        exact fun e => hsix c hc (of_decide_eq_true e)
end Go.Proofs.YtlmaafmhadbiaaaGreatDoor
