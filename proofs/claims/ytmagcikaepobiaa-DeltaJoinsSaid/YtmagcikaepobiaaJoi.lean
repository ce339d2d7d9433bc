/- Two deltas, one behind the other: mathematics alone. -/
import Derived.Test.YtmagcikaepobiaaMak
namespace Go.Proofs.Ytmagcikaepobiaa.Dl

theorem runF_fail {old : BA} {m : Nat} : ∀ (xs : List Opr) (acc : List UInt8), acc.length ≤ m → ¬ ((∀ x ∈ xs, fitB old x = true) ∧ acc.length + (outs old xs).length ≤ m) → ∃ e : Int, runF old m xs acc = ([], e) ∧ e ≠ 0 ∧ ((∀ x ∈ xs, fitB old x = true) → e = 2)
  | [], acc, h, hn => absurd ⟨by simp, by simpa [outs] using h⟩ hn
  | x :: r, acc, h, hn => by
    have hs : (outF old x).data.toList.length = (outF old x).size := BA.len _
    cases hf : fitB old x with
    | false => exact ⟨70, by rw [runF, hf]; rfl, by decide, fun hall => by have := hall x (by simp); rw [hf] at this; cases this⟩
    | true =>
      by_cases hl : acc.length + (outF old x).size ≤ m
      · obtain ⟨e, h1, h2, h3⟩ := runF_fail (old := old) (m := m) r (acc ++ (outF old x).data.toList) (by rw [List.length_append]; omega) (fun ⟨k1, k2⟩ => hn ⟨fun y hy => by
          rcases List.mem_cons.1 hy with rfl | hy
          · exact hf
          · exact k1 y hy, by
          rw [List.length_append] at k2
          simp only [outs, List.length_append]; omega⟩)
        exact ⟨e, by rw [runF, if_pos hf, if_pos hl, h1], h2, fun hall => h3 (fun y hy => hall y (by simp [hy]))⟩
      · exact ⟨2, by rw [runF, if_pos hf, if_neg hl], by decide, fun _ => rfl⟩
theorem rgB_join {a b : List Opr} (h : a.length + b.length ≤ 200) : rgB (a ++ b) = (rgB a && rgB b) := by
  unfold rgB
  rw [decide_eq_true (by rw [List.length_append]; omega), decide_eq_true (show a.length ≤ 2000 by omega), decide_eq_true (show b.length ≤ 2000 by omega), List.all_append]
  simp
theorem app_ok {old : BA} {a : List Opr} (h : (appF old a 1048576).2 = 0) : rgB a = true ∧ (∀ x ∈ a, fitB old x = true) ∧ (outs old a).length ≤ 1048576 ∧ (appF old a 1048576).1.data.toList = outs old a := by
  cases hr : rgB a with
  | false => rw [appF_no hr] at h; cases h
  | true =>
    have hm : mostF 1048576 = 1048576 := by decide
    by_cases hc : (∀ x ∈ a, fitB old x = true) ∧ ([] : List UInt8).length + (outs old a).length ≤ 1048576
    · have h1 := runF_all (old := old) (m := 1048576) a [] hc.1 hc.2
      refine ⟨rfl, hc.1, by simpa using hc.2, ?_⟩
      rw [appF_yes hr (l := outs old a) (e := 0) (by rw [hm, h1]; rfl)]
    · obtain ⟨e, h1, h2, -⟩ := runF_fail a [] (by simp) hc
      rw [appF_yes hr (l := []) (e := e) (by rw [hm, h1])] at h
      exact absurd h h2
theorem app_bad {old : BA} {a : List Opr} (h : ¬ (rgB a = true ∧ (∀ x ∈ a, fitB old x = true) ∧ (outs old a).length ≤ 1048576)) : ∃ e : Int, appF old a 1048576 = (⟨#[]⟩, e) ∧ e ≠ 0 ∧ (rgB a = true → (∀ x ∈ a, fitB old x = true) → e = 2) := by
  cases hr : rgB a with
  | false => exact ⟨70, appF_no hr, by decide, fun h => by cases h⟩
  | true =>
    have hm : mostF 1048576 = 1048576 := by decide
    obtain ⟨e, h1, h2, h3⟩ := runF_fail (m := 1048576) a [] (by simp) (fun ⟨k1, k2⟩ => h ⟨hr, k1, by simpa using k2⟩)
    exact ⟨e, appF_yes hr (l := []) (by rw [hm, h1]), h2, fun _ k => h3 k⟩
theorem app_good {old : BA} {a : List Opr} (h1 : rgB a = true) (h2 : ∀ x ∈ a, fitB old x = true) (h3 : (outs old a).length ≤ 1048576) : appF old a 1048576 = (⟨(outs old a).toArray⟩, 0) :=
  appF_yes h1 (l := outs old a) (e := 0) (by rw [show mostF 1048576 = 1048576 by decide, runF_all a [] h2 (by simpa using h3)]; rfl)
/-- The ways of the law. -/
inductive JoinCase (x y z : BA) (e f g : Int) : Prop
  | bad (h1 : e ≠ 0 ∨ f ≠ 0) (h2 : g ≠ 0) (h3 : z = ByteArray.empty)
  | long (h0 : e = 0 ∧ f = 0) (hx : x.size ≤ 1048576 ∧ y.size ≤ 1048576) (h1 : 1048576 < x.size + y.size) (h2 : g = 2) (h3 : z = ByteArray.empty)
  | good (h0 : e = 0 ∧ f = 0) (h1 : x.size + y.size ≤ 1048576) (h2 : g = 0) (h3 : z.data.toList = x.data.toList ++ y.data.toList)
theorem joinCase (old : BA) (a b : List Opr) (h : a.length + b.length ≤ 200) : JoinCase (appF old a 1048576).1 (appF old b 1048576).1 (appF old (a ++ b) 1048576).1 (appF old a 1048576).2 (appF old b 1048576).2 (appF old (a ++ b) 1048576).2 := by
  by_cases ha : (appF old a 1048576).2 = 0
  · by_cases hb : (appF old b 1048576).2 = 0
    · obtain ⟨a1, a2, a3, a4⟩ := app_ok ha
      obtain ⟨b1, b2, b3, b4⟩ := app_ok hb
      have hr : rgB (a ++ b) = true := by rw [rgB_join h, a1, b1]; rfl
      have hf : ∀ x ∈ a ++ b, fitB old x = true := fun x hx => by
        rcases List.mem_append.1 hx with hx | hx
        · exact a2 x hx
        · exact b2 x hx
      have hx : (appF old a 1048576).1.size = (outs old a).length := by rw [← a4, BA.len]
      have hy : (appF old b 1048576).1.size = (outs old b).length := by rw [← b4, BA.len]
      have ho : (outs old (a ++ b)).length = (outs old a).length + (outs old b).length := by rw [outs_append, List.length_append]
      by_cases hl : (outs old a).length + (outs old b).length ≤ 1048576
      · have hg := app_good hr hf (by omega)
        rw [hg]
        exact .good ⟨ha, hb⟩ (by omega) rfl (by simp only [a4, b4, outs_append])
      · obtain ⟨e, h1, h2, h3⟩ := app_bad (old := old) (a := a ++ b) (fun ⟨_, _, k⟩ => hl (by omega))
        rw [h1]
        exact .long ⟨ha, hb⟩ (by omega) (by omega) (h3 hr hf) rfl
    · obtain ⟨e, h1, h2, -⟩ := app_bad (old := old) (a := a ++ b) (fun ⟨k1, k2, k3⟩ => hb (by
        rw [rgB_join h, Bool.and_eq_true] at k1
        rw [outs_append, List.length_append] at k3
        rw [app_good k1.2 (fun x hx => k2 x (by simp [hx])) (by omega)]))
      rw [h1]
      exact .bad (.inr hb) h2 rfl
  · obtain ⟨e, h1, h2, -⟩ := app_bad (old := old) (a := a ++ b) (fun ⟨k1, k2, k3⟩ => ha (by
      rw [rgB_join h, Bool.and_eq_true] at k1
      rw [outs_append, List.length_append] at k3
      rw [app_good k1.1 (fun x hx => k2 x (by simp [hx])) (by omega)]))
    rw [h1]
    exact .bad (.inl ha) h2 rfl
end Go.Proofs.Ytmagcikaepobiaa.Dl
