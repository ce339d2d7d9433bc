/- What the document's reader read is the text of what it tells: relations, rules; the two readings are one. -/
import Derived.Test.YtlgodcbffimcoaaDoorSq
namespace Go.Proofs.YtlgodcbffimcoaaDoor

def tm (m : Nat) : List UInt8 := if 0 < m then [37, 32] ++ Lib.decDigits m ++ [32] else []
def tn (ng : Bool) : List UInt8 := if ng then [33, 61, 32] else [61, 32]
theorem txR_re (m : Nat) (ng : Bool) (sp : List Sp) : txR ⟨m, ng, sp⟩ = [105, 32] ++ (tm m ++ (tn ng ++ joinF txS [44] sp)) := by
  unfold txR tm tn
  simp only [itoaN]
  by_cases h : 0 < m
  · have h' : (0 : Int) < (m : Int) := by omega
    rw [if_pos h, if_pos h']
    cases ng <;> simp [List.append_assoc]
  · have h' : ¬ (0 : Int) < (m : Int) := by omega
    rw [if_neg h, if_neg h']
    cases ng <;> simp
theorem live_of {l : List UInt8} {S : St} {c : UInt8} (h : nowF l S = some c) : S = (S.1, false) ∧ l[S.1]? = some c := by
  obtain ⟨h1, h2⟩ := next_iff.1 (now_iff.1 h)
  exact ⟨Prod.ext rfl h1, h2⟩
theorem cons_mod {l : List UInt8} {a : Nat} {b : Bool} (ha : a ≤ l.length) (h : (rMod l (a, false) b).2.1.2 = false) : ∃ q, (rMod l (a, false) b).2.2 = (b && q) ∧ Cons l a (rMod l (a, false) b).2.1.1 (tm (rMod l (a, false) b).1) q ∧ (rMod l (a, false) b).2.1.1 ≤ l.length := by
  unfold rMod at h ⊢
  by_cases hn : nowF l (a, false) = some 37
  · rw [if_pos hn] at h ⊢
    simp only at h ⊢
    have h2 := dead_word h
    have h3 := dead_num h2
    have r1 : Rdt l a (wordF l [37, 32] (a, false)).1 [37, 32] := rdt_word ha rfl h3
    have e1 : wordF l [37, 32] (a, false) = ((wordF l [37, 32] (a, false)).1, false) := Prod.ext rfl h3
    rw [e1] at h h2 ⊢
    have r2 := rdt_num h2
    have e2 : (rNum l ((wordF l [37, 32] (a, false)).1, false)).2 = ((rNum l ((wordF l [37, 32] (a, false)).1, false)).2.1, false) := Prod.ext rfl h2
    rw [e2] at h ⊢
    have r3 := rdt_word r2.le rfl h
    have rr := (r1.app r2).app r3
    refine ⟨_, rfl, ⟨_, rr, ?_, ?_⟩, r3.le⟩
    · unfold tm; split
      · exact Nat.le_refl _
      · simp
    · unfold tm
      rw [decide_eq_true_eq]
      constructor
      · intro q; rw [if_pos q]
      · intro q
        by_cases hz : 0 < (rNum l ((wordF l [37, 32] (a, false)).1, false)).1
        · exact hz
        · rw [if_neg hz] at q
          have := congrArg List.length q
          simp at this
  · rw [if_neg hn]
    exact ⟨true, by simp, (Rdt.nil ha).cons, ha⟩
theorem rdt_neg {l : List UInt8} {a : Nat} (ha : a ≤ l.length) (h : (rNeg l (a, false)).2.2 = false) : Rdt l a (rNeg l (a, false)).2.1 (tn (rNeg l (a, false)).1) := by
  unfold rNeg at h ⊢
  by_cases hn : nowF l (a, false) = some 33
  · rw [if_pos hn] at h ⊢
    have r1 := Rdt.one (live_of hn).2
    exact r1.app (rdt_word r1.le rfl h)
  · rw [if_neg hn] at h ⊢
    exact rdt_word ha rfl h
theorem cons_rel {l : List UInt8} {a : Nat} {b : Bool} (ha : a ≤ l.length) (h : (rRel l (a, false) b).2.1.2 = false) :
    ∃ q, (rRel l (a, false) b).2.2 = (b && q) ∧ (rgR (rRel l (a, false) b).1 = true → Cons l a (rRel l (a, false) b).2.1.1 (txR (rRel l (a, false) b).1) q) := by
  unfold rRel at h ⊢
  simp only at h ⊢
  have h1 : (rNeg l (rMod l (wordF l [105, 32] (a, false)) b).2.1).2.2 = false := by
    cases hq : (rNeg l (rMod l (wordF l [105, 32] (a, false)) b).2.1).2 with
    | mk e st =>
      cases st with
      | false => rfl
      | true => rw [hq, rSpans_dead] at h; cases h
  have h2 : (rMod l (wordF l [105, 32] (a, false)) b).2.1.2 = false := by
    cases hq : (rMod l (wordF l [105, 32] (a, false)) b).2.1 with
    | mk e st =>
      cases st with
      | false => rfl
      | true =>
        rw [hq] at h1
        unfold rNeg at h1
        rw [if_neg (by intro z; cases z), word_stuck] at h1; cases h1
  have h3 : (wordF l [105, 32] (a, false)).2 = false := by
    cases hq : wordF l [105, 32] (a, false) with
    | mk e st =>
      cases st with
      | false => rfl
      | true =>
        rw [hq] at h2
        unfold rMod at h2
        rw [if_neg (by intro z; cases z)] at h2; cases h2
  have r1 : Rdt l a (wordF l [105, 32] (a, false)).1 [105, 32] := rdt_word ha rfl h3
  have e1 : wordF l [105, 32] (a, false) = ((wordF l [105, 32] (a, false)).1, false) := Prod.ext rfl h3
  generalize (wordF l [105, 32] (a, false)).1 = a1 at *
  rw [e1] at h h1 h2 ⊢
  obtain ⟨q1, m1, m2, m3⟩ := cons_mod r1.le h2
  have e2 : (rMod l (a1, false) b).2.1 = ((rMod l (a1, false) b).2.1.1, false) := Prod.ext rfl h2
  generalize hm : (rMod l (a1, false) b).1 = m at *
  generalize hb2 : (rMod l (a1, false) b).2.2 = b2 at *
  generalize (rMod l (a1, false) b).2.1.1 = a2 at *
  rw [e2] at h h1 ⊢
  have r2 := rdt_neg m3 h1
  have e3 : (rNeg l (a2, false)).2 = ((rNeg l (a2, false)).2.1, false) := Prod.ext rfl h1
  generalize hng : (rNeg l (a2, false)).1 = ng at *
  generalize (rNeg l (a2, false)).2.1 = a3 at *
  rw [e3] at h ⊢
  obtain ⟨q2, s1, s2⟩ := cons_spans r2.le h
  refine ⟨q1 && q2, by rw [s1, m1, Bool.and_assoc], fun hr => ?_⟩
  obtain ⟨-, hsp⟩ := rgR_t hr
  rw [txR_re]
  have := r1.cons.app (m2.app (r2.cons.app (s2 hsp)))
  simpa using this
end Go.Proofs.YtlgodcbffimcoaaDoor
