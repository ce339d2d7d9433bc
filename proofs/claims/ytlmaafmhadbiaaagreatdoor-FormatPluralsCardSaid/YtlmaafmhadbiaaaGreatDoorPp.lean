/- What Parse tells, and where. -/
import Derived.Test.YtlmaafmhadbiaaaGreatDoorPo
namespace Go.Proofs.YtlmaafmhadbiaaaGreatDoor

theorem right_cases {xs : List Pt} (h : dpPs xs ≤ 32) : rightE xs = 0 ∨ rightE xs = 2 ∨ rightE xs = 91 := by
  unfold rightE
  split
  · simp
  · rw [if_neg (by omega)]; split <;> simp
theorem read_wf (l : List UInt8) : Wf l (readF l).2 := (ge_parts l (l.length + 1) false 0 [] (0, 0)).2.1 ⟨Nat.zero_le _, .inl rfl⟩
theorem end_wf (l : List UInt8) : Wf l (endF l (readF l).2) := by
  unfold endF; split
  · exact (ge_fail l _).2.1 (read_wf l)
  · exact read_wf l
theorem end_fst (l : List UInt8) (S : St) : (endF l S).1 = S.1 := by
  unfold endF; split
  · exact fail_fst l S
  · rfl
theorem end_live {l : List UInt8} (h : (endF l (readF l).2).2 = 0) : (readF l).2.2 = 0 ∧ (readF l).2.1 = l.length := by
  have hw := (read_wf l).1
  unfold endF at h
  split at h
  · exact absurd h (fail_ne l _)
  · exact ⟨h, by omega⟩
/-- What is behind a fault matters nothing. -/
theorem end_same {l m : List UInt8} (A : Ag l m ((endF l (readF l).2).1 + 1)) : readF m = readF l ∧ endF m (readF m).2 = endF l (readF l).2 := by
  rw [end_fst] at A
  have h1 := A.hl; have h2 := A.hm
  have e : readF m = readF l := (A.both (l.length + 1) (m.length + 1)).1 false 0 [] (0, 0) (Nat.zero_le _) (fun _ => by simp) (fun _ => by simp) (Nat.lt_succ_self _)
  refine ⟨e, ?_⟩
  rw [e]
  unfold endF
  rw [if_pos (by omega), if_pos (by omega), A.fail (by omega)]
theorem parse_cases (l : List UInt8) :
    ((parseF l).2.1 = 0 ∧ (parseF l).2.2 = 0) ∨ parseF l = ([], 10, l.length) ∨
    (((parseF l).2.1 = 90 ∨ (parseF l).2.1 = 12) ∧ (parseF l).1 = [] ∧ (parseF l).2.2 < l.length ∧ ∀ m, Ag l m ((parseF l).2.2 + 1) → m.length ≤ 2000 → parseF m = parseF l) ∨
    parseF l = ([], 2, 0) ∨ parseF l = ([], 91, 0) := by
  by_cases h0 : 2000 < l.length
  · right; right; right; left; unfold parseF; rw [if_pos h0]
  · by_cases h1 : (endF l (readF l).2).2 ≠ 0
    · have hp : parseF l = ([], (endF l (readF l).2).2, (endF l (readF l).2).1) := by unfold parseF; rw [if_neg h0, if_pos h1]
      rcases (end_wf l).2 with h | ⟨h, k⟩ | ⟨h, k⟩
      · exact absurd h h1
      · right; left; rw [hp, h, k]
      · right; right; left
        rw [hp]
        refine ⟨h, rfl, k, fun m A hm => ?_⟩
        obtain ⟨e1, e2⟩ := end_same A
        unfold parseF
        rw [if_neg (by omega), e2, if_pos h1]
    · have h1 : (endF l (readF l).2).2 = 0 := by simpa using h1
      have hd := dp_read (end_live h1).1
      have hp : parseF l = if rightE (readF l).1 ≠ 0 then ([], rightE (readF l).1, 0) else ((readF l).1, 0, 0) := by
        conv => lhs; unfold parseF
        rw [if_neg h0, if_neg (by rw [h1]; simp)]
      rcases right_cases hd with h | h | h
      · left; rw [hp, h]; simp
      · right; right; right; left; rw [hp, h]; rfl
      · right; right; right; right; rw [hp, h]; rfl
end Go.Proofs.YtlmaafmhadbiaaaGreatDoor
