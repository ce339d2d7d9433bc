/- Make, by package delta. -/
import Derived.Test.YtmagcikaepobiaaCpd
import Derived.Test.YtmagcikaepobiaaShelfI
import Derived.Lib.Index
namespace Go.Proofs.Ytmagcikaepobiaa.Dl
open Go.RowKit Go.Lib

theorem least_of {p : Nat → Prop} : ∀ n : Nat, (∃ i, i ≤ n ∧ p i) → ∃ i, i ≤ n ∧ p i ∧ ∀ j, j < i → ¬ p j
  | 0, ⟨i, hi, h⟩ => ⟨i, hi, h, fun j hj => by omega⟩
  | n + 1, ⟨i, hi, h⟩ => by
    by_cases h1 : ∃ i, i ≤ n ∧ p i
    · obtain ⟨k, hk, hp, hj⟩ := least_of n h1
      exact ⟨k, by omega, hp, hj⟩
    · refine ⟨i, hi, h, fun j hj hp => h1 ⟨j, by omega, hp⟩⟩
theorem index_cases (s sub : List UInt8) : (index s sub = -1 ∧ ∀ j, j ≤ s.length → occAt s sub j = false) ∨ ∃ i : Nat, i ≤ s.length ∧ index s sub = i ∧ occAt s sub i = true := by
  by_cases h : ∃ i, i ≤ s.length ∧ occAt s sub i = true
  · obtain ⟨i, hi, hp, hj⟩ := least_of (p := fun i => occAt s sub i = true) s.length h
    exact .inr ⟨i, hi, index_first hi hp (fun j hjl => by simpa using hj j hjl), hp⟩
  · have h2 : ∀ j, j ≤ s.length → occAt s sub j = false := fun j hj => by
      cases ho : occAt s sub j with
      | false => rfl
      | true => exact absurd ⟨j, hj, ho⟩ h
    exact .inl ⟨index_none h2, h2⟩
theorem occ_facts {old now : BA} {i : Nat} (h : occAt old.data.toList now.data.toList i = true) (hn : 16 ≤ now.size) : i + now.size ≤ old.size ∧ (old.data.toList.drop i).take now.size = now.data.toList := by
  have h1 : i + now.size ≤ old.size := by
    rcases occAt_room h with h1 | h1
    · rw [BA.len, BA.len] at h1; exact h1
    · have := BA.len now
      rw [h1] at this; simp at this; omega
  refine ⟨h1, ?_⟩
  rw [occAt_iff_take _ _ _ (by rw [BA.len, BA.len]; exact h1), beq_iff_eq, BA.len] at h
  exact h
theorem occ_of {old now : BA} {i : Nat} (h1 : i + now.size ≤ old.size) (h : (old.data.toList.drop i).take now.size = now.data.toList) : occAt old.data.toList now.data.toList i = true := by
  rw [occAt_iff_take _ _ _ (by rw [BA.len, BA.len]; exact h1), beq_iff_eq, BA.len]
  exact h
/-- Is the new string in the old one as a whole? -/
def Whole (old now : BA) : Prop := ∃ i, i + now.size ≤ old.size ∧ (old.data.toList.drop i).take now.size = now.data.toList
/-- What is made, where the new string stands in the old one. -/
def OneCopy (old now : BA) (d : List Opr) : Prop := ∃ f : Nat, d = [⟨f, now.size, ByteArray.empty⟩] ∧ f + now.size ≤ old.size ∧ (old.data.toList.drop f).take now.size = now.data.toList
/-- What Make answers. -/
def MadeOK (w : World) (old now : BA) (e : Ending) (w' : World) : Prop := ∃ v, e = .returned (.tuple #[v, .int .i64 0]) ∧ (∃ d, Own w' w.heap.size v d ∧ Made old now d ∧ (16 ≤ now.size → Whole old now → OneCopy old now d)) ∧ Below w.heap.size w w'

set_option maxHeartbeats 3200000 in
set_option maxRecDepth 100000 in
theorem make_any (w : World) (old now : BA) (m : Int) (ho : old.size ≤ 131072) (hn : now.size ≤ 131072) (hm : w.cell? ⟨0, 0, none⟩ = some (.int .i64 m)) : Calls Try.prog 15 #[.string old, .string now] w fun e w' => MadeOK w old now e w' := by
  by_cases h16 : 16 ≤ now.size
  · have HI := Lib.hid (Try.strings_Index old now m w (by omega) hm)
    rcases index_cases old.data.toList now.data.toList with ⟨hi, hnone⟩ | ⟨i, -, hi, hocc⟩
    · rw [hi] at HI
      have HN : Hid (¬ Whole old now) := Lib.hid (by
        rintro ⟨i, h1, h2⟩
        have := occ_of h1 h2
        rw [hnone i (by rw [BA.len]; omega)] at this; cases this)
      clear hi hnone hm
      go_enter Try.func15, Try.ntmps15
      go_wp2_with fail
      refine HI.out.mono ?_
      rintro e w1 ⟨rfl, rfl⟩
      go_wp2_with fail
      refine (composed_any w1 old now ho hn).mono ?_
      rintro e w2 ⟨v, rfl, ⟨d, hd, hmd⟩, hb⟩
      have HD := Lib.hid hd
      have HM := Lib.hid hmd
      have HB := Lib.hid hb
      clear hd hmd hb
      go_wp2
      go_ret2
      exact ⟨_, rfl, ⟨d, HD.out, HM.out, fun _ h => absurd h HN.out⟩, HB.out⟩
    · rw [hi] at HI
      obtain ⟨h1, h2⟩ := occ_facts hocc h16
      have HM := Lib.hid (made_one h16 hn ho h1 h2)
      have H2 := Lib.hid h2
      clear hi hocc hm h2
      go_enter Try.func15, Try.ntmps15
      go_wp2_with fail
      refine HI.out.mono ?_
      rintro e w1 ⟨rfl, rfl⟩
      have hOW : Hid (Own (w1.alloc (.cells #[.int .i64 i, .int .i64 now.size, .string ByteArray.empty] 30)) w1.heap.size (.slice (some ⟨w1.heap.size, 0, none⟩) 1 1) [⟨i, now.size, ByteArray.empty⟩]) := Lib.hid
        ⟨rfl, .inr ⟨w1.heap.size, 1, #[.int .i64 i, .int .i64 now.size, .string ByteArray.empty], rfl, Nat.le_refl _, row_new w1 #[.int .i64 i, .int .i64 now.size, .string ByteArray.empty] 30, Nat.le_refl _, by decide, rfl, rfl⟩⟩
      have HB := Lib.hid (below1 w1 (.cells #[.int .i64 i, .int .i64 now.size, .string ByteArray.empty] 30))
      go_wp2
      go_ret2
      exact ⟨_, rfl, ⟨_, hOW.out, HM.out, fun _ _ => ⟨i, rfl, h1, H2.out⟩⟩, HB.out⟩
  · clear hm
    go_enter Try.func15, Try.ntmps15
    go_wp2_with fail
    refine (composed_any w old now ho hn).mono ?_
    rintro e w2 ⟨v, rfl, ⟨d, hd, hmd⟩, hb⟩
    have HD := Lib.hid hd
    have HM := Lib.hid hmd
    have HB := Lib.hid hb
    clear hd hmd hb
    go_wp2
    go_ret2
    exact ⟨_, rfl, ⟨d, HD.out, HM.out, fun h => absurd h h16⟩, HB.out⟩
set_option maxHeartbeats 1600000 in
theorem make_long (w : World) (old now : BA) (h : 131072 < old.size ∨ 131072 < now.size) (h1 : old.size ≤ 140737488351232) (h2 : now.size ≤ 140737488351232) : Calls Try.prog 15 #[.string old, .string now] w fun e w' => e = .returned (.tuple #[.slice none 0 0, .int .i64 2]) ∧ Below w.heap.size w w' := by
  by_cases h3 : 131072 < old.size
  · go_enter Try.func15, Try.ntmps15
    go_wp2
    go_ret2
    exact ⟨rfl, Below.refl _ _⟩
  · have h4 : 131072 < now.size := by omega
    go_enter Try.func15, Try.ntmps15
    go_wp2
    go_ret2
    exact ⟨rfl, Below.refl _ _⟩
end Go.Proofs.Ytmagcikaepobiaa.Dl
