/- The reader: a rule. -/
import Derived.Test.YtlmaafmhadbiaaaGreatDoorURd6
namespace Go.Proofs.YtlmaafmhadbiaaaGreatDoor.Pu
open Go.RowKit


theorem word_dead (l : List UInt8) (c : UInt8) (r : List UInt8) (a : Nat) : wordF l (c :: r) (a, true) = (a, true) := by rw [wordF, next_stuck]; rfl
theorem span_dead (l : List UInt8) (a : Nat) : spanF l (a, true) = (⟨0, 0⟩, (a, true)) := by
  unfold spanF; rw [num_stuck]; simp [next_stuck]
theorem spansL_dead (l : List UInt8) (a : Nat) (f : Nat) (xs : List Sp) : spansL l f xs (a, true) = (xs, (a, true)) := spansL_no rfl
theorem spans_dead (l : List UInt8) (a : Nat) : (spansF l (a, true)).2 = (a, true) := by unfold spansF; rw [span_dead, spansL_dead]
theorem mod_dead (l : List UInt8) (a : Nat) : modF l (a, true) = (0, (a, true)) := mod_no rfl
theorem neg_dead (l : List UInt8) (a : Nat) : negF l (a, true) = (false, (a, true)) := by rw [neg_no rfl, word_dead]
theorem rel_dead (l : List UInt8) (a : Nat) : (relF l (a, true)).2 = (a, true) := by unfold relF; simp only [word_dead, mod_dead, neg_dead, spans_dead]
theorem rowL_dead (l : List UInt8) (a : Nat) (f : Nat) (xs : List Rl) : rowL l f xs (a, true) = (xs, (a, true)) := rowL_no rfl
theorem row_dead (l : List UInt8) (a : Nat) : (rowF l (a, true)).2 = (a, true) := by unfold rowF; rw [rel_dead, rowL_dead]
/-- A round of the rule's loop goes on, or gets stuck. -/
theorem rule_adv (l : List UInt8) (T : St) (_h : T.2 = false) : (rowF l (wordF l [32, 111, 114, 32] T)).2.2 = true ∨ T.1 + 1 ≤ (rowF l (wordF l [32, 111, 114, 32] T)).2.1 := by
  cases hb : nextF l [32] T with
  | true =>
    have h1 := word_on (u := [111, 114, 32]) hb
    have h2 := (ge_row l (wordF l [32, 111, 114, 32] T)).1
    exact .inr (by omega)
  | false =>
    rw [word_no hb, row_dead]; exact .inl rfl
theorem few_rule {α : Type} {xs : List α} {x : α} {T W T2 : St} (h : xs.length ≤ T.1 + 1 + T.2.toNat) (h0 : T.2 = false) (h1 : T.1 ≤ W.1) (h2 : W.1 ≤ T2.1) (h3 : T2.2 = true ∨ T.1 + 1 ≤ T2.1) : (xs ++ [x]).length ≤ T2.1 + 1 + T2.2.toNat := by
  rw [h0] at h
  rw [List.length_append]
  simp only [List.length_cons, List.length_nil, Bool.toNat_false] at *
  rcases h3 with h3 | h3
  · rw [h3]; simp only [Bool.toNat_true]; omega
  · omega
theorem fuel_rule {f f' n : Nat} {T T2 : St} (h : T.2 = false → n ≤ f + T.1) (h0 : T.2 = false) (hf : f = f' + 1) (h3 : T2.2 = true ∨ T.1 + 1 ≤ T2.1) : T2.2 = false → n ≤ f' + T2.1 := fun h4 => by
  have := h h0
  rcases h3 with h3 | h3
  · rw [h4] at h3; cases h3
  · omega
def pl2 (m rb : Nat) (w : World) : Nat := 2 * plc m rb w + (match w.cell? ⟨rb, 2, none⟩ with | some (.bool true) => 0 | _ => 1)
theorem pl2_at {m rb : Nat} {w : World} {s : BA} {S : St} (h : RdAt w rb s S) : pl2 m rb w = 2 * (m - S.1) + (if S.2 then 0 else 1) := by
  unfold pl2; rw [plc_at h, h.c2]; cases S.2 <;> rfl

theorem ruleL_yes {l : List UInt8} {f : Nat} {xs : List (List Rl)} {S : St} (h : S.2 = false ∧ S.1 < l.length) (hf : l.length ≤ f + S.1) : ∃ f', f = f' + 1 ∧ ruleL l f xs S = ruleL l f' (xs ++ [(rowF l (wordF l [32, 111, 114, 32] S)).1]) (rowF l (wordF l [32, 111, 114, 32] S)).2 := by
  have : S.1 < l.length := h.2
  obtain ⟨f', rfl⟩ : ∃ f', f = f' + 1 := ⟨f - 1, by omega⟩
  exact ⟨f', rfl, by rw [ruleL, if_pos h]⟩
theorem ruleL_no {l : List UInt8} {f : Nat} {xs : List (List Rl)} {S : St} (h : ¬ (S.2 = false ∧ S.1 < l.length)) : ruleL l f xs S = (xs, S) := by
  cases f with
  | zero => rw [ruleL]
  | succ f => rw [ruleL, if_neg h]
/-- A rule under way. -/
structure RuU (s : BA) (rb : Nat) (w wr : World) (v : Value) (xs : List (List Rl)) (vs : List Value) (T : St) : Prop where
  own : wr.ownsRow w.heap.size 76 1 v xs.length vs
  cat : Cat 1 (CW wr (Ty [130, 102] wr)) xs vs
  rd : RdAt wr rb s T
  fr : Fr (· = rb) w wr
  le : T.1 ≤ s.size
  few : xs.length ≤ T.1 + 1 + T.2.toNat

set_option maxHeartbeats 3200000 in
set_option maxRecDepth 100000 in
theorem rule_any (rb : Nat) (s : BA) (S : St) (w : World) (hs : s.size ≤ 400) (hS : S.1 ≤ s.size) (hR : RdAt w rb s S) :
    Calls Tryz.prog 59 #[.pointer (some ⟨rb, 0, none⟩)] w fun e w' => ∃ a cap, e = .returned (.slice a (ruleF s.data.toList S).1.length cap) ∧ SlW w' (Ty [130, 102, 76] w') (.slice a (ruleF s.data.toList S).1.length cap) (ruleF s.data.toList S).1 ∧ RdAt w' rb s (ruleF s.data.toList S).2 ∧ Fr (· = rb) w w' := by
  obtain ⟨i0, hi, hz0, hz1, hz2⟩ := info_parts info51
  have HR := Lib.hid hR
  have hlr := hR.lt
  have HG0 := Lib.hid (ge_row s.data.toList S)
  have HS0 : Hid (ruleF s.data.toList S = ruleL s.data.toList s.data.toList.length [(rowF s.data.toList S).1] (rowF s.data.toList S).2) := Lib.hid rfl
  have HN1 := Lib.hid (row_any rb s S w hs hS hR)
  clear hR
  go_enter Tryz.func59, Tryz.ntmps59
  go_wp2_with fail
  refine HN1.out.mono ?_
  rintro e w1 ⟨a1, p1, rfl, hsl1, hr1, hf1⟩
  have HR1 := Lib.hid hr1
  have HF1 := Lib.hid hf1
  have HSL1 := Lib.hid hsl1
  clear hr1 hf1 HN1 hsl1
  generalize rowF s.data.toList S = r at *
  obtain ⟨sp1, T0⟩ := r
  simp only at HR1 HS0 HG0 HSL1 ⊢
  obtain ⟨n1l, HNL1⟩ : ∃ n, Hid (n = sp1.length) := ⟨_, Lib.hid rfl⟩
  rw [← HNL1.out]
  have HLT : Hid (T0.1 ≤ s.size) := Lib.hid (by have := HG0.out.2 (by simpa using hS); simpa using this)
  have HU0 : Hid (RuU s rb w (w1.alloc (.cells #[.slice a1 n1l p1] 76)) (.slice (some ⟨w1.heap.size, 0, none⟩) 1 1) [sp1] [.slice a1 n1l p1] T0) := Lib.hid
    ⟨owns_lit w1 #[.slice a1 n1l p1] 76 w.heap.size 1 1 rfl HF1.out.size (by decide), Cat.one (k := 1) rfl ⟨.slice a1 n1l p1, rfl, by rw [HNL1.out]; exact HSL1.out.kpt (KpT.of_below (below1 _ _))⟩, HR1.out.alloc _, HF1.out.alloc _, HLT.out, by simp only [List.length_cons, List.length_nil]; omega⟩
  go_wp2
  go_loopw [3] (fun v wr => ∃ (xs : List (List Rl)) (vs : List Value) (g cap : Nat) (T : St) (f : Nat), v = .slice (some ⟨g, 0, none⟩) xs.length cap ∧ Hid (RuU s rb w wr (.slice (some ⟨g, 0, none⟩) xs.length cap) xs vs T) ∧ Hid (ruleF s.data.toList S = ruleL s.data.toList f xs T) ∧ Hid (T.2 = false → s.data.toList.length ≤ f + T.1)) (fun _ wr => pl2 s.size rb wr)
  case atStart => exact ⟨_, _, _, _, _, _, rfl, HU0, HS0, Lib.hid (fun _ => by omega)⟩
  case round =>
    obtain ⟨xs, vs, g, cap, T, f, rfl, HU, HS, Hf⟩ := hrel
    have HM := Lib.hid (pl2_at (m := s.size) HU.out.rd)
    clear HU0 HS0 HLT HR1 HF1 HG0 HR HSL1 HNL1
    obtain ⟨n, HL⟩ : ∃ n, Hid (n = xs.length) := ⟨_, Lib.hid rfl⟩
    rw [← HL.out]
    have c0 := HU.out.rd.c0
    have c1 := HU.out.rd.c1
    have c2 := HU.out.rd.c2
    by_cases hb : T.2 = false ∧ T.1 < s.data.toList.length
    rotate_left
    · have HE := Lib.hid (HS.out.trans (ruleL_no hb))
      cases hst : T.2 with
      | true =>
        rw [hst] at c2
        clear hb hst
        go_wp2
        go_quiet (fail)
        generalize hw0 : wr.drewN nq = w2
        have hw2 : Same wr w2 := by rw [← hw0]; exact (Same.refl _).drewN _
        have HU2 : Hid (RuU s rb w w2 (.slice (some ⟨g, 0, none⟩) xs.length cap) xs vs T) := Lib.hid ⟨ownsRow_keep HU.out.own (fun _ _ => by rw [hw2.heap]), HU.out.cat.mono (fun _ _ h => h.kpt (fun _ _ => by rw [hw2.heap])), HU.out.rd.same hw2, HU.out.fr.trans (Fr.of_same hw2), HU.out.le, HU.out.few⟩
        clear hw2 hw0
        go_wp2
        go_ret
        have hcat := HU2.out.cat.mono (C' := CW w2 (Ty [130, 102, 76] w2)) (fun _ _ h => CW.keep (fun _ _ => rfl) (fun _ h => h.mono (by simp)) h)
        have := Sl.of_owns HU2.out.own hcat (S := Ty [130, 102, 76] w2) (fun b cs z h => ⟨cs, 76, z, h, by simp⟩)
        rw [HE.out]
        refine ⟨_, cap, by rw [HL.out]; rfl, this, HU2.out.rd, HU2.out.fr⟩
      | false =>
        rw [hst] at c2
        have hge : ¬ T.1 < s.size := fun h => hb ⟨hst, by simpa using h⟩
        clear hb hst
        go_wp2
        go_quiet (fail)
        generalize hw0 : wr.drewN nq = w2
        have hw2 : Same wr w2 := by rw [← hw0]; exact (Same.refl _).drewN _
        have HU2 : Hid (RuU s rb w w2 (.slice (some ⟨g, 0, none⟩) xs.length cap) xs vs T) := Lib.hid ⟨ownsRow_keep HU.out.own (fun _ _ => by rw [hw2.heap]), HU.out.cat.mono (fun _ _ h => h.kpt (fun _ _ => by rw [hw2.heap])), HU.out.rd.same hw2, HU.out.fr.trans (Fr.of_same hw2), HU.out.le, HU.out.few⟩
        clear hw2 hw0
        go_wp2
        go_ret
        have hcat := HU2.out.cat.mono (C' := CW w2 (Ty [130, 102, 76] w2)) (fun _ _ h => CW.keep (fun _ _ => rfl) (fun _ h => h.mono (by simp)) h)
        have := Sl.of_owns HU2.out.own hcat (S := Ty [130, 102, 76] w2) (fun b cs z h => ⟨cs, 76, z, h, by simp⟩)
        rw [HE.out]
        refine ⟨_, cap, by rw [HL.out]; rfl, this, HU2.out.rd, HU2.out.fr⟩
    · obtain ⟨f', hf', hE⟩ := ruleL_yes (xs := xs) hb (Hf.out hb.1)
      have hf2 := Lib.hid hf'
      clear hf'
      obtain ⟨hst, hlt⟩ := hb
      have hlt2 : T.1 < s.size := by simpa using hlt
      rw [hst] at c2
      have HST := Lib.hid hst
      clear hst hlt
      go_wp2
      go_quiet (fail)
      generalize hw0 : wr.drewN nq = w2
      have hw2 : Same wr w2 := by rw [← hw0]; exact (Same.refl _).drewN _
      have HU2 : Hid (RuU s rb w w2 (.slice (some ⟨g, 0, none⟩) xs.length cap) xs vs T) := Lib.hid ⟨ownsRow_keep HU.out.own (fun _ _ => by rw [hw2.heap]), HU.out.cat.mono (fun _ _ h => h.kpt (fun _ _ => by rw [hw2.heap])), HU.out.rd.same hw2, HU.out.fr.trans (Fr.of_same hw2), HU.out.le, HU.out.few⟩
      clear hw2 hw0 HU c0 c1 c2
      have HE := Lib.hid (HS.out.trans hE)
      have HG1 := Lib.hid (ge_word s.data.toList [32, 111, 114, 32] T)
      have HTW : Hid ((wordF s.data.toList [32, 111, 114, 32] T).1 ≤ s.size) := Lib.hid (by have := HG1.out.2 (by simpa using HU2.out.le); simpa using this)
      have HADV := Lib.hid (rule_adv s.data.toList T HST.out)
      have HG2 := Lib.hid (ge_row s.data.toList (wordF s.data.toList [32, 111, 114, 32] T))
      have HTX : Hid ((rowF s.data.toList (wordF s.data.toList [32, 111, 114, 32] T)).2.1 ≤ s.size) := Lib.hid (by have := HG2.out.2 (by simpa using HTW.out); simpa using this)
      have HWD : Hid (Calls Tryz.prog 77 #[.pointer (some ⟨rb, 0, none⟩), .string ⟨#[32, 111, 114, 32]⟩] w2 fun e w' => e = .returned (.tuple #[]) ∧ RdAt w' rb s (wordF s.data.toList [32, 111, 114, 32] T) ∧ Fr (· = rb) w2 w') := Lib.hid (word_any rb s ⟨#[32, 111, 114, 32]⟩ T w2 hs (by decide) HU2.out.le HU2.out.rd)
      clear hE HS
      go_wp2_with fail
      refine HWD.out.mono ?_
      rintro e w3 ⟨rfl, hr3, hf3⟩
      have HF3 := Lib.hid hf3
      have HN3 := Lib.hid (row_any rb s _ w3 hs HTW.out hr3)
      clear hr3 hf3 HWD
      go_wp2_with fail
      refine HN3.out.mono ?_
      rintro e w4 ⟨a2, p2, rfl, hsl4, hr4, hf4⟩
      have HF4 := Lib.hid (HF3.out.trans hf4)
      have HO4 : Hid (w4.ownsRow w.heap.size 76 1 (.slice (some ⟨g, 0, none⟩) n cap) n vs) := Lib.hid (by rw [HL.out]; exact ownsRow_keep HU2.out.own (fun k hk => HF4.out.block k (HU2.out.own.lt k hk).2 (by have := (HU2.out.own.lt k hk).1; omega)))
      have HC4 := Lib.hid (HU2.out.cat.mono (fun _ _ h => h.kpt (KpT.of_fr HF4.out HU2.out.rd (by decide))))
      have HR4 := Lib.hid hr4
      have HSL4 := Lib.hid hsl4
      have HZ4 : Hid (w.heap.size ≤ w4.heap.size) := Lib.hid (HU2.out.fr.trans HF4.out).size
      have HNF : Hid (n ≤ 1000) := Lib.hid (by have h := HU2.out.few; rw [HST.out] at h; have := HU2.out.le; have := HL.out; simp only [Bool.toNat_false] at h; omega)
      clear hr4 hf4 HN3 HF3 hsl4
      generalize rowF s.data.toList (wordF s.data.toList [32, 111, 114, 32] T) = q at *
      obtain ⟨sp2, T2⟩ := q
      simp only at HR4 HE HTX HG2 HSL4 HADV ⊢
      obtain ⟨n2l, HNL2⟩ : ∃ n, Hid (n = sp2.length) := ⟨_, Lib.hid rfl⟩
      rw [← HNL2.out]
      have hz4 := HZ4.out
      have hnf := HNF.out
      go_wp2_with (at_builtin; refine wpList_append_lies _ rfl _ _ 50 rfl w.heap.size 76 i0 _ 1 24 Tryz.underlying50 hi hz0 hz1 hz2 rfl (by decide) _ _ _ rfl (HO4.out.alloc _) _ 1 1 [.slice a2 n2l p2] rfl rfl (cell_newL _ #[.slice a2 n2l p2] _ rfl) (by simp [Value.oneCell']) (by decide) (by unfold maxLen; omega) (by omega) (by simp; omega) (w4.heap.size + 1) (by simp) ?_; intro g5 c5 w5 hown5 hgrow5 _ _; have HO5 := Lib.hid hown5; have HG5 := Lib.hid hgrow5; clear hown5 hgrow5)
      have HK5 : Hid (KpT [130, 102] w4 w5) := Lib.hid ((KpT.of_below (below1 w4 _)).trans (KpT.of_grown HG5.out (HO4.out.alloc _) (by decide)))
      have HU5 : Hid (RuU s rb w w5 (.slice (some ⟨g5, 0, none⟩) (xs ++ [sp2]).length c5) (xs ++ [sp2]) (vs ++ [.slice a2 n2l p2]) T2) := Lib.hid
        ⟨by rw [List.length_append, ← HL.out]; exact HO5.out, Cat.snoc (k := 1) (C := CW w5 (Ty [130, 102] w5)) (cs := [.slice a2 n2l p2]) rfl ⟨.slice a2 n2l p2, rfl, by rw [HNL2.out]; exact HSL4.out.kpt HK5.out⟩ (HC4.out.mono (fun _ _ h => h.kpt HK5.out)), grown_rd HG5.out HR4.out HO4.out hlr, grown_fr HG5.out (HU2.out.fr.trans HF4.out) HO4.out (Nat.le_refl _), HTX.out, few_rule HU2.out.few HST.out HG1.out.1 HG2.out.1 HADV.out⟩
      go_roundw
      case rel => exact ⟨_, _, g5, c5, T2, f', by rw [List.length_append, ← HL.out]; rfl, HU5, HE, Lib.hid (fuel_rule Hf.out HST.out hf2.out HADV.out)⟩
      case measure =>
        have h1 := pl2_at (m := s.size) HU5.out.rd
        rw [HM.out, h1]
        have h3 := HG2.out.1; have h4 := HTX.out; have h5 := HG1.out.1
        rw [HST.out]
        rcases HADV.out with h | h
        · rw [h]; simp; omega
        · cases T2.2 <;> simp <;> omega
end Go.Proofs.YtlmaafmhadbiaaaGreatDoor.Pu
