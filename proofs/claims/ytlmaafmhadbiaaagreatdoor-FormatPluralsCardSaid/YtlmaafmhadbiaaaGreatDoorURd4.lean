/- The reader: spans. -/
import Derived.Test.YtlmaafmhadbiaaaGreatDoorURd3
namespace Go.Proofs.YtlmaafmhadbiaaaGreatDoor.Pu
open Go.RowKit

theorem spansL_yes {l : List UInt8} {f : Nat} {xs : List Sp} {S : St} (h : nextF l [44] S = true) (hf : l.length ≤ f + S.1) : ∃ f', f = f' + 1 ∧ spansL l f xs S = spansL l f' (xs ++ [(spanF l (wordF l [44] S)).1]) (spanF l (wordF l [44] S)).2 := by
  have := get_lt (next_in h).2
  obtain ⟨f', rfl⟩ : ∃ f', f = f' + 1 := ⟨f - 1, by omega⟩
  exact ⟨f', rfl, by rw [spansL, if_pos h]⟩
theorem spansL_no {l : List UInt8} {f : Nat} {xs : List Sp} {S : St} (h : nextF l [44] S = false) : spansL l f xs S = (xs, S) := by
  cases f with
  | zero => rw [spansL]
  | succ f => rw [spansL, h]; rfl

/-- Spans under way. -/
structure SpU (s : BA) (rb : Nat) (w wr : World) (v : Value) (xs : List Sp) (vs : List Value) (T : St) : Prop where
  own : wr.ownsRow w.heap.size 130 2 v xs.length vs
  cat : Cat 2 CS xs vs
  rd : RdAt wr rb s T
  fr : Fr (· = rb) w wr
  le : T.1 ≤ s.size
  few : xs.length ≤ T.1 + 1
theorem grown_fr {w w4 w5 : World} {rb base size n : Nat} {e : TypeId} {v : Value} {vs : List Value} {o : Obj} (hg : (w4.alloc o).grownBy w5 v.ownBlock) (hf : Fr (· = rb) w w4) (ho : w4.ownsRow base e size v n vs) (hb : w.heap.size ≤ base) : Fr (· = rb) w w5 :=
  (hf.alloc o).grown hg (fun g hg => .inl (Nat.le_trans hb (ho.lt g hg).1))
theorem grown_rd {w4 w5 : World} {rb base size n : Nat} {e : TypeId} {v : Value} {vs : List Value} {o : Obj} {s : BA} {T : St} (hg : (w4.alloc o).grownBy w5 v.ownBlock) (hr : RdAt w4 rb s T) (ho : w4.ownsRow base e size v n vs) (hb : rb < base) : RdAt w5 rb s T :=
  (hr.alloc o).keep (hg.block rb (hr.alloc o).lt (fun e => by have := (ho.lt rb e.symm).1; omega))

set_option maxHeartbeats 3200000 in
set_option maxRecDepth 100000 in
theorem spans_any (rb : Nat) (s : BA) (S : St) (w : World) (hs : s.size ≤ 400) (hS : S.1 ≤ s.size) (hR : RdAt w rb s S) :
    Calls Tryz.prog 108 #[.pointer (some ⟨rb, 0, none⟩)] w fun e w' => ∃ a cap, e = .returned (.slice a (spansF s.data.toList S).1.length cap) ∧ SlS w' (Ty [130] w') (.slice a (spansF s.data.toList S).1.length cap) (spansF s.data.toList S).1 ∧ RdAt w' rb s (spansF s.data.toList S).2 ∧ Fr (· = rb) w w' := by
  obtain ⟨i0, hi, hz0, hz1, hz2⟩ := info_parts info55
  have HR := Lib.hid hR
  have hlr := hR.lt
  have HG0 := Lib.hid (ge_span s.data.toList S)
  have HS0 : Hid (spansF s.data.toList S = spansL s.data.toList s.data.toList.length [(spanF s.data.toList S).1] (spanF s.data.toList S).2) := Lib.hid rfl
  have HN1 := Lib.hid (span_any rb s S w hs hS hR)
  clear hR
  go_enter Tryz.func108, Tryz.ntmps108
  go_wp2_with fail
  refine HN1.out.mono ?_
  rintro e w1 ⟨rfl, hr1, hf1⟩
  have HR1 := Lib.hid hr1
  have HF1 := Lib.hid hf1
  clear hr1 hf1 HN1
  generalize spanF s.data.toList S = r at *
  obtain ⟨⟨lo, hi1⟩, T0⟩ := r
  simp only at HR1 HS0 HG0 ⊢
  have HLT : Hid (T0.1 ≤ s.size) := Lib.hid (by have := HG0.out.2 (by simpa using hS); simpa using this)
  have HU0 : Hid (SpU s rb w (w1.alloc (.cells #[.int .i64 lo, .int .i64 hi1] 130)) (.slice (some ⟨w1.heap.size, 0, none⟩) 1 1) [⟨lo, hi1⟩] [.int .i64 lo, .int .i64 hi1] T0) := Lib.hid
    ⟨owns_lit w1 #[.int .i64 lo, .int .i64 hi1] 130 w.heap.size 1 2 rfl HF1.out.size (by decide), Cat.one rfl rfl, HR1.out.alloc _, HF1.out.alloc _, HLT.out, by simp⟩
  go_wp2
  go_loopw [3] (fun v wr => ∃ (xs : List Sp) (vs : List Value) (g cap : Nat) (T : St) (f : Nat), v = .slice (some ⟨g, 0, none⟩) xs.length cap ∧ Hid (SpU s rb w wr (.slice (some ⟨g, 0, none⟩) xs.length cap) xs vs T) ∧ Hid (spansF s.data.toList S = spansL s.data.toList f xs T) ∧ Hid (s.data.toList.length ≤ f + T.1)) (fun _ wr => plc s.size rb wr)
  case atStart => exact ⟨_, _, _, _, _, _, rfl, HU0, HS0, Lib.hid (by omega)⟩
  case round =>
    obtain ⟨xs, vs, g, cap, T, f, rfl, HU, HS, Hf⟩ := hrel
    have HM := Lib.hid (plc_at (m := s.size) HU.out.rd)
    have HN2 : Hid (Calls Tryz.prog 94 #[.pointer (some ⟨rb, 0, none⟩), .string ⟨#[44]⟩] wr fun e w' => e = .returned (.bool (nextF s.data.toList [44] T)) ∧ Same wr w') := Lib.hid (next_any rb s ⟨#[44]⟩ _ wr hs HU.out.le HU.out.rd)
    clear HU0 HS0 HLT HR1 HF1 HG0 HR
    obtain ⟨n, HL⟩ : ∃ n, Hid (n = xs.length) := ⟨_, Lib.hid rfl⟩
    rw [← HL.out]
    go_wp2_with fail
    refine HN2.out.mono ?_
    rintro e w2 ⟨rfl, hw2⟩
    have HU2 : Hid (SpU s rb w w2 (.slice (some ⟨g, 0, none⟩) xs.length cap) xs vs T) := Lib.hid ⟨ownsRow_keep HU.out.own (fun _ _ => by rw [hw2.heap]), HU.out.cat, HU.out.rd.same hw2, HU.out.fr.trans (Fr.of_same hw2), HU.out.le, HU.out.few⟩
    clear hw2 HN2 HU
    cases hb : nextF s.data.toList [44] T with
    | false =>
      have HE := Lib.hid (HS.out.trans (spansL_no hb))
      clear hb
      go_wp2
      go_ret
      have := Sl.of_owns HU2.out.own HU2.out.cat (S := Ty [130] w2) (fun b cs z h => ⟨cs, 130, z, h, by simp⟩)
      rw [HE.out]
      refine ⟨_, cap, by rw [HL.out]; rfl, this, HU2.out.rd, HU2.out.fr⟩
    | true =>
      obtain ⟨f', hf', hE⟩ := spansL_yes (xs := xs) hb Hf.out
      have HE := Lib.hid (HS.out.trans hE)
      have HW1 := Lib.hid (word_on (u := []) hb)
      have HG1 := Lib.hid (ge_word s.data.toList [44] T)
      have HTW : Hid ((wordF s.data.toList [44] T).1 ≤ s.size) := Lib.hid (by have := HG1.out.2 (by simpa using HU2.out.le); simpa using this)
      have HG2 := Lib.hid (ge_span s.data.toList (wordF s.data.toList [44] T))
      have HTX : Hid ((spanF s.data.toList (wordF s.data.toList [44] T)).2.1 ≤ s.size) := Lib.hid (by have := HG2.out.2 (by simpa using HTW.out); simpa using this)
      have HWD : Hid (Calls Tryz.prog 77 #[.pointer (some ⟨rb, 0, none⟩), .string ⟨#[44]⟩] w2 fun e w' => e = .returned (.tuple #[]) ∧ RdAt w' rb s (wordF s.data.toList [44] T) ∧ Fr (· = rb) w2 w') := Lib.hid (word_any rb s ⟨#[44]⟩ T w2 hs (by decide) HU2.out.le HU2.out.rd)
      clear hb hE HS
      go_wp2_with fail
      refine HWD.out.mono ?_
      rintro e w3 ⟨rfl, hr3, hf3⟩
      have HF3 := Lib.hid hf3
      have HN3 := Lib.hid (span_any rb s _ w3 hs HTW.out hr3)
      clear hr3 hf3 HWD
      go_wp2_with fail
      refine HN3.out.mono ?_
      rintro e w4 ⟨rfl, hr4, hf4⟩
      have HF4 := Lib.hid (HF3.out.trans hf4)
      have HO4 : Hid (w4.ownsRow w.heap.size 130 2 (.slice (some ⟨g, 0, none⟩) n cap) n vs) := Lib.hid (by rw [HL.out]; exact ownsRow_keep HU2.out.own (fun k hk => HF4.out.block k (HU2.out.own.lt k hk).2 (by have := (HU2.out.own.lt k hk).1; omega)))
      have HR4 := Lib.hid hr4
      have HZ4 : Hid (w.heap.size ≤ w4.heap.size) := Lib.hid (HU2.out.fr.trans HF4.out).size
      have HNF : Hid (n ≤ 1000) := Lib.hid (by have := HU2.out.few; have := HU2.out.le; have := HL.out; omega)
      clear hr4 hf4 HN3 HF3
      generalize spanF s.data.toList (wordF s.data.toList [44] T) = q at *
      obtain ⟨⟨lo2, hi2⟩, T2⟩ := q
      simp only at HR4 HE HTX HG2 ⊢
      have hz4 := HZ4.out
      have hnf := HNF.out
      go_wp2_with (at_builtin; refine wpList_append_lies _ rfl _ _ 100 rfl w.heap.size 130 i0 _ 2 16 Tryz.underlying100 hi hz0 hz1 hz2 rfl (by decide) _ _ _ rfl (HO4.out.alloc _) _ 1 1 [.int .i64 lo2, .int .i64 hi2] rfl rfl (cell_newL _ #[.int .i64 lo2, .int .i64 hi2] _ rfl) (by simp [Value.oneCell']) (by decide) (by unfold maxLen; omega) (by omega) (by simp; omega) (w4.heap.size + 1) (by simp) ?_; intro g5 c5 w5 hown5 hgrow5 _ _; have HO5 := Lib.hid hown5; have HG5 := Lib.hid hgrow5; clear hown5 hgrow5)
      have HU5 : Hid (SpU s rb w w5 (.slice (some ⟨g5, 0, none⟩) (xs ++ [(⟨lo2, hi2⟩ : Sp)]).length c5) (xs ++ [(⟨lo2, hi2⟩ : Sp)]) (vs ++ [.int .i64 lo2, .int .i64 hi2]) T2) := Lib.hid
        ⟨by rw [List.length_append, ← HL.out]; exact HO5.out, Cat.snoc (C := CS) (x := ⟨lo2, hi2⟩) (cs := [.int .i64 lo2, .int .i64 hi2]) rfl rfl HU2.out.cat, grown_rd HG5.out HR4.out HO4.out hlr, grown_fr HG5.out (HU2.out.fr.trans HF4.out) HO4.out (Nat.le_refl _), HTX.out, by have := HU2.out.few; have := HW1.out; have := HG2.out.1; rw [List.length_append]; simp only [List.length_cons, List.length_nil]; omega⟩
      go_roundw
      case rel => exact ⟨_, _, g5, c5, T2, f', by rw [List.length_append, ← HL.out]; rfl, HU5, HE, Lib.hid (by have := Hf.out; have h1 := HW1.out; have h2 := HG2.out.1; omega)⟩
      case measure =>
        have h1 := plc_at (m := s.size) HU5.out.rd
        rw [HM.out, h1]
        have h2 := HW1.out; have h3 := HG2.out.1; have h4 := HTX.out; omega
end Go.Proofs.YtlmaafmhadbiaaaGreatDoor.Pu
