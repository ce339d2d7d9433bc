/- The reader: a row. -/
import Derived.Test.YtlmaafmhadbiaaaGreatDoorURd5
namespace Go.Proofs.YtlmaafmhadbiaaaGreatDoor.Pu
open Go.RowKit

theorem rowL_yes {l : List UInt8} {f : Nat} {xs : List (Rl)} {S : St} (h : nextF l [32, 97] S = true) (hf : l.length ≤ f + S.1) : ∃ f', f = f' + 1 ∧ rowL l f xs S = rowL l f' (xs ++ [(relF l (wordF l [32, 97, 110, 100, 32] S)).1]) (relF l (wordF l [32, 97, 110, 100, 32] S)).2 := by
  have : S.1 < l.length := get_lt (next_in h).2
  obtain ⟨f', rfl⟩ : ∃ f', f = f' + 1 := ⟨f - 1, by omega⟩
  exact ⟨f', rfl, by rw [rowL, if_pos h]⟩
theorem rowL_no {l : List UInt8} {f : Nat} {xs : List (Rl)} {S : St} (h : nextF l [32, 97] S = false) : rowL l f xs S = (xs, S) := by
  cases f with
  | zero => rw [rowL]
  | succ f => rw [rowL, if_neg (by rw [h]; simp)]
/-- A row under way. -/
structure RwU (s : BA) (rb : Nat) (w wr : World) (v : Value) (xs : List (Rl)) (vs : List Value) (T : St) : Prop where
  own : wr.ownsRow w.heap.size 102 3 v xs.length vs
  cat : Cat 3 (CR wr (Ty [130] wr)) xs vs
  rd : RdAt wr rb s T
  fr : Fr (· = rb) w wr
  le : T.1 ≤ s.size
  few : xs.length ≤ T.1 + 1

set_option maxHeartbeats 3200000 in
set_option maxRecDepth 100000 in
theorem row_any (rb : Nat) (s : BA) (S : St) (w : World) (hs : s.size ≤ 400) (hS : S.1 ≤ s.size) (hR : RdAt w rb s S) :
    Calls Tryz.prog 76 #[.pointer (some ⟨rb, 0, none⟩)] w fun e w' => ∃ a cap, e = .returned (.slice a (rowF s.data.toList S).1.length cap) ∧ SlR w' (Ty [130, 102] w') (.slice a (rowF s.data.toList S).1.length cap) (rowF s.data.toList S).1 ∧ RdAt w' rb s (rowF s.data.toList S).2 ∧ Fr (· = rb) w w' := by
  obtain ⟨i0, hi, hz0, hz1, hz2⟩ := info_parts info49
  have HR := Lib.hid hR
  have hlr := hR.lt
  have HG0 := Lib.hid (ge_rel s.data.toList S)
  have HS0 : Hid (rowF s.data.toList S = rowL s.data.toList s.data.toList.length [(relF s.data.toList S).1] (relF s.data.toList S).2) := Lib.hid rfl
  have HN1 := Lib.hid (relation_any rb s S w hs hS hR)
  clear hR
  go_enter Tryz.func76, Tryz.ntmps76
  go_wp2_with fail
  refine HN1.out.mono ?_
  rintro e w1 ⟨a1, p1, rfl, hsl1, hr1, hf1⟩
  have HR1 := Lib.hid hr1
  have HF1 := Lib.hid hf1
  have HSL1 := Lib.hid hsl1
  clear hr1 hf1 HN1 hsl1
  generalize relF s.data.toList S = r at *
  obtain ⟨⟨m1, n1, sp1⟩, T0⟩ := r
  simp only at HR1 HS0 HG0 HSL1 ⊢
  obtain ⟨n1l, HNL1⟩ : ∃ n, Hid (n = sp1.length) := ⟨_, Lib.hid rfl⟩
  rw [← HNL1.out]
  have HLT : Hid (T0.1 ≤ s.size) := Lib.hid (by have := HG0.out.2 (by simpa using hS); simpa using this)
  have HU0 : Hid (RwU s rb w (w1.alloc (.cells #[.int .i64 m1, .bool n1, .slice a1 n1l p1] 102)) (.slice (some ⟨w1.heap.size, 0, none⟩) 1 1) [⟨m1, n1, sp1⟩] [.int .i64 m1, .bool n1, .slice a1 n1l p1] T0) := Lib.hid
    ⟨owns_lit w1 #[.int .i64 m1, .bool n1, .slice a1 n1l p1] 102 w.heap.size 1 3 rfl HF1.out.size (by decide), Cat.one (k := 3) rfl ⟨.slice a1 n1l p1, rfl, by rw [HNL1.out]; exact HSL1.out.kpt (KpT.of_below (below1 _ _))⟩, HR1.out.alloc _, HF1.out.alloc _, HLT.out, by simp⟩
  go_wp2
  go_loopw [3] (fun v wr => ∃ (xs : List (Rl)) (vs : List Value) (g cap : Nat) (T : St) (f : Nat), v = .slice (some ⟨g, 0, none⟩) xs.length cap ∧ Hid (RwU s rb w wr (.slice (some ⟨g, 0, none⟩) xs.length cap) xs vs T) ∧ Hid (rowF s.data.toList S = rowL s.data.toList f xs T) ∧ Hid (s.data.toList.length ≤ f + T.1)) (fun _ wr => plc s.size rb wr)
  case atStart => exact ⟨_, _, _, _, _, _, rfl, HU0, HS0, Lib.hid (by omega)⟩
  case round =>
    obtain ⟨xs, vs, g, cap, T, f, rfl, HU, HS, Hf⟩ := hrel
    have HM := Lib.hid (plc_at (m := s.size) HU.out.rd)
    have HN2 : Hid (Calls Tryz.prog 94 #[.pointer (some ⟨rb, 0, none⟩), .string ⟨#[32, 97]⟩] wr fun e w' => e = .returned (.bool (nextF s.data.toList [32, 97] T)) ∧ Same wr w') := Lib.hid (next_any rb s ⟨#[32, 97]⟩ _ wr hs HU.out.le HU.out.rd)
    clear HU0 HS0 HLT HR1 HF1 HG0 HR HSL1 HNL1
    obtain ⟨n, HL⟩ : ∃ n, Hid (n = xs.length) := ⟨_, Lib.hid rfl⟩
    rw [← HL.out]
    go_wp2_with fail
    refine HN2.out.mono ?_
    rintro e w2 ⟨rfl, hw2⟩
    have HU2 : Hid (RwU s rb w w2 (.slice (some ⟨g, 0, none⟩) xs.length cap) xs vs T) := Lib.hid ⟨ownsRow_keep HU.out.own (fun _ _ => by rw [hw2.heap]), HU.out.cat.mono (fun _ _ h => h.kpt (fun _ _ => by rw [hw2.heap])), HU.out.rd.same hw2, HU.out.fr.trans (Fr.of_same hw2), HU.out.le, HU.out.few⟩
    clear hw2 HN2 HU
    cases hb : nextF s.data.toList [32, 97] T with
    | false =>
      have HE := Lib.hid (HS.out.trans (rowL_no hb))
      clear hb
      go_wp2
      go_ret
      have hcat := HU2.out.cat.mono (C' := CR w2 (Ty [130, 102] w2)) (fun _ _ h => CR.keep (fun _ _ => rfl) (fun _ h => h.mono (by simp)) h)
      have := Sl.of_owns HU2.out.own hcat (S := Ty [130, 102] w2) (fun b cs z h => ⟨cs, 102, z, h, by simp⟩)
      rw [HE.out]
      refine ⟨_, cap, by rw [HL.out]; rfl, this, HU2.out.rd, HU2.out.fr⟩
    | true =>
      obtain ⟨f', hf', hE⟩ := rowL_yes (xs := xs) hb Hf.out
      have HW1 := Lib.hid (word_on (u := [97, 110, 100, 32]) hb)
      have HE := Lib.hid (HS.out.trans hE)
      have HG1 := Lib.hid (ge_word s.data.toList [32, 97, 110, 100, 32] T)
      have HTW : Hid ((wordF s.data.toList [32, 97, 110, 100, 32] T).1 ≤ s.size) := Lib.hid (by have := HG1.out.2 (by simpa using HU2.out.le); simpa using this)
      have HG2 := Lib.hid (ge_rel s.data.toList (wordF s.data.toList [32, 97, 110, 100, 32] T))
      have HTX : Hid ((relF s.data.toList (wordF s.data.toList [32, 97, 110, 100, 32] T)).2.1 ≤ s.size) := Lib.hid (by have := HG2.out.2 (by simpa using HTW.out); simpa using this)
      have HWD : Hid (Calls Tryz.prog 77 #[.pointer (some ⟨rb, 0, none⟩), .string ⟨#[32, 97, 110, 100, 32]⟩] w2 fun e w' => e = .returned (.tuple #[]) ∧ RdAt w' rb s (wordF s.data.toList [32, 97, 110, 100, 32] T) ∧ Fr (· = rb) w2 w') := Lib.hid (word_any rb s ⟨#[32, 97, 110, 100, 32]⟩ T w2 hs (by decide) HU2.out.le HU2.out.rd)
      clear hb hE HS
      go_wp2_with fail
      refine HWD.out.mono ?_
      rintro e w3 ⟨rfl, hr3, hf3⟩
      have HF3 := Lib.hid hf3
      have HN3 := Lib.hid (relation_any rb s _ w3 hs HTW.out hr3)
      clear hr3 hf3 HWD
      go_wp2_with fail
      refine HN3.out.mono ?_
      rintro e w4 ⟨a2, p2, rfl, hsl4, hr4, hf4⟩
      have HF4 := Lib.hid (HF3.out.trans hf4)
      have HO4 : Hid (w4.ownsRow w.heap.size 102 3 (.slice (some ⟨g, 0, none⟩) n cap) n vs) := Lib.hid (by rw [HL.out]; exact ownsRow_keep HU2.out.own (fun k hk => HF4.out.block k (HU2.out.own.lt k hk).2 (by have := (HU2.out.own.lt k hk).1; omega)))
      have HC4 := Lib.hid (HU2.out.cat.mono (fun _ _ h => h.kpt (KpT.of_fr HF4.out HU2.out.rd (by decide))))
      have HR4 := Lib.hid hr4
      have HSL4 := Lib.hid hsl4
      have HZ4 : Hid (w.heap.size ≤ w4.heap.size) := Lib.hid (HU2.out.fr.trans HF4.out).size
      have HNF : Hid (n ≤ 1000) := Lib.hid (by have := HU2.out.few; have := HU2.out.le; have := HL.out; omega)
      clear hr4 hf4 HN3 HF3 hsl4
      generalize relF s.data.toList (wordF s.data.toList [32, 97, 110, 100, 32] T) = q at *
      obtain ⟨⟨m2, n2, sp2⟩, T2⟩ := q
      simp only at HR4 HE HTX HG2 HSL4 ⊢
      obtain ⟨n2l, HNL2⟩ : ∃ n, Hid (n = sp2.length) := ⟨_, Lib.hid rfl⟩
      rw [← HNL2.out]
      have hz4 := HZ4.out
      have hnf := HNF.out
      go_wp2_with (at_builtin; refine wpList_append_lies _ rfl _ _ 76 rfl w.heap.size 102 i0 _ 3 40 Tryz.underlying76 hi hz0 hz1 hz2 rfl (by decide) _ _ _ rfl (HO4.out.alloc _) _ 1 1 [.int .i64 m2, .bool n2, .slice a2 n2l p2] rfl rfl (cell_newL _ #[.int .i64 m2, .bool n2, .slice a2 n2l p2] _ rfl) (by simp [Value.oneCell']) (by decide) (by unfold maxLen; omega) (by omega) (by simp; omega) (w4.heap.size + 1) (by simp) ?_; intro g5 c5 w5 hown5 hgrow5 _ _; have HO5 := Lib.hid hown5; have HG5 := Lib.hid hgrow5; clear hown5 hgrow5)
      have HK5 : Hid (KpT [130] w4 w5) := Lib.hid ((KpT.of_below (below1 w4 _)).trans (KpT.of_grown HG5.out (HO4.out.alloc _) (by decide)))
      have HU5 : Hid (RwU s rb w w5 (.slice (some ⟨g5, 0, none⟩) (xs ++ [(⟨m2, n2, sp2⟩ : Rl)]).length c5) (xs ++ [(⟨m2, n2, sp2⟩ : Rl)]) (vs ++ [.int .i64 m2, .bool n2, .slice a2 n2l p2]) T2) := Lib.hid
        ⟨by rw [List.length_append, ← HL.out]; exact HO5.out, Cat.snoc (k := 3) (C := CR w5 (Ty [130] w5)) (cs := [.int .i64 m2, .bool n2, .slice a2 n2l p2]) rfl ⟨.slice a2 n2l p2, rfl, by rw [HNL2.out]; exact HSL4.out.kpt HK5.out⟩ (HC4.out.mono (fun _ _ h => h.kpt HK5.out)), grown_rd HG5.out HR4.out HO4.out hlr, grown_fr HG5.out (HU2.out.fr.trans HF4.out) HO4.out (Nat.le_refl _), HTX.out, by have h1 := HU2.out.few; have h2 := HG2.out.1; have h9 := HW1.out; rw [List.length_append]; simp only [List.length_cons, List.length_nil]; omega⟩
      go_roundw
      case rel => exact ⟨_, _, g5, c5, T2, f', by rw [List.length_append, ← HL.out]; rfl, HU5, HE, Lib.hid (by have h1 := Hf.out; have h2 := HG2.out.1; have h9 := HW1.out; omega)⟩
      case measure =>
        have h1 := plc_at (m := s.size) HU5.out.rd
        rw [HM.out, h1]
        have h3 := HG2.out.1; have h4 := HTX.out; have h9 := HW1.out; omega
end Go.Proofs.YtlmaafmhadbiaaaGreatDoor.Pu
