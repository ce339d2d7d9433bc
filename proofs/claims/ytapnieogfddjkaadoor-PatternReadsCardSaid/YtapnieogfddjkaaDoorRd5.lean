/- The reader: text. -/
import Derived.Test.YtapnieogfddjkaaDoorRd4
namespace Go.Proofs.YtapnieogfddjkaaDoor
open Go.RowKit

/-- A builder under way. -/
abbrev Bd (B b : Nat) (acc : List UInt8) (w : World) : Prop := Lib.IsBuilderF 48 5 B b (Lib.byteCells acc) w
theorem lt_of_heap {w : World} {k : Nat} {o : Obj} (h : w.heap[k]? = some o) : k < w.heap.size := (Array.getElem?_eq_some_iff.1 h).1
theorem Bd.keep {B b : Nat} {acc : List UInt8} {w w' : World} (hh : Bd B b acc w) (hb : ∀ k, B ≤ k → k < w.heap.size → w'.heap[k]? = w.heap[k]?) : Bd B b acc w' := by
  have hk : ∀ {p : Value}, Lib.BuilderAtF 48 5 B b p (Lib.byteCells acc) w → Lib.BuilderAtF 48 5 B b p (Lib.byteCells acc) w' := fun h => by
    obtain ⟨hB, v, hbk, hown, hne⟩ := h
    refine ⟨hB, v, (hb b hB (lt_of_heap hbk)).trans hbk, ⟨hown.1, ?_⟩, hne⟩
    rcases hown.2 with h0 | ⟨g, cap, cur, fz, hv, h1, h2, hr⟩
    · exact .inl h0
    · exact .inr ⟨g, cap, cur, fz, hv, h1, (hb g h1 (lt_of_heap h2)).trans h2, hr⟩
  exact hh.imp hk hk
theorem Bd.fr {B b rb : Nat} {acc : List UInt8} {w w' : World} (hh : Bd B b acc w) (hf : Fr (· = rb) w w') (hrb : rb < B) : Bd B b acc w' := hh.keep (fun k hk hlt => hf.block k hlt (by omega))
theorem Fr.then_below {X : Nat → Prop} {w w1 w2 : World} (h : Fr X w w1) (hb : Below w.heap.size w1 w2) : Fr X w w2 :=
  ⟨hb.os.trans h.os, hb.tape.trans h.tape, hb.output.trans h.output, Nat.le_trans h.size hb.size, fun k hk hx => (hb.block k hk).trans (h.block k hk hx)⟩
theorem byteCells_app (a b : List UInt8) : Lib.byteCells (a ++ b) = Lib.byteCells a ++ Lib.byteCells b := by unfold Lib.byteCells; simp
theorem byteCells_len (a : List UInt8) : (Lib.byteCells a).length = a.length := by unfold Lib.byteCells; simp
theorem strCells_ba (q : List UInt8) : Lib.strCells (ba q) = Lib.byteCells q := rfl
theorem text_stop {l : List UInt8} {f : Nat} {acc : List UInt8} {T : St} (h : T.2 = 0 → l[T.1]? = none) : textL l f acc T = (acc, T) := by
  cases f with
  | zero => rw [textL]
  | succ f =>
    rw [textL]
    split
    · rename_i h0; rw [h h0]
    · rfl
theorem text_end {l : List UInt8} {f : Nat} {acc : List UInt8} {T : St} {c : UInt8} (hx : l[T.1]? = some c) (hc : c = 123 ∨ c = 125 ∨ c = 35) : textL l f acc T = (acc, T) := by
  cases f with
  | zero => rw [textL]
  | succ f =>
    rw [textL]
    split
    · rw [hx]; simp only; rw [if_pos hc]
    · rfl
theorem text_quot {l : List UInt8} {f : Nat} {acc : List UInt8} {T : St} (h0 : T.2 = 0) (hx : l[T.1]? = some 39) : textL l (f + 1) acc T = textL l f (acc ++ (quotF l T).1) (quotF l T).2 := by
  rw [textL, if_pos h0, hx]; simp only; rw [if_neg (by decide), if_pos trivial]
theorem text_byte {l : List UInt8} {f : Nat} {acc : List UInt8} {T : St} {c : UInt8} (h0 : T.2 = 0) (hx : l[T.1]? = some c) (hc : ¬ (c = 123 ∨ c = 125 ∨ c = 35)) (hq : c ≠ 39) : textL l (f + 1) acc T = textL l f (acc ++ [c]) (T.1 + 1, 0) := by
  rw [textL, if_pos h0, hx]; simp only; rw [if_neg hc, if_neg hq]
theorem quot_len (l : List UInt8) (S : St) : (quotF l S).1.length + S.1 ≤ (quotF l S).2.1 := by
  have h1 := (ge_word l [39] S).1
  have h2 := (ge_word l [39] (oneF l [39, 123, 125, 35] (wordF l [39] S)).2).1
  have h3 : (oneF l [39, 123, 125, 35] (wordF l [39] S)).1.length + S.1 ≤ (oneF l [39, 123, 125, 35] (wordF l [39] S)).2.1 := by
    rcases one_cases l [39, 123, 125, 35] (wordF l [39] S) with z | ⟨d, z0, z1, z2, z3⟩
    · rw [z.2.1, z.2.2]; simp; exact h1
    · rw [z3]; simp; omega
  unfold quotF
  split
  · exact h3
  · simp only; omega
theorem rest_len {s : BA} {S : St} : (restF s S).size = if S.2 = 0 then s.size - S.1 else 0 := by
  by_cases h0 : S.2 = 0
  · rw [if_pos h0, ← len_list, rest_live h0]; simp
  · rw [if_neg h0, rest_stuck h0]; rfl
theorem u8_ne {c d : UInt8} (h : c ≠ d) : ((c.toNat : Int) == (d.toNat : Int)) = false := by
  rw [beq_eq_false_iff_ne]; intro e; exact h (UInt8.toNat_inj.1 (by omega))

set_option maxHeartbeats 3200000 in
set_option maxRecDepth 100000 in
theorem text_any (rb : Nat) (s : BA) (o : Nat) (S : St) (w : World) (hs : s.size ≤ 2000) (hS : Wf s.data.toList S) (hR : RdAt w rb s o S) :
    Calls Tryd.prog 40 #[.pointer (some ⟨rb, 0, none⟩)] w fun e w' => e = .returned (.string (ba (textL s.data.toList s.data.toList.length [] S).1)) ∧ RdAt w' rb s o (textL s.data.toList s.data.toList.length [] S).2 ∧ Fr (· = rb) w w' := by
  have hlr := hR.lt
  have HR0 : Hid (RdAt (w.alloc (.cells #[.pointer none, .slice none 0 0] 48)) rb s o S) := Lib.hid (hR.alloc _)
  have HB0 : Hid (Bd w.heap.size w.heap.size [] (w.alloc (.cells #[.pointer none, .slice none 0 0] 48))) := Lib.hid (Lib.IsBuilderF.of (Lib.fresh_isBuilder 48 5 w))
  have HF0 : Hid (Fr (· = rb) w (w.alloc (.cells #[.pointer none, .slice none 0 0] 48))) := Lib.hid ((Fr.refl _ _).alloc _)
  have HC := Lib.hid (rest_any rb s o S _ hs hS HR0.out)
  have HS := Lib.hid hS
  clear hR hS
  go_enter Tryd.func40, Tryd.ntmps40
  go_wp2_with fail
  generalize w.alloc (.cells #[.pointer none, .slice none 0 0] 48) = w1 at *
  refine HC.out.mono ?_
  rintro e w2 ⟨rfl, hw2⟩
  have HR2 := Lib.hid (HR0.out.same hw2)
  have HB2 : Hid (Bd w.heap.size w.heap.size [] w2) := Lib.hid (HB0.out.keep (fun k _ _ => by rw [hw2.heap]))
  have HF2 := Lib.hid (HF0.out.trans (Fr.of_same hw2))
  clear hw2 HC HR0 HB0 HF0
  go_wp2
  go_loopw [4] (fun v wr => ∃ (T : St) (acc : List UInt8) (f : Nat), v = .string (restF s T) ∧ Hid (Wf s.data.toList T) ∧ Hid (RdAt wr rb s o T) ∧ Hid (Bd w.heap.size w.heap.size acc wr) ∧ Hid (Fr (· = rb) w wr) ∧ Hid (acc.length ≤ T.1) ∧ Hid (textL s.data.toList s.data.toList.length [] S = textL s.data.toList f acc T) ∧ Hid (T.2 = 0 → s.size - T.1 ≤ f)) (fun v _ => match v with | .string R => R.size | _ => 0)
  case atStart => exact ⟨S, [], _, rfl, HS, HR2, HB2, HF2, Lib.hid (Nat.zero_le _), Lib.hid rfl, Lib.hid (fun _ => by rw [len_list]; omega)⟩
  case round =>
    obtain ⟨T, acc, f, rfl, HT, HRT, HBT, HFT, HAL, HW, HFU⟩ := hrel
    clear HR2 HB2 HF2 HS
    have hle := wf_le HT.out
    have hBs : w.heap.size ≤ wr.heap.size := HFT.out.size
    have hal := HAL.out
    by_cases hx : ∃ c, T.2 = 0 ∧ s.data.toList[T.1]? = some c
    · obtain ⟨c, h0, hx⟩ := hx
      obtain ⟨r, hr1, hr2, -⟩ := rest_cons h0 hx
      have hsz := size_cons c r
      have hcc : (c :: r).length = r.length + 1 := rfl
      have hne : ((⟨(c :: r).toArray⟩ : BA).toList.isEmpty) = false := by rw [ByteArray.toList_eq]; rfl
      have hget : (⟨(c :: r).toArray⟩ : BA)[0]'(by rw [hsz]; omega) = c := rfl
      obtain ⟨f', hf'⟩ : ∃ f', f = f' + 1 := ⟨f - 1, by have := HFU.out h0; have := get_lt hx; rw [len_list] at this; omega⟩
      have HFU2 : Hid (s.size - T.1 ≤ f' + 1) := Lib.hid (by have := HFU.out h0; omega)
      rw [hr1]
      by_cases hb : c = 123 ∨ c = 125 ∨ c = 35
      · have HE := Lib.hid (HW.out.trans (text_end hx hb))
        have HST := Lib.hid (Tryd.Builder_String_any_k _ _ acc wr HBT.out hBs)
        clear hr1 hx HFU hf' HFU2
        rcases hb with rfl | rfl | rfl
        all_goals
          generalize (⟨(_ :: r).toArray⟩ : BA) = R at *
          go_wp2_with fail
          refine HST.out.mono ?_
          rintro e w3 ⟨rfl, -, hb3, -⟩
          have HR3 := Lib.hid (HRT.out.keep (hb3.block rb hlr))
          have HF3 : Hid (Fr (· = rb) w w3) := Lib.hid (HFT.out.then_below hb3)
          clear hb3
          go_wp2
          go_ret
          rw [HE.out]
          exact ⟨rfl, HR3.out, HF3.out⟩
      · have n1 : c ≠ 123 := fun e => hb (.inl e)
        have n2 : c ≠ 125 := fun e => hb (.inr (.inl e))
        have n3 : c ≠ 35 := fun e => hb (.inr (.inr e))
        have b1 : ((c.toNat : Int) == (123 : Int)) = false := u8_ne n1
        have b2 : ((c.toNat : Int) == (125 : Int)) = false := u8_ne n2
        have b3 : ((c.toNat : Int) == (35 : Int)) = false := u8_ne n3
        have HRS := Lib.hid (rest_len (s := s) (S := T))
        rw [if_pos h0] at HRS
        have HLT := Lib.hid (get_lt hx)
        rw [len_list] at HLT
        by_cases hq : c = 39
        · subst hq
          have HW2 : Hid (textL s.data.toList s.data.toList.length [] S = textL s.data.toList f' (acc ++ (quotF s.data.toList T).1) (quotF s.data.toList T).2) := Lib.hid (HW.out.trans (by rw [hf']; exact text_quot h0 hx))
          have HQ := Lib.hid (quoted_any rb s o T wr hs HT.out HRT.out)
          have HQL := Lib.hid (quot_len s.data.toList T)
          have HQA : Hid ((quotF s.data.toList T).2.2 = 0 → T.1 + 1 ≤ (quotF s.data.toList T).2.1) := Lib.hid quot_adv
          have HQG := Lib.hid (ge_quot s.data.toList T)
          clear hr1 hx HFU hf' hb n1 n2 n3
          generalize (⟨((39 : UInt8) :: r).toArray⟩ : BA) = R at *
          generalize quotF s.data.toList T = q at *
          obtain ⟨q1, U⟩ := q
          simp only at HW2 HQ HQL HQA HQG
          go_wp2_with fail
          refine HQ.out.mono ?_
          rintro e w3 ⟨rfl, hr3, hf3⟩
          have HR3 := Lib.hid hr3
          have HF3 := Lib.hid (HFT.out.trans hf3)
          have HB3 := Lib.hid (HBT.out.fr hf3 hlr)
          have HTU := Lib.hid (ge_wf HQG.out HT.out)
          have hleU := wf_le HTU.out
          have hql := HQL.out
          have HWS := Lib.hid (writeString_any _ _ _ (ba q1) w3 HB3.out (by rw [byteCells_len]; show acc.length + q1.toArray.size ≤ _; rw [List.size_toArray]; omega) HF3.out.size)
          clear hr3 hf3 HQ
          go_wp2_with fail
          refine HWS.out.mono ?_
          rintro e w4 ⟨rfl, hbd, hb4, -⟩
          rw [strCells_ba, ← byteCells_app] at hbd
          have HB4 : Hid (Bd w.heap.size w.heap.size (acc ++ q1) w4) := Lib.hid (.inr hbd)
          have HR4 := Lib.hid (HR3.out.keep (hb4.block rb hlr))
          have HF4 : Hid (Fr (· = rb) w w4) := Lib.hid (HF3.out.then_below hb4)
          clear hbd hb4 HWS
          have HC := Lib.hid (rest_any rb s o U w4 hs HTU.out HR4.out)
          go_wp2_with fail
          refine HC.out.mono ?_
          rintro e w5 ⟨rfl, hw5⟩
          have HR5 := Lib.hid (HR4.out.same hw5)
          have HB5 : Hid (Bd w.heap.size w.heap.size (acc ++ q1) w5) := Lib.hid (HB4.out.keep (fun k _ _ => by rw [hw5.heap]))
          have HF5 := Lib.hid (HF4.out.trans (Fr.of_same hw5))
          clear hw5 HC
          have HRU := Lib.hid (rest_len (s := s) (S := U))
          go_wp2
          go_roundw
          case rel => exact ⟨U, _, f', rfl, HTU, HR5, HB5, HF5, Lib.hid (by rw [List.length_append]; omega), HW2, Lib.hid (fun e => by have := HQA.out e; have := HFU2.out; omega)⟩
          case measure =>
            simp only
            rw [HRU.out]
            have := HLT.out
            split
            · rename_i e; have := HQA.out e; omega
            · omega
        · have b4 : ((c.toNat : Int) == (39 : Int)) = false := u8_ne hq
          have HW2 : Hid (textL s.data.toList s.data.toList.length [] S = textL s.data.toList f' (acc ++ [c]) (T.1 + 1, 0)) := Lib.hid (HW.out.trans (by rw [hf']; exact text_byte h0 hx hb hq))
          have HWB := Lib.hid (writeByte_any _ _ _ (c.toNat : Int) wr HBT.out (by rw [byteCells_len]; omega) hBs)
          have HTU : Hid (Wf s.data.toList (T.1 + 1, 0)) := Lib.hid ⟨get_lt hx, .inl rfl⟩
          clear hr1 hx HFU hf' hb n1 n2 n3
          generalize (⟨(c :: r).toArray⟩ : BA) = R at *
          go_wp2_with fail
          refine HWB.out.mono ?_
          rintro e w4 ⟨rfl, hbd, hb4, -⟩
          have HB4 : Hid (Bd w.heap.size w.heap.size (acc ++ [c]) w4) := Lib.hid (by rw [Bd, byteCells_app]; exact .inr hbd)
          have HR4 := Lib.hid (HRT.out.keep (hb4.block rb hlr))
          have HF4 : Hid (Fr (· = rb) w w4) := Lib.hid (HFT.out.then_below hb4)
          clear hbd hb4 HWB
          have c1 := HR4.out.c1
          have z1 := HR4.out.thaw 1
          have HR5 : Hid (RdAt (w4.setCell ⟨rb, 1, none⟩ (.int .i64 ((T.1 : Int) + 1))) rb s o (T.1 + 1, 0)) := Lib.hid (by have h := HR4.out.set1 (T.1 + 1); rw [h0] at h; exact h)
          have HB5 : Hid (Bd w.heap.size w.heap.size (acc ++ [c]) (w4.setCell ⟨rb, 1, none⟩ (.int .i64 ((T.1 : Int) + 1)))) := Lib.hid (HB4.out.fr (fr_set 1 _) hlr)
          have HF5 : Hid (Fr (· = rb) w (w4.setCell ⟨rb, 1, none⟩ (.int .i64 ((T.1 : Int) + 1)))) := Lib.hid (HF4.out.trans (fr_set 1 _))
          have HC := Lib.hid (rest_any rb s o (T.1 + 1, 0) _ hs HTU.out HR5.out)
          have hlt3 := HLT.out
          go_wp2_with fail
          generalize w4.setCell ⟨rb, 1, none⟩ (.int .i64 ((T.1 : Int) + 1)) = w6 at *
          refine HC.out.mono ?_
          rintro e w5 ⟨rfl, hw5⟩
          have HR7 := Lib.hid (HR5.out.same hw5)
          have HB7 : Hid (Bd w.heap.size w.heap.size (acc ++ [c]) w5) := Lib.hid (HB5.out.keep (fun k _ _ => by rw [hw5.heap]))
          have HF7 := Lib.hid (HF5.out.trans (Fr.of_same hw5))
          clear hw5 HC
          have HRU := Lib.hid (rest_len (s := s) (S := (T.1 + 1, 0)))
          go_wp2
          go_roundw
          case rel => exact ⟨(T.1 + 1, 0), _, f', rfl, HTU, HR7, HB7, HF7, Lib.hid (by rw [List.length_append]; simp only [List.length_cons, List.length_nil]; omega), HW2, Lib.hid (fun _ => by have := HFU2.out; simp only; omega)⟩
          case measure =>
            simp only
            rw [HRU.out]
            simp only [if_true]
            omega
    · have hr1 : restF s T = ⟨#[]⟩ := rest_none (fun h0 => by
        cases hq : s.data.toList[T.1]? with
        | none => rfl
        | some c => exact absurd ⟨c, h0, hq⟩ hx)
      have HE := Lib.hid (HW.out.trans (text_stop (fun h0 => by
        cases hq : s.data.toList[T.1]? with
        | none => rfl
        | some c => exact absurd ⟨c, h0, hq⟩ hx)))
      have HST := Lib.hid (Tryd.Builder_String_any_k _ _ acc wr HBT.out hBs)
      clear hx
      rw [hr1]
      go_wp2_with fail
      refine HST.out.mono ?_
      rintro e w3 ⟨rfl, -, hb3, -⟩
      have HR3 := Lib.hid (HRT.out.keep (hb3.block rb hlr))
      have HF3 : Hid (Fr (· = rb) w w3) := Lib.hid (HFT.out.then_below hb3)
      clear hb3
      go_wp2
      go_ret
      rw [HE.out]
      exact ⟨rfl, HR3.out, HF3.out⟩
end Go.Proofs.YtapnieogfddjkaaDoor
