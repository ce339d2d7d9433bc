/- Apply, by package delta. -/
import Derived.Test.YtmagcikaepobiaaDOut
import Derived.Test.YtmagcikaepobiaaDBuild
namespace Go.Proofs.Ytmagcikaepobiaa.Dl
open Go.RowKit

theorem ret_si {s t : BA} {m n : Int} (h : s = t) (k : m = n) : Ending.returned (.tuple #[.string s, .int .i64 m]) = .returned (.tuple #[.string t, .int .i64 n]) := by rw [h, k]
theorem isB_keep {B b : Nat} {bs : List Value} {w w' : World} (h : Lib.IsBuilderF 43 5 B b bs w) (hb : Below w.heap.size w w') : Lib.IsBuilderF 43 5 B b bs w' := by
  have hk : ∀ {p : Value}, Lib.BuilderAtF 43 5 B b p bs w → Lib.BuilderAtF 43 5 B b p bs w' := fun h => by
    obtain ⟨h1, v, hh, hown, hne⟩ := h
    refine ⟨h1, v, (hb.block b (Array.getElem?_eq_some_iff.1 hh).1).trans hh, ⟨hown.1, ?_⟩, hne⟩
    rcases hown.2 with h0 | ⟨g, cap, cur, fz, hv, hbs, hg, hr⟩
    · exact .inl h0
    · exact .inr ⟨g, cap, cur, fz, hv, hbs, (hb.block g (Array.getElem?_eq_some_iff.1 hg).1).trans hg, hr⟩
  exact h.imp hk hk
theorem mostF_cast (n : Int) : ((mostF n : Nat) : Int) = min (max n 0) 1048576 := by unfold mostF; omega

set_option maxHeartbeats 3200000 in
set_option maxRecDepth 100000 in
theorem apply_any (w : World) (old : BA) (a : Option Addr) (cap : Nat) (xs : List Opr) (most : Int) (ho : old.size ≤ 140737488351232) (hxl : xs.length ≤ 9223372036854775807) (hz : Szs xs) (hIn : InI w a xs) :
    Calls Try.prog 8 #[.string old, .slice a xs.length cap, .int .i64 most] w fun e w' => e = .returned (.tuple #[.string (appF old xs most).1, .int .i64 (appF old xs most).2]) ∧ Below w.heap.size w w' := by
  have HC := Lib.hid (right_any w a cap xs hxl hz hIn)
  have HIN := Lib.hid hIn
  clear hIn hz
  go_enter Try.func8, Try.ntmps8
  go_wp2_with fail
  refine HC.out.mono ?_
  rintro e w1 ⟨rfl, hb1⟩
  have HB1 := Lib.hid hb1
  clear hb1
  cases hr : rgB xs with
  | false =>
    have HR := Lib.hid (appF_no (old := old) (most := most) hr)
    clear hr
    go_wp2
    go_ret2
    exact ⟨ret_si (by rw [HR.out]) (by rw [HR.out]), HB1.out⟩
  | true =>
    obtain ⟨hxl2, hok⟩ := rgB_true hr
    have HOK := Lib.hid hok
    have HR := Lib.hid hr
    clear hok hr
    have HI0 : Hid (Lib.IsBuilderF 43 5 w1.heap.size w1.heap.size (Lib.byteCells []) (w1.alloc (.cells #[.pointer none, .slice none 0 0] 43))) := Lib.hid (Lib.IsBuilderF.of (Lib.fresh_isBuilder 43 5 w1))
    have HW0 : Hid (Below w1.heap.size w1 (w1.alloc (.cells #[.pointer none, .slice none 0 0] 43))) := Lib.hid (below1 _ _)
    go_wp2
    rw [← mostF_cast most]
    have hm := mostF_le most
    generalize hmm : mostF most = m at hm ⊢
    have HMM := Lib.hid hmm
    clear hmm
    have HSZ := Lib.hid HB1.out.size
    have HBW := Lib.hid (HB1.out.trans (HW0.out.mono HB1.out.size))
    go_loopw [21] (fun i wr => ∃ (k : Nat) (acc : List UInt8), k ≤ xs.length ∧ i = .int .i64 k ∧ acc.length ≤ m ∧ Hid (runF old m xs [] = runF old m (xs.drop k) acc) ∧ Hid (Lib.IsBuilderF 43 5 w1.heap.size w1.heap.size (Lib.byteCells acc) wr) ∧ Hid (Below w.heap.size w wr) ∧ Hid (w1.heap.size ≤ wr.heap.size)) (fun i _ => xs.length - (intOf i).toNat)
    case atStart => exact ⟨0, [], by omega, rfl, by simp, Lib.hid rfl, HI0, HBW, Lib.hid (by simp)⟩
    case round =>
      clear HI0 HW0 HBW HC
      obtain ⟨k, acc, hk, rfl, hacc, HRUN, HI, HB, HS⟩ := hrel
      by_cases hlt : k < xs.length
      · obtain ⟨x, hx⟩ : ∃ x, xs[k]? = some x := ⟨_, List.getElem?_eq_getElem hlt⟩
        obtain ⟨b, off, rfl, hbl, h0, h1, h2⟩ := (HIN.out.below HB.out).at_ hx
        have hokx := HOK.out k x hx
        have hzx := okB_size hokx
        have HX := Lib.hid hx
        clear hx
        obtain ⟨Q3, HE1⟩ := op_box wr x
        have HCY := Lib.hid (fun w (hf : fitB old x = true) => output_any old x w ho hokx hf)
        have HCN := Lib.hid (fun w (hf : fitB old x = false) => output_no old x w ho hokx hf)
        have hob : (outF old x).size ≤ 140737488351232 := by
          unfold outF; split
          · omega
          · rw [ByteArray.size_extract]; omega
        have HST := Lib.hid (fun hf hl => runF_step (old := old) (m := m) (acc := acc) HX.out hf hl)
        have HLO := Lib.hid (fun hf hl => runF_long (old := old) (m := m) (acc := acc) HX.out hf hl)
        have HBD := Lib.hid (fun hf => runF_bad (old := old) (m := m) (acc := acc) HX.out hf)
        cases hf : fitB old x with
        | false =>
          have HA : Hid (appF old xs most = (⟨#[]⟩, 70)) := Lib.hid (appF_yes HR.out (by rw [HMM.out, HRUN.out, HBD.out hf]))
          have HCN2 := Lib.hid (fun w => HCN.out w hf)
          clear HCY HCN HST HLO HBD hf hokx hob
          obtain ⟨f, n, t⟩ := x
          simp only at h0 h1 h2 Q3 HE1 hzx
          have c0 := Q3.out.cell (i := 0) rfl
          have c1 := Q3.out.cell (i := 1) rfl
          have c2 := Q3.out.cell (i := 2) rfl
          go_wp2_with fail
          refine (HCN2.out _).mono ?_
          rintro e w5 ⟨rfl, hb5⟩
          have HB5 := Lib.hid (HB.out.trans ((below_trans HE1.out hb5).mono HB.out.size))
          clear hb5
          go_wp2
          go_ret2
          exact ⟨ret_si (by rw [HA.out]) (by rw [HA.out]), HB5.out⟩
        | true =>
          have HCY2 := Lib.hid (fun w => HCY.out w hf)
          have HF := Lib.hid hf
          clear HCY HCN HBD hf hokx
          generalize ho2 : outF old x = o2 at *
          clear ho2
          have HIB : Hid (∀ w', Below wr.heap.size wr w' → Lib.IsBuilderF 43 5 w1.heap.size w1.heap.size (Lib.byteCells acc) w') := Lib.hid (fun w' hb => isB_keep HI.out hb)
          obtain ⟨f, n, t⟩ := x
          simp only at h0 h1 h2 Q3 HE1 hzx
          have c0 := Q3.out.cell (i := 0) rfl
          have c1 := Q3.out.cell (i := 1) rfl
          have c2 := Q3.out.cell (i := 2) rfl
          go_wp2_with fail
          refine (HCY2.out _).mono ?_
          rintro e w5 ⟨rfl, hb5⟩
          have HB5 := Lib.hid (HB.out.trans ((below_trans HE1.out hb5).mono HB.out.size))
          have HI5 := Lib.hid (HIB.out _ (below_trans HE1.out hb5))
          have HS5 := Lib.hid (Nat.le_trans HS.out (below_trans HE1.out hb5).size)
          clear hb5 c0 c1 c2 h0 h1 h2
          have hbc : (Lib.byteCells acc).length = acc.length := by simp [Lib.byteCells]
          go_wp2_with fail
          refine (Try.Builder_Len_f _ _ _ _ HI5.out).mono ?_
          rintro e w6 ⟨rfl, rfl⟩
          rw [hbc]
          clear hbc
          by_cases hl : acc.length + o2.size ≤ m
          · have hl' : (o2.size : Int) ≤ (m : Int) - (acc.length : Int) := by omega
            have HRUN2 := Lib.hid (HRUN.out.trans (HST.out HF.out hl))
            go_wp2_with fail
            refine (writeString_any w1.heap.size w1.heap.size _ o2 _ HI5.out (by simp [Lib.byteCells]; omega) HS5.out).mono ?_
            rintro e w7 ⟨rfl, hat, hb7, -⟩
            have HB7 := Lib.hid (HB5.out.trans (hb7.mono HSZ.out))
            have HS7 := Lib.hid (Nat.le_trans HS5.out hb7.size)
            have HI7 : Hid (Lib.IsBuilderF 43 5 w1.heap.size w1.heap.size (Lib.byteCells (acc ++ o2.data.toList)) w7) := Lib.hid (.inr (by
              have e : Lib.byteCells (acc ++ o2.data.toList) = Lib.byteCells acc ++ Lib.strCells o2 := by
                simp [Lib.byteCells, Lib.strCells]
              rw [e]; exact hat))
            clear hat hb7
            go_wp2
            go_roundw
            case rel => exact ⟨k + 1, acc ++ o2.data.toList, by omega, by go_num, by simp; omega, HRUN2, HI7, HB7, HS7⟩
            case measure => simp [intOf]; omega
          · have hl' : (m : Int) - (acc.length : Int) < (o2.size : Int) := by omega
            have HA : Hid (appF old xs most = (⟨#[]⟩, 2)) := Lib.hid (appF_yes HR.out (by rw [HMM.out, HRUN.out, HLO.out HF.out (by omega)]))
            go_wp2
            go_ret2
            exact ⟨ret_si (by rw [HA.out]) (by rw [HA.out]), HB5.out⟩
      · have HA : Hid (appF old xs most = (⟨acc.toArray⟩, 0)) := Lib.hid (appF_yes HR.out (by rw [HMM.out, HRUN.out, runF_end (by omega)]))
        go_wp2_with fail
        refine (Try.Builder_String_any_k w1.heap.size w1.heap.size acc wr HI.out HS.out).mono ?_
        rintro e w5 ⟨rfl, -, hb5, -⟩
        have HB5 := Lib.hid (HB.out.trans (hb5.mono HSZ.out))
        clear hb5
        go_wp2
        go_ret2
        exact ⟨ret_si (by rw [HA.out]) (by rw [HA.out]), HB5.out⟩
end Go.Proofs.Ytmagcikaepobiaa.Dl
