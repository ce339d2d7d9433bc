/- Apply, by the document. -/
import Derived.Test.YtmagcikaepobiaaDApp
import Derived.Lib.AppendStr
namespace Go.Proofs.Ytmagcikaepobiaa.Dl
open Go.RowKit

theorem owns_none (w : World) : (w.alloc (.cells #[] 5)).ownsRow w.heap.size 5 1 (.slice (some ⟨w.heap.size, 0, none⟩) 0 0) 0 (Lib.byteCells []) :=
  ⟨rfl, .inr ⟨w.heap.size, 0, #[], rfl, Nat.le_refl _, by show (w.heap.push _)[w.heap.size]? = _; simp, Nat.le_refl _, by decide, rfl, rfl⟩⟩
theorem owns_slice {w : World} {base : Nat} {e : TypeId} {size : Nat} {v : Value} {n : Nat} {xs : List Value} (h : w.ownsRow base e size v n xs) : ∃ a cap, v = .slice a n cap := by
  rcases h.2 with ⟨rfl, h0⟩ | ⟨g, cap, cur, rfl, -⟩
  · exact ⟨none, 0, by rw [h0]⟩
  · exact ⟨_, cap, rfl⟩
theorem owns_more {w : World} {base : Nat} {v : Value} {acc : List UInt8} {s : BA} (h : w.ownsRow base 5 1 v (acc.length + s.size) (Lib.byteCells acc ++ Lib.strCells s)) : w.ownsRow base 5 1 v (acc ++ s.data.toList).length (Lib.byteCells (acc ++ s.data.toList)) := by
  have e : Lib.byteCells (acc ++ s.data.toList) = Lib.byteCells acc ++ Lib.strCells s := by simp [Lib.byteCells, Lib.strCells]
  rw [e, List.length_append, BA.len]; exact h
theorem grown_below {w w' : World} {B base : Nat} {a : Option Addr} {n cap : Nat} (h : w.grownBy w' (Value.ownBlock (.slice a n cap))) (hb : base ≤ w.heap.size) (hv : ∀ ad, a = some ad → base ≤ ad.block) (hB : B ≤ base) : Below B w w' :=
  (Below.refl B w).grown h (Nat.le_trans hB hb) (fun k hk => by
    cases a with
    | none => cases hk
    | some ad =>
      have := hv ad rfl
      have e : ad.block = k := by simpa [Value.ownBlock] using hk
      omega)
/-- Bytes of a row of the call's own, as a string. -/
theorem bytes_back {w : World} {base : Nat} {a : Option Addr} {cap : Nat} {l : List UInt8} (h : w.ownsRow base 5 1 (.slice a l.length cap) l.length (Lib.byteCells l)) (hn : Value.slice a l.length cap ≠ .slice none 0 0) : (convert 41 9 (.slice a l.length cap)).run Try.prog w = .ok (.string ⟨l.toArray⟩) w := by
  rcases h.2 with ⟨hv, h0⟩ | ⟨g, cap', cur, hv, -, hg, hr⟩
  · exact absurd hv hn
  · injection hv with h1 h2 h3
    subst h1 h3
    obtain ⟨-, -, -, ht⟩ := hr
    refine run_convert_bytes_back (P := Try.prog) w 41 9 5 ⟨g, 0, none⟩ cap l Try.underlying41 Try.underlying5 Try.underlying9 (fun j hj => ?_)
    rw [Addr.add_mid, Nat.zero_add]
    have hc : w.cell? ⟨g, j, none⟩ = cur[j]? := by simp [World.cell?, hg]
    rw [hc, ← Array.getElem?_toList]
    have h5 : (cur.toList.take (l.length * 1))[j]? = cur.toList[j]? := List.getElem?_take_of_lt (by omega)
    rw [← h5, ht]
    simp [Lib.byteCells, hj]

set_option maxHeartbeats 3200000 in
set_option maxRecDepth 100000 in
theorem rapply_any (w : World) (old : BA) (a : Option Addr) (cap : Nat) (xs : List Opr) (most : Int) (ho : old.size ≤ 140737488351232) (hxl : xs.length ≤ 9223372036854775807) (hz : Szs xs) (hIn : InI w a xs) :
    Calls Try.prog 9 #[.string old, .slice a xs.length cap, .int .i64 most] w fun e w' => e = .returned (.tuple #[.string (appF old xs most).1, .int .i64 (appF old xs most).2]) ∧ Below w.heap.size w w' := by
  obtain ⟨i0, hi, hz0, hz1, hz2⟩ := info_parts infoByte
  have HC := Lib.hid (rright_any w a cap xs hxl hz hIn)
  have HIN := Lib.hid hIn
  clear hIn hz
  go_enter Try.func9, Try.ntmps9
  go_wp2_with fail
  refine HC.out.mono ?_
  rintro e w1 ⟨rfl, hb1⟩
  have HB1 := Lib.hid hb1
  clear hb1
  cases hr : rgB xs with
  | false =>
    have HR := Lib.hid (appF_no (old := old) (most := most) hr)
    clear hr
    go_wp2
    go_ret2
    exact ⟨ret_si (by rw [HR.out]) (by rw [HR.out]), HB1.out⟩
  | true =>
    obtain ⟨hxl2, hok⟩ := rgB_true hr
    have HOK := Lib.hid hok
    have HR := Lib.hid hr
    clear hok hr
    rcases (show most < 0 ∨ 1048576 < most ∨ (0 ≤ most ∧ most ≤ 1048576) by omega) with hq | hq | ⟨hq, hq'⟩
    · go_wp2
      clear HC
      have HO0 : Hid ((w1.alloc (.cells #[] 5)).ownsRow w1.heap.size 5 1 (.slice (some ⟨w1.heap.size, 0, none⟩) 0 0) 0 (Lib.byteCells [])) := Lib.hid (owns_none w1)
      have HW0 : Hid (Below w.heap.size w (w1.alloc (.cells #[] 5))) := Lib.hid (HB1.out.trans ((below1 w1 (.cells #[] 5)).mono HB1.out.size))
      have HSZ := Lib.hid HB1.out.size
      have hmc : ((mostF most : Nat) : Int) = (0 : Int) := by rw [mostF_cast]; omega
      have hm := mostF_le most
      generalize hmm : mostF most = m at hm hmc ⊢
      have HMM := Lib.hid hmm
      clear hmm
      go_loopw [8, 21] (fun v i wr => ∃ (k : Nat) (acc : List UInt8), k ≤ xs.length ∧ i = .int .i64 k ∧ acc.length ≤ m ∧ Hid (runF old m xs [] = runF old m (xs.drop k) acc) ∧ Hid (wr.ownsRow w1.heap.size 5 1 v acc.length (Lib.byteCells acc)) ∧ Hid (v ≠ .slice none 0 0) ∧ Hid (Below w.heap.size w wr) ∧ Hid (w1.heap.size ≤ wr.heap.size)) (fun _ i _ => xs.length - (intOf i).toNat)
      case atStart => exact ⟨0, [], by omega, rfl, by simp, Lib.hid rfl, HO0, Lib.hid (by simp), HW0, Lib.hid (by simp)⟩
      case round =>
        clear HO0 HW0
        obtain ⟨k, acc, hk, rfl, hacc, HRUN, HO, HN, HB, HS⟩ := hrel
        obtain ⟨ao, co, rfl⟩ := owns_slice HO.out
        by_cases hlt : k < xs.length
        · obtain ⟨x, hx⟩ : ∃ x, xs[k]? = some x := ⟨_, List.getElem?_eq_getElem hlt⟩
          obtain ⟨b, off, rfl, hbl, h0, h1, h2⟩ := (HIN.out.below HB.out).at_ hx
          have hokx := HOK.out k x hx
          have hzx := okB_size hokx
          have HX := Lib.hid hx
          clear hx
          obtain ⟨Q3, HE1⟩ := op_box wr x
          have HST := Lib.hid (fun hf hl => runF_step (old := old) (m := m) (acc := acc) HX.out hf hl)
          have HLO := Lib.hid (fun hf hl => runF_long (old := old) (m := m) (acc := acc) HX.out hf hl)
          have HBD := Lib.hid (fun hf => runF_bad (old := old) (m := m) (acc := acc) HX.out hf)
          have HO1 := Lib.hid (fun w' (hb : Below wr.heap.size wr w') => ownsRow_below HO.out hb)
          have HB3 := Lib.hid (HB.out.trans (HE1.out.mono HB.out.size))
          have HS3 := Lib.hid (Nat.le_trans HS.out HE1.out.size)
          have HO3 := Lib.hid (HO1.out _ HE1.out)
          cases hin : inB x with
          | true =>
            have hi3 := inB_true hin
            have hf : fitB old x = true := by unfold fitB; rw [hin]; rfl
            have ho2 : outF old x = x.t := by unfold outF; rw [if_pos hin]
            rw [ho2] at HST HLO
            have HST2 := Lib.hid (fun hl => HST.out hf hl)
            have HLO2 := Lib.hid (fun hl => HLO.out hf hl)
            clear HST HLO HBD hf ho2 hin hokx
            obtain ⟨f, n, t⟩ := x
            simp only at h0 h1 h2 Q3 HE1 hzx hi3 HST2 HLO2 HB3 HS3 HO3
            obtain ⟨rfl, rfl, ht1, ht2⟩ := hi3
            have c0 := Q3.out.cell (i := 0) rfl
            have c1 := Q3.out.cell (i := 1) rfl
            have c2 := Q3.out.cell (i := 2) rfl
            have e1 := size_pos_of (s := t) (by omega)
            have e2 := toList_ne (s := t) (by omega)
            go_wp2_with (at_builtin; refine Lib.wpList_append_own_string _ rfl _ _ 41 9 rfl w1.heap.size 5 i0 Try.underlying41 Try.underlying9 hi hz0 hz1 hz2 _ _ _ rfl HO3.out t rfl ?c3 ?c4 ?c5 ?_)
            case c3 => unfold maxLen; omega
            case c4 => omega
            case c5 => exact HS3.out
            intro v' w4 hown hgrow hnil
            have HO4 := Lib.hid (owns_more hown)
            have HN4 := Lib.hid (fun h => HN.out (by have h9 := (hnil.1 h).1; first | exact h9 | (obtain ⟨rfl, h8, rfl⟩ := h9; subst h8; rfl)))
            have HB4 := Lib.hid (HB3.out.trans (grown_below hgrow HS3.out (own_base HO3.out) HSZ.out))
            have HS4 := Lib.hid (Nat.le_trans HS3.out hgrow.size)
            obtain ⟨av, cv, rfl⟩ := owns_slice hown
            clear hown hgrow hnil c0 c1 c2 h0 h1 h2
            by_cases hl : acc.length + t.size ≤ m
            · exfalso; omega
            · have hl' : (0 : Int) < (acc.length : Int) + (t.size : Int) := by omega
              have HA : Hid (appF old xs most = (⟨#[]⟩, 2)) := Lib.hid (appF_yes HR.out (by rw [HMM.out, HRUN.out, HLO2.out (by omega)]))
              go_wp2
              go_ret2
              exact ⟨ret_si (by rw [HA.out]) (by rw [HA.out]), HB4.out⟩
          | false =>
            have hc := cpB_true (cp_of_not hokx hin)
            by_cases hfit : x.f + x.n ≤ (old.size : Int)
            · have hf : fitB old x = true := by unfold fitB; rw [decide_eq_true hfit]; simp
              have ho2 : outF old x = old.extract x.f.toNat (x.f + x.n).toNat := by unfold outF; rw [hin]; rfl
              rw [ho2] at HST HLO
              have HST2 := Lib.hid (fun hl => HST.out hf hl)
              have HLO2 := Lib.hid (fun hl => HLO.out hf hl)
              clear HST HLO HBD hf ho2 hin hokx
              obtain ⟨f, n, t⟩ := x
              simp only at h0 h1 h2 Q3 HE1 hzx hc hfit HST2 HLO2 HB3 HS3 HO3
              obtain ⟨h3, h4, h5, h6, h7⟩ := hc
              obtain rfl : t = ByteArray.empty := ba_empty h7
              have c0 := Q3.out.cell (i := 0) rfl
              have c1 := Q3.out.cell (i := 1) rfl
              have c2 := Q3.out.cell (i := 2) rfl
              have s1 : f ≤ f + n := by omega
              have s2 : 0 ≤ f + n := by omega
              have HES : Hid ((old.extract f.toNat (f + n).toNat).size = n.toNat) := Lib.hid (by rw [ByteArray.size_extract]; omega)
              go_wp2_with (at_builtin; refine Lib.wpList_append_own_string _ rfl _ _ 41 9 rfl w1.heap.size 5 i0 Try.underlying41 Try.underlying9 hi hz0 hz1 hz2 _ _ _ rfl HO3.out (old.extract f.toNat (f + n).toNat) rfl ?c3 ?c4 ?c5 ?_)
              case c3 => have := HES.out; unfold maxLen; omega
              case c4 => have := HES.out; omega
              case c5 => exact HS3.out
              intro v' w4 hown hgrow hnil
              have hown2 : w4.ownsRow w1.heap.size 5 1 v' (acc.length + (old.extract f.toNat (f + n).toNat).size) (Lib.byteCells acc ++ Lib.strCells (old.extract f.toNat (f + n).toNat)) := by rw [HES.out]; rw [show (f + n).toNat - f.toNat = n.toNat by omega] at hown; exact hown
              have HO4 := Lib.hid (owns_more hown2)
              have HN4 := Lib.hid (fun h => HN.out (by have h9 := (hnil.1 h).1; first | exact h9 | (obtain ⟨rfl, h8, rfl⟩ := h9; subst h8; rfl)))
              have HB4 := Lib.hid (HB3.out.trans (grown_below hgrow HS3.out (own_base HO3.out) HSZ.out))
              have HS4 := Lib.hid (Nat.le_trans HS3.out hgrow.size)
              obtain ⟨av, cv, rfl⟩ := owns_slice hown2
              clear hown hown2 hgrow hnil c0 c1 c2 h0 h1 h2 s1 s2
              generalize old.extract f.toNat (f + n).toNat = o2 at *
              by_cases hl : acc.length + o2.size ≤ m
              · have hl' : (acc.length : Int) + (o2.size : Int) ≤ (0 : Int) := by omega
                have HRUN2 := Lib.hid (HRUN.out.trans (HST2.out hl))
                go_wp2
                go_roundw
                case rel => exact ⟨k + 1, acc ++ o2.data.toList, by omega, by go_num, by simp; omega, HRUN2, HO4, HN4, HB4, HS4⟩
                case measure => simp [intOf]; omega
              · have hl' : (0 : Int) < (acc.length : Int) + (o2.size : Int) := by omega
                have HA : Hid (appF old xs most = (⟨#[]⟩, 2)) := Lib.hid (appF_yes HR.out (by rw [HMM.out, HRUN.out, HLO2.out (by omega)]))
                go_wp2
                go_ret2
                exact ⟨ret_si (by rw [HA.out]) (by rw [HA.out]), HB4.out⟩
            · have hf : fitB old x = false := by unfold fitB; rw [hin, decide_eq_false hfit]; rfl
              have HA : Hid (appF old xs most = (⟨#[]⟩, 70)) := Lib.hid (appF_yes HR.out (by rw [HMM.out, HRUN.out, HBD.out hf]))
              clear HST HLO HBD hf hin hokx
              obtain ⟨f, n, t⟩ := x
              simp only at h0 h1 h2 Q3 HE1 hzx hc hfit HB3 HS3 HO3
              obtain ⟨h3, h4, h5, h6, h7⟩ := hc
              obtain rfl : t = ByteArray.empty := ba_empty h7
              have c0 := Q3.out.cell (i := 0) rfl
              have c1 := Q3.out.cell (i := 1) rfl
              have c2 := Q3.out.cell (i := 2) rfl
              have s1 : (old.size : Int) < f + n := by omega
              go_wp2
              go_ret2
              exact ⟨ret_si (by rw [HA.out]) (by rw [HA.out]), HB3.out⟩
        · have HA : Hid (appF old xs most = (⟨acc.toArray⟩, 0)) := Lib.hid (appF_yes HR.out (by rw [HMM.out, HRUN.out, runF_end (by omega)]))
          have HBK := Lib.hid (bytes_back HO.out HN.out)
          go_wp2
          rw [HBK.out]
          simp only [Result.andThen]
          rw [Oper.upon_value]
          go_wp2
          go_ret2
          exact ⟨ret_si (by rw [HA.out]) (by rw [HA.out]), HB.out⟩
    · go_wp2
      clear HC
      have HO0 : Hid ((w1.alloc (.cells #[] 5)).ownsRow w1.heap.size 5 1 (.slice (some ⟨w1.heap.size, 0, none⟩) 0 0) 0 (Lib.byteCells [])) := Lib.hid (owns_none w1)
      have HW0 : Hid (Below w.heap.size w (w1.alloc (.cells #[] 5))) := Lib.hid (HB1.out.trans ((below1 w1 (.cells #[] 5)).mono HB1.out.size))
      have HSZ := Lib.hid HB1.out.size
      have hmc : ((mostF most : Nat) : Int) = (1048576 : Int) := by rw [mostF_cast]; omega
      have hm := mostF_le most
      generalize hmm : mostF most = m at hm hmc ⊢
      have HMM := Lib.hid hmm
      clear hmm
      go_loopw [8, 21] (fun v i wr => ∃ (k : Nat) (acc : List UInt8), k ≤ xs.length ∧ i = .int .i64 k ∧ acc.length ≤ m ∧ Hid (runF old m xs [] = runF old m (xs.drop k) acc) ∧ Hid (wr.ownsRow w1.heap.size 5 1 v acc.length (Lib.byteCells acc)) ∧ Hid (v ≠ .slice none 0 0) ∧ Hid (Below w.heap.size w wr) ∧ Hid (w1.heap.size ≤ wr.heap.size)) (fun _ i _ => xs.length - (intOf i).toNat)
      case atStart => exact ⟨0, [], by omega, rfl, by simp, Lib.hid rfl, HO0, Lib.hid (by simp), HW0, Lib.hid (by simp)⟩
      case round =>
        clear HO0 HW0
        obtain ⟨k, acc, hk, rfl, hacc, HRUN, HO, HN, HB, HS⟩ := hrel
        obtain ⟨ao, co, rfl⟩ := owns_slice HO.out
        by_cases hlt : k < xs.length
        · obtain ⟨x, hx⟩ : ∃ x, xs[k]? = some x := ⟨_, List.getElem?_eq_getElem hlt⟩
          obtain ⟨b, off, rfl, hbl, h0, h1, h2⟩ := (HIN.out.below HB.out).at_ hx
          have hokx := HOK.out k x hx
          have hzx := okB_size hokx
          have HX := Lib.hid hx
          clear hx
          obtain ⟨Q3, HE1⟩ := op_box wr x
          have HST := Lib.hid (fun hf hl => runF_step (old := old) (m := m) (acc := acc) HX.out hf hl)
          have HLO := Lib.hid (fun hf hl => runF_long (old := old) (m := m) (acc := acc) HX.out hf hl)
          have HBD := Lib.hid (fun hf => runF_bad (old := old) (m := m) (acc := acc) HX.out hf)
          have HO1 := Lib.hid (fun w' (hb : Below wr.heap.size wr w') => ownsRow_below HO.out hb)
          have HB3 := Lib.hid (HB.out.trans (HE1.out.mono HB.out.size))
          have HS3 := Lib.hid (Nat.le_trans HS.out HE1.out.size)
          have HO3 := Lib.hid (HO1.out _ HE1.out)
          cases hin : inB x with
          | true =>
            have hi3 := inB_true hin
            have hf : fitB old x = true := by unfold fitB; rw [hin]; rfl
            have ho2 : outF old x = x.t := by unfold outF; rw [if_pos hin]
            rw [ho2] at HST HLO
            have HST2 := Lib.hid (fun hl => HST.out hf hl)
            have HLO2 := Lib.hid (fun hl => HLO.out hf hl)
            clear HST HLO HBD hf ho2 hin hokx
            obtain ⟨f, n, t⟩ := x
            simp only at h0 h1 h2 Q3 HE1 hzx hi3 HST2 HLO2 HB3 HS3 HO3
            obtain ⟨rfl, rfl, ht1, ht2⟩ := hi3
            have c0 := Q3.out.cell (i := 0) rfl
            have c1 := Q3.out.cell (i := 1) rfl
            have c2 := Q3.out.cell (i := 2) rfl
            have e1 := size_pos_of (s := t) (by omega)
            have e2 := toList_ne (s := t) (by omega)
            go_wp2_with (at_builtin; refine Lib.wpList_append_own_string _ rfl _ _ 41 9 rfl w1.heap.size 5 i0 Try.underlying41 Try.underlying9 hi hz0 hz1 hz2 _ _ _ rfl HO3.out t rfl ?c3 ?c4 ?c5 ?_)
            case c3 => unfold maxLen; omega
            case c4 => omega
            case c5 => exact HS3.out
            intro v' w4 hown hgrow hnil
            have HO4 := Lib.hid (owns_more hown)
            have HN4 := Lib.hid (fun h => HN.out (by have h9 := (hnil.1 h).1; first | exact h9 | (obtain ⟨rfl, h8, rfl⟩ := h9; subst h8; rfl)))
            have HB4 := Lib.hid (HB3.out.trans (grown_below hgrow HS3.out (own_base HO3.out) HSZ.out))
            have HS4 := Lib.hid (Nat.le_trans HS3.out hgrow.size)
            obtain ⟨av, cv, rfl⟩ := owns_slice hown
            clear hown hgrow hnil c0 c1 c2 h0 h1 h2
            by_cases hl : acc.length + t.size ≤ m
            · have hl' : (acc.length : Int) + (t.size : Int) ≤ (1048576 : Int) := by omega
              have HRUN2 := Lib.hid (HRUN.out.trans (HST2.out hl))
              go_wp2
              go_roundw
              case rel => exact ⟨k + 1, acc ++ t.data.toList, by omega, by go_num, by simp; omega, HRUN2, HO4, HN4, HB4, HS4⟩
              case measure => simp [intOf]; omega
            · have hl' : (1048576 : Int) < (acc.length : Int) + (t.size : Int) := by omega
              have HA : Hid (appF old xs most = (⟨#[]⟩, 2)) := Lib.hid (appF_yes HR.out (by rw [HMM.out, HRUN.out, HLO2.out (by omega)]))
              go_wp2
              go_ret2
              exact ⟨ret_si (by rw [HA.out]) (by rw [HA.out]), HB4.out⟩
          | false =>
            have hc := cpB_true (cp_of_not hokx hin)
            by_cases hfit : x.f + x.n ≤ (old.size : Int)
            · have hf : fitB old x = true := by unfold fitB; rw [decide_eq_true hfit]; simp
              have ho2 : outF old x = old.extract x.f.toNat (x.f + x.n).toNat := by unfold outF; rw [hin]; rfl
              rw [ho2] at HST HLO
              have HST2 := Lib.hid (fun hl => HST.out hf hl)
              have HLO2 := Lib.hid (fun hl => HLO.out hf hl)
              clear HST HLO HBD hf ho2 hin hokx
              obtain ⟨f, n, t⟩ := x
              simp only at h0 h1 h2 Q3 HE1 hzx hc hfit HST2 HLO2 HB3 HS3 HO3
              obtain ⟨h3, h4, h5, h6, h7⟩ := hc
              obtain rfl : t = ByteArray.empty := ba_empty h7
              have c0 := Q3.out.cell (i := 0) rfl
              have c1 := Q3.out.cell (i := 1) rfl
              have c2 := Q3.out.cell (i := 2) rfl
              have s1 : f ≤ f + n := by omega
              have s2 : 0 ≤ f + n := by omega
              have HES : Hid ((old.extract f.toNat (f + n).toNat).size = n.toNat) := Lib.hid (by rw [ByteArray.size_extract]; omega)
              go_wp2_with (at_builtin; refine Lib.wpList_append_own_string _ rfl _ _ 41 9 rfl w1.heap.size 5 i0 Try.underlying41 Try.underlying9 hi hz0 hz1 hz2 _ _ _ rfl HO3.out (old.extract f.toNat (f + n).toNat) rfl ?c3 ?c4 ?c5 ?_)
              case c3 => have := HES.out; unfold maxLen; omega
              case c4 => have := HES.out; omega
              case c5 => exact HS3.out
              intro v' w4 hown hgrow hnil
              have hown2 : w4.ownsRow w1.heap.size 5 1 v' (acc.length + (old.extract f.toNat (f + n).toNat).size) (Lib.byteCells acc ++ Lib.strCells (old.extract f.toNat (f + n).toNat)) := by rw [HES.out]; rw [show (f + n).toNat - f.toNat = n.toNat by omega] at hown; exact hown
              have HO4 := Lib.hid (owns_more hown2)
              have HN4 := Lib.hid (fun h => HN.out (by have h9 := (hnil.1 h).1; first | exact h9 | (obtain ⟨rfl, h8, rfl⟩ := h9; subst h8; rfl)))
              have HB4 := Lib.hid (HB3.out.trans (grown_below hgrow HS3.out (own_base HO3.out) HSZ.out))
              have HS4 := Lib.hid (Nat.le_trans HS3.out hgrow.size)
              obtain ⟨av, cv, rfl⟩ := owns_slice hown2
              clear hown hown2 hgrow hnil c0 c1 c2 h0 h1 h2 s1 s2
              generalize old.extract f.toNat (f + n).toNat = o2 at *
              by_cases hl : acc.length + o2.size ≤ m
              · have hl' : (acc.length : Int) + (o2.size : Int) ≤ (1048576 : Int) := by omega
                have HRUN2 := Lib.hid (HRUN.out.trans (HST2.out hl))
                go_wp2
                go_roundw
                case rel => exact ⟨k + 1, acc ++ o2.data.toList, by omega, by go_num, by simp; omega, HRUN2, HO4, HN4, HB4, HS4⟩
                case measure => simp [intOf]; omega
              · have hl' : (1048576 : Int) < (acc.length : Int) + (o2.size : Int) := by omega
                have HA : Hid (appF old xs most = (⟨#[]⟩, 2)) := Lib.hid (appF_yes HR.out (by rw [HMM.out, HRUN.out, HLO2.out (by omega)]))
                go_wp2
                go_ret2
                exact ⟨ret_si (by rw [HA.out]) (by rw [HA.out]), HB4.out⟩
            · have hf : fitB old x = false := by unfold fitB; rw [hin, decide_eq_false hfit]; rfl
              have HA : Hid (appF old xs most = (⟨#[]⟩, 70)) := Lib.hid (appF_yes HR.out (by rw [HMM.out, HRUN.out, HBD.out hf]))
              clear HST HLO HBD hf hin hokx
              obtain ⟨f, n, t⟩ := x
              simp only at h0 h1 h2 Q3 HE1 hzx hc hfit HB3 HS3 HO3
              obtain ⟨h3, h4, h5, h6, h7⟩ := hc
              obtain rfl : t = ByteArray.empty := ba_empty h7
              have c0 := Q3.out.cell (i := 0) rfl
              have c1 := Q3.out.cell (i := 1) rfl
              have c2 := Q3.out.cell (i := 2) rfl
              have s1 : (old.size : Int) < f + n := by omega
              go_wp2
              go_ret2
              exact ⟨ret_si (by rw [HA.out]) (by rw [HA.out]), HB3.out⟩
        · have HA : Hid (appF old xs most = (⟨acc.toArray⟩, 0)) := Lib.hid (appF_yes HR.out (by rw [HMM.out, HRUN.out, runF_end (by omega)]))
          have HBK := Lib.hid (bytes_back HO.out HN.out)
          go_wp2
          rw [HBK.out]
          simp only [Result.andThen]
          rw [Oper.upon_value]
          go_wp2
          go_ret2
          exact ⟨ret_si (by rw [HA.out]) (by rw [HA.out]), HB.out⟩
    · go_wp2
      clear HC
      have HO0 : Hid ((w1.alloc (.cells #[] 5)).ownsRow w1.heap.size 5 1 (.slice (some ⟨w1.heap.size, 0, none⟩) 0 0) 0 (Lib.byteCells [])) := Lib.hid (owns_none w1)
      have HW0 : Hid (Below w.heap.size w (w1.alloc (.cells #[] 5))) := Lib.hid (HB1.out.trans ((below1 w1 (.cells #[] 5)).mono HB1.out.size))
      have HSZ := Lib.hid HB1.out.size
      have hmc : ((mostF most : Nat) : Int) = most := by rw [mostF_cast]; omega
      have hm := mostF_le most
      generalize hmm : mostF most = m at hm hmc ⊢
      have HMM := Lib.hid hmm
      clear hmm
      go_loopw [8, 21] (fun v i wr => ∃ (k : Nat) (acc : List UInt8), k ≤ xs.length ∧ i = .int .i64 k ∧ acc.length ≤ m ∧ Hid (runF old m xs [] = runF old m (xs.drop k) acc) ∧ Hid (wr.ownsRow w1.heap.size 5 1 v acc.length (Lib.byteCells acc)) ∧ Hid (v ≠ .slice none 0 0) ∧ Hid (Below w.heap.size w wr) ∧ Hid (w1.heap.size ≤ wr.heap.size)) (fun _ i _ => xs.length - (intOf i).toNat)
      case atStart => exact ⟨0, [], by omega, rfl, by simp, Lib.hid rfl, HO0, Lib.hid (by simp), HW0, Lib.hid (by simp)⟩
      case round =>
        clear HO0 HW0
        obtain ⟨k, acc, hk, rfl, hacc, HRUN, HO, HN, HB, HS⟩ := hrel
        obtain ⟨ao, co, rfl⟩ := owns_slice HO.out
        by_cases hlt : k < xs.length
        · obtain ⟨x, hx⟩ : ∃ x, xs[k]? = some x := ⟨_, List.getElem?_eq_getElem hlt⟩
          obtain ⟨b, off, rfl, hbl, h0, h1, h2⟩ := (HIN.out.below HB.out).at_ hx
          have hokx := HOK.out k x hx
          have hzx := okB_size hokx
          have HX := Lib.hid hx
          clear hx
          obtain ⟨Q3, HE1⟩ := op_box wr x
          have HST := Lib.hid (fun hf hl => runF_step (old := old) (m := m) (acc := acc) HX.out hf hl)
          have HLO := Lib.hid (fun hf hl => runF_long (old := old) (m := m) (acc := acc) HX.out hf hl)
          have HBD := Lib.hid (fun hf => runF_bad (old := old) (m := m) (acc := acc) HX.out hf)
          have HO1 := Lib.hid (fun w' (hb : Below wr.heap.size wr w') => ownsRow_below HO.out hb)
          have HB3 := Lib.hid (HB.out.trans (HE1.out.mono HB.out.size))
          have HS3 := Lib.hid (Nat.le_trans HS.out HE1.out.size)
          have HO3 := Lib.hid (HO1.out _ HE1.out)
          cases hin : inB x with
          | true =>
            have hi3 := inB_true hin
            have hf : fitB old x = true := by unfold fitB; rw [hin]; rfl
            have ho2 : outF old x = x.t := by unfold outF; rw [if_pos hin]
            rw [ho2] at HST HLO
            have HST2 := Lib.hid (fun hl => HST.out hf hl)
            have HLO2 := Lib.hid (fun hl => HLO.out hf hl)
            clear HST HLO HBD hf ho2 hin hokx
            obtain ⟨f, n, t⟩ := x
            simp only at h0 h1 h2 Q3 HE1 hzx hi3 HST2 HLO2 HB3 HS3 HO3
            obtain ⟨rfl, rfl, ht1, ht2⟩ := hi3
            have c0 := Q3.out.cell (i := 0) rfl
            have c1 := Q3.out.cell (i := 1) rfl
            have c2 := Q3.out.cell (i := 2) rfl
            have e1 := size_pos_of (s := t) (by omega)
            have e2 := toList_ne (s := t) (by omega)
            go_wp2_with (at_builtin; refine Lib.wpList_append_own_string _ rfl _ _ 41 9 rfl w1.heap.size 5 i0 Try.underlying41 Try.underlying9 hi hz0 hz1 hz2 _ _ _ rfl HO3.out t rfl ?c3 ?c4 ?c5 ?_)
            case c3 => unfold maxLen; omega
            case c4 => omega
            case c5 => exact HS3.out
            intro v' w4 hown hgrow hnil
            have HO4 := Lib.hid (owns_more hown)
            have HN4 := Lib.hid (fun h => HN.out (by have h9 := (hnil.1 h).1; first | exact h9 | (obtain ⟨rfl, h8, rfl⟩ := h9; subst h8; rfl)))
            have HB4 := Lib.hid (HB3.out.trans (grown_below hgrow HS3.out (own_base HO3.out) HSZ.out))
            have HS4 := Lib.hid (Nat.le_trans HS3.out hgrow.size)
            obtain ⟨av, cv, rfl⟩ := owns_slice hown
            clear hown hgrow hnil c0 c1 c2 h0 h1 h2
            by_cases hl : acc.length + t.size ≤ m
            · have hl' : (acc.length : Int) + (t.size : Int) ≤ most := by omega
              have HRUN2 := Lib.hid (HRUN.out.trans (HST2.out hl))
              go_wp2
              go_roundw
              case rel => exact ⟨k + 1, acc ++ t.data.toList, by omega, by go_num, by simp; omega, HRUN2, HO4, HN4, HB4, HS4⟩
              case measure => simp [intOf]; omega
            · have hl' : most < (acc.length : Int) + (t.size : Int) := by omega
              have HA : Hid (appF old xs most = (⟨#[]⟩, 2)) := Lib.hid (appF_yes HR.out (by rw [HMM.out, HRUN.out, HLO2.out (by omega)]))
              go_wp2
              go_ret2
              exact ⟨ret_si (by rw [HA.out]) (by rw [HA.out]), HB4.out⟩
          | false =>
            have hc := cpB_true (cp_of_not hokx hin)
            by_cases hfit : x.f + x.n ≤ (old.size : Int)
            · have hf : fitB old x = true := by unfold fitB; rw [decide_eq_true hfit]; simp
              have ho2 : outF old x = old.extract x.f.toNat (x.f + x.n).toNat := by unfold outF; rw [hin]; rfl
              rw [ho2] at HST HLO
              have HST2 := Lib.hid (fun hl => HST.out hf hl)
              have HLO2 := Lib.hid (fun hl => HLO.out hf hl)
              clear HST HLO HBD hf ho2 hin hokx
              obtain ⟨f, n, t⟩ := x
              simp only at h0 h1 h2 Q3 HE1 hzx hc hfit HST2 HLO2 HB3 HS3 HO3
              obtain ⟨h3, h4, h5, h6, h7⟩ := hc
              obtain rfl : t = ByteArray.empty := ba_empty h7
              have c0 := Q3.out.cell (i := 0) rfl
              have c1 := Q3.out.cell (i := 1) rfl
              have c2 := Q3.out.cell (i := 2) rfl
              have s1 : f ≤ f + n := by omega
              have s2 : 0 ≤ f + n := by omega
              have HES : Hid ((old.extract f.toNat (f + n).toNat).size = n.toNat) := Lib.hid (by rw [ByteArray.size_extract]; omega)
              go_wp2_with (at_builtin; refine Lib.wpList_append_own_string _ rfl _ _ 41 9 rfl w1.heap.size 5 i0 Try.underlying41 Try.underlying9 hi hz0 hz1 hz2 _ _ _ rfl HO3.out (old.extract f.toNat (f + n).toNat) rfl ?c3 ?c4 ?c5 ?_)
              case c3 => have := HES.out; unfold maxLen; omega
              case c4 => have := HES.out; omega
              case c5 => exact HS3.out
              intro v' w4 hown hgrow hnil
              have hown2 : w4.ownsRow w1.heap.size 5 1 v' (acc.length + (old.extract f.toNat (f + n).toNat).size) (Lib.byteCells acc ++ Lib.strCells (old.extract f.toNat (f + n).toNat)) := by rw [HES.out]; rw [show (f + n).toNat - f.toNat = n.toNat by omega] at hown; exact hown
              have HO4 := Lib.hid (owns_more hown2)
              have HN4 := Lib.hid (fun h => HN.out (by have h9 := (hnil.1 h).1; first | exact h9 | (obtain ⟨rfl, h8, rfl⟩ := h9; subst h8; rfl)))
              have HB4 := Lib.hid (HB3.out.trans (grown_below hgrow HS3.out (own_base HO3.out) HSZ.out))
              have HS4 := Lib.hid (Nat.le_trans HS3.out hgrow.size)
              obtain ⟨av, cv, rfl⟩ := owns_slice hown2
              clear hown hown2 hgrow hnil c0 c1 c2 h0 h1 h2 s1 s2
              generalize old.extract f.toNat (f + n).toNat = o2 at *
              by_cases hl : acc.length + o2.size ≤ m
              · have hl' : (acc.length : Int) + (o2.size : Int) ≤ most := by omega
                have HRUN2 := Lib.hid (HRUN.out.trans (HST2.out hl))
                go_wp2
                go_roundw
                case rel => exact ⟨k + 1, acc ++ o2.data.toList, by omega, by go_num, by simp; omega, HRUN2, HO4, HN4, HB4, HS4⟩
                case measure => simp [intOf]; omega
              · have hl' : most < (acc.length : Int) + (o2.size : Int) := by omega
                have HA : Hid (appF old xs most = (⟨#[]⟩, 2)) := Lib.hid (appF_yes HR.out (by rw [HMM.out, HRUN.out, HLO2.out (by omega)]))
                go_wp2
                go_ret2
                exact ⟨ret_si (by rw [HA.out]) (by rw [HA.out]), HB4.out⟩
            · have hf : fitB old x = false := by unfold fitB; rw [hin, decide_eq_false hfit]; rfl
              have HA : Hid (appF old xs most = (⟨#[]⟩, 70)) := Lib.hid (appF_yes HR.out (by rw [HMM.out, HRUN.out, HBD.out hf]))
              clear HST HLO HBD hf hin hokx
              obtain ⟨f, n, t⟩ := x
              simp only at h0 h1 h2 Q3 HE1 hzx hc hfit HB3 HS3 HO3
              obtain ⟨h3, h4, h5, h6, h7⟩ := hc
              obtain rfl : t = ByteArray.empty := ba_empty h7
              have c0 := Q3.out.cell (i := 0) rfl
              have c1 := Q3.out.cell (i := 1) rfl
              have c2 := Q3.out.cell (i := 2) rfl
              have s1 : (old.size : Int) < f + n := by omega
              go_wp2
              go_ret2
              exact ⟨ret_si (by rw [HA.out]) (by rw [HA.out]), HB3.out⟩
        · have HA : Hid (appF old xs most = (⟨acc.toArray⟩, 0)) := Lib.hid (appF_yes HR.out (by rw [HMM.out, HRUN.out, runF_end (by omega)]))
          have HBK := Lib.hid (bytes_back HO.out HN.out)
          go_wp2
          rw [HBK.out]
          simp only [Result.andThen]
          rw [Oper.upon_value]
          go_wp2
          go_ret2
          exact ⟨ret_si (by rw [HA.out]) (by rw [HA.out]), HB.out⟩
end Go.Proofs.Ytmagcikaepobiaa.Dl
