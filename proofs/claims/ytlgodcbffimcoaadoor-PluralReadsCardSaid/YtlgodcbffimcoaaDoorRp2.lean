/- The document's reader: a number. -/
import Derived.Test.YtlgodcbffimcoaaDoorRp1
namespace Go.Proofs.YtlgodcbffimcoaaDoor
open Go.RowKit

theorem plc_p {m pb : Nat} {w : World} {s : BA} {S : St} {b : Bool} (h : PAt w pb s S b) : plc m pb w = m - S.1 := by
  have c1 := h.row.cell (i := 1) rfl
  unfold plc; rw [c1]; simp
theorem rNumL_none {l : List UInt8} {n a : Nat} (h : l[a]? = none) : rNumL l (l.length - a) n a = (n, (a, false)) := by
  rw [List.getElem?_eq_none_iff] at h
  rw [show l.length - a = 0 by omega, rNumL]
theorem rNumL_step {l : List UInt8} {n a : Nat} {c : UInt8} (h : l[a]? = some c) : rNumL l (l.length - a) n a = if isDg c = true then (if n = 0 ∨ 1000000 < nx n c then (0, (a, true)) else rNumL l (l.length - (a + 1)) (nx n c) (a + 1)) else (n, (a, false)) := by
  have hlt := get_lt h
  rw [show l.length - a = (l.length - (a + 1)) + 1 by omega, rNumL, h]
theorem rNum_at {l : List UInt8} {a : Nat} {c : UInt8} (h : l[a]? = some c) (hd : isDg c = true) : rNum l (a, false) = rNumL l (l.length - (a + 1)) (c.toNat - 48) (a + 1) := by
  unfold rNum; simp only [Bool.false_eq_true, if_false, h, hd, if_true]
theorem rNum_bad {l : List UInt8} {S : St} (h : ∀ c, nowF l S = some c → isDg c = false) : rNum l S = (0, (S.1, true)) := by
  obtain ⟨a, st⟩ := S
  unfold rNum
  cases st with
  | true => rfl
  | false =>
    simp only [Bool.false_eq_true, if_false]
    cases hc : l[a]? with
    | none => rfl
    | some c =>
      have := h c (by unfold nowF; simp only [Bool.false_eq_true, if_false]; exact hc)
      simp only [this, Bool.false_eq_true, if_false]
theorem now_at {l : List UInt8} {a : Nat} : nowF l (a, false) = l[a]? := by unfold nowF; simp
theorem dg_iff {c : UInt8} : isDg c = true ↔ 48 ≤ c.toNat ∧ c.toNat ≤ 57 := by unfold isDg; simp

set_option maxHeartbeats 3200000 in
set_option maxRecDepth 100000 in
theorem rnumber_any (pb : Nat) (s : BA) (S : St) (b : Bool) (w : World) (hs : s.size ≤ 400) (hR : PAt w pb s S b) :
    Calls Tryd.prog 37 #[.pointer (some ⟨pb, 0, none⟩)] w fun e w' => e = .returned (.int .i64 (rNum s.data.toList S).1) ∧ PAt w' pb s (rNum s.data.toList S).2 b ∧ Fr (· = pb) w w' := by
  have HP0 := Lib.hid hR
  have HF0 := Lib.hid (Fr.refl (· = pb) w)
  have HN := Lib.hid (fun w2 (h : PAt w2 pb s S b) => (now_any pb s S b w2 hs h).mono (fun e w' ⟨he, n, hn⟩ => (⟨he, h.same (by rw [hn]; exact (Same.refl _).drewN n), by rw [hn]; exact Fr.of_same ((Same.refl _).drewN n)⟩ : e = Ending.returned (.int .i64 (nowI s.data.toList S)) ∧ PAt w' pb s S b ∧ Fr (· = pb) w2 w')))
  clear hR
  by_cases hd : ∃ c, nowF s.data.toList S = some c ∧ isDg c = true
  · obtain ⟨c, hc, hdg⟩ := hd
    have hcd := dg_iff.1 hdg
    obtain ⟨hst, hget⟩ := next_iff.1 (now_iff.1 hc)
    obtain ⟨a0, st⟩ := S
    simp only at hst hget
    subst hst
    have HE := Lib.hid (rNum_at hget hdg)
    have hlt : a0 < s.size := by have := get_lt hget; simpa using this
    rw [nowI_some hc] at HN
    have h0 : (48 : Int) ≤ (c.toNat : Int) := by omega
    have h57 : (c.toNat : Int) ≤ 57 := by omega
    clear hc hdg hget
    go_enter Tryd.func37, Tryd.ntmps37
    go_wp2_with fail
    refine (HN.out _ HP0.out).mono ?_
    rintro e w1 ⟨rfl, hp1, hf1⟩
    have HP1 := Lib.hid hp1
    have HF1 := Lib.hid (HF0.out.trans hf1)
    clear hp1 hf1
    go_wp2_with fail
    refine (HN.out _ HP1.out).mono ?_
    rintro e w2 ⟨rfl, hp2, hf2⟩
    have HP2 := Lib.hid hp2
    have HF2 := Lib.hid (HF1.out.trans hf2)
    clear hp2 hf2
    go_wp2_with fail
    refine (HN.out _ HP2.out).mono ?_
    rintro e w3 ⟨rfl, hp3, hf3⟩
    have HP3 := Lib.hid hp3
    have HF3 := Lib.hid (HF2.out.trans hf3)
    clear hp3 hf3 HN HP0 HF0 HP1 HF1 HP2 HF2
    have c1 := HP3.out.row.cell (i := 1) rfl
    have z1 := HP3.out.row.thaw 1
    simp only at c1
    have HQ : Hid (PAt (w3.setCell ⟨pb, 1, none⟩ (.int .i64 ((a0 : Int) + 1))) pb s (a0 + 1, false) b) := Lib.hid (PAt.on (S := (a0, false)) HP3.out)
    have HFQ : Hid (Fr (· = pb) w (w3.setCell ⟨pb, 1, none⟩ (.int .i64 ((a0 : Int) + 1)))) := Lib.hid (HF3.out.trans (fr_set 1 _))
    obtain ⟨d, HD, hd9⟩ : ∃ d : Nat, Hid (c.toNat - 48 = d) ∧ d ≤ 9 := ⟨_, Lib.hid rfl, by omega⟩
    rw [HD.out] at HE
    have hcd2 : (c.toNat : Int) - 48 = d := by have := HD.out; omega
    go_wp2
    go_loopw [3] (fun i wr => ∃ (n a : Nat), n ≤ 1000000 ∧ i = .int .i64 n ∧ a ≤ s.size ∧ Hid (PAt wr pb s (a, false) b) ∧ Hid (Fr (· = pb) w wr) ∧ Hid (rNum s.data.toList (a0, false) = rNumL s.data.toList (s.data.toList.length - a) n a)) (fun _ wr => plc s.size pb wr)
    case atStart => exact ⟨d, a0 + 1, by omega, by first | rfl | (rw [hcd2]), by omega, HQ, HFQ, HE⟩
    case round =>
      obtain ⟨n, a, hn, rfl, ha, HPR, HFR, HRN⟩ := hrel
      clear c1 z1 HQ HFQ HE HP3 HF3
      have HM := Lib.hid (plc_p (m := s.size) HPR.out)
      have HN := Lib.hid (fun w2 (h : PAt w2 pb s (a, false) b) => (now_any pb s (a, false) b w2 hs h).mono (fun e w' ⟨he, n, hn⟩ => (⟨he, h.same (by rw [hn]; exact (Same.refl _).drewN n), by rw [hn]; exact Fr.of_same ((Same.refl _).drewN n)⟩ : e = Ending.returned (.int .i64 (nowI s.data.toList (a, false))) ∧ PAt w' pb s (a, false) b ∧ Fr (· = pb) w2 w')))
      by_cases hd2 : ∃ c, s.data.toList[a]? = some c ∧ isDg c = true
      · obtain ⟨c2, hc2, hdg2⟩ := hd2
        have hcd3 := dg_iff.1 hdg2
        have hlt2 : a < s.size := by have := get_lt hc2; simpa using this
        have HST := Lib.hid (HRN.out.trans ((rNumL_step hc2).trans (if_pos hdg2)))
        rw [nowI_some (now_at.trans hc2)] at HN
        have HNX := Lib.hid (nx_def n c2)
        clear hc2 hdg2 hcd hcd2 h0 h57 hd9
        generalize hcg : c2.toNat = cn at *
        have g0 : (48 : Int) ≤ (cn : Int) := by omega
        have g57 : (cn : Int) ≤ 57 := by omega
        clear hcg
        go_wp2_with fail
        refine (HN.out _ HPR.out).mono ?_
        rintro e w1 ⟨rfl, hp1, hf1⟩
        have HP1 := Lib.hid hp1
        have HF1 := Lib.hid (HFR.out.trans hf1)
        clear hp1 hf1
        go_wp2_with fail
        refine (HN.out _ HP1.out).mono ?_
        rintro e w2 ⟨rfl, hp2, hf2⟩
        have HP2 := Lib.hid hp2
        have HF2 := Lib.hid (HF1.out.trans hf2)
        clear hp2 hf2
        go_wp2_with fail
        refine (HN.out _ HP2.out).mono ?_
        rintro e w3 ⟨rfl, hp3, hf3⟩
        have HP3 := Lib.hid hp3
        have HF3 := Lib.hid (HF2.out.trans hf3)
        clear hp3 hf3
        by_cases hz : n = 0
        · subst hz
          have HE2 : Hid (rNum s.data.toList (a0, false) = (0, (a, true))) := Lib.hid (HST.out.trans (if_pos (.inl rfl)))
          have HWR := Lib.hid (wrong_any pb s (a, false) b _ hs HP3.out)
          go_wp2_with fail
          refine HWR.out.mono ?_
          rintro e w4 ⟨rfl, hp4, hf4⟩
          have HP4 := Lib.hid hp4
          have HF4 := Lib.hid (HF3.out.trans hf4)
          clear hp4 hf4
          go_wp2
          go_ret
          exact ⟨by rw [HE2.out]; rfl, by rw [HE2.out]; exact HP4.out, HF4.out⟩
        · have hz2 : ((n : Int) == 0) = false := by simpa using hz
          by_cases hbig : 1000000 < 10 * n + cn - 48
          · have HE2 : Hid (rNum s.data.toList (a0, false) = (0, (a, true))) := Lib.hid (HST.out.trans (if_pos (.inr (by rw [HNX.out]; omega))))
            have HWR := Lib.hid (wrong_any pb s (a, false) b _ hs HP3.out)
            have hbi : decide ((1000000 : Int) < 10 * (n : Int) + (cn : Int) - 48) = true := decide_eq_true (by omega)
            clear hbig
            go_wp2_with fail
            refine HWR.out.mono ?_
            rintro e w4 ⟨rfl, hp4, hf4⟩
            have HP4 := Lib.hid hp4
            have HF4 := Lib.hid (HF3.out.trans hf4)
            clear hp4 hf4
            go_wp2
            go_ret
            exact ⟨by rw [HE2.out]; rfl, by rw [HE2.out]; exact HP4.out, HF4.out⟩
          · obtain ⟨m, HMM, hm⟩ : ∃ m : Nat, Hid (nx n c2 = m) ∧ m ≤ 1000000 := ⟨_, Lib.hid rfl, by rw [HNX.out]; omega⟩
            have hmi : 10 * (n : Int) + (cn : Int) - 48 = m := by have h1 := HMM.out; rw [HNX.out] at h1; omega
            have HE2 : Hid (rNum s.data.toList (a0, false) = rNumL s.data.toList (s.data.toList.length - (a + 1)) m (a + 1)) := Lib.hid (HST.out.trans ((if_neg (by rw [HNX.out]; omega)).trans (by rw [HMM.out])))
            have c1 := HP3.out.row.cell (i := 1) rfl
            have z1 := HP3.out.row.thaw 1
            simp only at c1
            have HQ : Hid (PAt (w3.setCell ⟨pb, 1, none⟩ (.int .i64 ((a : Int) + 1))) pb s (a + 1, false) b) := Lib.hid (PAt.on (S := (a, false)) HP3.out)
            have HFQ : Hid (Fr (· = pb) w (w3.setCell ⟨pb, 1, none⟩ (.int .i64 ((a : Int) + 1)))) := Lib.hid (HF3.out.trans (fr_set 1 _))
            clear hbig
            go_wp2
            go_roundw
            case rel => exact ⟨m, a + 1, hm, by first | rfl | rw [hmi], by omega, HQ, HFQ, HE2⟩
            case measure =>
              have h1 := plc_p (m := s.size) HQ.out
              rw [HM.out, h1]
              simp only
              omega
      · have HE2 : Hid (rNum s.data.toList (a0, false) = (n, (a, false))) := Lib.hid (HRN.out.trans (by
          cases hc2 : s.data.toList[a]? with
          | none => exact rNumL_none hc2
          | some c2 =>
            rw [rNumL_step hc2, if_neg (fun h => hd2 ⟨c2, hc2, h⟩)]))
        obtain ⟨v, HV, hv⟩ : ∃ v : Int, Hid (nowI s.data.toList (a, false) = v) ∧ ¬ (48 ≤ v ∧ v ≤ 57) := ⟨_, Lib.hid rfl, by
          cases hc2 : s.data.toList[a]? with
          | none => rw [nowI_none (now_at.trans hc2)]; omega
          | some c2 => rw [nowI_some (now_at.trans hc2)]; intro h; exact hd2 ⟨c2, hc2, dg_iff.2 (by omega)⟩⟩
        rw [HV.out] at HN
        clear hd2 hcd hcd2 h0 h57 hd9
        by_cases hv1 : 48 ≤ v
        · have hv2 : ¬ v ≤ 57 := fun h => hv ⟨hv1, h⟩
          clear hv
          go_wp2_with fail
          refine (HN.out _ HPR.out).mono ?_
          rintro e w1 ⟨rfl, hp1, hf1⟩
          have HP1 := Lib.hid hp1
          have HF1 := Lib.hid (HFR.out.trans hf1)
          clear hp1 hf1
          go_wp2_with fail
          refine (HN.out _ HP1.out).mono ?_
          rintro e w2 ⟨rfl, hp2, hf2⟩
          have HP2 := Lib.hid hp2
          have HF2 := Lib.hid (HF1.out.trans hf2)
          clear hp2 hf2
          go_wp2
          go_ret
          exact ⟨by rw [HE2.out]; rfl, by rw [HE2.out]; exact HP2.out, HF2.out⟩
        · clear hv
          go_wp2_with fail
          refine (HN.out _ HPR.out).mono ?_
          rintro e w1 ⟨rfl, hp1, hf1⟩
          have HP1 := Lib.hid hp1
          have HF1 := Lib.hid (HFR.out.trans hf1)
          clear hp1 hf1
          go_wp2
          go_ret
          exact ⟨by rw [HE2.out]; rfl, by rw [HE2.out]; exact HP1.out, HF1.out⟩
  · have HE := Lib.hid (rNum_bad (l := s.data.toList) (S := S) (fun c hc => by
      cases hq : isDg c with
      | false => rfl
      | true => exact absurd ⟨c, hc, hq⟩ hd))
    obtain ⟨v, HV, hv⟩ : ∃ v : Int, Hid (nowI s.data.toList S = v) ∧ ¬ (48 ≤ v ∧ v ≤ 57) := ⟨_, Lib.hid rfl, by
      cases hc2 : nowF s.data.toList S with
      | none => rw [nowI_none hc2]; omega
      | some c2 => rw [nowI_some hc2]; intro h; exact hd ⟨c2, hc2, dg_iff.2 (by omega)⟩⟩
    rw [HV.out] at HN
    clear hd
    by_cases hv1 : v < 48
    · clear hv
      go_enter Tryd.func37, Tryd.ntmps37
      go_wp2_with fail
      refine (HN.out _ HP0.out).mono ?_
      rintro e w1 ⟨rfl, hp1, hf1⟩
      have HF3 := Lib.hid (HF0.out.trans hf1)
      have HWR := Lib.hid (wrong_any pb s S b _ hs hp1)
      clear hp1 hf1
      go_wp2_with fail
      refine HWR.out.mono ?_
      rintro e w4 ⟨rfl, hp4, hf4⟩
      have HP4 := Lib.hid hp4
      have HF4 := Lib.hid (HF3.out.trans hf4)
      clear hp4 hf4
      go_wp2
      go_ret
      exact ⟨by rw [HE.out]; rfl, by rw [HE.out]; exact HP4.out, HF4.out⟩
    · have hv2 : 57 < v := by omega
      clear hv
      go_enter Tryd.func37, Tryd.ntmps37
      go_wp2_with fail
      refine (HN.out _ HP0.out).mono ?_
      rintro e w1 ⟨rfl, hp1, hf1⟩
      have HP1 := Lib.hid hp1
      have HF1 := Lib.hid (HF0.out.trans hf1)
      clear hp1 hf1
      go_wp2_with fail
      refine (HN.out _ HP1.out).mono ?_
      rintro e w2 ⟨rfl, hp2, hf2⟩
      have HF3 := Lib.hid (HF1.out.trans hf2)
      have HWR := Lib.hid (wrong_any pb s S b _ hs hp2)
      clear hp2 hf2
      go_wp2_with fail
      refine HWR.out.mono ?_
      rintro e w4 ⟨rfl, hp4, hf4⟩
      have HP4 := Lib.hid hp4
      have HF4 := Lib.hid (HF3.out.trans hf4)
      clear hp4 hf4
      go_wp2
      go_ret
      exact ⟨by rw [HE.out]; rfl, by rw [HE.out]; exact HP4.out, HF4.out⟩
end Go.Proofs.YtlgodcbffimcoaaDoor
