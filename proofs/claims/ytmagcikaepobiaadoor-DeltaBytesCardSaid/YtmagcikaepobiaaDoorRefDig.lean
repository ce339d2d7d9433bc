/- The document's own reader: digits. -/
import Derived.Test.YtmagcikaepobiaaDoorRef
import Derived.Lib.Bytes
namespace Go.Proofs.YtmagcikaepobiaaDoor
open Go.RowKit

theorem size_list (a : ByteArray) : a.data.toList.length = a.size := by simp
theorem zero_at (a : ByteArray) (h : 0 < a.size) : a.data.toList[0]? = some 48 ↔ a[0].toNat = 48 := some45 a 0 48 h

set_option maxHeartbeats 800000 in
theorem fits_any (a ms : ByteArray) (w : World) (h0 : 0 < a.size) (ha : a.size ≤ 200000) (_ : ms.size ≤ 200000) :
    Calls Tryd.prog 70 #[.string a, .string ms] w fun e w' => e = .returned (.bool (fitsL a.data.toList ms.data.toList)) ∧ w = w' := by
  by_cases h1 : 1 < a.size ∧ a[0].toNat = 48
  · obtain ⟨hl, hz⟩ := h1
    have HX : Hid (fitsL a.data.toList ms.data.toList = false) := Lib.hid (by unfold fitsL; rw [if_pos ⟨by rw [size_list]; exact hl, (zero_at a h0).2 hz⟩])
    have hB : (((a[0].toNat : Nat) : Int) == 48) = true := by simp; omega
    clear hz
    go_enter Tryd.func70, Tryd.ntmps70
    go_wp2
    go_ret
    exact ⟨ret_bool (by rw [HX.out]), rfl⟩
  · have HX : Hid (fitsL a.data.toList ms.data.toList = (decide (a.size < ms.size) || (decide (a.size = ms.size) && (Op.bytesLess a.data.toList ms.data.toList || a.data.toList == ms.data.toList)))) := Lib.hid (by
      unfold fitsL; rw [if_neg (fun h => h1 ⟨by rw [size_list] at h; exact h.1, (zero_at a h0).1 h.2⟩), size_list, size_list])
    have hB : 1 < a.size → (((a[0].toNat : Nat) : Int) == 48) = false := fun h => by
      have : ¬ a[0].toNat = 48 := fun e => h1 ⟨h, e⟩
      simp; omega
    clear h1
    have fin : ∀ x : Bool, x = (decide (a.size < ms.size) || (decide (a.size = ms.size) && (Op.bytesLess a.data.toList ms.data.toList || a.data.toList == ms.data.toList))) → Ending.returned (.bool x) = .returned (.bool (fitsL a.data.toList ms.data.toList)) := fun x hx => ret_bool (by rw [HX.out, hx])
    have HF := Lib.hid fin
    clear fin
    by_cases hl : 1 < a.size
    · have hB' := hB hl
      clear hB
      by_cases hlt : a.size < ms.size
      · go_enter Tryd.func70, Tryd.ntmps70
        go_wp2
        all_goals go_ret
        all_goals exact ⟨HF.out _ (by simp [hlt]), rfl⟩
      · rcases Bool.eq_false_or_eq_true ((a.size : Int) == (ms.size : Int)) with hq | hq
        · go_enter Tryd.func70, Tryd.ntmps70
          go_wp2
          all_goals go_ret
          all_goals exact ⟨HF.out _ (by have : a.size = ms.size := by simp at hq; omega
                                        simp [this, Lib.toList_data]), rfl⟩
        · go_enter Tryd.func70, Tryd.ntmps70
          go_wp2
          all_goals go_ret
          all_goals exact ⟨HF.out _ (by have : ¬ a.size = ms.size := by simp at hq; omega
                                        simp [hlt, this]), rfl⟩
    · clear hB
      by_cases hlt : a.size < ms.size
      · go_enter Tryd.func70, Tryd.ntmps70
        go_wp2
        all_goals go_ret
        all_goals exact ⟨HF.out _ (by simp [hlt]), rfl⟩
      · rcases Bool.eq_false_or_eq_true ((a.size : Int) == (ms.size : Int)) with hq | hq
        · go_enter Tryd.func70, Tryd.ntmps70
          go_wp2
          all_goals go_ret
          all_goals exact ⟨HF.out _ (by have : a.size = ms.size := by simp at hq; omega
                                        simp [this, Lib.toList_data]), rfl⟩
        · go_enter Tryd.func70, Tryd.ntmps70
          go_wp2
          all_goals go_ret
          all_goals exact ⟨HF.out _ (by have : ¬ a.size = ms.size := by simp at hq; omega
                                        simp [hlt, this]), rfl⟩

/-- What digits leaves: where the reader stands, and the digits themselves. -/
def DigR (pb : Nat) (s : ByteArray) (m : Nat) (r : Nat × Nat × Nat) (d : ByteArray) (w' : World) : Prop :=
  PS pb s r.2.2 m r.2.1 w' ∧ (r.2.1 = 0 → AllDig d.data.toList ∧ d.data.toList ≠ [] ∧ valFrom 0 d.data.toList = r.1) ∧ r.2.2 ≤ s.size ∧ d.size ≤ s.size

/-- What stands at a round's head. -/
structure DigI (pb : Nat) (s : ByteArray) (i m most : Nat) (w : World) (k : Nat) (d : ByteArray) (wr : World) : Prop where
  ps : PS pb s k m 0 wr
  fr : Fr (· = pb) w wr
  dig : AllDig d.data.toList
  len : d.size = k - i
  lead : 1 < d.size → d.data.toList[0]? ≠ some 48
  eq : digF most (s.data.toList.drop i) i 0 true = digF most (s.data.toList.drop k) k (valFrom 0 d.data.toList) (decide (k = i))

theorem digF_nil (most i n : Nat) (first : Bool) : digF most [] i n first = (0, 10, i) := by rw [digF]
theorem digF_cons (most : Nat) (c : UInt8) (r : List UInt8) (i n : Nat) (first : Bool) : digF most (c :: r) i n first =
    if isDig c = true then
      if (n = 0 ∧ first = false) ∨ (most - (c.toNat - 48)) / 10 < n then (0, 11, i) else digF most r (i + 1) (n * 10 + (c.toNat - 48)) false
    else if first = true then (0, 11, i) else (n, 0, i) := by rw [digF]

/-- A first digit 0 is all that spells 0. -/
theorem zero_lead {d : List UInt8} (hd : AllDig d) (h0 : d ≠ []) (hl : 1 < d.length → d[0]? ≠ some 48) : valFrom 0 d = 0 ↔ d[0]? = some 48 := by
  cases d with
  | nil => exact absurd rfl h0
  | cons c r =>
    have hb := isDig_bd (hd c List.mem_cons_self)
    constructor
    · intro h
      rw [valFrom_cons] at h
      have hp : 0 < 10 ^ r.length := Nat.pow_pos (by omega)
      have : (c.toNat - 48) = 0 := by
        rcases Nat.eq_zero_or_pos (c.toNat - 48) with e | e
        · exact e
        · have := Nat.mul_pos e hp; omega
      have hc : c.toNat = 48 := by omega
      simp [← UInt8.toNat_inj, hc]
    · intro h
      have hr : r = [] := by
        rcases r with _ | ⟨x, r⟩
        · rfl
        · exact absurd h (hl (by simp))
      subst hr
      have : c = 48 := by simpa using h
      subst this
      rfl

theorem push_list (d : ByteArray) (c : UInt8) : (d ++ (⟨#[c]⟩ : ByteArray)).data.toList = d.data.toList ++ [c] := by
  rw [ByteArray.data_append]; simp
theorem push_size (d : ByteArray) (c : UInt8) : (d ++ (⟨#[c]⟩ : ByteArray)).size = d.size + 1 := by
  rw [← size_list, push_list, List.length_append, size_list]; rfl

theorem dig_step {pb : Nat} {s d : ByteArray} {mc : UInt8} {mr : List UInt8} {i m most k : Nat} {w wr : World} (I : DigI pb s i m most w k d wr) (hik : i ≤ k) (hlt : k < s.size) (hd : isDig s[k] = true)
    (hmd : AllDig (mc :: mr)) (hm0 : mc ≠ 48) (hmv : valFrom 0 (mc :: mr) = most) (hm10 : 10 ≤ most) :
    (fitsL (d ++ (⟨#[s[k]]⟩ : ByteArray)).data.toList (mc :: mr) = false → digF most (s.data.toList.drop i) i 0 true = (0, 11, k)) ∧
    (fitsL (d ++ (⟨#[s[k]]⟩ : ByteArray)).data.toList (mc :: mr) = true → ∀ w', PS pb s (k + 1) m 0 w' → Fr (· = pb) w w' → DigI pb s i m most w (k + 1) (d ++ (⟨#[s[k]]⟩ : ByteArray)) w') := by
  have hb := isDig_bd hd
  have heq := I.eq
  rw [drop_of s k hlt, digF_cons, if_pos hd] at heq
  have hall : AllDig (d.data.toList ++ [s[k]]) := by
    intro c hc
    rcases List.mem_append.1 hc with hc | hc
    · exact I.dig c hc
    · rw [List.mem_singleton.1 hc]; exact hd
  have hlen : d.data.toList.length = k - i := by rw [size_list]; exact I.len
  have hfst : decide (k = i) = false ↔ d.data.toList ≠ [] := by
    constructor
    · intro h e; rw [e] at hlen; simp at h hlen; omega
    · intro h
      have : d.data.toList.length ≠ 0 := fun e => h (List.eq_nil_of_length_eq_zero e)
      simp; omega
  rw [push_list]
  by_cases hz : valFrom 0 d.data.toList = 0 ∧ decide (k = i) = false
  · have hne := hfst.1 hz.2
    have h48 := (zero_lead I.dig hne (by rw [size_list]; exact I.lead)).1 hz.1
    have hF : fitsL (d.data.toList ++ [s[k]]) (mc :: mr) = false := by
      unfold fitsL
      rw [if_pos]
      refine ⟨?_, ?_⟩
      · have : d.data.toList.length ≠ 0 := fun e => hne (List.eq_nil_of_length_eq_zero e)
        rw [List.length_append]; show 1 < _ + 1; omega
      · rw [List.getElem?_append_left (Nat.pos_of_ne_zero (fun e => hne (List.eq_nil_of_length_eq_zero e)))]; exact h48
    refine ⟨fun _ => ?_, fun h => ?_⟩
    · rw [heq, if_pos (.inl hz)]
    · rw [hF] at h; cases h
  · have hlead : ¬ (1 < (d.data.toList ++ [s[k]]).length ∧ (d.data.toList ++ [s[k]])[0]? = some 48) := by
      rintro ⟨h1, h2⟩
      rw [List.length_append] at h1
      have h1' : 1 < d.data.toList.length + 1 := h1
      have hne : d.data.toList ≠ [] := fun e => by rw [e] at h1'; simp at h1'
      rw [List.getElem?_append_left (by omega)] at h2
      exact hz ⟨(zero_lead I.dig hne (by rw [size_list]; exact I.lead)).2 h2, hfst.2 hne⟩
    have hfv := fits_val hall (by simp) hmd hm0 hlead
    rw [hfv, hmv, valFrom_snoc]
    have hiff : (most - (s[k].toNat - 48)) / 10 < valFrom 0 d.data.toList ↔ ¬ valFrom 0 d.data.toList * 10 + (s[k].toNat - 48) ≤ most := by omega
    refine ⟨fun h => ?_, fun h w' hp hf => ?_⟩
    · have h' : ¬ valFrom 0 d.data.toList * 10 + (s[k].toNat - 48) ≤ most := by simpa using h
      rw [heq, if_pos (.inr (hiff.2 h'))]
    · have h' : valFrom 0 d.data.toList * 10 + (s[k].toNat - 48) ≤ most := by simpa using h
      refine ⟨hp, hf, by rw [push_list]; exact hall, by rw [push_size, I.len]; omega, ?_, ?_⟩
      · rw [push_list, push_size]
        intro h1 h2
        exact hlead ⟨by rw [List.length_append, size_list]; exact h1, h2⟩
      · rw [heq, if_neg (fun hx => by rcases hx with hx | hx; exact hz hx; exact hiff.1 hx h'), push_list, valFrom_snoc, show decide (k + 1 = i) = false from by simp; omega]

theorem now_dig {s : ByteArray} {k : Nat} (hlt : k < s.size) : (decide (48 ≤ nowF s k) && decide (nowF s k ≤ 57)) = isDig s[k] := by
  rw [nowF_lt hlt]
  unfold isDig
  congr 1 <;> exact decide_eq_decide.2 (by omega)

set_option maxHeartbeats 1600000 in
set_option maxRecDepth 100000 in
theorem digits_any (pb : Nat) (s ms : ByteArray) (mc : UInt8) (mr : List UInt8) (i m most : Nat) (w : World) (hs : s.size ≤ 131072) (hi : i ≤ s.size) (hms : ms.data.toList = mc :: mr) (hmd : AllDig (mc :: mr)) (hm0 : mc ≠ 48) (hmv : valFrom 0 (mc :: mr) = most) (hmz : ms.size ≤ 20) (hm10 : 10 ≤ most) (hp : PS pb s i m 0 w) :
    Calls Tryd.prog 61 #[.pointer (some ⟨pb, 0, none⟩), .string ms] w fun e w' => ∃ d, e = .returned (.string d) ∧ Hid (DigR pb s m (digF most (s.data.toList.drop i) i 0 true) d w') ∧ Hid (Fr (· = pb) w w') := by
  have HM := Lib.hid hms
  have HV := Lib.hid hmv
  have HI : Hid (DigI pb s i m most w i ⟨#[]⟩ w) := Lib.hid ⟨hp, Fr.refl _ w, (fun c hc => absurd hc (by simp)), (by show 0 = i - i; omega), (fun h => absurd h (by show ¬ 1 < 0; omega)), (by simp [val_nil])⟩
  clear hms hmv hp
  go_enter Tryd.func61, Tryd.ntmps61
  go_wp2
  go_loopw [5] (fun x wr => ∃ (k : Nat) (d : ByteArray), i ≤ k ∧ k ≤ s.size ∧ x = .string d ∧ Hid (DigI pb s i m most w k d wr)) (fun x _ => s.size - (match x with | .string d => d.size | _ => 0))
  case atStart => exact ⟨i, ⟨#[]⟩, Nat.le_refl _, hi, rfl, HI⟩
  case round =>
    obtain ⟨k, d, hik, hk, rfl, I⟩ := hrel
    clear HI
    have hdl := I.out.len
    have hds : d.size ≤ 131072 := by omega
    clear hdl
    have HN := Lib.hid (now_any pb s k m 0 wr hs hk I.out.ps)
    by_cases hdg : k < s.size ∧ (decide (48 ≤ nowF s k) && decide (nowF s k ≤ 57)) = true
    · obtain ⟨hlt, hdg⟩ := hdg
      go_wp2_with fail
      refine HN.out.mono ?_
      rintro e w1 ⟨rfl, hsm1⟩
      go_wp2_with fail
      refine (digit_any _ _).mono ?_
      rintro e w1' ⟨rfl, rfl⟩
      rw [hdg]
      have HN2 := Lib.hid (now_any pb s k m 0 w1 hs hk (I.out.ps.same hsm1))
      have HS1 := Lib.hid hsm1
      clear hsm1
      go_wp2_with fail
      refine HN2.out.mono ?_
      rintro e w2 ⟨rfl, hsm2⟩
      rw [nowF_lt hlt]
      have hcb := s[k].toNat_lt
      have hcv : Sem.run Tryd.prog (convert 47 9 (.slice (some ⟨w2.heap.size, 0, none⟩) 1 1)) (w2.alloc (.cells #[.int .u8 s[k].toNat] 5)) = .ok (.string ⟨#[s[k]]⟩) (w2.alloc (.cells #[.int .u8 s[k].toNat] 5)) :=
        run_convert_bytes_back (w2.alloc (.cells #[.int .u8 s[k].toNat] 5)) 47 9 5 ⟨w2.heap.size, 0, none⟩ 1 [s[k]] Tryd.underlying47 Tryd.underlying5 Tryd.underlying9 (fun j hj => by
          match j, hj with
          | 0, hj => simp [Addr.add])
      have hdig : isDig s[k] = true := (now_dig hlt).symm.trans hdg
      have hst := dig_step I.out hik hlt hdig hmd hm0 HV.out hm10
      have hpz := push_size d s[k]
      have hps2 := (I.out.ps.same HS1.out).same hsm2
      have HPS : Hid (PS pb s k m 0 (w2.alloc (.cells #[.int .u8 s[k].toNat] 5))) := Lib.hid (hps2.alloc _)
      have HFR : Hid (Fr (· = pb) w (w2.alloc (.cells #[.int .u8 s[k].toNat] 5))) := Lib.hid (((I.out.fr.trans HS1.out.fr).trans hsm2.fr).alloc _)
      clear hsm2
      go_wp2_with fail
      generalize d ++ (⟨#[s[k]]⟩ : ByteArray) = t at *
      have hfit := Lib.hid (fits_any t ms (w2.alloc (.cells #[.int .u8 s[k].toNat] 5)) (by omega) (by omega) (by omega))
      rw [HM.out] at hfit
      generalize w2.alloc (.cells #[.int .u8 s[k].toNat] 5) = w3 at *
      refine hfit.out.mono ?_
      rintro e w3' ⟨rfl, rfl⟩
      have hc1 := HPS.out.c1
      have hc3 := HPS.out.c3
      have hf1 := HPS.out.fz 1
      have hf3 := HPS.out.fz 3
      cases hb : fitsL t.data.toList (mc :: mr)
      · have HX := Lib.hid (hst.1 hb)
        have HQ : Hid (PS pb s k m 11 (w3.setCell ⟨pb, 3, none⟩ (.int .i64 11))) := Lib.hid (HPS.out.set3 11)
        clear hst hb hcv hdg hdig
        go_wp2
        go_ret
        exact ⟨_, rfl, Lib.hid (by rw [HX.out]; exact ⟨HQ.out, (fun h => by cases h), hk, (by show 0 ≤ s.size; omega)⟩), Lib.hid (frP HFR.out 3 _)⟩
      · have HQ : Hid (DigI pb s i m most w (k + 1) t (w3.setCell ⟨pb, 1, none⟩ (.int .i64 ((k : Int) + 1)))) := Lib.hid (hst.2 hb _ (HPS.out.set1 (k + 1)) (frP HFR.out 1 _))
        clear hst hb hcv hdg hdig
        go_wp2
        go_roundw
        case rel => exact ⟨k + 1, t, by omega, by omega, rfl, HQ⟩
        case measure => have := I.out.len; simp only; omega
    · have hdf : (decide (48 ≤ nowF s k) && decide (nowF s k ≤ 57)) = false := by
        by_cases hlt : k < s.size
        · cases hx : (decide (48 ≤ nowF s k) && decide (nowF s k ≤ 57))
          · rfl
          · exact absurd ⟨hlt, hx⟩ hdg
        · rw [nowF_end hlt]; rfl
      clear hdg
      go_wp2_with fail
      refine HN.out.mono ?_
      rintro e w1 ⟨rfl, hsm1⟩
      go_wp2_with fail
      refine (digit_any _ _).mono ?_
      rintro e w1' ⟨rfl, rfl⟩
      rw [hdf]
      have HPS := Lib.hid (I.out.ps.same hsm1)
      have HFR := Lib.hid (I.out.fr.trans (hsm1.fr (X := (· = pb))))
      have HWR := Lib.hid (wrong_any pb s k m 0 w1 hs hk HPS.out)
      have HN2 := Lib.hid (now_any pb s k m 0 w1 hs hk HPS.out)
      clear hsm1
      by_cases hki : k = i
      · subst hki
        have hd0 : d = ⟨#[]⟩ := by
          have h := I.out.len
          rw [Nat.sub_self, ← size_list] at h
          apply ByteArray.ext
          apply Array.ext'
          exact List.eq_nil_of_length_eq_zero h
        subst hd0
        have HX : Hid (digF most (s.data.toList.drop k) k 0 true = (0, wrongF s k, k)) := Lib.hid (by
          unfold wrongF
          by_cases hlt : k < s.size
          · have hx := (now_dig hlt).symm.trans hdf
            rw [drop_of s k hlt, digF_cons, hx, if_pos hlt]; rfl
          · rw [drop_no s k hlt, digF_nil, if_neg hlt])
        clear hdf
        go_wp2_with fail
        refine HWR.out.mono ?_
        rintro e w2 ⟨rfl, hp2, hf2⟩
        have HP2 := Lib.hid hp2
        have HF2 := Lib.hid (HFR.out.trans hf2)
        clear hp2 hf2
        go_wp2
        go_ret
        exact ⟨_, rfl, Lib.hid (by rw [HX.out]; exact ⟨HP2.out, (fun h => absurd h (by show ¬ wrongF s k = 0; unfold wrongF; split <;> omega)), hk, (by show 0 ≤ s.size; omega)⟩), HF2⟩
      · have hdl : d.size = k - i := I.out.len
        have hd1 : 0 < d.size := by omega
        have HDS : Hid (d.size ≤ s.size) := Lib.hid (by omega)
        have hdN : ¬ d.toList = [] := by rw [Lib.toList_data]; intro e; have := size_list d; rw [e] at this; simp at this; omega
        have hdE : d.toList.isEmpty = false := by cases h : d.toList with | nil => exact absurd h hdN | cons a l => rfl
        clear hdl
        have heq := I.out.eq
        rw [show decide (k = i) = false from by simp; omega] at heq
        by_cases hlt : k < s.size
        · have hx := (now_dig hlt).symm.trans hdf
          rw [drop_of s k hlt, digF_cons, hx] at heq
          have HX : Hid (digF most (s.data.toList.drop i) i 0 true = (valFrom 0 d.data.toList, 0, k)) := Lib.hid (heq.trans rfl)
          have HB := Lib.hid (nowF_lt hlt)
          clear heq hdf hx
          go_wp2_with fail
          refine HN2.out.mono ?_
          rintro e w2 ⟨rfl, hsm2⟩
          rw [HB.out]
          have HS2 := Lib.hid hsm2
          have hnn : decide (((s[k].toNat : Nat) : Int) < 0) = false := by simp
          clear hsm2
          go_wp2
          all_goals (first | (exfalso; omega) | skip)
          go_ret
          exact ⟨_, rfl, Lib.hid (by rw [HX.out]; exact ⟨HPS.out.same HS2.out, (fun _ => ⟨I.out.dig, (fun e => hdN (by rw [Lib.toList_data]; exact e)), rfl⟩), hk, HDS.out⟩), Lib.hid (HFR.out.trans HS2.out.fr)⟩
        · rw [drop_no s k hlt, digF_nil] at heq
          have HX := Lib.hid heq
          have HB := Lib.hid (nowF_end hlt)
          have HW10 : Hid (wrongF s k = 10) := Lib.hid (if_neg hlt)
          clear heq hdf
          go_wp2_with fail
          refine HN2.out.mono ?_
          rintro e w2 ⟨rfl, hsm2⟩
          rw [HB.out]
          have HW2 := Lib.hid (wrong_any pb s k m 0 w2 hs hk (HPS.out.same hsm2))
          have HS2 := Lib.hid (HFR.out.trans (hsm2.fr (X := (· = pb))))
          clear hsm2
          go_wp2_with fail
          refine HW2.out.mono ?_
          rintro e w3 ⟨rfl, hp3, hf3⟩
          have HP3 := Lib.hid hp3
          have HF3 := Lib.hid (HS2.out.trans hf3)
          clear hp3 hf3
          go_wp2
          go_ret
          exact ⟨_, rfl, Lib.hid (by rw [HX.out]; have h3 := HP3.out; rw [HW10.out] at h3; exact ⟨h3, (fun h => by cases h), hk, HDS.out⟩), HF3⟩

end Go.Proofs.YtmagcikaepobiaaDoor
