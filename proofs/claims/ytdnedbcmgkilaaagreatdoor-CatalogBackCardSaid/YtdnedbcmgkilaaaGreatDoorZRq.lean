/- The document's Right: how many parts, how deep. -/
import Derived.Test.YtdnedbcmgkilaaaGreatDoorZPa

namespace Go.Proofs.YtdnedbcmgkilaaaGreatDoor.Dr
open Go.RowKit Go.Proofs.YtdnedbcmgkilaaaGreatDoor

theorem cnt_take {xs : List Pt} {k : Nat} {x : Pt} (h : xs[k]? = some x) : cntPs (xs.take (k + 1)) = cntPs (xs.take k) + 1 + cntCs x.cs := by rw [take_one h, cntPs_snoc, cntP_eq]; omega
theorem cnt_le (xs : List Pt) (k : Nat) : cntPs (xs.take k) ≤ cntPs xs := by
  rw [cntPs_subs, cntPs_subs xs, List.length_take]
  have := subs_le xs k
  omega
def ManyOK (n : Nat) : Prop := ∀ (w : World) (a : Option Addr) (cap m : Nat) (xs : List Pt), SlP w (Old w) n (.slice a xs.length cap) xs → 1 ≤ m → m ≤ 1001 → cntPs xs ≤ 2000 →
  Calls Tryz.prog 130 #[.slice a xs.length cap, .int .i64 m] w fun e w' => e = .returned (.int .i64 (min (cntPs xs) m : Nat)) ∧ Below w.heap.size w w'

set_option maxHeartbeats 3200000 in
set_option maxRecDepth 100000 in
theorem many_of (n : Nat) (HV : ∀ q, q < n → ManyOK q) : ManyOK n := by
  intro w a cap m xs hxs hm1 hm2 hcn
  have hlc := len_cnt xs
  obtain ⟨L, HL⟩ : ∃ L, Hid (L = xs.length) := ⟨_, Lib.hid rfl⟩
  rw [← HL.out] at hxs hlc ⊢
  have hL2 : L ≤ 2000 := by omega
  have HX := Lib.hid hxs
  have HVV := Lib.hid HV
  have HCN := Lib.hid hcn
  have HM1 := Lib.hid hm1
  have HLC := Lib.hid hlc
  clear hxs HV hcn hm1 hlc
  go_enter Tryz.func130, Tryz.ntmps130
  go_wp2
  go_loopw [5, 12] (fun v i wr => ∃ k N : Nat, k ≤ L ∧ i = .int .i64 k ∧ v = .int .i64 N ∧ N < m ∧ Hid (N = min (cntPs (xs.take k)) m) ∧ Hid (Below w.heap.size w wr)) (fun _ i _ => L - (intOf i).toNat)
  case atStart => exact ⟨0, 0, Nat.zero_le _, rfl, rfl, HM1.out, Lib.hid (by simp [cntPs]), Lib.hid (Below.refl _ _)⟩
  case round =>
    obtain ⟨k, N, hk, rfl, rfl, hN, HN, HB⟩ := hrel
    by_cases hlt : k < L
    · obtain ⟨x, hx⟩ : ∃ x, xs[k]? = some x := ⟨_, List.getElem?_eq_getElem (by have := HL.out; omega)⟩
      obtain ⟨b, off, rfl, -, hat⟩ := (HX.out.old HB.out).at_ hx
      obtain ⟨h0, h1, h2, q, a1, p1, hnq, h3, hcs⟩ := hat.p
      have HCT := Lib.hid (cnt_take hx)
      have HCL := Lib.hid (cnt_le xs (k + 1))
      obtain ⟨pk, pt, pn, cs⟩ := x
      simp only [Pt.k, Pt.t, Pt.n, Pt.cs] at h0 h1 h2 h3 hcs HCT
      have hL1 := hcs.lenle
      obtain ⟨L1, HL1⟩ : ∃ L1, Hid (L1 = cs.length) := ⟨_, Lib.hid rfl⟩
      rw [← HL1.out] at h3 hcs hL1
      have R := row_new wr #[.int .i64 pk, .string pt, .string pn, .slice a1 L1 p1] 141
      have g3 := R.cell (i := 3) rfl
      have HB1 : Hid (Below w.heap.size w (wr.alloc (.cells #[.int .i64 pk, .string pt, .string pn, .slice a1 L1 p1] 141))) := Lib.hid (below_trans HB.out (below1 _ _))
      have HC1 : Hid (SlC (wr.alloc (.cells #[.int .i64 pk, .string pt, .string pn, .slice a1 L1 p1] 141)) (Old (wr.alloc (.cells #[.int .i64 pk, .string pt, .string pn, .slice a1 L1 p1] 141))) q (.slice a1 L1 p1) cs) := Lib.hid (hcs.old (below1 _ _))
      have HNQ := Lib.hid hnq
      clear R hat hcs hx hnq HX
      go_wp2
      generalize wr.alloc (.cells #[.int .i64 pk, .string pt, .string pn, .slice a1 L1 p1] 141) = w3 at *
      clear g3 h0 h1 h2 h3 HB
      go_loopw [5, 21] (fun v i wr => ∃ j N : Nat, j ≤ L1 ∧ i = .int .i64 j ∧ v = .int .i64 N ∧ N ≤ m ∧ Hid (N = min (cntPs (xs.take k) + 1 + cntCs (cs.take j)) m) ∧ Hid (Below w.heap.size w wr) ∧ Hid (Below w3.heap.size w3 wr)) (fun _ i _ => L1 - (intOf i).toNat)
      case atStart => exact ⟨0, N + 1, Nat.zero_le _, by go_num, by go_num, by omega, Lib.hid (by rw [List.take_zero, cntCs]; have := HN.out; omega), HB1, Lib.hid (Below.refl _ _)⟩
      case round =>
        obtain ⟨j, N2, hj, rfl, rfl, hN2, HN2, HB2, HB3⟩ := hrel
        clear HB1 HN
        by_cases hlj : j < L1
        · obtain ⟨y, hy⟩ : ∃ y, cs[j]? = some y := ⟨_, List.getElem?_eq_getElem (by have := HL1.out; omega)⟩
          obtain ⟨b2, off2, rfl, hb2, hat2⟩ := (HC1.out.old HB3.out).at_ hy
          obtain ⟨i0, a3, p3, i1, hks⟩ := hat2.c
          have HKA := Lib.hid (kids_at hy)
          have HCC := Lib.hid (cntCs_take hy)
          obtain ⟨key, kids⟩ := y
          simp only [Cs.key, Cs.kids] at i0 i1 hks HKA HCC
          have hkc := len_cnt kids
          have HCK : Hid (cntPs kids ≤ 2000) := Lib.hid (by
            have h1 := HKA.out
            have h2 := HCT.out
            have h3 := HCL.out
            have h4 := HCN.out
            omega)
          obtain ⟨L3, HL3⟩ : ∃ L3, Hid (L3 = kids.length) := ⟨_, Lib.hid rfl⟩
          have hks2 := hks.old (below1 _ (.cells #[.string key, .slice a3 kids.length p3] 185))
          rw [← HL3.out] at i1 hks2
          have R := row_new wr #[.string key, .slice a3 L3 p3] 185
          have g0 := R.cell (i := 0) rfl
          have g1 := R.cell (i := 1) rfl
          have HB4 : Hid (Below w.heap.size w (wr.alloc (.cells #[.string key, .slice a3 L3 p3] 185))) := Lib.hid (below_trans HB2.out (below1 _ _))
          have HB5 : Hid (Below w3.heap.size w3 (wr.alloc (.cells #[.string key, .slice a3 L3 p3] 185))) := Lib.hid (below_trans HB3.out (below1 _ _))
          have HKS := Lib.hid hks2
          clear R hat2 hks hks2 hy hb2 hkc HB2 HB3
          by_cases hfull : N2 < m
          · obtain ⟨r, HR⟩ : ∃ r, Hid (r = m - N2) := ⟨_, Lib.hid rfl⟩
            have hri : (m : Int) - (N2 : Int) = (r : Int) := by have := HR.out; omega
            have HCALL := Lib.hid (HVV.out q (by have := HNQ.out; omega) (wr.alloc (.cells #[.string key, .slice a3 L3 p3] 185)) a3 p3 r kids (by rw [← HL3.out]; exact HKS.out) (by have := HR.out; omega) (by have := HR.out; omega) HCK.out)
            rw [← HL3.out] at HCALL
            obtain ⟨N3, HN3⟩ : ∃ N3, Hid (N3 = min (cntPs kids) r) := ⟨_, Lib.hid rfl⟩
            rw [← HN3.out] at HCALL
            have hN3 : N2 + N3 ≤ m := by have h1 := HN3.out; have h2 := HR.out; omega
            have HN4 : Hid (N2 + N3 = min (cntPs (xs.take k) + 1 + cntCs (cs.take (j + 1))) m) := Lib.hid (by
              have h1 := HN3.out; have h2 := HR.out; have h3 := HN2.out; have h4 := HCC.out; omega)
            go_wp2_with fail
            generalize wr.alloc (.cells #[.string key, .slice a3 L3 p3] 185) = w4 at *
            refine HCALL.out.mono ?_
            rintro e w5 ⟨rfl, hb5⟩
            have HB6 := Lib.hid (below_trans HB4.out hb5)
            have HB7 := Lib.hid (below_trans HB5.out hb5)
            clear hb5 g0 g1 HCALL HKS
            go_wp2
            go_roundw
            case rel => exact ⟨j + 1, N2 + N3, by omega, by go_num, by go_num, hN3, HN4, HB6, HB7⟩
            case measure => simp [intOf]; omega
          · have HN4 : Hid (N2 = min (cntPs (xs.take k) + 1 + cntCs (cs.take (j + 1))) m) := Lib.hid (by
              have h3 := HN2.out; have h4 := HCC.out; omega)
            go_wp2
            go_roundw
            case rel => exact ⟨j + 1, N2, by omega, by go_num, rfl, hN2, HN4, HB4, HB5⟩
            case measure => simp [intOf]; omega
        · have HN5 : Hid (N2 = min (cntPs (xs.take (k + 1))) m) := Lib.hid (by
            have h1 := HN2.out
            have h2 : cs.take j = cs := List.take_of_length_le (by have := HL1.out; omega)
            rw [h2] at h1
            rw [HCT.out]; exact h1)
          by_cases hfull : N2 < m
          · go_wp2
            go_roundw
            case rel => exact ⟨k + 1, N2, by omega, by go_num, rfl, hfull, HN5, HB2⟩
            case measure => simp [intOf]; omega
          · have HF : Hid (min (cntPs xs) m = m) := Lib.hid (by have h1 := HN5.out; have h2 := HCL.out; omega)
            go_wp2
            go_ret
            exact ⟨ret_int (by have := HF.out; omega), HB2.out⟩
    · have HF : Hid (min (cntPs xs) m = N) := Lib.hid (by have h1 := HN.out; rw [List.take_of_length_le (by have := HL.out; omega)] at h1; exact h1.symm)
      go_wp2
      go_ret
      exact ⟨ret_int (by have := HF.out; omega), HB.out⟩
theorem many_any : ∀ n, ManyOK n := fun n => by
  induction n using Nat.strongRecOn with
  | _ n ih => exact many_of n ih

theorem dpPs_app : ∀ xs ys : List Pt, dpPs (xs ++ ys) = max (dpPs xs) (dpPs ys)
  | [], ys => by simp [dpPs]
  | x :: r, ys => by rw [List.cons_append, dpPs, dpPs, dpPs_app r ys]; omega
theorem dpCs_app : ∀ xs ys : List Cs, dpCs (xs ++ ys) = max (dpCs xs) (dpCs ys)
  | [], ys => by simp [dpCs]
  | x :: r, ys => by rw [List.cons_append, dpCs, dpCs, dpCs_app r ys]; omega
theorem dp_le (xs : List Pt) (k : Nat) : dpPs (xs.take k) ≤ dpPs xs := by
  have h := dpPs_app (xs.take k) (xs.drop k)
  rw [List.take_append_drop] at h
  omega
theorem dpC_le (xs : List Cs) (k : Nat) : dpCs (xs.take k) ≤ dpCs xs := by
  have h := dpCs_app (xs.take k) (xs.drop k)
  rw [List.take_append_drop] at h
  omega
def DeepOK (n : Nat) : Prop := ∀ (w : World) (a : Option Addr) (cap m : Nat) (xs : List Pt), SlP w (Old w) n (.slice a xs.length cap) xs → dpPs xs < m → m ≤ 33 →
  Calls Tryz.prog 131 #[.slice a xs.length cap, .int .i64 m] w fun e w' => e = .returned (.int .i64 (dpPs xs : Nat)) ∧ Below w.heap.size w w'

set_option maxHeartbeats 3200000 in
set_option maxRecDepth 100000 in
theorem deep_of (n : Nat) (HV : ∀ q, q < n → DeepOK q) : DeepOK n := by
  intro w a cap m xs hxs hm1 hm2
  have hlc := hxs.lenle
  obtain ⟨L, HL⟩ : ∃ L, Hid (L = xs.length) := ⟨_, Lib.hid rfl⟩
  rw [← HL.out] at hxs hlc ⊢
  have HX := Lib.hid hxs
  have HVV := Lib.hid HV
  have HM1 := Lib.hid hm1
  clear hxs HV hm1
  go_enter Tryz.func131, Tryz.ntmps131
  go_wp2
  go_loopw [5, 13] (fun v i wr => ∃ k N : Nat, k ≤ L ∧ i = .int .i64 k ∧ v = .int .i64 N ∧ Hid (N = dpPs (xs.take k)) ∧ Hid (Below w.heap.size w wr)) (fun _ i _ => L - (intOf i).toNat)
  case atStart => exact ⟨0, 0, Nat.zero_le _, rfl, rfl, Lib.hid (by simp [dpPs]), Lib.hid (Below.refl _ _)⟩
  case round =>
    obtain ⟨k, N, hk, rfl, rfl, HN, HB⟩ := hrel
    by_cases hlt : k < L
    · obtain ⟨x, hx⟩ : ∃ x, xs[k]? = some x := ⟨_, List.getElem?_eq_getElem (by have := HL.out; omega)⟩
      obtain ⟨b, off, rfl, -, hat⟩ := (HX.out.old HB.out).at_ hx
      obtain ⟨h0, h1, h2, q, a1, p1, hnq, h3, hcs⟩ := hat.p
      have HCT := Lib.hid (dpPs_take hx)
      have HCL := Lib.hid (dp_le xs (k + 1))
      obtain ⟨pk, pt, pn, cs⟩ := x
      simp only [Pt.k, Pt.t, Pt.n, Pt.cs] at h0 h1 h2 h3 hcs HCT
      have hL1 := hcs.lenle
      obtain ⟨L1, HL1⟩ : ∃ L1, Hid (L1 = cs.length) := ⟨_, Lib.hid rfl⟩
      rw [← HL1.out] at h3 hcs hL1
      have R := row_new wr #[.int .i64 pk, .string pt, .string pn, .slice a1 L1 p1] 141
      have g3 := R.cell (i := 3) rfl
      have HB1 : Hid (Below w.heap.size w (wr.alloc (.cells #[.int .i64 pk, .string pt, .string pn, .slice a1 L1 p1] 141))) := Lib.hid (below_trans HB.out (below1 _ _))
      have HC1 : Hid (SlC (wr.alloc (.cells #[.int .i64 pk, .string pt, .string pn, .slice a1 L1 p1] 141)) (Old (wr.alloc (.cells #[.int .i64 pk, .string pt, .string pn, .slice a1 L1 p1] 141))) q (.slice a1 L1 p1) cs) := Lib.hid (hcs.old (below1 _ _))
      have HNQ := Lib.hid hnq
      clear R hat hcs hx hnq HX
      go_wp2
      generalize wr.alloc (.cells #[.int .i64 pk, .string pt, .string pn, .slice a1 L1 p1] 141) = w3 at *
      clear g3 h0 h1 h2 h3 HB
      go_loopw [5, 20] (fun v i wr => ∃ j N : Nat, j ≤ L1 ∧ i = .int .i64 j ∧ v = .int .i64 N ∧ Hid (N = max (dpPs (xs.take k)) (dpCs (cs.take j))) ∧ Hid (Below w.heap.size w wr) ∧ Hid (Below w3.heap.size w3 wr)) (fun _ i _ => L1 - (intOf i).toNat)
      case atStart => exact ⟨0, N, Nat.zero_le _, by go_num, rfl, Lib.hid (by rw [List.take_zero, dpCs]; have := HN.out; omega), HB1, Lib.hid (Below.refl _ _)⟩
      case round =>
        obtain ⟨j, N2, hj, rfl, rfl, HN2, HB2, HB3⟩ := hrel
        clear HB1 HN
        by_cases hlj : j < L1
        · obtain ⟨y, hy⟩ : ∃ y, cs[j]? = some y := ⟨_, List.getElem?_eq_getElem (by have := HL1.out; omega)⟩
          obtain ⟨b2, off2, rfl, hb2, hat2⟩ := (HC1.out.old HB3.out).at_ hy
          obtain ⟨i0, a3, p3, i1, hks⟩ := hat2.c
          have HCC := Lib.hid (dpCs_take hy)
          have HCC2 := Lib.hid (dpC_le cs (j + 1))
          obtain ⟨key, kids⟩ := y
          simp only [Cs.key, Cs.kids] at i0 i1 hks HCC
          have HCK : Hid (dpPs kids + 1 < m) := Lib.hid (by
            have h1 := HCC2.out
            have h2 := HCC.out
            have h3 := HCT.out
            have h4 := HCL.out
            have h5 := HM1.out
            omega)
          obtain ⟨L3, HL3⟩ : ∃ L3, Hid (L3 = kids.length) := ⟨_, Lib.hid rfl⟩
          have hks2 := hks.old (below1 _ (.cells #[.string key, .slice a3 kids.length p3] 185))
          rw [← HL3.out] at i1 hks2
          have R := row_new wr #[.string key, .slice a3 L3 p3] 185
          have g0 := R.cell (i := 0) rfl
          have g1 := R.cell (i := 1) rfl
          have HB4 : Hid (Below w.heap.size w (wr.alloc (.cells #[.string key, .slice a3 L3 p3] 185))) := Lib.hid (below_trans HB2.out (below1 _ _))
          have HB5 : Hid (Below w3.heap.size w3 (wr.alloc (.cells #[.string key, .slice a3 L3 p3] 185))) := Lib.hid (below_trans HB3.out (below1 _ _))
          have HKS := Lib.hid hks2
          clear R hat2 hks hks2 hy hb2 HB2 HB3
          obtain ⟨r, HR⟩ : ∃ r, Hid (r = m - 1) := ⟨_, Lib.hid rfl⟩
          have hm3 : 1 < m := by have := HCK.out; omega
          have hri : (m : Int) - 1 = (r : Int) := by have := HR.out; omega
          have HCALL := Lib.hid (HVV.out q (by have := HNQ.out; omega) (wr.alloc (.cells #[.string key, .slice a3 L3 p3] 185)) a3 p3 r kids (by rw [← HL3.out]; exact HKS.out) (by have h1 := HR.out; have h2 := HCK.out; omega) (by have := HR.out; omega))
          rw [← HL3.out] at HCALL
          obtain ⟨N3, HN3⟩ : ∃ N3, Hid (N3 = dpPs kids) := ⟨_, Lib.hid rfl⟩
          rw [← HN3.out] at HCALL
          have hN3 : N3 ≤ 33 := by have h1 := HN3.out; have h2 := HCK.out; omega
          obtain ⟨D, HD⟩ : ∃ D, Hid (D = N3 + 1) := ⟨_, Lib.hid rfl⟩
          have hdi : 1 + (N3 : Int) = (D : Int) := by have := HD.out; omega
          by_cases hup : N2 < D
          · have HN4 : Hid (D = max (dpPs (xs.take k)) (dpCs (cs.take (j + 1)))) := Lib.hid (by
              have h1 := HN3.out; have h2 := HD.out; have h3 := HN2.out; have h4 := HCC.out; omega)
            go_wp2_with fail
            generalize wr.alloc (.cells #[.string key, .slice a3 L3 p3] 185) = w4 at *
            refine HCALL.out.mono ?_
            rintro e w5 ⟨rfl, hb5⟩
            have HB6 := Lib.hid (below_trans HB4.out hb5)
            have HB7 := Lib.hid (below_trans HB5.out hb5)
            clear hb5 g0 g1 HCALL HKS
            go_wp2
            go_roundw
            case rel => exact ⟨j + 1, D, by omega, by go_num, rfl, HN4, HB6, HB7⟩
            case measure => simp [intOf]; omega
          · have HN4 : Hid (N2 = max (dpPs (xs.take k)) (dpCs (cs.take (j + 1)))) := Lib.hid (by
              have h1 := HN3.out; have h2 := HD.out; have h3 := HN2.out; have h4 := HCC.out; omega)
            go_wp2_with fail
            generalize wr.alloc (.cells #[.string key, .slice a3 L3 p3] 185) = w4 at *
            refine HCALL.out.mono ?_
            rintro e w5 ⟨rfl, hb5⟩
            have HB6 := Lib.hid (below_trans HB4.out hb5)
            have HB7 := Lib.hid (below_trans HB5.out hb5)
            clear hb5 g0 g1 HCALL HKS
            go_wp2
            go_roundw
            case rel => exact ⟨j + 1, N2, by omega, by go_num, rfl, HN4, HB6, HB7⟩
            case measure => simp [intOf]; omega
        · have HN5 : Hid (N2 = dpPs (xs.take (k + 1))) := Lib.hid (by
            have h1 := HN2.out
            have h2 : cs.take j = cs := List.take_of_length_le (by have := HL1.out; omega)
            rw [h2] at h1
            rw [HCT.out]; exact h1)
          go_wp2
          go_roundw
          case rel => exact ⟨k + 1, N2, by omega, by go_num, rfl, HN5, HB2⟩
          case measure => simp [intOf]; omega
    · have HF : Hid (dpPs xs = N) := Lib.hid (by have h1 := HN.out; rw [List.take_of_length_le (by have := HL.out; omega)] at h1; exact h1.symm)
      go_wp2
      go_ret
      exact ⟨ret_int (by have := HF.out; omega), HB.out⟩
theorem deep_any : ∀ n, DeepOK n := fun n => by
  induction n using Nat.strongRecOn with
  | _ n ih => exact deep_of n ih
end Go.Proofs.YtdnedbcmgkilaaaGreatDoor.Dr
