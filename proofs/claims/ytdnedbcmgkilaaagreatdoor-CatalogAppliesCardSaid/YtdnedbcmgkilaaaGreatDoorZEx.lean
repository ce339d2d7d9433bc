/- The document's Apply; CatalogApplies: what the law answers. -/
import Derived.Test.YtdnedbcmgkilaaaGreatDoorZW
import Derived.Test.YtdnedbcmgkilaaaGreatDoorZEal

namespace Go.Proofs.YtdnedbcmgkilaaaGreatDoor.Ca
open Go.RowKit Go.Proofs.YtdnedbcmgkilaaaGreatDoor

set_option maxHeartbeats 6400000 in
set_option maxRecDepth 100000 in
theorem rapply_any (w : World) (a : Option Addr) (cap : Nat) (xs : List Ent) (b : Option Addr) (capc : Nat) (cs : List Chg) (hX : SlE w (Old w) (.slice a xs.length cap) xs) (hC : SlH w (Old w) (.slice b cs.length capc) cs) (hF : ∀ x, x ∈ xs → FitE x) (hFC : ∀ c, c ∈ cs → FitE c.e) (hE : EnvC w) :
    Calls Tryz.prog 11 #[.slice a xs.length cap, .slice b cs.length capc] w (ApplyP (applyC xs cs) w) := by
  have HR := Lib.hid (rright_any w a cap xs hX hF hE)
  have hle := rightC_le xs
  have hcl := hC.len
  obtain ⟨q, HQ⟩ : ∃ q, Hid (q = rightC xs) := ⟨_, Lib.hid rfl⟩
  rw [← HQ.out] at HR hle
  by_cases h0 : q = 0
  · have HQ0 : Hid (rightC xs = 0) := Lib.hid (by rw [← HQ.out]; exact h0)
    have HRG : Hid (Rgt xs) := Lib.hid (rightC_0.1 HQ0.out)
    subst h0
    by_cases h20 : 20 < cs.length
    · have HA := Lib.hid (applyC_long (cs := cs) HQ0.out h20)
      have h20' : (20 : Int) < cs.length := by omega
      clear hX hC hF hFC hE h20
      generalize xs.length = L at *
      generalize cs.length = M at *
      go_enter Tryz.func11, Tryz.ntmps11
      go_wp2_with fail
      refine HR.out.mono ?_
      rintro e w1 ⟨rfl, hb1⟩
      have HB := Lib.hid hb1
      clear hb1
      go_wp2
      go_ret2
      exact ApplyP.no HA.out HB.out
    · have HA := Lib.hid (applyC_go HQ0.out h20)
      have h20' : ¬ (20 : Int) < cs.length := by omega
      have HX := Lib.hid hX
      have HCS : Hid (SlH w (fun k => k < w.heap.size) (.slice b cs.length capc) cs) := Lib.hid hC
      have HFC := Lib.hid hFC
      have HE := Lib.hid hE
      obtain ⟨M, HM⟩ : ∃ M, Hid (M = cs.length) := ⟨_, Lib.hid rfl⟩
      rw [← HM.out] at h20' h20 HCS hcl
      have h20n : M ≤ 20 := by omega
      obtain ⟨L, HL⟩ : ∃ L, Hid (L = xs.length) := ⟨_, Lib.hid rfl⟩
      rw [← HL.out] at HR
      rw [← HM.out, ← HL.out]
      clear hX hC hF hFC hE h20
      go_enter Tryz.func11, Tryz.ntmps11
      go_wp2_with fail
      refine HR.out.mono ?_
      rintro e w1 ⟨rfl, hb1⟩
      have HB1 := Lib.hid hb1
      have HX1 := Lib.hid (HX.out.old hb1)
      clear hb1 HR HX
      go_wp2
      go_loopw [0, 21] (fun st i wr => ∃ k : Nat, k ≤ M ∧ i = .int .i64 k ∧ ∃ (m : List Ent) (a' : Option Addr) (n' c' : Nat), st = .slice a' n' c' ∧ Hid (n' = m.length) ∧ Hid (SlE wr (Old wr) (.slice a' m.length c') m) ∧ Hid (Rgt m) ∧ Hid (foldC m (cs.drop k) = foldC xs cs) ∧ Hid (Below w.heap.size w wr)) (fun _ i _ => M - (intOf i).toNat)
      case atStart => exact ⟨0, Nat.zero_le _, rfl, xs, a, L, cap, rfl, HL, HX1, HRG, Lib.hid (by rw [List.drop_zero]), HB1⟩
      case round =>
        obtain ⟨k, hk, rfl, m, a', n', c', rfl, HN', HSr, HRr, HFr, HBr⟩ := hrel
        by_cases hlt : k < M
        · obtain ⟨c, hc⟩ : ∃ c, cs[k]? = some c := ⟨_, List.getElem?_eq_getElem (by have := HM.out; omega)⟩
          obtain ⟨b2, off2, rfl, -, x0, x1, x2, x3⟩ := (HCS.out.lt HBr.out).get hc
          have hdr : cs.drop k = c :: cs.drop (k + 1) := by
            obtain ⟨h1, h2⟩ := List.getElem?_eq_some_iff.1 hc
            rw [List.drop_eq_getElem_cons h1, h2]
          have HST : Hid (foldC m (cs.drop k) = match oneC m c with | .ok l' => foldC l' (cs.drop (k + 1)) | .error k => .error k) := Lib.hid (by rw [hdr, foldC]; cases oneC m c <;> rfl)
          have hb5 := below1 wr (.cells (chC c) 44)
          have HB5 := Lib.hid (below_trans HBr.out hb5)
          have HONE := Lib.hid (rone_any (wr.alloc (.cells (chC c) 44)) a' c' m c (HSr.out.old hb5) HRr.out (HFC.out c (List.mem_of_getElem? hc)) (HE.out.below HB5.out))
          rw [← HN'.out] at HONE
          have R5 := row_new wr (chC c) 44
          have d0 := R5.cell (i := 0) rfl
          have d1 := R5.cell (i := 1) rfl
          have d2 := R5.cell (i := 2) rfl
          have d3 := R5.cell (i := 3) rfl
          clear hc hdr hb5 R5
          obtain ⟨cd, xl, xk, xp⟩ := c
          simp only at x0 x1 x2 x3 d0 d1 d2 d3 HB5 HONE
          cases ho : oneC m ⟨cd, xl, xk, xp⟩ with
          | ok l' =>
            have HRN := Lib.hid (one_right HRr.out ho)
            have HFN : Hid (foldC l' (cs.drop (k + 1)) = foldC xs cs) := Lib.hid (by rw [← HFr.out, HST.out, ho])
            rw [ho] at HONE
            clear ho HST
            go_wp2_with fail
            refine HONE.out.mono ?_
            rintro e w6 ⟨hb6, a6, c6, rfl, hs6⟩
            have HS6 := Lib.hid hs6
            have HB6 := Lib.hid (below_trans HB5.out hb6)
            obtain ⟨n6, HN6⟩ : ∃ n, Hid (n = l'.length) := ⟨_, Lib.hid rfl⟩
            rw [← HN6.out]
            clear hb6 hs6
            go_wp2
            go_roundw
            case rel => exact ⟨k + 1, by omega, by go_num, l', a6, n6, c6, rfl, HN6, HS6, HRN, HFN, HB6⟩
            case measure => simp [intOf]; omega
          | error q =>
            have HFN : Hid (applyC xs cs = .error q) := Lib.hid (by rw [HA.out, ← HFr.out, HST.out, ho])
            have hqb := ne0 (one_err ho)
            rw [ho] at HONE
            clear ho HST
            go_wp2_with fail
            refine HONE.out.mono ?_
            rintro e w6 ⟨hb6, rfl⟩
            have HB6 := Lib.hid (below_trans HB5.out hb6)
            clear hb6
            go_wp2
            go_ret2
            exact ApplyP.no HFN.out HB6.out
        · have HFN : Hid (applyC xs cs = .ok m) := Lib.hid (by rw [HA.out, ← HFr.out, List.drop_of_length_le (by have := HM.out; omega), foldC])
          go_wp2
          go_ret2
          rw [HN'.out]
          exact ApplyP.yes HFN.out HSr.out HBr.out
  · have HA := Lib.hid (applyC_bad (l := xs) (cs := cs) (by rw [← HQ.out]; exact h0))
    have hqb : ((q : Int) != 0) = true := by rw [bne_iff_ne]; omega
    clear hX hC hF hFC hE h0
    generalize xs.length = L at *
    generalize cs.length = M at *
    go_enter Tryz.func11, Tryz.ntmps11
    go_wp2_with fail
    refine HR.out.mono ?_
    rintro e w1 ⟨rfl, hb1⟩
    have HB := Lib.hid hb1
    clear hb1
    go_wp2
    go_ret2
    exact ApplyP.no (by rw [HA.out, HQ.out]) HB.out

set_option maxHeartbeats 6400000 in
set_option maxRecDepth 100000 in
theorem applies_any (w : World) (a : Option Addr) (cap : Nat) (xs : List Ent) (b : Option Addr) (capc : Nat) (cs : List Chg) (hX : SlE w (Old w) (.slice a xs.length cap) xs) (hC : SlH w (Old w) (.slice b cs.length capc) cs) (hF : ∀ x, x ∈ xs → FitE x) (hFC : ∀ c, c ∈ cs → FitE c.e) (hE : EnvC w) :
    Calls Tryz.prog 3 #[.slice a xs.length cap, .slice b cs.length capc] w fun e w' => e = .returned (.bool true) ∧ Below w.heap.size w w' := by
  have HFW := Lib.hid (few_any w a cap xs hX)
  obtain ⟨L0, HL0⟩ : ∃ L, Hid (L = xs.length) := ⟨_, Lib.hid rfl⟩
  rw [← HL0.out] at HFW ⊢
  have hF' : ∀ x, x ∈ fewF xs → FitE x := fun x hx => hF x (few_mem hx)
  clear hX hF HL0
  generalize fewF xs = ys at *
  obtain ⟨M, HM⟩ : ∃ M, Hid (M = cs.length) := ⟨_, Lib.hid rfl⟩
  obtain ⟨L, HL⟩ : ∃ L, Hid (L = ys.length) := ⟨_, Lib.hid rfl⟩
  have hcl := hC.len
  rw [← HL.out] at HFW
  have HCS : Hid (SlH w (fun k => k < w.heap.size) (.slice b M capc) cs) := Lib.hid (by rw [HM.out]; exact hC)
  have HF := Lib.hid hF'
  have HFC := Lib.hid hFC
  have HE := Lib.hid hE
  rw [← HM.out] at hcl ⊢
  clear hC hF' hFC hE
  have HCW : Hid (∀ W, Below w.heap.size w W → SlH W (Old W) (.slice b cs.length capc) cs) := Lib.hid (fun W hb => by
    rw [← HM.out]
    exact Sl.keep (HCS.out.lt hb) (fun _ _ => rfl) (fun k hk => Nat.lt_of_lt_of_le hk hb.size) (fun _ _ h => h))
  go_enter Tryz.func3, Tryz.ntmps3
  go_wp2_with fail
  refine HFW.out.mono ?_
  rintro e w1 ⟨rfl, rfl, hX⟩
  have HXW : Hid (∀ W, Below w.heap.size w W → SlE W (Old W) (.slice a ys.length cap) ys) := Lib.hid (fun W hb => by rw [← HL.out]; exact hX.old hb)
  have HA1 := Lib.hid (apply_any w a cap ys b capc cs (HXW.out w (Below.refl _ _)) (HCW.out w (Below.refl _ _)) HF.out HFC.out HE.out)
  have HRA := Lib.hid (fun W (hb : Below w.heap.size w W) => rapply_any W a cap ys b capc cs (HXW.out W hb) (HCW.out W hb) HF.out HFC.out (HE.out.below hb))
  have HAV := Lib.hid (fun W (hb : Below w.heap.size w W) => alive_any W (HE.out.below hb))
  have HRT := Lib.hid (fun W (hb : Below w.heap.size w W) => right_any W a cap ys (HXW.out W hb) HF.out (HE.out.below hb))
  have HRR := Lib.hid (fun W (hb : Below w.heap.size w W) => rright_any W a cap ys (HXW.out W hb) HF.out (HE.out.below hb))
  obtain ⟨q, HQ⟩ : ∃ q, Hid (q = rightC ys) := ⟨_, Lib.hid rfl⟩
  obtain ⟨r, HR⟩ : ∃ r, Hid (r = applyC ys cs) := ⟨_, Lib.hid rfl⟩
  rw [← HM.out, ← HL.out, ← HR.out] at HA1
  rw [← HM.out, ← HL.out, ← HR.out] at HRA
  rw [← HL.out, ← HQ.out] at HRT HRR
  clear hX HFW HXW HCW
  cases r with
  | ok al =>
    go_wp2_with fail
    refine HA1.out.mono ?_
    rintro e w2 ⟨hb2, a2, c2, rfl, hs2⟩
    have HS2 := Lib.hid hs2
    obtain ⟨n2, HN2⟩ : ∃ n, Hid (n = al.length) := ⟨_, Lib.hid rfl⟩
    rw [← HN2.out] at HS2 ⊢
    have HB2 := Lib.hid hb2
    have HP2 := Lib.hid (HRA.out w2 hb2)
    clear hs2 hb2 HA1 HRA
    go_wp2_with fail
    refine HP2.out.mono ?_
    rintro e w3 ⟨hb3, a3, c3, rfl, hs3⟩
    have HB3 := Lib.hid (below_trans HB2.out hb3)
    have HS3 := Lib.hid hs3
    have HT3 := Lib.hid (HS2.out.old hb3)
    rw [← HN2.out] at HS3 ⊢
    have HV3 := Lib.hid (HAV.out w3 HB3.out)
    clear hs3 hb3 HP2 HAV
    go_wp2_with fail
    refine HV3.out.mono ?_
    rintro e w4 ⟨rfl, hb4⟩
    have HB4 := Lib.hid (below_trans HB3.out hb4)
    have HS4 := Lib.hid (HS3.out.old hb4)
    have HT4 := Lib.hid (HT3.out.old hb4)
    have HR4 := Lib.hid (HRT.out w4 HB4.out)
    clear hb4 HV3 HRT
    go_wp2_with fail
    refine HR4.out.mono ?_
    rintro e w5 ⟨rfl, hb5⟩
    have HB5 := Lib.hid (below_trans HB4.out hb5)
    have HS5 := Lib.hid (HS4.out.old hb5)
    have HT5 := Lib.hid (HT4.out.old hb5)
    have HR5 := Lib.hid (HRR.out w5 HB5.out)
    clear hb5 HR4 HRR
    go_wp2_with fail
    refine HR5.out.mono ?_
    rintro e w6 ⟨rfl, hb6⟩
    have HB6 := Lib.hid (below_trans HB5.out hb6)
    have hs6 := HS5.out.old hb6
    have ht6 := HT5.out.old hb6
    rw [HN2.out] at hs6 ht6
    have HLK := Lib.hid (like_any w6 a2 a3 c2 c3 al ht6 hs6)
    rw [← HN2.out] at HLK
    clear hb6 hs6 ht6 HR5
    go_wp2_with fail
    refine HLK.out.mono ?_
    rintro e w7 ⟨rfl, hb7⟩
    have HB7 := Lib.hid (below_trans HB6.out hb7)
    clear hb7
    go_wp2
    go_ret
    exact ⟨rfl, HB7.out⟩
  | error k =>
    go_wp2_with fail
    refine HA1.out.mono ?_
    rintro e w2 ⟨hb2, rfl⟩
    have HB2 := Lib.hid hb2
    have HP2 := Lib.hid (HRA.out w2 hb2)
    clear hb2 HA1 HRA
    go_wp2_with fail
    refine HP2.out.mono ?_
    rintro e w3 ⟨hb3, rfl⟩
    have HB3 := Lib.hid (below_trans HB2.out hb3)
    have HV3 := Lib.hid (HAV.out w3 HB3.out)
    clear hb3 HP2 HAV
    go_wp2_with fail
    refine HV3.out.mono ?_
    rintro e w4 ⟨rfl, hb4⟩
    have HB4 := Lib.hid (below_trans HB3.out hb4)
    have HR4 := Lib.hid (HRT.out w4 HB4.out)
    clear hb4 HV3 HRT
    go_wp2_with fail
    refine HR4.out.mono ?_
    rintro e w5 ⟨rfl, hb5⟩
    have HB5 := Lib.hid (below_trans HB4.out hb5)
    have HR5 := Lib.hid (HRR.out w5 HB5.out)
    clear hb5 HR4 HRR
    go_wp2_with fail
    refine HR5.out.mono ?_
    rintro e w6 ⟨rfl, hb6⟩
    have HB6 := Lib.hid (below_trans HB5.out hb6)
    have HLK := Lib.hid (like_any w6 none none 0 0 [] (Sl.nil _ _ _ _) (Sl.nil _ _ _ _))
    rw [List.length_nil] at HLK
    clear hb6 HR5
    go_wp2_with fail
    refine HLK.out.mono ?_
    rintro e w7 ⟨rfl, hb7⟩
    have HB7 := Lib.hid (below_trans HB6.out hb7)
    clear hb7
    go_wp2
    go_ret
    exact ⟨rfl, HB7.out⟩
end Go.Proofs.YtdnedbcmgkilaaaGreatDoor.Ca
