/- The law's alive; CatalogSteps: what the law answers. -/
import Derived.Test.YtdnedbcmgkilaaaGreatDoorZO

namespace Go.Proofs.YtdnedbcmgkilaaaGreatDoor.Ca
open Go.RowKit Go.Proofs.YtdnedbcmgkilaaaGreatDoor

abbrev aE : Ent := ⟨⟨#[]⟩, ⟨#[97]⟩, ⟨#[]⟩⟩
theorem may_a : mayB aE = true := by decide +kernel
theorem apply_a : applyC [] [⟨false, aE⟩] = .ok [aE] := by
  have h0 : Rgt [] := ⟨by simp, (fun e h => by cases h), List.Pairwise.nil⟩
  rw [apply_one h0]
  exact one_put (l := []) (c := ⟨false, aE⟩) rfl may_a (by decide)
theorem one_ch (w : World) (c : Chg) : SlH (w.alloc (.cells (chC c) 44)) (Old (w.alloc (.cells (chC c) 44))) (.slice (some ⟨w.heap.size, 0, none⟩) 1 1) [c] :=
  ⟨_, _, rfl, Nat.le_refl _, by simp, fun _ => ⟨w.heap.size, 0, rfl, by simp, fun j y hj => by
    cases j with
    | zero =>
      obtain rfl : c = y := by simpa using hj
      exact ⟨_, rfl, rfl, fun i u hu => by have := (row_new w (chC c) 44).cell hu; simpa using this⟩
    | succ j => simp at hj⟩⟩
theorem fit_a : FitE aE := ⟨by decide, by decide, by decide⟩

set_option maxHeartbeats 1600000 in
theorem alive_any (w : World) (hE : EnvC w) : Calls Tryz.prog 12 #[] w fun e w' => e = .returned (.bool true) ∧ Below w.heap.size w w' := by
  have HB := Lib.hid (below1 w (.cells (chC ⟨false, aE⟩) 44))
  have h := apply_any (w.alloc (.cells (chC ⟨false, aE⟩) 44)) none 0 [] (some ⟨w.heap.size, 0, none⟩) 1 [⟨false, aE⟩] (Sl.nil _ _ _ _) (one_ch w _) ((fun x hx => by cases hx)) (fun c hc => by
    obtain rfl : c = ⟨false, aE⟩ := by simpa using hc
    exact fit_a) (hE.below HB.out)
  rw [apply_a] at h
  have HA := Lib.hid h
  clear h hE
  go_enter Tryz.func12, Tryz.ntmps12
  go_wp2_with fail
  refine HA.out.mono ?_
  rintro e w1 ⟨hb1, a1, c1, rfl, -⟩
  have HB1 := Lib.hid (below_trans HB.out hb1)
  clear hb1
  go_wp2
  go_ret
  exact ⟨rfl, HB1.out⟩

theorem apply_err {l : List Ent} {cs : List Chg} (h : ¬ Rgt l ∨ 20 < cs.length) : ∃ k, applyC l cs = .error k ∧ k ≠ 0 := by
  by_cases h0 : rightC l = 0
  · rcases h with h | h
    · exact absurd (rightC_0.1 h0) h
    · exact ⟨2, applyC_long h0 h, by decide⟩
  · exact ⟨_, applyC_bad h0, h0⟩
theorem one_err {l : List Ent} {c : Chg} {k : Nat} (h : oneC l c = .error k) : k ≠ 0 := by
  intro h0; subst h0
  unfold oneC at h
  split at h
  · split at h
    · cases h
    · split at h <;> cases h
  · split at h
    · cases h
    · split at h <;> cases h
theorem one_mem {l l' : List Ent} {c : Chg} (h : oneC l c = .ok l') : ∀ x, x ∈ l' → x ∈ l ∨ x = c.e := fun x hx => by
  unfold oneC at h
  split at h
  · split at h
    · cases h
    · split at h
      · cases h
      · cases h; exact .inl (drop_mem.1 hx).1
  · split at h
    · cases h
    · split at h
      · cases h
      · cases h
        rcases put_mem.1 hx with h | h
        · exact .inr h
        · exact .inl h.1
theorem ne0 {k : Nat} (h : k ≠ 0) : ((k : Int) != 0) = true := by rw [bne_iff_ne]; omega

set_option maxHeartbeats 6400000 in
set_option maxRecDepth 100000 in
theorem steps_any (w : World) (a : Option Addr) (cap : Nat) (xs : List Ent) (b : Option Addr) (capc : Nat) (cs : List Chg) (hX : SlE w (Old w) (.slice a xs.length cap) xs) (hC : SlH w (Old w) (.slice b cs.length capc) cs) (hF : ∀ x, x ∈ xs → FitE x) (hFC : ∀ c, c ∈ cs → FitE c.e) (hE : EnvC w) :
    Calls Tryz.prog 7 #[.slice a xs.length cap, .slice b cs.length capc] w fun e w' => e = .returned (.bool true) ∧ Below w.heap.size w w' := by
  have HFW := Lib.hid (few_any w a cap xs hX)
  obtain ⟨L0, HL0⟩ : ∃ L, Hid (L = xs.length) := ⟨_, Lib.hid rfl⟩
  rw [← HL0.out] at HFW ⊢
  have hF' : ∀ x, x ∈ fewF xs → FitE x := fun x hx => hF x (few_mem hx)
  clear hX hF HL0
  generalize fewF xs = ys at *
  obtain ⟨M, HM⟩ : ∃ M, Hid (M = cs.length) := ⟨_, Lib.hid rfl⟩
  obtain ⟨L, HL⟩ : ∃ L, Hid (L = ys.length) := ⟨_, Lib.hid rfl⟩
  have hcl := hC.len
  rw [← HL.out] at HFW
  have HCS : Hid (SlH w (fun k => k < w.heap.size) (.slice b M capc) cs) := Lib.hid (by rw [HM.out]; exact hC)
  have HF := Lib.hid hF'
  have HFC := Lib.hid hFC
  have HE := Lib.hid hE
  rw [← HM.out] at hcl ⊢
  clear hC hF' hFC hE
  have HAP : Hid (∀ W (m : List Ent) a' c', Below w.heap.size w W → SlE W (Old W) (.slice a' m.length c') m → (∀ x, x ∈ m → FitE x) → Calls Tryz.prog 10 #[.slice a' m.length c', .slice b M capc] W (ApplyP (applyC m cs) W)) := Lib.hid (fun W m a' c' hb hs hf => by
    rw [HM.out]
    have h9 : SlH W (Old W) (.slice b cs.length capc) cs := by
      rw [← HM.out]
      exact Sl.keep (HCS.out.lt hb) (fun _ _ => rfl) (fun k hk => Nat.lt_of_lt_of_le hk hb.size) (fun _ _ h => h)
    exact apply_any W a' c' m b capc cs hs h9 hf HFC.out (HE.out.below hb))
  have HAV : Hid (∀ W, Below w.heap.size w W → Calls Tryz.prog 12 #[] W fun e w' => e = .returned (.bool true) ∧ Below W.heap.size W w') := Lib.hid (fun W hb => alive_any W (HE.out.below hb))
  go_enter Tryz.func7, Tryz.ntmps7
  go_wp2_with fail
  refine HFW.out.mono ?_
  rintro e w1 ⟨rfl, rfl, hX⟩
  have HX := Lib.hid hX
  have HA1 := Lib.hid (HAP.out w ys a cap (Below.refl _ _) (by rw [← HL.out]; exact hX) HF.out)
  rw [← HL.out] at HA1
  have HRT := Lib.hid (fun W (hb : Below w.heap.size w W) => right_any W a cap ys (by rw [← HL.out]; exact hX.old hb) HF.out (HE.out.below hb))
  rw [← HL.out] at HRT
  clear hX HFW
  by_cases hbad : ¬ Rgt ys ∨ 20 < M
  · obtain ⟨k, hk, hk0⟩ := apply_err (l := ys) (cs := cs) (by rw [← HM.out]; exact hbad)
    have hkb := ne0 hk0
    rw [hk] at HA1
    have HRZ : Hid (M ≤ 20 → rightC ys ≠ 0) := Lib.hid (fun h h0 => by
      rcases hbad with h1 | h1
      · exact h1 (rightC_0.1 h0)
      · omega)
    obtain ⟨q, HQ⟩ : ∃ q, Hid (q = rightC ys) := ⟨_, Lib.hid rfl⟩
    rw [← HQ.out] at HRT HRZ
    clear hk hk0 hbad
    go_wp2_with fail
    refine HA1.out.mono ?_
    rintro e w2 ⟨hb2, rfl⟩
    have HB2 := Lib.hid hb2
    have HR2 := Lib.hid (HRT.out w2 hb2)
    have HV2 := Lib.hid (HAV.out w2 hb2)
    clear hb2 HA1
    by_cases h20 : 20 < M
    · have h20' : (20 : Int) < M := by omega
      clear h20
      go_wp2_with fail
      refine HV2.out.mono ?_
      rintro e w3 ⟨rfl, hb3⟩
      have HB3 := Lib.hid (below_trans HB2.out hb3)
      clear hb3
      go_wp2
      go_ret
      exact ⟨rfl, HB3.out⟩
    · have h20' : ¬ (20 : Int) < M := by omega
      have hq0 : ((q : Int) != 0) = true := ne0 (HRZ.out (by omega))
      clear h20
      go_wp2_with fail
      refine HR2.out.mono ?_
      rintro e w3 ⟨rfl, hb3⟩
      have HB3 := Lib.hid (below_trans HB2.out hb3)
      have HV3 := Lib.hid (HAV.out w3 HB3.out)
      clear hb3 HV2
      go_wp2_with fail
      refine HV3.out.mono ?_
      rintro e w4 ⟨rfl, hb4⟩
      have HB4 := Lib.hid (below_trans HB3.out hb4)
      clear hb4
      go_wp2
      go_ret
      exact ⟨rfl, HB4.out⟩
  · have HRG : Hid (Rgt ys) := Lib.hid (Classical.not_not.1 (fun h => hbad (.inl h)))
    have h20 : M ≤ 20 := Nat.le_of_not_lt (fun h => hbad (.inr h))
    have h20' : ¬ (20 : Int) < M := by omega
    have HAF : Hid (applyC ys cs = foldC ys cs) := Lib.hid (apply_fold HRG.out (by rw [← HM.out]; exact h20))
    have HR0 : Hid (rightC ys = 0) := Lib.hid (rightC_0.2 HRG.out)
    rw [HR0.out] at HRT
    rw [HAF.out] at HA1
    clear hbad
    have HST : Hid (∀ W (m : List Ent) a' c' (c : Chg), Below w.heap.size w W → SlE W (Old W) (.slice a' m.length c') m → Rgt m → (∀ x, x ∈ m → FitE x) → FitE c.e → Calls Tryz.prog 10 #[.slice a' m.length c', .slice (some ⟨W.heap.size, 0, none⟩) 1 1] (W.alloc (.cells (chC c) 44)) (ApplyP (oneC m c) (W.alloc (.cells (chC c) 44)))) := Lib.hid (fun W m a' c' c hb hs hr hf hfc => by
      have h := apply_any (W.alloc (.cells (chC c) 44)) a' c' m (some ⟨W.heap.size, 0, none⟩) 1 [c] (hs.old (below1 _ _)) (one_ch W c) hf (fun d hd => by
        obtain rfl : d = c := by simpa using hd
        exact hfc) (HE.out.below (below_trans hb (below1 _ _)))
      rw [apply_one hr] at h
      exact h)
    obtain ⟨r, HR⟩ : ∃ r, Hid (r = foldC ys cs) := ⟨_, Lib.hid rfl⟩
    rw [← HR.out] at HA1
    cases r with
    | ok al =>
      go_wp2_with fail
      refine HA1.out.mono ?_
      rintro e w2 ⟨hb2, a2, c2, rfl, hs2⟩
      have HS2 := Lib.hid hs2
      obtain ⟨n2, HN2⟩ : ∃ n, Hid (n = al.length) := ⟨_, Lib.hid rfl⟩
      rw [← HN2.out] at HS2 ⊢
      clear hs2
      have HB2 := Lib.hid hb2
      have HR2 := Lib.hid (HRT.out w2 hb2)
      clear hb2 HA1
      go_wp2_with fail
      refine HR2.out.mono ?_
      rintro e w3 ⟨rfl, hb3⟩
      have HS3 := Lib.hid (HS2.out.old hb3)
      have HB3 := Lib.hid (below_trans HB2.out hb3)
      have HV3 := Lib.hid (HAV.out w3 HB3.out)
      clear hb3 HR2
      go_wp2_with fail
      refine HV3.out.mono ?_
      rintro e w4 ⟨rfl, hb4⟩
      have HS4 : Hid (SlE w4 (fun k => k < w4.heap.size) (.slice a2 n2 c2) al) := Lib.hid (HS3.out.old hb4)
      have HB4 := Lib.hid (below_trans HB3.out hb4)
      have HX4 := Lib.hid (HX.out.old HB4.out)
      clear hb4 HV3 HRT
      go_wp2
      go_loopw [7, 45] (fun st i wr => ∃ k : Nat, k ≤ M ∧ i = .int .i64 k ∧ ∃ (m : List Ent) (a' : Option Addr) (n' c' : Nat), st = .slice a' n' c' ∧ Hid (n' = m.length) ∧ Hid (SlE wr (Old wr) (.slice a' m.length c') m) ∧ Hid (Rgt m) ∧ Hid (foldC m (cs.drop k) = foldC ys cs) ∧ Hid (∀ x, x ∈ m → FitE x) ∧ Hid (Below w4.heap.size w4 wr)) (fun _ i _ => M - (intOf i).toNat)
      case atStart => exact ⟨0, Nat.zero_le _, rfl, ys, a, L, cap, rfl, HL, Lib.hid (by rw [← HL.out]; exact HX4.out), HRG, Lib.hid (by rw [List.drop_zero]), HF, Lib.hid (Below.refl _ _)⟩
      case round =>
        obtain ⟨k, hk, rfl, m, a', n', c', rfl, HN', HSr, HRr, HFr, HFm, HBr⟩ := hrel
        by_cases hlt : k < M
        · obtain ⟨c, hc⟩ : ∃ c, cs[k]? = some c := ⟨_, List.getElem?_eq_getElem (by have := HM.out; omega)⟩
          have HBw := Lib.hid (below_trans HB4.out HBr.out)
          obtain ⟨b2, off2, rfl, -, x0, x1, x2, x3⟩ := (HCS.out.lt HBw.out).get hc
          have hdr : cs.drop k = c :: cs.drop (k + 1) := by
            obtain ⟨h1, h2⟩ := List.getElem?_eq_some_iff.1 hc
            rw [List.drop_eq_getElem_cons h1, h2]
          have HSTP : Hid (foldC m (cs.drop k) = match oneC m c with | .ok l' => foldC l' (cs.drop (k + 1)) | .error k => .error k) := Lib.hid (by rw [hdr, foldC]; cases oneC m c <;> rfl)
          have hfc := HFC.out c (List.mem_of_getElem? hc)
          have hb5 := below1 wr (.cells (chC c) 44)
          have hb6 := below1 (wr.alloc (.cells (chC c) 44)) (.cells (chC c) 44)
          have R5 := row_new wr (chC c) 44
          have HONE := Lib.hid (HST.out (wr.alloc (.cells (chC c) 44)) m a' c' c (below_trans HBw.out hb5) (HSr.out.old hb5) HRr.out HFm.out hfc)
          have HB6 := Lib.hid (below_trans HBr.out (below_trans hb5 hb6))
          have d0 := R5.cell (i := 0) rfl
          have d1 := R5.cell (i := 1) rfl
          have d2 := R5.cell (i := 2) rfl
          have d3 := R5.cell (i := 3) rfl
          have HFC2 := Lib.hid hfc
          rw [← HN'.out] at HONE
          rw [World.size_alloc] at HONE
          clear hc hdr hb5 hb6 R5 hfc
          obtain ⟨cd, xl, xk, xp⟩ := c
          simp only at x0 x1 x2 x3 d0 d1 d2 d3 HB6 HONE HFC2
          cases ho : oneC m ⟨cd, xl, xk, xp⟩ with
          | ok m' =>
            have HRN := Lib.hid (one_right HRr.out ho)
            have HFN : Hid (foldC m' (cs.drop (k + 1)) = foldC ys cs) := Lib.hid (by rw [← HFr.out, HSTP.out, ho])
            have HFM2 : Hid (∀ x, x ∈ m' → FitE x) := Lib.hid (fun x hx => by
              rcases one_mem ho x hx with h | h
              · exact HFm.out x h
              · rw [h]; exact HFC2.out)
            rw [ho] at HONE
            clear ho HSTP
            go_wp2_with fail
            refine HONE.out.mono ?_
            rintro e w7 ⟨hb7, a7, c7, rfl, hs7⟩
            have HS7 := Lib.hid hs7
            have HB7 := Lib.hid (below_trans HB6.out hb7)
            obtain ⟨n7, HN7⟩ : ∃ n, Hid (n = m'.length) := ⟨_, Lib.hid rfl⟩
            rw [← HN7.out]
            clear hb7 hs7
            go_wp2
            go_roundw
            case rel => exact ⟨k + 1, by omega, by go_num, m', a7, n7, c7, rfl, HN7, HS7, HRN, HFN, HFM2, HB7⟩
            case measure => simp [intOf]; omega
          | error q =>
            have HFN : Hid (foldC ys cs = .error q) := Lib.hid (by rw [← HFr.out, HSTP.out, ho])
            have := HR.out
            rw [HFN.out] at this
            cases this
        · obtain rfl : al = m := by have := HR.out; rw [← HFr.out, List.drop_of_length_le (by have := HM.out; omega), foldC] at this; injection this
          have HLK := Lib.hid (like_any wr a2 a' c2 c' al (by rw [← HN2.out]; exact HS4.out.old HBr.out) HSr.out)
          rw [← HN2.out] at HLK HN'
          obtain rfl := HN'.out
          go_wp2_with fail
          refine HLK.out.mono ?_
          rintro e w7 ⟨rfl, hb7⟩
          have HB7 := Lib.hid (below_trans HB4.out (below_trans HBr.out hb7))
          clear hb7
          go_wp2
          go_ret
          exact ⟨rfl, HB7.out⟩
    | error kk =>
      go_wp2_with fail
      refine HA1.out.mono ?_
      rintro e w2 ⟨hb2, rfl⟩
      have HB2 := Lib.hid hb2
      have HR2 := Lib.hid (HRT.out w2 hb2)
      clear hb2 HA1
      go_wp2_with fail
      refine HR2.out.mono ?_
      rintro e w3 ⟨rfl, hb3⟩
      have HB3 := Lib.hid (below_trans HB2.out hb3)
      have HV3 := Lib.hid (HAV.out w3 HB3.out)
      clear hb3 HR2
      go_wp2_with fail
      refine HV3.out.mono ?_
      rintro e w4 ⟨rfl, hb4⟩
      have HB4 := Lib.hid (below_trans HB3.out hb4)
      have HX4 := Lib.hid (HX.out.old HB4.out)
      clear hb4 HV3 HRT
      go_wp2
      go_loopw [7, 45] (fun st i wr => ∃ k : Nat, k ≤ M ∧ i = .int .i64 k ∧ ∃ (m : List Ent) (a' : Option Addr) (n' c' : Nat), st = .slice a' n' c' ∧ Hid (n' = m.length) ∧ Hid (SlE wr (Old wr) (.slice a' m.length c') m) ∧ Hid (Rgt m) ∧ Hid (foldC m (cs.drop k) = foldC ys cs) ∧ Hid (∀ x, x ∈ m → FitE x) ∧ Hid (Below w4.heap.size w4 wr)) (fun _ i _ => M - (intOf i).toNat)
      case atStart => exact ⟨0, Nat.zero_le _, rfl, ys, a, L, cap, rfl, HL, Lib.hid (by rw [← HL.out]; exact HX4.out), HRG, Lib.hid (by rw [List.drop_zero]), HF, Lib.hid (Below.refl _ _)⟩
      case round =>
        obtain ⟨k, hk, rfl, m, a', n', c', rfl, HN', HSr, HRr, HFr, HFm, HBr⟩ := hrel
        by_cases hlt : k < M
        · obtain ⟨c, hc⟩ : ∃ c, cs[k]? = some c := ⟨_, List.getElem?_eq_getElem (by have := HM.out; omega)⟩
          have HBw := Lib.hid (below_trans HB4.out HBr.out)
          obtain ⟨b2, off2, rfl, -, x0, x1, x2, x3⟩ := (HCS.out.lt HBw.out).get hc
          have hdr : cs.drop k = c :: cs.drop (k + 1) := by
            obtain ⟨h1, h2⟩ := List.getElem?_eq_some_iff.1 hc
            rw [List.drop_eq_getElem_cons h1, h2]
          have HSTP : Hid (foldC m (cs.drop k) = match oneC m c with | .ok l' => foldC l' (cs.drop (k + 1)) | .error k => .error k) := Lib.hid (by rw [hdr, foldC]; cases oneC m c <;> rfl)
          have hfc := HFC.out c (List.mem_of_getElem? hc)
          have hb5 := below1 wr (.cells (chC c) 44)
          have hb6 := below1 (wr.alloc (.cells (chC c) 44)) (.cells (chC c) 44)
          have R5 := row_new wr (chC c) 44
          have HONE := Lib.hid (HST.out (wr.alloc (.cells (chC c) 44)) m a' c' c (below_trans HBw.out hb5) (HSr.out.old hb5) HRr.out HFm.out hfc)
          have HB6 := Lib.hid (below_trans HBr.out (below_trans hb5 hb6))
          have d0 := R5.cell (i := 0) rfl
          have d1 := R5.cell (i := 1) rfl
          have d2 := R5.cell (i := 2) rfl
          have d3 := R5.cell (i := 3) rfl
          have HFC2 := Lib.hid hfc
          rw [← HN'.out] at HONE
          rw [World.size_alloc] at HONE
          clear hc hdr hb5 hb6 R5 hfc
          obtain ⟨cd, xl, xk, xp⟩ := c
          simp only at x0 x1 x2 x3 d0 d1 d2 d3 HB6 HONE HFC2
          cases ho : oneC m ⟨cd, xl, xk, xp⟩ with
          | ok m' =>
            have HRN := Lib.hid (one_right HRr.out ho)
            have HFN : Hid (foldC m' (cs.drop (k + 1)) = foldC ys cs) := Lib.hid (by rw [← HFr.out, HSTP.out, ho])
            have HFM2 : Hid (∀ x, x ∈ m' → FitE x) := Lib.hid (fun x hx => by
              rcases one_mem ho x hx with h | h
              · exact HFm.out x h
              · rw [h]; exact HFC2.out)
            rw [ho] at HONE
            clear ho HSTP
            go_wp2_with fail
            refine HONE.out.mono ?_
            rintro e w7 ⟨hb7, a7, c7, rfl, hs7⟩
            have HS7 := Lib.hid hs7
            have HB7 := Lib.hid (below_trans HB6.out hb7)
            obtain ⟨n7, HN7⟩ : ∃ n, Hid (n = m'.length) := ⟨_, Lib.hid rfl⟩
            rw [← HN7.out]
            clear hb7 hs7
            go_wp2
            go_roundw
            case rel => exact ⟨k + 1, by omega, by go_num, m', a7, n7, c7, rfl, HN7, HS7, HRN, HFN, HFM2, HB7⟩
            case measure => simp [intOf]; omega
          | error q =>
            have HFN : Hid (foldC ys cs = .error q) := Lib.hid (by rw [← HFr.out, HSTP.out, ho])
            obtain rfl : q = kk := by have := HR.out; rw [HFN.out] at this; injection this with h; exact h.symm
            have hqb := ne0 (one_err ho)
            rw [ho] at HONE
            clear ho HSTP
            go_wp2_with fail
            refine HONE.out.mono ?_
            rintro e w7 ⟨hb7, rfl⟩
            have HB7 := Lib.hid (below_trans HB4.out (below_trans HB6.out hb7))
            clear hb7
            go_wp2
            go_ret
            exact ⟨rfl, HB7.out⟩
        · have := HR.out
          rw [← HFr.out, List.drop_of_length_le (by have := HM.out; omega), foldC] at this
          cases this
end Go.Proofs.YtdnedbcmgkilaaaGreatDoor.Ca
