/- Right: cases that may be; Right. -/
import Derived.Test.YtdnedbcmgkilaaaGreatDoorZBRg

namespace Go.Proofs.YtdnedbcmgkilaaaGreatDoor
open Go.RowKit Go.Maps Go.WideShapes Go.WideMaps
theorem lawS : Keyed Tryz.prog 9 := string_keyed Tryz.underlying9
theorem zeroU (w : World) : (zeroValue 149).run Tryz.prog w = .ok (.agg #[]) w := by kernel_rfl
abbrev OM (w : World) (b n : Nat) (D : DataW Unit) : Prop := w.ownsMap Tryz.prog 9 unitElem b n D
theorem isKey (l : List UInt8) : WideAt.IsKeyLit (.string l) := trivial
def SetD (ks : List (List UInt8)) (D : DataW Unit) : Prop := IsMap D ∧ ∀ l : List UInt8, Maps.has D (.string l) = decide (l ∈ ks)
theorem set_none : SetD [] (.map []) := ⟨isMap_empty, fun l => by simp [Maps.has]⟩
theorem set_put {ks : List (List UInt8)} {D : DataW Unit} (h : SetD ks D) (l : List UInt8) (d : DataW Unit) : SetD (ks ++ [l]) (D.put (.string l) d) := ⟨h.1.put (.string l) d, fun l2 => by
  by_cases e : l2 = l
  · subst e
    rw [has_put_same h.1 (isKey _)]; simp
  · have hne : (Lit.string l2) ≠ Lit.string l := fun q => e (by simpa using q)
    rw [has_put_other hne, h.2 l2]
    simp [e]⟩
theorem keys_one {cs : List Cs} {k : Nat} {x : Cs} (h : cs[k]? = some x) : keysL (cs.take (k + 1)) = keysL (cs.take k) ++ [x.key.data.toList] := by rw [take_one h]; unfold keysL; rw [List.map_append]; rfl
theorem last_at {cs : List Cs} (h : cs.length ≠ 0) : ∃ x, cs[cs.length - 1]? = some x ∧ cs.getLast?.map Cs.key = some x.key := by
  obtain ⟨x, hx⟩ : ∃ x, cs[cs.length - 1]? = some x := ⟨_, List.getElem?_eq_getElem (by omega)⟩
  exact ⟨x, hx, by rw [List.getLast?_eq_getElem?, hx]; rfl⟩
theorem rc_none {p : List UInt8 → Bool} {h : Bool} {cs : List Cs} (hl : cs.length = 0) : rcB p h cs = false := by rw [rc_eq, isE, decide_eq_true hl]; rfl
theorem rc_last {p : List UInt8 → Bool} {h : Bool} {cs : List Cs} {ky : BA} (hl : cs.length ≠ 0) (hx : cs.getLast?.map Cs.key = some ky) : rcB p h cs = (decide (ky = ba [111, 116, 104, 101, 114]) && okCs p h [] cs) := by
  rw [rc_eq, isE, decide_eq_false hl, hx]; simp
theorem OM.below {w w' : World} {b n : Nat} {D : DataW Unit} (h : OM w b n D) (hb : Below w.heap.size w w') : OM w' b n D := h.kept (row := none) ⟨hb.os, hb.tape, hb.output, hb.size, fun k hk _ => hb.block k hk⟩ (by simp)
theorem okC_a {a b c d : Bool} {r : Bool} (hr : r = (!a && b && c && d)) (ha : a = true) : r = false := by rw [hr, ha]; rfl
theorem okC_b {a b c d : Bool} {r : Bool} (hr : r = (!a && b && c && d)) (ha : b = false) : r = false := by rw [hr, ha]; simp
theorem okC_c {a b c d : Bool} {r : Bool} (hr : r = (!a && b && c && d)) (ha : c = false) : r = false := by rw [hr, ha]; simp
theorem okC_d {a b c d : Bool} {r : Bool} (hr : r = (!a && b && c && d)) (ha : a = false) (hb : b = true) (hc : c = true) : r = d := by rw [hr, ha, hb, hc]; simp
set_option maxHeartbeats 3200000 in
set_option maxRecDepth 100000 in
theorem caseRK_of (n : Nat) (HP : PartsR n) : CasesRK n := by
  intro h w a cap cs hcs hsm hE
  have hll := hcs.lenle
  by_cases hl : cs.length = 0
  · have HF : Hid (rcB pkeyB h cs = false) := Lib.hid (rc_none hl)
    rw [hl]
    clear hcs hl hll
    go_enter Tryz.func195, Tryz.ntmps195
    go_wp2
    go_ret
    exact ⟨ret_bool HF.out.symm, Below.refl _ _⟩
  obtain ⟨⟨ky, kk⟩, hx, hxl⟩ := last_at hl
  have hxl : cs.getLast?.map Cs.key = some ky := hxl
  have HRC := Lib.hid (rc_last (p := pkeyB) (h := h) hl hxl)
  obtain ⟨L, HL⟩ : ∃ L, Hid (L = cs.length) := ⟨_, Lib.hid rfl⟩
  have hL2 : L ≤ 9223372036854775807 := by have := HL.out; omega
  have hL1 : (1 : Int) ≤ L := by have := HL.out; omega
  rw [← HL.out] at hx hcs ⊢
  obtain ⟨g, off, rfl, -, hat⟩ := hcs.at_ hx
  obtain ⟨lk, -, -, -, -⟩ := hat.c
  have HX := Lib.hid hcs
  have HSM := Lib.hid hsm
  have HEV := Lib.hid hE
  have HPP := Lib.hid HP
  simp only [Cs.key] at lk
  have hB0 : ((L : Int) == 0) = false := by rw [beq_eq_false_iff_ne]; omega
  have hLn : ((L : Int) - 1) = ((L - 1 : Nat) : Int) := by omega
  obtain ⟨L9, HL9⟩ : ∃ L9, Hid (L9 = L - 1) := ⟨_, Lib.hid rfl⟩
  rw [← HL9.out] at hLn lk
  have hL9 : L9 < L := by have := HL9.out; omega
  clear hx hat hcs hsm hE HP hl hxl hll
  by_cases ho : ky.data.toList = [111, 116, 104, 101, 114]
  rotate_left
  · have HF : Hid (rcB pkeyB h cs = false) := Lib.hid (by rw [HRC.out, decide_eq_false (fun e => ho (by rw [e]))]; rfl)
    have hK := str_ne ho
    clear ho
    go_enter Tryz.func195, Tryz.ntmps195
    go_wp2
    go_ret
    exact ⟨ret_bool HF.out.symm, Below.refl _ _⟩
  obtain rfl := str_of ho
  have HRC2 : Hid (rcB pkeyB h cs = okCs pkeyB h [] cs) := Lib.hid (by rw [HRC.out]; simp)
  clear ho HRC
  have hmm := @run_makeMap Tryz.prog
  go_enter Tryz.func195, Tryz.ntmps195
  go_wp2
  clear hmm lk hLn
  go_loopw [28] (fun i wr => ∃ (k : Nat) (D : DataW Unit), k ≤ L ∧ i = .int .i64 k ∧ Hid (OM wr w.heap.size k D) ∧ Hid (SetD (keysL (cs.take k)) D) ∧ Hid (rcB pkeyB h cs = okCs pkeyB h (keysL (cs.take k)) (cs.drop k)) ∧ Hid (Below w.heap.size w wr)) (fun i _ => L - (intOf i).toNat)
  case atStart => exact ⟨0, .map [], Nat.zero_le _, rfl, Lib.hid (World.ownsMap_made _ _ _ _), Lib.hid set_none, HRC2, Lib.hid ((Below.refl _ _).alloc (Nat.le_refl _) _)⟩
  case round =>
    obtain ⟨k, D, hk, rfl, HO, HS, HQ, HB⟩ := hrel
    by_cases hlt : k < L
    · obtain ⟨x, hx⟩ : ∃ x, cs[k]? = some x := ⟨_, List.getElem?_eq_getElem (by have := HL.out; omega)⟩
      obtain ⟨g1, off1, hg1, -, hat⟩ := (HX.out.old HB.out).at_ hx
      injection hg1 with hg1
      injection hg1 with hg1 hg2
      subst hg1 hg2
      obtain ⟨h0, a1, p1, h1, hks⟩ := hat.c
      have HSX := Lib.hid (smC_eq.1 (smCs_get HSM.out hx))
      have HGO := Lib.hid (HQ.out.trans (okCs_go hx))
      have HKO := Lib.hid (keys_one hx)
      obtain ⟨key, kids⟩ := x
      simp only [Cs.key, Cs.kids] at h0 h1 hks HSX HGO HKO
      have HKS : Hid (key.size ≤ 140737488351232) := Lib.hid HSX.out.1
      have HKY : Hid (keyOf Tryz.prog 9 (.string key) = some (.string key.data.toList)) := Lib.hid (by
        have := keyOf_string_mk (P := Tryz.prog) Tryz.underlying9 (s := key) (by have := HKS.out; unfold maxLen; omega)
        exact this)
      have HHA := Lib.hid (HS.out.2 key.data.toList)
      have HPS := Lib.hid (set_put HS.out key.data.toList (.agg []))
      rw [← HKO.out] at HPS
      have HKN : Hid (k < maxLen) := Lib.hid (by unfold maxLen; omega)
      obtain ⟨L1, HL1⟩ : ∃ L1, Hid (L1 = kids.length) := ⟨_, Lib.hid rfl⟩
      have HKD := Lib.hid (hks.old (below1 wr (.cells #[.string key, .slice a1 kids.length p1] 185)))
      rw [← HL1.out] at h1 HKD
      have R := row_new wr #[.string key, .slice a1 L1 p1] 185
      have c0 := R.cell (i := 0) rfl
      have c1 := R.cell (i := 1) rfl
      have HB2 : Hid (Below w.heap.size w (wr.alloc (.cells #[.string key, .slice a1 L1 p1] 185))) := Lib.hid (below_trans HB.out (below1 _ _))
      have HO2 : Hid (OM (wr.alloc (.cells #[.string key, .slice a1 L1 p1] 185)) w.heap.size k D) := Lib.hid (HO.out.alloc _)
      clear R hat hx hks HQ HO HB
      have HRW : Hid (Row (wr.alloc (.cells #[.string key, .slice a1 L1 p1] 185)) wr.heap.size 185 [.string key, .slice a1 L1 p1]) := Lib.hid (row_new wr #[.string key, .slice a1 L1 p1] 185)
      cases hm : decide (key.data.toList ∈ keysL (cs.take k)) with
      | true =>
        have hH : Maps.has D (.string key.data.toList) = true := by rw [HHA.out, hm]
        have HF : Hid (rcB pkeyB h cs = false) := Lib.hid (okC_a HGO.out hm)
        clear hm
        go_wp2_with (first
          | (at_lookup; refine wpList_lookup_own_unit _ rfl _ _ 146 rfl 9 149 lawS Tryz.underlying146 (zeroU _) w.heap.size k D rfl HO2.out _ _ rfl HKY.out ?_))
        go_ret
        exact ⟨ret_bool HF.out.symm, below_trans HB2.out (below1 _ _)⟩
      | false =>
        have hH : Maps.has D (.string key.data.toList) = false := by rw [HHA.out, hm]
        have HM := Lib.hid hm
        clear hm
        have HB4 : Hid (Below w.heap.size w ((wr.alloc (.cells #[.string key, .slice a1 L1 p1] 185)).alloc (.cells #[] 149))) := Lib.hid (below_trans HB2.out (below1 _ _))
        have HO4 : Hid (OM ((wr.alloc (.cells #[.string key, .slice a1 L1 p1] 185)).alloc (.cells #[] 149)) w.heap.size k D) := Lib.hid (HO2.out.alloc _)
        have HKD4 := Lib.hid (HKD.out.old (below1 (wr.alloc (.cells #[.string key, .slice a1 L1 p1] 185)) (.cells #[] 149)))
        have HRW4 := Lib.hid (HRW.out.alloc (.cells #[] 149))
        have HEV4 := Lib.hid (HEV.out.below HB4.out)
        have HKC := Lib.hid (pkey_any key HKS.out _ HEV4.out)
        go_wp2_with (first
          | (at_lookup; refine wpList_lookup_own_unit _ rfl _ _ 146 rfl 9 149 lawS Tryz.underlying146 (zeroU _) w.heap.size k D rfl HO2.out _ _ rfl HKY.out ?_))
        generalize (wr.alloc (.cells #[.string key, .slice a1 L1 p1] 185)).alloc (.cells #[] 149) = w4 at *
        clear c0 c1 hH HO2 HB2 HKD HRW
        refine HKC.out.mono ?_
        rintro e w5 ⟨rfl, hb5⟩
        have HB5 := Lib.hid (below_trans HB4.out hb5)
        have HO5 := Lib.hid (HO4.out.below hb5)
        have HKD5 := Lib.hid (HKD4.out.old hb5)
        have HRW5 := Lib.hid (HRW4.out.below hb5)
        have HEV5 := Lib.hid (HEV4.out.below hb5)
        clear hb5 HKC HB4 HO4 HKD4 HRW4 HEV4
        cases hp : pkeyB key.data.toList with
        | false =>
          have HF : Hid (rcB pkeyB h cs = false) := Lib.hid (okC_b HGO.out hp)
          clear hp
          go_wp2
          go_ret
          exact ⟨ret_bool HF.out.symm, HB5.out⟩
        | true =>
          have HP1 := Lib.hid hp
          clear hp
          have HPC := Lib.hid (HPP.out h w5 a1 p1 kids (by rw [← HL1.out]; exact HKD5.out) HSX.out.2 HEV5.out)
          rw [← HL1.out] at HPC
          have c1 := HRW5.out.cell (i := 1) rfl
          cases hr : okPs h false kids with
          | false =>
            rw [hr] at HPC
            have HF : Hid (rcB pkeyB h cs = false) := Lib.hid (okC_c HGO.out hr)
            clear hr
            go_wp2_with fail
            refine HPC.out.mono ?_
            rintro e w6 ⟨rfl, hb6⟩
            have HB6 := Lib.hid (below_trans HB5.out hb6)
            clear hb6
            go_wp2
            go_ret
            exact ⟨ret_bool HF.out.symm, HB6.out⟩
          | true =>
            rw [hr] at HPC
            have HN := Lib.hid (okC_d HGO.out HM.out HP1.out hr)
            clear hr
            go_wp2_with fail
            refine HPC.out.mono ?_
            rintro e w6 ⟨rfl, hb6⟩
            have HB6 := Lib.hid (below_trans HB5.out hb6)
            have HO6 := Lib.hid (HO5.out.below hb6)
            have HRW6 := Lib.hid (HRW5.out.below hb6)
            clear hb6 HPC c1 HB5 HO5 HKD5 HRW5 HEV5
            have c0 := HRW6.out.cell (i := 0) rfl
            go_wp2_with (first
              | (at_mapUpdate; refine wpList_mapUpdate_own _ rfl _ _ _ 146 rfl 9 149 lawS Tryz.underlying146 _ w.heap.size k D rfl HO6.out HKN.out _ _ _ rfl rfl HKY.out _ [] unitElem_mk ?_; intro w7 hown7 hgrow7))
            have HO7 := Lib.hid hown7
            have HB7 : Hid (Below w.heap.size w w7) := Lib.hid (HB6.out.grown hgrow7 HB6.out.size (fun j hj => by cases hj; exact Nat.le_refl _))
            clear hown7 hgrow7
            go_wp2
            go_roundw
            case rel => exact ⟨k + 1, _, by omega, by go_num, HO7, HPS, HN, HB7⟩
            case measure => simp [intOf]; omega
    · have HF : Hid (rcB pkeyB h cs = true) := Lib.hid (HQ.out.trans (okCs_end (by have := HL.out; omega)))
      go_wp2
      go_ret
      exact ⟨ret_bool HF.out.symm, HB.out⟩
set_option maxHeartbeats 3200000 in
set_option maxRecDepth 100000 in
theorem caseRN_of (n : Nat) (HP : PartsR n) : CasesRN n := by
  intro h w a cap cs hcs hsm hE
  have hll := hcs.lenle
  by_cases hl : cs.length = 0
  · have HF : Hid (rcB nameB h cs = false) := Lib.hid (rc_none hl)
    rw [hl]
    clear hcs hl hll
    go_enter Tryz.func195, Tryz.ntmps195
    go_wp2
    go_ret
    exact ⟨ret_bool HF.out.symm, Below.refl _ _⟩
  obtain ⟨⟨ky, kk⟩, hx, hxl⟩ := last_at hl
  have hxl : cs.getLast?.map Cs.key = some ky := hxl
  have HRC := Lib.hid (rc_last (p := nameB) (h := h) hl hxl)
  obtain ⟨L, HL⟩ : ∃ L, Hid (L = cs.length) := ⟨_, Lib.hid rfl⟩
  have hL2 : L ≤ 9223372036854775807 := by have := HL.out; omega
  have hL1 : (1 : Int) ≤ L := by have := HL.out; omega
  rw [← HL.out] at hx hcs ⊢
  obtain ⟨g, off, rfl, -, hat⟩ := hcs.at_ hx
  obtain ⟨lk, -, -, -, -⟩ := hat.c
  have HX := Lib.hid hcs
  have HSM := Lib.hid hsm
  have HEV := Lib.hid hE
  have HPP := Lib.hid HP
  simp only [Cs.key] at lk
  have hB0 : ((L : Int) == 0) = false := by rw [beq_eq_false_iff_ne]; omega
  have hLn : ((L : Int) - 1) = ((L - 1 : Nat) : Int) := by omega
  obtain ⟨L9, HL9⟩ : ∃ L9, Hid (L9 = L - 1) := ⟨_, Lib.hid rfl⟩
  rw [← HL9.out] at hLn lk
  have hL9 : L9 < L := by have := HL9.out; omega
  clear hx hat hcs hsm hE HP hl hxl hll
  by_cases ho : ky.data.toList = [111, 116, 104, 101, 114]
  rotate_left
  · have HF : Hid (rcB nameB h cs = false) := Lib.hid (by rw [HRC.out, decide_eq_false (fun e => ho (by rw [e]))]; rfl)
    have hK := str_ne ho
    clear ho
    go_enter Tryz.func195, Tryz.ntmps195
    go_wp2
    go_ret
    exact ⟨ret_bool HF.out.symm, Below.refl _ _⟩
  obtain rfl := str_of ho
  have HRC2 : Hid (rcB nameB h cs = okCs nameB h [] cs) := Lib.hid (by rw [HRC.out]; simp)
  clear ho HRC
  have hmm := @run_makeMap Tryz.prog
  go_enter Tryz.func195, Tryz.ntmps195
  go_wp2
  clear hmm lk hLn
  go_loopw [28] (fun i wr => ∃ (k : Nat) (D : DataW Unit), k ≤ L ∧ i = .int .i64 k ∧ Hid (OM wr w.heap.size k D) ∧ Hid (SetD (keysL (cs.take k)) D) ∧ Hid (rcB nameB h cs = okCs nameB h (keysL (cs.take k)) (cs.drop k)) ∧ Hid (Below w.heap.size w wr)) (fun i _ => L - (intOf i).toNat)
  case atStart => exact ⟨0, .map [], Nat.zero_le _, rfl, Lib.hid (World.ownsMap_made _ _ _ _), Lib.hid set_none, HRC2, Lib.hid ((Below.refl _ _).alloc (Nat.le_refl _) _)⟩
  case round =>
    obtain ⟨k, D, hk, rfl, HO, HS, HQ, HB⟩ := hrel
    by_cases hlt : k < L
    · obtain ⟨x, hx⟩ : ∃ x, cs[k]? = some x := ⟨_, List.getElem?_eq_getElem (by have := HL.out; omega)⟩
      obtain ⟨g1, off1, hg1, -, hat⟩ := (HX.out.old HB.out).at_ hx
      injection hg1 with hg1
      injection hg1 with hg1 hg2
      subst hg1 hg2
      obtain ⟨h0, a1, p1, h1, hks⟩ := hat.c
      have HSX := Lib.hid (smC_eq.1 (smCs_get HSM.out hx))
      have HGO := Lib.hid (HQ.out.trans (okCs_go hx))
      have HKO := Lib.hid (keys_one hx)
      obtain ⟨key, kids⟩ := x
      simp only [Cs.key, Cs.kids] at h0 h1 hks HSX HGO HKO
      have HKS : Hid (key.size ≤ 140737488351232) := Lib.hid HSX.out.1
      have HKY : Hid (keyOf Tryz.prog 9 (.string key) = some (.string key.data.toList)) := Lib.hid (by
        have := keyOf_string_mk (P := Tryz.prog) Tryz.underlying9 (s := key) (by have := HKS.out; unfold maxLen; omega)
        exact this)
      have HHA := Lib.hid (HS.out.2 key.data.toList)
      have HPS := Lib.hid (set_put HS.out key.data.toList (.agg []))
      rw [← HKO.out] at HPS
      have HKN : Hid (k < maxLen) := Lib.hid (by unfold maxLen; omega)
      obtain ⟨L1, HL1⟩ : ∃ L1, Hid (L1 = kids.length) := ⟨_, Lib.hid rfl⟩
      have HKD := Lib.hid (hks.old (below1 wr (.cells #[.string key, .slice a1 kids.length p1] 185)))
      rw [← HL1.out] at h1 HKD
      have R := row_new wr #[.string key, .slice a1 L1 p1] 185
      have c0 := R.cell (i := 0) rfl
      have c1 := R.cell (i := 1) rfl
      have HB2 : Hid (Below w.heap.size w (wr.alloc (.cells #[.string key, .slice a1 L1 p1] 185))) := Lib.hid (below_trans HB.out (below1 _ _))
      have HO2 : Hid (OM (wr.alloc (.cells #[.string key, .slice a1 L1 p1] 185)) w.heap.size k D) := Lib.hid (HO.out.alloc _)
      clear R hat hx hks HQ HO HB
      have HRW : Hid (Row (wr.alloc (.cells #[.string key, .slice a1 L1 p1] 185)) wr.heap.size 185 [.string key, .slice a1 L1 p1]) := Lib.hid (row_new wr #[.string key, .slice a1 L1 p1] 185)
      cases hm : decide (key.data.toList ∈ keysL (cs.take k)) with
      | true =>
        have hH : Maps.has D (.string key.data.toList) = true := by rw [HHA.out, hm]
        have HF : Hid (rcB nameB h cs = false) := Lib.hid (okC_a HGO.out hm)
        clear hm
        go_wp2_with (first
          | (at_lookup; refine wpList_lookup_own_unit _ rfl _ _ 146 rfl 9 149 lawS Tryz.underlying146 (zeroU _) w.heap.size k D rfl HO2.out _ _ rfl HKY.out ?_))
        go_ret
        exact ⟨ret_bool HF.out.symm, below_trans HB2.out (below1 _ _)⟩
      | false =>
        have hH : Maps.has D (.string key.data.toList) = false := by rw [HHA.out, hm]
        have HM := Lib.hid hm
        clear hm
        have HB4 : Hid (Below w.heap.size w ((wr.alloc (.cells #[.string key, .slice a1 L1 p1] 185)).alloc (.cells #[] 149))) := Lib.hid (below_trans HB2.out (below1 _ _))
        have HO4 : Hid (OM ((wr.alloc (.cells #[.string key, .slice a1 L1 p1] 185)).alloc (.cells #[] 149)) w.heap.size k D) := Lib.hid (HO2.out.alloc _)
        have HKD4 := Lib.hid (HKD.out.old (below1 (wr.alloc (.cells #[.string key, .slice a1 L1 p1] 185)) (.cells #[] 149)))
        have HRW4 := Lib.hid (HRW.out.alloc (.cells #[] 149))
        have HEV4 := Lib.hid (HEV.out.below HB4.out)
        have HKC : Hid (Calls Tryz.prog 119 #[.string key] ((wr.alloc (.cells #[.string key, .slice a1 L1 p1] 185)).alloc (.cells #[] 149)) fun e w' => e = .returned (.bool (nameB key.data.toList)) ∧ Below ((wr.alloc (.cells #[.string key, .slice a1 L1 p1] 185)).alloc (.cells #[] 149)).heap.size ((wr.alloc (.cells #[.string key, .slice a1 L1 p1] 185)).alloc (.cells #[] 149)) w') := Lib.hid ((name_any key _ HKS.out).mono (fun e w' h => ⟨h.1, by rw [h.2]; exact Below.refl _ _⟩))
        go_wp2_with (first
          | (at_lookup; refine wpList_lookup_own_unit _ rfl _ _ 146 rfl 9 149 lawS Tryz.underlying146 (zeroU _) w.heap.size k D rfl HO2.out _ _ rfl HKY.out ?_))
        generalize (wr.alloc (.cells #[.string key, .slice a1 L1 p1] 185)).alloc (.cells #[] 149) = w4 at *
        clear c0 c1 hH HO2 HB2 HKD HRW
        refine HKC.out.mono ?_
        rintro e w5 ⟨rfl, hb5⟩
        have HB5 := Lib.hid (below_trans HB4.out hb5)
        have HO5 := Lib.hid (HO4.out.below hb5)
        have HKD5 := Lib.hid (HKD4.out.old hb5)
        have HRW5 := Lib.hid (HRW4.out.below hb5)
        have HEV5 := Lib.hid (HEV4.out.below hb5)
        clear hb5 HKC HB4 HO4 HKD4 HRW4 HEV4
        cases hp : nameB key.data.toList with
        | false =>
          have HF : Hid (rcB nameB h cs = false) := Lib.hid (okC_b HGO.out hp)
          clear hp
          go_wp2
          go_ret
          exact ⟨ret_bool HF.out.symm, HB5.out⟩
        | true =>
          have HP1 := Lib.hid hp
          clear hp
          have HPC := Lib.hid (HPP.out h w5 a1 p1 kids (by rw [← HL1.out]; exact HKD5.out) HSX.out.2 HEV5.out)
          rw [← HL1.out] at HPC
          have c1 := HRW5.out.cell (i := 1) rfl
          cases hr : okPs h false kids with
          | false =>
            rw [hr] at HPC
            have HF : Hid (rcB nameB h cs = false) := Lib.hid (okC_c HGO.out hr)
            clear hr
            go_wp2_with fail
            refine HPC.out.mono ?_
            rintro e w6 ⟨rfl, hb6⟩
            have HB6 := Lib.hid (below_trans HB5.out hb6)
            clear hb6
            go_wp2
            go_ret
            exact ⟨ret_bool HF.out.symm, HB6.out⟩
          | true =>
            rw [hr] at HPC
            have HN := Lib.hid (okC_d HGO.out HM.out HP1.out hr)
            clear hr
            go_wp2_with fail
            refine HPC.out.mono ?_
            rintro e w6 ⟨rfl, hb6⟩
            have HB6 := Lib.hid (below_trans HB5.out hb6)
            have HO6 := Lib.hid (HO5.out.below hb6)
            have HRW6 := Lib.hid (HRW5.out.below hb6)
            clear hb6 HPC c1 HB5 HO5 HKD5 HRW5 HEV5
            have c0 := HRW6.out.cell (i := 0) rfl
            go_wp2_with (first
              | (at_mapUpdate; refine wpList_mapUpdate_own _ rfl _ _ _ 146 rfl 9 149 lawS Tryz.underlying146 _ w.heap.size k D rfl HO6.out HKN.out _ _ _ rfl rfl HKY.out _ [] unitElem_mk ?_; intro w7 hown7 hgrow7))
            have HO7 := Lib.hid hown7
            have HB7 : Hid (Below w.heap.size w w7) := Lib.hid (HB6.out.grown hgrow7 HB6.out.size (fun j hj => by cases hj; exact Nat.le_refl _))
            clear hown7 hgrow7
            go_wp2
            go_roundw
            case rel => exact ⟨k + 1, _, by omega, by go_num, HO7, HPS, HN, HB7⟩
            case measure => simp [intOf]; omega
    · have HF : Hid (rcB nameB h cs = true) := Lib.hid (HQ.out.trans (okCs_end (by have := HL.out; omega)))
      go_wp2
      go_ret
      exact ⟨ret_bool HF.out.symm, HB.out⟩
theorem right_all : ∀ n, PartsR n ∧ PartR n := by
  intro n
  induction n using Nat.strongRecOn with
  | _ n ih =>
    have h1 := partsR_of n (fun m hm => (ih m hm).2)
    exact ⟨h1, partR_of n (caseRK_of n h1) (caseRN_of n h1)⟩
set_option maxHeartbeats 3200000 in
set_option maxRecDepth 100000 in
theorem right_any (n : Nat) (w : World) (a : Option Addr) (cap : Nat) (xs : List Pt) (hxs : SlP w (Old w) n (.slice a xs.length cap) xs) (hc : cntPs xs ≤ 2000) (hsm : smPs 140737488351232 xs) (hE : EnvW w) :
    Calls Tryz.prog 80 #[.slice a xs.length cap] w fun e w' => e = .returned (.int .i64 (rightE xs)) ∧ Below w.heap.size w w' := by
  have HM := Lib.hid (measured_any n w a cap xs hxs hc)
  have HX := Lib.hid hxs
  have HSM := Lib.hid hsm
  have HEV := Lib.hid hE
  have HRE : Hid (rightE xs = if 1000 < cntPs xs then 2 else if 32 < dpPs xs then 12 else if okPs false false xs then 0 else 91) := Lib.hid rfl
  obtain ⟨L, HL⟩ : ∃ L, Hid (L = xs.length) := ⟨_, Lib.hid rfl⟩
  rw [← HL.out] at HM HX ⊢
  clear hxs hc hsm hE
  go_enter Tryz.func80, Tryz.ntmps80
  go_wp2_with fail
  refine HM.out.mono ?_
  rintro e w2 ⟨⟨C, D, rfl, hvi⟩, hb2⟩
  obtain ⟨-, hv2, hv3⟩ := hvi
  have HB2 := Lib.hid hb2
  clear hb2 HM
  by_cases h1 : 1000 < C
  · have HF : Hid (rightE xs = 2) := Lib.hid (by rw [HRE.out, if_pos (by omega)])
    have hB : (1000 : Int) < C := by omega
    clear hv2 hv3
    go_wp2
    go_ret
    exact ⟨ret_int (by rw [HF.out]; rfl), HB2.out⟩
  · obtain ⟨h2, h3⟩ := hv3 (by omega)
    have hB : ¬ (1000 : Int) < C := by omega
    by_cases h4 : 32 < D
    · have HF : Hid (rightE xs = 12) := Lib.hid (by rw [HRE.out, if_neg (by omega), if_pos (by omega)])
      have hB2 : (32 : Int) < D := by omega
      clear hv2 hv3 h2 h3
      go_wp2
      go_ret
      exact ⟨ret_int (by rw [HF.out]; rfl), HB2.out⟩
    · have HF : Hid (rightE xs = if okPs false false xs then 0 else 91) := Lib.hid (by rw [HRE.out, if_neg (by omega), if_neg (by omega)])
      have hB2 : ¬ (32 : Int) < D := by omega
      clear hv2 hv3 h2 h3
      have HP := Lib.hid ((right_all n).1 false w2 a cap xs (by rw [← HL.out]; exact HX.out.old HB2.out) HSM.out (HEV.out.below HB2.out))
      rw [← HL.out] at HP
      cases hok : okPs false false xs with
      | true =>
        rw [hok] at HP
        have HF2 : Hid (rightE xs = 0) := Lib.hid (by rw [HF.out, hok]; rfl)
        clear hok
        go_wp2_with fail
        refine HP.out.mono ?_
        rintro e w3 ⟨rfl, hb3⟩
        have HB3 := Lib.hid (below_trans HB2.out hb3)
        clear hb3
        go_wp2
        go_ret
        exact ⟨ret_int (by rw [HF2.out]; rfl), HB3.out⟩
      | false =>
        rw [hok] at HP
        have HF2 : Hid (rightE xs = 91) := Lib.hid (by rw [HF.out, hok]; rfl)
        clear hok
        go_wp2_with fail
        refine HP.out.mono ?_
        rintro e w3 ⟨rfl, hb3⟩
        have HB3 := Lib.hid (below_trans HB2.out hb3)
        clear hb3
        go_wp2
        go_ret
        exact ⟨ret_int (by rw [HF2.out]; rfl), HB3.out⟩
end Go.Proofs.YtdnedbcmgkilaaaGreatDoor
