/- The document's Put: a new item. -/
import Derived.Test.YtmaafhhdbhkplaaDoorRPutM
import Derived.Deep.Cut
namespace Go.Proofs.YtmaafhhdbhkplaaDoor
open Go.RowKit

/-- What an append and the store behind it leave as it was. -/
theorem out_keep {w w2 : World} {M : Nat} {xs : List Itm} {a : Option Addr} {cap : Nat} {o : Obj} {v : Value} (hgrow : (w.alloc o).grownBy w2 (Value.slice a xs.length cap).ownBlock) {h : Nat} (hh : h < w.heap.size) (hM : h ≠ M) (hne : ∀ ad : Addr, a = some ad → ad.block ≠ h) : (w2.setCell ⟨M, 0, none⟩ v).heap[h]? = w.heap[h]? := by
  rw [((But.refl M w2).set 0 v).block h hM, hgrow.block h (by simp; omega) (fun e => by
    cases a with
    | none => cases e
    | some ad => exact hne ad rfl (Option.some.inj e).symm)]
  exact Below.heap_alloc _ _ _ hh

set_option maxHeartbeats 6400000 in
set_option maxRecDepth 100000 in
theorem rput_new (w : World) (a : Option Addr) (cap : Nat) (xs : List Itm) (body : BA) (ha : Arg w a cap xs) (ht : Tab w) (hbs : body.size ≤ 140737488351232) (hr : Rgt xs) (hb0 : 0 < body.size) (hb1 : body.size ≤ 512) (hn : Nof xs (leafF body)) (hx : xs.length < 4096) :
    Calls Tryd.prog 15 #[.agg #[.slice a xs.length cap], .string body] w (PutPost (insF xs (pos xs (leafF body)) ⟨leafF body, body, 1⟩) (leafF body) 0 w) := by
  have HR := Lib.hid hr
  have hl4 := hr.1
  clear hr
  have hne : body.toList.isEmpty = false := by rw [ByteArray.toList_eq]; cases h : body.data.toList with
    | nil => have := BA.len body; rw [h] at this; simp at this; omega
    | cons _ _ => rfl
  have hks : (leafF body).size ≤ 140737488351232 := by rw [leafF_size]; omega
  have HNF := Lib.hid hn
  have hpl := pos_le xs (leafF body)
  clear hn
  have hxb : ((xs.length : Int) == 4096) = false := by rw [beq_eq_false_iff_ne]; omega
  have E0 := Lib.hid (REnv.new ha ht)
  obtain ⟨f1, f2, f3, f4⟩ := E0.out.facts
  have hlen := ha.len
  have HOLD := Lib.hid (inI_old ha.its)
  clear ha ht
  go_enter Tryd.func15, Tryd.ntmps15
  go_wp2_with fail
  generalize ((w.alloc (.cells #[.slice a xs.length cap] 24)).alloc (.cells #[.slice none 0 0] 24)).alloc (.cells #[.slice none 0 0] 24) = w0 at *
  refine (rright_yes w0 a cap xs HR.out E0.out.env.arg.szs E0.out.env.arg.its).mono ?_
  rintro e w1 ⟨rfl, hb1⟩
  have E1 := Lib.hid (E0.out.step hb1)
  clear f1 f2 f3 f4
  obtain ⟨f1, f2, f3, f4⟩ := E1.out.facts
  clear hb1
  go_wp2_with fail
  refine (rleaf_any body w1 (by omega)).mono ?_
  rintro e w2 ⟨rfl, hb2⟩
  have E2 := Lib.hid (E1.out.step hb2)
  clear f1 f2 f3 f4
  obtain ⟨f1, f2, f3, f4⟩ := E2.out.facts
  clear hb2
  go_wp2_with fail
  refine (at_nof w2 a cap xs (leafF body) E2.out.env.arg.its HR.out hks HNF.out).mono ?_
  rintro e w3 ⟨rfl, hb3⟩
  have E3 := Lib.hid (E2.out.step hb3)
  clear f1 f2 f3 f4
  obtain ⟨f1, f2, f3, f4⟩ := E3.out.facts
  clear hb3
  obtain ⟨i0, hi, hz0, hz1, hz2⟩ := info_parts info29
  have hML := E3.out.env.lt
  have EM : Hid (MEnv w (w3.alloc (.cells #[.slice none 0 0] 24)) w3.heap.size a cap xs []) := Lib.hid ⟨E3.out.env.box.alloc _, E3.out.env.res.alloc _, E3.out.env.arg.its.below (below1 _ _), out_new _, below_trans E3.out.env.bel (below1 _ _), HOLD.out⟩
  have f5 := EM.out.box.cell (i := 0) rfl
  have HG : Hid (∀ x, xs[pos xs (leafF body)]? = some x → ltB (leafF body) x.k = true) := Lib.hid (fun x hx => HNF.out.gt hx)
  go_wp2
  generalize hW4 : w3.alloc (.cells #[.slice none 0 0] 24) = w4 at *
  clear hW4 f1 f2 f3 f4 f5
  go_loopw [11, 69] (fun f i wr => ∃ (k : Nat) (ys : List Itm) (fl : Bool), k ≤ xs.length ∧ f = .bool fl ∧ i = .int .i64 k ∧ ys.length ≤ 5000 ∧ Hid (fl = decide (pos xs (leafF body) < k)) ∧ Hid (ys = outF xs (pos xs (leafF body)) ⟨leafF body, body, 1⟩ k) ∧ Hid (MEnv w wr w3.heap.size a cap xs ys)) (fun _ i _ => xs.length - (intOf i).toNat)
  case atStart => exact ⟨0, [], false, by omega, rfl, rfl, by simp, Lib.hid (by simp), Lib.hid (outF_zero _ _ _).symm, EM⟩
  case round =>
    obtain ⟨k, ys, fl, hk, rfl, rfl, hyl, HFL, HY, E⟩ := hrel
    obtain ⟨ao, co, hrow, hown0⟩ := E.out.out.form
    have hMl := hrow.lt
    have hcs : wr.cell? ⟨w.heap.size, 0, none⟩ = some (.slice a xs.length cap) := E.out.box.cell rfl
    have HROW := Lib.hid hrow
    have HOWN := Lib.hid hown0
    clear hrow hown0
    by_cases hlt : k < xs.length
    · obtain ⟨x, hx⟩ : ∃ x, xs[k]? = some x := ⟨_, List.getElem?_eq_getElem hlt⟩
      obtain ⟨b, off, rfl, hbl, h0, h1, h2⟩ := E.out.its.at_ hx
      have HX := Lib.hid hx
      clear hx
      cases fl with
      | true =>
        have hpk : pos xs (leafF body) < k := by have := HFL.out; simpa using this.symm
        have HFL2 : Hid (true = decide (pos xs (leafF body) < k + 1)) := Lib.hid (by simp; omega)
        have HY2 : Hid (ys ++ [x] = outF xs (pos xs (leafF body)) ⟨leafF body, body, 1⟩ (k + 1)) := Lib.hid (by rw [outF_behind HX.out hpk, HY.out])
        obtain ⟨kk, bb, rr⟩ := x
        simp only at h0 h1 h2
        have q3 := row_new wr #[.string kk, .string bb, .int .i64 rr] 29
        have hE : Below wr.heap.size wr (wr.alloc (.cells #[.string kk, .string bb, .int .i64 rr] 29)) := below1 wr _
        have hrow := HROW.out.below hE
        have hown := ownsRow_below HOWN.out hE
        have E1 := Lib.hid (E.out.same hE)
        have c0 := q3.cell (i := 0) rfl
        have c1 := q3.cell (i := 1) rfl
        have c2 := q3.cell (i := 2) rfl
        have c3 := hrow.cell (i := 0) rfl
        have hsz : w3.heap.size < (wr.alloc (.cells #[.string kk, .string bb, .int .i64 rr] 29)).heap.size := Nat.lt_of_lt_of_le hMl hE.size
        have HR1 := Lib.hid hrow
        have HO1 := Lib.hid hown
        have HQ3 := Lib.hid q3
        clear hE q3 hrow hown
        have hown := HO1.out
        go_wp2_with (at_builtin; refine wpList_append_lies _ rfl _ _ 22 rfl (w3.heap.size + 1) 29 i0 _ 3 40 Tryd.underlying22 hi hz0 hz1 hz2 rfl (by decide) _ _ _ rfl (hown.alloc _) _ 1 1 [.string kk, .string bb, .int .i64 rr] rfl rfl (cell_new3b _ _ _ _ _ (by simp)) (by simp [Value.oneCell']) (by decide) (by unfold maxLen; omega) (by omega) (by simp; omega) _ rfl ?_; intro g cap' w2 hown' hgrow hg hglt; obtain ⟨hcell, hfz, HA, HV⟩ := out_step (x := ⟨kk, bb, rr⟩) HR1.out HO1.out hown' hgrow; clear hown' hgrow hg hglt)
        have HE2 := Lib.hid (E1.out.step (by omega) HV.out HA.out)
        go_roundw
        case rel => exact ⟨k + 1, ys ++ [⟨kk, bb, rr⟩], true, by omega, rfl, by go_num, by have := HY2.out; rw [this]; have := outF_length_le xs (pos xs (leafF body)) ⟨leafF body, body, 1⟩ (k + 1) (by omega); omega, HFL2, HY2, HE2⟩
        case measure => simp [intOf]; omega
      | false =>
        have hpk : k ≤ pos xs (leafF body) := by have := HFL.out; simpa using this.symm
        by_cases hkp : k < pos xs (leafF body)
        · have hB : Op.bytesLess x.k.toList (leafF body).toList = true := pos_ahead HX.out hkp
          have HFL2 : Hid (false = decide (pos xs (leafF body) < k + 1)) := Lib.hid (by simp; omega)
          have HY2 : Hid (ys ++ [x] = outF xs (pos xs (leafF body)) ⟨leafF body, body, 1⟩ (k + 1)) := Lib.hid (by rw [outF_ahead HX.out hkp, HY.out])
          obtain ⟨kk, bb, rr⟩ := x
          simp only at h0 h1 h2 hB
          have q3 := row_new wr #[.string kk, .string bb, .int .i64 rr] 29
          have hE : Below wr.heap.size wr (wr.alloc (.cells #[.string kk, .string bb, .int .i64 rr] 29)) := below1 wr _
          have hrow := HROW.out.below hE
          have hown := ownsRow_below HOWN.out hE
          have E1 := Lib.hid (E.out.same hE)
          have c0 := q3.cell (i := 0) rfl
          have c1 := q3.cell (i := 1) rfl
          have c2 := q3.cell (i := 2) rfl
          have c3 := hrow.cell (i := 0) rfl
          have hsz : w3.heap.size < (wr.alloc (.cells #[.string kk, .string bb, .int .i64 rr] 29)).heap.size := Nat.lt_of_lt_of_le hMl hE.size
          have HR1 := Lib.hid hrow
          have HO1 := Lib.hid hown
          have HQ3 := Lib.hid q3
          clear hE q3 hrow hown
          have hown := HO1.out
          go_wp2_with (at_builtin; refine wpList_append_lies _ rfl _ _ 22 rfl (w3.heap.size + 1) 29 i0 _ 3 40 Tryd.underlying22 hi hz0 hz1 hz2 rfl (by decide) _ _ _ rfl (hown.alloc _) _ 1 1 [.string kk, .string bb, .int .i64 rr] rfl rfl (cell_new3b _ _ _ _ _ (by simp)) (by simp [Value.oneCell']) (by decide) (by unfold maxLen; omega) (by omega) (by simp; omega) _ rfl ?_; intro g cap' w2 hown' hgrow hg hglt; obtain ⟨hcell, hfz, HA, HV⟩ := out_step (x := ⟨kk, bb, rr⟩) HR1.out HO1.out hown' hgrow; clear hown' hgrow hg hglt)
          have HE2 := Lib.hid (E1.out.step (by omega) HV.out HA.out)
          go_roundw
          case rel => exact ⟨k + 1, ys ++ [⟨kk, bb, rr⟩], false, by omega, rfl, by go_num, by have := HY2.out; rw [this]; have := outF_length_le xs (pos xs (leafF body)) ⟨leafF body, body, 1⟩ (k + 1) (by omega); omega, HFL2, HY2, HE2⟩
          case measure => simp [intOf]; omega
        · have HKP : Hid (pos xs (leafF body) = k) := Lib.hid (by omega)
          have hgt := HG.out x (by rw [HKP.out]; exact HX.out)
          have hB1 : Op.bytesLess x.k.toList (leafF body).toList = false := by
            cases h : Op.bytesLess x.k.toList (leafF body).toList with
            | false => rfl
            | true => have := ltB_trans hgt h; rw [ltB_irr] at this; cases this
          have hB2 : (x.k.toList == (leafF body).toList) = false := by
            rw [beq_eq_false_iff_ne]
            intro h
            rw [BA.ext' h, ltB_irr] at hgt; cases hgt
          have HFL2 : Hid (true = decide (pos xs (leafF body) < k + 1)) := Lib.hid (by simp; omega)
          have HY2 : Hid (ys ++ [⟨leafF body, body, 1⟩] ++ [x] = outF xs (pos xs (leafF body)) ⟨leafF body, body, 1⟩ (k + 1)) := Lib.hid (by rw [HKP.out, outF_at HX.out, HY.out, HKP.out])
          clear hgt
          obtain ⟨kk, bb, rr⟩ := x
          simp only at h0 h1 h2 hB1 hB2
          have q3 := row_new wr #[.string kk, .string bb, .int .i64 rr] 29
          have hE : Below wr.heap.size wr (wr.alloc (.cells #[.string kk, .string bb, .int .i64 rr] 29)) := below1 wr _
          have hrow := HROW.out.below hE
          have hown := ownsRow_below HOWN.out hE
          have E1 := Lib.hid (E.out.same hE)
          have c0 := q3.cell (i := 0) rfl
          have c1 := q3.cell (i := 1) rfl
          have c2 := q3.cell (i := 2) rfl
          have c3 := hrow.cell (i := 0) rfl
          have hsz : w3.heap.size < (wr.alloc (.cells #[.string kk, .string bb, .int .i64 rr] 29)).heap.size := Nat.lt_of_lt_of_le hMl hE.size
          have HR1 := Lib.hid hrow
          have HO1 := Lib.hid hown
          have HQ3 := Lib.hid q3
          clear hE q3 hrow hown
          have hown := HO1.out
          go_upto_region 24 with (at_builtin; refine wpList_append_lies _ rfl _ _ 22 rfl (w3.heap.size + 1) 29 i0 _ 3 40 Tryd.underlying22 hi hz0 hz1 hz2 rfl (by decide) _ _ _ rfl (hown.alloc _) _ 1 1 [.string (leafF body), .string body, .int .i64 1] rfl rfl (cell_new3b _ _ _ _ _ (by simp)) (by simp [Value.oneCell']) (by decide) (by unfold maxLen; omega) (by omega) (by simp; omega) _ rfl ?_; intro g cap' w2 hown' hgrow hg hglt; obtain ⟨hcell, hfz, HA, HV⟩ := out_step (x := ⟨leafF body, body, 1⟩) HR1.out HO1.out hown' hgrow; have HK := Lib.hid (out_keep (M := w3.heap.size) (v := .slice (some ⟨g, 0, none⟩) (ys.length + 1) cap') hgrow (h := wr.heap.size) (by simp) (by omega) (fun ad had => by have := (HOWN.out.lt ad.block (by rw [had]; rfl)).2; omega)); clear hown' hgrow hg hglt)
          generalize hW5 : w2.setCell ⟨w3.heap.size, 0, none⟩ (.slice (some ⟨g, 0, none⟩) (ys.length + 1) cap') = w5 at *
          clear hW5 hown c0 c1 c2 c3 hcell hfz hsz
          have E5 := Lib.hid (E1.out.step (by omega) HV.out HA.out)
          obtain ⟨ao2, co2, hrow2, hown⟩ := HA.out.form
          have q5 : Row w5 wr.heap.size 29 [.string kk, .string bb, .int .i64 rr] := HQ3.out.keep HK.out
          have c0 := q5.cell (i := 0) rfl
          have c1 := q5.cell (i := 1) rfl
          have c2 := q5.cell (i := 2) rfl
          have c3 := hrow2.cell (i := 0) rfl
          have hsz := hrow2.lt
          have HR5 := Lib.hid hrow2
          have HO5 := Lib.hid hown
          have hyl2 : (ys ++ [(⟨leafF body, body, 1⟩ : Itm)]).length ≤ 5001 := by simp; omega
          obtain ⟨zs, HZS⟩ : ∃ zs, Hid (zs = ys ++ [(⟨leafF body, body, 1⟩ : Itm)]) := ⟨_, Lib.hid rfl⟩
          rw [← HZS.out] at c3 hyl2 hown
          have HR6 : Hid (Row w5 w3.heap.size 24 [.slice ao2 zs.length co2]) := Lib.hid (by rw [HZS.out]; exact HR5.out)
          have HO6 : Hid (Own w5 (w3.heap.size + 1) (.slice ao2 zs.length co2) zs) := Lib.hid (by rw [HZS.out]; exact HO5.out)
          clear hrow2 q5
          go_wp2_with (at_builtin; refine wpList_append_lies _ rfl _ _ 22 rfl (w3.heap.size + 1) 29 i0 _ 3 40 Tryd.underlying22 hi hz0 hz1 hz2 rfl (by decide) _ _ _ rfl (hown.alloc _) _ 1 1 [.string kk, .string bb, .int .i64 rr] rfl rfl (cell_new3b _ _ _ _ _ (by simp)) (by simp [Value.oneCell']) (by decide) (by unfold maxLen; omega) (by omega) (by simp; omega) _ rfl ?_; intro g7 cap7 w7 hown' hgrow hg hglt; obtain ⟨hcell7, hfz7, HA7, HV7⟩ := out_step (x := ⟨kk, bb, rr⟩) HR6.out HO6.out hown' hgrow; clear hown' hgrow hg hglt)
          have HE2 := Lib.hid (E5.out.step (by omega) HV7.out HA7.out)
          go_roundw
          case rel => exact ⟨k + 1, zs ++ [⟨kk, bb, rr⟩], true, by omega, rfl, by go_num, by rw [HZS.out, HY2.out]; have := outF_length_le xs (pos xs (leafF body)) ⟨leafF body, body, 1⟩ (k + 1) (by omega); omega, HFL2, Lib.hid (by rw [HZS.out]; exact HY2.out), HE2⟩
          case measure => simp [intOf]; omega
    · have HKN : Hid (k = xs.length) := Lib.hid (by omega)
      cases fl with
      | true =>
        have HYE : Hid (ys = insF xs (pos xs (leafF body)) ⟨leafF body, body, 1⟩) := Lib.hid (by have := HFL.out; rw [HY.out, HKN.out, outF_end (by rw [← HKN.out]; simpa using this.symm)])
        have c3 := HROW.out.cell (i := 0) rfl
        have f2 := E.out.res.cell (i := 0) rfl
        have f3 := E.out.res.thaw 0
        have hbut : But (w.heap.size + 1) wr (wr.setCell ⟨w.heap.size + 1, 0, none⟩ (.slice ao ys.length co)) := (But.refl _ _).set _ _
        have g1 := (E.out.res.set 0 (.slice ao ys.length co)).cell (i := 0) rfl
        obtain ⟨a5, c5, hv5, -, hI5⟩ := InI.of_owns (owns_but HOWN.out hbut (by omega))
        have HV5 := Lib.hid hv5
        have HI5 := Lib.hid hI5
        have HB5 := Lib.hid (E.out.bel.trans (hbut.below (B := w.heap.size) (by omega)))
        clear hv5 hI5 hbut
        go_wp2
        exact bodyPost_ret (v := .tuple #[.agg #[.slice ao ys.length co], .string (leafF body), .int .i64 0]) (by simp [results, Tryd.results15, go_sem, g1]) rfl ⟨a5, c5, by rw [← HYE.out, HV5.out], by rw [← HYE.out]; exact HI5.out, HB5.out⟩
      | false =>
        have hpn : pos xs (leafF body) = xs.length := by
          have h1 := HFL.out
          have h2 : k ≤ pos xs (leafF body) := by simpa using h1.symm
          have := HKN.out
          omega
        have HYE : Hid (ys ++ [⟨leafF body, body, 1⟩] = insF xs (pos xs (leafF body)) ⟨leafF body, body, 1⟩) := Lib.hid (by rw [HY.out, HKN.out, outF_last hpn])
        clear hpn
        have c3 := HROW.out.cell (i := 0) rfl
        have hown := HOWN.out
        go_upto_region 28 with (at_builtin; refine wpList_append_lies _ rfl _ _ 22 rfl (w3.heap.size + 1) 29 i0 _ 3 40 Tryd.underlying22 hi hz0 hz1 hz2 rfl (by decide) _ _ _ rfl (hown.alloc _) _ 1 1 [.string (leafF body), .string body, .int .i64 1] rfl rfl (cell_new3b _ _ _ _ _ (by simp)) (by simp [Value.oneCell']) (by decide) (by unfold maxLen; omega) (by omega) (by simp; omega) _ rfl ?_; intro g cap' w2 hown' hgrow hg hglt; obtain ⟨hcell, hfz, HA, HV⟩ := out_step (x := ⟨leafF body, body, 1⟩) HROW.out HOWN.out hown' hgrow; clear hown' hgrow hg hglt)
        generalize hW5 : w2.setCell ⟨w3.heap.size, 0, none⟩ (.slice (some ⟨g, 0, none⟩) (ys.length + 1) cap') = w5 at *
        clear hW5 hown c3 hcell hfz
        have E5 := Lib.hid (E.out.step (by omega) HV.out HA.out)
        obtain ⟨zs, HZS⟩ : ∃ zs, Hid (zs = ys ++ [(⟨leafF body, body, 1⟩ : Itm)]) := ⟨_, Lib.hid rfl⟩
        obtain ⟨ao2, co2, hrow2, hown⟩ := HA.out.form
        rw [← HZS.out] at hrow2 hown
        have HR5 := Lib.hid hrow2
        have HO5 := Lib.hid hown
        have HZE : Hid (zs = insF xs (pos xs (leafF body)) ⟨leafF body, body, 1⟩) := Lib.hid (by rw [HZS.out]; exact HYE.out)
        clear hrow2 hown
        have c3 := HR5.out.cell (i := 0) rfl
        have f2 := E5.out.res.cell (i := 0) rfl
        have f3 := E5.out.res.thaw 0
        have hbut : But (w.heap.size + 1) w5 (w5.setCell ⟨w.heap.size + 1, 0, none⟩ (.slice ao2 zs.length co2)) := (But.refl _ _).set _ _
        have g1 := (E5.out.res.set 0 (.slice ao2 zs.length co2)).cell (i := 0) rfl
        obtain ⟨a5, c5, hv5, -, hI5⟩ := InI.of_owns (owns_but HO5.out hbut (by omega))
        have HV5 := Lib.hid hv5
        have HI5 := Lib.hid hI5
        have HB5 := Lib.hid (E5.out.bel.trans (hbut.below (B := w.heap.size) (by omega)))
        clear hv5 hI5 hbut
        go_wp2
        exact bodyPost_ret (v := .tuple #[.agg #[.slice ao2 zs.length co2], .string (leafF body), .int .i64 0]) (by simp [results, Tryd.results15, go_sem, g1]) rfl ⟨a5, c5, by rw [← HZE.out, HV5.out], by rw [← HZE.out]; exact HI5.out, HB5.out⟩

theorem rput_any (w : World) (a : Option Addr) (cap : Nat) (xs : List Itm) (body : BA) (ha : Arg w a cap xs) (ht : Tab w) (hbs : body.size ≤ 140737488351232) {ys : List Itm} {k : BA} {er : Int} (h : PutCase xs body ys k er) :
    Calls Tryd.prog 15 #[.agg #[.slice a xs.length cap], .string body] w (PutPost ys k er w) := by
  cases h with
  | bad hr => exact rput_bad w a cap xs body ha ht hbs hr
  | none hr h0 => exact rput_none w a cap xs body ha ht hbs hr h0
  | long hr h1 => exact rput_long w a cap xs body ha ht hbs hr h1
  | rot x hr h0 h1 hf hc => exact rput_rot w a cap xs body ha ht hbs hr h0 h1 x hf hc
  | full x hr h0 h1 hf hc hx => exact rput_full w a cap xs body ha ht hbs hr h0 h1 x hf hc hx
  | more x hr h0 h1 hf hc hx => exact rput_more w a cap xs body ha ht hbs hr h0 h1 x hf hc hx
  | many hr h0 h1 hn hx => exact rput_many w a cap xs body ha ht hbs hr h0 h1 hn hx
  | new hr h0 h1 hn hx => exact rput_new w a cap xs body ha ht hbs hr h0 h1 hn hx
end Go.Proofs.YtmaafhhdbhkplaaDoor
