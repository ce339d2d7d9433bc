/- Parse, by package catalog. -/
import Derived.Test.YtdnedbcmgkilaaaGreatDoorZTb

section

namespace Go.Proofs.YtdnedbcmgkilaaaGreatDoor.Ca
open Go.RowKit Go.Proofs.YtdnedbcmgkilaaaGreatDoor

theorem parse_bad {l : List UInt8} {e k : Nat} (h : Co.getF l = .bad e k) : parseC l = .error e := by unfold parseC; rw [h]
theorem parse_form {l : List UInt8} {t : Co.Tree} {k : Nat} (h : Co.getF l = .ok t k) (ho : ofT t = none) : parseC l = .error 110 := by unfold parseC; rw [h]; simp only; rw [ho]
theorem parse_no {l : List UInt8} {t : Co.Tree} {k : Nat} {xs : List Ent} (h : Co.getF l = .ok t k) (ho : ofT t = some xs) (hr : rightC xs ≠ 0) : parseC l = .error (rightC xs) := by unfold parseC; rw [h]; simp only; rw [ho]; simp only; rw [if_pos hr]
theorem parse_yes {l : List UInt8} {t : Co.Tree} {k : Nat} {xs : List Ent} (h : Co.getF l = .ok t k) (ho : ofT t = some xs) (hr : rightC xs = 0) : parseC l = .ok xs := by unfold parseC; rw [h]; simp only; rw [ho]; simp only; rw [if_neg (by rw [hr]; simp)]
theorem ofL_snoc : ∀ {ts : List Co.Tree} {t : Co.Tree} {xs : List Ent} {x : Ent}, ofL ts = some xs → ofE t = some x → ofL (ts ++ [t]) = some (xs ++ [x])
  | [], t, xs, x, h, hx => by
    rw [ofL] at h; cases h
    show ofL [t] = some [x]
    rw [ofL, hx, ofL]
  | u :: r, t, xs, x, h, hx => by
    rw [ofL] at h
    cases hu : ofE u with
    | none => rw [hu] at h; cases h
    | some y =>
      cases hr : ofL r with
      | none => rw [hu, hr] at h; cases h
      | some ys =>
        rw [hu, hr] at h; cases h
        show ofL (u :: (r ++ [t])) = some (y :: (ys ++ [x]))
        rw [ofL, hu, ofL_snoc hr hx]
theorem ofL_no : ∀ {ts : List Co.Tree} {k : Nat} {t : Co.Tree}, ts[k]? = some t → ofE t = none → ofL ts = none
  | [], k, t, h, _ => by simp at h
  | u :: r, 0, t, h, hn => by
    obtain rfl : u = t := by simpa using h
    rw [ofL, hn]
  | u :: r, k + 1, t, h, hn => by
    rw [ofL, ofL_no (ts := r) (k := k) (by simpa using h) hn]
    cases ofE u <;> rfl
theorem take_snoc {α : Type} {xs : List α} {k : Nat} {x : α} (h : xs[k]? = some x) : xs.take (k + 1) = xs.take k ++ [x] := by
  obtain ⟨hlt, rfl⟩ := List.getElem?_eq_some_iff.1 h
  rw [List.take_succ_eq_append_getElem hlt]
theorem len_nodesL : ∀ ts : List Co.Tree, ts.length ≤ Co.nodesL ts
  | [] => by simp
  | t :: r => by
    have := len_nodesL r
    rw [Co.nodesL, List.length_cons]
    have h1 : 1 ≤ Co.nodes t := by cases t <;> rw [Co.nodes] <;> omega
    omega
theorem enc_txt_len (s : BA) : s.size ≤ (Co.enc (txT s)).length := by
  rw [Co.enc, List.length_append, List.length_cons, len_ba]; omega
theorem fit_of_enc {x : Ent} (h : (Co.enc (entT x)).length ≤ 131072) : FitE x := by
  have k1 := enc_txt_len x.loc
  have k2 := enc_txt_len x.key
  have k3 := enc_txt_len x.pat
  unfold entT at h
  simp only [Co.enc, Co.encL, List.length_append, List.length_cons, List.length_nil] at h k1 k2 k3
  exact ⟨by omega, by omega, by omega⟩
theorem enc_mem : ∀ {l : List Ent} {x : Ent}, x ∈ l → (Co.enc (entT x)).length ≤ (Co.encL (l.map entT)).length
  | e :: r, x, h => by
    rw [List.map_cons, Co.encL, List.length_append]
    rcases List.mem_cons.1 h with rfl | h
    · omega
    · have := enc_mem h; omega
theorem fit_of_ofL {ts : List Co.Tree} {l : List Ent} (h : ofL ts = some l) (hl : (Co.enc (.list ts)).length ≤ 131072) : ∀ x, x ∈ l → FitE x := fun x hx => by
  rw [ofL_some h] at hl
  have := enc_mem hx
  rw [Co.enc, List.length_cons, List.length_append] at hl
  exact fit_of_enc (by omega)
/-- One entry appended to what is under way. -/
theorem app_ent {W0 W : World} {B : Nat} {v : Value} {out : List Ent} (ho : Own W B v out) (hb : Below W0.heap.size W0 W) (hB : W0.heap.size ≤ B) (hBW : B ≤ W.heap.size) (hl : out.length ≤ 10000) (y : Ent) :
    ∃ v' w', Hid ((Builtin.append_ #[22, 22] 22 #[v, .slice (some ⟨W.heap.size, 0, none⟩) 1 1]).run Tryz.prog (W.alloc (.cells (enC y) 38)) = .ok v' w') ∧ Hid (Own w' B v' (out ++ [y])) ∧ Hid (Below W0.heap.size W0 w') := by
  have hb1 := below1 W (.cells (enC y) 38)
  obtain ⟨v', w', hr, h2, h3, -⟩ := run_append_ent (W.alloc (.cells (enC y) 38)) 22 B v out (ownsRow_below ho hb1) (some ⟨W.heap.size, 0, none⟩) 1 [y] (one_sl (row_new W (enC y) 38)) (by simp; omega) (by rw [World.size_alloc]; omega)
  have h9 := below_trans hb hb1
  refine ⟨v', w', Lib.hid hr, Lib.hid h2, Lib.hid ⟨h3.os.trans h9.os, h3.tape.trans h9.tape, h3.output.trans h9.output, Nat.le_trans h9.size h3.size, fun k hk => (h3.block k (Nat.lt_of_lt_of_le hk h9.size) (fun e => ?_)).trans (h9.block k hk)⟩⟩
  have := (ho.lt k e.symm).1
  omega

set_option maxHeartbeats 6400000 in
set_option maxRecDepth 100000 in
theorem parse_any (s : BA) (w : World) (hs : s.size ≤ 140737488351232) (hE : EnvC w) : Calls Tryz.prog 18 #[.string s] w (ApplyP (parseC s.data.toList) w) := by
  have HG := Lib.hid (Co.get_any s w hs)
  have HE := Lib.hid hE
  clear hE
  cases hg : Co.getF s.data.toList with
  | bad e k =>
    have HP := Lib.hid (parse_bad hg)
    have hB := ne0 (Co.getF_bad hg).2
    rw [hg] at HG
    clear hg
    go_enter Tryz.func18, Tryz.ntmps18
    go_wp2_with fail
    refine HG.out.mono ?_
    rintro e1 w1 ⟨rfl, hb1⟩
    have HB1 := Lib.hid (below_trans hb1 (below1 w1 (.cells zV 60)))
    clear hb1
    go_wp2
    go_ret2
    exact ApplyP.no HP.out HB1.out
  | ok t k =>
    have HSND := Lib.hid (Co.getF_sound hg)
    rw [hg] at HG
    cases t with
    | num n =>
      have HP := Lib.hid (parse_form hg (rfl : ofT (.num n) = none))
      clear hg HSND
      go_enter Tryz.func18, Tryz.ntmps18
      go_wp2_with fail
      refine HG.out.mono ?_
      rintro e1 w1 ⟨⟨v, rfl, hr⟩, hb1⟩
      rw [Co.Rep] at hr; subst hr
      have c0 := (row_new w1 #[.int .i64 1, .int .i64 n, .string ⟨#[]⟩, .slice none 0 0] 60).cell (i := 0) rfl
      have HB1 := Lib.hid (below_trans hb1 (below1 w1 (.cells #[.int .i64 1, .int .i64 n, .string ⟨#[]⟩, .slice none 0 0] 60)))
      clear hb1
      go_wp2
      go_ret2
      exact ApplyP.no HP.out HB1.out
    | text bs =>
      have HP := Lib.hid (parse_form hg (rfl : ofT (.text bs) = none))
      clear hg HSND
      go_enter Tryz.func18, Tryz.ntmps18
      go_wp2_with fail
      refine HG.out.mono ?_
      rintro e1 w1 ⟨⟨v, rfl, hr⟩, hb1⟩
      rw [Co.Rep] at hr; subst hr
      have c0 := (row_new w1 #[.int .i64 2, .int .i64 0, .string ⟨bs.toArray⟩, .slice none 0 0] 60).cell (i := 0) rfl
      have HB1 := Lib.hid (below_trans hb1 (below1 w1 (.cells #[.int .i64 2, .int .i64 0, .string ⟨bs.toArray⟩, .slice none 0 0] 60)))
      clear hb1
      go_wp2
      go_ret2
      exact ApplyP.no HP.out HB1.out
    | list ts =>
      have HNO := Lib.hid (fun ho => parse_form hg ho)
      have HN2 := Lib.hid (fun xs ho hr => parse_no (xs := xs) hg ho hr)
      have HYES := Lib.hid (fun xs ho hr => parse_yes (xs := xs) hg ho hr)
      have HTS : Hid (ts.length ≤ 4000 ∧ (Co.enc (.list ts)).length ≤ 131072) := Lib.hid (by
        obtain ⟨-, h1, h2, h3, -⟩ := HSND.out
        refine ⟨?_, by rw [h1]; exact h2⟩
        have := len_nodesL ts
        rw [Co.nodes] at h3; omega)
      clear hg HSND
      go_enter Tryz.func18, Tryz.ntmps18
      go_wp2_with fail
      refine HG.out.mono ?_
      rintro e1 w1 ⟨⟨v, rfl, hr⟩, hb1⟩
      obtain ⟨a, cap, us, rfl, ho, hra⟩ := rep_list (Co.Rep.s24 _ _ hr)
      obtain ⟨L, HL⟩ : ∃ L, Hid (L = ts.length) := ⟨_, Lib.hid rfl⟩
      have hL4 : L ≤ 4000 := by have := HTS.out.1; have := HL.out; omega
      have HO := Lib.hid ho
      have HR := Lib.hid hra
      rw [← HL.out]
      have R := row_new w1 (lsC (.slice a L cap)) 60
      have c0 := R.cell (i := 0) rfl
      have c3 := R.cell (i := 3) rfl
      have HBW := Lib.hid hb1
      have HB2 := Lib.hid (below1 w1 (.cells (lsC (.slice a L cap)) 60))
      clear hb1 R hr ho hra HG
      go_wp2
      generalize w1.alloc (.cells (lsC (.slice a L cap)) 60) = w2 at *
      clear c0 c3
      go_loopw [7, 28] (fun v i wr => ∃ (k : Nat) (xs : List Ent), k ≤ L ∧ i = .int .i64 k ∧ Hid (xs.length = k ∧ ofL (ts.take k) = some xs) ∧ Hid (Own wr w1.heap.size v xs) ∧ Hid (Below w1.heap.size w1 wr)) (fun _ i _ => L - (intOf i).toNat)
      case atStart => exact ⟨0, [], Nat.zero_le _, rfl, Lib.hid ⟨rfl, rfl⟩, Lib.hid (World.ownsRow_nil _ _ _ _), HB2⟩
      case round =>
        obtain ⟨k, xs, hk, rfl, HX, HOW, HB⟩ := hrel
        clear HB2
        by_cases hlt : k < L
        · obtain ⟨t, ht⟩ : ∃ t, ts[k]? = some t := ⟨_, List.getElem?_eq_getElem (by have := HL.out; omega)⟩
          obtain ⟨g, e1, e2, e3, e4, e5, e6, rfl, hrk, hcells⟩ := Co.kid_at HO.out HR.out ht
          obtain ⟨hgl, k0, k1, k2, k3⟩ := hcells wr (Co.K24.below HB.out)
          have HTK := Lib.hid ht
          have HTS2 := Lib.hid (take_snoc ht)
          have R := row_new wr #[.int .i64 e1, .int .i64 e2, .string e3, .slice e4 e5 e6] 60
          have d0 := R.cell (i := 0) rfl
          have d1 := R.cell (i := 1) rfl
          have d2 := R.cell (i := 2) rfl
          have d3 := R.cell (i := 3) rfl
          have HTO := Lib.hid (told_any t _ (wr.alloc (.cells #[.int .i64 e1, .int .i64 e2, .string e3, .slice e4 e5 e6] 60)) (hrk.k24 (Co.K24.below (below_trans HB.out (below1 _ _)))))
          have HBA := Lib.hid (below_trans HB.out (below1 wr (.cells #[.int .i64 e1, .int .i64 e2, .string e3, .slice e4 e5 e6] 60)))
          have HOA := Lib.hid (ownsRow_below HOW.out (below1 wr (.cells #[.int .i64 e1, .int .i64 e2, .string e3, .slice e4 e5 e6] 60)))
          clear R hrk hcells ht HOW HB
          cases hot : ofE t with
          | none =>
            have HP := Lib.hid (HNO.out (ofL_no HTK.out hot))
            rw [hot] at HTO
            clear hot
            go_wp2_with fail
            generalize wr.alloc (.cells #[.int .i64 e1, .int .i64 e2, .string e3, .slice e4 e5 e6] 60) = w4 at *
            refine HTO.out.mono ?_
            rintro e w5 ⟨hb5, rfl⟩
            have HB5 := Lib.hid (below_trans HBW.out (below_trans HBA.out (below_trans hb5 (below1 w5 (.cells #[.string ⟨#[]⟩, .string ⟨#[]⟩, .string ⟨#[]⟩] 38)))))
            clear hb5 d0 d1 d2 d3
            go_wp2
            go_ret2
            exact ApplyP.no HP.out HB5.out
          | some x =>
            have HXN := Lib.hid (ofL_snoc HX.out.2 hot)
            rw [← HTS2.out] at HXN
            rw [hot] at HTO
            clear hot
            have HAP := Lib.hid (fun (W : World) (hb : Below (wr.alloc (.cells #[.int .i64 e1, .int .i64 e2, .string e3, .slice e4 e5 e6] 60)).heap.size (wr.alloc (.cells #[.int .i64 e1, .int .i64 e2, .string e3, .slice e4 e5 e6] 60)) W) => app_ent (W0 := w1) (ownsRow_below HOA.out hb) (below_trans HBA.out hb) (Nat.le_refl _) (Nat.le_trans HBA.out.size hb.size) (by have := HX.out.1; omega) x)
            obtain ⟨xl, xk, xp⟩ := x
            go_wp2_with fail
            generalize wr.alloc (.cells #[.int .i64 e1, .int .i64 e2, .string e3, .slice e4 e5 e6] 60) = w4 at *
            refine HTO.out.mono ?_
            rintro e w5 ⟨hb5, rfl⟩
            obtain ⟨v7, w7, HR7, HO7, HB7⟩ := HAP.out _ (below_trans hb5 (below1 w5 (.cells #[.string xl, .string xk, .string xp] 38)))
            have R := row_new w5 #[.string xl, .string xk, .string xp] 38
            have q0 := R.cell (i := 0) rfl
            have q1 := R.cell (i := 1) rfl
            have q2 := R.cell (i := 2) rfl
            simp only [World.size_alloc] at HR7
            clear hb5 R d0 d1 d2 d3 HTO HOA HBA HAP
            go_wp2_with (at_builtin; refine stop_here ?_)
            refine Lib.hid ?_
            refine Lib.wpList_append_run _ rfl (.tmp 39) (.tmp 41) 22 22 rfl _ (.slice (some ⟨_, 0, none⟩) 1 1) ?hs ?hx _ _ HR7.out ?_
            case hs => rfl
            case hx => rfl
            go_wp2
            go_roundw
            case rel => exact ⟨k + 1, xs ++ [⟨xl, xk, xp⟩], by omega, by go_num, Lib.hid ⟨by rw [List.length_append, HX.out.1]; rfl, HXN.out⟩, HO7, HB7⟩
            case measure => simp [intOf]; omega
        · have HXA : Hid (ofL ts = some xs) := Lib.hid (by have h1 := HX.out.2; rw [List.take_of_length_le (by have := HL.out; omega)] at h1; exact h1)
          have HBZ := Lib.hid (below_trans HBW.out HB.out)
          have HFT := Lib.hid (fit_of_ofL HXA.out HTS.out.2)
          obtain ⟨a9, c9, hv9, -⟩ := owns_form HOW.out
          subst hv9
          have HSL := Lib.hid HOW.out.sl
          have HRI := Lib.hid (right_any wr a9 c9 xs HSL.out HFT.out (HE.out.below HBZ.out))
          obtain ⟨n9, HN9⟩ : ∃ n, Hid (n = xs.length) := ⟨_, Lib.hid rfl⟩
          have hle := rightC_le xs
          obtain ⟨q, HQ⟩ : ∃ q, Hid (q = rightC xs) := ⟨_, Lib.hid rfl⟩
          rw [← HN9.out, ← HQ.out] at HRI
          rw [← HQ.out] at hle
          rw [← HN9.out]
          by_cases h0 : q = 0
          · have HP := Lib.hid (HYES.out xs HXA.out (by rw [← HQ.out]; exact h0))
            subst h0
            go_wp2_with fail
            refine HRI.out.mono ?_
            rintro e w5 ⟨rfl, hb5⟩
            have HB5 := Lib.hid (below_trans HBZ.out hb5)
            have HS5 := Lib.hid (HSL.out.old hb5)
            clear hb5
            go_wp2
            go_ret2
            rw [HN9.out]
            exact ApplyP.yes HP.out HS5.out HB5.out
          · have HP := Lib.hid (HN2.out xs HXA.out (by rw [← HQ.out]; exact h0))
            have hqb := ne0 h0
            rw [← HQ.out] at HP
            clear h0
            go_wp2_with fail
            refine HRI.out.mono ?_
            rintro e w5 ⟨rfl, hb5⟩
            have HB5 := Lib.hid (below_trans HBZ.out hb5)
            clear hb5
            go_wp2
            go_ret2
            exact ApplyP.no HP.out HB5.out
end Go.Proofs.YtdnedbcmgkilaaaGreatDoor.Ca

end

/- CatalogBack: what the law answers. -/
section

namespace Go.Proofs.YtdnedbcmgkilaaaGreatDoor.Ca
open Go.RowKit Go.Proofs.YtdnedbcmgkilaaaGreatDoor

theorem parse_err {l : List UInt8} {k : Nat} (h : parseC l = .error k) : k ≠ 0 := by
  unfold parseC at h
  cases hg : Co.getF l with
  | bad e j => rw [hg] at h; cases h; exact (Co.getF_bad hg).2
  | ok t j =>
    rw [hg] at h
    simp only at h
    cases ht : ofT t with
    | none => rw [ht] at h; cases h; decide
    | some m =>
      rw [ht] at h
      simp only at h
      split at h
      · rename_i hr; cases h; exact hr
      · cases h
theorem fit_rgt {l : List Ent} (h : Rgt l) : ∀ x, x ∈ l → FitE x := fun x hx => by
  obtain ⟨h1, h2, h3⟩ := may_tx (h.may x hx)
  exact ⟨by omega, by omega, by omega⟩
theorem bytes_s {w : World} {v : Value} {n : List Ent} {s : BA} (h : Calls Tryz.prog 16 #[v] w fun e w' => e = .returned (.tuple #[.string ⟨(bytesC n).1.toArray⟩, .int .i64 (bytesC n).2]) ∧ Below w.heap.size w w') (hb : bytesC n = (s.data.toList, 0)) :
    Calls Tryz.prog 16 #[v] w fun e w' => e = .returned (.tuple #[.string s, .int .i64 0]) ∧ Below w.heap.size w w' := by
  rw [hb] at h
  simp only [str_eta] at h
  exact h
theorem right_0 {w : World} {v : Value} {n : List Ent} (h : Calls Tryz.prog 13 #[v] w fun e w' => e = .returned (.int .i64 (rightC n)) ∧ Below w.heap.size w w') (hr : Rgt n) :
    Calls Tryz.prog 13 #[v] w fun e w' => e = .returned (.int .i64 0) ∧ Below w.heap.size w w' := by
  rw [rightC_0.2 hr] at h
  exact h
theorem bytes_k {w : World} {v : Value} {n : List Ent} {k : Nat} (h : Calls Tryz.prog 16 #[v] w fun e w' => e = .returned (.tuple #[.string ⟨(bytesC n).1.toArray⟩, .int .i64 (bytesC n).2]) ∧ Below w.heap.size w w') (hb : bytesC n = ([], (k : Int))) :
    Calls Tryz.prog 16 #[v] w fun e w' => e = .returned (.tuple #[.string ⟨#[]⟩, .int .i64 k]) ∧ Below w.heap.size w w' := by
  rw [hb] at h
  exact h
theorem bytes_els {l : List Ent} (h : ¬ (Rgt l ∧ (Co.enc (catT l)).length ≤ 131072)) : ∃ k : Nat, bytesC l = ([], (k : Int)) ∧ k ≠ 0 := by
  by_cases hr : Rgt l
  · exact ⟨2, bytes_long hr (Nat.lt_of_not_le (fun h2 => h ⟨hr, h2⟩)), by decide⟩
  · exact ⟨rightC l, bytes_bad hr, fun e => hr (rightC_0.1 e)⟩

set_option maxHeartbeats 6400000 in
set_option maxRecDepth 100000 in
theorem back_any (w : World) (a : Option Addr) (cap : Nat) (xs : List Ent) (s : BA) (hX : SlE w (Old w) (.slice a xs.length cap) xs) (hF : ∀ x, x ∈ xs → FitE x) (hs : s.size ≤ 140737488351232) (hE : EnvC w) :
    Calls Tryz.prog 6 #[.slice a xs.length cap, .string s] w fun e w' => e = .returned (.bool true) ∧ Below w.heap.size w w' := by
  have HFW := Lib.hid (few_any w a cap xs hX)
  obtain ⟨L0, HL0⟩ : ∃ L, Hid (L = xs.length) := ⟨_, Lib.hid rfl⟩
  rw [← HL0.out] at HFW ⊢
  have hF' : ∀ x, x ∈ fewF xs → FitE x := fun x hx => hF x (few_mem hx)
  clear hX hF HL0
  generalize fewF xs = ys at *
  obtain ⟨L, HL⟩ : ∃ L, Hid (L = ys.length) := ⟨_, Lib.hid rfl⟩
  rw [← HL.out] at HFW
  have HF := Lib.hid hF'
  have HE := Lib.hid hE
  have HPS := Lib.hid (fun W (hb : Below w.heap.size w W) => parse_any s W hs (hE.below hb))
  have HAV := Lib.hid (fun W (hb : Below w.heap.size w W) => alive_any W (hE.below hb))
  clear hF' hE
  go_enter Tryz.func6, Tryz.ntmps6
  go_wp2_with fail
  refine HFW.out.mono ?_
  rintro e w1 ⟨rfl, rfl, hX⟩
  have HXW : Hid (∀ W, Below w.heap.size w W → SlE W (Old W) (.slice a ys.length cap) ys) := Lib.hid (fun W hb => by rw [← HL.out]; exact hX.old hb)
  have hBY := bytes_any w a cap ys (HXW.out w (Below.refl _ _)) HF.out HE.out
  clear hX HFW
  by_cases hA : Rgt ys ∧ (Co.enc (catT ys)).length ≤ 131072
  · obtain ⟨T, HT⟩ : ∃ T : BA, Hid (T = ⟨(Co.enc (catT ys)).toArray⟩) := ⟨_, Lib.hid rfl⟩
    have HTL : Hid (T.data.toList = Co.enc (catT ys)) := Lib.hid (by rw [HT.out])
    have HBY := Lib.hid (bytes_s (s := T) hBY (by rw [HTL.out]; exact bytes_yes hA.1 hA.2))
    have HPT := Lib.hid (fun W (hb : Below w.heap.size w W) => parse_any T W (by rw [← len_ba, HTL.out]; omega) (HE.out.below hb))
    rw [HTL.out, parse_bytes hA.1 hA.2] at HPT
    rw [← HL.out] at HBY
    clear hBY hA HT HTL
    go_wp2_with fail
    refine HBY.out.mono ?_
    rintro e w2 ⟨rfl, hb2⟩
    have HB2 := Lib.hid hb2
    have HP2 := Lib.hid (HPT.out w2 hb2)
    clear hb2 HBY HPT
    go_wp2_with fail
    refine HP2.out.mono ?_
    rintro e w3 ⟨hb3, a3, c3, rfl, hs3⟩
    have HB3 := Lib.hid (below_trans HB2.out hb3)
    have HLK := Lib.hid (like_any w3 a a3 cap c3 ys (HXW.out w3 HB3.out) hs3)
    rw [← HL.out] at HLK ⊢
    clear hb3 hs3 HP2
    go_wp2_with fail
    refine HLK.out.mono ?_
    rintro e w4 ⟨rfl, hb4⟩
    have HB4 := Lib.hid (below_trans HB3.out hb4)
    clear hb4 HLK
    obtain ⟨r, HR⟩ : ∃ r, Hid (r = parseC s.data.toList) := ⟨_, Lib.hid rfl⟩
    have HP8 := Lib.hid (HPS.out w4 HB4.out)
    rw [← HR.out] at HP8
    clear HPS
    cases r with
    | error k8 =>
      have hk8 := ne0 (parse_err HR.out.symm)
      go_wp2_with fail
      refine HP8.out.mono ?_
      rintro e w8 ⟨hb8, rfl⟩
      have HB8 := Lib.hid (below_trans HB4.out hb8)
      have HV8 := Lib.hid (HAV.out w8 HB8.out)
      clear hb8 HP8
      go_wp2_with fail
      refine HV8.out.mono ?_
      rintro e w9 ⟨rfl, hb9⟩
      have HB9 := Lib.hid (below_trans HB8.out hb9)
      clear hb9
      go_wp2
      go_ret
      exact ⟨rfl, HB9.out⟩
    | ok n =>
      have HN := Lib.hid (bytes_parse HR.out.symm)
      go_wp2_with fail
      refine HP8.out.mono ?_
      rintro e w8 ⟨hb8, a8, c8, rfl, hs8⟩
      have HB8 := Lib.hid (below_trans HB4.out hb8)
      have HS8 := Lib.hid hs8
      have HY8 := Lib.hid (bytes_s (bytes_any w8 a8 c8 n hs8 (fit_rgt HN.out.1) (HE.out.below HB8.out)) HN.out.2)
      obtain ⟨n8, HN8⟩ : ∃ m, Hid (m = n.length) := ⟨_, Lib.hid rfl⟩
      rw [← HN8.out] at HY8 HS8 ⊢
      clear hb8 hs8 HP8
      go_wp2_with fail
      refine HY8.out.mono ?_
      rintro e w9 ⟨rfl, hb9⟩
      have HB9 := Lib.hid (below_trans HB8.out hb9)
      have HS9 := Lib.hid (HS8.out.old hb9)
      have HV9 := Lib.hid (HAV.out w9 HB9.out)
      clear hb9 HY8
      go_wp2_with fail
      refine HV9.out.mono ?_
      rintro e w10 ⟨rfl, hb10⟩
      have HB10 := Lib.hid (below_trans HB9.out hb10)
      have hs10 := HS9.out.old hb10
      rw [HN8.out] at hs10
      have HRT := Lib.hid (right_0 (right_any w10 a8 c8 n hs10 (fit_rgt HN.out.1) (HE.out.below HB10.out)) HN.out.1)
      rw [← HN8.out] at HRT
      clear hb10 hs10 HV9
      go_wp2_with fail
      refine HRT.out.mono ?_
      rintro e w11 ⟨rfl, hb11⟩
      have HB11 := Lib.hid (below_trans HB10.out hb11)
      clear hb11
      go_wp2
      go_ret
      exact ⟨rfl, HB11.out⟩
  · obtain ⟨k, hk, hk0⟩ := bytes_els hA
    have HBY := Lib.hid (bytes_k hBY hk)
    have hkb : ((k : Int) == 0) = false := by rw [beq_eq_false_iff_ne]; omega
    rw [← HL.out] at HBY
    clear hBY hA hk hk0
    go_wp2_with fail
    refine HBY.out.mono ?_
    rintro e w4 ⟨rfl, hb4⟩
    have HB4 := Lib.hid hb4
    clear hb4 HBY
    obtain ⟨r, HR⟩ : ∃ r, Hid (r = parseC s.data.toList) := ⟨_, Lib.hid rfl⟩
    have HP8 := Lib.hid (HPS.out w4 HB4.out)
    rw [← HR.out] at HP8
    clear HPS
    cases r with
    | error k8 =>
      have hk8 := ne0 (parse_err HR.out.symm)
      go_wp2_with fail
      refine HP8.out.mono ?_
      rintro e w8 ⟨hb8, rfl⟩
      have HB8 := Lib.hid (below_trans HB4.out hb8)
      have HV8 := Lib.hid (HAV.out w8 HB8.out)
      clear hb8 HP8
      go_wp2_with fail
      refine HV8.out.mono ?_
      rintro e w9 ⟨rfl, hb9⟩
      have HB9 := Lib.hid (below_trans HB8.out hb9)
      clear hb9
      go_wp2
      go_ret
      exact ⟨rfl, HB9.out⟩
    | ok n =>
      have HN := Lib.hid (bytes_parse HR.out.symm)
      go_wp2_with fail
      refine HP8.out.mono ?_
      rintro e w8 ⟨hb8, a8, c8, rfl, hs8⟩
      have HB8 := Lib.hid (below_trans HB4.out hb8)
      have HS8 := Lib.hid hs8
      have HY8 := Lib.hid (bytes_s (bytes_any w8 a8 c8 n hs8 (fit_rgt HN.out.1) (HE.out.below HB8.out)) HN.out.2)
      obtain ⟨n8, HN8⟩ : ∃ m, Hid (m = n.length) := ⟨_, Lib.hid rfl⟩
      rw [← HN8.out] at HY8 HS8 ⊢
      clear hb8 hs8 HP8
      go_wp2_with fail
      refine HY8.out.mono ?_
      rintro e w9 ⟨rfl, hb9⟩
      have HB9 := Lib.hid (below_trans HB8.out hb9)
      have HS9 := Lib.hid (HS8.out.old hb9)
      have HV9 := Lib.hid (HAV.out w9 HB9.out)
      clear hb9 HY8
      go_wp2_with fail
      refine HV9.out.mono ?_
      rintro e w10 ⟨rfl, hb10⟩
      have HB10 := Lib.hid (below_trans HB9.out hb10)
      have hs10 := HS9.out.old hb10
      rw [HN8.out] at hs10
      have HRT := Lib.hid (right_0 (right_any w10 a8 c8 n hs10 (fit_rgt HN.out.1) (HE.out.below HB10.out)) HN.out.1)
      rw [← HN8.out] at HRT
      clear hb10 hs10 HV9
      go_wp2_with fail
      refine HRT.out.mono ?_
      rintro e w11 ⟨rfl, hb11⟩
      have HB11 := Lib.hid (below_trans HB10.out hb11)
      clear hb11
      go_wp2
      go_ret
      exact ⟨rfl, HB11.out⟩
end Go.Proofs.YtdnedbcmgkilaaaGreatDoor.Ca

end
