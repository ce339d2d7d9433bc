/- Parse, by package catalog. -/
import Derived.Deep.RegionHeld3
import Derived.Test.YtdnedbcmgkilaaaGreatDoorZBTb
import Derived.Test.YtdnedbcmgkilaaaGreatDoorZBCRefVal
import Derived.Test.YtdnedbcmgkilaaaGreatDoorZBCGet
import Derived.Test.YtdnedbcmgkilaaaGreatDoorZBg49

section

namespace Go.Proofs.YtdnedbcmgkilaaaGreatDoor.Ca
open Go.RowKit Go.Proofs.YtdnedbcmgkilaaaGreatDoor
theorem parse_bad {l : List UInt8} {e k : Nat} (h : Co.getF l = .bad e k) : parseC l = .error e := by unfold parseC; rw [h]
theorem parse_form {l : List UInt8} {t : Co.Tree} {k : Nat} (h : Co.getF l = .ok t k) (ho : ofT t = none) : parseC l = .error 110 := by unfold parseC; rw [h]; simp only; rw [ho]
theorem parse_no {l : List UInt8} {t : Co.Tree} {k : Nat} {xs : List Ent} (h : Co.getF l = .ok t k) (ho : ofT t = some xs) (hr : rightC xs ≠ 0) : parseC l = .error (rightC xs) := by unfold parseC; rw [h]; simp only; rw [ho]; simp only; rw [if_pos hr]
theorem parse_yes {l : List UInt8} {t : Co.Tree} {k : Nat} {xs : List Ent} (h : Co.getF l = .ok t k) (ho : ofT t = some xs) (hr : rightC xs = 0) : parseC l = .ok xs := by unfold parseC; rw [h]; simp only; rw [ho]; simp only; rw [if_neg (by rw [hr]; simp)]
theorem ofL_snoc : ∀ {ts : List Co.Tree} {t : Co.Tree} {xs : List Ent} {x : Ent}, ofL ts = some xs → ofE t = some x → ofL (ts ++ [t]) = some (xs ++ [x])
  | [], t, xs, x, h, hx => by
    rw [ofL] at h; cases h
    show ofL [t] = some [x]
    rw [ofL, hx, ofL]
  | u :: r, t, xs, x, h, hx => by
    rw [ofL] at h
    cases hu : ofE u with
    | none => rw [hu] at h; cases h
    | some y =>
      cases hr : ofL r with
      | none => rw [hu, hr] at h; cases h
      | some ys =>
        rw [hu, hr] at h; cases h
        show ofL (u :: (r ++ [t])) = some (y :: (ys ++ [x]))
        rw [ofL, hu, ofL_snoc hr hx]
theorem ofL_no : ∀ {ts : List Co.Tree} {k : Nat} {t : Co.Tree}, ts[k]? = some t → ofE t = none → ofL ts = none
  | [], k, t, h, _ => by simp at h
  | u :: r, 0, t, h, hn => by
    obtain rfl : u = t := by simpa using h
    rw [ofL, hn]
  | u :: r, k + 1, t, h, hn => by
    rw [ofL, ofL_no (ts := r) (k := k) (by simpa using h) hn]
    cases ofE u <;> rfl
theorem take_snoc {α : Type} {xs : List α} {k : Nat} {x : α} (h : xs[k]? = some x) : xs.take (k + 1) = xs.take k ++ [x] := by
  obtain ⟨hlt, rfl⟩ := List.getElem?_eq_some_iff.1 h
  rw [List.take_succ_eq_append_getElem hlt]
theorem len_nodesL : ∀ ts : List Co.Tree, ts.length ≤ Co.nodesL ts
  | [] => by simp
  | t :: r => by
    have := len_nodesL r
    rw [Co.nodesL, List.length_cons]
    have h1 : 1 ≤ Co.nodes t := by cases t <;> rw [Co.nodes] <;> omega
    omega
theorem enc_txt_len (s : BA) : s.size ≤ (Co.enc (txT s)).length := by
  rw [Co.enc, List.length_append, List.length_cons, len_ba]; omega
theorem fit_of_enc {x : Ent} (h : (Co.enc (entT x)).length ≤ 131072) : FitE x := by
  have k1 := enc_txt_len x.loc
  have k2 := enc_txt_len x.key
  have k3 := enc_txt_len x.pat
  unfold entT at h
  simp only [Co.enc, Co.encL, List.length_append, List.length_cons, List.length_nil] at h k1 k2 k3
  exact ⟨by omega, by omega, by omega⟩
theorem enc_mem : ∀ {l : List Ent} {x : Ent}, x ∈ l → (Co.enc (entT x)).length ≤ (Co.encL (l.map entT)).length
  | e :: r, x, h => by
    rw [List.map_cons, Co.encL, List.length_append]
    rcases List.mem_cons.1 h with rfl | h
    · omega
    · have := enc_mem h; omega
theorem fit_of_ofL {ts : List Co.Tree} {l : List Ent} (h : ofL ts = some l) (hl : (Co.enc (.list ts)).length ≤ 131072) : ∀ x, x ∈ l → FitE x := fun x hx => by
  rw [ofL_some h] at hl
  have := enc_mem hx
  rw [Co.enc, List.length_cons, List.length_append] at hl
  exact fit_of_enc (by omega)
theorem app_ent {W0 W : World} {B : Nat} {v : Value} {out : List Ent} (ho : Own W B v out) (hb : Below W0.heap.size W0 W) (hB : W0.heap.size ≤ B) (hBW : B ≤ W.heap.size) (hl : out.length ≤ 10000) (y : Ent) :
    ∃ v' w', Hid ((Builtin.append_ #[22, 22] 22 #[v, .slice (some ⟨W.heap.size, 0, none⟩) 1 1]).run Tryz.prog (W.alloc (.cells (enC y) 38)) = .ok v' w') ∧ Hid (Own w' B v' (out ++ [y])) ∧ Hid (Below W0.heap.size W0 w') := by
  have hb1 := below1 W (.cells (enC y) 38)
  obtain ⟨v', w', hr, h2, h3, -⟩ := run_append_ent (W.alloc (.cells (enC y) 38)) 22 B v out (ownsRow_below ho hb1) (some ⟨W.heap.size, 0, none⟩) 1 [y] (one_sl (row_new W (enC y) 38)) (by simp; omega) (by rw [World.size_alloc]; omega)
  have h9 := below_trans hb hb1
  refine ⟨v', w', Lib.hid hr, Lib.hid h2, Lib.hid ⟨h3.os.trans h9.os, h3.tape.trans h9.tape, h3.output.trans h9.output, Nat.le_trans h9.size h3.size, fun k hk => (h3.block k (Nat.lt_of_lt_of_le hk h9.size) (fun e => ?_)).trans (h9.block k hk)⟩⟩
  have := (ho.lt k e.symm).1
  omega
set_option maxHeartbeats 6400000 in
set_option maxRecDepth 100000 in
theorem parse_any (s : BA) (w : World) (hs : s.size ≤ 140737488351232) (hE : EnvC w) : Calls Tryz.prog 18 #[.string s] w (ApplyP (parseC s.data.toList) w) := by
  have HG := Lib.hid (Co.get_any s w hs)
  have HE := Lib.hid hE
  clear hE
  cases hg : Co.getF s.data.toList with
  | bad e k =>
    have HP := Lib.hid (parse_bad hg)
    have hB := ne0 (Co.getF_bad hg).2
    rw [hg] at HG
    clear hg
    go_enter Tryz.func18, Tryz.ntmps18
    go_wp2_with fail
    refine HG.out.mono ?_
    rintro e1 w1 ⟨rfl, hb1⟩
    have HB1 := Lib.hid (below_trans hb1 (below1 w1 (.cells zV 60)))
    clear hb1
    go_wp2
    go_ret2
    exact ApplyP.no HP.out HB1.out
  | ok t k =>
    have HSND := Lib.hid (Co.getF_sound hg)
    rw [hg] at HG
    cases t with
    | num n =>
      have HP := Lib.hid (parse_form hg (rfl : ofT (.num n) = none))
      clear hg HSND
      go_enter Tryz.func18, Tryz.ntmps18
      go_wp2_with fail
      refine HG.out.mono ?_
      rintro e1 w1 ⟨⟨v, rfl, hr⟩, hb1⟩
      rw [Co.Rep] at hr; subst hr
      have c0 := (row_new w1 #[.int .i64 1, .int .i64 n, .string ⟨#[]⟩, .slice none 0 0] 60).cell (i := 0) rfl
      have HB1 := Lib.hid (below_trans hb1 (below1 w1 (.cells #[.int .i64 1, .int .i64 n, .string ⟨#[]⟩, .slice none 0 0] 60)))
      clear hb1
      go_wp2
      go_ret2
      exact ApplyP.no HP.out HB1.out
    | text bs =>
      have HP := Lib.hid (parse_form hg (rfl : ofT (.text bs) = none))
      clear hg HSND
      go_enter Tryz.func18, Tryz.ntmps18
      go_wp2_with fail
      refine HG.out.mono ?_
      rintro e1 w1 ⟨⟨v, rfl, hr⟩, hb1⟩
      rw [Co.Rep] at hr; subst hr
      have c0 := (row_new w1 #[.int .i64 2, .int .i64 0, .string ⟨bs.toArray⟩, .slice none 0 0] 60).cell (i := 0) rfl
      have HB1 := Lib.hid (below_trans hb1 (below1 w1 (.cells #[.int .i64 2, .int .i64 0, .string ⟨bs.toArray⟩, .slice none 0 0] 60)))
      clear hb1
      go_wp2
      go_ret2
      exact ApplyP.no HP.out HB1.out
    | list ts =>
      have HNO := Lib.hid (fun ho => parse_form hg ho)
      have HN2 := Lib.hid (fun xs ho hr => parse_no (xs := xs) hg ho hr)
      have HYES := Lib.hid (fun xs ho hr => parse_yes (xs := xs) hg ho hr)
      have HTS : Hid (ts.length ≤ 4000 ∧ (Co.enc (.list ts)).length ≤ 131072) := Lib.hid (by
        obtain ⟨-, h1, h2, h3, -⟩ := HSND.out
        refine ⟨?_, by rw [h1]; exact h2⟩
        have := len_nodesL ts
        rw [Co.nodes] at h3; omega)
      clear hg HSND
      go_enter Tryz.func18, Tryz.ntmps18
      go_wp2_with fail
      refine HG.out.mono ?_
      rintro e1 w1 ⟨⟨v, rfl, hr⟩, hb1⟩
      obtain ⟨a, cap, us, rfl, ho, hra⟩ := rep_list (Co.Rep.s24 _ _ hr)
      obtain ⟨L, HL⟩ : ∃ L, Hid (L = ts.length) := ⟨_, Lib.hid rfl⟩
      have hL4 : L ≤ 4000 := by have := HTS.out.1; have := HL.out; omega
      have HO := Lib.hid ho
      have HR := Lib.hid hra
      rw [← HL.out]
      have R := row_new w1 (lsC (.slice a L cap)) 60
      have c0 := R.cell (i := 0) rfl
      have c3 := R.cell (i := 3) rfl
      have HBW := Lib.hid hb1
      have HB2 := Lib.hid (below1 w1 (.cells (lsC (.slice a L cap)) 60))
      clear hb1 R hr ho hra HG
      go_wp2
      generalize w1.alloc (.cells (lsC (.slice a L cap)) 60) = w2 at *
      clear c0 c3
      go_loopw [7, 28] (fun v i wr => ∃ (k : Nat) (xs : List Ent), k ≤ L ∧ i = .int .i64 k ∧ Hid (xs.length = k ∧ ofL (ts.take k) = some xs) ∧ Hid (Own wr w1.heap.size v xs) ∧ Hid (Below w1.heap.size w1 wr)) (fun _ i _ => L - (intOf i).toNat)
      case atStart => exact ⟨0, [], Nat.zero_le _, rfl, Lib.hid ⟨rfl, rfl⟩, Lib.hid (World.ownsRow_nil _ _ _ _), HB2⟩
      case round =>
        obtain ⟨k, xs, hk, rfl, HX, HOW, HB⟩ := hrel
        clear HB2
        by_cases hlt : k < L
        · obtain ⟨t, ht⟩ : ∃ t, ts[k]? = some t := ⟨_, List.getElem?_eq_getElem (by have := HL.out; omega)⟩
          obtain ⟨g, e1, e2, e3, e4, e5, e6, rfl, hrk, hcells⟩ := Co.kid_at HO.out HR.out ht
          obtain ⟨hgl, k0, k1, k2, k3⟩ := hcells wr (Co.K24.below HB.out)
          have HTK := Lib.hid ht
          have HTS2 := Lib.hid (take_snoc ht)
          have R := row_new wr #[.int .i64 e1, .int .i64 e2, .string e3, .slice e4 e5 e6] 60
          have d0 := R.cell (i := 0) rfl
          have d1 := R.cell (i := 1) rfl
          have d2 := R.cell (i := 2) rfl
          have d3 := R.cell (i := 3) rfl
          have HTO := Lib.hid (told_any t _ (wr.alloc (.cells #[.int .i64 e1, .int .i64 e2, .string e3, .slice e4 e5 e6] 60)) (hrk.k24 (Co.K24.below (below_trans HB.out (below1 _ _)))))
          have HBA := Lib.hid (below_trans HB.out (below1 wr (.cells #[.int .i64 e1, .int .i64 e2, .string e3, .slice e4 e5 e6] 60)))
          have HOA := Lib.hid (ownsRow_below HOW.out (below1 wr (.cells #[.int .i64 e1, .int .i64 e2, .string e3, .slice e4 e5 e6] 60)))
          clear R hrk hcells ht HOW HB
          cases hot : ofE t with
          | none =>
            have HP := Lib.hid (HNO.out (ofL_no HTK.out hot))
            rw [hot] at HTO
            clear hot
            go_wp2_with fail
            generalize wr.alloc (.cells #[.int .i64 e1, .int .i64 e2, .string e3, .slice e4 e5 e6] 60) = w4 at *
            refine HTO.out.mono ?_
            rintro e w5 ⟨hb5, rfl⟩
            have HB5 := Lib.hid (below_trans HBW.out (below_trans HBA.out (below_trans hb5 (below1 w5 (.cells #[.string ⟨#[]⟩, .string ⟨#[]⟩, .string ⟨#[]⟩] 38)))))
            clear hb5 d0 d1 d2 d3
            go_wp2
            go_ret2
            exact ApplyP.no HP.out HB5.out
          | some x =>
            have HXN := Lib.hid (ofL_snoc HX.out.2 hot)
            rw [← HTS2.out] at HXN
            rw [hot] at HTO
            clear hot
            have HAP := Lib.hid (fun (W : World) (hb : Below (wr.alloc (.cells #[.int .i64 e1, .int .i64 e2, .string e3, .slice e4 e5 e6] 60)).heap.size (wr.alloc (.cells #[.int .i64 e1, .int .i64 e2, .string e3, .slice e4 e5 e6] 60)) W) => app_ent (W0 := w1) (ownsRow_below HOA.out hb) (below_trans HBA.out hb) (Nat.le_refl _) (Nat.le_trans HBA.out.size hb.size) (by have := HX.out.1; omega) x)
            obtain ⟨xl, xk, xp⟩ := x
            go_wp2_with fail
            generalize wr.alloc (.cells #[.int .i64 e1, .int .i64 e2, .string e3, .slice e4 e5 e6] 60) = w4 at *
            refine HTO.out.mono ?_
            rintro e w5 ⟨hb5, rfl⟩
            obtain ⟨v7, w7, HR7, HO7, HB7⟩ := HAP.out _ (below_trans hb5 (below1 w5 (.cells #[.string xl, .string xk, .string xp] 38)))
            have R := row_new w5 #[.string xl, .string xk, .string xp] 38
            have q0 := R.cell (i := 0) rfl
            have q1 := R.cell (i := 1) rfl
            have q2 := R.cell (i := 2) rfl
            simp only [World.size_alloc] at HR7
            clear hb5 R d0 d1 d2 d3 HTO HOA HBA HAP
            go_wp2_with (at_builtin; refine stop_here ?_)
            refine Lib.hid ?_
            refine Lib.wpList_append_run _ rfl (.tmp 39) (.tmp 41) 22 22 rfl _ (.slice (some ⟨_, 0, none⟩) 1 1) ?hs ?hx _ _ HR7.out ?_
            case hs => rfl
            case hx => rfl
            go_wp2
            go_roundw
            case rel => exact ⟨k + 1, xs ++ [⟨xl, xk, xp⟩], by omega, by go_num, Lib.hid ⟨by rw [List.length_append, HX.out.1]; rfl, HXN.out⟩, HO7, HB7⟩
            case measure => simp [intOf]; omega
        · have HXA : Hid (ofL ts = some xs) := Lib.hid (by have h1 := HX.out.2; rw [List.take_of_length_le (by have := HL.out; omega)] at h1; exact h1)
          have HBZ := Lib.hid (below_trans HBW.out HB.out)
          have HFT := Lib.hid (fit_of_ofL HXA.out HTS.out.2)
          obtain ⟨a9, c9, hv9, -⟩ := owns_form HOW.out
          subst hv9
          have HSL := Lib.hid HOW.out.sl
          have HRI := Lib.hid (right_any wr a9 c9 xs HSL.out HFT.out (HE.out.below HBZ.out))
          obtain ⟨n9, HN9⟩ : ∃ n, Hid (n = xs.length) := ⟨_, Lib.hid rfl⟩
          have hle := rightC_le xs
          obtain ⟨q, HQ⟩ : ∃ q, Hid (q = rightC xs) := ⟨_, Lib.hid rfl⟩
          rw [← HN9.out, ← HQ.out] at HRI
          rw [← HQ.out] at hle
          rw [← HN9.out]
          by_cases h0 : q = 0
          · have HP := Lib.hid (HYES.out xs HXA.out (by rw [← HQ.out]; exact h0))
            subst h0
            go_wp2_with fail
            refine HRI.out.mono ?_
            rintro e w5 ⟨rfl, hb5⟩
            have HB5 := Lib.hid (below_trans HBZ.out hb5)
            have HS5 := Lib.hid (HSL.out.old hb5)
            clear hb5
            go_wp2
            go_ret2
            rw [HN9.out]
            exact ApplyP.yes HP.out HS5.out HB5.out
          · have HP := Lib.hid (HN2.out xs HXA.out (by rw [← HQ.out]; exact h0))
            have hqb := ne0 h0
            rw [← HQ.out] at HP
            clear h0
            go_wp2_with fail
            refine HRI.out.mono ?_
            rintro e w5 ⟨rfl, hb5⟩
            have HB5 := Lib.hid (below_trans HBZ.out hb5)
            clear hb5
            go_wp2
            go_ret2
            exact ApplyP.no HP.out HB5.out
end Go.Proofs.YtdnedbcmgkilaaaGreatDoor.Ca

end

section

namespace Go.Proofs.YtdnedbcmgkilaaaGreatDoor.Co
open Go.RowKit
theorem value_all {s : ByteArray} (hs : s.size ≤ 131072) : ∀ f, VOK s f := by
  intro f
  induction f using Nat.strongRecOn with
  | ind f ih =>
    cases f with
    | zero => intro pb i within count w _ _ _ _ hf; omega
    | succ f => exact value_ok hs (fun f' h => ih f' h)
theorem RGet.bad {er k pb h : Nat} {w W w1 w4 w5 : World} (hW : Below w.heap.size w W) (hf : Fr (· = pb) W w1) (hpb : w.heap.size ≤ pb) (hb : But h w1 w4) (h1 : w.heap.size ≤ h) (h5 : Below w4.heap.size w4 w5) :
    GetPost (.bad er k) w (.returned (.tuple #[zeroV, .int .i64 er, .int .i64 k])) w5 :=
  ⟨rfl, (But.below (Fr.below_of hW hW.size hf (fun k hk => by omega)) hb h1).trans (h5.mono (by have := hf.size; have := hW.size; rw [hb.size]; omega))⟩
theorem RGet.ok {pb h : Nat} {t : Tree} {v : Value} {w W w1 w4 w5 : World} (hW : Below w.heap.size w W) (hf : Fr (· = pb) W w1) (hrep : Rep w1 (fun b => W.heap.size ≤ b ∧ b < w1.heap.size) t v) (hpb : w.heap.size ≤ pb) (hb : But h w1 w4) (h1 : w.heap.size ≤ h) (h2 : h < W.heap.size) (h5 : Below w4.heap.size w4 w5) :
    GetPost (.ok t 0) w (.returned (.tuple #[v, .int .i64 0, .int .i64 0])) w5 :=
  ⟨⟨v, rfl, Rep.keep (fun b hbb => (h5.block b (by rw [hb.size]; exact hbb.2)).trans (hb.block b (by omega))) (fun b hbb => ⟨by have := hW.size; omega, by have := h5.size; have := hb.size; omega⟩) _ _ hrep⟩,
    (But.below (Fr.below_of hW hW.size hf (fun k hk => by omega)) hb h1).trans (h5.mono (by have := hf.size; have := hW.size; rw [hb.size]; omega))⟩
set_option maxHeartbeats 3200000 in
set_option maxRecDepth 100000 in
theorem rget_any (s : ByteArray) (w : World) (hs : s.size ≤ 140737488351232) : Calls Tryz.prog 40 #[.string s] w (GetPost (getF s.data.toList) w) := by
  have hsl : s.data.toList.length = s.size := by simp
  by_cases hbig : 131072 < s.size
  · have HX : Hid (getF s.data.toList = .bad 2 0) := Lib.hid (by unfold getF; rw [hsl, if_pos hbig])
    clear hsl
    go_enter Tryz.func40, Tryz.ntmps40
    go_wp2
    refine bodyPost_ret (v := .tuple #[zeroV, .int .i64 2, .int .i64 0]) (by simp [results, Tryz.results40, go_sem]) rfl ?_
    rw [HX.out]
    exact ⟨rfl, below1 _ _⟩
  · have HX : Hid (getF s.data.toList = match (rdV s.data.toList (2 * s.size + 1) 0 1 0).1 with | .ok t k => if k < s.size then .bad 11 k else .ok t 0 | .bad e k => .bad e k) := Lib.hid (by unfold getF; rw [hsl, if_neg hbig]; rfl)
    have hV := Lib.hid (value_all (s := s) (by omega) (2 * s.size + 1))
    have hbd := (rd_bd s.data.toList (2 * s.size + 1)).1 0 1 0 (by omega)
    rw [hsl] at hbd
    have hs2 : s.size ≤ 131072 := by omega
    clear hsl
    go_enter Tryz.func40, Tryz.ntmps40
    go_wp2_with fail
    have hW : Below w.heap.size w ((w.alloc (.cells #[.int .i64 0, .int .i64 0, .string ⟨#[]⟩, .slice none 0 0] 60)).alloc (.cells #[.string s, .int .i64 0, .int .i64 0, .int .i64 0] 103)) := (below1 _ _).alloc (by simp) _
    have hp0 : PS (w.heap.size + 1) s 0 0 0 ((w.alloc (.cells #[.int .i64 0, .int .i64 0, .string ⟨#[]⟩, .slice none 0 0] 60)).alloc (.cells #[.string s, .int .i64 0, .int .i64 0, .int .i64 0] 103)) := by
      have := heap_alloc_new (w.alloc (.cells #[.int .i64 0, .int .i64 0, .string ⟨#[]⟩, .slice none 0 0] 60)) (.cells #[.string s, .int .i64 0, .int .i64 0, .int .i64 0] 103)
      simpa [PS] using this
    have hr0' : ((w.alloc (.cells #[.int .i64 0, .int .i64 0, .string ⟨#[]⟩, .slice none 0 0] 60)).alloc (.cells #[.string s, .int .i64 0, .int .i64 0, .int .i64 0] 103)).heap[w.heap.size]? = some (.cells #[.int .i64 0, .int .i64 0, .string ⟨#[]⟩, .slice none 0 0] 60 (0, 0)) := by
      rw [Below.heap_alloc _ _ _ (by simp)]; exact heap_alloc_new _ _
    have hsz : ((w.alloc (.cells #[.int .i64 0, .int .i64 0, .string ⟨#[]⟩, .slice none 0 0] 60)).alloc (.cells #[.string s, .int .i64 0, .int .i64 0, .int .i64 0] 103)).heap.size = w.heap.size + 2 := by simp
    generalize (w.alloc (.cells #[.int .i64 0, .int .i64 0, .string ⟨#[]⟩, .slice none 0 0] 60)).alloc (.cells #[.string s, .int .i64 0, .int .i64 0, .int .i64 0] 103) = W at *
    refine Calls.mono (hV.out (w.heap.size + 1) 0 0 0 W (by omega) (by omega) (by omega) hp0 (by omega)) ?_
    intro e w1 hpost
    have hfr := hpost.2
    have hsz1 := hfr.size
    rw [hsz] at hsz1
    have hres := (hfr.block w.heap.size (by omega) (by omega)).trans hr0'
    have hr0 : w1.cell? ⟨w.heap.size, 0, none⟩ = some (.int .i64 0) := by simp [World.cell?, hres]
    have hr1 : w1.cell? ⟨w.heap.size, 1, none⟩ = some (.int .i64 0) := by simp [World.cell?, hres]
    have hr2 : w1.cell? ⟨w.heap.size, 2, none⟩ = some (.string ⟨#[]⟩) := by simp [World.cell?, hres]
    have hr3 : w1.cell? ⟨w.heap.size, 3, none⟩ = some (.slice none 0 0) := by simp [World.cell?, hres]
    have hrf : ∀ j, w1.frozen? ⟨w.heap.size, j, none⟩ = false := frozen_of_heap hres
    have hlt0 : w.heap.size < w1.heap.size := by omega
    have hlt1 : w.heap.size + 1 < w1.heap.size := by omega
    have HRES := Lib.hid hres
    have HW := Lib.hid hW
    have HFR := Lib.hid hfr
    have HSZ := Lib.hid hsz
    clear hres hp0 hr0' hfr hW hV hsz
    generalize hr : rdV s.data.toList (2 * s.size + 1) 0 1 0 = r at hpost HX hbd
    obtain ⟨r, cn⟩ := r
    obtain ⟨b1, -, -, -⟩ := hbd
    clear hr
    cases r with
    | bad er k =>
      obtain ⟨⟨rfl, m', hps⟩, -⟩ := hpost
      have hE0 : ((er : Int) != 0) = true := by have := b1.1; simp; omega
      have hE1 : ((er : Int) == 0) = false := by have := b1.1; simp; omega
      have HX2 : Hid (getF s.data.toList = .bad er k) := Lib.hid (HX.out.trans rfl)
      have hc1 := hps.c1
      have hc3 := hps.c3
      clear b1 HX hps
      go_wp2
      go_region
      go_wp2
      have h4 := heap_put4 HRES.out (.int .i64 0) (.int .i64 0) (.string ⟨#[]⟩) (.slice none 0 0)
      have hbut := But.put4 w.heap.size w1 (.int .i64 0) (.int .i64 0) (.string ⟨#[]⟩) (.slice none 0 0)
      generalize ((((w1.setCell ⟨w.heap.size, 0, none⟩ (.int .i64 0)).setCell ⟨w.heap.size, 1, none⟩ (.int .i64 0)).setCell ⟨w.heap.size, 2, none⟩ (.string ⟨#[]⟩)).setCell ⟨w.heap.size, 3, none⟩ (.slice none 0 0)) = w4 at h4 hbut ⊢
      have h5 : (w4.alloc (.cells #[.int .i64 0, .int .i64 0, .string ⟨#[]⟩, .slice none 0 0] 60)).drew.heap[w.heap.size]? = some (.cells #[.int .i64 0, .int .i64 0, .string ⟨#[]⟩, .slice none 0 0] 60 (0, 0)) := (Below.heap_alloc w4 _ w.heap.size (by rw [hbut.size]; exact hlt0)).trans h4
      have hB5 : Below w4.heap.size w4 (w4.alloc (.cells #[.int .i64 0, .int .i64 0, .string ⟨#[]⟩, .slice none 0 0] 60)).drew := (below1 w4 _).drew
      generalize (w4.alloc (.cells #[.int .i64 0, .int .i64 0, .string ⟨#[]⟩, .slice none 0 0] 60)).drew = w5 at h5 hB5 ⊢
      exact bodyPost_ret (v := .tuple #[zeroV, .int .i64 er, .int .i64 k]) (by simp [results, Tryz.results40, go_sem, World.cell?, h5]) rfl (by rw [HX2.out]; exact RGet.bad HW.out HFR.out (by omega) hbut (Nat.le_refl _) hB5)
    | ok t k =>
      obtain ⟨⟨v, rfl, hrep, hps⟩, -⟩ := hpost
      obtain ⟨kd, n0, b0, a0, len0, cap0, rfl⟩ := Rep.cells t v hrep
      have HR := Lib.hid hrep
      have b2 := b1.2
      have hc1 := hps.c1
      have hc3 := hps.c3
      have hf3 := hps.fz 3
      clear hrep b1
      by_cases hk : k < s.size
      · have HX2 : Hid (getF s.data.toList = .bad 11 k) := Lib.hid (HX.out.trans (if_pos hk))
        have hps2 : PS (w.heap.size + 1) s k cn 11 (w1.setCell ⟨w.heap.size + 1, 3, none⟩ (.int .i64 11)) := hps.set3 11
        have hres2 : (w1.setCell ⟨w.heap.size + 1, 3, none⟩ (.int .i64 11)).heap[w.heap.size]? = some (.cells #[.int .i64 0, .int .i64 0, .string ⟨#[]⟩, .slice none 0 0] 60 (0, 0)) := (Below.heap_setCell _ _ _ _ (by show w.heap.size ≠ w.heap.size + 1; omega)).trans HRES.out
        have HFR2 : Hid (Fr (· = w.heap.size + 1) W (w1.setCell ⟨w.heap.size + 1, 3, none⟩ (.int .i64 11))) := Lib.hid (frP HFR.out 3 _)
        have hd1 := hps2.c1
        have hd3 := hps2.c3
        have hs0 : (w1.setCell ⟨w.heap.size + 1, 3, none⟩ (.int .i64 11)).cell? ⟨w.heap.size, 0, none⟩ = some (.int .i64 0) := by simp [World.cell?, hres2]
        have hs1 : (w1.setCell ⟨w.heap.size + 1, 3, none⟩ (.int .i64 11)).cell? ⟨w.heap.size, 1, none⟩ = some (.int .i64 0) := by simp [World.cell?, hres2]
        have hs2' : (w1.setCell ⟨w.heap.size + 1, 3, none⟩ (.int .i64 11)).cell? ⟨w.heap.size, 2, none⟩ = some (.string ⟨#[]⟩) := by simp [World.cell?, hres2]
        have hs3 : (w1.setCell ⟨w.heap.size + 1, 3, none⟩ (.int .i64 11)).cell? ⟨w.heap.size, 3, none⟩ = some (.slice none 0 0) := by simp [World.cell?, hres2]
        have hsf : ∀ j, (w1.setCell ⟨w.heap.size + 1, 3, none⟩ (.int .i64 11)).frozen? ⟨w.heap.size, j, none⟩ = false := frozen_of_heap hres2
        have hz2 : (w1.setCell ⟨w.heap.size + 1, 3, none⟩ (.int .i64 11)).heap.size = w1.heap.size := by simp [World.setCell]
        have HRES2 := Lib.hid hres2
        have HZ2 := Lib.hid hz2
        clear HX hps hps2 hres2 hz2
        go_wp2
        go_region
        go_wp2
        have hlt0' : w.heap.size < (w1.setCell ⟨w.heap.size + 1, 3, none⟩ (.int .i64 11)).heap.size := by rw [HZ2.out]; exact hlt0
        generalize w1.setCell ⟨w.heap.size + 1, 3, none⟩ (.int .i64 11) = w2 at *
        have h4 := heap_put4 HRES2.out (.int .i64 0) (.int .i64 0) (.string ⟨#[]⟩) (.slice none 0 0)
        have hbut := But.put4 w.heap.size w2 (.int .i64 0) (.int .i64 0) (.string ⟨#[]⟩) (.slice none 0 0)
        generalize ((((w2.setCell ⟨w.heap.size, 0, none⟩ (.int .i64 0)).setCell ⟨w.heap.size, 1, none⟩ (.int .i64 0)).setCell ⟨w.heap.size, 2, none⟩ (.string ⟨#[]⟩)).setCell ⟨w.heap.size, 3, none⟩ (.slice none 0 0)) = w4 at h4 hbut ⊢
        have h5 : (w4.alloc (.cells #[.int .i64 kd, .int .i64 n0, .string b0, .slice a0 len0 cap0] 60)).drew.heap[w.heap.size]? = some (.cells #[.int .i64 0, .int .i64 0, .string ⟨#[]⟩, .slice none 0 0] 60 (0, 0)) := (Below.heap_alloc w4 _ w.heap.size (by rw [hbut.size]; exact hlt0')).trans h4
        have hB5 : Below w4.heap.size w4 (w4.alloc (.cells #[.int .i64 kd, .int .i64 n0, .string b0, .slice a0 len0 cap0] 60)).drew := (below1 w4 _).drew
        generalize (w4.alloc (.cells #[.int .i64 kd, .int .i64 n0, .string b0, .slice a0 len0 cap0] 60)).drew = w5 at h5 hB5 ⊢
        exact bodyPost_ret (v := .tuple #[zeroV, .int .i64 11, .int .i64 k]) (by simp [results, Tryz.results40, go_sem, World.cell?, h5]) rfl (by rw [HX2.out]; exact RGet.bad HW.out HFR2.out (by omega) hbut (Nat.le_refl _) hB5)
      · have HX2 : Hid (getF s.data.toList = .ok t 0) := Lib.hid (HX.out.trans (if_neg hk))
        clear HX hps
        go_wp2
        have h4 := heap_put4 HRES.out (.int .i64 kd) (.int .i64 n0) (.string b0) (.slice a0 len0 cap0)
        have hbut := But.put4 w.heap.size w1 (.int .i64 kd) (.int .i64 n0) (.string b0) (.slice a0 len0 cap0)
        generalize ((((w1.setCell ⟨w.heap.size, 0, none⟩ (.int .i64 kd)).setCell ⟨w.heap.size, 1, none⟩ (.int .i64 n0)).setCell ⟨w.heap.size, 2, none⟩ (.string b0)).setCell ⟨w.heap.size, 3, none⟩ (.slice a0 len0 cap0)) = w4 at h4 hbut ⊢
        have h5 : (w4.alloc (.cells #[.int .i64 kd, .int .i64 n0, .string b0, .slice a0 len0 cap0] 60)).heap[w.heap.size]? = some (.cells #[.int .i64 kd, .int .i64 n0, .string b0, .slice a0 len0 cap0] 60 (0, 0)) := (Below.heap_alloc w4 _ w.heap.size (by rw [hbut.size]; exact hlt0)).trans h4
        have hB5 : Below w4.heap.size w4 (w4.alloc (.cells #[.int .i64 kd, .int .i64 n0, .string b0, .slice a0 len0 cap0] 60)) := below1 w4 _
        generalize (w4.alloc (.cells #[.int .i64 kd, .int .i64 n0, .string b0, .slice a0 len0 cap0] 60)) = w5 at h5 hB5 ⊢
        exact bodyPost_ret (v := .tuple #[.agg #[.int .i64 kd, .int .i64 n0, .string b0, .slice a0 len0 cap0], .int .i64 0, .int .i64 0]) (by simp [results, Tryz.results40, go_sem, World.cell?, h5]) rfl (by rw [HX2.out]; exact RGet.ok HW.out HFR.out HR.out (by omega) hbut (Nat.le_refl _) (by rw [HSZ.out]; omega) hB5)
end Go.Proofs.YtdnedbcmgkilaaaGreatDoor.Co

end

section

namespace Go.Proofs.YtdnedbcmgkilaaaGreatDoor.Ca
open Go.RowKit Go.Proofs.YtdnedbcmgkilaaaGreatDoor
theorem ofE_kd {t : Co.Tree} (h : kdT t ≠ 3) : ofE t = none := by
  cases t with
  | num n => rfl
  | text bs => rfl
  | list ts => exact absurd rfl h
theorem below_grown {a W w9 : World} {o : Obj} {e : TypeId} {B k n : Nat} {v : Value} {xs : List Value} (hb : Below a.heap.size a W) (hB : a.heap.size ≤ B) (ho : W.ownsRow B e k v n xs) (hg : (W.alloc o).grownBy w9 v.ownBlock) : Below a.heap.size a w9 :=
  ⟨hg.os.trans hb.os, hg.tape.trans hb.tape, hg.output.trans hb.output, by have h1 := hg.size; have h2 := hb.size; rw [World.size_alloc] at h1; omega, fun j hj =>
    (hg.block j (by have h2 := hb.size; rw [World.size_alloc]; omega) (fun e => by have := (ho.lt j e.symm).1; omega)).trans ((Below.heap_alloc _ _ _ (by have h2 := hb.size; omega)).trans (hb.block j hj))⟩
theorem far_cell {W w9 : World} {o : Obj} {v u : Value} {b i : Nat} (hg : (W.alloc o).grownBy w9 v.ownBlock) (hb : b < W.heap.size) (hne : v.ownBlock ≠ some b) (h : W.cell? ⟨b, i, none⟩ = some u) : w9.cell? ⟨b, i, none⟩ = some u :=
  (World.cell?_of_block ((hg.block b (by rw [World.size_alloc]; omega) (fun e => hne e.symm)).trans (Below.heap_alloc _ _ _ hb))).trans h
theorem cell_new3 (w : World) (x y z : Value) (t : TypeId) {n : Nat} (hB : w.heap.size = n) : ∀ j v, [x, y, z][j]? = some v → (w.alloc (.cells #[x, y, z] t)).cell? (Addr.add ⟨n, 0, none⟩ j) = some v := fun j v hv => by
  subst hB
  rw [Addr.add_mid, Nat.zero_add]
  exact (row_new w #[x, y, z] t).cell hv
set_option maxHeartbeats 6400000 in
set_option maxRecDepth 100000 in
theorem rparse_any (s : BA) (w : World) (hs : s.size ≤ 140737488351232) (hE : EnvC w) : Calls Tryz.prog 19 #[.string s] w (ApplyP (parseC s.data.toList) w) := by
  obtain ⟨i0, hi, hz0, hz1, hz2⟩ := info_parts info38
  have HG := Lib.hid (Co.rget_any s w hs)
  have HE := Lib.hid hE
  clear hE
  cases hg : Co.getF s.data.toList with
  | bad e k =>
    have HP := Lib.hid (parse_bad hg)
    have hB := ne0 (Co.getF_bad hg).2
    rw [hg] at HG
    clear hg
    go_enter Tryz.func19, Tryz.ntmps19
    go_wp2_with fail
    refine HG.out.mono ?_
    rintro e1 w1 ⟨rfl, hb1⟩
    have HB1 := Lib.hid (below_trans hb1 (below1 w1 (.cells zV 60)))
    clear hb1
    go_wp2
    go_ret2
    exact ApplyP.no HP.out HB1.out
  | ok t k =>
    have HSND := Lib.hid (Co.getF_sound hg)
    rw [hg] at HG
    cases t with
    | num n =>
      have HP := Lib.hid (parse_form hg (rfl : ofT (.num n) = none))
      clear hg HSND
      go_enter Tryz.func19, Tryz.ntmps19
      go_wp2_with fail
      refine HG.out.mono ?_
      rintro e1 w1 ⟨⟨v, rfl, hr⟩, hb1⟩
      rw [Co.Rep] at hr; subst hr
      have c0 := (row_new w1 #[.int .i64 1, .int .i64 n, .string ⟨#[]⟩, .slice none 0 0] 60).cell (i := 0) rfl
      have HB1 := Lib.hid (below_trans hb1 (below1 w1 (.cells #[.int .i64 1, .int .i64 n, .string ⟨#[]⟩, .slice none 0 0] 60)))
      clear hb1
      go_wp2
      go_ret2
      exact ApplyP.no HP.out HB1.out
    | text bs =>
      have HP := Lib.hid (parse_form hg (rfl : ofT (.text bs) = none))
      clear hg HSND
      go_enter Tryz.func19, Tryz.ntmps19
      go_wp2_with fail
      refine HG.out.mono ?_
      rintro e1 w1 ⟨⟨v, rfl, hr⟩, hb1⟩
      rw [Co.Rep] at hr; subst hr
      have c0 := (row_new w1 #[.int .i64 2, .int .i64 0, .string ⟨bs.toArray⟩, .slice none 0 0] 60).cell (i := 0) rfl
      have HB1 := Lib.hid (below_trans hb1 (below1 w1 (.cells #[.int .i64 2, .int .i64 0, .string ⟨bs.toArray⟩, .slice none 0 0] 60)))
      clear hb1
      go_wp2
      go_ret2
      exact ApplyP.no HP.out HB1.out
    | list ts =>
      have HNO := Lib.hid (fun ho => parse_form hg ho)
      have HN2 := Lib.hid (fun xs ho hr => parse_no (xs := xs) hg ho hr)
      have HYES := Lib.hid (fun xs ho hr => parse_yes (xs := xs) hg ho hr)
      have HTS : Hid (ts.length ≤ 4000 ∧ (Co.enc (.list ts)).length ≤ 131072) := Lib.hid (by
        obtain ⟨-, h1, h2, h3, -⟩ := HSND.out
        refine ⟨?_, by rw [h1]; exact h2⟩
        have := len_nodesL ts
        rw [Co.nodes] at h3; omega)
      clear hg HSND
      go_enter Tryz.func19, Tryz.ntmps19
      go_wp2_with fail
      refine HG.out.mono ?_
      rintro e1 w1 ⟨⟨v, rfl, hr⟩, hb1⟩
      obtain ⟨a, cap, us, rfl, ho, hra⟩ := rep_list (Co.Rep.s24 _ _ hr)
      obtain ⟨L, HL⟩ : ∃ L, Hid (L = ts.length) := ⟨_, Lib.hid rfl⟩
      have hL4 : L ≤ 4000 := by have := HTS.out.1; have := HL.out; omega
      have HO := Lib.hid ho
      have HR := Lib.hid hra
      rw [← HL.out]
      have R := (row_new w1 (lsC (.slice a L cap)) 60).alloc (.cells #[] 38)
      have c0 := R.cell (i := 0) rfl
      have c3 := R.cell (i := 3) rfl
      have HV0 := Lib.hid (row_new w1 (lsC (.slice a L cap)) 60)
      have HB0 := Lib.hid (below_trans hb1 (below1 w1 (.cells (lsC (.slice a L cap)) 60)))
      have HK1 := Lib.hid (below1 w1 (.cells (lsC (.slice a L cap)) 60))
      have HSZ := Lib.hid (World.size_alloc w1 (.cells (lsC (.slice a L cap)) 60))
      have HRAW := Lib.hid (fun W (hb : Below w1.heap.size w1 W) => Co.K24.below hb)
      clear hb1 R hr ho hra HG
      go_wp2
      generalize w1.alloc (.cells (lsC (.slice a L cap)) 60) = w1a at *
      rw [← HSZ.out]
      have HB2 := Lib.hid (below1 w1a (.cells #[] 38))
      have HOW0 : Hid (Own (w1a.alloc (.cells #[] 38)) w1a.heap.size (.slice (some ⟨w1a.heap.size, 0, none⟩) 0 0) []) := Lib.hid (World.ownsRow_made w1a #[] 0 (Nat.le_refl _) (Nat.zero_le _) (by simp))
      generalize w1a.alloc (.cells #[] 38) = w2 at *
      clear c0 c3
      go_loopw [7, 27] (fun v i wr => ∃ (k : Nat) (xs : List Ent), k ≤ L ∧ i = .int .i64 k ∧ Hid (xs.length = k ∧ ofL (ts.take k) = some xs) ∧ Hid (Own wr w1a.heap.size v xs) ∧ Hid (Below w1a.heap.size w1a wr)) (fun _ i _ => L - (intOf i).toNat)
      case atStart => exact ⟨0, [], Nat.zero_le _, rfl, Lib.hid ⟨rfl, rfl⟩, HOW0, HB2⟩
      case round =>
        obtain ⟨k, xs, hk, rfl, HX, HOW, HB⟩ := hrel
        clear HB2 HOW0
        by_cases hlt : k < L
        · obtain ⟨t, ht⟩ : ∃ t, ts[k]? = some t := ⟨_, List.getElem?_eq_getElem (by have := HL.out; omega)⟩
          obtain ⟨g, e1, e2, e3, e4, e5, e6, rfl, hrk, hcells⟩ := Co.kid_at HO.out HR.out ht
          have HBw1 := Lib.hid (below_trans HK1.out HB.out)
          obtain ⟨hgl, k0, k1, k2, k3⟩ := hcells wr (Co.K24.below HBw1.out)
          have HTK := Lib.hid ht
          have HTS2 := Lib.hid (take_snoc ht)
          have hb4 := below1 wr (.cells #[.int .i64 e1, .int .i64 e2, .string e3, .slice e4 e5 e6] 60)
          have R := row_new wr #[.int .i64 e1, .int .i64 e2, .string e3, .slice e4 e5 e6] 60
          have d0 := R.cell (i := 0) rfl
          have d3 := R.cell (i := 3) rfl
          have HRBX := Lib.hid R
          have HBA := Lib.hid (below_trans HB.out hb4)
          have HBF := Lib.hid (below_trans HB0.out HBA.out)
          have HK4 := Lib.hid (Co.K24.below (below_trans HBw1.out hb4))
          have HOA := Lib.hid (ownsRow_below HOW.out hb4)
          have HOL := Lib.hid (fun g hg => HOW.out.lt g hg)
          have HKD := Lib.hid (rep_kd hrk)
          clear R ht HOW HB hcells hb4
          by_cases h3 : e1 = 3
          rotate_left
          · have HP := Lib.hid (HNO.out (ofL_no HTK.out (ofE_kd (by rw [← HKD.out]; exact h3))))
            have hne : (e1 != 3) = true := by rw [bne_iff_ne]; exact h3
            clear h3 hrk
            go_wp2
            go_ret2
            exact ApplyP.no HP.out HBF.out
          obtain ⟨us2, rfl⟩ : ∃ us2, t = .list us2 := by
            cases t with
            | num n => rw [HKD.out] at h3; cases h3
            | text bs => rw [HKD.out] at h3; cases h3
            | list us2 => exact ⟨_, rfl⟩
          obtain ⟨a2, cap2, vs2, hv2, ho2, hra2⟩ := rep_list hrk
          obtain ⟨rfl, rfl, rfl, rfl, rfl, rfl⟩ : e1 = 3 ∧ e2 = 0 ∧ e3 = ⟨#[]⟩ ∧ e4 = a2 ∧ e5 = us2.length ∧ e6 = cap2 := by simpa using hv2
          clear h3 hv2 HKD hrk
          obtain ⟨M, HM⟩ : ∃ M, Hid (M = us2.length) := ⟨_, Lib.hid rfl⟩
          have hMm : M ≤ 9223372036854775807 := by
            rcases ho2.2 with ⟨h1, h0⟩ | ⟨g, cap', cur, hv, -, -, hc, hm, -⟩
            · have := HM.out; omega
            · have := HM.out; unfold maxLen at hm; omega
          rw [← HM.out] at k3 d3 HBA HBF HOA HK4 HRBX
          by_cases h3 : M = 3
          rotate_left
          · have HP := Lib.hid (HNO.out (ofL_no HTK.out (ofE_len (ts := us2) (by rw [← HM.out]; exact h3))))
            have hne : ((M : Int) != 3) = true := by rw [bne_iff_ne]; omega
            clear h3 ho2 hra2
            go_wp2
            go_ret2
            exact ApplyP.no HP.out HBF.out
          obtain ⟨x, y, z, HXY⟩ : ∃ x y z, Hid (us2 = [x, y, z]) := by
            have hl := HM.out
            match us2, hl with
            | [], hl => simp at hl; omega
            | [_], hl => simp at hl; omega
            | [_, _], hl => simp at hl; omega
            | [x, y, z], _ => exact ⟨x, y, z, Lib.hid rfl⟩
            | _ :: _ :: _ :: _ :: _, hl => simp at hl; omega
          obtain ⟨g2, p1, p2, p3, p4, p5, p6, rfl, hrx, hcx⟩ := Co.kid_at ho2 hra2 (k := 0) (t := x) (by rw [HXY.out]; rfl)
          obtain ⟨g', q1, q2, q3, q4, q5, q6, hg', hry, hcy⟩ := Co.kid_at ho2 hra2 (k := 1) (t := y) (by rw [HXY.out]; rfl)
          obtain ⟨g'', r1, r2, r3, r4, r5, r6, hg'', hrz, hcz⟩ := Co.kid_at ho2 hra2 (k := 2) (t := z) (by rw [HXY.out]; rfl)
          obtain rfl : g2 = g' := by simpa using hg'
          obtain rfl : g2 = g'' := by simpa using hg''
          subst h3
          simp only [Nat.zero_mul, Nat.zero_add] at hcx
          simp only [Nat.one_mul, Nat.reduceAdd] at hcy
          simp only [Nat.reduceMul, Nat.reduceAdd] at hcz
          have hgw1 : g2 < w1.heap.size := (hcx _ (Co.K24.refl _)).1
          obtain ⟨hgl2, x0, x1, x2, x3⟩ := hcx _ HK4.out
          obtain ⟨-, y0, y1, y2, y3⟩ := hcy _ HK4.out
          obtain ⟨-, u0, u1, u2, u3⟩ := hcz _ HK4.out
          have HNO3 : Hid (p1 ≠ 2 ∨ q1 ≠ 2 ∨ r1 ≠ 2 → ofE (.list us2) = none) := Lib.hid (fun h => by
            rw [HXY.out]
            rw [rep_kd hrx, rep_kd hry, rep_kd hrz] at h
            exact ofE_no h)
          have HYES3 : Hid (p1 = 2 → q1 = 2 → r1 = 2 → ofE (.list us2) = some ⟨p3, q3, r3⟩) := Lib.hid (fun h1 h2 h3 => by
            rw [HXY.out]; exact ofE_yes hrx hry hrz h1 h2 h3)
          clear hcx hcy hcz hrx hry hrz hg' hg'' ho2 hra2
          by_cases hp : p1 = 2
          rotate_left
          · have HP := Lib.hid (HNO.out (ofL_no HTK.out (HNO3.out (.inl hp))))
            have hpb : (p1 != 2) = true := by rw [bne_iff_ne]; exact hp
            clear hp
            go_wp2
            go_ret2
            exact ApplyP.no HP.out HBF.out
          have hpb : (p1 != 2) = false := by rw [bne_eq_false_iff_eq]; exact hp
          have HPp := Lib.hid hp
          clear hp
          by_cases hq : q1 = 2
          rotate_left
          · have HP := Lib.hid (HNO.out (ofL_no HTK.out (HNO3.out (.inr (.inl hq)))))
            have hqb : (q1 != 2) = true := by rw [bne_iff_ne]; exact hq
            clear hq
            go_wp2
            go_ret2
            exact ApplyP.no HP.out HBF.out
          have hqb : (q1 != 2) = false := by rw [bne_eq_false_iff_eq]; exact hq
          have HPq := Lib.hid hq
          clear hq
          by_cases hs2 : r1 = 2
          rotate_left
          · have HP := Lib.hid (HNO.out (ofL_no HTK.out (HNO3.out (.inr (.inr hs2)))))
            have hsb : (r1 != 2) = true := by rw [bne_iff_ne]; exact hs2
            clear hs2
            go_wp2
            go_ret2
            exact ApplyP.no HP.out HBF.out
          have hsb : (r1 != 2) = false := by rw [bne_eq_false_iff_eq]; exact hs2
          have HXN := Lib.hid (ofL_snoc HX.out.2 (HYES3.out HPp.out HPq.out hs2))
          rw [← HTS2.out] at HXN
          clear hs2
          obtain ⟨aL, cL, hv9, -⟩ := owns_form HOA.out
          rw [HX.out.1] at hv9
          subst hv9
          have HLEN := Lib.hid HX.out.1
          go_wp2
          generalize wr.alloc (.cells #[.int .i64 3, .int .i64 0, .string ⟨#[]⟩, .slice (some ⟨g2, 0, none⟩) 3 e6] 60) = w4 at *
          have hz4 : w1a.heap.size ≤ w4.heap.size := HBA.out.size
          have HOD : Hid (w4.drew.ownsRow w1a.heap.size 38 3 (.slice aL k cL) k (flat xs)) := Lib.hid (by have h := HOA.out; unfold Own at h; rw [HX.out.1] at h; exact h)
          have HBD : Hid (Below w1a.heap.size w1a w4.drew) := Lib.hid HBA.out.drew
          clear x0 x1 x3 y0 y1 y3 u0 u1 u3 k0 k1 k2 k3 d0 hpb hqb hsb HNO3 HYES3 HK4 HBF HBA HOA HXY HM HRAW HV0 HPp HPq HTK HTS2 HL hgl
          have hS0 : (w4.drew.cell? ⟨wr.heap.size, 3, none⟩ = some (.slice (some ⟨g2, 0, none⟩) 3 e6) ∧ w4.drew.cell? ⟨g2, 2, none⟩ = some (.string p3) ∧ w4.drew.cell? ⟨g2, 6, none⟩ = some (.string q3) ∧ w4.drew.cell? ⟨g2, 10, none⟩ = some (.string r3)) := ⟨d3, x2, y2, u2⟩
          have hg2 : g2 < w4.heap.size := hgl2
          have hw4 : wr.heap.size < w4.heap.size := HRBX.out.lt
          have hne1 : (Value.slice aL k cL).ownBlock ≠ some wr.heap.size := fun e => by have := (HOL.out _ e).2; omega
          have hne2 : (Value.slice aL k cL).ownBlock ≠ some g2 := fun e => by have h1 := (HOL.out _ e).1; have h2 := HSZ.out; omega
          refine wp_region_noPanic ?_
          refine wp_region_held_drew (S := fun W => W.cell? ⟨wr.heap.size, 3, none⟩ = some (.slice (some ⟨g2, 0, none⟩) 3 e6) ∧ W.cell? ⟨g2, 2, none⟩ = some (.string p3) ∧ W.cell? ⟨g2, 6, none⟩ = some (.string q3) ∧ W.cell? ⟨g2, 10, none⟩ = some (.string r3)) (by kernel_rfl) ?_ (fun hq0 => ?_)
          · exact hS0
          refine wpAnyH_take (i := 0) (oi := { dst := some 64, op := Go.Op.move (Go.Operand.tmp 7), type := 22, pos := "ref.go:134", after := #[], guard := none }) (v := ?_) rfl (by kernel_rfl) (by kernel_rfl) (by kernel_rfl) (fun _ _ _ h => h) (Or.inl ⟨by rfl, ?_⟩) (by assumption) ?_
          rotate_left
          · (intro w hSw; (try dsimp only at hSw); go_simp) <;> with_reducible rfl
          simp only [Act.put, List.setIfInBounds_toArray, List.set_cons_zero, List.set_cons_succ]
          refine wpAnyH_take (i := 1) (oi := { dst := some 65, op := Go.Op.fieldAddr 60 (Go.Operand.tmp 9) 3, type := 0, pos := "ref.go:134", after := #[], guard := none }) (v := ?_) rfl (by kernel_rfl) (by kernel_rfl) (by kernel_rfl) (fun _ _ _ h => h) (Or.inl ⟨by rfl, ?_⟩) (by assumption) ?_
          rotate_left
          · (intro w hSw; (try dsimp only at hSw); go_simp) <;> with_reducible rfl
          simp only [Act.put, List.setIfInBounds_toArray, List.set_cons_zero, List.set_cons_succ]
          refine wpAnyH_take (i := 2) (oi := { dst := some 66, op := Go.Op.load 58 (Go.Operand.tmp 65), type := 58, pos := "ref.go:134", after := #[{ on := 1, ground := Go.Ground.data }], guard := none }) (v := ?_) rfl (by kernel_rfl) (by kernel_rfl) (by kernel_rfl) (fun _ _ _ h => h) (Or.inl ⟨by rfl, ?_⟩) (by assumption) ?_
          rotate_left
          · (intro w hSw; (try dsimp only at hSw); go_simp) <;> with_reducible rfl
          simp only [Act.put, List.setIfInBounds_toArray, List.set_cons_zero, List.set_cons_succ]
          refine wpAnyH_take (i := 3) (oi := { dst := some 67, op := Go.Op.indexAddr 58 (Go.Operand.tmp 66) (Go.Operand.const (Go.Value.int Go.IntKind.i64 0)), type := 0, pos := "ref.go:134", after := #[{ on := 2, ground := Go.Ground.data }], guard := none }) (v := ?_) rfl (by kernel_rfl) (by kernel_rfl) (by kernel_rfl) (fun _ _ _ h => h) (Or.inl ⟨by rfl, ?_⟩) (by assumption) ?_
          rotate_left
          · (intro w hSw; (try dsimp only at hSw); go_simp) <;> with_reducible rfl
          simp only [Act.put, List.setIfInBounds_toArray, List.set_cons_zero, List.set_cons_succ]
          refine wpAnyH_take (i := 4) (oi := { dst := some 68, op := Go.Op.fieldAddr 60 (Go.Operand.tmp 67) 2, type := 0, pos := "ref.go:134", after := #[{ on := 3, ground := Go.Ground.data }], guard := none }) (v := ?_) rfl (by kernel_rfl) (by kernel_rfl) (by kernel_rfl) (fun _ _ _ h => h) (Or.inl ⟨by rfl, ?_⟩) (by assumption) ?_
          rotate_left
          · (intro w hSw; (try dsimp only at hSw); go_simp) <;> with_reducible rfl
          simp only [Act.put, List.setIfInBounds_toArray, List.set_cons_zero, List.set_cons_succ]
          refine wpAnyH_take (i := 5) (oi := { dst := some 69, op := Go.Op.load 9 (Go.Operand.tmp 68), type := 9, pos := "ref.go:134", after := #[{ on := 4, ground := Go.Ground.data }], guard := none }) (v := ?_) rfl (by kernel_rfl) (by kernel_rfl) (by kernel_rfl) (fun _ _ _ h => h) (Or.inl ⟨by rfl, ?_⟩) (by assumption) ?_
          rotate_left
          · (intro w hSw; (try dsimp only at hSw); go_simp) <;> with_reducible rfl
          simp only [Act.put, List.setIfInBounds_toArray, List.set_cons_zero, List.set_cons_succ]
          refine wpAnyH_take (i := 6) (oi := { dst := some 70, op := Go.Op.fieldAddr 60 (Go.Operand.tmp 9) 3, type := 0, pos := "ref.go:134", after := #[], guard := none }) (v := ?_) rfl (by kernel_rfl) (by kernel_rfl) (by kernel_rfl) (fun _ _ _ h => h) (Or.inl ⟨by rfl, ?_⟩) (by assumption) ?_
          rotate_left
          · (intro w hSw; (try dsimp only at hSw); go_simp) <;> with_reducible rfl
          simp only [Act.put, List.setIfInBounds_toArray, List.set_cons_zero, List.set_cons_succ]
          refine wpAnyH_take (i := 7) (oi := { dst := some 71, op := Go.Op.load 58 (Go.Operand.tmp 70), type := 58, pos := "ref.go:134", after := #[{ on := 6, ground := Go.Ground.data }], guard := none }) (v := ?_) rfl (by kernel_rfl) (by kernel_rfl) (by kernel_rfl) (fun _ _ _ h => h) (Or.inl ⟨by rfl, ?_⟩) (by assumption) ?_
          rotate_left
          · (intro w hSw; (try dsimp only at hSw); go_simp) <;> with_reducible rfl
          simp only [Act.put, List.setIfInBounds_toArray, List.set_cons_zero, List.set_cons_succ]
          refine wpAnyH_take (i := 8) (oi := { dst := some 72, op := Go.Op.indexAddr 58 (Go.Operand.tmp 71) (Go.Operand.const (Go.Value.int Go.IntKind.i64 1)), type := 0, pos := "ref.go:134", after := #[{ on := 7, ground := Go.Ground.data }], guard := none }) (v := ?_) rfl (by kernel_rfl) (by kernel_rfl) (by kernel_rfl) (fun _ _ _ h => h) (Or.inl ⟨by rfl, ?_⟩) (by assumption) ?_
          rotate_left
          · (intro w hSw; (try dsimp only at hSw); go_simp) <;> with_reducible rfl
          simp only [Act.put, List.setIfInBounds_toArray, List.set_cons_zero, List.set_cons_succ]
          refine wpAnyH_take (i := 9) (oi := { dst := some 73, op := Go.Op.fieldAddr 60 (Go.Operand.tmp 72) 2, type := 0, pos := "ref.go:134", after := #[{ on := 8, ground := Go.Ground.data }], guard := none }) (v := ?_) rfl (by kernel_rfl) (by kernel_rfl) (by kernel_rfl) (fun _ _ _ h => h) (Or.inl ⟨by rfl, ?_⟩) (by assumption) ?_
          rotate_left
          · (intro w hSw; (try dsimp only at hSw); go_simp) <;> with_reducible rfl
          simp only [Act.put, List.setIfInBounds_toArray, List.set_cons_zero, List.set_cons_succ]
          refine wpAnyH_take (i := 10) (oi := { dst := some 74, op := Go.Op.load 9 (Go.Operand.tmp 73), type := 9, pos := "ref.go:134", after := #[{ on := 9, ground := Go.Ground.data }], guard := none }) (v := ?_) rfl (by kernel_rfl) (by kernel_rfl) (by kernel_rfl) (fun _ _ _ h => h) (Or.inl ⟨by rfl, ?_⟩) (by assumption) ?_
          rotate_left
          · (intro w hSw; (try dsimp only at hSw); go_simp) <;> with_reducible rfl
          simp only [Act.put, List.setIfInBounds_toArray, List.set_cons_zero, List.set_cons_succ]
          refine wpAnyH_take (i := 11) (oi := { dst := some 75, op := Go.Op.fieldAddr 60 (Go.Operand.tmp 9) 3, type := 0, pos := "ref.go:134", after := #[], guard := none }) (v := ?_) rfl (by kernel_rfl) (by kernel_rfl) (by kernel_rfl) (fun _ _ _ h => h) (Or.inl ⟨by rfl, ?_⟩) (by assumption) ?_
          rotate_left
          · (intro w hSw; (try dsimp only at hSw); go_simp) <;> with_reducible rfl
          simp only [Act.put, List.setIfInBounds_toArray, List.set_cons_zero, List.set_cons_succ]
          refine wpAnyH_take (i := 12) (oi := { dst := some 76, op := Go.Op.load 58 (Go.Operand.tmp 75), type := 58, pos := "ref.go:134", after := #[{ on := 11, ground := Go.Ground.data }], guard := none }) (v := ?_) rfl (by kernel_rfl) (by kernel_rfl) (by kernel_rfl) (fun _ _ _ h => h) (Or.inl ⟨by rfl, ?_⟩) (by assumption) ?_
          rotate_left
          · (intro w hSw; (try dsimp only at hSw); go_simp) <;> with_reducible rfl
          simp only [Act.put, List.setIfInBounds_toArray, List.set_cons_zero, List.set_cons_succ]
          refine wpAnyH_take (i := 13) (oi := { dst := some 77, op := Go.Op.indexAddr 58 (Go.Operand.tmp 76) (Go.Operand.const (Go.Value.int Go.IntKind.i64 2)), type := 0, pos := "ref.go:134", after := #[{ on := 12, ground := Go.Ground.data }], guard := none }) (v := ?_) rfl (by kernel_rfl) (by kernel_rfl) (by kernel_rfl) (fun _ _ _ h => h) (Or.inl ⟨by rfl, ?_⟩) (by assumption) ?_
          rotate_left
          · (intro w hSw; (try dsimp only at hSw); go_simp) <;> with_reducible rfl
          simp only [Act.put, List.setIfInBounds_toArray, List.set_cons_zero, List.set_cons_succ]
          refine wpAnyH_take (i := 14) (oi := { dst := some 78, op := Go.Op.fieldAddr 60 (Go.Operand.tmp 77) 2, type := 0, pos := "ref.go:134", after := #[{ on := 13, ground := Go.Ground.data }], guard := none }) (v := ?_) rfl (by kernel_rfl) (by kernel_rfl) (by kernel_rfl) (fun _ _ _ h => h) (Or.inl ⟨by rfl, ?_⟩) (by assumption) ?_
          rotate_left
          · (intro w hSw; (try dsimp only at hSw); go_simp) <;> with_reducible rfl
          simp only [Act.put, List.setIfInBounds_toArray, List.set_cons_zero, List.set_cons_succ]
          refine wpAnyH_take (i := 15) (oi := { dst := some 79, op := Go.Op.load 9 (Go.Operand.tmp 78), type := 9, pos := "ref.go:134", after := #[{ on := 14, ground := Go.Ground.data }], guard := none }) (v := ?_) rfl (by kernel_rfl) (by kernel_rfl) (by kernel_rfl) (fun _ _ _ h => h) (Or.inl ⟨by rfl, ?_⟩) (by assumption) ?_
          rotate_left
          · (intro w hSw; (try dsimp only at hSw); go_simp) <;> with_reducible rfl
          simp only [Act.put, List.setIfInBounds_toArray, List.set_cons_zero, List.set_cons_succ]
          refine wpAnyH_take (i := 16) (oi := { dst := some 80, op := Go.Op.build 38 #[(0, Go.Operand.tmp 69), (1, Go.Operand.tmp 74), (2, Go.Operand.tmp 79)], type := 38, pos := "ref.go:134", after := #[{ on := 5, ground := Go.Ground.data }, { on := 10, ground := Go.Ground.data }, { on := 15, ground := Go.Ground.data }], guard := none }) (v := ?_) rfl (by kernel_rfl) (by kernel_rfl) (by kernel_rfl) (fun _ _ _ h => h) (Or.inl ⟨by rfl, ?_⟩) (by assumption) ?_
          rotate_left
          · (intro w hSw; (try dsimp only at hSw); go_simp) <;> with_reducible rfl
          simp only [Act.put, List.setIfInBounds_toArray, List.set_cons_zero, List.set_cons_succ]
          refine wpAnyH_ready (rs := [17]) (by kernel_rfl) (by simp) ?_
          refine AllReadyH.cons (o := { dst := some 81, op := Go.Op.buildSlice 22 1 #[(0, Go.Operand.tmp 80)], type := 22, pos := "ref.go:134", after := #[{ on := 16, ground := Go.Ground.data }], guard := none }) rfl (fun K hK => ?_) AllReadyH.nil
          go_simp
          refine hK.out _ _ ?_ (fun hq1 => ?_)
          · (try dsimp only) <;> (first | assumption | go_keep | (refine ⟨?_, ?_, ?_, ?_⟩ <;> first | assumption | go_keep))
          clear hK K hq0
          try simp only [Act.put, List.setIfInBounds_toArray, List.set_cons_zero, List.set_cons_succ]
          refine wpAnyH_ready (rs := [18]) (by kernel_rfl) (by simp) ?_
          refine AllReadyH.cons (o := { dst := some 82, op := Go.Op.call { callee := Go.Callee.builtin Go.Builtin.append, args := #[Go.Operand.tmp 64, Go.Operand.tmp 81], argTypes := #[22, 22] }, type := 22, pos := "ref.go:134", after := #[{ on := 0, ground := Go.Ground.data }, { on := 17, ground := Go.Ground.data }], guard := none }) rfl (fun K hK => ?_) AllReadyH.nil
          (refine step_append_lies _ rfl (.tmp 64) (.tmp 81) 22 rfl w1a.heap.size 38 i0 _ 3 48 Tryz.underlying22 hi hz0 hz1 hz2 rfl (by omega) (.slice aL k cL) k (flat xs) rfl (HOD.out.alloc (.cells #[.string p3, .string q3, .string r3] 38)) ⟨w4.heap.size, 0, none⟩ 1 1 [.string p3, .string q3, .string r3] rfl rfl (cell_new3 _ _ _ _ _ rfl) (by simp [Value.oneCell']) (by omega) (by unfold maxLen; omega) (by omega) (by simp; omega) (w4.heap.size + 1) (by simp) ?_; intro g9 c9 w9 hown9 hgrow9 hl9 hlt9; have hgrow9 : (w4.drew.alloc (.cells #[.string p3, .string q3, .string r3] 38)).grownBy w9 (Value.slice aL k cL).ownBlock := ⟨hgrow9.os, hgrow9.tape, hgrow9.output, hgrow9.size, hgrow9.block⟩; have HO9 := Lib.hid hown9; have HB9 := Lib.hid (below_grown HBD.out (Nat.le_refl _) HOD.out hgrow9); have hS9 := And.intro (far_cell hgrow9 hw4 hne1 hS0.1) (And.intro (far_cell hgrow9 hg2 hne2 hS0.2.1) (And.intro (far_cell hgrow9 hg2 hne2 hS0.2.2.1) (far_cell hgrow9 hg2 hne2 hS0.2.2.2))); clear hown9 hgrow9 hl9 hlt9)
          refine hK.out _ _ ?_ (fun hq2 => ?_)
          · exact hS9
          clear hK K hq1
          try simp only [Act.put, List.setIfInBounds_toArray, List.set_cons_zero, List.set_cons_succ]
          refine wpAnyH_ready (rs := [19]) (by kernel_rfl) (by simp) ?_
          refine AllReadyH.cons (o := { dst := some 7, op := Go.Op.assign (Go.Operand.tmp 82), type := 22, pos := "ref.go:134", after := #[{ on := 18, ground := Go.Ground.data }, { on := 18, ground := Go.Ground.chain }, { on := 0, ground := Go.Ground.phase }, { on := 1, ground := Go.Ground.phase }, { on := 2, ground := Go.Ground.phase }, { on := 3, ground := Go.Ground.phase }, { on := 4, ground := Go.Ground.phase }, { on := 5, ground := Go.Ground.phase }, { on := 6, ground := Go.Ground.phase }, { on := 7, ground := Go.Ground.phase }, { on := 8, ground := Go.Ground.phase }, { on := 9, ground := Go.Ground.phase }, { on := 10, ground := Go.Ground.phase }, { on := 11, ground := Go.Ground.phase }, { on := 12, ground := Go.Ground.phase }, { on := 13, ground := Go.Ground.phase }, { on := 14, ground := Go.Ground.phase }, { on := 15, ground := Go.Ground.phase }, { on := 16, ground := Go.Ground.phase }, { on := 17, ground := Go.Ground.phase }, { on := 18, ground := Go.Ground.phase }], guard := none }) rfl (fun K hK => ?_) AllReadyH.nil
          go_simp
          refine hK.out _ _ ?_ (fun hq3 => ?_)
          · exact hS9
          clear hK K hq2
          try simp only [Act.put, List.setIfInBounds_toArray, List.set_cons_zero, List.set_cons_succ]
          refine wpAnyH_done (by kernel_rfl) ?_ _
          refine NoPanic.normal ?_
          all_goals
            go_wp2
            go_roundw
            case rel => exact ⟨k + 1, xs ++ [⟨p3, q3, r3⟩], by omega, by go_num, Lib.hid ⟨by rw [List.length_append, HX.out.1]; rfl, HXN.out⟩, Lib.hid (by unfold Own; rw [flat_append, List.length_append, HX.out.1]; exact HO9.out), HB9⟩
            case measure => simp [intOf]; omega
        · have HXA : Hid (ofL ts = some xs) := Lib.hid (by have h1 := HX.out.2; rw [List.take_of_length_le (by have := HL.out; omega)] at h1; exact h1)
          have HBZ := Lib.hid (below_trans HB0.out HB.out)
          have HFT := Lib.hid (fit_of_ofL HXA.out HTS.out.2)
          obtain ⟨a9, c9, hv9, -⟩ := owns_form HOW.out
          subst hv9
          have HSL := Lib.hid HOW.out.sl
          have HRI := Lib.hid (rright_any wr a9 c9 xs HSL.out HFT.out (HE.out.below HBZ.out))
          obtain ⟨n9, HN9⟩ : ∃ n, Hid (n = xs.length) := ⟨_, Lib.hid rfl⟩
          have hle := rightC_le xs
          obtain ⟨q, HQ⟩ : ∃ q, Hid (q = rightC xs) := ⟨_, Lib.hid rfl⟩
          rw [← HN9.out, ← HQ.out] at HRI
          rw [← HQ.out] at hle
          rw [← HN9.out]
          by_cases h0 : q = 0
          · have HP := Lib.hid (HYES.out xs HXA.out (by rw [← HQ.out]; exact h0))
            subst h0
            go_wp2_with fail
            refine HRI.out.mono ?_
            rintro e w5 ⟨rfl, hb5⟩
            have HB5 := Lib.hid (below_trans HBZ.out hb5)
            have HS5 := Lib.hid (HSL.out.old hb5)
            clear hb5
            go_wp2
            go_ret2
            rw [HN9.out]
            exact ApplyP.yes HP.out HS5.out HB5.out
          · have HP := Lib.hid (HN2.out xs HXA.out (by rw [← HQ.out]; exact h0))
            have hqb := ne0 h0
            rw [← HQ.out] at HP
            clear h0
            go_wp2_with fail
            refine HRI.out.mono ?_
            rintro e w5 ⟨rfl, hb5⟩
            have HB5 := Lib.hid (below_trans HBZ.out hb5)
            clear hb5
            go_wp2
            go_ret2
            exact ApplyP.no HP.out HB5.out
end Go.Proofs.YtdnedbcmgkilaaaGreatDoor.Ca

end

section

namespace Go.Proofs.YtdnedbcmgkilaaaGreatDoor.Ca
open Go.RowKit Go.Proofs.YtdnedbcmgkilaaaGreatDoor
def AnsIs (r : Ans) (l : List Ent) (k : Int) : Prop := match r with
  | .ok n => l = n ∧ k = 0
  | .error j => l = [] ∧ k = j
theorem AnsIs.one {r : Ans} {l l' : List Ent} {k k' : Int} (h : AnsIs r l k) (h' : AnsIs r l' k') : l' = l ∧ k' = k := by
  cases r with
  | ok n => exact ⟨h'.1.trans h.1.symm, h'.2.trans h.2.symm⟩
  | error j => exact ⟨h'.1.trans h.1.symm, h'.2.trans h.2.symm⟩
theorem apply_form {r : Ans} {w w' : World} {e : Ending} (h : ApplyP r w e w') : ∃ (a : Option Addr) (c : Nat) (l : List Ent) (k : Int), e = .returned (.tuple #[.slice a l.length c, .int .i64 k]) ∧ SlE w' (Old w') (.slice a l.length c) l ∧ AnsIs r l k := by
  have k := h.2
  cases r with
  | ok n =>
    obtain ⟨a, c, h1, h2⟩ := k
    exact ⟨a, c, n, 0, h1, h2, rfl, rfl⟩
  | error j => exact ⟨none, 0, [], j, k, Sl.nil _ _ _ _, rfl, rfl⟩
set_option maxHeartbeats 6400000 in
set_option maxRecDepth 100000 in
theorem bytesL_any (w : World) (a : Option Addr) (cap : Nat) (xs : List Ent) (s : BA) (hX : SlE w (Old w) (.slice a xs.length cap) xs) (hF : ∀ x, x ∈ xs → FitE x) (hs : s.size ≤ 140737488351232) (hE : EnvC w) :
    Calls Tryz.prog 4 #[.slice a xs.length cap, .string s] w fun e w' => e = .returned (.bool true) ∧ Below w.heap.size w w' := by
  have HFW := Lib.hid (few_any w a cap xs hX)
  obtain ⟨L0, HL0⟩ : ∃ L, Hid (L = xs.length) := ⟨_, Lib.hid rfl⟩
  rw [← HL0.out] at HFW ⊢
  have hF' : ∀ x, x ∈ fewF xs → FitE x := fun x hx => hF x (few_mem hx)
  obtain ⟨P, HP⟩ : ∃ p, Hid (p = bytesC (fewF xs)) := ⟨_, Lib.hid rfl⟩
  obtain ⟨r, HR⟩ : ∃ p, Hid (p = parseC s.data.toList) := ⟨_, Lib.hid rfl⟩
  have HSX : Hid (SlE w (Old w) (.slice a (fewF xs).length cap) (fewF xs) → ∀ W, Below w.heap.size w W → (Calls Tryz.prog 16 #[.slice a (fewF xs).length cap] W (fun e w' => e = .returned (.tuple #[.string ⟨P.1.toArray⟩, .int .i64 P.2]) ∧ Below W.heap.size W w') ∧ Calls Tryz.prog 17 #[.slice a (fewF xs).length cap] W (fun e w' => e = .returned (.tuple #[.string ⟨P.1.toArray⟩, .int .i64 P.2]) ∧ Below W.heap.size W w')) ∧
      Calls Tryz.prog 18 #[.string s] W (ApplyP r W) ∧ Calls Tryz.prog 19 #[.string s] W (ApplyP r W) ∧
      Calls Tryz.prog 12 #[] W fun e w' => e = .returned (.bool true) ∧ Below W.heap.size W w') := Lib.hid (fun h W hb => by
    rw [HP.out, HR.out]
    exact ⟨⟨bytes_any W a cap (fewF xs) (h.old hb) hF' (hE.below hb), rbytes_any W a cap (fewF xs) (h.old hb) hF' (hE.below hb)⟩, parse_any s W hs (hE.below hb), rparse_any s W hs (hE.below hb), alive_any W (hE.below hb)⟩)
  clear hX hF hF' hE hs HL0 HP HR
  generalize fewF xs = ys at *
  obtain ⟨L, HL⟩ : ∃ L, Hid (L = ys.length) := ⟨_, Lib.hid rfl⟩
  rw [← HL.out] at HFW HSX
  obtain ⟨P1, P2⟩ := P
  simp only at HSX
  obtain ⟨T, HT⟩ : ∃ T : BA, Hid (T = ⟨P1.toArray⟩) := ⟨_, Lib.hid rfl⟩
  rw [← HT.out] at HSX
  go_enter Tryz.func4, Tryz.ntmps4
  go_wp2_with fail
  refine HFW.out.mono ?_
  rintro e w1 ⟨rfl, rfl, hX⟩
  have HS := Lib.hid (HSX.out hX)
  have H1 := Lib.hid (HS.out w (Below.refl _ _)).1.1
  clear hX HFW HSX
  go_wp2_with fail
  refine H1.out.mono ?_
  rintro e w2 ⟨rfl, hb2⟩
  have HB2 := Lib.hid hb2
  have H2 := Lib.hid (HS.out _ HB2.out).1.2
  clear hb2 H1
  go_wp2_with fail
  refine H2.out.mono ?_
  rintro e w3 ⟨rfl, hb3⟩
  have HB3 := Lib.hid (below_trans HB2.out hb3)
  have H3 := Lib.hid (HS.out _ HB3.out).2.1
  clear hb3 H2
  go_wp2_with fail
  refine H3.out.mono ?_
  rintro e w4 h4
  have HB4 := Lib.hid (below_trans HB3.out h4.1)
  obtain ⟨a4, c4, l4, k4, rfl, hs4, hr4⟩ := apply_form h4
  have HS4 := Lib.hid hs4
  have HR4 := Lib.hid hr4
  have H4 := Lib.hid (HS.out _ HB4.out).2.2.1
  obtain ⟨n4, HN4⟩ : ∃ m, Hid (m = l4.length) := ⟨_, Lib.hid rfl⟩
  rw [← HN4.out]
  clear h4 hs4 hr4 H3
  go_wp2_with fail
  refine H4.out.mono ?_
  rintro e w5 h5
  have HB5 := Lib.hid (below_trans HB4.out h5.1)
  have HS4 := Lib.hid (HS4.out.old h5.1)
  obtain ⟨a5, c5, l5, k5, rfl, hs5, hr5⟩ := apply_form h5
  have HEQ : Hid (l5 = l4 ∧ k5 = k4) := Lib.hid (AnsIs.one HR4.out hr5)
  obtain ⟨rfl, rfl⟩ := HEQ.out
  have HS5 := Lib.hid hs5
  have H5 := Lib.hid (HS.out _ HB5.out).2.2.2
  rw [← HN4.out]
  clear h5 hs5 hr5 H4 HEQ HR4
  go_wp2_with fail
  refine H5.out.mono ?_
  rintro e w6 ⟨rfl, hb6⟩
  have HB6 := Lib.hid (below_trans HB5.out hb6)
  have HLK := Lib.hid (like_any w6 a4 a5 c4 c5 l5 (HS4.out.old hb6) (HS5.out.old hb6))
  rw [← HN4.out] at HLK
  clear hb6 H5
  go_wp2_with fail
  refine HLK.out.mono ?_
  rintro e w7 ⟨rfl, hb7⟩
  have HB7 := Lib.hid (below_trans HB6.out hb7)
  clear hb7 HLK
  go_wp2
  go_ret
  exact ⟨rfl, HB7.out⟩
end Go.Proofs.YtdnedbcmgkilaaaGreatDoor.Ca

end
