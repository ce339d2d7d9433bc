/- Parse, by the document. -/
import Derived.Test.YtmagcikaepobiaaDoorDPrs
import Derived.Test.YtmagcikaepobiaaDoorRefGet
import Derived.Test.YtmagcikaepobiaaDoorDPm
namespace Go.Proofs.YtmagcikaepobiaaDoor.Dl
open Go.RowKit

theorem owns_lit (w : World) (cs : Array Value) (e : TypeId) (base n : Nat) (k : Nat) (hs : cs.size = n * k) (hb : base ≤ w.heap.size) (hn : n ≤ 9223372036854775807) : (w.alloc (.cells cs e)).ownsRow base e k (.slice (some ⟨w.heap.size, 0, none⟩) n n) n cs.toList :=
  ⟨by simpa using hs, .inr ⟨w.heap.size, n, cs, rfl, hb, heap_alloc_new w _, Nat.le_refl _, by unfold maxLen; exact hn, hs, by rw [List.take_of_length_le]; simp [hs]⟩⟩
theorem bad_elem {l : List UInt8} {k j : Nat} {ts : List Tree} {t : Tree} (h : getF l = .ok (.list ts) k) (ht : ts[j]? = some t) (hb : ∀ x, opOf t = some x → okB x = false) : parF l = ([], 70) := by
  cases ho : opsOf ts with
  | none => exact parF_none h ho
  | some xs =>
    refine parF_no h ho ?_
    cases hr : rgB xs with
    | false => rfl
    | true =>
      exfalso
      have hx := ops_back ho (all_ok hr)
      rw [← hx, List.getElem?_map] at ht
      cases hj : xs[j]? with
      | none => rw [hj] at ht; cases ht
      | some x =>
        rw [hj] at ht
        obtain rfl := Option.some.inj ht
        have hk := (rgB_true hr).2 j x hj
        have := hb x (op_of hk)
        rw [hk] at this; cases this
theorem off_of_ok {a b : Int} (h : okB ⟨a, b, ⟨#[]⟩⟩ = true) : opOf (.list [.num a, .num b]) = some ⟨a, b, ⟨#[]⟩⟩ := by
  have := op_of h
  rwa [opT_cp inB_nil] at this
theorem no_off {a b : Int} (h : okB ⟨a, b, ⟨#[]⟩⟩ = false) : ∀ x, opOf (.list [.num a, .num b]) = some x → okB x = false := fun x hx => by
  simp only [opOf] at hx
  split at hx
  · obtain rfl := Option.some.inj hx; exact h
  · cases hx
theorem all_snoc {xs : List Opr} {x : Opr} (h : ∀ y ∈ xs, okB y = true) (hx : okB x = true) : ∀ y ∈ xs ++ [x], okB y = true := fun y hy => by
  rcases List.mem_append.1 hy with h1 | h1
  · exact h y h1
  · rw [List.mem_singleton.1 h1]; exact hx
theorem rgB_all {xs : List Opr} (h : ∀ y ∈ xs, okB y = true) (hl : xs.length ≤ 2000) : rgB xs = true := rgB_mk hl (fun _ x hx => h x (List.mem_of_getElem? hx))

set_option maxHeartbeats 6400000 in
set_option maxRecDepth 100000 in
theorem rparse_any (s : BA) (w : World) (hs : s.size ≤ 140737488351232) : Calls Tryd.prog 9 #[.string s] w (ParPost (parF s.data.toList) w) := by
  obtain ⟨i0, hi, hz0, hz1, hz2⟩ := info_parts infoOp
  have HG := Lib.hid (rget_any s w hs)
  cases hg : getF s.data.toList with
  | bad e k =>
    have HE := Lib.hid (parF_bad hg)
    have hne := (getF_bad hg).2
    rw [hg] at HG
    have hB : ((e : Int) != 0) = true := by simp; omega
    clear hg hne
    go_enter Tryd.func9, Tryd.ntmps9
    go_wp2_with fail
    refine HG.out.mono ?_
    rintro e1 w1 ⟨rfl, hb1⟩
    have HB1 := Lib.hid (below_trans hb1 (below1 w1 (.cells #[.int .i64 0, .int .i64 0, .string ⟨#[]⟩, .slice none 0 0] 36)))
    clear hb1
    go_wp2
    exact bodyPost_ret (v := .tuple #[.slice none 0 0, .int .i64 e]) (by simp [results, Tryd.results9, go_sem]) rfl (par_none HE.out HB1.out)
  | ok t k =>
    have HSND := Lib.hid (getF_sound hg)
    rw [hg] at HG
    cases t with
    | num n =>
      have HE := Lib.hid (parF_num hg)
      clear hg
      go_enter Tryd.func9, Tryd.ntmps9
      go_wp2_with fail
      refine HG.out.mono ?_
      rintro e1 w1 ⟨⟨v, rfl, hr⟩, hb1⟩
      rw [Rep] at hr; subst hr
      have R := (row_new w1 #[.int .i64 1, .int .i64 n, .string ⟨#[]⟩, .slice none 0 0] 36).alloc (.cells #[] 32)
      have c0 := R.cell (i := 0) rfl
      have c3 := R.cell (i := 3) rfl
      have HRW := Lib.hid R
      have HB1 := Lib.hid (below_trans hb1 (below2 w1 (.cells #[.int .i64 1, .int .i64 n, .string ⟨#[]⟩, .slice none 0 0] 36) (.cells #[] 32)))
      clear hb1 R
      go_wp2
      generalize (w1.alloc (.cells #[.int .i64 1, .int .i64 n, .string ⟨#[]⟩, .slice none 0 0] 36)).alloc (.cells #[] 32) = w2 at *
      go_loopw [24] (fun i wr => i = .int .i64 0 ∧ wr = w2) (fun _ _ => 0)
      case atStart => exact ⟨rfl, rfl⟩
      case round =>
        obtain ⟨rfl, rfl⟩ := hrel
        go_wp2
        exact bodyPost_ret (v := .tuple #[.slice none 0 0, .int .i64 70]) (by simp [results, Tryd.results9, go_sem]) rfl (par_none HE.out HB1.out)
    | text bs =>
      have HE := Lib.hid (parF_text hg)
      clear hg
      go_enter Tryd.func9, Tryd.ntmps9
      go_wp2_with fail
      refine HG.out.mono ?_
      rintro e1 w1 ⟨⟨v, rfl, hr⟩, hb1⟩
      rw [Rep] at hr; subst hr
      have R := (row_new w1 #[.int .i64 2, .int .i64 0, .string ⟨bs.toArray⟩, .slice none 0 0] 36).alloc (.cells #[] 32)
      have c0 := R.cell (i := 0) rfl
      have c3 := R.cell (i := 3) rfl
      have HRW := Lib.hid R
      have HB1 := Lib.hid (below_trans hb1 (below2 w1 (.cells #[.int .i64 2, .int .i64 0, .string ⟨bs.toArray⟩, .slice none 0 0] 36) (.cells #[] 32)))
      clear hb1 R
      go_wp2
      generalize (w1.alloc (.cells #[.int .i64 2, .int .i64 0, .string ⟨bs.toArray⟩, .slice none 0 0] 36)).alloc (.cells #[] 32) = w2 at *
      go_loopw [24] (fun i wr => i = .int .i64 0 ∧ wr = w2) (fun _ _ => 0)
      case atStart => exact ⟨rfl, rfl⟩
      case round =>
        obtain ⟨rfl, rfl⟩ := hrel
        go_wp2
        exact bodyPost_ret (v := .tuple #[.slice none 0 0, .int .i64 70]) (by simp [results, Tryd.results9, go_sem]) rfl (par_none HE.out HB1.out)
    | list ts =>
      have HBAD := Lib.hid (fun (j : Nat) (t : Tree) ht hb => bad_elem (j := j) (t := t) hg ht hb)
      have HNO2 := Lib.hid (fun xs ho hr => parF_no (xs := xs) hg ho hr)
      have HYES := Lib.hid (fun xs ho hr => parF_yes (xs := xs) hg ho hr)
      have HTS : Hid (ts.length ≤ 4000 ∧ ∀ t ∈ ts, (enc t).length ≤ 131072) := Lib.hid (by
        obtain ⟨-, h1, h2, h3, -⟩ := HSND.out
        refine ⟨?_, fun t ht => ?_⟩
        · have := nodesL_len ts
          rw [nodes] at h3; omega
        · obtain ⟨j, hj⟩ := List.mem_iff_getElem?.1 ht
          have := encL_get hj
          rw [← h1, enc] at h2
          simp only [List.length_cons, List.length_append, List.length_nil] at h2
          omega)
      clear hg HSND
      go_enter Tryd.func9, Tryd.ntmps9
      go_wp2_with fail
      refine HG.out.mono ?_
      rintro e1 w1 ⟨⟨v, rfl, hr⟩, hb1⟩
      obtain ⟨a, cap, us0, rfl, ho, hra⟩ := rep_list (rep_24 _ _ hr)
      obtain ⟨L, HL⟩ : ∃ L, Hid (L = ts.length) := ⟨_, Lib.hid rfl⟩
      have hL4 : L ≤ 4000 := by have := HTS.out.1; have := HL.out; omega
      have HO := Lib.hid ho
      have HR := Lib.hid hra
      rw [← HL.out]
      have R := (row_new w1 #[.int .i64 3, .int .i64 0, .string ⟨#[]⟩, .slice a L cap] 36).alloc (.cells #[] 32)
      have c0 := R.cell (i := 0) rfl
      have c3 := R.cell (i := 3) rfl
      have HV0 := Lib.hid (row_new w1 #[.int .i64 3, .int .i64 0, .string ⟨#[]⟩, .slice a L cap] 36)
      have HBv := Lib.hid (below1 w1 (.cells #[.int .i64 3, .int .i64 0, .string ⟨#[]⟩, .slice a L cap] 36))
      have HBW := Lib.hid (below_trans hb1 (below1 w1 (.cells #[.int .i64 3, .int .i64 0, .string ⟨#[]⟩, .slice a L cap] 36)))
      have HSZ := Lib.hid (World.size_alloc w1 (.cells #[.int .i64 3, .int .i64 0, .string ⟨#[]⟩, .slice a L cap] 36))
      clear hb1 R hr ho hra HG
      go_wp2
      generalize w1.alloc (.cells #[.int .i64 3, .int .i64 0, .string ⟨#[]⟩, .slice a L cap] 36) = w1a at *
      rw [← HSZ.out]
      have HB2 := Lib.hid (below1 w1a (.cells #[] 32))
      have HOW0 : Hid ((w1a.alloc (.cells #[] 32)).ownsRow w1a.heap.size 32 3 (.slice (some ⟨w1a.heap.size, 0, none⟩) 0 0) 0 (flat [])) := Lib.hid (owns_lit w1a #[] 32 w1a.heap.size 0 3 rfl (Nat.le_refl _) (by omega))
      generalize w1a.alloc (.cells #[] 32) = w2 at *
      clear c0 c3
      go_loopw [7, 24] (fun v i wr => ∃ (k : Nat) (xs : List Opr) (ao : Option Addr) (co : Nat), k ≤ L ∧ i = .int .i64 k ∧ v = .slice ao k co ∧ Hid (xs.length = k ∧ opsOf (ts.take k) = some xs ∧ ∀ y ∈ xs, okB y = true) ∧ Hid (wr.ownsRow w1a.heap.size 32 3 (.slice ao k co) k (flat xs)) ∧ Hid (Below w1a.heap.size w1a wr)) (fun _ i _ => L - (intOf i).toNat)
      case atStart => exact ⟨0, [], some ⟨w1a.heap.size, 0, none⟩, 0, Nat.zero_le _, rfl, rfl, Lib.hid ⟨rfl, rfl, fun y hy => by cases hy⟩, HOW0, HB2⟩
      case round =>
        obtain ⟨k, xs, ao, co, hk, rfl, rfl, HX, HOW, HB⟩ := hrel
        clear HB2 HOW0
        by_cases hlt : k < L
        · obtain ⟨t, ht⟩ : ∃ t, ts[k]? = some t := ⟨_, List.getElem?_eq_getElem (by have := HL.out; omega)⟩
          obtain ⟨g, e1, e2, e3, e4, e5, e6, rfl, hrk, hcells⟩ := kid_at HO.out HR.out ht
          obtain ⟨hgl, k0, k1, k2, k3⟩ := hcells wr (K24.below (below_trans HBv.out HB.out))
          have HTK := Lib.hid ht
          have HBAD := Lib.hid (fun hb => HBAD.out k t HTK.out hb)
          clear ht hcells
          cases t with
          | num n =>
            obtain ⟨rfl, rfl, rfl, rfl, rfl, rfl⟩ : e1 = 1 ∧ e2 = n ∧ e3 = ⟨#[]⟩ ∧ e4 = none ∧ e5 = 0 ∧ e6 = 0 := by
              rw [Rep] at hrk; simpa using hrk
            have HE := Lib.hid (HBAD.out (fun x hx => by cases hx))
            have RA := (row_new wr #[.int .i64 1, .int .i64 e2, .string ⟨#[]⟩, .slice none 0 0] 36).alloc (.cells #[.int .i64 0, .int .i64 0, .string ⟨#[]⟩] 32)
            have RA0 := row_new wr #[.int .i64 1, .int .i64 e2, .string ⟨#[]⟩, .slice none 0 0] 36
            have RB := row_new (wr.alloc (.cells #[.int .i64 1, .int .i64 e2, .string ⟨#[]⟩, .slice none 0 0] 36)) #[.int .i64 0, .int .i64 0, .string ⟨#[]⟩] 32
            rw [World.size_alloc] at RB
            have d0 := RA.cell (i := 0) rfl
            have d2 := RA0.cell (i := 2) rfl
            have d3 := RA.cell (i := 3) rfl
            have o0 := RB.cell (i := 0) rfl
            have o1 := RB.cell (i := 1) rfl
            have o2 := RB.cell (i := 2) rfl
            have HRA := Lib.hid RA
            have HRB := Lib.hid RB
            have HBA := Lib.hid (below_trans HB.out (below2 wr (.cells #[.int .i64 1, .int .i64 e2, .string ⟨#[]⟩, .slice none 0 0] 36) (.cells #[.int .i64 0, .int .i64 0, .string ⟨#[]⟩] 32)))
            have HOA : Hid (((wr.alloc (.cells #[.int .i64 1, .int .i64 e2, .string ⟨#[]⟩, .slice none 0 0] 36)).alloc (.cells #[.int .i64 0, .int .i64 0, .string ⟨#[]⟩] 32)).ownsRow w1a.heap.size 32 3 (.slice ao k co) k (flat xs)) := Lib.hid ((HOW.out.alloc _).alloc _)
            clear RA RA0 RB HOW HB
            clear hrk
            go_wp2
            exact bodyPost_ret (v := .tuple #[.slice none 0 0, .int .i64 70]) (by simp [results, Tryd.results9, go_sem]) rfl (par_none HE.out (below_trans HBW.out HBA.out))
          | text bs =>
            obtain ⟨rfl, rfl, rfl, rfl, rfl, rfl⟩ : e1 = 2 ∧ e2 = 0 ∧ e3 = ⟨bs.toArray⟩ ∧ e4 = none ∧ e5 = 0 ∧ e6 = 0 := by
              rw [Rep] at hrk; simpa using hrk
            have hbs : bs.length ≤ 131072 := by
              have h1 := HTS.out.2 (.text bs) (List.mem_of_getElem? HTK.out)
              rw [enc, List.length_append, List.length_cons] at h1
              omega
            have RA := (row_new wr #[.int .i64 2, .int .i64 0, .string ⟨bs.toArray⟩, .slice none 0 0] 36).alloc (.cells #[.int .i64 0, .int .i64 0, .string ⟨bs.toArray⟩] 32)
            have RA0 := row_new wr #[.int .i64 2, .int .i64 0, .string ⟨bs.toArray⟩, .slice none 0 0] 36
            have RB := row_new (wr.alloc (.cells #[.int .i64 2, .int .i64 0, .string ⟨bs.toArray⟩, .slice none 0 0] 36)) #[.int .i64 0, .int .i64 0, .string ⟨bs.toArray⟩] 32
            rw [World.size_alloc] at RB
            have d0 := RA.cell (i := 0) rfl
            have d2 := RA0.cell (i := 2) rfl
            have d3 := RA.cell (i := 3) rfl
            have o0 := RB.cell (i := 0) rfl
            have o1 := RB.cell (i := 1) rfl
            have o2 := RB.cell (i := 2) rfl
            have HRA := Lib.hid RA
            have HRB := Lib.hid RB
            have HBA := Lib.hid (below_trans HB.out (below2 wr (.cells #[.int .i64 2, .int .i64 0, .string ⟨bs.toArray⟩, .slice none 0 0] 36) (.cells #[.int .i64 0, .int .i64 0, .string ⟨bs.toArray⟩] 32)))
            have HOA : Hid (((wr.alloc (.cells #[.int .i64 2, .int .i64 0, .string ⟨bs.toArray⟩, .slice none 0 0] 36)).alloc (.cells #[.int .i64 0, .int .i64 0, .string ⟨bs.toArray⟩] 32)).ownsRow w1a.heap.size 32 3 (.slice ao k co) k (flat xs)) := Lib.hid ((HOW.out.alloc _).alloc _)
            clear RA RA0 RB HOW HB
            clear hrk
            have HOPC := Lib.hid (rop_any ⟨0, 0, ⟨bs.toArray⟩⟩ ((wr.alloc (.cells #[.int .i64 2, .int .i64 0, .string ⟨bs.toArray⟩, .slice none 0 0] 36)).alloc (.cells #[.int .i64 0, .int .i64 0, .string ⟨bs.toArray⟩] 32)) (by show (⟨bs.toArray⟩ : BA).size ≤ _; rw [← BA.len]; simp only; omega))
            cases hok : okB ⟨0, 0, ⟨bs.toArray⟩⟩ with
            | false =>
              have HE := Lib.hid (HBAD.out (fun y hy => by obtain rfl := Option.some.inj hy; exact hok))
              rw [hok] at HOPC
              clear hok
              go_wp2_with fail
              generalize (wr.alloc (.cells #[.int .i64 2, .int .i64 0, .string ⟨bs.toArray⟩, .slice none 0 0] 36)).alloc (.cells #[.int .i64 0, .int .i64 0, .string ⟨bs.toArray⟩] 32) = w4 at *
              refine HOPC.out.mono ?_
              rintro e w5 ⟨rfl, hb5⟩
              have HB5 := Lib.hid (below_trans HBW.out (below_trans HBA.out hb5))
              clear hb5
              go_wp2
              exact bodyPost_ret (v := .tuple #[.slice none 0 0, .int .i64 70]) (by simp [results, Tryd.results9, go_sem]) rfl (par_none HE.out HB5.out)
            | true =>
              have HOK := Lib.hid hok
              rw [hok] at HOPC
              have HOT : Hid (opOf (.text bs) = some ⟨0, 0, ⟨bs.toArray⟩⟩) := Lib.hid (by rfl)
              clear hok
              go_wp2_with fail
              generalize (wr.alloc (.cells #[.int .i64 2, .int .i64 0, .string ⟨bs.toArray⟩, .slice none 0 0] 36)).alloc (.cells #[.int .i64 0, .int .i64 0, .string ⟨bs.toArray⟩] 32) = w4 at *
              refine HOPC.out.mono ?_
              rintro e w5 ⟨rfl, hb5⟩
              have HB5 := Lib.hid (below_trans HBA.out hb5)
              have HO5 : Hid (w5.ownsRow w1a.heap.size 32 3 (.slice ao k co) k (flat xs)) := Lib.hid (ownsRow_keep HOA.out (fun g hg => hb5.block g (HOA.out.lt g hg).2))
              have HRB5 := Lib.hid (HRB.out.below hb5)
              have m0 := HRB5.out.cell (i := 0) rfl
              have m1 := HRB5.out.cell (i := 1) rfl
              have m2 := HRB5.out.cell (i := 2) rfl
              have hz5 : w1a.heap.size ≤ w5.heap.size := HB5.out.size
              clear hb5
              have HXN := Lib.hid (ops_snoc HX.out.2.1 HOT.out)
              rw [← take_snoc HTK.out] at HXN
              have HAL := Lib.hid (all_snoc HX.out.2.2 HOK.out)
              go_wp2_with (at_builtin; refine wpList_append_lies _ rfl _ _ 22 rfl w1a.heap.size 32 i0 _ 3 32 Tryd.underlying22 hi hz0 hz1 hz2 rfl (by decide) _ _ _ rfl (HO5.out.alloc _) _ 1 1 [.int .i64 0, .int .i64 0, .string ⟨bs.toArray⟩] rfl rfl (cell_n3 _ _ _ _ _ rfl) (by simp [Value.oneCell']) (by decide) (by unfold maxLen; omega) (by omega) (by simp; omega) (w5.heap.size + 1) (by simp) ?_; intro g9 c9 w9 hown9 hgrow9 _ _; have HO9 := Lib.hid hown9; have HB9 : Hid (Below w1a.heap.size w1a w9) := Lib.hid (below_grown HB5.out HO5.out hgrow9); clear hown9 hgrow9)
              go_roundw
              case rel => exact ⟨k + 1, xs ++ [⟨0, 0, ⟨bs.toArray⟩⟩], some ⟨g9, 0, none⟩, c9, by omega, by go_num, rfl, Lib.hid ⟨by rw [List.length_append, HX.out.1]; rfl, HXN.out, HAL.out⟩, by rw [flat_append]; exact HO9, HB9⟩
              case measure => simp [intOf]; omega
          | list us =>
            obtain ⟨a2, cap2, us2, hlv, ho2, hra2⟩ := rep_list hrk
            obtain ⟨rfl, rfl, rfl, rfl, he5, rfl⟩ : e1 = 3 ∧ e2 = 0 ∧ e3 = ⟨#[]⟩ ∧ e4 = a2 ∧ e5 = us.length ∧ e6 = cap2 := by simpa using hlv
            obtain ⟨L2, HL2⟩ : ∃ L2, Hid (L2 = us.length) := ⟨_, Lib.hid rfl⟩
            have hL2m : L2 ≤ 9223372036854775807 := by
              rcases ho2.2 with ⟨h1, h0⟩ | ⟨g2, cap', cur, hv, -, -, hc, hm, -⟩
              · have := HL2.out; omega
              · have := HL2.out; unfold maxLen at hm; omega
            subst he5
            rw [← HL2.out] at k3
            have HO2 := Lib.hid ho2
            have HR2 := Lib.hid hra2
            have HBS := HB
            have HOWS := HOW
            have RA := (row_new wr #[.int .i64 3, .int .i64 0, .string ⟨#[]⟩, .slice e4 L2 e6] 36).alloc (.cells #[.int .i64 0, .int .i64 0, .string ⟨#[]⟩] 32)
            have RA0 := row_new wr #[.int .i64 3, .int .i64 0, .string ⟨#[]⟩, .slice e4 L2 e6] 36
            have RB := row_new (wr.alloc (.cells #[.int .i64 3, .int .i64 0, .string ⟨#[]⟩, .slice e4 L2 e6] 36)) #[.int .i64 0, .int .i64 0, .string ⟨#[]⟩] 32
            rw [World.size_alloc] at RB
            have d0 := RA.cell (i := 0) rfl
            have d2 := RA0.cell (i := 2) rfl
            have d3 := RA.cell (i := 3) rfl
            have o0 := RB.cell (i := 0) rfl
            have o1 := RB.cell (i := 1) rfl
            have o2 := RB.cell (i := 2) rfl
            have HRA := Lib.hid RA
            have HRB := Lib.hid RB
            have HBA := Lib.hid (below_trans HB.out (below2 wr (.cells #[.int .i64 3, .int .i64 0, .string ⟨#[]⟩, .slice e4 L2 e6] 36) (.cells #[.int .i64 0, .int .i64 0, .string ⟨#[]⟩] 32)))
            have HOA : Hid (((wr.alloc (.cells #[.int .i64 3, .int .i64 0, .string ⟨#[]⟩, .slice e4 L2 e6] 36)).alloc (.cells #[.int .i64 0, .int .i64 0, .string ⟨#[]⟩] 32)).ownsRow w1a.heap.size 32 3 (.slice ao k co) k (flat xs)) := Lib.hid ((HOW.out.alloc _).alloc _)
            clear RA RA0 RB HOW HB
            clear hrk hlv ho2 hra2
            by_cases h2 : L2 = 2
            rotate_left
            · have HE := Lib.hid (HBAD.out (fun x hx => by
                have hl := HL2.out
                match us, hl, hx with
                | [], _, hx => cases hx
                | [_], _, hx => cases hx
                | [_, _], hl, _ => exact absurd hl h2
                | _ :: _ :: _ :: _, _, hx => cases hx))
              have hB : ((L2 : Int) != 2) = true := by simp; omega
              clear h2
              go_wp2
              exact bodyPost_ret (v := .tuple #[.slice none 0 0, .int .i64 70]) (by simp [results, Tryd.results9, go_sem]) rfl (par_none HE.out (below_trans HBW.out HBA.out))
            obtain ⟨x, y, HXY⟩ : ∃ x y, Hid (us = [x, y]) := by
              have hl := HL2.out
              match us, hl with
              | [], hl => simp at hl; omega
              | [_], hl => simp at hl; omega
              | [x, y], _ => exact ⟨x, y, Lib.hid rfl⟩
              | _ :: _ :: _ :: _, hl => simp at hl; omega
            obtain ⟨g2, p1, p2, p3, p4, p5, p6, rfl, hrx, hcx⟩ := kid_at HO2.out HR2.out (k := 0) (t := x) (by rw [HXY.out]; rfl)
            obtain ⟨g', q1, q2, q3, q4, q5, q6, hg', hry, hcy⟩ := kid_at HO2.out HR2.out (k := 1) (t := y) (by rw [HXY.out]; rfl)
            obtain rfl : g2 = g' := by simpa using hg'
            subst h2
            simp only [Nat.zero_mul, Nat.zero_add] at hcx
            simp only [Nat.one_mul, Nat.reduceAdd] at hcy
            obtain ⟨-, x0, x1, -⟩ := hcx _ (K24.below (below_trans HBv.out HBA.out))
            obtain ⟨-, y0, y1, -⟩ := hcy _ (K24.below (below_trans HBv.out HBA.out))
            clear hcx hcy hg'
            -- the kinds
            have hkx : (∃ n, x = .num n) ∨ ((p1 != 1) = true ∧ ∀ z, opOf (.list us) = some z → False) := by
              cases x with
              | num n => exact .inl ⟨n, rfl⟩
              | text bs =>
                rw [Rep] at hrx
                have : p1 = 2 := by simp at hrx; exact hrx.1
                exact .inr ⟨by rw [this]; rfl, fun z hz => by rw [HXY.out] at hz; simp [opOf, isOffT] at hz⟩
              | list vs =>
                obtain ⟨_, _, _, hv, -, -⟩ := rep_list hrx
                have : p1 = 3 := by simp at hv; exact hv.1
                exact .inr ⟨by rw [this]; rfl, fun z hz => by rw [HXY.out] at hz; simp [opOf, isOffT] at hz⟩
            have hky : (∃ n, y = .num n) ∨ ((q1 != 1) = true ∧ ∀ z, opOf (.list us) = some z → False) := by
              cases y with
              | num n => exact .inl ⟨n, rfl⟩
              | text bs =>
                rw [Rep] at hry
                have : q1 = 2 := by simp at hry; exact hry.1
                exact .inr ⟨by rw [this]; rfl, fun z hz => by rw [HXY.out] at hz; simp [opOf, isOffT] at hz⟩
              | list vs =>
                obtain ⟨_, _, _, hv, -, -⟩ := rep_list hry
                have : q1 = 3 := by simp at hv; exact hv.1
                exact .inr ⟨by rw [this]; rfl, fun z hz => by rw [HXY.out] at hz; simp [opOf, isOffT] at hz⟩
            rcases hkx with ⟨fa, rfl⟩ | ⟨hB, hno⟩
            rotate_left
            · have HE := Lib.hid (HBAD.out (fun z hz => (hno z hz).elim))
              clear hno hky hrx hry
              go_wp2
              exact bodyPost_ret (v := .tuple #[.slice none 0 0, .int .i64 70]) (by simp [results, Tryd.results9, go_sem]) rfl (par_none HE.out (below_trans HBW.out HBA.out))
            obtain ⟨rfl, rfl⟩ : p1 = 1 ∧ p2 = fa := by rw [Rep] at hrx; simp at hrx; exact ⟨hrx.1, hrx.2.1⟩
            rcases hky with ⟨fb, rfl⟩ | ⟨hB, hno⟩
            rotate_left
            · have HE := Lib.hid (HBAD.out (fun z hz => (hno z hz).elim))
              clear hno hrx hry
              go_wp2
              exact bodyPost_ret (v := .tuple #[.slice none 0 0, .int .i64 70]) (by simp [results, Tryd.results9, go_sem]) rfl (par_none HE.out (below_trans HBW.out HBA.out))
            obtain ⟨rfl, rfl⟩ : q1 = 1 ∧ q2 = fb := by rw [Rep] at hry; simp at hry; exact ⟨hry.1, hry.2.1⟩
            clear hrx hry
            clear HRA HRB HBA HOA
            have HBA := Lib.hid ((below_trans HBS.out (below2 wr (.cells #[.int .i64 3, .int .i64 0, .string ⟨#[]⟩, .slice (some ⟨g2, 0, none⟩) 2 e6] 36) (.cells #[.int .i64 p2, .int .i64 q2, .string ⟨#[]⟩] 32))).drew)
            have HOA : Hid ((((wr.alloc (.cells #[.int .i64 3, .int .i64 0, .string ⟨#[]⟩, .slice (some ⟨g2, 0, none⟩) 2 e6] 36)).alloc (.cells #[.int .i64 p2, .int .i64 q2, .string ⟨#[]⟩] 32)).drew).ownsRow w1a.heap.size 32 3 (.slice ao k co) k (flat xs)) := Lib.hid (ownsRow_keep ((HOWS.out.alloc (.cells #[.int .i64 3, .int .i64 0, .string ⟨#[]⟩, .slice (some ⟨g2, 0, none⟩) 2 e6] 36)).alloc (.cells #[.int .i64 p2, .int .i64 q2, .string ⟨#[]⟩] 32)) (fun _ _ => rfl))
            have HRB : Hid (Row (((wr.alloc (.cells #[.int .i64 3, .int .i64 0, .string ⟨#[]⟩, .slice (some ⟨g2, 0, none⟩) 2 e6] 36)).alloc (.cells #[.int .i64 p2, .int .i64 q2, .string ⟨#[]⟩] 32)).drew) (wr.heap.size + 1) 32 [.int .i64 p2, .int .i64 q2, .string ⟨#[]⟩]) := Lib.hid (by
              have h := row_new (wr.alloc (.cells #[.int .i64 3, .int .i64 0, .string ⟨#[]⟩, .slice (some ⟨g2, 0, none⟩) 2 e6] 36)) #[.int .i64 p2, .int .i64 q2, .string ⟨#[]⟩] 32
              rw [World.size_alloc] at h
              exact h)
            go_wp2
            go_region
            have HOPC := Lib.hid (rop_any ⟨p2, q2, ⟨#[]⟩⟩ (((wr.alloc (.cells #[.int .i64 3, .int .i64 0, .string ⟨#[]⟩, .slice (some ⟨g2, 0, none⟩) 2 e6] 36)).alloc (.cells #[.int .i64 p2, .int .i64 q2, .string ⟨#[]⟩] 32)).drew) (by exact Nat.zero_le _))
            cases hok : okB ⟨p2, q2, ⟨#[]⟩⟩ with
            | false =>
              have HE := Lib.hid (HBAD.out (fun y hy => by exact no_off hok y (by rw [HXY.out] at hy; exact hy)))
              rw [hok] at HOPC
              clear hok
              go_wp2_with fail
              generalize ((wr.alloc (.cells #[.int .i64 3, .int .i64 0, .string ⟨#[]⟩, .slice (some ⟨g2, 0, none⟩) 2 e6] 36)).alloc (.cells #[.int .i64 p2, .int .i64 q2, .string ⟨#[]⟩] 32)).drew = w4 at *
              refine HOPC.out.mono ?_
              rintro e w5 ⟨rfl, hb5⟩
              have HB5 := Lib.hid (below_trans HBW.out (below_trans HBA.out hb5))
              clear hb5
              go_wp2
              exact bodyPost_ret (v := .tuple #[.slice none 0 0, .int .i64 70]) (by simp [results, Tryd.results9, go_sem]) rfl (par_none HE.out HB5.out)
            | true =>
              have HOK := Lib.hid hok
              rw [hok] at HOPC
              have HOT : Hid (opOf (.list us) = some ⟨p2, q2, ⟨#[]⟩⟩) := Lib.hid (by rw [HXY.out]; exact off_of_ok hok)
              clear hok
              go_wp2_with fail
              generalize ((wr.alloc (.cells #[.int .i64 3, .int .i64 0, .string ⟨#[]⟩, .slice (some ⟨g2, 0, none⟩) 2 e6] 36)).alloc (.cells #[.int .i64 p2, .int .i64 q2, .string ⟨#[]⟩] 32)).drew = w4 at *
              refine HOPC.out.mono ?_
              rintro e w5 ⟨rfl, hb5⟩
              have HB5 := Lib.hid (below_trans HBA.out hb5)
              have HO5 : Hid (w5.ownsRow w1a.heap.size 32 3 (.slice ao k co) k (flat xs)) := Lib.hid (ownsRow_keep HOA.out (fun g hg => hb5.block g (HOA.out.lt g hg).2))
              have HRB5 := Lib.hid (HRB.out.below hb5)
              have m0 := HRB5.out.cell (i := 0) rfl
              have m1 := HRB5.out.cell (i := 1) rfl
              have m2 := HRB5.out.cell (i := 2) rfl
              have hz5 : w1a.heap.size ≤ w5.heap.size := HB5.out.size
              clear hb5
              have HXN := Lib.hid (ops_snoc HX.out.2.1 HOT.out)
              rw [← take_snoc HTK.out] at HXN
              have HAL := Lib.hid (all_snoc HX.out.2.2 HOK.out)
              go_wp2_with (at_builtin; refine wpList_append_lies _ rfl _ _ 22 rfl w1a.heap.size 32 i0 _ 3 32 Tryd.underlying22 hi hz0 hz1 hz2 rfl (by decide) _ _ _ rfl (HO5.out.alloc _) _ 1 1 [.int .i64 p2, .int .i64 q2, .string ⟨#[]⟩] rfl rfl (cell_n3 _ _ _ _ _ rfl) (by simp [Value.oneCell']) (by decide) (by unfold maxLen; omega) (by omega) (by simp; omega) (w5.heap.size + 1) (by simp) ?_; intro g9 c9 w9 hown9 hgrow9 _ _; have HO9 := Lib.hid hown9; have HB9 : Hid (Below w1a.heap.size w1a w9) := Lib.hid (below_grown HB5.out HO5.out hgrow9); clear hown9 hgrow9)
              go_roundw
              case rel => exact ⟨k + 1, xs ++ [⟨p2, q2, ⟨#[]⟩⟩], some ⟨g9, 0, none⟩, c9, by omega, by go_num, rfl, Lib.hid ⟨by rw [List.length_append, HX.out.1]; rfl, HXN.out, HAL.out⟩, by rw [flat_append]; exact HO9, HB9⟩
              case measure => simp [intOf]; omega
        · have hkL : k = L := by omega
          have HXA : Hid (opsOf ts = some xs) := Lib.hid (by have h1 := HX.out.2.1; rw [List.take_of_length_le (by have := HL.out; omega)] at h1; exact h1)
          have HSZ := Lib.hid (szs_ops HXA.out HTS.out.2)
          have HBZ := Lib.hid (below_trans HBW.out HB.out)
          have hown : Own wr w1a.heap.size (.slice ao xs.length co) xs := by unfold Own; rw [HX.out.1]; exact HOW.out
          obtain ⟨a9, c9, hv9, -, hin9⟩ := InI.of_owns hown
          injection hv9 with e1 e2 e3
          clear e2 e3
          subst e1
          have HIN := Lib.hid hin9
          have v0 := (HV0.out.below HB.out).cell (i := 0) rfl
          clear hown hin9 hkL
          by_cases hbig : 2000 < k
          · have HE := Lib.hid (HNO2.out xs HXA.out (rgB_long (by rw [HX.out.1]; exact hbig)))
            have hbi : (2000 : Int) < (k : Int) := by omega
            go_wp2
            exact bodyPost_ret (v := .tuple #[.slice none 0 0, .int .i64 70]) (by simp [results, Tryd.results9, go_sem]) rfl (par_none HE.out HBZ.out)
          · have HE := Lib.hid (HYES.out xs HXA.out (rgB_all HX.out.2.2 (by rw [HX.out.1]; omega)))
            have hbi : ¬ (2000 : Int) < (k : Int) := by omega
            go_wp2
            exact bodyPost_ret (v := .tuple #[.slice ao k co, .int .i64 0]) (by simp [results, Tryd.results9, go_sem]) rfl (by
              rw [HE.out]; exact ⟨⟨ao, co, by rw [HX.out.1]; rfl, HIN.out, HSZ.out, by rw [HX.out.1]; omega⟩, HBZ.out⟩)
end Go.Proofs.YtmagcikaepobiaaDoor.Dl
