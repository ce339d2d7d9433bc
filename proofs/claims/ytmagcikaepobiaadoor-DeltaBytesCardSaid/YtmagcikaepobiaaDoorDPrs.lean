/- Parse, by package delta. -/
import Derived.Test.YtmagcikaepobiaaDoorDPar
import Derived.Test.YtmagcikaepobiaaDoorDArg
namespace Go.Proofs.YtmagcikaepobiaaDoor.Dl
open Go.RowKit

theorem parF_bad {l : List UInt8} {e k : Nat} (h : getF l = .bad e k) : parF l = ([], e) := by unfold parF; rw [h]
theorem parF_num {l : List UInt8} {k : Nat} {n : Int} (h : getF l = .ok (.num n) k) : parF l = ([], 70) := by unfold parF; rw [h]
theorem parF_text {l bs : List UInt8} {k : Nat} (h : getF l = .ok (.text bs) k) : parF l = ([], 70) := by unfold parF; rw [h]
theorem parF_none {l : List UInt8} {k : Nat} {ts : List Tree} (h : getF l = .ok (.list ts) k) (ho : opsOf ts = none) : parF l = ([], 70) := by unfold parF; rw [h]; simp only; rw [ho]
theorem parF_no {l : List UInt8} {k : Nat} {ts : List Tree} {xs : List Opr} (h : getF l = .ok (.list ts) k) (ho : opsOf ts = some xs) (hr : rgB xs = false) : parF l = ([], 70) := by unfold parF; rw [h]; simp only; rw [ho]; simp only; rw [if_neg (by rw [hr]; simp)]
theorem parF_yes {l : List UInt8} {k : Nat} {ts : List Tree} {xs : List Opr} (h : getF l = .ok (.list ts) k) (ho : opsOf ts = some xs) (hr : rgB xs = true) : parF l = (xs, 0) := by unfold parF; rw [h]; simp only; rw [ho]; simp only; rw [if_pos hr]
theorem szs_ops : ∀ {ts : List Tree} {xs : List Opr}, opsOf ts = some xs → (∀ t ∈ ts, (enc t).length ≤ 131072) → Szs xs
  | [], xs, h, _ => by
    obtain rfl := Option.some.inj h
    intro j x hx; simp at hx
  | t :: r, xs, h, hb => by
    rw [opsOf] at h
    cases ho : opOf t with
    | none => rw [ho] at h; cases h
    | some y =>
      rw [ho] at h
      simp only at h
      cases hr : opsOf r with
      | none => rw [hr] at h; cases h
      | some ys =>
        rw [hr] at h
        obtain rfl := Option.some.inj h
        intro j x hx
        cases j with
        | zero =>
          obtain rfl : y = x := by simpa using hx
          have h1 := op_size ho
          have h2 := hb t (List.mem_cons_self)
          omega
        | succ j => exact szs_ops hr (fun u hu => hb u (List.mem_cons_of_mem _ hu)) j x (by simpa using hx)
theorem take_snoc {α : Type} {xs : List α} {k : Nat} {x : α} (h : xs[k]? = some x) : xs.take (k + 1) = xs.take k ++ [x] := by
  obtain ⟨hlt, rfl⟩ := List.getElem?_eq_some_iff.1 h
  rw [List.take_succ_eq_append_getElem hlt]
theorem below_grown {a W w9 : World} {o : Obj} {e : TypeId} {k n : Nat} {v : Value} {xs : List Value} (hb : Below a.heap.size a W) (ho : W.ownsRow a.heap.size e k v n xs) (hg : (W.alloc o).grownBy w9 v.ownBlock) : Below a.heap.size a w9 :=
  ⟨hg.os.trans hb.os, hg.tape.trans hb.tape, hg.output.trans hb.output, by have h1 := hg.size; have h2 := hb.size; rw [World.size_alloc] at h1; omega, fun j hj =>
    (hg.block j (by have h2 := hb.size; rw [World.size_alloc]; omega) (fun e => by have := (ho.lt j e.symm).1; omega)).trans ((Below.heap_alloc _ _ _ (by have h2 := hb.size; omega)).trans (hb.block j hj))⟩
/-- What Parse tells. -/
def ParPost (r : List Opr × Nat) (w : World) (e : Ending) (w' : World) : Prop :=
  (∃ a cap, e = .returned (.tuple #[.slice a r.1.length cap, .int .i64 r.2]) ∧ InI w' a r.1 ∧ Szs r.1 ∧ r.1.length ≤ 4000) ∧ Below w.heap.size w w'
theorem par_none {r : List Opr × Nat} {e : Nat} {w w' : World} (h : r = ([], e)) (hb : Below w.heap.size w w') : ParPost r w (.returned (.tuple #[.slice none 0 0, .int .i64 e])) w' := by
  subst h; exact ⟨⟨none, 0, rfl, InI.nil _ _, fun j x hx => by simp at hx, Nat.zero_le _⟩, hb⟩

set_option maxHeartbeats 3200000 in
set_option maxRecDepth 100000 in
theorem parse_any (s : BA) (w : World) (hs : s.size ≤ 140737488351232) : Calls Tryd.prog 8 #[.string s] w (ParPost (parF s.data.toList) w) := by
  obtain ⟨i0, hi, hz0, hz1, hz2⟩ := info_parts infoOp
  have HG := Lib.hid (get_any s w hs)
  cases hg : getF s.data.toList with
  | bad e k =>
    have HE := Lib.hid (parF_bad hg)
    have hne := (getF_bad hg).2
    rw [hg] at HG
    have hB : ((e : Int) != 0) = true := by simp; omega
    clear hg hne
    go_enter Tryd.func8, Tryd.ntmps8
    go_wp2_with fail
    refine HG.out.mono ?_
    rintro e1 w1 ⟨rfl, hb1⟩
    have HB1 := Lib.hid (below_trans hb1 (below1 w1 (.cells #[.int .i64 0, .int .i64 0, .string ⟨#[]⟩, .slice none 0 0] 36)))
    clear hb1
    go_wp2
    exact bodyPost_ret (v := .tuple #[.slice none 0 0, .int .i64 e]) (by simp [results, Tryd.results8, go_sem]) rfl (par_none HE.out HB1.out)
  | ok t k =>
    have HSND := Lib.hid (getF_sound hg)
    rw [hg] at HG
    cases t with
    | num n =>
      have HE := Lib.hid (parF_num hg)
      clear hg
      go_enter Tryd.func8, Tryd.ntmps8
      go_wp2_with fail
      refine HG.out.mono ?_
      rintro e1 w1 ⟨⟨v, rfl, hr⟩, hb1⟩
      rw [Rep] at hr; subst hr
      have R := row_new w1 #[.int .i64 1, .int .i64 n, .string ⟨#[]⟩, .slice none 0 0] 36
      have c0 := R.cell (i := 0) rfl
      have HB1 := Lib.hid (below_trans hb1 (below1 w1 (.cells #[.int .i64 1, .int .i64 n, .string ⟨#[]⟩, .slice none 0 0] 36)))
      clear hb1 R
      go_wp2
      exact bodyPost_ret (v := .tuple #[.slice none 0 0, .int .i64 70]) (by simp [results, Tryd.results8, go_sem]) rfl (par_none HE.out HB1.out)
    | text bs =>
      have HE := Lib.hid (parF_text hg)
      clear hg
      go_enter Tryd.func8, Tryd.ntmps8
      go_wp2_with fail
      refine HG.out.mono ?_
      rintro e1 w1 ⟨⟨v, rfl, hr⟩, hb1⟩
      rw [Rep] at hr; subst hr
      have R := row_new w1 #[.int .i64 2, .int .i64 0, .string ⟨bs.toArray⟩, .slice none 0 0] 36
      have c0 := R.cell (i := 0) rfl
      have HB1 := Lib.hid (below_trans hb1 (below1 w1 (.cells #[.int .i64 2, .int .i64 0, .string ⟨bs.toArray⟩, .slice none 0 0] 36)))
      clear hb1 R
      go_wp2
      exact bodyPost_ret (v := .tuple #[.slice none 0 0, .int .i64 70]) (by simp [results, Tryd.results8, go_sem]) rfl (par_none HE.out HB1.out)
    | list ts =>
      have HE0 := Lib.hid (fun ho => parF_none hg ho)
      have HE1 := Lib.hid (fun xs ho hr => parF_no (xs := xs) hg ho hr)
      have HE2 := Lib.hid (fun xs ho hr => parF_yes (xs := xs) hg ho hr)
      have HTS : Hid (ts.length ≤ 4000 ∧ ∀ t ∈ ts, (enc t).length ≤ 131072) := Lib.hid (by
        obtain ⟨-, h1, h2, h3, -⟩ := HSND.out
        refine ⟨?_, fun t ht => ?_⟩
        · have := nodesL_len ts
          rw [nodes] at h3; omega
        · obtain ⟨j, hj⟩ := List.mem_iff_getElem?.1 ht
          have := encL_get hj
          rw [← h1, enc] at h2
          simp only [List.length_cons, List.length_append, List.length_nil] at h2
          omega)
      clear hg HSND
      go_enter Tryd.func8, Tryd.ntmps8
      go_wp2_with fail
      refine HG.out.mono ?_
      rintro e1 w1 ⟨⟨v, rfl, hr⟩, hb1⟩
      obtain ⟨a, cap, us, rfl, ho, hra⟩ := rep_list (rep_24 _ _ hr)
      obtain ⟨L, HL⟩ : ∃ L, Hid (L = ts.length) := ⟨_, Lib.hid rfl⟩
      have hL4 : L ≤ 4000 := by have := HTS.out.1; have := HL.out; omega
      have HO := Lib.hid ho
      have HR := Lib.hid hra
      rw [← HL.out]
      have R := row_new w1 #[.int .i64 3, .int .i64 0, .string ⟨#[]⟩, .slice a L cap] 36
      have c0 := R.cell (i := 0) rfl
      have c3 := R.cell (i := 3) rfl
      have HB1 := Lib.hid (below_trans hb1 (below1 w1 (.cells #[.int .i64 3, .int .i64 0, .string ⟨#[]⟩, .slice a L cap] 36)))
      have HK := Lib.hid (K24.below (below1 w1 (.cells #[.int .i64 3, .int .i64 0, .string ⟨#[]⟩, .slice a L cap] 36)))
      have HBW := Lib.hid hb1
      have HB2 := Lib.hid (below1 w1 (.cells #[.int .i64 3, .int .i64 0, .string ⟨#[]⟩, .slice a L cap] 36))
      clear hb1 R hr ho hra HG
      go_wp2
      generalize w1.alloc (.cells #[.int .i64 3, .int .i64 0, .string ⟨#[]⟩, .slice a L cap] 36) = w2 at *
      clear c0 c3
      go_loopw [7, 27] (fun v i wr => ∃ (k : Nat) (xs : List Opr) (ao : Option Addr) (co : Nat), k ≤ L ∧ i = .int .i64 k ∧ v = .slice ao k co ∧ Hid (xs.length = k ∧ opsOf (ts.take k) = some xs) ∧ Hid (wr.ownsRow w1.heap.size 32 3 (.slice ao k co) k (flat xs)) ∧ Hid (Below w1.heap.size w1 wr)) (fun _ i _ => L - (intOf i).toNat)
      case atStart => exact ⟨0, [], none, 0, Nat.zero_le _, rfl, rfl, Lib.hid ⟨rfl, rfl⟩, Lib.hid (World.ownsRow_nil _ _ _ _), HB2⟩
      case round =>
        obtain ⟨k, xs, ao, co, hk, rfl, rfl, HX, HOW, HB⟩ := hrel
        clear HB2 HK
        by_cases hlt : k < L
        · obtain ⟨t, ht⟩ : ∃ t, ts[k]? = some t := ⟨_, List.getElem?_eq_getElem (by have := HL.out; omega)⟩
          obtain ⟨g, e1, e2, e3, e4, e5, e6, rfl, hrk, hcells⟩ := kid_at HO.out HR.out ht
          obtain ⟨hgl, k0, k1, k2, k3⟩ := hcells wr (K24.below HB.out)
          have HTK := Lib.hid ht
          have R := row_new wr #[.int .i64 e1, .int .i64 e2, .string e3, .slice e4 e5 e6] 36
          have d0 := R.cell (i := 0) rfl
          have d1 := R.cell (i := 1) rfl
          have d2 := R.cell (i := 2) rfl
          have d3 := R.cell (i := 3) rfl
          have hrk2 : Rep (wr.alloc (.cells #[.int .i64 e1, .int .i64 e2, .string e3, .slice e4 e5 e6] 36)) (S24 (wr.alloc (.cells #[.int .i64 e1, .int .i64 e2, .string e3, .slice e4 e5 e6] 36))) t (.agg #[.int .i64 e1, .int .i64 e2, .string e3, .slice e4 e5 e6]) := rep_24 _ _ (Rep.keep (S' := fun b => b < (wr.alloc (.cells #[.int .i64 e1, .int .i64 e2, .string e3, .slice e4 e5 e6] 36)).heap.size) (fun b hb => by
            obtain ⟨cur, hc⟩ := hb
            have hlt := lt_of_heap hc
            exact (Below.heap_alloc _ _ _ (Nat.lt_of_lt_of_le hlt HB.out.size)).trans (HB.out.block b hlt)) (fun b hb => by
            obtain ⟨cur, hc⟩ := hb
            have hlt := lt_of_heap hc
            have := HB.out.size
            rw [World.size_alloc]; omega) _ _ hrk)
          have HOP := Lib.hid (operation_any t _ (wr.alloc (.cells #[.int .i64 e1, .int .i64 e2, .string e3, .slice e4 e5 e6] 36)) hrk2)
          have HBA := Lib.hid (below_trans HB.out (below1 wr (.cells #[.int .i64 e1, .int .i64 e2, .string e3, .slice e4 e5 e6] 36)))
          have HOA : Hid ((wr.alloc (.cells #[.int .i64 e1, .int .i64 e2, .string e3, .slice e4 e5 e6] 36)).ownsRow w1.heap.size 32 3 (.slice ao k co) k (flat xs)) := Lib.hid (HOW.out.alloc _)
          clear R hrk hrk2 hcells ht HOW HB
          cases hot : opOf t with
          | none =>
            have HE := Lib.hid (HE0.out (ops_none HTK.out hot))
            unfold OpPost at HOP
            rw [hot] at HOP
            clear hot
            go_wp2_with fail
            generalize wr.alloc (.cells #[.int .i64 e1, .int .i64 e2, .string e3, .slice e4 e5 e6] 36) = w4 at *
            refine HOP.out.mono ?_
            rintro e w5 ⟨rfl, hb5⟩
            have HB5 := Lib.hid (below_trans HBW.out (below_trans HBA.out (below_trans hb5 (below1 w5 (.cells #[.int .i64 0, .int .i64 0, .string ⟨#[]⟩] 32)))))
            clear hb5 d0 d1 d2 d3
            go_wp2
            exact bodyPost_ret (v := .tuple #[.slice none 0 0, .int .i64 70]) (by simp [results, Tryd.results8, go_sem]) rfl (par_none HE.out HB5.out)
          | some x =>
            have HXN := Lib.hid (ops_snoc HX.out.2 hot)
            rw [← take_snoc HTK.out] at HXN
            unfold OpPost at HOP
            rw [hot] at HOP
            clear hot
            obtain ⟨xf, xn, xt⟩ := x
            simp only at HOP
            go_wp2_with fail
            generalize wr.alloc (.cells #[.int .i64 e1, .int .i64 e2, .string e3, .slice e4 e5 e6] 36) = w4 at *
            refine HOP.out.mono ?_
            rintro e w5 ⟨rfl, hb5⟩
            have HB5 := Lib.hid (below_trans HBA.out (below_trans hb5 (below1 w5 (.cells #[.int .i64 xf, .int .i64 xn, .string xt] 32))))
            have HO5 : Hid ((w5.alloc (.cells #[.int .i64 xf, .int .i64 xn, .string xt] 32)).ownsRow w1.heap.size 32 3 (.slice ao k co) k (flat xs)) := Lib.hid ((ownsRow_keep HOA.out (fun g hg => hb5.block g (HOA.out.lt g hg).2)).alloc _)
            have R := row_new w5 #[.int .i64 xf, .int .i64 xn, .string xt] 32
            have q0 := R.cell (i := 0) rfl
            have q1 := R.cell (i := 1) rfl
            have q2 := R.cell (i := 2) rfl
            have hsz5 : (w5.alloc (.cells #[.int .i64 xf, .int .i64 xn, .string xt] 32)).heap.size = w5.heap.size + 1 := World.size_alloc _ _
            have hz5 : w1.heap.size ≤ w5.heap.size + 1 := by have := HB5.out.size; omega
            clear hb5 R d0 d1 d2 d3 HOP HOA HBA
            go_wp2_with (at_builtin; refine wpList_append_lies _ rfl _ _ 22 rfl w1.heap.size 32 i0 _ 3 32 Tryd.underlying22 hi hz0 hz1 hz2 rfl (by decide) _ _ _ rfl (HO5.out.alloc _) _ 1 1 [.int .i64 xf, .int .i64 xn, .string xt] rfl rfl (cell_n3 _ _ _ _ _ hsz5) (by simp [Value.oneCell']) (by decide) (by unfold maxLen; omega) (by omega) (by simp; omega) (w5.heap.size + 1 + 1) (by simp) ?_; intro g9 c9 w9 hown9 hgrow9 _ _; have HO9 := Lib.hid hown9; have HB9 : Hid (Below w1.heap.size w1 w9) := Lib.hid (below_grown HB5.out HO5.out hgrow9); clear hown9 hgrow9)
            go_roundw
            case rel => exact ⟨k + 1, xs ++ [⟨xf, xn, xt⟩], some ⟨g9, 0, none⟩, c9, by omega, by go_num, rfl, Lib.hid ⟨by rw [List.length_append, HX.out.1]; rfl, HXN.out⟩, by rw [flat_append]; exact HO9, HB9⟩
            case measure => simp [intOf]; omega
        · have hkL : k = L := by omega
          have HXA : Hid (opsOf ts = some xs) := Lib.hid (by have h1 := HX.out.2; rw [List.take_of_length_le (by have := HL.out; omega)] at h1; exact h1)
          have HSZ := Lib.hid (szs_ops HXA.out HTS.out.2)
          have HBZ := Lib.hid (below_trans HBW.out HB.out)
          have hown : Own wr w1.heap.size (.slice ao xs.length co) xs := by unfold Own; rw [HX.out.1]; exact HOW.out
          obtain ⟨a9, c9, hv9, -, hin9⟩ := InI.of_owns hown
          injection hv9 with e1 e2 e3
          clear e2 e3
          subst e1
          have HIN := Lib.hid hin9
          have HRI := Lib.hid (right_any wr ao co xs (by rw [HX.out.1]; omega) HSZ.out hin9)
          rw [HX.out.1] at HRI
          clear hown hin9 hkL
          cases hrg : rgB xs with
          | false =>
            have HE := Lib.hid (HE1.out xs HXA.out hrg)
            rw [hrg] at HRI
            clear hrg
            go_wp2_with fail
            refine HRI.out.mono ?_
            rintro e w5 ⟨rfl, hb5⟩
            have HB5 := Lib.hid (below_trans HBZ.out hb5)
            clear hb5
            go_wp2
            exact bodyPost_ret (v := .tuple #[.slice none 0 0, .int .i64 70]) (by simp [results, Tryd.results8, go_sem]) rfl (par_none HE.out HB5.out)
          | true =>
            have HE := Lib.hid (HE2.out xs HXA.out hrg)
            rw [hrg] at HRI
            clear hrg
            go_wp2_with fail
            refine HRI.out.mono ?_
            rintro e w5 ⟨rfl, hb5⟩
            have HB5 := Lib.hid (below_trans HBZ.out hb5)
            have HIN5 := Lib.hid (HIN.out.below hb5)
            clear hb5
            go_wp2
            exact bodyPost_ret (v := .tuple #[.slice ao k co, .int .i64 0]) (by simp [results, Tryd.results8, go_sem]) rfl (by
              rw [HE.out]; exact ⟨⟨ao, co, by rw [HX.out.1]; rfl, HIN5.out, HSZ.out, by rw [HX.out.1]; omega⟩, HB5.out⟩)
end Go.Proofs.YtmagcikaepobiaaDoor.Dl
