/- Parse: an operation out of a value. -/
import Derived.Test.YtmagcikaepobiaaDoorDPo
import Derived.Test.YtmagcikaepobiaaDoorDRight
import Derived.Test.YtmagcikaepobiaaDoorRMny
import Derived.RegionTactic
namespace Go.Proofs.YtmagcikaepobiaaDoor.Dl
open Go.RowKit

mutual
theorem rep_24 {w : World} {S : Nat → Prop} : ∀ (t : Tree) (v : Value), Rep w S t v → Rep w (S24 w) t v
  | .num n, v, h => by rw [Rep] at h ⊢; exact h
  | .text bs, v, h => by rw [Rep] at h ⊢; exact h
  | .list ts, v, h => by
    rw [Rep] at h ⊢
    obtain ⟨L, xs, hv, ho, -, hr⟩ := h
    exact ⟨L, xs, hv, ho, own24 ho, repAll_24 ts xs hr⟩
theorem repAll_24 {w : World} {S : Nat → Prop} : ∀ (ts : List Tree) (xs : List Value), RepAll w S ts xs → RepAll w (S24 w) ts xs
  | [], xs, h => by rw [RepAll] at h ⊢; exact h
  | t :: ts, xs, h => by
    rw [RepAll] at h ⊢
    obtain ⟨c0, c1, c2, c3, rest, hx, ht, hr⟩ := h
    exact ⟨c0, c1, c2, c3, rest, hx, rep_24 t _ ht, repAll_24 ts rest hr⟩
end
theorem rep_list {w : World} {S : Nat → Prop} {ts : List Tree} {v : Value} (h : Rep w S (.list ts) v) : ∃ a cap xs, v = listV (.slice a ts.length cap) ∧ w.ownsRow 0 36 4 (.slice a ts.length cap) ts.length xs ∧ RepAll w S ts xs := by
  rw [Rep] at h
  obtain ⟨L, xs, rfl, ho, -, hr⟩ := h
  rcases ho.2 with ⟨rfl, h0⟩ | ⟨g, cap, cur, rfl, -⟩
  · rw [h0] at ho ⊢; exact ⟨none, 0, xs, rfl, ho, hr⟩
  · exact ⟨_, cap, xs, rfl, ho, hr⟩

set_option maxHeartbeats 1600000 in
theorem isOffset_any (t : Tree) (v : Value) (w : World) (S : Nat → Prop) (hr : Rep w S t v) : Calls Tryd.prog 39 #[v] w fun e w' => e = .returned (.bool (isOffT t)) ∧ Below w.heap.size w w' := by
  cases t with
  | num n =>
    rw [Rep] at hr; subst hr
    have HE : Hid (isOffT (.num n) = (decide (0 ≤ n) && decide (n ≤ 131072))) := Lib.hid rfl
    have HB := Lib.hid (below1 w (.cells #[.int .i64 1, .int .i64 n, .string ⟨#[]⟩, .slice none 0 0] 36))
    have R := row_new w #[.int .i64 1, .int .i64 n, .string ⟨#[]⟩, .slice none 0 0] 36
    have c0 := R.cell (i := 0) rfl
    have c1 := R.cell (i := 1) rfl
    clear R
    by_cases h1 : 0 ≤ n
    · by_cases h2 : n ≤ 131072
      all_goals
        have HF : Hid (isOffT (.num n) = decide (n ≤ 131072)) := Lib.hid (by rw [HE.out, decide_eq_true h1]; rfl)
        go_enter Tryd.func39, Tryd.ntmps39
        go_wp2
        go_ret
        exact ⟨ret_bool (by rw [HF.out]; simp [h2]), HB.out⟩
    · have HF : Hid (isOffT (.num n) = false) := Lib.hid (by rw [HE.out, decide_eq_false h1]; rfl)
      have h1' : decide (0 ≤ n) = false := decide_eq_false h1
      go_enter Tryd.func39, Tryd.ntmps39
      go_wp2
      go_ret
      exact ⟨ret_bool HF.out.symm, HB.out⟩
  | text bs =>
    rw [Rep] at hr; subst hr
    have HB := Lib.hid (below1 w (.cells #[.int .i64 2, .int .i64 0, .string ⟨bs.toArray⟩, .slice none 0 0] 36))
    have R := row_new w #[.int .i64 2, .int .i64 0, .string ⟨bs.toArray⟩, .slice none 0 0] 36
    have c0 := R.cell (i := 0) rfl
    clear R
    go_enter Tryd.func39, Tryd.ntmps39
    go_wp2
    go_ret
    exact ⟨rfl, HB.out⟩
  | list ts =>
    obtain ⟨a, cap, xs, rfl, ho, -⟩ := rep_list hr
    have hl := ho.1
    obtain ⟨L, HL⟩ : ∃ L, Hid (L = ts.length) := ⟨_, Lib.hid rfl⟩
    rw [← HL.out]
    have HB := Lib.hid (below1 w (.cells #[.int .i64 3, .int .i64 0, .string ⟨#[]⟩, .slice a L cap] 36))
    have R := row_new w #[.int .i64 3, .int .i64 0, .string ⟨#[]⟩, .slice a L cap] 36
    have c0 := R.cell (i := 0) rfl
    clear R hr ho hl
    go_enter Tryd.func39, Tryd.ntmps39
    go_wp2
    go_ret
    exact ⟨rfl, HB.out⟩

/-- What operation answers. -/
def OpPost (t : Tree) (w : World) (e : Ending) (w' : World) : Prop :=
  (match opOf t with
    | some x => e = .returned (.tuple #[opV x, .bool true])
    | none => e = .returned (.tuple #[opV ⟨0, 0, ⟨#[]⟩⟩, .bool false])) ∧ Below w.heap.size w w'
theorem op_yes {t : Tree} {x : Opr} {w w' : World} (h : opOf t = some x) (hb : Below w.heap.size w w') : OpPost t w (.returned (.tuple #[opV x, .bool true])) w' := by
  unfold OpPost; rw [h]; exact ⟨rfl, hb⟩
theorem op_no {t : Tree} {w w' : World} (h : opOf t = none) (hb : Below w.heap.size w w') : OpPost t w (.returned (.tuple #[opV ⟨0, 0, ⟨#[]⟩⟩, .bool false])) w' := by
  unfold OpPost; rw [h]; exact ⟨rfl, hb⟩
theorem Row.put3 {w : World} {b : Nat} {t : TypeId} {x0 x1 x2 : Value} (h : Row w b t [x0, x1, x2]) (a c d : Value) : Row (((w.setCell ⟨b, 0, none⟩ a).setCell ⟨b, 1, none⟩ c).setCell ⟨b, 2, none⟩ d) b t [a, c, d] := ((h.set 0 a).set 1 c).set 2 d
theorem But.put3 (g : Nat) (w : World) (a b c : Value) : But g w (((w.setCell ⟨g, 0, none⟩ a).setCell ⟨g, 1, none⟩ b).setCell ⟨g, 2, none⟩ c) := (((But.refl g w).set 0 a).set 1 b).set 2 c

set_option maxHeartbeats 3200000 in
set_option maxRecDepth 100000 in
theorem operation_any (t : Tree) (v : Value) (w : World) (hr : Rep w (S24 w) t v) : Calls Tryd.prog 18 #[v] w (OpPost t w) := by
  cases t with
  | num n =>
    rw [Rep] at hr; subst hr
    have RA := (row_new w #[.int .i64 1, .int .i64 n, .string ⟨#[]⟩, .slice none 0 0] 36).alloc (.cells #[.int .i64 0, .int .i64 0, .string ⟨#[]⟩] 32)
    have RB := row_new (w.alloc (.cells #[.int .i64 1, .int .i64 n, .string ⟨#[]⟩, .slice none 0 0] 36)) #[.int .i64 0, .int .i64 0, .string ⟨#[]⟩] 32
    rw [World.size_alloc] at RB
    have RZ := (row_new w #[.int .i64 1, .int .i64 n, .string ⟨#[]⟩, .slice none 0 0] 36).alloc (.cells #[.int .i64 0, .int .i64 0, .string ⟨#[]⟩] 32)
    have a0 := RZ.cell (i := 0) rfl
    have a2 := RZ.cell (i := 2) rfl
    have HB := Lib.hid (below2 w (.cells #[.int .i64 1, .int .i64 n, .string ⟨#[]⟩, .slice none 0 0] 36) (.cells #[.int .i64 0, .int .i64 0, .string ⟨#[]⟩] 32))
    have e0 := RB.cell (i := 0) rfl
    have e1 := RB.cell (i := 1) rfl
    have e2 := RB.cell (i := 2) rfl
    have HE0 := Lib.hid (And.intro e0 (And.intro e1 e2))
    clear RA RB RZ e0 e1 e2
    go_enter Tryd.func18, Tryd.ntmps18
    go_wp2
    have e0 := HE0.out.1
    have e1 := HE0.out.2.1
    have e2 := HE0.out.2.2
    exact bodyPost_ret (v := .tuple #[.agg #[.int .i64 0, .int .i64 0, .string ⟨#[]⟩], .bool false]) (by simp [results, Tryd.results18, go_sem, e0, e1, e2]) rfl (op_no rfl HB.out)
  | text bs =>
    rw [Rep] at hr; subst hr
    have RA := (row_new w #[.int .i64 2, .int .i64 0, .string ⟨bs.toArray⟩, .slice none 0 0] 36).alloc (.cells #[.int .i64 0, .int .i64 0, .string ⟨bs.toArray⟩] 32)
    have RB := row_new (w.alloc (.cells #[.int .i64 2, .int .i64 0, .string ⟨bs.toArray⟩, .slice none 0 0] 36)) #[.int .i64 0, .int .i64 0, .string ⟨bs.toArray⟩] 32
    rw [World.size_alloc] at RB
    have RZ := (row_new w #[.int .i64 2, .int .i64 0, .string ⟨bs.toArray⟩, .slice none 0 0] 36).alloc (.cells #[.int .i64 0, .int .i64 0, .string ⟨#[]⟩] 32)
    have a0 := RZ.cell (i := 0) rfl
    have a2 := RZ.cell (i := 2) rfl
    have HB := Lib.hid (below2 w (.cells #[.int .i64 2, .int .i64 0, .string ⟨bs.toArray⟩, .slice none 0 0] 36) (.cells #[.int .i64 0, .int .i64 0, .string ⟨bs.toArray⟩] 32))
    have e0 := RB.cell (i := 0) rfl
    have e1 := RB.cell (i := 1) rfl
    have e2 := RB.cell (i := 2) rfl
    have HE0 := Lib.hid (And.intro e0 (And.intro e1 e2))
    clear RA RB RZ e0 e1 e2
    go_enter Tryd.func18, Tryd.ntmps18
    go_wp2
    have e0 := HE0.out.1
    have e1 := HE0.out.2.1
    have e2 := HE0.out.2.2
    exact bodyPost_ret (v := .tuple #[.agg #[.int .i64 0, .int .i64 0, .string ⟨bs.toArray⟩], .bool true]) (by simp [results, Tryd.results18, go_sem, e0, e1, e2]) rfl (op_yes (x := ⟨0, 0, ⟨bs.toArray⟩⟩) rfl HB.out)
  | list ts =>
    obtain ⟨a, cap, us, rfl, ho, hra⟩ := rep_list hr
    obtain ⟨L, HL⟩ : ∃ L, Hid (L = ts.length) := ⟨_, Lib.hid rfl⟩
    have HO := Lib.hid ho
    have HR := Lib.hid hra
    rw [← HL.out]
    have hLm : L ≤ 9223372036854775807 := by
      rcases ho.2 with ⟨h1, h0⟩ | ⟨g, cap', cur, hv, -, -, hc, hm, -⟩
      · have := HL.out; omega
      · have := HL.out; unfold maxLen at hm; omega
    have RA := (row_new w #[.int .i64 3, .int .i64 0, .string ⟨#[]⟩, .slice a L cap] 36).alloc (.cells #[.int .i64 0, .int .i64 0, .string ⟨#[]⟩] 32)
    have RB := row_new (w.alloc (.cells #[.int .i64 3, .int .i64 0, .string ⟨#[]⟩, .slice a L cap] 36)) #[.int .i64 0, .int .i64 0, .string ⟨#[]⟩] 32
    rw [World.size_alloc] at RB
    have HB := Lib.hid (below2 w (.cells #[.int .i64 3, .int .i64 0, .string ⟨#[]⟩, .slice a L cap] 36) (.cells #[.int .i64 0, .int .i64 0, .string ⟨#[]⟩] 32))
    have a0 := RA.cell (i := 0) rfl
    have a3 := RA.cell (i := 3) rfl
    have HRA := Lib.hid RA
    have HRB := Lib.hid RB
    clear RA RB hr ho hra
    by_cases h2 : L = 2
    rotate_left
    · have HN : Hid (opOf (.list ts) = none) := Lib.hid (by
        have hl := HL.out
        match ts, hl with
        | [], _ => rfl
        | [_], _ => rfl
        | [_, _], hl => exact absurd hl h2
        | _ :: _ :: _ :: _, _ => rfl)
      have hB : ((L : Int) == 2) = false := by rw [beq_eq_false_iff_ne]; omega
      clear h2
      go_enter Tryd.func18, Tryd.ntmps18
      go_wp2
      have e0 := HRB.out.cell (i := 0) rfl
      have e1 := HRB.out.cell (i := 1) rfl
      have e2 := HRB.out.cell (i := 2) rfl
      exact bodyPost_ret (v := .tuple #[.agg #[.int .i64 0, .int .i64 0, .string ⟨#[]⟩], .bool false]) (by simp [results, Tryd.results18, go_sem, e0, e1, e2]) rfl (op_no HN.out HB.out)
    obtain ⟨x, y, HXY⟩ : ∃ x y, Hid (ts = [x, y]) := by
      have hl := HL.out
      match ts, hl with
      | [], hl => simp at hl; omega
      | [_], hl => simp at hl; omega
      | [x, y], _ => exact ⟨x, y, Lib.hid rfl⟩
      | _ :: _ :: _ :: _, hl => simp at hl; omega
    obtain ⟨g, p1, p2, p3, p4, p5, p6, rfl, hrx, hcx⟩ := kid_at HO.out HR.out (k := 0) (t := x) (by rw [HXY.out]; rfl)
    obtain ⟨g', q1, q2, q3, q4, q5, q6, hg', hry, hcy⟩ := kid_at HO.out HR.out (k := 1) (t := y) (by rw [HXY.out]; rfl)
    obtain rfl : g = g' := by simpa using hg'
    subst h2
    simp only [Nat.zero_mul, Nat.zero_add] at hcx
    simp only [Nat.one_mul, Nat.reduceAdd] at hcy
    have HCX := Lib.hid hcx
    have HCY := Lib.hid hcy
    have HIX := Lib.hid hrx
    have HIY := Lib.hid hry
    have HK2 := Lib.hid (K24.below HB.out)
    obtain ⟨hgl, x0, x1, x2, x3⟩ := hcx _ HK2.out
    obtain ⟨-, y0, y1, y2, y3⟩ := hcy _ HK2.out
    have HRX : Hid (∀ W, Below w.heap.size w W → Calls Tryd.prog 39 #[.agg #[.int .i64 p1, .int .i64 p2, .string p3, .slice p4 p5 p6]] W fun e w' => e = .returned (.bool (isOffT x)) ∧ Below W.heap.size W w') := Lib.hid (fun W hb => isOffset_any x _ W _ (Rep.keep (S' := fun _ => True) (fun b hb' => by obtain ⟨cur, hc⟩ := hb'; exact hb.block b (lt_of_heap hc)) (fun _ _ => trivial) _ _ HIX.out))
    have HRY : Hid (∀ W, Below w.heap.size w W → Calls Tryd.prog 39 #[.agg #[.int .i64 q1, .int .i64 q2, .string q3, .slice q4 q5 q6]] W fun e w' => e = .returned (.bool (isOffT y)) ∧ Below W.heap.size W w') := Lib.hid (fun W hb => isOffset_any y _ W _ (Rep.keep (S' := fun _ => True) (fun b hb' => by obtain ⟨cur, hc⟩ := hb'; exact hb.block b (lt_of_heap hc)) (fun _ _ => trivial) _ _ HIY.out))
    have HOP : Hid (opOf (.list ts) = if isOffT x && isOffT y then some ⟨numT x, numT y, ⟨#[]⟩⟩ else none) := Lib.hid (by rw [HXY.out]; rfl)
    have HX1 := Lib.hid (HRX.out _ HB.out)
    clear hcx hcy hrx hry hg'
    cases hx : isOffT x with
    | false =>
      have HN : Hid (opOf (.list ts) = none) := Lib.hid (by rw [HOP.out, hx]; rfl)
      rw [hx] at HX1
      clear hx
      go_enter Tryd.func18, Tryd.ntmps18
      go_wp2_with fail
      generalize (w.alloc (.cells #[.int .i64 3, .int .i64 0, .string ⟨#[]⟩, .slice (some ⟨g, 0, none⟩) 2 cap] 36)).alloc (.cells #[.int .i64 0, .int .i64 0, .string ⟨#[]⟩] 32) = w2 at *
      refine HX1.out.mono ?_
      rintro e w3 ⟨rfl, hb3⟩
      have HRB3 := Lib.hid (HRB.out.below hb3)
      have HB3 := Lib.hid (below_trans HB.out hb3)
      have z0 := HRB3.out.cell (i := 0) rfl
      have z1 := HRB3.out.cell (i := 1) rfl
      have z2 := HRB3.out.cell (i := 2) rfl
      have t0 := HRB3.out.thaw 0
      have t1 := HRB3.out.thaw 1
      have t2 := HRB3.out.thaw 2
      clear hb3 a0 a3 x0 x1 x2 x3 y0 y1 y2 y3
      go_wp2
      have Q7 := Row.put3 HRB3.out (.int .i64 0) (.int .i64 0) (.string ⟨#[]⟩)
      have B7 := But.put3 (w.heap.size + 1) w3 (.int .i64 0) (.int .i64 0) (.string ⟨#[]⟩)
      generalize ((w3.setCell ⟨w.heap.size + 1, 0, none⟩ (.int .i64 0)).setCell ⟨w.heap.size + 1, 1, none⟩ (.int .i64 0)).setCell ⟨w.heap.size + 1, 2, none⟩ (.string ⟨#[]⟩) = w7 at *
      have e0 := Q7.cell (i := 0) rfl
      have e1 := Q7.cell (i := 1) rfl
      have e2 := Q7.cell (i := 2) rfl
      exact bodyPost_ret (v := .tuple #[.agg #[.int .i64 0, .int .i64 0, .string ⟨#[]⟩], .bool false]) (by simp [results, Tryd.results18, go_sem, e0, e1, e2]) rfl (op_no HN.out (HB3.out.trans (B7.below (by omega))))
    | true =>
      rw [hx] at HX1
      cases hy : isOffT y with
      | false =>
        have HN : Hid (opOf (.list ts) = none) := Lib.hid (by rw [HOP.out, hy, Bool.and_false]; rfl)
        rw [hy] at HRY
        clear hx hy
        go_enter Tryd.func18, Tryd.ntmps18
        go_wp2_with fail
        generalize (w.alloc (.cells #[.int .i64 3, .int .i64 0, .string ⟨#[]⟩, .slice (some ⟨g, 0, none⟩) 2 cap] 36)).alloc (.cells #[.int .i64 0, .int .i64 0, .string ⟨#[]⟩] 32) = w2 at *
        refine HX1.out.mono ?_
        rintro e w3 ⟨rfl, hb3⟩
        have HRA3 := Lib.hid (HRA.out.below hb3)
        have HRB3 := Lib.hid (HRB.out.below hb3)
        have HB3 := Lib.hid (below_trans HB.out hb3)
        clear hb3 a0 a3 x0 x1 x2 x3 y0 y1 y2 y3
        have a3 := HRA3.out.cell (i := 3) rfl
        obtain ⟨-, y0, y1, y2, y3⟩ := HCY.out _ (K24.below HB3.out)
        have HY3 := Lib.hid (HRY.out w3 HB3.out)
        go_wp2_with fail
        refine HY3.out.mono ?_
        rintro e w4 ⟨rfl, hb4⟩
        have HRB4 := Lib.hid (HRB3.out.below hb4)
        have HB4 := Lib.hid (below_trans HB3.out hb4)
        have z0 := HRB4.out.cell (i := 0) rfl
        have z1 := HRB4.out.cell (i := 1) rfl
        have z2 := HRB4.out.cell (i := 2) rfl
        have t0 := HRB4.out.thaw 0
        have t1 := HRB4.out.thaw 1
        have t2 := HRB4.out.thaw 2
        clear hb4 a3 y0 y1 y2 y3
        go_wp2
        have Q7 := Row.put3 HRB4.out (.int .i64 0) (.int .i64 0) (.string ⟨#[]⟩)
        have B7 := But.put3 (w.heap.size + 1) w4 (.int .i64 0) (.int .i64 0) (.string ⟨#[]⟩)
        generalize ((w4.setCell ⟨w.heap.size + 1, 0, none⟩ (.int .i64 0)).setCell ⟨w.heap.size + 1, 1, none⟩ (.int .i64 0)).setCell ⟨w.heap.size + 1, 2, none⟩ (.string ⟨#[]⟩) = w7 at *
        have e0 := Q7.cell (i := 0) rfl
        have e1 := Q7.cell (i := 1) rfl
        have e2 := Q7.cell (i := 2) rfl
        exact bodyPost_ret (v := .tuple #[.agg #[.int .i64 0, .int .i64 0, .string ⟨#[]⟩], .bool false]) (by simp [results, Tryd.results18, go_sem, e0, e1, e2]) rfl (op_no HN.out (HB4.out.trans (B7.below (by omega))))
      | true =>
        have HN : Hid (opOf (.list ts) = some ⟨p2, q2, ⟨#[]⟩⟩) := Lib.hid (by
          rw [HOP.out, hx, hy]
          obtain ⟨n, rfl, -⟩ := off_num hx
          obtain ⟨m, rfl, -⟩ := off_num hy
          have h1 := HIX.out
          have h2 := HIY.out
          rw [Rep] at h1 h2
          simp at h1 h2
          rw [h1.2.1, h2.2.1]; rfl)
        rw [hy] at HRY
        clear hx hy
        go_enter Tryd.func18, Tryd.ntmps18
        go_wp2_with fail
        generalize (w.alloc (.cells #[.int .i64 3, .int .i64 0, .string ⟨#[]⟩, .slice (some ⟨g, 0, none⟩) 2 cap] 36)).alloc (.cells #[.int .i64 0, .int .i64 0, .string ⟨#[]⟩] 32) = w2 at *
        refine HX1.out.mono ?_
        rintro e w3 ⟨rfl, hb3⟩
        have HRA3 := Lib.hid (HRA.out.below hb3)
        have HRB3 := Lib.hid (HRB.out.below hb3)
        have HB3 := Lib.hid (below_trans HB.out hb3)
        clear hb3 a0 a3 x0 x1 x2 x3 y0 y1 y2 y3
        have a3 := HRA3.out.cell (i := 3) rfl
        obtain ⟨-, y0, y1, y2, y3⟩ := HCY.out _ (K24.below HB3.out)
        have HY3 := Lib.hid (HRY.out w3 HB3.out)
        go_wp2_with fail
        refine HY3.out.mono ?_
        rintro e w4 ⟨rfl, hb4⟩
        have HRA4 := Lib.hid (HRA3.out.below hb4)
        have HRB4 := Lib.hid (HRB3.out.below hb4)
        have HB4 := Lib.hid (below_trans HB3.out hb4)
        clear hb4 a3 y0 y1 y2 y3
        have a3 := HRA4.out.cell (i := 3) rfl
        obtain ⟨-, -, x1, -⟩ := HCX.out _ (K24.below HB4.out)
        obtain ⟨-, -, y1, -⟩ := HCY.out _ (K24.below HB4.out)
        have z0 := HRB4.out.cell (i := 0) rfl
        have z1 := HRB4.out.cell (i := 1) rfl
        have z2 := HRB4.out.cell (i := 2) rfl
        have t0 := HRB4.out.thaw 0
        have t1 := HRB4.out.thaw 1
        have t2 := HRB4.out.thaw 2
        go_wp2
        go_region
        all_goals go_wp2
        have Q7 := Row.put3 HRB4.out (.int .i64 p2) (.int .i64 q2) (.string ⟨#[]⟩)
        have B7 := But.put3 (w.heap.size + 1) w4 (.int .i64 p2) (.int .i64 q2) (.string ⟨#[]⟩)
        generalize ((w4.setCell ⟨w.heap.size + 1, 0, none⟩ (.int .i64 p2)).setCell ⟨w.heap.size + 1, 1, none⟩ (.int .i64 q2)).setCell ⟨w.heap.size + 1, 2, none⟩ (.string ⟨#[]⟩) = w7 at *
        have e0 : w7.drew.cell? ⟨w.heap.size + 1, 0, none⟩ = some (.int .i64 p2) := Q7.cell (i := 0) rfl
        have e1 : w7.drew.cell? ⟨w.heap.size + 1, 1, none⟩ = some (.int .i64 q2) := Q7.cell (i := 1) rfl
        have e2 : w7.drew.cell? ⟨w.heap.size + 1, 2, none⟩ = some (.string ⟨#[]⟩) := Q7.cell (i := 2) rfl
        exact bodyPost_ret (v := .tuple #[.agg #[.int .i64 p2, .int .i64 q2, .string ⟨#[]⟩], .bool true]) (by simp [results, Tryd.results18, go_sem, e0, e1, e2]) rfl (op_yes HN.out ((HB4.out.trans (B7.below (by omega))).drew))
end Go.Proofs.YtmagcikaepobiaaDoor.Dl
