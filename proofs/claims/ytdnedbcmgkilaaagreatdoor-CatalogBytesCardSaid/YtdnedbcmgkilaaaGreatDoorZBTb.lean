/- An entry out of a value, by package catalog. -/
import Derived.Test.YtdnedbcmgkilaaaGreatDoorZBBy
import Derived.Test.YtdnedbcmgkilaaaGreatDoorZBg50

namespace Go.Proofs.YtdnedbcmgkilaaaGreatDoor.Ca
open Go.RowKit Go.Proofs.YtdnedbcmgkilaaaGreatDoor
def kdT : Co.Tree → Int | .num _ => 1 | .text _ => 2 | .list _ => 3
theorem rep_kd {w : World} {S : Nat → Prop} {t : Co.Tree} {e1 e2 : Int} {e3 : BA} {e4 : Option Addr} {e5 e6 : Nat} (h : Co.Rep w S t (.agg #[.int .i64 e1, .int .i64 e2, .string e3, .slice e4 e5 e6])) : e1 = kdT t := by
  cases t with
  | num n => rw [Co.Rep] at h; simp at h; exact h.1
  | text bs => rw [Co.Rep] at h; simp at h; exact h.1
  | list ts =>
    rw [Co.Rep] at h
    obtain ⟨L, xs, hv, -⟩ := h
    simp at hv; exact hv.1
theorem rep_tx {w : World} {S : Nat → Prop} {bs : List UInt8} {e1 e2 : Int} {e3 : BA} {e4 : Option Addr} {e5 e6 : Nat} (h : Co.Rep w S (.text bs) (.agg #[.int .i64 e1, .int .i64 e2, .string e3, .slice e4 e5 e6])) : e3 = str bs := by
  rw [Co.Rep] at h; simp at h; exact h.2.2.1
theorem rep_list {w : World} {S : Nat → Prop} {ts : List Co.Tree} {v : Value} (h : Co.Rep w S (.list ts) v) : ∃ a cap xs, v = .agg (lsC (.slice a ts.length cap)) ∧ w.ownsRow 0 60 4 (.slice a ts.length cap) ts.length xs ∧ Co.RepAll w S ts xs := by
  rw [Co.Rep] at h
  obtain ⟨L, xs, rfl, ho, -, hr⟩ := h
  rcases ho.2 with ⟨rfl, h0⟩ | ⟨g, cap, cur, rfl, -⟩
  · rw [h0] at ho ⊢; exact ⟨none, 0, xs, rfl, ho, hr⟩
  · exact ⟨_, cap, xs, rfl, ho, hr⟩
theorem ofE_no {x y z : Co.Tree} (h : kdT x ≠ 2 ∨ kdT y ≠ 2 ∨ kdT z ≠ 2) : ofE (.list [x, y, z]) = none := by
  cases x <;> cases y <;> cases z <;> simp [kdT] at h <;> rfl
theorem ofE_len {ts : List Co.Tree} (h : ts.length ≠ 3) : ofE (.list ts) = none := by
  match ts, h with
  | [], _ => rfl
  | [a], _ => cases a <;> rfl
  | [a, b], _ => cases a <;> cases b <;> rfl
  | [_, _, _], h => exact absurd rfl h
  | a :: b :: c :: _ :: _, _ => cases a <;> cases b <;> cases c <;> rfl
theorem ofE_yes {w : World} {S S2 S3 : Nat → Prop} {x y z : Co.Tree} {p1 p2 q1 q2 r1 r2 : Int} {p3 q3 r3 : BA} {p4 q4 r4 : Option Addr} {p5 p6 q5 q6 r5 r6 : Nat}
    (hx : Co.Rep w S x (.agg #[.int .i64 p1, .int .i64 p2, .string p3, .slice p4 p5 p6])) (hy : Co.Rep w S2 y (.agg #[.int .i64 q1, .int .i64 q2, .string q3, .slice q4 q5 q6])) (hz : Co.Rep w S3 z (.agg #[.int .i64 r1, .int .i64 r2, .string r3, .slice r4 r5 r6]))
    (h1 : p1 = 2) (h2 : q1 = 2) (h3 : r1 = 2) : ofE (.list [x, y, z]) = some ⟨p3, q3, r3⟩ := by
  have k1 := rep_kd hx
  have k2 := rep_kd hy
  have k3 := rep_kd hz
  cases x <;> simp [kdT] at k1 <;> try omega
  cases y <;> simp [kdT] at k2 <;> try omega
  cases z <;> simp [kdT] at k3 <;> try omega
  rw [rep_tx hx, rep_tx hy, rep_tx hz]; rfl
theorem isText_any (kd n : Int) (b : BA) (a : Option Addr) (l c : Nat) (w : World) : Calls Tryz.prog 74 #[.agg #[.int .i64 kd, .int .i64 n, .string b, .slice a l c]] w fun e w' => e = .returned (.bool (kd == 2)) ∧ Below w.heap.size w w' := by
  have HB := Lib.hid (below1 w (.cells #[.int .i64 kd, .int .i64 n, .string b, .slice a l c] 60))
  have c0 := (row_new w #[.int .i64 kd, .int .i64 n, .string b, .slice a l c] 60).cell (i := 0) rfl
  go_enter Tryz.func74, Tryz.ntmps74
  go_wp2
  go_ret
  exact ⟨rfl, HB.out⟩
def TolPost (r : Option Ent) (w : World) (e : Ending) (w' : World) : Prop := Below w.heap.size w w' ∧ match r with
  | none => e = .returned (.tuple #[.agg #[.string ⟨#[]⟩, .string ⟨#[]⟩, .string ⟨#[]⟩], .bool false])
  | some x => e = .returned (.tuple #[enV x, .bool true])
theorem tol_no {r : Option Ent} {w w' : World} (h : r = none) (hb : Below w.heap.size w w') : TolPost r w (.returned (.tuple #[.agg #[.string ⟨#[]⟩, .string ⟨#[]⟩, .string ⟨#[]⟩], .bool false])) w' := ⟨hb, by rw [h]⟩
theorem tol_yes {r : Option Ent} {w w' : World} {x : Ent} (h : r = some x) (hb : Below w.heap.size w w') : TolPost r w (.returned (.tuple #[.agg #[.string x.loc, .string x.key, .string x.pat], .bool true])) w' := ⟨hb, by rw [h]⟩
theorem row_put3 {w : World} {b : Nat} {t : TypeId} {x0 x1 x2 : Value} (h : Row w b t [x0, x1, x2]) (u0 u1 u2 : Value) : Row (((w.setCell ⟨b, 0, none⟩ u0).setCell ⟨b, 1, none⟩ u1).setCell ⟨b, 2, none⟩ u2) b t [u0, u1, u2] := by
  have h1 := Co.heap_set h 0 u0
  have h2 := Co.heap_set h1 1 u1
  exact Co.heap_set h2 2 u2
theorem put3_below {w0 w : World} {b : Nat} (hb : Below w0.heap.size w0 w) (h : w0.heap.size ≤ b) (u0 u1 u2 : Value) : Below w0.heap.size w0 (((w.setCell ⟨b, 0, none⟩ u0).setCell ⟨b, 1, none⟩ u1).setCell ⟨b, 2, none⟩ u2) := by
  have hB := (((Co.But.refl b w).set 0 u0).set 1 u1).set 2 u2
  exact hb.trans ⟨hB.os, hB.tape, hB.output, Nat.le_of_eq hB.size.symm, fun j hj => hB.block j (by omega)⟩
set_option maxHeartbeats 6400000 in
set_option maxRecDepth 100000 in
theorem told_any (t : Co.Tree) (v : Value) (w : World) (hr : Co.Rep w (Co.S24 w) t v) : Calls Tryz.prog 39 #[v] w (TolPost (ofE t) w) := by
  have HCT := Lib.hid (fun kd n b a l c W => isText_any kd n b a l c W)
  cases t with
  | num n =>
    rw [Co.Rep] at hr; subst hr
    have HN : Hid (ofE (.num n) = none) := Lib.hid rfl
    have RA := (row_new w #[.int .i64 1, .int .i64 n, .string ⟨#[]⟩, .slice none 0 0] 60).alloc (.cells #[.string ⟨#[]⟩, .string ⟨#[]⟩, .string ⟨#[]⟩] 38)
    have RB := row_new (w.alloc (.cells #[.int .i64 1, .int .i64 n, .string ⟨#[]⟩, .slice none 0 0] 60)) #[.string ⟨#[]⟩, .string ⟨#[]⟩, .string ⟨#[]⟩] 38
    rw [World.size_alloc] at RB
    have HB : Hid (Below w.heap.size w ((w.alloc (.cells #[.int .i64 1, .int .i64 n, .string ⟨#[]⟩, .slice none 0 0] 60)).alloc (.cells #[.string ⟨#[]⟩, .string ⟨#[]⟩, .string ⟨#[]⟩] 38))) := Lib.hid (below_trans (below1 w _) (below1 _ _))
    have a0 := RA.cell (i := 0) rfl
    have z0 := RB.cell (i := 0) rfl
    have z1 := RB.cell (i := 1) rfl
    have z2 := RB.cell (i := 2) rfl
    have t0 := RB.thaw 0
    have t1 := RB.thaw 1
    have t2 := RB.thaw 2
    have HRBz := Lib.hid RB
    clear RA RB
    go_enter Tryz.func39, Tryz.ntmps39
    go_wp2
    exact bodyPost_ret (v := .tuple #[.agg #[.string ⟨#[]⟩, .string ⟨#[]⟩, .string ⟨#[]⟩], .bool false]) (by simp [results, Tryz.results39, go_sem, z0, z1, z2]) rfl (tol_no HN.out HB.out)
  | text bs =>
    rw [Co.Rep] at hr; subst hr
    have HN : Hid (ofE (.text bs) = none) := Lib.hid rfl
    have RA := (row_new w #[.int .i64 2, .int .i64 0, .string ⟨bs.toArray⟩, .slice none 0 0] 60).alloc (.cells #[.string ⟨#[]⟩, .string ⟨#[]⟩, .string ⟨#[]⟩] 38)
    have RB := row_new (w.alloc (.cells #[.int .i64 2, .int .i64 0, .string ⟨bs.toArray⟩, .slice none 0 0] 60)) #[.string ⟨#[]⟩, .string ⟨#[]⟩, .string ⟨#[]⟩] 38
    rw [World.size_alloc] at RB
    have HB : Hid (Below w.heap.size w ((w.alloc (.cells #[.int .i64 2, .int .i64 0, .string ⟨bs.toArray⟩, .slice none 0 0] 60)).alloc (.cells #[.string ⟨#[]⟩, .string ⟨#[]⟩, .string ⟨#[]⟩] 38))) := Lib.hid (below_trans (below1 w _) (below1 _ _))
    have a0 := RA.cell (i := 0) rfl
    have z0 := RB.cell (i := 0) rfl
    have z1 := RB.cell (i := 1) rfl
    have z2 := RB.cell (i := 2) rfl
    have t0 := RB.thaw 0
    have t1 := RB.thaw 1
    have t2 := RB.thaw 2
    have HRBz := Lib.hid RB
    clear RA RB
    go_enter Tryz.func39, Tryz.ntmps39
    go_wp2
    exact bodyPost_ret (v := .tuple #[.agg #[.string ⟨#[]⟩, .string ⟨#[]⟩, .string ⟨#[]⟩], .bool false]) (by simp [results, Tryz.results39, go_sem, z0, z1, z2]) rfl (tol_no HN.out HB.out)
  | list ts =>
    obtain ⟨a, cap, us, rfl, ho, hra⟩ := rep_list hr
    obtain ⟨L, HL⟩ : ∃ L, Hid (L = ts.length) := ⟨_, Lib.hid rfl⟩
    have HO := Lib.hid ho
    have HR := Lib.hid hra
    have hLm : L ≤ 9223372036854775807 := by
      rcases ho.2 with ⟨h1, h0⟩ | ⟨g, cap', cur, hv, -, -, hc, hm, -⟩
      · have := HL.out; omega
      · have := HL.out; unfold maxLen at hm; omega
    rw [← HL.out]
    have RA := (row_new w (lsC (.slice a L cap)) 60).alloc (.cells #[.string ⟨#[]⟩, .string ⟨#[]⟩, .string ⟨#[]⟩] 38)
    have RB := row_new (w.alloc (.cells (lsC (.slice a L cap)) 60)) #[.string ⟨#[]⟩, .string ⟨#[]⟩, .string ⟨#[]⟩] 38
    rw [World.size_alloc] at RB
    have HB : Hid (Below w.heap.size w ((w.alloc (.cells (lsC (.slice a L cap)) 60)).alloc (.cells #[.string ⟨#[]⟩, .string ⟨#[]⟩, .string ⟨#[]⟩] 38))) := Lib.hid (below_trans (below1 w _) (below1 _ _))
    have a0 := RA.cell (i := 0) rfl
    have a3 := RA.cell (i := 3) rfl
    have HRA := Lib.hid RA
    have HRB := Lib.hid RB
    clear RA hr ho hra
    by_cases h3 : L = 3
    rotate_left
    · have HN := Lib.hid (ofE_len (ts := ts) (by rw [← HL.out]; exact h3))
      have hne : ((L : Int) != 3) = true := by rw [bne_iff_ne]; omega
      have z0 := RB.cell (i := 0) rfl
      have z1 := RB.cell (i := 1) rfl
      have z2 := RB.cell (i := 2) rfl
      have t0 := RB.thaw 0
      have t1 := RB.thaw 1
      have t2 := RB.thaw 2
      clear h3 RB
      go_enter Tryz.func39, Tryz.ntmps39
      go_wp2
      exact bodyPost_ret (v := .tuple #[.agg #[.string ⟨#[]⟩, .string ⟨#[]⟩, .string ⟨#[]⟩], .bool false]) (by simp [results, Tryz.results39, go_sem, z0, z1, z2]) rfl (tol_no HN.out HB.out)
    obtain ⟨x, y, z, HXY⟩ : ∃ x y z, Hid (ts = [x, y, z]) := by
      have hl := HL.out
      match ts, hl with
      | [], hl => simp at hl; omega
      | [_], hl => simp at hl; omega
      | [_, _], hl => simp at hl; omega
      | [x, y, z], _ => exact ⟨x, y, z, Lib.hid rfl⟩
      | _ :: _ :: _ :: _ :: _, hl => simp at hl; omega
    have hl3 : ts.length = 3 := by rw [← HL.out]; exact h3
    obtain ⟨g, p1, p2, p3, p4, p5, p6, rfl, hrx, hcx⟩ := Co.kid_at (by have := HO.out; rw [hl3] at this ⊢; exact this) HR.out (k := 0) (t := x) (by rw [HXY.out]; rfl)
    obtain ⟨g', q1, q2, q3, q4, q5, q6, hg', hry, hcy⟩ := Co.kid_at HO.out HR.out (k := 1) (t := y) (by rw [HXY.out]; rfl)
    obtain ⟨g'', r1, r2, r3, r4, r5, r6, hg'', hrz, hcz⟩ := Co.kid_at HO.out HR.out (k := 2) (t := z) (by rw [HXY.out]; rfl)
    obtain rfl : g = g' := by simpa using hg'
    obtain rfl : g = g'' := by simpa using hg''
    subst h3
    simp only [Nat.zero_mul, Nat.zero_add] at hcx
    simp only [Nat.one_mul, Nat.reduceAdd] at hcy
    simp only [Nat.reduceMul, Nat.reduceAdd] at hcz
    have HCX := Lib.hid hcx
    have HCY := Lib.hid hcy
    have HCZ := Lib.hid hcz
    have HK2 := Lib.hid (Co.K24.below HB.out)
    obtain ⟨hgl, x0, x1, x2, x3⟩ := hcx _ HK2.out
    have HNO : Hid (p1 ≠ 2 ∨ q1 ≠ 2 ∨ r1 ≠ 2 → ofE (.list ts) = none) := Lib.hid (fun h => by
      rw [HXY.out]
      rw [rep_kd hrx, rep_kd hry, rep_kd hrz] at h
      exact ofE_no h)
    have HYES : Hid (p1 = 2 → q1 = 2 → r1 = 2 → ofE (.list ts) = some ⟨p3, q3, r3⟩) := Lib.hid (fun h1 h2 h3 => by
      rw [HXY.out]; exact ofE_yes hrx hry hrz h1 h2 h3)
    clear hcx hcy hcz hrx hry hrz hg' hg'' hl3 RB
    go_enter Tryz.func39, Tryz.ntmps39
    by_cases hp : p1 = 2
    rotate_left
    · have hpb : (p1 == 2) = false := by rw [beq_eq_false_iff_ne]; exact hp
      have HN := Lib.hid (HNO.out (.inl hp))
      go_wp2_with fail
      refine (HCT.out _ _ _ _ _ _ _).mono ?_
      rintro e w3 ⟨rfl, hb3⟩
      rw [hpb]
      have HB3 := Lib.hid (below_trans HB.out hb3)
      have RB := HRB.out.below hb3
      have z0 := RB.cell (i := 0) rfl
      have z1 := RB.cell (i := 1) rfl
      have z2 := RB.cell (i := 2) rfl
      have t0 := RB.thaw 0
      have t1 := RB.thaw 1
      have t2 := RB.thaw 2
      have HRBz := Lib.hid RB
      clear hb3 a0 a3 x0 x1 x2 x3 RB hp hpb
      go_wp2
      have Q7 := row_put3 HRBz.out (.string ⟨#[]⟩) (.string ⟨#[]⟩) (.string ⟨#[]⟩)
      have B7 := put3_below HB3.out (Nat.le_succ w.heap.size) (.string ⟨#[]⟩) (.string ⟨#[]⟩) (.string ⟨#[]⟩)
      generalize ((w3.setCell ⟨w.heap.size + 1, 0, none⟩ (.string ⟨#[]⟩)).setCell ⟨w.heap.size + 1, 1, none⟩ (.string ⟨#[]⟩)).setCell ⟨w.heap.size + 1, 2, none⟩ (.string ⟨#[]⟩) = w7 at *
      have e0 := Q7.cell (i := 0) rfl
      have e1 := Q7.cell (i := 1) rfl
      have e2 := Q7.cell (i := 2) rfl
      exact bodyPost_ret (v := .tuple #[.agg #[.string ⟨#[]⟩, .string ⟨#[]⟩, .string ⟨#[]⟩], .bool false]) (by simp [results, Tryz.results39, go_sem, e0, e1, e2]) rfl (tol_no HN.out B7)
    have hpb : (p1 == 2) = true := by rw [beq_iff_eq]; exact hp
    have HPp := Lib.hid hp
    clear hp
    go_wp2_with fail
    refine (HCT.out _ _ _ _ _ _ _).mono ?_
    rintro e w3 ⟨rfl, hb3⟩
    rw [hpb]
    have HB3 := Lib.hid (below_trans HB.out hb3)
    have HRA3 := Lib.hid (HRA.out.below hb3)
    have HRB3 := Lib.hid (HRB.out.below hb3)
    clear hb3 a0 a3 x0 x1 x2 x3
    have a3 := HRA3.out.cell (i := 3) rfl
    obtain ⟨hgl3, y0, y1, y2, y3⟩ := HCY.out _ (Co.K24.below HB3.out)
    by_cases hq : q1 = 2
    rotate_left
    · have hqb : (q1 == 2) = false := by rw [beq_eq_false_iff_ne]; exact hq
      have HN := Lib.hid (HNO.out (.inr (.inl hq)))
      go_wp2_with fail
      refine (HCT.out _ _ _ _ _ _ _).mono ?_
      rintro e w4 ⟨rfl, hb4⟩
      rw [hqb]
      have HB4 := Lib.hid (below_trans HB3.out hb4)
      have RB := HRB3.out.below hb4
      have z0 := RB.cell (i := 0) rfl
      have z1 := RB.cell (i := 1) rfl
      have z2 := RB.cell (i := 2) rfl
      have t0 := RB.thaw 0
      have t1 := RB.thaw 1
      have t2 := RB.thaw 2
      have HRBz := Lib.hid RB
      clear hb4 a3 y0 y1 y2 y3 RB hq hqb
      go_wp2
      have Q7 := row_put3 HRBz.out (.string ⟨#[]⟩) (.string ⟨#[]⟩) (.string ⟨#[]⟩)
      have B7 := put3_below HB4.out (Nat.le_succ w.heap.size) (.string ⟨#[]⟩) (.string ⟨#[]⟩) (.string ⟨#[]⟩)
      generalize ((w4.setCell ⟨w.heap.size + 1, 0, none⟩ (.string ⟨#[]⟩)).setCell ⟨w.heap.size + 1, 1, none⟩ (.string ⟨#[]⟩)).setCell ⟨w.heap.size + 1, 2, none⟩ (.string ⟨#[]⟩) = w7 at *
      have e0 := Q7.cell (i := 0) rfl
      have e1 := Q7.cell (i := 1) rfl
      have e2 := Q7.cell (i := 2) rfl
      exact bodyPost_ret (v := .tuple #[.agg #[.string ⟨#[]⟩, .string ⟨#[]⟩, .string ⟨#[]⟩], .bool false]) (by simp [results, Tryz.results39, go_sem, e0, e1, e2]) rfl (tol_no HN.out B7)
    have hqb : (q1 == 2) = true := by rw [beq_iff_eq]; exact hq
    have HPq := Lib.hid hq
    clear hq
    go_wp2_with fail
    refine (HCT.out _ _ _ _ _ _ _).mono ?_
    rintro e w4 ⟨rfl, hb4⟩
    rw [hqb]
    have HB4 := Lib.hid (below_trans HB3.out hb4)
    have HRA4 := Lib.hid (HRA3.out.below hb4)
    have HRB4 := Lib.hid (HRB3.out.below hb4)
    clear hb4 a3 y0 y1 y2 y3
    have a3 := HRA4.out.cell (i := 3) rfl
    obtain ⟨hgl4, u0, u1, u2, u3⟩ := HCZ.out _ (Co.K24.below HB4.out)
    by_cases hs : r1 = 2
    rotate_left
    · have hsb : (r1 == 2) = false := by rw [beq_eq_false_iff_ne]; exact hs
      have HN := Lib.hid (HNO.out (.inr (.inr hs)))
      go_wp2_with fail
      refine (HCT.out _ _ _ _ _ _ _).mono ?_
      rintro e w5 ⟨rfl, hb5⟩
      rw [hsb]
      have HB5 := Lib.hid (below_trans HB4.out hb5)
      have RB := HRB4.out.below hb5
      have z0 := RB.cell (i := 0) rfl
      have z1 := RB.cell (i := 1) rfl
      have z2 := RB.cell (i := 2) rfl
      have t0 := RB.thaw 0
      have t1 := RB.thaw 1
      have t2 := RB.thaw 2
      have HRBz := Lib.hid RB
      clear hb5 a3 u0 u1 u2 u3 RB hs hsb
      go_wp2
      have Q7 := row_put3 HRBz.out (.string ⟨#[]⟩) (.string ⟨#[]⟩) (.string ⟨#[]⟩)
      have B7 := put3_below HB5.out (Nat.le_succ w.heap.size) (.string ⟨#[]⟩) (.string ⟨#[]⟩) (.string ⟨#[]⟩)
      generalize ((w5.setCell ⟨w.heap.size + 1, 0, none⟩ (.string ⟨#[]⟩)).setCell ⟨w.heap.size + 1, 1, none⟩ (.string ⟨#[]⟩)).setCell ⟨w.heap.size + 1, 2, none⟩ (.string ⟨#[]⟩) = w7 at *
      have e0 := Q7.cell (i := 0) rfl
      have e1 := Q7.cell (i := 1) rfl
      have e2 := Q7.cell (i := 2) rfl
      exact bodyPost_ret (v := .tuple #[.agg #[.string ⟨#[]⟩, .string ⟨#[]⟩, .string ⟨#[]⟩], .bool false]) (by simp [results, Tryz.results39, go_sem, e0, e1, e2]) rfl (tol_no HN.out B7)
    have hsb : (r1 == 2) = true := by rw [beq_iff_eq]; exact hs
    have HPs := Lib.hid hs
    clear hs
    have HN := Lib.hid (HYES.out HPp.out HPq.out HPs.out)
    go_wp2_with fail
    refine (HCT.out _ _ _ _ _ _ _).mono ?_
    rintro e w5 ⟨rfl, hb5⟩
    rw [hsb]
    have HB5 := Lib.hid (below_trans HB4.out hb5)
    have HRA5 := Lib.hid (HRA4.out.below hb5)
    have RB := HRB4.out.below hb5
    clear hb5 a3 u0 u1 u2 u3
    have a3 := HRA5.out.cell (i := 3) rfl
    obtain ⟨-, -, -, x2, -⟩ := HCX.out _ (Co.K24.below HB5.out)
    obtain ⟨-, -, -, y2, -⟩ := HCY.out _ (Co.K24.below HB5.out)
    obtain ⟨-, -, -, u2, -⟩ := HCZ.out _ (Co.K24.below HB5.out)
    have z0 := RB.cell (i := 0) rfl
    have z1 := RB.cell (i := 1) rfl
    have z2 := RB.cell (i := 2) rfl
    have t0 := RB.thaw 0
    have t1 := RB.thaw 1
    have t2 := RB.thaw 2
    have HRB5 := Lib.hid RB
    clear RB
    go_wp2
    go_region
    all_goals go_wp2
    all_goals
      have Q7 := row_put3 HRB5.out (.string p3) (.string q3) (.string r3)
      have B7 := put3_below HB5.out (Nat.le_succ w.heap.size) (.string p3) (.string q3) (.string r3)
      generalize ((w5.setCell ⟨w.heap.size + 1, 0, none⟩ (.string p3)).setCell ⟨w.heap.size + 1, 1, none⟩ (.string q3)).setCell ⟨w.heap.size + 1, 2, none⟩ (.string r3) = w7 at *
      have e0 : w7.drew.cell? ⟨w.heap.size + 1, 0, none⟩ = some (.string p3) := Q7.cell (i := 0) rfl
      have e1 : w7.drew.cell? ⟨w.heap.size + 1, 1, none⟩ = some (.string q3) := Q7.cell (i := 1) rfl
      have e2 : w7.drew.cell? ⟨w.heap.size + 1, 2, none⟩ = some (.string r3) := Q7.cell (i := 2) rfl
      exact bodyPost_ret (v := .tuple #[.agg #[.string p3, .string q3, .string r3], .bool true]) (by simp [results, Tryz.results39, go_sem, e0, e1, e2]) rfl (tol_yes HN.out B7.drew)
end Go.Proofs.YtdnedbcmgkilaaaGreatDoor.Ca
