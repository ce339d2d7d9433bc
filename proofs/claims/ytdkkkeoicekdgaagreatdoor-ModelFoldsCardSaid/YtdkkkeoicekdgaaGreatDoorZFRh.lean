/- Right: cases that may be; Right. -/
import Derived.Test.YtdkkkeoicekdgaaGreatDoorZFRg

namespace Go.Proofs.YtdkkkeoicekdgaaGreatDoor
set_option maxHeartbeats 3200000
set_option maxRecDepth 100000
open Go.Lib (hid)
open Go.RowKit Go.Maps Go.WideShapes Go.WideMaps
theorem lawS : Keyed Tryz.prog 9 := string_keyed Tryz.underlying9
theorem zeroU (w : World) : (zeroValue 306).run Tryz.prog w = .ok (.agg #[]) w := by kernel_rfl
abbrev OM (w : World) (b n : Nat) (D : DataW Unit) : Prop := w.ownsMap Tryz.prog 9 unitElem b n D
theorem isKey (l : List UInt8) : WideAt.IsKeyLit (.string l) := trivial
def SetD (ks : List (List UInt8)) (D : DataW Unit) : Prop := IsMap D /\ ∀ l : List UInt8, Maps.has D (.string l) = decide (l ∈ ks)
theorem zd6 : SetD [] (.map []) := ⟨isMap_empty, fun l => by simp [Maps.has]⟩
theorem zg9 {ks : List (List UInt8)} {D : DataW Unit} (h : SetD ks D) (l : List UInt8) (d : DataW Unit) : SetD (ks ++ [l]) (D.put (.string l) d) := ⟨h.1.put (.string l) d, fun l2 => by
 by_cases e : l2 = l
 ·subst e
  rw [has_put_same h.1 (isKey _)]; simp
 ·have a : (Lit.string l2) ≠ Lit.string l := fun q => e (by simpa using q)
  rw [has_put_other a, h.2 l2]
  simp [e]⟩
theorem zdz {cs : List Cs} {k : Nat} {x : Cs} (h : cs[k]? = some x) : keysL (cs.take (k + 1)) = keysL (cs.take k) ++ [x.key.data.toList] := by rw [take_one h]; unfold keysL; rw [List.map_append]; rfl
theorem zh9 {cs : List Cs} (h : cs.length ≠ 0) : ∃ x, cs[cs.length - 1]? = some x /\ cs.getLast?.map Cs.key = some x.key := by
 obtain ⟨x, hx⟩ : ∃ x, cs[cs.length - 1]? = some x := ⟨_, List.getElem?_eq_getElem (by omega)⟩;exact ⟨x, hx, by rw [List.getLast?_eq_getElem?, hx]; rfl⟩
theorem zbx {p : List UInt8 -> Bool} {h : Bool} {cs : List Cs} (hl : cs.length = 0) : rcB p h cs = false := by rw [zbz, isE, decide_eq_true hl]; rfl
theorem zby {p : List UInt8 -> Bool} {h : Bool} {cs : List Cs} {ky : BA} (hl : cs.length ≠ 0) (hx : cs.getLast?.map Cs.key = some ky) : rcB p h cs = (decide (ky = ba [111, 116, 104, 101, 114]) && okCs p h [] cs) := by
 rw [zbz, isE, decide_eq_false hl, hx]; simp
theorem OM.below {w w' : World} {b n : Nat} {D : DataW Unit} (h : OM w b n D) (hb : Below w.heap.size w w') : OM w' b n D := h.kept (row := none) ⟨hb.os, hb.tape, hb.output, hb.size, fun k hk _ => hb.block k hk⟩ (by simp)
theorem okC_a {a b c d : Bool} {r : Bool} (hr : r = (!a && b && c && d)) (ha : a = true) : r = false := by rw [hr, ha]; rfl
theorem okC_b {a b c d : Bool} {r : Bool} (hr : r = (!a && b && c && d)) (ha : b = false) : r = false := by rw [hr, ha]; simp
theorem okC_c {a b c d : Bool} {r : Bool} (hr : r = (!a && b && c && d)) (ha : c = false) : r = false := by rw [hr, ha]; simp
theorem okC_d {a b c d : Bool} {r : Bool} (hr : r = (!a && b && c && d)) (ha : a = false) (hb : b = true) (hc : c = true) : r = d := by rw [hr, ha, hb, hc]; simp
theorem ziv (n : Nat) (HP : zex n) : zj8 n := by
 intro h w a cap cs hcs hsm hE;have O := hcs.lenle
 by_cases hl : cs.length = 0
 ·have HF : Hid (rcB pkeyB h cs = false) := hid (zbx hl)
  rw [hl];clear hcs hl O
  go_enter Tryz.func272, Tryz.ntmps272
  go_wp2;go_ret;exact ⟨z01 HF.out.symm, Below.refl _ _⟩
 obtain ⟨⟨ky, kk⟩, hx, t⟩ := zh9 hl;have t : cs.getLast?.map Cs.key = some ky := t;have E := hid (zby (p := pkeyB) (h := h) hl t);obtain ⟨L, HL⟩ := nmd (cs.length)
 have aD : L <= 9223372036854775807 := by have := HL.out; omega
 have aE : (1 : Int) <= L := by have := HL.out; omega
 rw [<- HL.out] at hx hcs ⊢;obtain ⟨g, aF, rfl, -, l⟩ := hcs.at_ hx;obtain ⟨lk, -, -, -, -⟩ := l.c;have HX := hid hcs;have aq := hid hsm;have ar := hid hE;have au := hid HP;simp only [Cs.key] at lk
 have aG : ((L : Int) == 0) = false := by rw [beq_eq_false_iff_ne]; omega
 have T : ((L : Int) - 1) = ((L - 1 : Nat) : Int) := by omega
 obtain ⟨L9, U⟩ := nmd (L - 1);rw [<- U.out] at T lk
 have aH : L9 < L := by have := U.out; omega
 clear hx l hcs hsm hE HP hl t O
 by_cases ho : ky.data.toList = [111, 116, 104, 101, 114]
 rotate_left
 ·have HF : Hid (rcB pkeyB h cs = false) := hid (by rw [E.out, decide_eq_false (fun e => ho (by rw [e]))]; rfl)
  have hK := z2t ho;clear ho
  go_enter Tryz.func272, Tryz.ntmps272
  go_wp2;go_ret;exact ⟨z01 HF.out.symm, Below.refl _ _⟩
 obtain rfl := z2e ho;have V : Hid (rcB pkeyB h cs = okCs pkeyB h [] cs) := hid (by rw [E.out]; simp);clear ho E;have aw := @run_makeMap Tryz.prog
 go_enter Tryz.func272, Tryz.ntmps272
 go_wp2;clear aw lk T
 go_loopw [28] (fun i wr => ∃ (k : Nat) (D : DataW Unit), k <= L /\ i = .int .i64 k /\ Hid (OM wr w.heap.size k D) /\ Hid (SetD (keysL (cs.take k)) D) /\ Hid (rcB pkeyB h cs = okCs pkeyB h (keysL (cs.take k)) (cs.drop k)) /\ Hid (Below w.heap.size w wr)) (fun i _ => L - (intOf i).toNat)
 case atStart => exact ⟨0, .map [], Nat.zero_le _, rfl, hid (World.ownsMap_made _ _ _ _), hid zd6, V, hid ((Below.refl _ _).alloc (Nat.le_refl _) _)⟩
 case round =>
  obtain ⟨k, D, hk, rfl, HO, HS, HQ, HB⟩ := hrel
  by_cases hlt : k < L
  ·obtain ⟨x, hx⟩ : ∃ x, cs[k]? = some x := ⟨_, List.getElem?_eq_getElem (by have := HL.out; omega)⟩
   obtain ⟨g1, aC, m, -, l⟩ := (HX.out.old HB.out).at_ hx
   injection m with m
   injection m with m hg2
   subst m hg2;obtain ⟨h0, a1, p1, h1, F⟩ := l.c;have G := hid (zd5.1 (z6c aq.out hx));have o := hid (HQ.out.trans (zc9 hx));have X := hid (zdz hx);obtain ⟨key, kids⟩ := x;simp only [Cs.key, Cs.kids] at h0 h1 F G o X;have Y : Hid (key.size <= 140737488351232) := hid G.out.1
   have H : Hid (keyOf Tryz.prog 9 (.string key) = some (.string key.data.toList)) := hid (by
    have := keyOf_string_mk (P := Tryz.prog) Tryz.underlying9 (s := key) (by have := Y.out; unfold maxLen; omega)
    exact this)
   have Z := hid (HS.out.2 key.data.toList);have aa := hid (zg9 HS.out key.data.toList (.agg []));rw [<- X.out] at aa;have ax : Hid (k < maxLen) := hid (by unfold maxLen; omega);obtain ⟨L1, I⟩ := nmd (kids.length);have J := hid (F.old (z04 wr (.cells #[.string key, .slice a1 kids.length p1] 284)));rw [<- I.out] at h1 J;have R := z02 wr #[.string key, .slice a1 L1 p1] 284;have c0 := R.c0;have c1 := R.c1;have M : Hid (Below w.heap.size w (wr.alloc (.cells #[.string key, .slice a1 L1 p1] 284))) := hid (z00 HB.out (z04 _ _));have u : Hid (OM (wr.alloc (.cells #[.string key, .slice a1 L1 p1] 284)) w.heap.size k D) := hid (HO.out.alloc _);clear R l hx F HQ HO HB;have af : Hid (Row (wr.alloc (.cells #[.string key, .slice a1 L1 p1] 284)) wr.heap.size 284 [.string key, .slice a1 L1 p1]) := hid (z02 wr #[.string key, .slice a1 L1 p1] 284)
   cases hm : decide (key.data.toList ∈ keysL (cs.take k)) with
   | true =>
    have hH : Maps.has D (.string key.data.toList) = true := by rw [Z.out, hm]
    have HF : Hid (rcB pkeyB h cs = false) := hid (okC_a o.out hm);clear hm
    go_wp2_with (first
     | (at_lookup; refine wpList_lookup_own_unit _ rfl _ _ 305 rfl 9 306 lawS Tryz.underlying305 (zeroU _) w.heap.size k D rfl u.out _ _ rfl H.out ?_))
    go_ret;exact ⟨z01 HF.out.symm, z00 M.out (z04 _ _)⟩
   | false =>
    have hH : Maps.has D (.string key.data.toList) = false := by rw [Z.out, hm]
    have HM := hid hm;clear hm;have N : Hid (Below w.heap.size w ((wr.alloc (.cells #[.string key, .slice a1 L1 p1] 284)).alloc (.cells #[] 306))) := hid (z00 M.out (z04 _ _));have ag : Hid (OM ((wr.alloc (.cells #[.string key, .slice a1 L1 p1] 284)).alloc (.cells #[] 306)) w.heap.size k D) := hid (u.out.alloc _);have z := hid (J.out.old (z04 (wr.alloc (.cells #[.string key, .slice a1 L1 p1] 284)) (.cells #[] 306)));have A := hid (af.out.alloc (.cells #[] 306));have q := hid (ar.out.below N.out);have ah := hid (pkey_any key Y.out _ q.out)
    go_wp2_with (first
     | (at_lookup; refine wpList_lookup_own_unit _ rfl _ _ 305 rfl 9 306 lawS Tryz.underlying305 (zeroU _) w.heap.size k D rfl u.out _ _ rfl H.out ?_))
    generalize (wr.alloc (.cells #[.string key, .slice a1 L1 p1] 284)).alloc (.cells #[] 306) = w4 at *
    clear c0 c1 hH u M J af;refine ah.out.mono ?_;rintro e w5 ⟨rfl, d⟩;have v := hid (z00 N.out d);have ai := hid (ag.out.below d);have B := hid (z.out.old d);have r := hid (A.out.below d);have C := hid (q.out.below d);clear d ah N ag z A q
    cases hp : pkeyB key.data.toList with
    | false =>
     have HF : Hid (rcB pkeyB h cs = false) := hid (okC_b o.out hp);clear hp;go_wp2;go_ret;exact ⟨z01 HF.out.symm, v.out⟩
    | true =>
     have ay := hid hp;clear hp;have f := hid (au.out h w5 a1 p1 kids (by rw [<- I.out]; exact B.out) G.out.2 C.out);rw [<- I.out] at f;have c1 := r.out.c1
     cases hr : okPs h false kids with
     | false =>
      rw [hr] at f;have HF : Hid (rcB pkeyB h cs = false) := hid (okC_c o.out hr);clear hr
      go_wp2_with fail
      refine f.out.mono ?_;rintro e w6 ⟨rfl, b⟩;have y := hid (z00 v.out b);clear b;go_wp2;go_ret;exact ⟨z01 HF.out.symm, y.out⟩
     | true =>
      rw [hr] at f;have HN := hid (okC_d o.out HM.out ay.out hr);clear hr
      go_wp2_with fail
      refine f.out.mono ?_;rintro e w6 ⟨rfl, b⟩;have y := hid (z00 v.out b);have az := hid (ai.out.below b);have aj := hid (r.out.below b);clear b f c1 v ai B r C;have c0 := aj.out.c0
      go_wp2_with (first
       | (at_mapUpdate; refine wpList_mapUpdate_own _ rfl _ _ _ 305 rfl 9 306 lawS Tryz.underlying305 _ w.heap.size k D rfl az.out ax.out _ _ _ rfl rfl H.out _ [] unitElem_mk ?_; intro w7 hown7 hgrow7))
      have aA := hid hown7;have aB : Hid (Below w.heap.size w w7) := hid (y.out.grown hgrow7 y.out.size (fun j hj => by cases hj; exact Nat.le_refl _));clear hown7 hgrow7;go_wp2;go_roundw
      case rel => exact ⟨k + 1, _, by omega, by go_num, aA, aa, HN, aB⟩
      case measure => simp [intOf]; omega
  ·have HF : Hid (rcB pkeyB h cs = true) := hid (HQ.out.trans (z93 (by have := HL.out; omega)))
   go_wp2;go_ret;exact ⟨z01 HF.out.symm, HB.out⟩
theorem ziu (n : Nat) (HP : zex n) : zj7 n := by
 intro h w a cap cs hcs hsm hE;have O := hcs.lenle
 by_cases hl : cs.length = 0
 ·have HF : Hid (rcB nameB h cs = false) := hid (zbx hl)
  rw [hl];clear hcs hl O
  go_enter Tryz.func272, Tryz.ntmps272
  go_wp2;go_ret;exact ⟨z01 HF.out.symm, Below.refl _ _⟩
 obtain ⟨⟨ky, kk⟩, hx, r⟩ := zh9 hl;have r : cs.getLast?.map Cs.key = some ky := r;have E := hid (zby (p := nameB) (h := h) hl r);obtain ⟨L, HL⟩ := nmd (cs.length)
 have aD : L <= 9223372036854775807 := by have := HL.out; omega
 have aE : (1 : Int) <= L := by have := HL.out; omega
 rw [<- HL.out] at hx hcs ⊢;obtain ⟨g, aF, rfl, -, l⟩ := hcs.at_ hx;obtain ⟨lk, -, -, -, -⟩ := l.c;have HX := hid hcs;have aq := hid hsm;have ar := hid hE;have au := hid HP;simp only [Cs.key] at lk
 have aG : ((L : Int) == 0) = false := by rw [beq_eq_false_iff_ne]; omega
 have T : ((L : Int) - 1) = ((L - 1 : Nat) : Int) := by omega
 obtain ⟨L9, U⟩ := nmd (L - 1);rw [<- U.out] at T lk
 have aH : L9 < L := by have := U.out; omega
 clear hx l hcs hsm hE HP hl r O
 by_cases ho : ky.data.toList = [111, 116, 104, 101, 114]
 rotate_left
 ·have HF : Hid (rcB nameB h cs = false) := hid (by rw [E.out, decide_eq_false (fun e => ho (by rw [e]))]; rfl)
  have hK := z2t ho;clear ho
  go_enter Tryz.func272, Tryz.ntmps272
  go_wp2;go_ret;exact ⟨z01 HF.out.symm, Below.refl _ _⟩
 obtain rfl := z2e ho;have V : Hid (rcB nameB h cs = okCs nameB h [] cs) := hid (by rw [E.out]; simp);clear ho E;have aw := @run_makeMap Tryz.prog
 go_enter Tryz.func272, Tryz.ntmps272
 go_wp2;clear aw lk T
 go_loopw [28] (fun i wr => ∃ (k : Nat) (D : DataW Unit), k <= L /\ i = .int .i64 k /\ Hid (OM wr w.heap.size k D) /\ Hid (SetD (keysL (cs.take k)) D) /\ Hid (rcB nameB h cs = okCs nameB h (keysL (cs.take k)) (cs.drop k)) /\ Hid (Below w.heap.size w wr)) (fun i _ => L - (intOf i).toNat)
 case atStart => exact ⟨0, .map [], Nat.zero_le _, rfl, hid (World.ownsMap_made _ _ _ _), hid zd6, V, hid ((Below.refl _ _).alloc (Nat.le_refl _) _)⟩
 case round =>
  obtain ⟨k, D, hk, rfl, HO, HS, HQ, HB⟩ := hrel
  by_cases hlt : k < L
  ·obtain ⟨x, hx⟩ : ∃ x, cs[k]? = some x := ⟨_, List.getElem?_eq_getElem (by have := HL.out; omega)⟩
   obtain ⟨g1, aC, m, -, l⟩ := (HX.out.old HB.out).at_ hx
   injection m with m
   injection m with m hg2
   subst m hg2;obtain ⟨h0, a1, p1, h1, F⟩ := l.c;have G := hid (zd5.1 (z6c aq.out hx));have o := hid (HQ.out.trans (zc9 hx));have X := hid (zdz hx);obtain ⟨key, kids⟩ := x;simp only [Cs.key, Cs.kids] at h0 h1 F G o X;have Y : Hid (key.size <= 140737488351232) := hid G.out.1
   have H : Hid (keyOf Tryz.prog 9 (.string key) = some (.string key.data.toList)) := hid (by
    have := keyOf_string_mk (P := Tryz.prog) Tryz.underlying9 (s := key) (by have := Y.out; unfold maxLen; omega)
    exact this)
   have Z := hid (HS.out.2 key.data.toList);have aa := hid (zg9 HS.out key.data.toList (.agg []));rw [<- X.out] at aa;have ax : Hid (k < maxLen) := hid (by unfold maxLen; omega);obtain ⟨L1, I⟩ := nmd (kids.length);have J := hid (F.old (z04 wr (.cells #[.string key, .slice a1 kids.length p1] 284)));rw [<- I.out] at h1 J;have R := z02 wr #[.string key, .slice a1 L1 p1] 284;have c0 := R.c0;have c1 := R.c1;have M : Hid (Below w.heap.size w (wr.alloc (.cells #[.string key, .slice a1 L1 p1] 284))) := hid (z00 HB.out (z04 _ _));have t : Hid (OM (wr.alloc (.cells #[.string key, .slice a1 L1 p1] 284)) w.heap.size k D) := hid (HO.out.alloc _);clear R l hx F HQ HO HB;have af : Hid (Row (wr.alloc (.cells #[.string key, .slice a1 L1 p1] 284)) wr.heap.size 284 [.string key, .slice a1 L1 p1]) := hid (z02 wr #[.string key, .slice a1 L1 p1] 284)
   cases hm : decide (key.data.toList ∈ keysL (cs.take k)) with
   | true =>
    have hH : Maps.has D (.string key.data.toList) = true := by rw [Z.out, hm]
    have HF : Hid (rcB nameB h cs = false) := hid (okC_a o.out hm);clear hm
    go_wp2_with (first
     | (at_lookup; refine wpList_lookup_own_unit _ rfl _ _ 305 rfl 9 306 lawS Tryz.underlying305 (zeroU _) w.heap.size k D rfl t.out _ _ rfl H.out ?_))
    go_ret;exact ⟨z01 HF.out.symm, z00 M.out (z04 _ _)⟩
   | false =>
    have hH : Maps.has D (.string key.data.toList) = false := by rw [Z.out, hm]
    have HM := hid hm;clear hm;have N : Hid (Below w.heap.size w ((wr.alloc (.cells #[.string key, .slice a1 L1 p1] 284)).alloc (.cells #[] 306))) := hid (z00 M.out (z04 _ _));have ag : Hid (OM ((wr.alloc (.cells #[.string key, .slice a1 L1 p1] 284)).alloc (.cells #[] 306)) w.heap.size k D) := hid (t.out.alloc _);have y := hid (J.out.old (z04 (wr.alloc (.cells #[.string key, .slice a1 L1 p1] 284)) (.cells #[] 306)));have z := hid (af.out.alloc (.cells #[] 306));have A := hid (ar.out.below N.out);have ah : Hid (Calls Tryz.prog 268 #[.string key] ((wr.alloc (.cells #[.string key, .slice a1 L1 p1] 284)).alloc (.cells #[] 306)) fun e w' => e = .returned (.bool (nameB key.data.toList)) /\ Below ((wr.alloc (.cells #[.string key, .slice a1 L1 p1] 284)).alloc (.cells #[] 306)).heap.size ((wr.alloc (.cells #[.string key, .slice a1 L1 p1] 284)).alloc (.cells #[] 306)) w') := hid ((z4d key _ Y.out).mono (fun e w' h => ⟨h.1, by rw [h.2]; exact Below.refl _ _⟩))
    go_wp2_with (first
     | (at_lookup; refine wpList_lookup_own_unit _ rfl _ _ 305 rfl 9 306 lawS Tryz.underlying305 (zeroU _) w.heap.size k D rfl t.out _ _ rfl H.out ?_))
    generalize (wr.alloc (.cells #[.string key, .slice a1 L1 p1] 284)).alloc (.cells #[] 306) = w4 at *
    clear c0 c1 hH t M J af;refine ah.out.mono ?_;rintro e w5 ⟨rfl, d⟩;have u := hid (z00 N.out d);have ai := hid (ag.out.below d);have B := hid (y.out.old d);have q := hid (z.out.below d);have C := hid (A.out.below d);clear d ah N ag y z A
    cases hp : nameB key.data.toList with
    | false =>
     have HF : Hid (rcB nameB h cs = false) := hid (okC_b o.out hp);clear hp;go_wp2;go_ret;exact ⟨z01 HF.out.symm, u.out⟩
    | true =>
     have ay := hid hp;clear hp;have f := hid (au.out h w5 a1 p1 kids (by rw [<- I.out]; exact B.out) G.out.2 C.out);rw [<- I.out] at f;have c1 := q.out.c1
     cases hr : okPs h false kids with
     | false =>
      rw [hr] at f;have HF : Hid (rcB nameB h cs = false) := hid (okC_c o.out hr);clear hr
      go_wp2_with fail
      refine f.out.mono ?_;rintro e w6 ⟨rfl, b⟩;have v := hid (z00 u.out b);clear b;go_wp2;go_ret;exact ⟨z01 HF.out.symm, v.out⟩
     | true =>
      rw [hr] at f;have HN := hid (okC_d o.out HM.out ay.out hr);clear hr
      go_wp2_with fail
      refine f.out.mono ?_;rintro e w6 ⟨rfl, b⟩;have v := hid (z00 u.out b);have az := hid (ai.out.below b);have aj := hid (q.out.below b);clear b f c1 u ai B q C;have c0 := aj.out.c0
      go_wp2_with (first
       | (at_mapUpdate; refine wpList_mapUpdate_own _ rfl _ _ _ 305 rfl 9 306 lawS Tryz.underlying305 _ w.heap.size k D rfl az.out ax.out _ _ _ rfl rfl H.out _ [] unitElem_mk ?_; intro w7 hown7 hgrow7))
      have aA := hid hown7;have aB : Hid (Below w.heap.size w w7) := hid (v.out.grown hgrow7 v.out.size (fun j hj => by cases hj; exact Nat.le_refl _));clear hown7 hgrow7;go_wp2;go_roundw
      case rel => exact ⟨k + 1, _, by omega, by go_num, aA, aa, HN, aB⟩
      case measure => simp [intOf]; omega
  ·have HF : Hid (rcB nameB h cs = true) := hid (HQ.out.trans (z93 (by have := HL.out; omega)))
   go_wp2;go_ret;exact ⟨z01 HF.out.symm, HB.out⟩
theorem zga : ∀ n, zex n /\ PartR n := by
 intro n
 induction n using Nat.strongRecOn with
 | _ n ih =>
  have h1 := zgj n (fun m hm => (ih m hm).2);exact ⟨h1, partR_of n (ziv n h1) (ziu n h1)⟩
theorem z2u (n : Nat) (w : World) (a : Option Addr) (cap : Nat) (xs : List Pt) (hxs : SlP w (Old w) n (.slice a xs.length cap) xs) (hc : cntPs xs <= 2000) (hsm : smPs 140737488351232 xs) (hE : EnvW w) :
  Calls Tryz.prog 191 #[.slice a xs.length cap] w fun e w' => e = .returned (.int .i64 (z13 xs)) /\ Below w.heap.size w w' := by
 have HM := hid (zam n w a cap xs hxs hc);have HX := hid hxs;have k := hid hsm;have l := hid hE;have f : Hid (z13 xs = if 1000 < cntPs xs then 2 else if 32 < dpPs xs then 12 else if okPs false false xs then 0 else 91) := hid rfl;obtain ⟨L, HL⟩ := nmd (xs.length);rw [<- HL.out] at HM HX ⊢;clear hxs hc hsm hE
 go_enter Tryz.func191, Tryz.ntmps191
 go_wp2_with fail
 refine HM.out.mono ?_;rintro e w2 ⟨⟨C, D, rfl, m⟩, j⟩;obtain ⟨-, g, d⟩ := m;have b := hid j;clear j HM
 by_cases h1 : 1000 < C
 ·have HF : Hid (z13 xs = 2) := hid (by rw [f.out, if_pos (by omega)])
  have hB : (1000 : Int) < C := by omega
  clear g d;go_wp2;go_ret;exact ⟨z3v (by rw [HF.out]; rfl), b.out⟩
 ·obtain ⟨h2, h3⟩ := d (by omega)
  have hB : ¬ (1000 : Int) < C := by omega
  by_cases h4 : 32 < D
  ·have HF : Hid (z13 xs = 12) := hid (by rw [f.out, if_neg (by omega), if_pos (by omega)])
   have o : (32 : Int) < D := by omega
   clear g d h2 h3;go_wp2;go_ret;exact ⟨z3v (by rw [HF.out]; rfl), b.out⟩
  ·have HF : Hid (z13 xs = if okPs false false xs then 0 else 91) := hid (by rw [f.out, if_neg (by omega), if_neg (by omega)])
   have o : ¬ (32 : Int) < D := by omega
   clear g d h2 h3;have HP := hid ((zga n).1 false w2 a cap xs (by rw [<- HL.out]; exact HX.out.old b.out) k.out (l.out.below b.out));rw [<- HL.out] at HP
   cases hok : okPs false false xs with
   | true =>
    rw [hok] at HP;have h : Hid (z13 xs = 0) := hid (by rw [HF.out, hok]; rfl);clear hok
    go_wp2_with fail
    refine HP.out.mono ?_;rintro e w3 ⟨rfl, c⟩;have i := hid (z00 b.out c);clear c;go_wp2;go_ret;exact ⟨z3v (by rw [h.out]; rfl), i.out⟩
   | false =>
    rw [hok] at HP;have h : Hid (z13 xs = 91) := hid (by rw [HF.out, hok]; rfl);clear hok
    go_wp2_with fail
    refine HP.out.mono ?_;rintro e w3 ⟨rfl, c⟩;have i := hid (z00 b.out c);clear c;go_wp2;go_ret;exact ⟨z3v (by rw [h.out]; rfl), i.out⟩
end Go.Proofs.YtdkkkeoicekdgaaGreatDoor
