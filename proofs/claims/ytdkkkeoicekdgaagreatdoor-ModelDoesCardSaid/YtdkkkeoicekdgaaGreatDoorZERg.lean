/- Right: what may be. -/
import Derived.Test.YtdkkkeoicekdgaaGreatDoorZEg10

namespace Go.Proofs.YtdkkkeoicekdgaaGreatDoor
set_option maxHeartbeats 3200000
set_option maxRecDepth 100000
open Go.Lib (hid)
open Go.RowKit Go.Maps Go.WideShapes Go.WideMaps
mutual
def smP (m : Nat) : Pt -> Prop
  | .mk _ _ n cs => n.size <= m /\ smCs m cs
def smPs (m : Nat) : List Pt -> Prop
  | [] => True
  | x :: r => smP m x /\ smPs m r
def smCs (m : Nat) : List Cs -> Prop
  | [] => True
  | x :: r => smC m x /\ smCs m r
def smC (m : Nat) : Cs -> Prop
  | .mk key kids => key.size <= m /\ smPs m kids
end
theorem zg4 {m : Nat} {x : Pt} : smP m x ↔ (x.n.size <= m /\ smCs m x.cs) := by cases x; rw [smP]; rfl
theorem zd8 {m : Nat} {x : Cs} : smC m x ↔ (x.key.size <= m /\ smPs m x.kids) := by cases x; rw [smC]; rfl
theorem z8r {m : Nat} : ∀ {xs : List Pt} {k : Nat} {x : Pt}, smPs m xs -> xs[k]? = some x -> smP m x
  | [], k, x, _, h => by simp at h
  | y :: r, 0, x, hs, h => by rw [smPs] at hs; obtain rfl : y = x := (by simpa using h); exact hs.1
  | y :: r, k + 1, x, hs, h => by rw [smPs] at hs; exact z8r hs.2 (by simpa using h)
theorem z6i {m : Nat} : ∀ {xs : List Cs} {k : Nat} {x : Cs}, smCs m xs -> xs[k]? = some x -> smC m x
  | [], k, x, _, h => by simp at h
  | y :: r, 0, x, hs, h => by rw [smCs] at hs; obtain rfl : y = x := (by simpa using h); exact hs.1
  | y :: r, k + 1, x, hs, h => by rw [smCs] at hs; exact z6i hs.2 (by simpa using h)
theorem zgy (h : Bool) (x : Pt) : okP h x = (if x.k = 1 then !x.t.data.toList.isEmpty && x.n.data.toList.isEmpty && x.cs.isEmpty
    else if x.k = 2 then x.t.data.toList.isEmpty && nameB x.n.data.toList && x.cs.isEmpty
    else if x.k = 3 then h && x.t.data.toList.isEmpty && x.n.data.toList.isEmpty && x.cs.isEmpty
    else if x.k = 4 then x.t.data.toList.isEmpty && nameB x.n.data.toList && !x.cs.isEmpty && decide ((x.cs.getLast?.map Cs.key) = some (ba [111, 116, 104, 101, 114])) && okCs pkeyB true [] x.cs
    else if x.k = 5 then x.t.data.toList.isEmpty && nameB x.n.data.toList && !x.cs.isEmpty && decide ((x.cs.getLast?.map Cs.key) = some (ba [111, 116, 104, 101, 114])) && okCs nameB h [] x.cs
    else false) := by cases x; rw [okP]; rfl
theorem okC_eq (h : Bool) (x : Cs) : okC h x = okPs h false x.kids := by cases x; rw [okC]; rfl
def rcB (p : List UInt8 -> Bool) (h : Bool) (cs : List Cs) : Bool := !cs.isEmpty && decide ((cs.getLast?.map Cs.key) = some (ba [111, 116, 104, 101, 114])) && okCs p h [] cs
theorem zgx {h b : Bool} {xs : List Pt} {k : Nat} {x : Pt} (hx : xs[k]? = some x) : okPs h b (xs.drop k) = (!(decide (x.k = 1) && b) && okP h x && okPs h (decide (x.k = 1)) (xs.drop (k + 1))) := by rw [z9i hx, okPs]
theorem zdo {h b : Bool} {xs : List Pt} {k : Nat} (hk : ¬ k < xs.length) : okPs h b (xs.drop k) = true := by rw [List.drop_eq_nil_of_le (by omega), okPs]
def keysL (cs : List Cs) : List (List UInt8) := cs.map (fun c => c.key.data.toList)
theorem zce {p : List UInt8 -> Bool} {h : Bool} {cs : List Cs} {k : Nat} {x : Cs} (hx : cs[k]? = some x) : okCs p h (keysL (cs.take k)) (cs.drop k) = (!(decide (x.key.data.toList ∈ keysL (cs.take k))) && p x.key.data.toList && okPs h false x.kids && okCs p h (keysL (cs.take (k + 1))) (cs.drop (k + 1))) := by
  rw [z9i hx, okCs, okC_eq, take_one hx]; unfold keysL; rw [List.map_append]; rfl
theorem z96 {p : List UInt8 -> Bool} {h : Bool} {cs : List Cs} {k : Nat} (hk : ¬ k < cs.length) : okCs p h (keysL (cs.take k)) (cs.drop k) = true := by rw [List.drop_eq_nil_of_le (by omega), okCs]
theorem SlP.old {w w' : World} {n : Nat} {v : Value} {xs : List Pt} (h : SlP w (Old w) n v xs) (hb : Below w.heap.size w w') : SlP w' (Old w') n v xs := h.keep (fun b hb' => hb.block b hb') (fun _ hb' => Nat.lt_of_lt_of_le hb' hb.size)
theorem SlC.old {w w' : World} {n : Nat} {v : Value} {xs : List Cs} (h : SlC w (Old w) n v xs) (hb : Below w.heap.size w w') : SlC w' (Old w') n v xs := h.keep (fun b hb' => hb.block b hb') (fun _ hb' => Nat.lt_of_lt_of_le hb' hb.size)
theorem Sl.lenle {α : Type} {k : Nat} {C : α -> List Value -> Prop} {w : World} {S : Nat -> Prop} {v : Value} {xs : List α} (h : Sl k C w S v xs) : xs.length <= 9223372036854775807 := by
  obtain ⟨a, b, hv, h1, h2, -⟩ := h; omega
def zf0 (n : Nat) : Prop := ∀ (h : Bool) (w : World) (a : Option Addr) (cap : Nat) (xs : List Pt), SlP w (Old w) n (.slice a xs.length cap) xs -> smPs 140737488351232 xs -> EnvW w ->
  Calls Tryz.prog 222 #[.slice a xs.length cap, .bool h] w fun e w' => e = .returned (.bool (okPs h false xs)) /\ Below w.heap.size w w'
def PartR (n : Nat) : Prop := ∀ (h : Bool) (w : World) (k : Int) (t nm : BA) (a : Option Addr) (cap : Nat) (cs : List Cs), SlC w (Old w) n (.slice a cs.length cap) cs -> nm.size <= 140737488351232 -> smCs 140737488351232 cs -> EnvW w ->
  Calls Tryz.prog 250 #[.agg #[.int .i64 k, .string t, .string nm, .slice a cs.length cap], .bool h] w fun e w' => e = .returned (.bool (okP h (.mk k t nm cs))) /\ Below w.heap.size w w'
def zja (n : Nat) : Prop := ∀ (h : Bool) (w : World) (a : Option Addr) (cap : Nat) (cs : List Cs), SlC w (Old w) n (.slice a cs.length cap) cs -> smCs 140737488351232 cs -> EnvW w ->
  Calls Tryz.prog 272 #[.slice a cs.length cap, .func (.func 273) #[] #[], .bool h] w fun e w' => e = .returned (.bool (rcB pkeyB h cs)) /\ Below w.heap.size w w'
def zj9 (n : Nat) : Prop := ∀ (h : Bool) (w : World) (a : Option Addr) (cap : Nat) (cs : List Cs), SlC w (Old w) n (.slice a cs.length cap) cs -> smCs 140737488351232 cs -> EnvW w ->
  Calls Tryz.prog 272 #[.slice a cs.length cap, .func (.func 268) #[] #[], .bool h] w fun e w' => e = .returned (.bool (rcB nameB h cs)) /\ Below w.heap.size w w'
theorem zgj (n : Nat) (HP : ∀ m, m < n -> PartR m) : zf0 n := by
  intro h w a cap xs hxs hsm hE;have y := hxs.lenle;obtain ⟨L, HL⟩ := nmd (xs.length)
  have E : L <= 9223372036854775807 := by have := HL.out; omega
  rw [<- HL.out] at hxs ⊢;have HX := hid hxs;have z := hid hsm;have A := hid hE;have B := hid HP;clear hxs hsm hE HP y
  go_enter Tryz.func222, Tryz.ntmps222
  go_wp2
  go_loopw [5, 11] (fun v i wr => ∃ (k : Nat) (b : Bool), k <= L /\ i = .int .i64 k /\ v = .bool b /\ Hid (okPs h false xs = okPs h b (xs.drop k)) /\ Hid (Below w.heap.size w wr)) (fun _ i _ => L - (intOf i).toNat)
  case atStart => exact ⟨0, false, Nat.zero_le _, rfl, rfl, hid rfl, hid (Below.refl _ _)⟩
  case round =>
    obtain ⟨k, b, hk, rfl, rfl, HQ, HB⟩ := hrel
    by_cases hlt : k < L
    · obtain ⟨x, hx⟩ : ∃ x, xs[k]? = some x := ⟨_, List.getElem?_eq_getElem (by have := HL.out; omega)⟩
      obtain ⟨g, F, rfl, -, s⟩ := (HX.out.old HB.out).at_ hx;obtain ⟨h0, h1, h2, m, a1, p1, C, h3, q⟩ := s.p;have HS := hid (zg4.1 (z8r z.out hx));have j := hid (HQ.out.trans (zgx hx));obtain ⟨pk, pt, pn, cs⟩ := x;simp only [Pt.k, Pt.t, Pt.n, Pt.cs] at h0 h1 h2 h3 q HS j;have l := hid (B.out m (by omega) h (wr.alloc (.cells #[.int .i64 pk, .string pt, .string pn, .slice a1 cs.length p1] 263)) pk pt pn a1 p1 cs (q.old (z03 _ _)) HS.out.1 HS.out.2 ((A.out.below HB.out).below (z03 _ _)));obtain ⟨L1, D⟩ := nmd (cs.length);rw [<- D.out] at h3 l;have R := z02 wr #[.int .i64 pk, .string pt, .string pn, .slice a1 L1 p1] 263;have g0 := R.c0;have g1 := R.c1;have g2 := R.c2;have g3 := R.c3;have o : Hid (Below w.heap.size w (wr.alloc (.cells #[.int .i64 pk, .string pt, .string pn, .slice a1 L1 p1] 263))) := hid (z00 HB.out (z03 _ _));clear R s hx q C HQ
      generalize okP h (.mk pk pt pn cs) = r at *
      by_cases d : pk = 1
      · subst d
        cases b with
        | true =>
          have HF : Hid (okPs h false xs = false) := hid (by rw [j.out]; simp);go_wp2;go_ret;exact ⟨z01 HF.out.symm, o.out⟩
        | false =>
          cases r with
          | false =>
            have HF : Hid (okPs h false xs = false) := hid (by rw [j.out]; simp)
            go_wp2_with fail
            refine l.out.mono ?_;rintro e w5 ⟨rfl, c⟩;have f := hid (z00 o.out c);clear c;go_wp2;go_ret;exact ⟨z01 HF.out.symm, f.out⟩
          | true =>
            have HN : Hid (okPs h false xs = okPs h true (xs.drop (k + 1))) := hid (by rw [j.out]; simp)
            go_wp2_with fail
            refine l.out.mono ?_;rintro e w5 ⟨rfl, c⟩;have f := hid (z00 o.out c);clear c;go_wp2;go_roundw
            case rel => exact ⟨k + 1, true, by omega, by go_num, rfl, HN, f⟩
            case measure => simp [intOf]; omega
      · have hB : (pk == 1) = false := by rw [beq_eq_false_iff_ne]; exact d
        have u := hid d;clear d
        cases r with
        | false =>
          have HF : Hid (okPs h false xs = false) := hid (by rw [j.out]; have d := u.out; simp [d])
          go_wp2_with fail
          refine l.out.mono ?_;rintro e w5 ⟨rfl, c⟩;have f := hid (z00 o.out c);clear c;go_wp2;go_ret;exact ⟨z01 HF.out.symm, f.out⟩
        | true =>
          have HN : Hid (okPs h false xs = okPs h false (xs.drop (k + 1))) := hid (by rw [j.out]; have d := u.out; simp [d])
          go_wp2_with fail
          refine l.out.mono ?_;rintro e w5 ⟨rfl, c⟩;have f := hid (z00 o.out c);clear c;go_wp2;go_roundw
          case rel => exact ⟨k + 1, false, by omega, by go_num, rfl, HN, f⟩
          case measure => simp [intOf]; omega
    · have HF : Hid (okPs h false xs = true) := hid (HQ.out.trans (zdo (by have := HL.out; omega)))
      go_wp2;go_ret;exact ⟨z01 HF.out.symm, HB.out⟩
theorem em {t : BA} : t.data.toList.isEmpty = t.toList.isEmpty := by rw [ByteArray.toList_eq]
theorem isE {cs : List Cs} : cs.isEmpty = decide (cs.length = 0) := by cases cs <;> rfl
theorem zc5 (p : List UInt8 -> Bool) (h : Bool) (cs : List Cs) : rcB p h cs = (!cs.isEmpty && decide ((cs.getLast?.map Cs.key) = some (ba [111, 116, 104, 101, 114])) && okCs p h [] cs) := rfl
theorem partR_of (n : Nat) (HK : zja n) (HN : zj9 n) : PartR n := by
  intro h w k t nm a cap cs hcs hnm hsm hE;have p := hcs.lenle;have R := z02 w #[.int .i64 k, .string t, .string nm, .slice a cs.length cap] 263;have b : Hid (Below w.heap.size w (w.alloc (.cells #[.int .i64 k, .string t, .string nm, .slice a cs.length cap] 263))) := hid (z03 _ _);have d := hid (z4g nm (w.alloc (.cells #[.int .i64 k, .string t, .string nm, .slice a cs.length cap] 263)) hnm);have j := hid (HK true (w.alloc (.cells #[.int .i64 k, .string t, .string nm, .slice a cs.length cap] 263)) a cap cs (hcs.old (z03 _ _)) hsm (hE.below (z03 _ _)));have l := hid (HN h (w.alloc (.cells #[.int .i64 k, .string t, .string nm, .slice a cs.length cap] 263)) a cap cs (hcs.old (z03 _ _)) hsm (hE.below (z03 _ _)));obtain ⟨L, HL⟩ := nmd (cs.length)
  have q : L <= 9223372036854775807 := by have := HL.out; omega
  rw [<- HL.out] at R b d j l ⊢;have c := hid (zgy h (.mk k t nm cs));simp only [Pt.k, Pt.t, Pt.n, Pt.cs] at c;rw [isE, <- HL.out, em, em] at c;have g := hid (zc5 pkeyB true cs);have i := hid (zc5 nameB h cs);rw [isE, <- HL.out] at g i;clear hcs hnm hsm hE p HK HN;have g0 := R.c0;have g1 := R.c1;have g2 := R.c2;have g3 := R.c3;clear R
  generalize okP h (.mk k t nm cs) = r at *
  generalize nameB nm.data.toList = nb at *
  by_cases h1 : k = 1
  · subst h1
    have HE : Hid (r = (!t.toList.isEmpty && nm.toList.isEmpty && decide (L = 0))) := hid (by have := c.out; simpa using this);clear c d j l g i
    cases hT : t.toList.isEmpty <;> cases hN : nm.toList.isEmpty <;> by_cases hl : L = 0
    all_goals
      first
      | (have hB : ((L : Int) == 0) = false := by rw [beq_eq_false_iff_ne]; omega
         have HF : Hid (r = false) := hid (by rw [HE.out, hT, hN, decide_eq_false hl]; rfl);clear hl
         go_enter Tryz.func250, Tryz.ntmps250
         go_wp2;go_ret
         exact ⟨z01 HF.out.symm, b.out⟩)
      | (have HF : Hid (r = true) := hid (by rw [HE.out, hT, hN, decide_eq_true hl]; rfl)
         subst hl
         go_enter Tryz.func250, Tryz.ntmps250
         go_wp2;go_ret
         exact ⟨z01 HF.out.symm, b.out⟩)
      | (have HF : Hid (r = false) := hid (by rw [HE.out, hT, hN, decide_eq_true hl]; rfl)
         subst hl
         go_enter Tryz.func250, Tryz.ntmps250
         go_wp2;go_ret
         exact ⟨z01 HF.out.symm, b.out⟩)
      | (have hB : ((L : Int) == 0) = false := by rw [beq_eq_false_iff_ne]; omega
         have HF : Hid (r = true) := hid (by rw [HE.out, hT, hN, decide_eq_false hl]; rfl);clear hl
         go_enter Tryz.func250, Tryz.ntmps250
         go_wp2;go_ret
         exact ⟨z01 HF.out.symm, b.out⟩)
  by_cases h2 : k = 2
  · subst h2
    have HE : Hid (r = (t.toList.isEmpty && nb && decide (L = 0))) := hid (by have := c.out; simpa using this);clear c j l g i h1
    cases hT : t.toList.isEmpty with
    | false =>
      have HF : Hid (r = false) := hid (by rw [HE.out, hT]; rfl)
      go_enter Tryz.func250, Tryz.ntmps250
      go_wp2;go_ret;exact ⟨z01 HF.out.symm, b.out⟩
    | true =>
      have f : Hid (r = (nb && decide (L = 0))) := hid (by rw [HE.out, hT]; simp)
      cases nb with
      | false =>
        go_enter Tryz.func250, Tryz.ntmps250
        go_wp2_with fail
        refine d.out.mono ?_;rintro e w5 ⟨rfl, rfl⟩;go_wp2;go_ret;exact ⟨z01 (by rw [f.out]; rfl), b.out⟩
      | true =>
        by_cases hl : L = 0
        · have HF : Hid (r = true) := hid (by rw [f.out, hl]; rfl)
          have s := hid hl;subst hl
          go_enter Tryz.func250, Tryz.ntmps250
          go_wp2_with fail
          refine d.out.mono ?_;rintro e w5 ⟨rfl, rfl⟩;go_wp2;go_ret;exact ⟨z01 HF.out.symm, b.out⟩
        · have HF : Hid (r = false) := hid (by rw [f.out]; simp [hl])
          have hB : ((L : Int) == 0) = false := by rw [beq_eq_false_iff_ne]; omega
          clear hl
          go_enter Tryz.func250, Tryz.ntmps250
          go_wp2_with fail
          refine d.out.mono ?_;rintro e w5 ⟨rfl, rfl⟩;go_wp2;go_ret;exact ⟨z01 HF.out.symm, b.out⟩
  by_cases h3 : k = 3
  · subst h3
    have HE : Hid (r = (h && t.toList.isEmpty && nm.toList.isEmpty && decide (L = 0))) := hid (by have := c.out; simpa using this);clear c d j l g i h1 h2
    cases h with
    | false =>
      go_enter Tryz.func250, Tryz.ntmps250
      go_wp2;go_ret;exact ⟨z01 (by rw [HE.out]; rfl), b.out⟩
    | true =>
      cases hT : t.toList.isEmpty <;> cases hN : nm.toList.isEmpty <;> by_cases hl : L = 0
      all_goals
        first
        | (have hB : ((L : Int) == 0) = false := by rw [beq_eq_false_iff_ne]; omega
           have HF : Hid (r = false) := hid (by rw [HE.out, hT, hN, decide_eq_false hl]; rfl);clear hl
           go_enter Tryz.func250, Tryz.ntmps250
           go_wp2;go_ret
           exact ⟨z01 HF.out.symm, b.out⟩)
        | (have HF : Hid (r = true) := hid (by rw [HE.out, hT, hN, decide_eq_true hl]; rfl)
           subst hl
           go_enter Tryz.func250, Tryz.ntmps250
           go_wp2;go_ret
           exact ⟨z01 HF.out.symm, b.out⟩)
        | (have HF : Hid (r = false) := hid (by rw [HE.out, hT, hN, decide_eq_true hl]; rfl)
           subst hl
           go_enter Tryz.func250, Tryz.ntmps250
           go_wp2;go_ret
           exact ⟨z01 HF.out.symm, b.out⟩)
        | (have hB : ((L : Int) == 0) = false := by rw [beq_eq_false_iff_ne]; omega
           have HF : Hid (r = true) := hid (by rw [HE.out, hT, hN, decide_eq_false hl]; rfl);clear hl
           go_enter Tryz.func250, Tryz.ntmps250
           go_wp2;go_ret
           exact ⟨z01 HF.out.symm, b.out⟩)
  by_cases h4 : k = 4
  · subst h4
    have HE : Hid (r = (t.toList.isEmpty && nb && rcB pkeyB true cs)) := hid (by rw [c.out, g.out]; simp [Bool.and_assoc]);clear c l i g h1 h2 h3
    generalize rcB pkeyB true cs = rc at *
    cases hT : t.toList.isEmpty with
    | false =>
      have HF : Hid (r = false) := hid (by rw [HE.out, hT]; rfl)
      go_enter Tryz.func250, Tryz.ntmps250
      go_wp2;go_ret;exact ⟨z01 HF.out.symm, b.out⟩
    | true =>
      have f : Hid (r = (nb && rc)) := hid (by rw [HE.out, hT]; simp)
      cases nb with
      | false =>
        go_enter Tryz.func250, Tryz.ntmps250
        go_wp2_with fail
        refine d.out.mono ?_;rintro e w5 ⟨rfl, rfl⟩;go_wp2;go_ret;exact ⟨z01 (by rw [f.out]; rfl), b.out⟩
      | true =>
        go_enter Tryz.func250, Tryz.ntmps250
        go_wp2_with fail
        refine d.out.mono ?_;rintro e w5 ⟨rfl, rfl⟩
        go_wp2_with fail
        refine j.out.mono ?_;rintro e w6 ⟨rfl, m⟩;have o := hid (z00 b.out m);clear m;go_wp2;go_ret;exact ⟨z01 (by rw [f.out]; rfl), o.out⟩
  by_cases h5 : k = 5
  · subst h5
    have HE : Hid (r = (t.toList.isEmpty && nb && rcB nameB h cs)) := hid (by rw [c.out, i.out]; simp [Bool.and_assoc]);clear c j g i h1 h2 h3 h4
    generalize rcB nameB h cs = rc at *
    cases hT : t.toList.isEmpty with
    | false =>
      have HF : Hid (r = false) := hid (by rw [HE.out, hT]; rfl)
      go_enter Tryz.func250, Tryz.ntmps250
      go_wp2;go_ret;exact ⟨z01 HF.out.symm, b.out⟩
    | true =>
      have f : Hid (r = (nb && rc)) := hid (by rw [HE.out, hT]; simp)
      cases nb with
      | false =>
        go_enter Tryz.func250, Tryz.ntmps250
        go_wp2_with fail
        refine d.out.mono ?_;rintro e w5 ⟨rfl, rfl⟩;go_wp2;go_ret;exact ⟨z01 (by rw [f.out]; rfl), b.out⟩
      | true =>
        go_enter Tryz.func250, Tryz.ntmps250
        go_wp2_with fail
        refine d.out.mono ?_;rintro e w5 ⟨rfl, rfl⟩
        go_wp2_with fail
        refine l.out.mono ?_;rintro e w6 ⟨rfl, m⟩;have o := hid (z00 b.out m);clear m;go_wp2;go_ret;exact ⟨z01 (by rw [f.out]; rfl), o.out⟩
  have HF : Hid (r = false) := hid (by have := c.out; simpa [h1, h2, h3, h4, h5] using this);have b1 : (k == 1) = false := beq_eq_false_iff_ne.2 h1;have b2 : (k == 2) = false := beq_eq_false_iff_ne.2 h2;have b3 : (k == 3) = false := beq_eq_false_iff_ne.2 h3;have b4 : (k == 4) = false := beq_eq_false_iff_ne.2 h4;have b5 : (k == 5) = false := beq_eq_false_iff_ne.2 h5;clear h1 h2 h3 h4 h5 d j l g i c
  go_enter Tryz.func250, Tryz.ntmps250
  go_wp2;go_ret;exact ⟨z01 HF.out.symm, b.out⟩
end Go.Proofs.YtdkkkeoicekdgaaGreatDoor
