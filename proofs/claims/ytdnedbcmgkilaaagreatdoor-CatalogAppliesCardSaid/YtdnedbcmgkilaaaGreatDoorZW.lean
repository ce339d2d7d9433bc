/- The document's one. -/
import Derived.Test.YtdnedbcmgkilaaaGreatDoorZO

section

namespace Go.Proofs.YtdnedbcmgkilaaaGreatDoor.Ca
open Go.RowKit Go.Proofs.YtdnedbcmgkilaaaGreatDoor

/-- What the document's walk has still to append. -/
def restF (x : Ent) (at_ : Int) : Bool → List Ent → Nat → List Ent
  | put, [], _ => if put then [] else [x]
  | put, y :: r, i => if (i : Int) = at_ then restF x at_ put r (i + 1) else if !put && ahB x y then x :: y :: restF x at_ true r (i + 1) else y :: restF x at_ put r (i + 1)
/-- The place is that of the one entry of the same locale and key. -/
def AtIs (x : Ent) (at_ : Int) (l : List Ent) (i : Nat) : Prop := ∀ (j : Nat) y, l[j]? = some y → (((i + j : Nat) : Int) = at_ ↔ sameB x.loc x.key y = true)
theorem AtIs.tail {x y : Ent} {at_ : Int} {r : List Ent} {i : Nat} (h : AtIs x at_ (y :: r) i) : AtIs x at_ r (i + 1) := fun j z hz => by
  have := h (j + 1) z (by simpa using hz)
  rwa [show i + (j + 1) = i + 1 + j by omega] at this
theorem rest_true {x : Ent} {at_ : Int} : ∀ {l : List Ent} {i : Nat}, AtIs x at_ l i → restF x at_ true l i = dropC x.loc x.key l
  | [], _, _ => rfl
  | y :: r, i, h => by
    have h0 := h 0 y rfl
    rw [Nat.add_zero] at h0
    rw [restF]
    by_cases hi : (i : Int) = at_
    · rw [if_pos hi, rest_true h.tail]
      unfold dropC
      rw [List.filter_cons_of_neg (by simp [h0.1 hi])]
    · rw [if_neg hi]
      simp only [Bool.not_true, Bool.false_and, Bool.false_eq_true, if_false]
      rw [rest_true h.tail]
      have hs : sameB x.loc x.key y = false := by
        cases hh : sameB x.loc x.key y with
        | false => rfl
        | true => exact absurd (h0.2 hh) hi
      unfold dropC
      rw [List.filter_cons_of_pos (by simp [hs])]
theorem rest_false {x : Ent} {at_ : Int} : ∀ {l : List Ent} {i : Nat}, AtIs x at_ l i → restF x at_ false l i = putC x l
  | [], _, _ => rfl
  | y :: r, i, h => by
    have h0 := h 0 y rfl
    rw [Nat.add_zero] at h0
    have ih := rest_false h.tail
    rw [restF]
    by_cases hi : (i : Int) = at_
    · rw [if_pos hi, ih]
      unfold putC dropC
      rw [List.filter_cons_of_neg (by simp [h0.1 hi])]
    · rw [if_neg hi]
      have hs : sameB x.loc x.key y = false := by
        cases hh : sameB x.loc x.key y with
        | false => rfl
        | true => exact absurd (h0.2 hh) hi
      have hd : dropC x.loc x.key (y :: r) = y :: dropC x.loc x.key r := by
        unfold dropC
        rw [List.filter_cons_of_pos (by simp [hs])]
      unfold putC at ih ⊢
      rw [hd, insC]
      cases ha : ahB x y with
      | true =>
        simp only [Bool.not_false, Bool.true_and, if_true]
        rw [rest_true h.tail]
      | false =>
        simp only [Bool.and_false, Bool.false_eq_true, if_false]
        rw [ih]
theorem atIs {x : Ent} {l : List Ent} {i : Int} (hs : Srt l) (h : (∃ (k : Nat) (y : Ent), i = k ∧ l[k]? = some y ∧ findC l x.loc x.key = some y) ∨ (i = -1 ∧ findC l x.loc x.key = none)) : AtIs x i l 0 := fun j y hy => by
  rw [Nat.zero_add]
  rcases h with ⟨k, z, rfl, hz, hf⟩ | ⟨rfl, hf⟩
  · have hzs := (find_is hf).2
    constructor
    · intro hjk
      obtain rfl : j = k := by omega
      rw [hz] at hy
      obtain rfl := Option.some.inj hy
      exact sameB_iff.2 hzs
    · intro hsame
      have hys := sameB_iff.1 hsame
      have hjl := (List.getElem?_eq_some_iff.1 hy).1
      have hkl := (List.getElem?_eq_some_iff.1 hz).1
      rcases Nat.lt_trichotomy j k with h1 | h1 | h1
      · have := List.pairwise_iff_getElem.1 hs j k hjl hkl h1
        rw [(List.getElem?_eq_some_iff.1 hy).2, (List.getElem?_eq_some_iff.1 hz).2, ahB_same (hys.1.trans hzs.1.symm) (hys.2.trans hzs.2.symm)] at this
        cases this
      · rw [h1]
      · have := List.pairwise_iff_getElem.1 hs k j hkl hjl h1
        rw [(List.getElem?_eq_some_iff.1 hy).2, (List.getElem?_eq_some_iff.1 hz).2, ahB_same (hzs.1.trans hys.1.symm) (hzs.2.trans hys.2.symm)] at this
        cases this
  · constructor
    · intro h; omega
    · intro hsame
      exact absurd (sameB_iff.1 hsame) (find_none.1 hf y (List.mem_of_getElem? hy))
theorem rest_skip {x : Ent} {at_ : Int} {put : Bool} {l : List Ent} {k : Nat} {y : Ent} (hy : l[k]? = some y) (hi : (k : Int) = at_) : restF x at_ put (l.drop k) k = restF x at_ put (l.drop (k + 1)) (k + 1) := by
  obtain ⟨h1, h2⟩ := List.getElem?_eq_some_iff.1 hy
  rw [List.drop_eq_getElem_cons h1, h2, restF, if_pos hi]
theorem rest_both {x : Ent} {at_ : Int} {l : List Ent} {k : Nat} {y : Ent} (hy : l[k]? = some y) (hi : ¬ (k : Int) = at_) (ha : ahB x y = true) : restF x at_ false (l.drop k) k = x :: y :: restF x at_ true (l.drop (k + 1)) (k + 1) := by
  obtain ⟨h1, h2⟩ := List.getElem?_eq_some_iff.1 hy
  rw [List.drop_eq_getElem_cons h1, h2, restF, if_neg hi, ha]; simp
theorem rest_one {x : Ent} {at_ : Int} {put : Bool} {l : List Ent} {k : Nat} {y : Ent} (hy : l[k]? = some y) (hi : ¬ (k : Int) = at_) (ha : put = true ∨ ahB x y = false) : restF x at_ put (l.drop k) k = y :: restF x at_ put (l.drop (k + 1)) (k + 1) := by
  obtain ⟨h1, h2⟩ := List.getElem?_eq_some_iff.1 hy
  rw [List.drop_eq_getElem_cons h1, h2, restF, if_neg hi]
  rcases ha with ha | ha <;> simp [ha]
theorem rest_end {x : Ent} {at_ : Int} {put : Bool} {l : List Ent} {k : Nat} (h : l.length ≤ k) : restF x at_ put (l.drop k) k = if put then [] else [x] := by
  rw [List.drop_of_length_le h, restF]

/-- What stands while the document carries a change out. -/
structure OK1 (w : World) (X : Nat) (c : Chg) (l : List Ent) (a : Option Addr) (cap : Nat) (W : World) : Prop where
  row : Row W X 44 [.bool c.drop, .string c.e.loc, .string c.e.key, .string c.e.pat]
  sl : SlE W (fun b => b < w.heap.size) (.slice a l.length cap) l
  below : Below w.heap.size w W
  hX : w.heap.size ≤ X
theorem OK1.step {w W W' : World} {X : Nat} {c : Chg} {l : List Ent} {a : Option Addr} {cap : Nat} (h : OK1 w X c l a cap W) (hb : Below W.heap.size W W') : OK1 w X c l a cap W' :=
  ⟨h.row.below hb, Sl.keep h.sl (fun b hb2 => hb.block b (Nat.lt_of_lt_of_le hb2 h.below.size)) (fun _ h => h) (fun _ _ h => h), below_trans h.below hb, h.hX⟩
theorem OK1.fr {w W W' : World} {X : Nat} {c : Chg} {l : List Ent} {a : Option Addr} {cap : Nat} {r : Option Nat} (h : OK1 w X c l a cap W) (hg : W.grownBy W' r) (hr : ∀ g, r = some g → w.heap.size ≤ g ∧ g ≠ X) : OK1 w X c l a cap W' :=
  ⟨h.row.keep (hg.block X h.row.lt (fun e => (hr X e.symm).2 rfl)), Sl.keep h.sl (fun b hb2 => hg.block b (Nat.lt_of_lt_of_le hb2 h.below.size) (fun e => by have := (hr b e.symm).1; have hb3 : b < w.heap.size := hb2; omega)) (fun _ h => h) (fun _ _ h => h),
    ⟨hg.os.trans h.below.os, hg.tape.trans h.below.tape, hg.output.trans h.below.output, Nat.le_trans h.below.size hg.size, fun k hk => (hg.block k (Nat.lt_of_lt_of_le hk h.below.size) (fun e => by have := (hr k e.symm).1; omega)).trans (h.below.block k hk)⟩, h.hX⟩
theorem OK1.old {w W : World} {X : Nat} {c : Chg} {l : List Ent} {a : Option Addr} {cap : Nat} (h : OK1 w X c l a cap W) : SlE W (Old W) (.slice a l.length cap) l := Sl.keep h.sl (fun _ _ => rfl) (fun _ hb => Nat.lt_of_lt_of_le hb h.below.size) (fun _ _ h => h)
/-- One entry appended to what is under way. -/
theorem app_one {w W : World} {B : Nat} {X : Nat} {c : Chg} {l : List Ent} {a : Option Addr} {cap : Nat} {v : Value} {out : List Ent} (hk : OK1 w X c l a cap W) (ho : Own W B v out) (hB : w.heap.size ≤ B) (hXB : X < B) (hBW : B ≤ W.heap.size) (hl : out.length ≤ 1000) (y : Ent) :
    ∃ v' w', Hid ((Builtin.append_ #[22, 22] 22 #[v, .slice (some ⟨W.heap.size, 0, none⟩) 1 1]).run Tryz.prog (W.alloc (.cells (enC y) 38)) = .ok v' w') ∧ Hid (Own w' B v' (out ++ [y])) ∧ Hid (OK1 w X c l a cap w') ∧ W.heap.size + 1 ≤ w'.heap.size ∧ Hid (∀ b, b < W.heap.size + 1 → v.ownBlock ≠ some b → w'.heap[b]? = (W.alloc (.cells (enC y) 38)).heap[b]?) := by
  have hb := below1 W (.cells (enC y) 38)
  obtain ⟨v', w', hr, h2, h3, -⟩ := run_append_ent (W.alloc (.cells (enC y) 38)) 22 B v out (ownsRow_below ho hb) (some ⟨W.heap.size, 0, none⟩) 1 [y] (one_sl (row_new W (enC y) 38)) (by simp; omega) (by rw [World.size_alloc]; omega)
  refine ⟨v', w', Lib.hid hr, Lib.hid h2, Lib.hid ((hk.step hb).fr h3 (fun g hg => ?_)), by have := h3.size; rw [World.size_alloc] at this; exact this, Lib.hid (fun b hb2 hne => h3.block b (by rw [World.size_alloc]; exact hb2) (fun e => hne e.symm))⟩
  have := (ho.lt g hg).1
  exact ⟨by omega, by omega⟩

theorem stop_here {p : Prop} (h : Hid p) : p := h.out

set_option maxHeartbeats 12800000 in
set_option maxRecDepth 100000 in
theorem one_a (w : World) (a : Option Addr) (cap : Nat) (l : List Ent) (c : Chg) (hX : SlE w (Old w) (.slice a l.length cap) l) (hr : Rgt l) (_hF : FitE c.e) (_hE : EnvC w) (hd : c.drop = true) (hp : c.e.pat ≠ ⟨#[]⟩) :
    Calls Tryz.prog 29 #[.slice a l.length cap, chV c] w (ApplyP (oneC l c) w) := by
  have hb0 := below1 w (.cells (chC c) 44)
  have K0 : Hid (OK1 w w.heap.size c l a cap (w.alloc (.cells (chC c) 44))) := Lib.hid ⟨row_new w (chC c) 44, Sl.keep hX (fun b hb2 => hb0.block b hb2) (fun _ h => h) (fun _ _ h => h), hb0, Nat.le_refl _⟩
  have r0 := row_new w (chC c) 44
  have d0 := r0.cell (i := 0) rfl
  have d1 := r0.cell (i := 1) rfl
  have d2 := r0.cell (i := 2) rfl
  have d3 := r0.cell (i := 3) rfl
  have HB0 := Lib.hid hb0
  have HRG := Lib.hid hr
  have hlen := hr.len
  have HA : Hid (oneC l c = .error 110) := Lib.hid (by rw [one_drop hd]; unfold dropA; rw [if_pos hp])
  have hpe := not_emp hp
  clear hX hr _hF _hE hb0 r0 hp
  generalize l.length = L at *
  obtain ⟨cd, xl, xk, xp⟩ := c
  simp only at d0 d1 d2 d3 HB0 hpe HA hd
  subst hd
  go_enter Tryz.func29, Tryz.ntmps29
  go_wp2
  go_ret2
  exact ApplyP.no HA.out HB0.out

set_option maxHeartbeats 12800000 in
set_option maxRecDepth 100000 in
theorem one_b (w : World) (a : Option Addr) (cap : Nat) (l : List Ent) (c : Chg) (hX : SlE w (Old w) (.slice a l.length cap) l) (hr : Rgt l) (hF : FitE c.e) (hE : EnvC w) (hd : c.drop = false) (hm : mayB c.e = false) :
    Calls Tryz.prog 29 #[.slice a l.length cap, chV c] w (ApplyP (oneC l c) w) := by
  have hb0 := below1 w (.cells (chC c) 44)
  have K0 : Hid (OK1 w w.heap.size c l a cap (w.alloc (.cells (chC c) 44))) := Lib.hid ⟨row_new w (chC c) 44, Sl.keep hX (fun b hb2 => hb0.block b hb2) (fun _ h => h) (fun _ _ h => h), hb0, Nat.le_refl _⟩
  have r0 := row_new w (chC c) 44
  have d0 := r0.cell (i := 0) rfl
  have d1 := r0.cell (i := 1) rfl
  have d2 := r0.cell (i := 2) rfl
  have d3 := r0.cell (i := 3) rfl
  have HB0 := Lib.hid hb0
  have HRG := Lib.hid hr
  have hlen := hr.len
  have HA := Lib.hid (one_bad (l := l) hd hm)
  have HM := Lib.hid (may_any c.e (w.alloc (.cells (chC c) 44)) (hE.below hb0) hF)
  rw [hm] at HM
  clear hX hr hF hE hb0 r0 hm
  generalize l.length = L at *
  obtain ⟨cd, xl, xk, xp⟩ := c
  simp only at d0 d1 d2 d3 HB0 HA hd HM
  subst hd
  go_enter Tryz.func29, Tryz.ntmps29
  go_wp2_with fail
  refine HM.out.mono ?_
  rintro e w1 ⟨rfl, hb1⟩
  have HB1 := Lib.hid (below_trans HB0.out hb1)
  clear hb1
  go_wp2
  go_ret2
  exact ApplyP.no HA.out HB1.out

end Go.Proofs.YtdnedbcmgkilaaaGreatDoor.Ca

end

/- The document's one: a change that drops. -/
section

namespace Go.Proofs.YtdnedbcmgkilaaaGreatDoor.Ca
open Go.RowKit Go.Proofs.YtdnedbcmgkilaaaGreatDoor

set_option maxHeartbeats 12800000 in
set_option maxRecDepth 100000 in
theorem one_d (w : World) (a : Option Addr) (cap : Nat) (l : List Ent) (c : Chg) (hX : SlE w (Old w) (.slice a l.length cap) l) (hr : Rgt l) (_hF : FitE c.e) (_hE : EnvC w) (hd : c.drop = true) (hp : c.e.pat = ⟨#[]⟩) :
    Calls Tryz.prog 29 #[.slice a l.length cap, chV c] w (ApplyP (oneC l c) w) := by
  have hb0 := below1 w (.cells (chC c) 44)
  have K0 : Hid (OK1 w w.heap.size c l a cap (w.alloc (.cells (chC c) 44))) := Lib.hid ⟨row_new w (chC c) 44, Sl.keep hX (fun b hb2 => hb0.block b hb2) (fun _ h => h) (fun _ _ h => h), hb0, Nat.le_refl _⟩
  have r0 := row_new w (chC c) 44
  have d0 := r0.cell (i := 0) rfl
  have d1 := r0.cell (i := 1) rfl
  have d2 := r0.cell (i := 2) rfl
  have d3 := r0.cell (i := 3) rfl
  have HB0 := Lib.hid hb0
  have HRG := Lib.hid hr
  have hlen := hr.len
  have HAT := Lib.hid (at_any (w.alloc (.cells (chC c) 44)) a cap l c.e.loc c.e.key (hX.old hb0))
  have HDA := Lib.hid (one_drop (l := l) hd)
  obtain ⟨L, HL⟩ : ∃ L, Hid (L = l.length) := ⟨_, Lib.hid rfl⟩
  rw [← HL.out] at HAT hlen ⊢
  clear hX hr _hF _hE hb0 r0
  obtain ⟨cd, xl, xk, xp⟩ := c
  simp only at d0 d1 d2 d3 HB0 HDA HAT K0 hd hp
  subst hd hp
  go_enter Tryz.func29, Tryz.ntmps29
  go_wp2_with fail
  refine HAT.out.mono ?_
  rintro e w2 ⟨i0, rfl, hi, hb2⟩
  have K2 := Lib.hid (K0.out.step hb2)
  have hcs := AtP.yes HRG.out.srt hi
  have HAI := Lib.hid (atIs (x := ⟨xl, xk, ⟨#[]⟩⟩) HRG.out.srt hcs)
  have HKB := Lib.hid K2.out.below
  have b0 := K2.out.row.cell (i := 0) rfl
  clear hb2 d0 d1 d2 d3 HAT hi K0
  rcases hcs with ⟨k0, y0, hik, hy0, hf⟩ | ⟨hik, hf⟩
  · have HA : Hid (oneC l ⟨true, ⟨xl, xk, ⟨#[]⟩⟩⟩ = .ok (dropC xl xk l)) := Lib.hid (by rw [HDA.out]; unfold dropA; rw [if_neg (by simp), if_neg (by rw [hf]; simp)])
    have hi0 : 0 ≤ i0 := by omega
    have hi1 : ¬ i0 < 0 := by omega
    clear hik hy0 hf
    have HO0 : Hid (Own (w2.alloc (.cells #[] 38)) w2.heap.size (.slice (some ⟨w2.heap.size, 0, none⟩) 0 0) []) := Lib.hid (World.ownsRow_made w2 #[] 0 (Nat.le_refl _) (Nat.zero_le _) (by simp))
    have K3 := Lib.hid (K2.out.step (below1 w2 (.cells #[] 38)))
    have hB2 : w2.heap.size ≤ (w2.alloc (.cells #[] 38)).heap.size := by rw [World.size_alloc]; omega
    have hXB : w.heap.size < w2.heap.size := K2.out.row.lt
    have hWB : w.heap.size ≤ w2.heap.size := K2.out.below.size
    obtain ⟨B, HBB⟩ : ∃ B, Hid (B = w2.heap.size) := ⟨_, Lib.hid rfl⟩
    rw [← HBB.out] at HO0 hB2 hXB hWB
    have KC := K3.out.row
    have e0 := KC.cell (i := 0) rfl
    have e1 := KC.cell (i := 1) rfl
    have e2 := KC.cell (i := 2) rfl
    have e3 := KC.cell (i := 3) rfl
    clear KC
    go_wp2
    rw [← HBB.out]
    generalize w2.alloc (.cells #[] 38) = w3 at *
    clear e0 e1 e2 e3 b0
    go_loopw [7, 8, 49] (fun v pu i wr => ∃ k : Nat, k ≤ L ∧ i = .int .i64 k ∧ ∃ (out : List Ent), pu = .bool true ∧ out.length ≤ 2 * k ∧ Hid (Own wr B v out) ∧ Hid (out ++ restF ⟨xl, xk, ⟨#[]⟩⟩ i0 true (l.drop k) k = dropC xl xk l) ∧ Hid (OK1 w w.heap.size ⟨true, xl, xk, ⟨#[]⟩⟩ l a cap wr) ∧ Hid (B ≤ wr.heap.size)) (fun _ _ i _ => L - (intOf i).toNat)
    case atStart => exact ⟨0, Nat.zero_le _, rfl, [], rfl, by simp, HO0, Lib.hid (by rw [List.nil_append, List.drop_zero]; exact rest_true HAI.out), K3, Lib.hid hB2⟩
    case round =>
      obtain ⟨k, hk, rfl, out, rfl, hol, HO, HRS, HK, HBr⟩ := hrel
      by_cases hlt : k < L
      · obtain ⟨y, hy⟩ : ∃ y, l[k]? = some y := ⟨_, List.getElem?_eq_getElem (by have := HL.out; omega)⟩
        obtain ⟨g, off, rfl, -, y0, y1, y2⟩ := HK.out.sl.get hy
        have HY := Lib.hid hy
        have hb5 := below1 wr (.cells (enC y) 38)
        have K5 := Lib.hid (HK.out.step hb5)
        have HO5 := Lib.hid (ownsRow_below HO.out hb5)
        have R5 := row_new wr (enC y) 38
        have HR5 := Lib.hid R5
        have f0 := R5.cell (i := 0) rfl
        have f1 := R5.cell (i := 1) rfl
        have f2 := R5.cell (i := 2) rfl
        have c0 := K5.out.row.cell (i := 0) rfl
        have c1 := K5.out.row.cell (i := 1) rfl
        have c2 := K5.out.row.cell (i := 2) rfl
        have c3 := K5.out.row.cell (i := 3) rfl
        have hz5 : B ≤ (wr.alloc (.cells (enC y) 38)).heap.size := by rw [World.size_alloc]; have := HBr.out; omega
        have hzw : wr.heap.size < (wr.alloc (.cells (enC y) 38)).heap.size := by rw [World.size_alloc]; omega
        have hyb : ∀ g9, (wr.alloc (.cells (enC y) 38)).heap.size ≤ g9 → True := fun _ _ => trivial
        have hvb : ∀ v : Value, Own wr B v out → v.ownBlock ≠ some wr.heap.size := fun v ho e => by have := (ho.lt _ e).2; omega
        have HVB := Lib.hid (hvb _ HO.out)
        clear hy hb5 R5 hyb hvb
        by_cases hki : (k : Int) = i0
        · have HRN : Hid (out ++ restF ⟨xl, xk, ⟨#[]⟩⟩ i0 true (l.drop (k + 1)) (k + 1) = dropC xl xk l) := Lib.hid (by rw [← rest_skip HY.out hki]; exact HRS.out)
          have hkb : ((k : Int) == i0) = true := by rw [beq_iff_eq]; exact hki
          have HKI := Lib.hid hki
          clear hki
          obtain ⟨yl, yk, yp⟩ := y
          simp only at y0 y1 y2 f0 f1 f2 K5 HO5 hz5
          go_wp2
          go_roundw
          case rel => exact ⟨k + 1, by omega, by go_num, out, rfl, by omega, HO5, HRN, K5, Lib.hid hz5⟩
          case measure => simp [intOf]; omega
        · have hkb : ((k : Int) == i0) = false := by rw [beq_eq_false_iff_ne]; exact hki
          have HRN : Hid ((out ++ [y]) ++ restF ⟨xl, xk, ⟨#[]⟩⟩ i0 true (l.drop (k + 1)) (k + 1) = dropC xl xk l) := Lib.hid (by rw [List.append_assoc, List.singleton_append, ← rest_one HY.out hki (.inl rfl)]; exact HRS.out)
          obtain ⟨v7, w7, HR7, HO7, K7, hw7, -⟩ := app_one K5.out HO5.out hWB hXB hz5 (by omega) y
          clear hki HRS
          obtain ⟨yl, yk, yp⟩ := y
          simp only [World.size_alloc] at y0 y1 y2 f0 f1 f2 HR7 HO7 HRN
          go_wp2_with (at_builtin; refine stop_here ?_)
          refine Lib.hid ?_
          refine Lib.wpList_append_run _ rfl (.tmp 70) (.tmp 72) 22 22 rfl _ (.slice (some ⟨_, 0, none⟩) 1 1) ?hs ?hx _ _ HR7.out ?_
          case hs => rfl
          case hx => rfl
          go_wp2
          go_roundw
          case rel => exact ⟨k + 1, by omega, by go_num, _, rfl, by rw [List.length_append, List.length_singleton]; omega, HO7, HRN, K7, Lib.hid (by omega)⟩
          case measure => simp [intOf]; omega
      · have hend := rest_end (x := ⟨xl, xk, ⟨#[]⟩⟩) (at_ := i0) (put := true) (l := l) (k := k) (by have := HL.out; omega)
        have HOUT : Hid (out = dropC xl xk l) := Lib.hid (by have := HRS.out; rw [hend] at this; simpa using this)
        obtain ⟨a9, c9, hv9, hc9, -⟩ := owns_form HO.out
        subst hv9
        have HSL := Lib.hid HO.out.sl
        have hol2 : out.length ≤ 200 := by rw [HOUT.out]; exact Nat.le_trans (List.length_filter_le _ _) HRG.out.len
        obtain ⟨n9, HN9⟩ : ∃ n, Hid (n = out.length) := ⟨_, Lib.hid rfl⟩
        rw [← HN9.out] at HSL hol2
        have hn2 : ¬ (200 : Int) < n9 := by omega
        clear hend hol2
        rw [← HN9.out]
        go_wp2
        go_ret2
        rw [HN9.out]
        exact ApplyP.yes (by rw [HA.out, HOUT.out]) (by rw [← HN9.out]; exact HSL.out) HK.out.below

  · have HA : Hid (oneC l ⟨true, ⟨xl, xk, ⟨#[]⟩⟩⟩ = .error 60) := Lib.hid (by rw [HDA.out]; unfold dropA; rw [if_neg (by simp), if_pos (by rw [hf]; rfl)])
    subst hik
    clear hf
    go_wp2
    go_ret2
    exact ApplyP.no HA.out HKB.out

end Go.Proofs.YtdnedbcmgkilaaaGreatDoor.Ca

end

/- The document's one: a change that puts. -/
section

namespace Go.Proofs.YtdnedbcmgkilaaaGreatDoor.Ca
open Go.RowKit Go.Proofs.YtdnedbcmgkilaaaGreatDoor

set_option maxHeartbeats 12800000 in
set_option maxRecDepth 100000 in
theorem one_p (w : World) (a : Option Addr) (cap : Nat) (l : List Ent) (c : Chg) (hX : SlE w (Old w) (.slice a l.length cap) l) (hr : Rgt l) (hF : FitE c.e) (hE : EnvC w) (hd : c.drop = false) (hm : mayB c.e = true) :
    Calls Tryz.prog 29 #[.slice a l.length cap, chV c] w (ApplyP (oneC l c) w) := by
  have hb0 := below1 w (.cells (chC c) 44)
  have K0 : Hid (OK1 w w.heap.size c l a cap (w.alloc (.cells (chC c) 44))) := Lib.hid ⟨row_new w (chC c) 44, Sl.keep hX (fun b hb2 => hb0.block b hb2) (fun _ h => h) (fun _ _ h => h), hb0, Nat.le_refl _⟩
  have r0 := row_new w (chC c) 44
  have d0 := r0.cell (i := 0) rfl
  have d1 := r0.cell (i := 1) rfl
  have d2 := r0.cell (i := 2) rfl
  have d3 := r0.cell (i := 3) rfl
  have HB0 := Lib.hid hb0
  have HRG := Lib.hid hr
  have hlen := hr.len
  have HAL := Lib.hid (one_long (l := l) hd hm)
  have HAO := Lib.hid (one_put (l := l) hd hm)
  have HM := Lib.hid (may_any c.e (w.alloc (.cells (chC c) 44)) (hE.below hb0) hF)
  rw [hm] at HM
  have HAT := Lib.hid (fun W (hb : Below (w.alloc (.cells (chC c) 44)).heap.size (w.alloc (.cells (chC c) 44)) W) => at_any W a cap l c.e.loc c.e.key ((hX.old hb0).old hb))
  obtain ⟨L, HL⟩ : ∃ L, Hid (L = l.length) := ⟨_, Lib.hid rfl⟩
  rw [← HL.out] at HAT hlen ⊢
  clear hX hr hF hE hb0 r0 hm
  obtain ⟨cd, xl, xk, xp⟩ := c
  simp only at d0 d1 d2 d3 HB0 HAT HM K0 hd HAL HAO
  subst hd
  go_enter Tryz.func29, Tryz.ntmps29
  go_wp2_with fail
  refine HM.out.mono ?_
  rintro e w1 ⟨rfl, hb1⟩
  have K1 := Lib.hid (K0.out.step hb1)
  have HA1 := Lib.hid (HAT.out w1 hb1)
  have b0 := K1.out.row.cell (i := 0) rfl
  have b1 := K1.out.row.cell (i := 1) rfl
  have b2 := K1.out.row.cell (i := 2) rfl
  have b3 := K1.out.row.cell (i := 3) rfl
  clear hb1 d0 d1 d2 d3 HAT HM K0
  go_wp2_with fail
  refine HA1.out.mono ?_
  rintro e w2 ⟨i0, rfl, hi, hb2⟩
  have K2 := Lib.hid (K1.out.step hb2)
  have HAI := Lib.hid (atIs (x := ⟨xl, xk, xp⟩) HRG.out.srt (AtP.yes HRG.out.srt hi))
  clear hb2 b0 b1 b2 b3 HA1 hi K1
  have b0 := K2.out.row.cell (i := 0) rfl
  have HO0 : Hid (Own (w2.alloc (.cells #[] 38)) w2.heap.size (.slice (some ⟨w2.heap.size, 0, none⟩) 0 0) []) := Lib.hid (World.ownsRow_made w2 #[] 0 (Nat.le_refl _) (Nat.zero_le _) (by simp))
  have K3 := Lib.hid (K2.out.step (below1 w2 (.cells #[] 38)))
  have hB2 : w2.heap.size ≤ (w2.alloc (.cells #[] 38)).heap.size := by rw [World.size_alloc]; omega
  have hXB : w.heap.size < w2.heap.size := K2.out.row.lt
  have hWB : w.heap.size ≤ w2.heap.size := K2.out.below.size
  obtain ⟨B, HBB⟩ : ∃ B, Hid (B = w2.heap.size) := ⟨_, Lib.hid rfl⟩
  rw [← HBB.out] at HO0 hB2 hXB hWB
  have KC := K3.out.row
  have e0 := KC.cell (i := 0) rfl
  have e1 := KC.cell (i := 1) rfl
  have e2 := KC.cell (i := 2) rfl
  have e3 := KC.cell (i := 3) rfl
  clear KC
  go_wp2
  rw [← HBB.out]
  generalize w2.alloc (.cells #[] 38) = w3 at *
  clear e0 e1 e2 e3 b0
  go_loopw [7, 8, 49] (fun v pu i wr => ∃ k : Nat, k ≤ L ∧ i = .int .i64 k ∧ ∃ (out : List Ent) (b : Bool), pu = .bool b ∧ out.length ≤ 2 * k ∧ Hid (Own wr B v out) ∧ Hid (out ++ restF ⟨xl, xk, xp⟩ i0 b (l.drop k) k = putC ⟨xl, xk, xp⟩ l) ∧ Hid (OK1 w w.heap.size ⟨false, xl, xk, xp⟩ l a cap wr) ∧ Hid (B ≤ wr.heap.size)) (fun _ _ i _ => L - (intOf i).toNat)
  case atStart => exact ⟨0, Nat.zero_le _, rfl, [], false, rfl, by simp, HO0, Lib.hid (by rw [List.nil_append, List.drop_zero]; exact rest_false HAI.out), K3, Lib.hid hB2⟩
  case round =>
    obtain ⟨k, hk, rfl, out, b, rfl, hol, HO, HRS, HK, HBr⟩ := hrel
    by_cases hlt : k < L
    · obtain ⟨y, hy⟩ : ∃ y, l[k]? = some y := ⟨_, List.getElem?_eq_getElem (by have := HL.out; omega)⟩
      obtain ⟨g, off, rfl, -, y0, y1, y2⟩ := HK.out.sl.get hy
      have HY := Lib.hid hy
      have hb5 := below1 wr (.cells (enC y) 38)
      have K5 := Lib.hid (HK.out.step hb5)
      have HO5 := Lib.hid (ownsRow_below HO.out hb5)
      have R5 := row_new wr (enC y) 38
      have HR5 := Lib.hid R5
      have f0 := R5.cell (i := 0) rfl
      have f1 := R5.cell (i := 1) rfl
      have f2 := R5.cell (i := 2) rfl
      have c0 := K5.out.row.cell (i := 0) rfl
      have c1 := K5.out.row.cell (i := 1) rfl
      have c2 := K5.out.row.cell (i := 2) rfl
      have c3 := K5.out.row.cell (i := 3) rfl
      have hz5 : B ≤ (wr.alloc (.cells (enC y) 38)).heap.size := by rw [World.size_alloc]; have := HBr.out; omega
      have hzw : wr.heap.size < (wr.alloc (.cells (enC y) 38)).heap.size := by rw [World.size_alloc]; omega
      have hyb : ∀ g9, (wr.alloc (.cells (enC y) 38)).heap.size ≤ g9 → True := fun _ _ => trivial
      have hvb : ∀ v : Value, Own wr B v out → v.ownBlock ≠ some wr.heap.size := fun v ho e => by have := (ho.lt _ e).2; omega
      have HVB := Lib.hid (hvb _ HO.out)
      clear hy hb5 R5 hyb hvb
      by_cases hki : (k : Int) = i0
      · have HRN : Hid (out ++ restF ⟨xl, xk, xp⟩ i0 b (l.drop (k + 1)) (k + 1) = putC ⟨xl, xk, xp⟩ l) := Lib.hid (by rw [← rest_skip HY.out hki]; exact HRS.out)
        have hkb : ((k : Int) == i0) = true := by rw [beq_iff_eq]; exact hki
        have HKI := Lib.hid hki
        clear hki
        obtain ⟨yl, yk, yp⟩ := y
        simp only at y0 y1 y2 f0 f1 f2 K5 HO5 hz5
        go_wp2
        go_roundw
        case rel => exact ⟨k + 1, by omega, by go_num, out, b, rfl, by omega, HO5, HRN, K5, Lib.hid hz5⟩
        case measure => simp [intOf]; omega
      · have hkb : ((k : Int) == i0) = false := by rw [beq_eq_false_iff_ne]; exact hki
        cases b with
        | true =>
          have HRN : Hid ((out ++ [y]) ++ restF ⟨xl, xk, xp⟩ i0 true (l.drop (k + 1)) (k + 1) = putC ⟨xl, xk, xp⟩ l) := Lib.hid (by rw [List.append_assoc, List.singleton_append, ← rest_one HY.out hki (.inl rfl)]; exact HRS.out)
          obtain ⟨v7, w7, HR7, HO7, K7, hw7, -⟩ := app_one K5.out HO5.out hWB hXB hz5 (by omega) y
          clear hki HRS
          obtain ⟨yl, yk, yp⟩ := y
          simp only [World.size_alloc] at y0 y1 y2 f0 f1 f2 HR7 HO7 HRN
          go_wp2_with (at_builtin; refine stop_here ?_)
          refine Lib.hid ?_
          refine Lib.wpList_append_run _ rfl (.tmp 70) (.tmp 72) 22 22 rfl _ (.slice (some ⟨_, 0, none⟩) 1 1) ?hs ?hx _ _ HR7.out ?_
          case hs => rfl
          case hx => rfl
          go_wp2
          go_roundw
          case rel => exact ⟨k + 1, by omega, by go_num, _, true, rfl, by rw [List.length_append, List.length_singleton]; omega, HO7, HRN, K7, Lib.hid (by omega)⟩
          case measure => simp [intOf]; omega
        | false =>
          have HAC := Lib.hid (ahead_any ⟨xl, xk, xp⟩ y (wr.alloc (.cells (enC y) 38)))
          cases hah : ahB ⟨xl, xk, xp⟩ y with
          | true =>
            have HRN : Hid ((out ++ [⟨xl, xk, xp⟩] ++ [y]) ++ restF ⟨xl, xk, xp⟩ i0 true (l.drop (k + 1)) (k + 1) = putC ⟨xl, xk, xp⟩ l) := Lib.hid (by rw [List.append_assoc, List.append_assoc, List.singleton_append, List.singleton_append, ← rest_both HY.out hki hah]; exact HRS.out)
            rw [hah] at HAC
            clear hki HRS hah
            have HYB := Lib.hid (fun w6 (hb : Below (wr.alloc (.cells (enC y) 38)).heap.size (wr.alloc (.cells (enC y) 38)) w6) => app_one (K5.out.step hb) (ownsRow_below HO5.out hb) hWB hXB (Nat.le_trans hz5 hb.size) (by omega) (⟨xl, xk, xp⟩ : Ent))
            have HYC := Lib.hid (fun w7 (v7 : Value) (k7 : Hid (OK1 w w.heap.size ⟨false, xl, xk, xp⟩ l (some ⟨g, off, none⟩) cap w7)) (o7 : Hid (Own w7 B v7 (out ++ [⟨xl, xk, xp⟩]))) (h7 : B ≤ w7.heap.size) => app_one k7.out o7.out hWB hXB h7 (by rw [List.length_append, List.length_singleton]; omega) y)
            obtain ⟨yl, yk, yp⟩ := y
            simp only at y0 y1 y2 f0 f1 f2 HAC HYB HRN HYC HR5 HVB
            go_wp2_with fail
            refine HAC.out.mono ?_
            rintro e w6 ⟨rfl, hb6⟩
            obtain ⟨v7, w7, HR7, HO7, K7, hw7, HBL⟩ := HYB.out w6 hb6
            have K6 := Lib.hid (K5.out.step hb6)
            have c1 := K6.out.row.cell (i := 1) rfl
            have c2 := K6.out.row.cell (i := 2) rfl
            have c3 := K6.out.row.cell (i := 3) rfl
            have h67 : wr.heap.size < w6.heap.size := Nat.lt_of_lt_of_le hzw hb6.size
            have R7 : Row w7 wr.heap.size 38 [.string yl, .string yk, .string yp] := ((HR5.out.below hb6).alloc (.cells #[.string xl, .string xk, .string xp] 38)).keep (HBL.out wr.heap.size (by omega) HVB.out)
            have g0 := R7.cell (i := 0) rfl
            have g1 := R7.cell (i := 1) rfl
            have g2 := R7.cell (i := 2) rfl
            have h7z : B ≤ w7.heap.size := by have := hb6.size; omega
            obtain ⟨v8, w8, HR8, HO8, K8, hw8, -⟩ := HYC.out w7 v7 K7 HO7 h7z
            clear hb6 R7 HAC HYB HYC f0 f1 f2 c0
            go_wp2_with (at_builtin; refine stop_here ?_)
            refine Lib.hid ?_
            refine Lib.wpList_append_run _ rfl (.tmp 65) (.tmp 68) 22 22 rfl _ (.slice (some ⟨_, 0, none⟩) 1 1) ?hs ?hx _ _ HR7.out ?_
            case hs => rfl
            case hx => rfl
            go_wp2_with (at_builtin; refine stop_here ?_)
            refine Lib.hid ?_
            refine Lib.wpList_append_run _ rfl (.tmp 70) (.tmp 72) 22 22 rfl _ (.slice (some ⟨_, 0, none⟩) 1 1) ?hs ?hx _ _ HR8.out ?_
            case hs => rfl
            case hx => rfl
            go_wp2
            go_roundw
            case rel => exact ⟨k + 1, by omega, by go_num, _, true, rfl, by simp only [List.length_append, List.length_singleton]; omega, HO8, HRN, K8, Lib.hid (by omega)⟩
            case measure => simp [intOf]; omega
          | false =>
            have HRN : Hid ((out ++ [y]) ++ restF ⟨xl, xk, xp⟩ i0 false (l.drop (k + 1)) (k + 1) = putC ⟨xl, xk, xp⟩ l) := Lib.hid (by rw [List.append_assoc, List.singleton_append, ← rest_one HY.out hki (.inr hah)]; exact HRS.out)
            rw [hah] at HAC
            clear hki HRS hah
            have HYB := Lib.hid (fun w6 (hb : Below (wr.alloc (.cells (enC y) 38)).heap.size (wr.alloc (.cells (enC y) 38)) w6) => app_one (K5.out.step hb) (ownsRow_below HO5.out hb) hWB hXB (Nat.le_trans hz5 hb.size) (by omega) y)
            obtain ⟨yl, yk, yp⟩ := y
            simp only at y0 y1 y2 f0 f1 f2 HAC HYB HRN HR5
            go_wp2_with fail
            refine HAC.out.mono ?_
            rintro e w6 ⟨rfl, hb6⟩
            obtain ⟨v7, w7, HR7, HO7, K7, hw7, -⟩ := HYB.out w6 hb6
            have R6 := HR5.out.below hb6
            have g0 := R6.cell (i := 0) rfl
            have g1 := R6.cell (i := 1) rfl
            have g2 := R6.cell (i := 2) rfl
            have h7z : B ≤ w7.heap.size := by have := hb6.size; omega
            clear hb6 R6 HAC HYB f0 f1 f2 c0 c1 c2 c3
            go_wp2_with (at_builtin; refine stop_here ?_)
            refine Lib.hid ?_
            refine Lib.wpList_append_run _ rfl (.tmp 70) (.tmp 72) 22 22 rfl _ (.slice (some ⟨_, 0, none⟩) 1 1) ?hs ?hx _ _ HR7.out ?_
            case hs => rfl
            case hx => rfl
            go_wp2
            go_roundw
            case rel => exact ⟨k + 1, by omega, by go_num, _, false, rfl, by rw [List.length_append, List.length_singleton]; omega, HO7, HRN, K7, Lib.hid h7z⟩
            case measure => simp [intOf]; omega
    · have hend := rest_end (x := ⟨xl, xk, xp⟩) (at_ := i0) (put := b) (l := l) (k := k) (by have := HL.out; omega)
      cases b with
      | true =>
        have HOUT : Hid (out = putC ⟨xl, xk, xp⟩ l) := Lib.hid (by have := HRS.out; rw [hend] at this; simpa using this)
        obtain ⟨a9, c9, hv9, hc9, -⟩ := owns_form HO.out
        subst hv9
        have HSL := Lib.hid HO.out.sl
        obtain ⟨n9, HN9⟩ : ∃ n, Hid (n = out.length) := ⟨_, Lib.hid rfl⟩
        rw [← HN9.out] at HSL
        clear hend
        by_cases hn : 200 < n9
        · have hn2 : (200 : Int) < n9 := by omega
          have HA := Lib.hid (HAL.out (by rw [← HOUT.out, ← HN9.out]; exact hn))
          clear hn
          rw [← HN9.out]
          go_wp2
          go_ret2
          exact ApplyP.no HA.out HK.out.below
        · have hn2 : ¬ (200 : Int) < n9 := by omega
          have HA := Lib.hid (HAO.out (by rw [← HOUT.out, ← HN9.out]; exact hn))
          clear hn
          rw [← HN9.out]
          go_wp2
          go_ret2
          rw [HN9.out]
          exact ApplyP.yes (by rw [HA.out, HOUT.out]) (by rw [← HN9.out]; exact HSL.out) HK.out.below
      | false =>
        have HOUT : Hid (out ++ [⟨xl, xk, xp⟩] = putC ⟨xl, xk, xp⟩ l) := Lib.hid (by have := HRS.out; rw [hend] at this; simpa using this)
        obtain ⟨v7, w7, HR7, HO7, K7, hw7, -⟩ := app_one HK.out HO.out hWB hXB HBr.out (by omega) (⟨xl, xk, xp⟩ : Ent)
        obtain ⟨a9, c9, hv9, hc9, -⟩ := owns_form HO7.out
        subst hv9
        have HSL := Lib.hid HO7.out.sl
        obtain ⟨n9, HN9⟩ : ∃ n, Hid (n = (out ++ [⟨xl, xk, xp⟩] : List Ent).length) := ⟨_, Lib.hid rfl⟩
        rw [← HN9.out] at HSL HR7
        have c1 := HK.out.row.cell (i := 1) rfl
        have c2 := HK.out.row.cell (i := 2) rfl
        have c3 := HK.out.row.cell (i := 3) rfl
        clear hend
        by_cases hn : 200 < n9
        · have hn2 : (200 : Int) < n9 := by omega
          have HA := Lib.hid (HAL.out (by rw [← HOUT.out, ← HN9.out]; exact hn))
          clear hn
          go_wp2_with (at_builtin; refine stop_here ?_)
          refine Lib.hid ?_
          refine Lib.wpList_append_run _ rfl (.tmp 77) (.tmp 80) 22 22 rfl _ (.slice (some ⟨_, 0, none⟩) 1 1) ?hs ?hx _ _ HR7.out ?_
          case hs => rfl
          case hx => rfl
          go_wp2
          go_ret2
          exact ApplyP.no HA.out K7.out.below
        · have hn2 : ¬ (200 : Int) < n9 := by omega
          have HA := Lib.hid (HAO.out (by rw [← HOUT.out, ← HN9.out]; exact hn))
          clear hn
          go_wp2_with (at_builtin; refine stop_here ?_)
          refine Lib.hid ?_
          refine Lib.wpList_append_run _ rfl (.tmp 77) (.tmp 80) 22 22 rfl _ (.slice (some ⟨_, 0, none⟩) 1 1) ?hs ?hx _ _ HR7.out ?_
          case hs => rfl
          case hx => rfl
          go_wp2
          go_ret2
          rw [HN9.out]
          exact ApplyP.yes (by rw [HA.out, HOUT.out]) (by rw [← HN9.out]; exact HSL.out) K7.out.below

theorem rone_any (w : World) (a : Option Addr) (cap : Nat) (l : List Ent) (c : Chg) (hX : SlE w (Old w) (.slice a l.length cap) l) (hr : Rgt l) (hF : FitE c.e) (hE : EnvC w) :
    Calls Tryz.prog 29 #[.slice a l.length cap, chV c] w (ApplyP (oneC l c) w) := by
  cases hd : c.drop with
  | true =>
    by_cases hp : c.e.pat = ⟨#[]⟩
    · exact one_d w a cap l c hX hr hF hE hd hp
    · exact one_a w a cap l c hX hr hF hE hd hp
  | false =>
    cases hm : mayB c.e with
    | true => exact one_p w a cap l c hX hr hF hE hd hm
    | false => exact one_b w a cap l c hX hr hF hE hd hm
end Go.Proofs.YtdnedbcmgkilaaaGreatDoor.Ca

end
