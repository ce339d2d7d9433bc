/- The document's one. -/
import Derived.Test.YtdnedbcmgkilaaaGreatDoorZO

namespace Go.Proofs.YtdnedbcmgkilaaaGreatDoor.Ca
open Go.RowKit Go.Proofs.YtdnedbcmgkilaaaGreatDoor

/-- What the document's walk has still to append. -/
def restF (x : Ent) (at_ : Int) : Bool → List Ent → Nat → List Ent
  | put, [], _ => if put then [] else [x]
  | put, y :: r, i => if (i : Int) = at_ then restF x at_ put r (i + 1) else if !put && ahB x y then x :: y :: restF x at_ true r (i + 1) else y :: restF x at_ put r (i + 1)
/-- The place is that of the one entry of the same locale and key. -/
def AtIs (x : Ent) (at_ : Int) (l : List Ent) (i : Nat) : Prop := ∀ (j : Nat) y, l[j]? = some y → (((i + j : Nat) : Int) = at_ ↔ sameB x.loc x.key y = true)
theorem AtIs.tail {x y : Ent} {at_ : Int} {r : List Ent} {i : Nat} (h : AtIs x at_ (y :: r) i) : AtIs x at_ r (i + 1) := fun j z hz => by
  have := h (j + 1) z (by simpa using hz)
  rwa [show i + (j + 1) = i + 1 + j by omega] at this
theorem rest_true {x : Ent} {at_ : Int} : ∀ {l : List Ent} {i : Nat}, AtIs x at_ l i → restF x at_ true l i = dropC x.loc x.key l
  | [], _, _ => rfl
  | y :: r, i, h => by
    have h0 := h 0 y rfl
    rw [Nat.add_zero] at h0
    rw [restF]
    by_cases hi : (i : Int) = at_
    · rw [if_pos hi, rest_true h.tail]
      unfold dropC
      rw [List.filter_cons_of_neg (by simp [h0.1 hi])]
    · rw [if_neg hi]
      simp only [Bool.not_true, Bool.false_and, Bool.false_eq_true, if_false]
      rw [rest_true h.tail]
      have hs : sameB x.loc x.key y = false := by
        cases hh : sameB x.loc x.key y with
        | false => rfl
        | true => exact absurd (h0.2 hh) hi
      unfold dropC
      rw [List.filter_cons_of_pos (by simp [hs])]
theorem rest_false {x : Ent} {at_ : Int} : ∀ {l : List Ent} {i : Nat}, AtIs x at_ l i → restF x at_ false l i = putC x l
  | [], _, _ => rfl
  | y :: r, i, h => by
    have h0 := h 0 y rfl
    rw [Nat.add_zero] at h0
    have ih := rest_false h.tail
    rw [restF]
    by_cases hi : (i : Int) = at_
    · rw [if_pos hi, ih]
      unfold putC dropC
      rw [List.filter_cons_of_neg (by simp [h0.1 hi])]
    · rw [if_neg hi]
      have hs : sameB x.loc x.key y = false := by
        cases hh : sameB x.loc x.key y with
        | false => rfl
        | true => exact absurd (h0.2 hh) hi
      have hd : dropC x.loc x.key (y :: r) = y :: dropC x.loc x.key r := by
        unfold dropC
        rw [List.filter_cons_of_pos (by simp [hs])]
      unfold putC at ih ⊢
      rw [hd, insC]
      cases ha : ahB x y with
      | true =>
        simp only [Bool.not_false, Bool.true_and, if_true]
        rw [rest_true h.tail]
      | false =>
        simp only [Bool.and_false, Bool.false_eq_true, if_false]
        rw [ih]
theorem atIs {x : Ent} {l : List Ent} {i : Int} (hs : Srt l) (h : (∃ (k : Nat) (y : Ent), i = k ∧ l[k]? = some y ∧ findC l x.loc x.key = some y) ∨ (i = -1 ∧ findC l x.loc x.key = none)) : AtIs x i l 0 := fun j y hy => by
  rw [Nat.zero_add]
  rcases h with ⟨k, z, rfl, hz, hf⟩ | ⟨rfl, hf⟩
  · have hzs := (find_is hf).2
    constructor
    · intro hjk
      obtain rfl : j = k := by omega
      rw [hz] at hy
      obtain rfl := Option.some.inj hy
      exact sameB_iff.2 hzs
    · intro hsame
      have hys := sameB_iff.1 hsame
      have hjl := (List.getElem?_eq_some_iff.1 hy).1
      have hkl := (List.getElem?_eq_some_iff.1 hz).1
      rcases Nat.lt_trichotomy j k with h1 | h1 | h1
      · have := List.pairwise_iff_getElem.1 hs j k hjl hkl h1
        rw [(List.getElem?_eq_some_iff.1 hy).2, (List.getElem?_eq_some_iff.1 hz).2, ahB_same (hys.1.trans hzs.1.symm) (hys.2.trans hzs.2.symm)] at this
        cases this
      · rw [h1]
      · have := List.pairwise_iff_getElem.1 hs k j hkl hjl h1
        rw [(List.getElem?_eq_some_iff.1 hy).2, (List.getElem?_eq_some_iff.1 hz).2, ahB_same (hzs.1.trans hys.1.symm) (hzs.2.trans hys.2.symm)] at this
        cases this
  · constructor
    · intro h; omega
    · intro hsame
      exact absurd (sameB_iff.1 hsame) (find_none.1 hf y (List.mem_of_getElem? hy))
theorem rest_skip {x : Ent} {at_ : Int} {put : Bool} {l : List Ent} {k : Nat} {y : Ent} (hy : l[k]? = some y) (hi : (k : Int) = at_) : restF x at_ put (l.drop k) k = restF x at_ put (l.drop (k + 1)) (k + 1) := by
  obtain ⟨h1, h2⟩ := List.getElem?_eq_some_iff.1 hy
  rw [List.drop_eq_getElem_cons h1, h2, restF, if_pos hi]
theorem rest_both {x : Ent} {at_ : Int} {l : List Ent} {k : Nat} {y : Ent} (hy : l[k]? = some y) (hi : ¬ (k : Int) = at_) (ha : ahB x y = true) : restF x at_ false (l.drop k) k = x :: y :: restF x at_ true (l.drop (k + 1)) (k + 1) := by
  obtain ⟨h1, h2⟩ := List.getElem?_eq_some_iff.1 hy
  rw [List.drop_eq_getElem_cons h1, h2, restF, if_neg hi, ha]; simp
theorem rest_one {x : Ent} {at_ : Int} {put : Bool} {l : List Ent} {k : Nat} {y : Ent} (hy : l[k]? = some y) (hi : ¬ (k : Int) = at_) (ha : put = true ∨ ahB x y = false) : restF x at_ put (l.drop k) k = y :: restF x at_ put (l.drop (k + 1)) (k + 1) := by
  obtain ⟨h1, h2⟩ := List.getElem?_eq_some_iff.1 hy
  rw [List.drop_eq_getElem_cons h1, h2, restF, if_neg hi]
  rcases ha with ha | ha <;> simp [ha]
theorem rest_end {x : Ent} {at_ : Int} {put : Bool} {l : List Ent} {k : Nat} (h : l.length ≤ k) : restF x at_ put (l.drop k) k = if put then [] else [x] := by
  rw [List.drop_of_length_le h, restF]

/-- What stands while the document carries a change out. -/
structure OK1 (w : World) (X : Nat) (c : Chg) (l : List Ent) (a : Option Addr) (cap : Nat) (W : World) : Prop where
  row : Row W X 44 [.bool c.drop, .string c.e.loc, .string c.e.key, .string c.e.pat]
  sl : SlE W (fun b => b < w.heap.size) (.slice a l.length cap) l
  below : Below w.heap.size w W
  hX : w.heap.size ≤ X
theorem OK1.step {w W W' : World} {X : Nat} {c : Chg} {l : List Ent} {a : Option Addr} {cap : Nat} (h : OK1 w X c l a cap W) (hb : Below W.heap.size W W') : OK1 w X c l a cap W' :=
  ⟨h.row.below hb, Sl.keep h.sl (fun b hb2 => hb.block b (Nat.lt_of_lt_of_le hb2 h.below.size)) (fun _ h => h) (fun _ _ h => h), below_trans h.below hb, h.hX⟩
theorem OK1.fr {w W W' : World} {X : Nat} {c : Chg} {l : List Ent} {a : Option Addr} {cap : Nat} {r : Option Nat} (h : OK1 w X c l a cap W) (hg : W.grownBy W' r) (hr : ∀ g, r = some g → w.heap.size ≤ g ∧ g ≠ X) : OK1 w X c l a cap W' :=
  ⟨h.row.keep (hg.block X h.row.lt (fun e => (hr X e.symm).2 rfl)), Sl.keep h.sl (fun b hb2 => hg.block b (Nat.lt_of_lt_of_le hb2 h.below.size) (fun e => by have := (hr b e.symm).1; have hb3 : b < w.heap.size := hb2; omega)) (fun _ h => h) (fun _ _ h => h),
    ⟨hg.os.trans h.below.os, hg.tape.trans h.below.tape, hg.output.trans h.below.output, Nat.le_trans h.below.size hg.size, fun k hk => (hg.block k (Nat.lt_of_lt_of_le hk h.below.size) (fun e => by have := (hr k e.symm).1; omega)).trans (h.below.block k hk)⟩, h.hX⟩
theorem OK1.old {w W : World} {X : Nat} {c : Chg} {l : List Ent} {a : Option Addr} {cap : Nat} (h : OK1 w X c l a cap W) : SlE W (Old W) (.slice a l.length cap) l := Sl.keep h.sl (fun _ _ => rfl) (fun _ hb => Nat.lt_of_lt_of_le hb h.below.size) (fun _ _ h => h)
/-- One entry appended to what is under way. -/
theorem app_one {w W : World} {B : Nat} {X : Nat} {c : Chg} {l : List Ent} {a : Option Addr} {cap : Nat} {v : Value} {out : List Ent} (hk : OK1 w X c l a cap W) (ho : Own W B v out) (hB : w.heap.size ≤ B) (hXB : X < B) (hBW : B ≤ W.heap.size) (hl : out.length ≤ 1000) (y : Ent) :
    ∃ v' w', Hid ((Builtin.append_ #[22, 22] 22 #[v, .slice (some ⟨W.heap.size, 0, none⟩) 1 1]).run Tryz.prog (W.alloc (.cells (enC y) 38)) = .ok v' w') ∧ Hid (Own w' B v' (out ++ [y])) ∧ Hid (OK1 w X c l a cap w') ∧ W.heap.size + 1 ≤ w'.heap.size ∧ Hid (∀ b, b < W.heap.size + 1 → v.ownBlock ≠ some b → w'.heap[b]? = (W.alloc (.cells (enC y) 38)).heap[b]?) := by
  have hb := below1 W (.cells (enC y) 38)
  obtain ⟨v', w', hr, h2, h3, -⟩ := run_append_ent (W.alloc (.cells (enC y) 38)) 22 B v out (ownsRow_below ho hb) (some ⟨W.heap.size, 0, none⟩) 1 [y] (one_sl (row_new W (enC y) 38)) (by simp; omega) (by rw [World.size_alloc]; omega)
  refine ⟨v', w', Lib.hid hr, Lib.hid h2, Lib.hid ((hk.step hb).fr h3 (fun g hg => ?_)), by have := h3.size; rw [World.size_alloc] at this; exact this, Lib.hid (fun b hb2 hne => h3.block b (by rw [World.size_alloc]; exact hb2) (fun e => hne e.symm))⟩
  have := (ho.lt g hg).1
  exact ⟨by omega, by omega⟩

theorem stop_here {p : Prop} (h : Hid p) : p := h.out

set_option maxHeartbeats 12800000 in
set_option maxRecDepth 100000 in
theorem one_a (w : World) (a : Option Addr) (cap : Nat) (l : List Ent) (c : Chg) (hX : SlE w (Old w) (.slice a l.length cap) l) (hr : Rgt l) (_hF : FitE c.e) (_hE : EnvC w) (hd : c.drop = true) (hp : c.e.pat ≠ ⟨#[]⟩) :
    Calls Tryz.prog 29 #[.slice a l.length cap, chV c] w (ApplyP (oneC l c) w) := by
  have hb0 := below1 w (.cells (chC c) 44)
  have K0 : Hid (OK1 w w.heap.size c l a cap (w.alloc (.cells (chC c) 44))) := Lib.hid ⟨row_new w (chC c) 44, Sl.keep hX (fun b hb2 => hb0.block b hb2) (fun _ h => h) (fun _ _ h => h), hb0, Nat.le_refl _⟩
  have r0 := row_new w (chC c) 44
  have d0 := r0.cell (i := 0) rfl
  have d1 := r0.cell (i := 1) rfl
  have d2 := r0.cell (i := 2) rfl
  have d3 := r0.cell (i := 3) rfl
  have HB0 := Lib.hid hb0
  have HRG := Lib.hid hr
  have hlen := hr.len
  have HA : Hid (oneC l c = .error 110) := Lib.hid (by rw [one_drop hd]; unfold dropA; rw [if_pos hp])
  have hpe := not_emp hp
  clear hX hr _hF _hE hb0 r0 hp
  generalize l.length = L at *
  obtain ⟨cd, xl, xk, xp⟩ := c
  simp only at d0 d1 d2 d3 HB0 hpe HA hd
  subst hd
  go_enter Tryz.func29, Tryz.ntmps29
  go_wp2
  go_ret2
  exact ApplyP.no HA.out HB0.out

set_option maxHeartbeats 12800000 in
set_option maxRecDepth 100000 in
theorem one_b (w : World) (a : Option Addr) (cap : Nat) (l : List Ent) (c : Chg) (hX : SlE w (Old w) (.slice a l.length cap) l) (hr : Rgt l) (hF : FitE c.e) (hE : EnvC w) (hd : c.drop = false) (hm : mayB c.e = false) :
    Calls Tryz.prog 29 #[.slice a l.length cap, chV c] w (ApplyP (oneC l c) w) := by
  have hb0 := below1 w (.cells (chC c) 44)
  have K0 : Hid (OK1 w w.heap.size c l a cap (w.alloc (.cells (chC c) 44))) := Lib.hid ⟨row_new w (chC c) 44, Sl.keep hX (fun b hb2 => hb0.block b hb2) (fun _ h => h) (fun _ _ h => h), hb0, Nat.le_refl _⟩
  have r0 := row_new w (chC c) 44
  have d0 := r0.cell (i := 0) rfl
  have d1 := r0.cell (i := 1) rfl
  have d2 := r0.cell (i := 2) rfl
  have d3 := r0.cell (i := 3) rfl
  have HB0 := Lib.hid hb0
  have HRG := Lib.hid hr
  have hlen := hr.len
  have HA := Lib.hid (one_bad (l := l) hd hm)
  have HM := Lib.hid (may_any c.e (w.alloc (.cells (chC c) 44)) (hE.below hb0) hF)
  rw [hm] at HM
  clear hX hr hF hE hb0 r0 hm
  generalize l.length = L at *
  obtain ⟨cd, xl, xk, xp⟩ := c
  simp only at d0 d1 d2 d3 HB0 HA hd HM
  subst hd
  go_enter Tryz.func29, Tryz.ntmps29
  go_wp2_with fail
  refine HM.out.mono ?_
  rintro e w1 ⟨rfl, hb1⟩
  have HB1 := Lib.hid (below_trans HB0.out hb1)
  clear hb1
  go_wp2
  go_ret2
  exact ApplyP.no HA.out HB1.out

end Go.Proofs.YtdnedbcmgkilaaaGreatDoor.Ca
