/- Check of package merkle. -/
import Derived.Test.YtnmhmemlgibedaaDoorTop
namespace Go.Proofs.YtnmhmemlgibedaaDoor
open Go.RowKit

theorem neq_lists {x y : BA} (h : x ≠ y) : (x.toList == y.toList) = false := by
  rw [beq_eq_false_iff_ne, ByteArray.toList_eq, ByteArray.toList_eq]
  exact fun e => h (BA.ext e)
theorem upF_end (k : Nat) (d e : BA) (ps : List BA) : upF Dg 1 k d ps = some e ↔ ps = [] ∧ d = e := by
  unfold upF
  rw [dif_pos (by omega)]
  cases ps with
  | nil => simp
  | cons => simp
theorem upF_nil {n k : Nat} {d : BA} (h : 1 < n) (hs : sib k < n) : upF Dg n k d [] = none := by
  unfold upF
  rw [dif_neg (by omega), if_pos hs]
theorem upF_cons {n k : Nat} {d q : BA} {ps : List BA} (h : 1 < n) (hs : sib k < n) : upF Dg n k d (q :: ps) = upF Dg ((n + 1) / 2) (k / 2) (Dg (stepT k d q)) ps := by
  conv => lhs; unfold upF
  rw [dif_neg (by omega), if_pos hs]
theorem upF_skip {n k : Nat} {d : BA} {ps : List BA} (h : 1 < n) (hs : ¬ sib k < n) : upF Dg n k d ps = upF Dg ((n + 1) / 2) (k / 2) d ps := by
  conv => lhs; unfold upF
  rw [dif_neg (by omega), if_neg hs]
theorem stepT_odd {k : Nat} {d q : BA} (h : k % 2 = 1) : stepT k d q = pairT q d := by unfold stepT; rw [if_pos h]
theorem stepT_even {k : Nat} {d q : BA} (h : ¬ k % 2 = 1) : stepT k d q = pairT d q := by unfold stepT; rw [if_neg h]

/-- The same tops are shown. -/
def Eqv (n0 i0 : Nat) (d0 : BA) (p0 : List BA) (n k : Nat) (d : BA) (p : List BA) : Prop := ∀ e, (AllS p0 ∧ upF Dg n0 i0 d0 p0 = some e) ↔ (AllS p ∧ upF Dg n k d p = some e)
theorem Eqv.cons {n0 i0 n k : Nat} {d0 d q : BA} {p0 p : List BA} (h : Eqv n0 i0 d0 p0 n k d (q :: p)) (h1 : 1 < n) (h2 : sib k < n) (hq : q.size = 32) : Eqv n0 i0 d0 p0 ((n + 1) / 2) (k / 2) (Dg (stepT k d q)) p := fun e => by
  rw [h e, upF_cons h1 h2]
  refine and_congr_left fun _ => ⟨fun h x hx => h x (by simp [hx]), fun h x hx => ?_⟩
  rcases List.mem_cons.1 hx with rfl | hx
  · exact hq
  · exact h x hx
theorem Eqv.skip {n0 i0 n k : Nat} {d0 d : BA} {p0 p : List BA} (h : Eqv n0 i0 d0 p0 n k d p) (h1 : 1 < n) (h2 : ¬ sib k < n) : Eqv n0 i0 d0 p0 ((n + 1) / 2) (k / 2) d p := fun e => by rw [h e, upF_skip h1 h2]
theorem Eqv.no_nil {n0 i0 n k : Nat} {d0 d : BA} {p0 : List BA} (h : Eqv n0 i0 d0 p0 n k d []) (h1 : 1 < n) (h2 : sib k < n) : ¬ ∃ e, AllS p0 ∧ upF Dg n0 i0 d0 p0 = some e := by
  rintro ⟨e, he⟩
  have := ((h e).1 he).2
  rw [upF_nil h1 h2] at this
  cases this
theorem Eqv.no_size {n0 i0 n k : Nat} {d0 d q : BA} {p0 p : List BA} (h : Eqv n0 i0 d0 p0 n k d (q :: p)) (hq : q.size ≠ 32) : ¬ ∃ e, AllS p0 ∧ upF Dg n0 i0 d0 p0 = some e := by
  rintro ⟨e, he⟩
  exact hq (((h e).1 he).1 q (by simp))
theorem Eqv.no_more {n0 i0 k : Nat} {d0 d q : BA} {p0 p : List BA} (h : Eqv n0 i0 d0 p0 1 k d (q :: p)) : ¬ ∃ e, AllS p0 ∧ upF Dg n0 i0 d0 p0 = some e := by
  rintro ⟨e, he⟩
  have := ((h e).1 he).2
  rw [upF_end] at this
  cases this.1
theorem Eqv.done {n0 i0 k : Nat} {d0 d : BA} {p0 : List BA} (h : Eqv n0 i0 d0 p0 1 k d []) (e : BA) : (AllS p0 ∧ upF Dg n0 i0 d0 p0 = some e) ↔ d = e := by
  rw [h e, upF_end]
  exact ⟨fun h => h.2.2, fun h => ⟨fun x hx => (by cases hx), rfl, h⟩⟩

/-- What is checked. -/
def Checked (root : BA) (n i : Int) (leaf : BA) (ps : List BA) : Prop := ∃ e, Shown Dg n i leaf ps e ∧ Dg (crownT n.toNat e) = root
theorem checked_iff {root : BA} {n i : Int} {leaf : BA} {ps : List BA} (h1 : 1 ≤ n) (h2 : n ≤ 4096) (h3 : 0 ≤ i) (h4 : i < n) (h5 : leaf.size = 32) : Checked root n i leaf ps ↔ ∃ e, (AllS ps ∧ upF Dg n.toNat i.toNat leaf ps = some e) ∧ Dg (crownT n.toNat e) = root := by
  constructor
  · rintro ⟨e, ⟨hr, hu⟩, hd⟩
    exact ⟨e, ⟨hr.all, hu⟩, hd⟩
  · rintro ⟨e, ⟨ha, hu⟩, hd⟩
    exact ⟨e, ⟨⟨h1, h2, h3, h4, h5, ha⟩, hu⟩, hd⟩

/-- How far a check has come, in memory. -/
structure CI (w : World) (ap : Option Addr) (p : List BA) (W : World) : Prop where
  ins : InS W ap p
  below : Below w.heap.size w W
  tab : Tab W
theorem CI.call {w W W' : World} {ap : Option Addr} {p : List BA} (h : CI w ap p W) (hb : Below W.heap.size W W') : CI w ap p W' := ⟨h.ins.below hb, below_trans h.below hb, h.tab.below hb⟩
theorem CI.tail {w W : World} {b off : Nat} {q : BA} {p : List BA} (h : CI w (some ⟨b, off, none⟩) (q :: p) W) : CI w (some ⟨b, off + 1, none⟩) p W := ⟨h.ins.drop 1, h.below, h.tab⟩
theorem CI.nil {w W : World} {ap ap' : Option Addr} {p : List BA} (h : CI w ap p W) : CI w ap' [] W := ⟨InS.nil _ _, h.below, h.tab⟩
/-- The answer. -/
def CkA (root : BA) (n i : Int) (leaf : BA) (ps : List BA) (w : World) (e : Ending) (w' : World) : Prop := ∃ b : Bool, e = .returned (.bool b) ∧ (b = true ↔ Checked root n i leaf ps) ∧ Below w.heap.size w w'

set_option maxHeartbeats 6400000 in
set_option maxRecDepth 100000 in
theorem check_right (w : World) (root : BA) (N I : Nat) (leaf : BA) (a : Option Addr) (cap : Nat) (ps : List BA) (ht : Tab w) (hn1 : 1 ≤ N) (hn2 : N ≤ 4096) (hi : I < N) (hlf : leaf.size = 32) (hpl : ps.length ≤ 9223372036854775807) (hpc : ps.length ≤ cap) (hcm : cap ≤ 9223372036854775807) (hx : ∀ x, x ∈ ps → x.size ≤ 9223372036854775807) (hIn : InS w a ps) :
    Calls Tryd.prog 19 #[.string root, .int .i64 N, .int .i64 I, .string leaf, .slice a ps.length cap] w (CkA root N I leaf ps w) := by
  have HCK := Lib.hid (checked_iff (root := root) (n := N) (i := I) (leaf := leaf) (ps := ps) (by omega) (by omega) (by omega) (by omega) hlf)
  have H0 : Hid (CI w a ps w) := Lib.hid ⟨hIn, Below.refl _ _, ht⟩
  have HX := Lib.hid hx
  have hlf2 : ((leaf.size : Int) != 32) = false := by rw [bne_eq_false_iff_eq]; omega
  have hlf3 : leaf.size ≤ 32 := by omega
  have HLF := Lib.hid hlf
  have hi2 : ¬ (N : Int) ≤ (I : Int) := by omega
  have hI : I ≤ 4096 := by omega
  clear ht hIn hx hlf
  go_enter Tryd.func19, Tryd.ntmps19
  go_wp2
  go_loopw [2, 4, 11, 12] (fun ii pr sm wd wr => ∃ (n k : Nat) (d : BA) (p : List BA) (ap : Option Addr) (cp : Nat), ii = .int .i64 k ∧ pr = .slice ap p.length cp ∧ sm = .string d ∧ wd = .int .i64 n ∧ 1 ≤ n ∧ n ≤ 4096 ∧ k < n ∧ k ≤ 4096 ∧ d.size ≤ 32 ∧ p.length ≤ 9223372036854775807 ∧ p.length ≤ cp ∧ cp ≤ 9223372036854775807 ∧ Hid (d.size = 32) ∧ Hid (∀ x, x ∈ p → x.size ≤ 9223372036854775807) ∧ Hid (Eqv N I leaf ps n k d p) ∧ Hid (CI w ap p wr)) (fun _ _ _ wd _ => (intOf wd).toNat)
  case atStart => exact ⟨N, I, leaf, ps, a, cap, rfl, rfl, rfl, rfl, hn1, hn2, hi, hI, hlf3, hpl, hpc, hcm, HLF, HX, Lib.hid (fun _ => Iff.rfl), H0⟩
  case round =>
    clear H0 HX hlf2
    obtain ⟨n, k, d, p, ap, cp, rfl, rfl, rfl, rfl, h1, h2, hk, hk2, hds, hpl, hpc, hcm, HDS, HX, HE, HC⟩ := hrel
    by_cases hgo : 1 < n
    · have HO := Lib.hid (fun W => other_any k W (by omega))
      have hsl := sib_le k
      have hgi : (1 : Int) < (n : Int) := by omega
      by_cases hs : sib k < n
      · have hsi : ((sib k : Nat) : Int) < (n : Int) := by omega
        match p, hpl, hpc, HX, HE, HC with
        | [], hpl, hpc, HX, HE, HC =>
          have HNO := Lib.hid (HE.out.no_nil hgo hs)
          clear hs HE
          generalize sib k = s at *
          go_wp2_with fail
          refine (HO.out _).mono ?_
          rintro e w1 ⟨rfl, rfl⟩
          go_wp2
          go_ret
          exact ⟨false, rfl, ⟨fun h => (by cases h), fun h => absurd (HCK.out.1 h) (fun ⟨e, he, _⟩ => HNO.out ⟨e, he⟩)⟩, HC.out.below⟩
        | q :: p, hpl, hpc, HX, HE, HC =>
          obtain ⟨b, off, rfl, hb, hcl⟩ := HC.out.ins (by simp)
          have hcell : wr.cell? ⟨b, off, none⟩ = some (.string q) := hcl 0 (by simp)
          have hqs := HX.out q (by simp)
          have HX2 : Hid (∀ x, x ∈ p → x.size ≤ 9223372036854775807) := Lib.hid (fun x hx => HX.out x (by simp [hx]))
          simp only [List.length_cons] at hpl hpc ⊢
          clear hcl hb HX
          by_cases hq : q.size = 32
          · have HE2 := Lib.hid (HE.out.cons hgo hs hq)
            have hqb : ((q.size : Int) != 32) = false := by rw [bne_eq_false_iff_eq]; omega
            have hqs2 : q.size ≤ 32 := by omega
            clear hq HE
            by_cases ho : k % 2 = 1
            · have hol : ((sib k : Nat) : Int) < (k : Int) := by rw [show sib k = k - 1 by unfold sib; rw [if_pos ho]]; omega
              rw [stepT_odd ho] at HE2
              have HPA : Hid (Calls Tryd.prog 33 #[.string q, .string d] wr fun e w' => e = .returned (.string (Dg (pairT q d))) ∧ Below wr.heap.size wr w') := Lib.hid (paired_any q d wr HC.out.tab (by omega) (by omega))
              have HDS2 := Lib.hid (Dg_size (pairT q d))
              generalize Dg (pairT q d) = d2 at *
              clear ho hs
              generalize sib k = s at *
              by_cases hc1 : cp = 1
              · subst hc1
                have hp0 : p.length = 0 := by omega
                obtain rfl : p = [] := List.length_eq_zero_iff.1 hp0
                go_wp2_with fail
                refine (HO.out _).mono ?_
                rintro e w1 ⟨rfl, rfl⟩
                go_wp2_with fail
                refine HPA.out.mono ?_
                rintro e w1 ⟨rfl, hb1⟩
                have HC2 : Hid (CI w (some ⟨b, off, none⟩) [] w1) := Lib.hid (HC.out.call hb1).nil
                clear hb1 hcell
                go_wp2
                refine ⟨⟨(n + 1) / 2, k / 2, d2, [], _, _, by go_num, rfl, rfl, by go_num, by omega, by omega, by omega, by omega, by have := HDS2.out; omega, by simp, by simp, by omega, HDS2, HX2, HE2, HC2⟩, ?_⟩
                simp [intOf]; omega
              · obtain ⟨L, hL⟩ : ∃ L, p.length = L := ⟨_, rfl⟩
                have HL := Lib.hid hL
                rw [hL] at hpl hpc ⊢
                clear hL
                go_wp2_with fail
                refine (HO.out _).mono ?_
                rintro e w1 ⟨rfl, rfl⟩
                go_wp2_with fail
                refine HPA.out.mono ?_
                rintro e w1 ⟨rfl, hb1⟩
                have HC2 : Hid (CI w (some ⟨b, off + 1, none⟩) p w1) := Lib.hid (HC.out.call hb1).tail
                clear hb1 hcell
                go_wp2
                refine ⟨⟨(n + 1) / 2, k / 2, d2, p, some ⟨b, off + 1, none⟩, cp - 1, by go_num, by rw [HL.out], rfl, by go_num, by omega, by omega, by omega, by omega, by have := HDS2.out; omega, by rw [HL.out]; omega, by rw [HL.out]; omega, by omega, HDS2, HX2, HE2, HC2⟩, ?_⟩
                simp [intOf]; omega
            · have hol : ¬ ((sib k : Nat) : Int) < (k : Int) := by rw [show sib k = k + 1 by unfold sib; rw [if_neg ho]]; omega
              rw [stepT_even ho] at HE2
              have HPA : Hid (Calls Tryd.prog 33 #[.string d, .string q] wr fun e w' => e = .returned (.string (Dg (pairT d q))) ∧ Below wr.heap.size wr w') := Lib.hid (paired_any d q wr HC.out.tab (by omega) (by omega))
              have HDS2 := Lib.hid (Dg_size (pairT d q))
              generalize Dg (pairT d q) = d2 at *
              clear ho hs
              generalize sib k = s at *
              by_cases hc1 : cp = 1
              · subst hc1
                have hp0 : p.length = 0 := by omega
                obtain rfl : p = [] := List.length_eq_zero_iff.1 hp0
                go_wp2_with fail
                refine (HO.out _).mono ?_
                rintro e w1 ⟨rfl, rfl⟩
                go_wp2_with fail
                refine HPA.out.mono ?_
                rintro e w1 ⟨rfl, hb1⟩
                have HC2 : Hid (CI w (some ⟨b, off, none⟩) [] w1) := Lib.hid (HC.out.call hb1).nil
                clear hb1 hcell
                go_wp2
                refine ⟨⟨(n + 1) / 2, k / 2, d2, [], _, _, by go_num, rfl, rfl, by go_num, by omega, by omega, by omega, by omega, by have := HDS2.out; omega, by simp, by simp, by omega, HDS2, HX2, HE2, HC2⟩, ?_⟩
                simp [intOf]; omega
              · obtain ⟨L, hL⟩ : ∃ L, p.length = L := ⟨_, rfl⟩
                have HL := Lib.hid hL
                rw [hL] at hpl hpc ⊢
                clear hL
                go_wp2_with fail
                refine (HO.out _).mono ?_
                rintro e w1 ⟨rfl, rfl⟩
                go_wp2_with fail
                refine HPA.out.mono ?_
                rintro e w1 ⟨rfl, hb1⟩
                have HC2 : Hid (CI w (some ⟨b, off + 1, none⟩) p w1) := Lib.hid (HC.out.call hb1).tail
                clear hb1 hcell
                go_wp2
                refine ⟨⟨(n + 1) / 2, k / 2, d2, p, some ⟨b, off + 1, none⟩, cp - 1, by go_num, by rw [HL.out], rfl, by go_num, by omega, by omega, by omega, by omega, by have := HDS2.out; omega, by rw [HL.out]; omega, by rw [HL.out]; omega, by omega, HDS2, HX2, HE2, HC2⟩, ?_⟩
                simp [intOf]; omega
          · have HNO := Lib.hid (HE.out.no_size hq)
            have hqb : ((q.size : Int) != 32) = true := by rw [bne_iff_ne]; omega
            clear hq HE hs
            generalize sib k = s at *
            go_wp2_with fail
            refine (HO.out _).mono ?_
            rintro e w1 ⟨rfl, rfl⟩
            go_wp2
            go_ret
            exact ⟨false, rfl, ⟨fun h => (by cases h), fun h => absurd (HCK.out.1 h) (fun ⟨e, he, _⟩ => HNO.out ⟨e, he⟩)⟩, HC.out.below⟩
      · have hsi : ¬ ((sib k : Nat) : Int) < (n : Int) := by omega
        have HE2 := Lib.hid (HE.out.skip hgo hs)
        clear hs HE
        generalize sib k = s at *
        go_wp2_with fail
        refine (HO.out _).mono ?_
        rintro e w1 ⟨rfl, rfl⟩
        go_wp2
        refine ⟨⟨(n + 1) / 2, k / 2, d, p, ap, cp, by go_num, rfl, rfl, by go_num, by omega, by omega, by omega, by omega, hds, hpl, hpc, hcm, HDS, HX, HE2, HC⟩, ?_⟩
        simp [intOf]; omega
    · obtain rfl : n = 1 := by omega
      match p, hpl, hpc, HX, HE, HC with
      | [], hpl, hpc, HX, HE, HC =>
        have HD := Lib.hid HE.out.done
        have HRT := Lib.hid (rooted_any N d wr HC.out.tab hn2 (by omega))
        have HIFF : Hid (Checked root N I leaf ps ↔ Dg (crownT N d) = root) := Lib.hid (by
          rw [HCK.out]
          constructor
          · rintro ⟨e, he, hd⟩
            rw [← (HD.out e).1 he] at hd
            exact hd
          · intro hd
            exact ⟨d, (HD.out d).2 rfl, hd⟩)
        clear HE HD
        by_cases hr : Dg (crownT N d) = root
        · subst hr
          have HTR : Hid (Checked (Dg (crownT N d)) N I leaf ps) := Lib.hid (HIFF.out.2 rfl)
          generalize Dg (crownT N d) = z at *
          go_wp2_with fail
          refine HRT.out.mono ?_
          rintro e w1 ⟨rfl, hb1⟩
          go_wp2
          go_ret
          exact ⟨true, rfl, ⟨fun _ => HTR.out, fun _ => rfl⟩, below_trans HC.out.below hb1⟩
        · have HFA : Hid (¬ Checked root N I leaf ps) := Lib.hid (fun h => hr (HIFF.out.1 h))
          have hne := neq_lists hr
          clear hr HIFF
          generalize Dg (crownT N d) = z at *
          go_wp2_with fail
          refine HRT.out.mono ?_
          rintro e w1 ⟨rfl, hb1⟩
          go_wp2
          go_ret
          exact ⟨false, rfl, ⟨fun h => (by cases h), fun h => absurd h HFA.out⟩, below_trans HC.out.below hb1⟩
      | q :: p, hpl, hpc, HX, HE, HC =>
        have HNO := Lib.hid HE.out.no_more
        clear HE
        simp only [List.length_cons] at hpl hpc ⊢
        go_wp2
        go_ret
        exact ⟨false, rfl, ⟨fun h => (by cases h), fun h => absurd (HCK.out.1 h) (fun ⟨e, he, _⟩ => HNO.out ⟨e, he⟩)⟩, HC.out.below⟩

theorem check_wrong {root : BA} {n i : Int} {leaf : BA} {ps : List BA} {w : World} (h : ¬ Checked root n i leaf ps) : CkA root n i leaf ps w (.returned (.bool false)) w := ⟨false, rfl, ⟨fun h => (by cases h), fun h' => absurd h' h⟩, Below.refl _ _⟩
set_option maxHeartbeats 1600000 in
theorem check_any (w : World) (root : BA) (n i : Int) (leaf : BA) (a : Option Addr) (cap : Nat) (ps : List BA) (ht : Tab w) (hn1 : -9223372036854775808 ≤ n) (hn2 : n ≤ 9223372036854775807) (hi1 : -9223372036854775808 ≤ i) (hi2 : i ≤ 9223372036854775807) (hlf : leaf.size ≤ 9223372036854775807) (hpl : ps.length ≤ 9223372036854775807) (hpc : ps.length ≤ cap) (hcm : cap ≤ 9223372036854775807) (hx : ∀ x, x ∈ ps → x.size ≤ 9223372036854775807) (hIn : InS w a ps) :
    Calls Tryd.prog 19 #[.string root, .int .i64 n, .int .i64 i, .string leaf, .slice a ps.length cap] w (CkA root n i leaf ps w) := by
  by_cases h : (1 ≤ n ∧ n ≤ 4096) ∧ (0 ≤ i ∧ i < n) ∧ leaf.size = 32
  · obtain ⟨⟨h1, h2⟩, ⟨h3, h4⟩, h5⟩ := h
    obtain ⟨N, rfl⟩ := Int.eq_ofNat_of_zero_le (show 0 ≤ n by omega)
    obtain ⟨I, rfl⟩ := Int.eq_ofNat_of_zero_le h3
    exact check_right w root N I leaf a cap ps ht (by omega) (by omega) (by omega) h5 hpl hpc hcm hx hIn
  · have HNC : Hid (¬ Checked root n i leaf ps) := Lib.hid (fun ⟨e, ⟨hr, _⟩, _⟩ => h ⟨⟨hr.n1, hr.n2⟩, ⟨hr.i1, hr.i2⟩, hr.leaf⟩)
    have hcs : n < 1 ∨ (1 ≤ n ∧ 4096 < n) ∨ (1 ≤ n ∧ n ≤ 4096 ∧ i < 0) ∨ (1 ≤ n ∧ n ≤ 4096 ∧ 0 ≤ i ∧ n ≤ i) ∨ (1 ≤ n ∧ n ≤ 4096 ∧ 0 ≤ i ∧ i < n ∧ leaf.size ≠ 32) := by omega
    clear h ht hIn hx
    rcases hcs with h1 | ⟨h1, h2⟩ | ⟨h1, h2, h3⟩ | ⟨h1, h2, h3, h4⟩ | ⟨h1, h2, h3, h4, h5⟩
    · go_enter Tryd.func19, Tryd.ntmps19
      go_wp2
      go_ret
      exact check_wrong HNC.out
    · go_enter Tryd.func19, Tryd.ntmps19
      go_wp2
      go_ret
      exact check_wrong HNC.out
    · go_enter Tryd.func19, Tryd.ntmps19
      go_wp2
      go_ret
      exact check_wrong HNC.out
    · go_enter Tryd.func19, Tryd.ntmps19
      go_wp2
      go_ret
      exact check_wrong HNC.out
    · have hb : ((leaf.size : Int) != 32) = true := by rw [bne_iff_ne]; omega
      clear h5
      go_enter Tryd.func19, Tryd.ntmps19
      go_wp2
      go_ret
      exact check_wrong HNC.out
end Go.Proofs.YtnmhmemlgibedaaDoor
