/- MerkleChecks: what the law answers. -/
import Derived.Test.YtnmhmemlgibedaaDoorShw
namespace Go.Proofs.YtnmhmemlgibedaaDoor
open Go.RowKit

def cutP (k : Nat) (ps : List BA) : List BA := if k < ps.length then ps.take k else ps
theorem cutP_ins {w : World} {a : Option Addr} {ps : List BA} {k : Nat} (h : InS w a ps) : InS w a (cutP k ps) := by
  unfold cutP
  split
  · exact h.take k
  · exact h
theorem cutP_mem {ps : List BA} {x : BA} {k : Nat} (h : x ∈ cutP k ps) : x ∈ ps := by
  unfold cutP at h
  split at h
  · exact List.mem_of_mem_take h
  · exact h
theorem cutP_le (k : Nat) (ps : List BA) : (cutP k ps).length ≤ k ∧ (cutP k ps).length ≤ ps.length := by
  unfold cutP
  split
  · rw [List.length_take]; omega
  · omega
theorem leaf_a (w : World) (ht : Tab w) : Calls Tryd.prog 11 #[.string ⟨#[97]⟩] w fun e w' => ∃ d : BA, e = .returned (.string d) ∧ d.size = 32 ∧ Below w.heap.size w w' := (leaf_any ⟨#[97]⟩ w ht (by decide)).mono fun e w' h => ⟨_, h.1, Dg_size _, h.2⟩

set_option maxHeartbeats 3200000 in
set_option maxRecDepth 100000 in
theorem checks_any (w : World) (root : BA) (n i : Int) (leaf : BA) (a : Option Addr) (cap : Nat) (ps : List BA) (ht : Tab w) (hrt : root.size ≤ 9223372036854775807) (hn1 : -9223372036854775808 ≤ n) (hn2 : n ≤ 9223372036854775807) (hi1 : -9223372036854775808 ≤ i) (hi2 : i ≤ 9223372036854775807) (hlf : leaf.size ≤ 9223372036854775807) (hpl : ps.length ≤ 9223372036854775807) (hpc : ps.length ≤ cap) (hcm : cap ≤ 9223372036854775807) (hx : ∀ x, x ∈ ps → x.size ≤ 9223372036854775807) (hIn : InS w a ps) :
    Calls Tryd.prog 5 #[.string root, .int .i64 n, .int .i64 i, .string leaf, .slice a ps.length cap] w fun e w' => e = .returned (.bool true) ∧ Below w.heap.size w w' := by
  obtain ⟨hz1, hz2⟩ := cutP_le 100 ps
  have HIN := Lib.hid (cutP_ins (k := 100) hIn)
  have HX : Hid (∀ x, x ∈ cutP 100 ps → x.size ≤ 9223372036854775807) := Lib.hid (fun x h => hx x (cutP_mem h))
  have HSH := Lib.hid (shown_any (w.alloc (.cells #[.slice none 0 0] 31)) w.heap.size [] n i leaf a cap (cutP 100 ps) (made_new w) (by simp) hn1 hn2 hi1 hi2 hlf (by omega) HX.out (InO.of_ins HIN.out))
  have HCK : Hid (∀ W, Below w.heap.size w W → Calls Tryd.prog 19 #[.string root, .int .i64 n, .int .i64 i, .string leaf, .slice a (cutP 100 ps).length cap] W (CkA root n i leaf (cutP 100 ps) W)) := Lib.hid (fun W h => check_any W root n i leaf a cap (cutP 100 ps) (ht.below h) hn1 hn2 hi1 hi2 hlf (by omega) (by omega) hcm HX.out (HIN.out.below h))
  have HLF : Hid (∀ W, Below w.heap.size w W → Calls Tryd.prog 11 #[.string ⟨#[97]⟩] W fun e w' => ∃ d : BA, e = .returned (.string d) ∧ d.size = 32 ∧ Below W.heap.size W w') := Lib.hid (fun W h => leaf_a W (ht.below h))
  have HNW : Hid (∀ W, Mv w.heap.size (w.alloc (.cells #[.slice none 0 0] 31)) W → Below w.heap.size w W) := Lib.hid (fun W h => h.below_new)
  clear ht hIn hx
  by_cases hlong : 100 < ps.length
  · have HL : Hid ((cutP 100 ps).length = 100) := Lib.hid (by unfold cutP; rw [if_pos hlong, List.length_take]; omega)
    rw [HL.out] at HSH HCK
    generalize cutP 100 ps = qs at *
    go_enter Tryd.func5, Tryd.ntmps5
    go_wp2_with fail
    generalize w.alloc (.cells #[.slice none 0 0] 31) = w1 at *
    refine HSH.out.mono ?_
    rintro e w2 ⟨ok, r, rfl, hok, hrr, hv⟩
    have HB2 := Lib.hid (HNW.out _ hv)
    have HOK := Lib.hid hok
    have HRR := Lib.hid (fun t h => (hrr t h).1)
    clear hok hrr hv HSH
    by_cases hck : Checked root n i leaf qs
    · have HC := Lib.hid hck
      obtain ⟨t, hs, hd⟩ := hck
      obtain rfl : ok = true := HOK.out.2 ⟨t, hs⟩
      obtain rfl : r = root := (HRR.out t hs).trans hd
      clear hs hd
      go_wp2_with fail
      refine (HCK.out _ HB2.out).mono ?_
      rintro e w3 ⟨b, rfl, hb, hb3⟩
      obtain rfl : b = true := hb.2 HC.out
      have HB3 := Lib.hid (below_trans HB2.out hb3)
      clear hb hb3
      go_wp2_with fail
      refine (HLF.out _ HB3.out).mono ?_
      rintro e w4 ⟨d, rfl, hds, hb4⟩
      have hds2 : ((d.size : Int) == 32) = true := by rw [beq_iff_eq]; omega
      go_wp2
      go_ret
      exact ⟨rfl, below_trans HB3.out hb4⟩
    · have HC := Lib.hid hck
      cases ok with
      | false =>
        clear hck
        go_wp2_with fail
        refine (HCK.out _ HB2.out).mono ?_
        rintro e w3 ⟨b, rfl, hb, hb3⟩
        obtain rfl : b = false := by
          cases b with
          | false => rfl
          | true => exact absurd (hb.1 rfl) HC.out
        have HB3 := Lib.hid (below_trans HB2.out hb3)
        clear hb hb3
        go_wp2_with fail
        refine (HLF.out _ HB3.out).mono ?_
        rintro e w4 ⟨d, rfl, hds, hb4⟩
        have hds2 : ((d.size : Int) == 32) = true := by rw [beq_iff_eq]; omega
        go_wp2
        go_ret
        exact ⟨rfl, below_trans HB3.out hb4⟩
      | true =>
        have hne : r ≠ root := fun e => by
          obtain ⟨t, ht⟩ := HOK.out.1 rfl
          exact hck ⟨t, ht, (HRR.out t ht).symm.trans e⟩
        have hne2 := neq_lists hne
        clear hck hne
        go_wp2_with fail
        refine (HCK.out _ HB2.out).mono ?_
        rintro e w3 ⟨b, rfl, hb, hb3⟩
        obtain rfl : b = false := by
          cases b with
          | false => rfl
          | true => exact absurd (hb.1 rfl) HC.out
        have HB3 := Lib.hid (below_trans HB2.out hb3)
        clear hb hb3
        go_wp2_with fail
        refine (HLF.out _ HB3.out).mono ?_
        rintro e w4 ⟨d, rfl, hds, hb4⟩
        have hds2 : ((d.size : Int) == 32) = true := by rw [beq_iff_eq]; omega
        go_wp2
        go_ret
        exact ⟨rfl, below_trans HB3.out hb4⟩
  · have HL : Hid (cutP 100 ps = ps) := Lib.hid (by unfold cutP; rw [if_neg hlong])
    rw [HL.out] at HSH HCK
    go_enter Tryd.func5, Tryd.ntmps5
    go_wp2_with fail
    generalize w.alloc (.cells #[.slice none 0 0] 31) = w1 at *
    refine HSH.out.mono ?_
    rintro e w2 ⟨ok, r, rfl, hok, hrr, hv⟩
    have HB2 := Lib.hid (HNW.out _ hv)
    have HOK := Lib.hid hok
    have HRR := Lib.hid (fun t h => (hrr t h).1)
    clear hok hrr hv HSH
    by_cases hck : Checked root n i leaf ps
    · have HC := Lib.hid hck
      obtain ⟨t, hs, hd⟩ := hck
      obtain rfl : ok = true := HOK.out.2 ⟨t, hs⟩
      obtain rfl : r = root := (HRR.out t hs).trans hd
      clear hs hd
      go_wp2_with fail
      refine (HCK.out _ HB2.out).mono ?_
      rintro e w3 ⟨b, rfl, hb, hb3⟩
      obtain rfl : b = true := hb.2 HC.out
      have HB3 := Lib.hid (below_trans HB2.out hb3)
      clear hb hb3
      go_wp2_with fail
      refine (HLF.out _ HB3.out).mono ?_
      rintro e w4 ⟨d, rfl, hds, hb4⟩
      have hds2 : ((d.size : Int) == 32) = true := by rw [beq_iff_eq]; omega
      go_wp2
      go_ret
      exact ⟨rfl, below_trans HB3.out hb4⟩
    · have HC := Lib.hid hck
      cases ok with
      | false =>
        clear hck
        go_wp2_with fail
        refine (HCK.out _ HB2.out).mono ?_
        rintro e w3 ⟨b, rfl, hb, hb3⟩
        obtain rfl : b = false := by
          cases b with
          | false => rfl
          | true => exact absurd (hb.1 rfl) HC.out
        have HB3 := Lib.hid (below_trans HB2.out hb3)
        clear hb hb3
        go_wp2_with fail
        refine (HLF.out _ HB3.out).mono ?_
        rintro e w4 ⟨d, rfl, hds, hb4⟩
        have hds2 : ((d.size : Int) == 32) = true := by rw [beq_iff_eq]; omega
        go_wp2
        go_ret
        exact ⟨rfl, below_trans HB3.out hb4⟩
      | true =>
        have hne : r ≠ root := fun e => by
          obtain ⟨t, ht⟩ := HOK.out.1 rfl
          exact hck ⟨t, ht, (HRR.out t ht).symm.trans e⟩
        have hne2 := neq_lists hne
        clear hck hne
        go_wp2_with fail
        refine (HCK.out _ HB2.out).mono ?_
        rintro e w3 ⟨b, rfl, hb, hb3⟩
        obtain rfl : b = false := by
          cases b with
          | false => rfl
          | true => exact absurd (hb.1 rfl) HC.out
        have HB3 := Lib.hid (below_trans HB2.out hb3)
        clear hb hb3
        go_wp2_with fail
        refine (HLF.out _ HB3.out).mono ?_
        rintro e w4 ⟨d, rfl, hds, hb4⟩
        have hds2 : ((d.size : Int) == 32) = true := by rw [beq_iff_eq]; omega
        go_wp2
        go_ret
        exact ⟨rfl, below_trans HB3.out hb4⟩
end Go.Proofs.YtnmhmemlgibedaaDoor
