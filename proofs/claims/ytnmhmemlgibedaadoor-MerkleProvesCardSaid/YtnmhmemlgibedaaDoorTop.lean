/- top and Root of package merkle. -/
import Derived.Test.YtnmhmemlgibedaaDoorRow
namespace Go.Proofs.YtnmhmemlgibedaaDoor
open Go.RowKit

theorem top_size : ∀ r : List BA, AllS r → (topF Dg r).size = 32 := by
  intro r
  induction hn : r.length using Nat.strongRecOn generalizing r with
  | _ n ih =>
    subst hn
    intro hr
    unfold topF
    by_cases h : r.length ≤ 1
    · rw [dif_pos h]
      match r, hr with
      | [], _ => rfl
      | x :: _, hr => exact hr x (by simp)
    · rw [dif_neg h]
      exact ih _ (above_lt Dg h) _ rfl (above_sized Dg Dg_size r hr)
theorem topF_one (x : BA) : topF Dg [x] = x := by unfold topF; rw [dif_pos (by simp)]; rfl
theorem topF_nil : topF Dg [] = z32 := by unfold topF; rw [dif_pos (by simp)]; rfl
theorem topF_more {r : List BA} (h : 1 < r.length) : topF Dg r = topF Dg (above Dg r) := by
  conv => lhs; unfold topF
  rw [dif_neg (by omega)]

theorem sib_le (k : Nat) : sib k ≤ k + 1 := by unfold sib; split <;> omega
/-- A row on its way to the top. -/
structure TI (w : World) (xs row : List BA) (a : Option Addr) (W : World) : Prop where
  top : topF Dg xs = topF Dg row
  sized : AllS row
  ins : InS W a row
  below : Below w.heap.size w W
  tab : Tab W

theorem above_pos {r : List BA} (h : 1 ≤ r.length) : 1 ≤ (above Dg r).length := by rw [above_length]; omega
theorem above_le (r : List BA) : (above Dg r).length ≤ r.length := by
  rw [above_length]
  omega

set_option maxHeartbeats 1600000 in
theorem top_any (w : World) (a : Option Addr) (cap : Nat) (xs : List BA) (ht : Tab w) (hl : xs.length ≤ 4096) (hc : xs.length ≤ cap) (hs : AllS xs) (hIn : InS w a xs) :
    Calls Tryd.prog 25 #[.slice a xs.length cap] w fun e w' => e = .returned (.string (topF Dg xs)) ∧ Below w.heap.size w w' := by
  rcases Nat.eq_zero_or_pos xs.length with h0 | hpos
  · obtain rfl : xs = [] := List.length_eq_zero_iff.1 h0
    have HC : Hid (Calls Tryd.prog 34 #[.string ⟨#[0]⟩, .int .i64 32] w fun e w' => e = .returned (.string (topF Dg [])) ∧ Below w.heap.size w w') := Lib.hid (by
      refine (Tryd.strings_Repeat ⟨#[0]⟩ 32 w (by decide) (by decide)).mono fun e w' h => ⟨?_, h.2⟩
      rw [h.1, topF_nil]; rfl)
    clear ht hIn hs
    go_enter Tryd.func25, Tryd.ntmps25
    go_wp2_with fail
    refine HC.out.mono ?_
    rintro e w1 ⟨rfl, hb⟩
    go_wp2
    go_ret
    exact ⟨rfl, hb⟩
  · have HT0 : Hid (TI w xs xs a w) := Lib.hid ⟨rfl, hs, hIn, Below.refl _ _, ht⟩
    have hne : ((xs.length : Int) == 0) = false := by rw [beq_eq_false_iff_ne]; omega
    have hne2 : ¬ xs.length = 0 := by omega
    clear ht hIn hs
    go_enter Tryd.func25, Tryd.ntmps25
    go_wp2
    go_loopw [3] (fun r wr => ∃ (row : List BA) (ap : Option Addr) (cp : Nat), r = .slice ap row.length cp ∧ row.length ≤ 4096 ∧ 1 ≤ row.length ∧ row.length ≤ cp ∧ Hid (TI w xs row ap wr)) (fun r _ => lenS r)
    case atStart => exact ⟨xs, a, cap, rfl, hl, by omega, hc, HT0⟩
    case round =>
      clear HT0 hne hne2
      obtain ⟨row, ap, cp, rfl, hrl, hr1, hcp, HT⟩ := hrel
      by_cases h1 : 1 < row.length
      · have HC := Lib.hid (next_any wr ap cp row HT.out.tab hrl hcp HT.out.sized HT.out.ins)
        go_wp2_with fail
        refine HC.out.mono ?_
        rintro e w1 ⟨a', cap', rfl, hle, hin, -, hb⟩
        have HT1 : Hid (TI w xs (above Dg row) a' w1) := Lib.hid ⟨by rw [HT.out.top, topF_more h1], above_sized Dg Dg_size row HT.out.sized, hin, below_trans HT.out.below hb, HT.out.tab.below hb⟩
        have hal := above_le row
        have hap := above_pos hr1
        have hlt : (above Dg row).length < row.length := above_lt Dg (by omega)
        clear hin hb HC HT
        generalize above Dg row = row2 at *
        go_wp2
        refine ⟨⟨row2, a', cap', rfl, by omega, by omega, hle, HT1⟩, ?_⟩
        simp [lenS]; omega
      · match row, hrl, hr1, hcp, HT, h1 with
        | [x], hrl, hr1, hcp, HT, h1 =>
          obtain ⟨b, off, rfl, hb, hcl⟩ := HT.out.ins (by simp)
          have hcell : wr.cell? ⟨b, off, none⟩ = some (.string x) := hcl 0 (by simp)
          clear hcl
          simp only [List.length_cons, List.length_nil] at hrl hr1 hcp ⊢
          go_wp2
          go_ret
          exact ⟨by rw [HT.out.top, topF_one]; rfl, HT.out.below⟩
        | x :: y :: r, hrl, hr1, hcp, HT, h1 => exact absurd (by simp) h1

/-- What Root answers. -/
def rootA (xs : List BA) : Value := if faultF xs = 0 then .tuple #[.string (rootF Dg xs), .int .i64 0] else .tuple #[.string ⟨#[]⟩, .int .i64 (faultF xs : Nat)]

set_option maxHeartbeats 1600000 in
theorem root_any (w : World) (a : Option Addr) (cap : Nat) (xs : List BA) (ht : Tab w) (hl : xs.length ≤ 9223372036854775807) (hx : ∀ x, x ∈ xs → x.size ≤ 9223372036854775807) (hc : xs.length ≤ cap) (hIn : InS w a xs) :
    Calls Tryd.prog 10 #[.slice a xs.length cap] w fun e w' => e = .returned (rootA xs) ∧ Below w.heap.size w w' := by
  have HF := Lib.hid (fault_any w a cap xs hl hx hIn)
  by_cases h0 : faultF xs = 0
  · obtain ⟨hl2, hs⟩ := fault_ok.1 h0
    rw [h0] at HF
    have HR : Hid (rootA xs = .tuple #[.string (rootF Dg xs), .int .i64 0]) := Lib.hid (by unfold rootA; rw [if_pos h0])
    rw [HR.out]
    have HT := Lib.hid (top_any w a cap xs ht hl2 hc hs hIn)
    have HD : Hid (∀ W, Tab W → Calls Tryd.prog 24 #[.int .i64 xs.length, .string (topF Dg xs)] W fun e w' => e = .returned (.string (rootF Dg xs)) ∧ Below W.heap.size W w') := Lib.hid (fun W h => rooted_any xs.length _ W h hl2 (by rw [top_size xs hs]; omega))
    have HTB := Lib.hid ht
    clear ht hIn hs h0
    go_enter Tryd.func10, Tryd.ntmps10
    go_wp2_with fail
    refine HF.out.mono ?_
    rintro e w1 ⟨rfl, rfl⟩
    go_wp2_with fail
    refine HT.out.mono ?_
    rintro e w1 ⟨rfl, hb⟩
    have HB := Lib.hid hb
    go_wp2_with fail
    refine (HD.out _ (HTB.out.below hb)).mono ?_
    rintro e w2 ⟨rfl, hb2⟩
    go_wp2
    go_ret2
    exact ⟨rfl, below_trans HB.out hb2⟩
  · have HR : Hid (rootA xs = .tuple #[.string ⟨#[]⟩, .int .i64 (faultF xs : Nat)]) := Lib.hid (by unfold rootA; rw [if_neg h0])
    rw [HR.out]
    have hb1 : (((faultF xs : Nat) : Int) != 0) = true := by rw [bne_iff_ne]; omega
    have hb2 : ((faultF xs : Nat) : Int) ≠ 0 := by omega
    clear ht hIn
    generalize faultF xs = f at *
    go_enter Tryd.func10, Tryd.ntmps10
    go_wp2_with fail
    refine HF.out.mono ?_
    rintro e w1 ⟨rfl, rfl⟩
    go_wp2
    go_ret2
    exact ⟨rfl, Below.refl _ _⟩
end Go.Proofs.YtnmhmemlgibedaaDoor
