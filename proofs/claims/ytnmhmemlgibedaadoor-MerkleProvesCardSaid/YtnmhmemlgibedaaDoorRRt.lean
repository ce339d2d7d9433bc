/- The document's crown and Root. -/
import Derived.Test.YtnmhmemlgibedaaDoorRAbv
namespace Go.Proofs.YtnmhmemlgibedaaDoor
open Go.RowKit

theorem num5_ints (n : Nat) (hn : n ≤ 4096) : [2, (n : Int) / 16777216, (n : Int) / 65536 % 256, (n : Int) / 256 % 256, (n : Int) % 256] = [2, UInt8.ofNat (n / 16777216), UInt8.ofNat (n / 65536), UInt8.ofNat (n / 256), UInt8.ofNat n].map fun b => (b.toNat : Int) := by
  simp
  omega
def num5 (n : Nat) : BA := ⟨#[2, UInt8.ofNat (n / 16777216), UInt8.ofNat (n / 65536), UInt8.ofNat (n / 256), UInt8.ofNat n]⟩
theorem crown5 (n : Nat) (t : BA) : num5 n ++ t = crownT n t := BA.ext (by rw [crownT_list]; simp [num5])
theorem Mv.alloc {M : Nat} {w : World} (h : M < w.heap.size) (o : Obj) : Mv M w (w.alloc o) := Mv.of_below h (below1 w o)

set_option maxHeartbeats 1600000 in
theorem crown_any (w : World) (M : Nat) (ts : List BA) (n : Nat) (t : BA) (hm : MadeAt w M ts) (ht : ts.length ≤ 1000000) (hn : n ≤ 4096) (hs : t.size ≤ 1000) :
    Calls Tryd.prog 29 #[.pointer (some ⟨M, 0, none⟩), .int .i64 n, .string t] w fun e w' => e = .returned (.string (Dg (crownT n t))) ∧ MadeAt w' M (ts ++ [crownT n t]) ∧ Mv M w w' := by
  have hb : (convert 44 9 (.slice (some ⟨w.heap.size, 0, none⟩) 5 5)).run Tryd.prog (w.alloc (.cells #[.int .u8 2, .int .u8 ((n : Int) / 16777216), .int .u8 ((n : Int) / 65536 % 256), .int .u8 ((n : Int) / 256 % 256), .int .u8 ((n : Int) % 256)] 5)) = .ok (.string (num5 n)) (w.alloc (.cells #[.int .u8 2, .int .u8 ((n : Int) / 16777216), .int .u8 ((n : Int) / 65536 % 256), .int .u8 ((n : Int) / 256 % 256), .int .u8 ((n : Int) % 256)] 5)) := lit_back w _ _ (num5_ints n hn) 5
  have HC : Hid (∀ W, MadeAt W M ts → Calls Tryd.prog 32 #[.pointer (some ⟨M, 0, none⟩), .string (num5 n ++ t)] W fun e w' => e = .returned (.string (Dg (crownT n t))) ∧ MadeAt w' M (ts ++ [crownT n t]) ∧ Mv M W w') := Lib.hid (fun W h => by rw [crown5]; exact mof_any W M ts _ h (by rw [crownT_size]; omega) ht)
  have HM : Hid (MadeAt (w.alloc (.cells #[.int .u8 2, .int .u8 ((n : Int) / 16777216), .int .u8 ((n : Int) / 65536 % 256), .int .u8 ((n : Int) / 256 % 256), .int .u8 ((n : Int) % 256)] 5)) M ts) := Lib.hid (hm.below (below1 _ _))
  have HV : Hid (Mv M w (w.alloc (.cells #[.int .u8 2, .int .u8 ((n : Int) / 16777216), .int .u8 ((n : Int) / 65536 % 256), .int .u8 ((n : Int) / 256 % 256), .int .u8 ((n : Int) % 256)] 5))) := Lib.hid (Mv.alloc hm.lt _)
  have hsz : (num5 n).size ≤ 5 := Nat.le_refl 5
  clear hm
  go_enter Tryd.func29, Tryd.ntmps29
  go_wp2_with fail
  refine (HC.out _ HM.out).mono ?_
  rintro e w1 ⟨rfl, hm1, hv1⟩
  go_wp2
  go_ret
  exact ⟨rfl, hm1, HV.out.trans hv1⟩

theorem topT_few {r : List BA} (h : r.length ≤ 1) : topT Dg r = [] := by unfold topT; rw [dif_pos h]
theorem topT_more {r : List BA} (h : 1 < r.length) : topT Dg r = aboveT r ++ topT Dg (above Dg r) := by
  conv => lhs; unfold topT
  rw [dif_neg (by omega)]
theorem aboveT_length : ∀ r : List BA, (aboveT r).length + (above Dg r).length = r.length
  | a :: b :: r => by
    rw [aboveT, above, List.length_cons, List.length_cons]
    have := aboveT_length r
    simp only [List.length_cons]
    omega
  | [a] => by simp [aboveT, above]
  | [] => by simp [aboveT, above]

/-- A row on its way to the top, with the texts so far. -/
structure RT (w : World) (M : Nat) (ts xs row us : List BA) (a : Option Addr) (W : World) : Prop where
  top : topF Dg xs = topF Dg row
  txt : topT Dg xs = us ++ topT Dg row
  sized : AllS row
  ins : InO W M a row
  made : MadeAt W M (ts ++ us)
  mv : Mv M w W
theorem InO.new {w : World} {M : Nat} {ts : List BA} (h : MadeAt w M ts) (x : BA) : InO (w.alloc (.cells #[.string x] 9)) M (some ⟨w.heap.size, 0, none⟩) [x] := fun _ =>
  ⟨w.heap.size, 0, rfl, h.off_new (below1 _ _) (Nat.le_refl _) (by simp), fun j hj => by
    obtain rfl : j = 0 := by simpa using hj
    exact (row_new w #[.string x] 9).cell rfl⟩

/-- 32 bytes 0. -/
def c32 : Array Value := ((List.replicate 32 (0 : Int)).map (Value.int .u8)).toArray
theorem made_bytes (n : Nat) : madeCells (Value.int .u8 0).cells n = ((List.replicate n (0 : Int)).map (Value.int .u8)).toArray := by
  have : (Value.int .u8 0).cells = #[.int .u8 0] := rfl
  rw [this]
  apply Array.ext
  · simp [madeCells]
  · intro i h1 h2
    simp [madeCells, Nat.mod_one]
theorem make32 (w : World) : (Instr.makeSlice 44 (.int .i64 32) (.int .i64 32)).run Tryd.prog w = .ok (.slice (some ⟨w.heap.size, 0, none⟩) 32 32) (w.alloc (.cells c32 5)) := by
  obtain ⟨i0, hi, hz0, hz1, hz2⟩ := info_parts info5
  have h := run_makeSlice (P := Tryd.prog) w 44 5 i0 (.int .u8 0) Tryd.underlying44 hi hz0 .i64 .i64 32 32 (by omega) (Int.le_refl _) (by rw [hz1]; decide) (by rw [hz2]; decide) (by omega)
  rw [hz1] at h
  have e : madeCells (Value.int .u8 0).cells (Int.toNat 32 * 1) = c32 := made_bytes 32
  rw [e] at h
  exact h
theorem back32 (w : World) : (convert 44 9 (.slice (some ⟨w.heap.size, 0, none⟩) 32 32)).run Tryd.prog (w.alloc (.cells c32 5)) = .ok (.string z32) (w.alloc (.cells c32 5)) := lit_back w (List.replicate 32 0) (List.replicate 32 0) (by decide) 32

set_option maxHeartbeats 3200000 in
set_option maxRecDepth 100000 in
theorem rroot_any (w : World) (M : Nat) (ts : List BA) (a : Option Addr) (cap : Nat) (xs : List BA) (hm : MadeAt w M ts) (ht : ts.length ≤ 1000) (hl : xs.length ≤ 4096) (hs : AllS xs) (hIn : InO w M a xs) :
    Calls Tryd.prog 14 #[.pointer (some ⟨M, 0, none⟩), .slice a xs.length cap] w fun e w' => e = .returned (.string (rootF Dg xs)) ∧ MadeAt w' M (ts ++ rootT Dg xs) ∧ Mv M w w' := by
  have HTS : Hid ((topF Dg xs).size = 32) := Lib.hid (top_size xs hs)
  have HC : Hid (∀ W us, us.length ≤ 10000 → us = topT Dg xs → MadeAt W M (ts ++ us) → Calls Tryd.prog 29 #[.pointer (some ⟨M, 0, none⟩), .int .i64 xs.length, .string (topF Dg xs)] W fun e w' => e = .returned (.string (rootF Dg xs)) ∧ MadeAt w' M (ts ++ rootT Dg xs) ∧ Mv M W w') := Lib.hid (fun W us hu he h => by
    subst he
    unfold rootT
    rw [← List.append_assoc]
    exact crown_any W M _ xs.length _ h (by simp; omega) hl (by rw [top_size xs hs]; omega))
  rcases Nat.eq_zero_or_pos xs.length with h0 | hpos
  · obtain rfl : xs = [] := List.length_eq_zero_iff.1 h0
    have h1 := make32 w
    have h2 := back32 w
    have HM : Hid (MadeAt ((w.alloc (.cells c32 5)).alloc (.cells #[.string z32] 9)) M (ts ++ [])) := Lib.hid (by rw [List.append_nil]; exact hm.below (below2 _ _ _))
    have HV : Hid (Mv M w ((w.alloc (.cells c32 5)).alloc (.cells #[.string z32] 9))) := Lib.hid (Mv.of_below hm.lt (below2 _ _ _))
    have HT : Hid (topF Dg [] = z32) := Lib.hid topF_nil
    rw [HT.out] at HC
    clear hm hIn hs HTS
    generalize z32 = z at *
    generalize c32 = c at *
    have hcell : ((w.alloc (.cells c 5)).alloc (.cells #[.string z] 9)).cell? ⟨w.heap.size + 1, 0, none⟩ = some (.string z) := by
      have := (row_new (w.alloc (.cells c 5)) #[.string z] 9).cell (i := 0) (v := .string z) rfl
      rwa [show (w.alloc (.cells c 5)).heap.size = w.heap.size + 1 by simp] at this
    go_enter Tryd.func14, Tryd.ntmps14
    go_wp2
    have HC2 := Lib.hid (HC.out _ [] (by simp) (topT_few (by simp)).symm HM.out)
    generalize (w.alloc (.cells c 5)).alloc (.cells #[.string z] 9) = W at *
    go_loopw [5] (fun r wr => r = .slice (some ⟨w.heap.size + 1, 0, none⟩) 1 1 ∧ wr = W) (fun _ _ => 0)
    case atStart => exact ⟨rfl, rfl⟩
    case round =>
      obtain ⟨rfl, rfl⟩ := hrel
      go_wp2_with fail
      refine HC2.out.mono ?_
      rintro e w1 ⟨rfl, hm1, hv1⟩
      go_wp2
      go_ret
      exact ⟨rfl, hm1, HV.out.trans hv1⟩
  · have H0 : Hid (RT w M ts xs xs [] a w) := Lib.hid ⟨rfl, rfl, hs, hIn, by rw [List.append_nil]; exact hm, Mv.refl _ _⟩
    have hne : ((xs.length : Int) == 0) = false := by rw [beq_eq_false_iff_ne]; omega
    have hne2 : ¬ xs.length = 0 := by omega
    clear hm hIn hs
    go_enter Tryd.func14, Tryd.ntmps14
    go_wp2
    go_loopw [5] (fun r wr => ∃ (row us : List BA) (ap : Option Addr) (cp : Nat), r = .slice ap row.length cp ∧ us.length + row.length ≤ 4096 ∧ 1 ≤ row.length ∧ Hid (RT w M ts xs row us ap wr)) (fun r _ => lenS r)
    case atStart => exact ⟨xs, [], a, cap, rfl, by simpa using hl, by omega, H0⟩
    case round =>
      clear H0 hne hne2
      obtain ⟨row, us, ap, cp, rfl, hul, hr1, HR⟩ := hrel
      by_cases h1 : 1 < row.length
      · have HA := Lib.hid (above_any wr M (ts ++ us) ap cp row HR.out.made (by simp; omega) HR.out.sized HR.out.ins)
        go_wp2_with fail
        refine HA.out.mono ?_
        rintro e w1 ⟨a', cap', rfl, hle, hin, -, hm1, hv1⟩
        have HR1 : Hid (RT w M ts xs (above Dg row) (us ++ aboveT row) a' w1) := Lib.hid ⟨by rw [HR.out.top, topF_more h1], by rw [HR.out.txt, topT_more h1, List.append_assoc], above_sized Dg Dg_size row HR.out.sized, hin, by rw [← List.append_assoc]; exact hm1, HR.out.mv.trans hv1⟩
        have hal := aboveT_length row
        have hap := above_pos hr1
        have hlt : (above Dg row).length < row.length := above_lt Dg (by omega)
        have hul2 : (us ++ aboveT row).length = us.length + (aboveT row).length := List.length_append
        clear hin hm1 hv1 HA HR
        generalize above Dg row = row2 at *
        generalize us ++ aboveT row = us2 at *
        go_wp2
        refine ⟨⟨row2, us2, a', cap', rfl, by omega, by omega, HR1⟩, ?_⟩
        simp [lenS]; omega
      · match row, hul, hr1, HR, h1 with
        | [x], hul, hr1, HR, h1 =>
          obtain ⟨b, off, rfl, ho, hcl⟩ := HR.out.ins (by simp)
          have hcell : wr.cell? ⟨b, off, none⟩ = some (.string x) := hcl 0 (by simp)
          have HT : Hid (topF Dg xs = x) := Lib.hid (by rw [HR.out.top, topF_one])
          have HU : Hid (us = topT Dg xs) := Lib.hid (by rw [HR.out.txt, topT_few (by simp), List.append_nil])
          rw [HT.out] at HC
          have HC2 := Lib.hid (HC.out wr us (by omega) HU.out HR.out.made)
          clear hcl ho HC
          simp only [List.length_cons, List.length_nil] at hul hr1 ⊢
          go_wp2_with fail
          refine HC2.out.mono ?_
          rintro e w1 ⟨rfl, hm1, hv1⟩
          go_wp2
          go_ret
          exact ⟨rfl, hm1, HR.out.mv.trans hv1⟩
        | x :: y :: r, hul, hr1, HR, h1 => exact absurd (by simp) h1
end Go.Proofs.YtnmhmemlgibedaaDoor
