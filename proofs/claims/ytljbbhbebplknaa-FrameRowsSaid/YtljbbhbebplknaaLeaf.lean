/- The leaves of package frame and of the document's answer: number, value, Four, short. -/
import Derived.Test.YtljbbhbebplknaaFrame
import Derived.Test.YtljbbhbebplknaaSum
import Derived.WalkSpells
import Derived.WalkLawsBesides
import Derived.Laws.EntriesVeiled
import Derived.BigRegion
import Derived.IntWalk
import Derived.Below
import Derived.Laws.OwnMore
import Derived.Laws.IdiomStrings
namespace Go.Proofs.Ytljbbhbebplknaa
open Go.RowKit

theorem or_shift (a b i : Nat) (h : b < 2 ^ i) : b ||| a * 2 ^ i = a * 2 ^ i + b := by
  rw [Nat.or_comm, ← Nat.shiftLeft_eq, Nat.shiftLeft_add_eq_or_of_lt h]

theorem val_int (a b c d : UInt8) : bits .or .u32 (bits .or .u32 (bits .or .u32 ((a.toNat : Int) % 4294967296) ((b.toNat : Int) % 4294967296 * 256 % 4294967296)) ((c.toNat : Int) % 4294967296 * 65536 % 4294967296)) ((d.toNat : Int) % 4294967296 * 16777216 % 4294967296) = ((val [a, b, c, d] : Nat) : Int) := by
  have ha := a.toNat_lt
  have hb := b.toNat_lt
  have hc := c.toNat_lt
  have hd := d.toNat_lt
  have e1 : ((a.toNat : Int) % 4294967296) = ((a.toNat : Nat) : Int) := by omega
  have e2 : ((b.toNat : Int) % 4294967296 * 256 % 4294967296) = ((b.toNat * 2 ^ 8 : Nat) : Int) := by omega
  have e3 : ((c.toNat : Int) % 4294967296 * 65536 % 4294967296) = ((c.toNat * 2 ^ 16 : Nat) : Int) := by omega
  have e4 : ((d.toNat : Int) % 4294967296 * 16777216 % 4294967296) = ((d.toNat * 2 ^ 24 : Nat) : Int) := by omega
  rw [e1, e2, e3, e4, u32_or_nat _ _ (by omega) (by omega), or_shift _ _ 8 (by omega), u32_or_nat _ _ (by omega) (by omega), or_shift _ _ 16 (by omega), u32_or_nat _ _ (by omega) (by omega), or_shift _ _ 24 (by omega)]
  show _ = ((a.toNat + 256 * b.toNat + 65536 * c.toNat + 16777216 * d.toNat : Nat) : Int)
  omega

theorem list4 (s : ByteArray) (hs : s.size = 4) : s.data.toList = [s[0], s[1], s[2], s[3]] := by
  have h : s.data.toList.drop 0 = [s[0], s[1], s[2], s[3]] := by
    rw [drop_of s 0 (by omega), drop_of s (0 + 1) (by omega), drop_of s (0 + 1 + 1) (by omega), drop_of s (0 + 1 + 1 + 1) (by omega), drop_no s (0 + 1 + 1 + 1 + 1) (by omega)]
  exact h

theorem value_any (s : ByteArray) (w : World) (hs : s.size = 4) : Calls Try.prog 25 #[.string s] w fun e w' => e = .returned (.int .u32 (val s.data.toList)) ∧ ∃ m, w' = w.drewN m := by
  have h0 : 0 < s.size := by omega
  have h1 : 1 < s.size := by omega
  have h2 : 2 < s.size := by omega
  have h3 : 3 < s.size := by omega
  go_enter Try.func25, Try.ntmps25
  go_wp2
  go_quiet (fail)
  go_wp2
  go_ret
  refine ⟨ret_int ?_, _, rfl⟩
  rw [list4 s hs]
  exact val_int _ _ _ _

theorem below1 (w : World) (o : Obj) : Below w.heap.size w (w.alloc o) := (Below.refl _ w).alloc (Nat.le_refl _) o

theorem four_back (n : Nat) (hn : n < 4294967296) (w : World) (cap : Nat) :
    (convert 34 9 (.slice (some ⟨w.heap.size, 0, none⟩) 4 cap)).run Try.prog (w.alloc (.cells #[.int .u8 ((n : Int) % 256), .int .u8 ((n : Int) / 256 % 256), .int .u8 ((n : Int) / 65536 % 256), .int .u8 ((n : Int) / 16777216)] 5)) = .ok (.string ⟨(four n).toArray⟩) (w.alloc (.cells #[.int .u8 ((n : Int) % 256), .int .u8 ((n : Int) / 256 % 256), .int .u8 ((n : Int) / 65536 % 256), .int .u8 ((n : Int) / 16777216)] 5)) := by
  have h := run_convert_bytes_back (P := Try.prog) (w.alloc (.cells #[.int .u8 ((n : Int) % 256), .int .u8 ((n : Int) / 256 % 256), .int .u8 ((n : Int) / 65536 % 256), .int .u8 ((n : Int) / 16777216)] 5)) 34 9 5 ⟨w.heap.size, 0, none⟩ cap (four n) Try.underlying34 Try.underlying5 Try.underlying9 (by
    intro j hj
    have hh : (w.alloc (.cells #[.int .u8 ((n : Int) % 256), .int .u8 ((n : Int) / 256 % 256), .int .u8 ((n : Int) / 65536 % 256), .int .u8 ((n : Int) / 16777216)] 5)).cell? ⟨w.heap.size, j, none⟩ = _ := World.cell?_alloc_mark w _ 5 (0, 0) j
    have ha : (⟨w.heap.size, 0, none⟩ : Addr).add j = ⟨w.heap.size, j, none⟩ := by unfold Addr.add; split <;> simp_all
    rw [ha, hh]
    rw [four_length] at hj
    match j, hj with
    | 0, _ => simp only [four, List.getElem_cons_zero, toNat_mod]; simp
    | 1, _ => simp only [four, List.getElem_cons_zero, List.getElem_cons_succ, toNat_mod]; simp
    | 2, _ => simp only [four, List.getElem_cons_zero, List.getElem_cons_succ, toNat_mod]; simp
    | 3, _ => simp only [four, List.getElem_cons_zero, List.getElem_cons_succ, toNat_mod]; simp; omega)
  exact h

theorem number_any (n : Nat) (w : World) (hn : n < 4294967296) : Calls Try.prog 18 #[.int .u32 n] w fun e w' => e = .returned (.string ⟨(four n).toArray⟩) ∧ Below w.heap.size w w' := by
  have hb := four_back n hn w 4
  go_enter Try.func18, Try.ntmps18
  go_wp2
  go_ret
  exact ⟨rfl, below1 _ _⟩

theorem rnumber_any (n : Nat) (w : World) (hn : n < 4294967296) : Calls Try.prog 19 #[.int .u32 n] w fun e w' => e = .returned (.string ⟨(four n).toArray⟩) ∧ Below w.heap.size w w' := by
  have hb := four_back n hn w 4
  go_enter Try.func19, Try.ntmps19
  go_wp2
  go_ret
  exact ⟨rfl, below1 _ _⟩

abbrev cutS (s : ByteArray) : ByteArray := ⟨(s.data.toList.take 20000).toArray⟩

theorem extract_list (s : ByteArray) (i j : Nat) : (s.extract i j).data.toList = (s.data.toList.drop i).take (j - i) := by
  simp [List.take_drop, List.extract_eq_take_drop]
theorem ba_ext {a b : ByteArray} (h : a.data.toList = b.data.toList) : a = b := by
  cases a; cases b; simp at h; rw [ByteArray.mk.injEq]; exact h

theorem short_any (s : ByteArray) (w : World) (hs : s.size ≤ 140737488351232) : Calls Try.prog 13 #[.string s] w fun e w' => e = .returned (.string (cutS s)) ∧ w = w' := by
  by_cases h : 20000 < s.size
  · go_enter Try.func13, Try.ntmps13
    go_wp2
    go_ret
    refine ⟨ret_str (ba_ext ?_), rfl⟩
    rw [extract_list]; simp
  · go_enter Try.func13, Try.ntmps13
    go_wp2
    go_ret
    refine ⟨ret_str (ba_ext ?_), rfl⟩
    show _ = s.data.toList.take 20000
    rw [List.take_of_length_le (by simp only [Array.length_toList, ByteArray.size_data]; omega)]
end Go.Proofs.Ytljbbhbebplknaa
