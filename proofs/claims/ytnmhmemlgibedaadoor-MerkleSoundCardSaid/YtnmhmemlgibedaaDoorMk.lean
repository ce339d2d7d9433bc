/- The leaf, the pair and the root of package merkle. -/
import Derived.Test.YtnmhmemlgibedaaDoorOf
import Derived.Test.YtnmhmemlgibedaaDoorLst
import Derived.StillTailTactics
import Derived.IntWalk
namespace Go.Proofs.YtnmhmemlgibedaaDoor
open Go.RowKit

/-- The digest. -/
def Dg (s : BA) : BA := str (shaF s.data.toList)
theorem Dg_size (s : BA) : (Dg s).size = 32 := by
  show (shaF s.data.toList).toArray.size = 32
  rw [List.size_toArray]; exact shaF_length _
theorem of_dg (s : BA) (w : World) (ht : Tab w) (hs : s.size ≤ 1000000000) : Calls Tryd.prog 26 #[.string s] w fun e w' => e = .returned (.string (Dg s)) ∧ Below w.heap.size w w' := of_any s w ht hs

theorem leaf_any (s : BA) (w : World) (ht : Tab w) (hs : s.size ≤ 1000000) : Calls Tryd.prog 11 #[.string s] w fun e w' => e = .returned (.string (Dg ((⟨#[0]⟩ : BA) ++ s))) ∧ Below w.heap.size w w' := by
  have HC := Lib.hid (of_dg ((⟨#[0]⟩ : BA) ++ s) w ht (by rw [ByteArray.size_append]; show 1 + s.size ≤ _; omega))
  clear ht
  go_enter Tryd.func11, Tryd.ntmps11
  go_wp2_with fail
  refine HC.out.mono ?_
  rintro e w1 ⟨rfl, hb⟩
  go_wp2
  go_ret
  exact ⟨rfl, hb⟩

theorem paired_any (a b : BA) (w : World) (ht : Tab w) (ha : a.size ≤ 1000) (hb : b.size ≤ 1000) : Calls Tryd.prog 33 #[.string a, .string b] w fun e w' => e = .returned (.string (Dg (pairT a b))) ∧ Below w.heap.size w w' := by
  have HC : Hid (Calls Tryd.prog 26 #[.string ((⟨#[1]⟩ : BA) ++ a ++ b)] w fun e w' => e = .returned (.string (Dg (pairT a b))) ∧ Below w.heap.size w w') := Lib.hid (of_dg (pairT a b) w ht (by rw [pairT_size]; omega))
  clear ht
  go_enter Tryd.func33, Tryd.ntmps33
  go_wp2_with fail
  refine HC.out.mono ?_
  rintro e w1 ⟨rfl, hb⟩
  go_wp2
  go_ret
  exact ⟨rfl, hb⟩

theorem xor_one (a : Nat) : a ^^^ 1 = sib a := by
  have h1 : (a ^^^ 1) / 2 = a / 2 := by rw [Nat.xor_div_two]; simp
  have h2 : (a ^^^ 1) % 2 = (a + 1) % 2 := by
    have h := Nat.testBit_xor a 1 0
    rw [Nat.testBit_zero, Nat.testBit_zero, Nat.testBit_zero] at h
    have h5 : (a ^^^ 1) % 2 < 2 := Nat.mod_lt _ (by decide)
    generalize (a ^^^ 1) % 2 = x at *
    by_cases h3 : a % 2 = 1
    · rw [decide_eq_true h3] at h
      have h4 : ¬ x = 1 := by simpa using h
      omega
    · rw [decide_eq_false h3] at h
      have h4 : x = 1 := by simpa using h
      omega
  unfold sib
  split <;> omega
theorem xor_one_i64 (a : Nat) (ha : a ≤ 1000000) : bits .xor .i64 (a : Int) 1 = ((sib a : Nat) : Int) := by
  have hx : a ^^^ 1 ≤ 1000001 := by rw [xor_one]; unfold sib; split <;> omega
  have h1 : (BitVec.ofInt 64 (a : Int)).toNat = a := by
    rw [BitVec.ofInt_natCast, BitVec.toNat_ofNat]; exact Nat.mod_eq_of_lt (by omega)
  have h2 : (BitVec.ofInt 64 1).toNat = 1 := by decide
  show IntKind.i64.wrap ((BitVec.ofInt 64 (a : Int) ^^^ BitVec.ofInt 64 1).toNat : Int) = _
  rw [BitVec.toNat_xor, h1, h2, IntWalk.i64_in _ (by omega), xor_one]
theorem other_any (i : Nat) (w : World) (hi : i ≤ 1000000) : Calls Tryd.prog 31 #[.int .i64 i] w fun e w' => e = .returned (.int .i64 (sib i : Nat)) ∧ w = w' := by
  go_enter Tryd.func31, Tryd.ntmps31
  go_wp2
  go_ret
  exact ⟨ret_int (xor_one_i64 i hi), rfl⟩

/-- A literal of bytes, made a string. -/
theorem lit_back (w : World) (vs : List Int) (l : Bs) (h : vs = l.map fun b => (b.toNat : Int)) (cap : Nat) :
    (convert 44 9 (.slice (some ⟨w.heap.size, 0, none⟩) l.length cap)).run Tryd.prog (w.alloc (.cells (vs.map (Value.int .u8)).toArray 5)) = .ok (.string (str l)) (w.alloc (.cells (vs.map (Value.int .u8)).toArray 5)) := by
  refine run_convert_bytes_back (P := Tryd.prog) _ 44 9 5 ⟨w.heap.size, 0, none⟩ cap l Tryd.underlying44 Tryd.underlying5 Tryd.underlying9 (fun j hj => ?_)
  rw [Addr.add_mid, Nat.zero_add]
  refine (row_new w _ 5).cell ?_
  subst h
  simp [hj]
theorem num4_ints (n : Nat) (hn : n ≤ 4096) : [(n : Int) / 16777216, (n : Int) / 65536, (n : Int) / 256, (n : Int) % 256] = [UInt8.ofNat (n / 16777216), UInt8.ofNat (n / 65536), UInt8.ofNat (n / 256), UInt8.ofNat n].map fun b => (b.toNat : Int) := by
  simp
  omega
theorem rooted_any (n : Nat) (t : BA) (w : World) (ht : Tab w) (hn : n ≤ 4096) (hs : t.size ≤ 1000) : Calls Tryd.prog 24 #[.int .i64 n, .string t] w fun e w' => e = .returned (.string (Dg (crownT n t))) ∧ Below w.heap.size w w' := by
  have hb : (convert 44 9 (.slice (some ⟨w.heap.size, 0, none⟩) 4 4)).run Tryd.prog (w.alloc (.cells #[.int .u8 ((n : Int) / 16777216), .int .u8 ((n : Int) / 65536), .int .u8 ((n : Int) / 256), .int .u8 ((n : Int) % 256)] 5)) = .ok (.string (num4 n)) (w.alloc (.cells #[.int .u8 ((n : Int) / 16777216), .int .u8 ((n : Int) / 65536), .int .u8 ((n : Int) / 256), .int .u8 ((n : Int) % 256)] 5)) := lit_back w _ _ (num4_ints n hn) 4
  have HC : Hid (∀ W, Tab W → Calls Tryd.prog 26 #[.string ((⟨#[2]⟩ : BA) ++ num4 n ++ t)] W fun e w' => e = .returned (.string (Dg (crownT n t))) ∧ Below W.heap.size W w') := Lib.hid (fun W h => of_dg (crownT n t) W h (by rw [crownT_size]; omega))
  have HT : Hid (Tab (w.alloc (.cells #[.int .u8 ((n : Int) / 16777216), .int .u8 ((n : Int) / 65536), .int .u8 ((n : Int) / 256), .int .u8 ((n : Int) % 256)] 5))) := Lib.hid (ht.below (below1 _ _))
  have HB : Hid (Below w.heap.size w (w.alloc (.cells #[.int .u8 ((n : Int) / 16777216), .int .u8 ((n : Int) / 65536), .int .u8 ((n : Int) / 256), .int .u8 ((n : Int) % 256)] 5))) := Lib.hid (below1 _ _)
  have hsz : (num4 n).size ≤ 4 := Nat.le_refl 4
  clear ht
  go_enter Tryd.func24, Tryd.ntmps24
  go_wp2_with fail
  refine (HC.out _ HT.out).mono ?_
  rintro e w1 ⟨rfl, hb1⟩
  go_wp2
  go_ret
  exact ⟨rfl, below_trans HB.out hb1⟩
end Go.Proofs.YtnmhmemlgibedaaDoor
