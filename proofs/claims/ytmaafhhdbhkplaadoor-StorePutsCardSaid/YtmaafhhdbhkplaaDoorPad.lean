/- padding: what follows a text of so many bytes. -/
import Derived.Test.YtmaafhhdbhkplaaDoorMem
import Derived.Test.YtmaafhhdbhkplaaDoorBuild
import Derived.Laws.ShiftsVarLaws
namespace Go.Proofs.YtmaafhhdbhkplaaDoor
open Go.RowKit

/-- The first i of the eight bytes of a number, the highest first. -/
def be (x : Nat) : Nat → Bs
  | 0 => []
  | i + 1 => be x i ++ [UInt8.ofNat (x / 2 ^ (56 - 8 * i))]
theorem be_length (x : Nat) : ∀ i, (be x i).length = i
  | 0 => rfl
  | i + 1 => by rw [be, List.length_append, be_length x i]; rfl
/-- What follows a text of n bytes. -/
def padF (n : Nat) : Bs := 128 :: (List.replicate ((119 - n % 64) % 64) 0 ++ be (8 * n) 8)
theorem padF_length (n : Nat) : (padF n).length = (119 - n % 64) % 64 + 9 := by
  simp [padF, be_length]
theorem padF_whole (n : Nat) : (n + (padF n).length) % 64 = 0 := by
  rw [padF_length]
  have h := Nat.mod_lt n (show 0 < 64 by decide)
  omega

theorem byte_int (x k : Nat) : ((x : Int) / 2 ^ k % 256) = ((UInt8.ofNat (x / 2 ^ k)).toNat : Int) := by
  rw [UInt8.toNat_ofNat']
  have : ((x : Int) / 2 ^ k) = ((x / 2 ^ k : Nat) : Int) := by simp
  rw [this]
  omega

theorem isB_keep {B b : Nat} {bs : List Value} {w w' : World} (h : Lib.IsBuilderF 84 5 B b bs w) (hb : Below w.heap.size w w') : Lib.IsBuilderF 84 5 B b bs w' := by
  have hk : ∀ {p : Value}, Lib.BuilderAtF 84 5 B b p bs w → Lib.BuilderAtF 84 5 B b p bs w' := fun h => by
    obtain ⟨h1, v, hh, hown, hne⟩ := h
    refine ⟨h1, v, (hb.block b (Array.getElem?_eq_some_iff.1 hh).1).trans hh, ⟨hown.1, ?_⟩, hne⟩
    rcases hown.2 with h0 | ⟨g, cap, cur, fz, hv, hbs, hg, hr⟩
    · exact .inl h0
    · exact .inr ⟨g, cap, cur, fz, hv, hbs, (hb.block g (Array.getElem?_eq_some_iff.1 hg).1).trans hg, hr⟩
  exact h.imp hk hk

theorem repeat_zeros : ∀ n, Lib.repeatL [(0 : UInt8)] n = List.replicate n 0 := by
  intro n
  induction n with
  | zero => rfl
  | succ n ih => rw [Lib.repeatL, ih, List.replicate_succ]; rfl

abbrev str (l : Bs) : ByteArray := ⟨l.toArray⟩

set_option maxHeartbeats 1000000 in
theorem padding_any (n : Nat) (w : World) (hn : n ≤ 1152921504606846975) : Calls Tryd.prog 48 #[.int .u64 n] w fun e w' => e = .returned (.string (str (padF n))) ∧ Below w.heap.size w w' := by
  go_enter Tryd.func48, Tryd.ntmps48
  have HB0 : Hid (Lib.IsBuilderF 84 5 w.heap.size w.heap.size [] (w.alloc (.cells #[.pointer none, .slice none 0 0] 84))) := Lib.hid (Lib.IsBuilderF.of (Lib.fresh_isBuilder 84 5 w))
  have HW0 : Hid (Below w.heap.size w (w.alloc (.cells #[.pointer none, .slice none 0 0] 84))) := Lib.hid (below1 _ _)
  go_wp2_with fail
  generalize w.alloc (.cells #[.pointer none, .slice none 0 0] 84) = w1 at *
  refine (writeByte_any w.heap.size w.heap.size [] 128 w1 HB0.out (by simp) HW0.out.size).mono ?_
  rintro e w2 ⟨rfl, hat, hb2, -⟩
  go_wp2_with fail
  obtain ⟨z, hz⟩ : ∃ z : Nat, z = (119 - n % 64) % 64 := ⟨_, rfl⟩
  have hzi : (119 - (n : Int)) % 64 = (z : Int) := by omega
  rw [hzi]
  have hz64 : z < 64 := by omega
  have HZ := Lib.hid hz
  clear hz hzi
  have HB2 : Hid (Below w.heap.size w w2) := Lib.hid (HW0.out.trans hb2)
  have HI2 : Hid (Lib.IsBuilderF 84 5 w.heap.size w.heap.size (Lib.byteCells [128]) w2) := Lib.hid (.inr hat)
  clear hat hb2 HB0 HW0
  refine (Tryd.strings_Repeat ⟨#[0]⟩ z w2 (by omega) (by show 1 * z ≤ _; omega)).mono ?_
  rintro e w3 ⟨rfl, hb3⟩
  have HB3 : Hid (Below w.heap.size w w3) := Lib.hid (HB2.out.trans (hb3.mono HB2.out.size))
  have HI3 : Hid (Lib.IsBuilderF 84 5 w.heap.size w.heap.size (Lib.byteCells [128]) w3) := Lib.hid (isB_keep HI2.out hb3)
  clear HB2 HI2 hb3
  rw [show Lib.repeatL (⟨#[0]⟩ : ByteArray).data.toList z = List.replicate z 0 from repeat_zeros z]
  go_wp2_with fail
  refine (writeString_any w.heap.size w.heap.size (Lib.byteCells [128]) (str (List.replicate z 0)) w3 HI3.out (by show 1 + (List.replicate z (0 : UInt8)).toArray.size ≤ _; simp; omega) HB3.out.size).mono ?_
  rintro e w4 ⟨rfl, hat, hb4, -⟩
  have HB4 : Hid (Below w.heap.size w w4) := Lib.hid (HB3.out.trans hb4)
  have HI4 : Hid (Lib.IsBuilderF 84 5 w.heap.size w.heap.size (Lib.byteCells (128 :: List.replicate z 0 ++ be (8 * n) 0)) w4) := Lib.hid (.inr (by
    have e : Lib.byteCells (128 :: List.replicate z 0 ++ be (8 * n) 0) = Lib.byteCells [128] ++ Lib.strCells (str (List.replicate z 0)) := by
      simp [Lib.byteCells, Lib.strCells, be]
    rw [e]; exact hat))
  clear HB3 HI3 hat hb4
  go_wp2
  go_loopw [6] (fun x wr => ∃ i : Nat, i ≤ 8 ∧ x = .int .i64 (56 - 8 * (i : Int)) ∧ Hid (Below w.heap.size w wr) ∧ Hid (Lib.IsBuilderF 84 5 w.heap.size w.heap.size (Lib.byteCells (128 :: List.replicate z 0 ++ be (8 * n) i)) wr)) (fun x _ => (intOf x + 8).toNat)
  case atStart => exact ⟨0, by omega, rfl, HB4, HI4⟩
  case round =>
    clear HB4 HI4
    obtain ⟨i, hi, rfl, HB, HI⟩ := hrel
    by_cases h8 : i < 8
    · have t1 : (56 - 8 * (i : Int)).toNat = 56 - 8 * i := by omega
      have t2 : 0 ≤ 56 - 8 * (i : Int) := by omega
      go_wp2_with fail
      clear t1 t2
      have hlen : (Lib.byteCells (128 :: List.replicate z 0 ++ be (8 * n) i)).length = z + i + 1 := by simp [Lib.byteCells, be_length]
      refine (writeByte_any w.heap.size w.heap.size _ (8 * (n : Int) / 2 ^ (56 - 8 * i) % 256) wr HI.out (by rw [hlen]; omega) HB.out.size).mono ?_
      rintro e w5 ⟨rfl, hat, hb5, -⟩
      have HB5 : Hid (Below w.heap.size w w5) := Lib.hid (HB.out.trans hb5)
      have HI5 : Hid (Lib.IsBuilderF 84 5 w.heap.size w.heap.size (Lib.byteCells (128 :: List.replicate z 0 ++ be (8 * n) (i + 1))) w5) := Lib.hid (.inr (by
        have e1 : 8 * (n : Int) / 2 ^ (56 - 8 * i) % 256 = ((UInt8.ofNat (8 * n / 2 ^ (56 - 8 * i))).toNat : Int) := by
          rw [← byte_int]; simp
        have e : Lib.byteCells (128 :: List.replicate z 0 ++ be (8 * n) (i + 1)) = Lib.byteCells (128 :: List.replicate z 0 ++ be (8 * n) i) ++ [.int .u8 (8 * (n : Int) / 2 ^ (56 - 8 * i) % 256)] := by
          rw [e1, be]; simp [Lib.byteCells]
        rw [e]; exact hat))
      clear hat hb5 HB HI hlen
      go_wp2
      go_roundw
      case rel => exact ⟨i + 1, by omega, by go_num, HB5, HI5⟩
      case measure => simp [intOf]; omega
    · obtain rfl : i = 8 := by omega
      go_wp2_with fail
      refine (Tryd.Builder_String_any_k w.heap.size w.heap.size _ wr HI.out HB.out.size).mono ?_
      rintro e w5 ⟨rfl, -, hb5, -⟩
      go_wp2
      go_ret
      refine ⟨?_, HB.out.trans hb5⟩
      rw [HZ.out]
      rfl
end Go.Proofs.YtmaafhhdbhkplaaDoor
