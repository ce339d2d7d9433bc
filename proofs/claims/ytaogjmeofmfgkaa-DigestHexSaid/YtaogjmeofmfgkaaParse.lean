/- Parse: the bytes of digits. -/
import Derived.Test.YtaogjmeofmfgkaaHex
import Derived.Laws.IdiomStrings
namespace Go.Proofs.Ytaogjmeofmfgkaa
open Go.RowKit

abbrev z32 : Array Value := #[.int .u8 0, .int .u8 0, .int .u8 0, .int .u8 0, .int .u8 0, .int .u8 0, .int .u8 0, .int .u8 0, .int .u8 0, .int .u8 0, .int .u8 0, .int .u8 0, .int .u8 0, .int .u8 0, .int .u8 0, .int .u8 0, .int .u8 0, .int .u8 0, .int .u8 0, .int .u8 0, .int .u8 0, .int .u8 0, .int .u8 0, .int .u8 0, .int .u8 0, .int .u8 0, .int .u8 0, .int .u8 0, .int .u8 0, .int .u8 0, .int .u8 0, .int .u8 0]
/-- What the digits D make of 32 bytes, behind the first i of them. -/
def outF (D : Nat → Nat) : Nat → Bs
  | 0 => List.replicate 32 0
  | i + 1 => (outF D i).set (i / 2) (UInt8.ofNat (((outF D i).getD (i / 2) 0).toNat * 16 + D i))
theorem outF_length (D : Nat → Nat) : ∀ i, (outF D i).length = 32
  | 0 => rfl
  | i + 1 => by rw [outF, List.length_set, outF_length D i]
theorem bytes_set (l : Bs) (i : Nat) (x : UInt8) : (Lib.byteCells l).set i (.int .u8 (x.toNat : Int)) = Lib.byteCells (l.set i x) := by
  simp [Lib.byteCells, List.map_set]
theorem or_digit (x D : Nat) (hx : x < 256) (hD : D < 16) : bits .or .u8 ((x : Int) * 16 % 256) (D : Int) = ((UInt8.ofNat (x * 16 + D)).toNat : Int) := by
  rw [UInt8.toNat_ofNat']
  have e1 : ((x : Int) * 16 % 256) = ((x % 16 * 2 ^ 4 : Nat) : Int) := by omega
  rw [e1, u8_or_nat _ _ (by omega) (by omega), or_shift _ _ 4 (by omega)]
  omega
theorem back_dig (c : UInt8) : ((c.toNat : Int)).toNat.toUInt8 = c := by
  rw [Int.toNat_natCast]; simp

set_option maxHeartbeats 1000000 in
theorem parse_good (s : ByteArray) (w : World) (hs : s.size = 64) (D : Nat → Nat) (hD : ∀ i (h : i < s.size), Lib.indexByte dA.data.toList s[i] = (D i : Int) ∧ D i < 16) :
    Calls Try.prog 7 #[.string s] w fun e w' => e = .returned (.tuple #[.string (str (outF D 64)), .int .i64 0]) ∧ Below w.heap.size w w' := by
  have HD := Lib.hid hD
  have HS := Lib.hid hs
  have hlb : (64 : Int) ≤ (s.size : Int) := by omega
  have hub : (s.size : Int) ≤ 64 := by omega
  have hb1 : ((s.size : Int) != 64) = false := by simp; omega
  clear hD hs
  have R0 : Hid (Row (w.alloc (.cells z32 38)) w.heap.size 38 (Lib.byteCells (outF D 0))) := Lib.hid (row_new w z32 38)
  have HB0 : Hid (Below w.heap.size w (w.alloc (.cells z32 38))) := Lib.hid (below1 _ _)
  go_enter Try.func7, Try.ntmps7
  go_wp2
  generalize w.alloc (.cells z32 38) = w1 at *
  go_loopw [12] (fun x wr => ∃ i : Nat, i ≤ 64 ∧ x = .int .i64 i ∧ Hid (Row wr w.heap.size 38 (Lib.byteCells (outF D i))) ∧ Hid (Below w.heap.size w wr)) (fun x _ => 64 - (intOf x).toNat)
  case atStart => exact ⟨0, by omega, rfl, R0, HB0⟩
  case round =>
    clear R0 HB0
    obtain ⟨i, hi, rfl, HR, HB⟩ := hrel
    by_cases hlt : i < 64
    · have his : i < s.size := by omega
      obtain ⟨hd1, hd2⟩ := HD.out i his
      have IB : Hid (∀ W, Calls Try.prog 12 #[.string dA, .int .u8 (s[i].toNat : Int)] W fun e w' => e = .returned (.int .i64 (D i : Int)) ∧ W = w') := Lib.hid (fun W => (Try.strings_IndexByte dA (s[i].toNat : Int) W).mono fun e w' ⟨he, hw⟩ => ⟨by rw [he, back_dig, hd1], hw.symm⟩)
      have HE : Hid (outF D (i + 1) = (outF D i).set (i / 2) (UInt8.ofNat (((outF D i).getD (i / 2) 0).toNat * 16 + D i))) := Lib.hid rfl
      have hc := HR.out.cell (bytes_at (outF D i) (i / 2) (by rw [outF_length]; omega))
      have hf := HR.out.thaw (i / 2)
      generalize (outF D i).getD (i / 2) 0 = o at *
      generalize D i = d at *
      clear hd1
      go_wp2_with fail
      refine (IB.out _).mono ?_
      rintro e w' ⟨rfl, rfl⟩
      go_wp2
      refine ⟨⟨i + 1, by omega, by go_num, Lib.hid ?_, Lib.hid (HB.out.setCell (p := ⟨w.heap.size, i / 2, none⟩) (Nat.le_refl _) _)⟩, ?_⟩
      · rw [HE.out, or_digit o.toNat d o.toNat_lt hd2]
        have h := HR.out.set (i / 2) (.int .u8 ((UInt8.ofNat (o.toNat * 16 + d)).toNat : Int))
        rw [bytes_set] at h
        exact h
      · simp [intOf]; omega
    · obtain rfl : i = 64 := by omega
      have hbk : (convert 29 9 (.slice (some ⟨w.heap.size, 0, none⟩) 32 32)).run Try.prog wr = .ok (.string (str (outF D 64))) wr := by
        have h5 := run_convert_bytes_back (P := Try.prog) wr 29 9 5 ⟨w.heap.size, 0, none⟩ 32 (outF D 64) Try.underlying29 Try.underlying5 Try.underlying9 (fun j hj => by
          rw [Addr.add_mid, Nat.zero_add, HR.out.cell (bytes_at (outF D 64) j hj)]
          simp [List.getD, hj])
        rw [outF_length] at h5
        exact h5
      generalize hR : str (outF D 64) = R at hbk
      have HRR := Lib.hid hR
      clear hR
      go_wp2
      go_ret2
      exact ⟨by rw [HRR.out]; rfl, HB.out⟩

end Go.Proofs.Ytaogjmeofmfgkaa
