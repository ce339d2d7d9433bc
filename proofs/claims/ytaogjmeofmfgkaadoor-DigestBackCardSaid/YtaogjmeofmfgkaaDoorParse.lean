/- Parse: the bytes of digits. -/
import Derived.Test.YtaogjmeofmfgkaaDoorHex
namespace Go.Proofs.YtaogjmeofmfgkaaDoor
open Go.RowKit

abbrev z32 : Array Value := #[.int .u8 0, .int .u8 0, .int .u8 0, .int .u8 0, .int .u8 0, .int .u8 0, .int .u8 0, .int .u8 0, .int .u8 0, .int .u8 0, .int .u8 0, .int .u8 0, .int .u8 0, .int .u8 0, .int .u8 0, .int .u8 0, .int .u8 0, .int .u8 0, .int .u8 0, .int .u8 0, .int .u8 0, .int .u8 0, .int .u8 0, .int .u8 0, .int .u8 0, .int .u8 0, .int .u8 0, .int .u8 0, .int .u8 0, .int .u8 0, .int .u8 0, .int .u8 0]
/-- What the digits D make of 32 bytes, behind the first i of them. -/
def outF (D : Nat → Nat) : Nat → Bs
  | 0 => List.replicate 32 0
  | i + 1 => (outF D i).set (i / 2) (UInt8.ofNat (((outF D i).getD (i / 2) 0).toNat * 16 + D i))
theorem outF_length (D : Nat → Nat) : ∀ i, (outF D i).length = 32
  | 0 => rfl
  | i + 1 => by rw [outF, List.length_set, outF_length D i]
theorem bytes_set (l : Bs) (i : Nat) (x : UInt8) : (Lib.byteCells l).set i (.int .u8 (x.toNat : Int)) = Lib.byteCells (l.set i x) := by
  simp [Lib.byteCells, List.map_set]
theorem or_digit (x D : Nat) (hx : x < 256) (hD : D < 16) : bits .or .u8 ((x : Int) * 16 % 256) (D : Int) = ((UInt8.ofNat (x * 16 + D)).toNat : Int) := by
  rw [UInt8.toNat_ofNat']
  have e1 : ((x : Int) * 16 % 256) = ((x % 16 * 2 ^ 4 : Nat) : Int) := by omega
  rw [e1, u8_or_nat _ _ (by omega) (by omega), or_shift _ _ 4 (by omega)]
  omega
theorem back_dig (c : UInt8) : ((c.toNat : Int)).toNat.toUInt8 = c := by
  rw [Int.toNat_natCast]; simp

set_option maxHeartbeats 1000000 in
theorem parse_good (s : ByteArray) (w : World) (hs : s.size = 64) (D : Nat → Nat) (hD : ∀ i (h : i < s.size), Lib.indexByte dA.data.toList s[i] = (D i : Int) ∧ D i < 16) :
    Calls Tryd.prog 12 #[.string s] w fun e w' => e = .returned (.tuple #[.string (str (outF D 64)), .int .i64 0]) ∧ Below w.heap.size w w' := by
  have HD := Lib.hid hD
  have HS := Lib.hid hs
  have hlb : (64 : Int) ≤ (s.size : Int) := by omega
  have hub : (s.size : Int) ≤ 64 := by omega
  have hb1 : ((s.size : Int) != 64) = false := by simp; omega
  clear hD hs
  have R0 : Hid (Row (w.alloc (.cells z32 41)) w.heap.size 41 (Lib.byteCells (outF D 0))) := Lib.hid (row_new w z32 41)
  have HB0 : Hid (Below w.heap.size w (w.alloc (.cells z32 41))) := Lib.hid (below1 _ _)
  go_enter Tryd.func12, Tryd.ntmps12
  go_wp2
  generalize w.alloc (.cells z32 41) = w1 at *
  go_loopw [12] (fun x wr => ∃ i : Nat, i ≤ 64 ∧ x = .int .i64 i ∧ Hid (Row wr w.heap.size 41 (Lib.byteCells (outF D i))) ∧ Hid (Below w.heap.size w wr)) (fun x _ => 64 - (intOf x).toNat)
  case atStart => exact ⟨0, by omega, rfl, R0, HB0⟩
  case round =>
    clear R0 HB0
    obtain ⟨i, hi, rfl, HR, HB⟩ := hrel
    by_cases hlt : i < 64
    · have his : i < s.size := by omega
      obtain ⟨hd1, hd2⟩ := HD.out i his
      have IB : Hid (∀ W, Calls Tryd.prog 20 #[.string dA, .int .u8 (s[i].toNat : Int)] W fun e w' => e = .returned (.int .i64 (D i : Int)) ∧ W = w') := Lib.hid (fun W => (Tryd.strings_IndexByte dA (s[i].toNat : Int) W).mono fun e w' ⟨he, hw⟩ => ⟨by rw [he, back_dig, hd1], hw.symm⟩)
      have HE : Hid (outF D (i + 1) = (outF D i).set (i / 2) (UInt8.ofNat (((outF D i).getD (i / 2) 0).toNat * 16 + D i))) := Lib.hid rfl
      have hc := HR.out.cell (bytes_at (outF D i) (i / 2) (by rw [outF_length]; omega))
      have hf := HR.out.thaw (i / 2)
      generalize (outF D i).getD (i / 2) 0 = o at *
      generalize D i = d at *
      clear hd1
      go_wp2_with fail
      refine (IB.out _).mono ?_
      rintro e w' ⟨rfl, rfl⟩
      go_wp2
      refine ⟨⟨i + 1, by omega, by go_num, Lib.hid ?_, Lib.hid (HB.out.setCell (p := ⟨w.heap.size, i / 2, none⟩) (Nat.le_refl _) _)⟩, ?_⟩
      · rw [HE.out, or_digit o.toNat d o.toNat_lt hd2]
        have h := HR.out.set (i / 2) (.int .u8 ((UInt8.ofNat (o.toNat * 16 + d)).toNat : Int))
        rw [bytes_set] at h
        exact h
      · simp [intOf]; omega
    · obtain rfl : i = 64 := by omega
      have hbk : (convert 44 9 (.slice (some ⟨w.heap.size, 0, none⟩) 32 32)).run Tryd.prog wr = .ok (.string (str (outF D 64))) wr := by
        have h5 := run_convert_bytes_back (P := Tryd.prog) wr 44 9 5 ⟨w.heap.size, 0, none⟩ 32 (outF D 64) Tryd.underlying44 Tryd.underlying5 Tryd.underlying9 (fun j hj => by
          rw [Addr.add_mid, Nat.zero_add, HR.out.cell (bytes_at (outF D 64) j hj)]
          simp [List.getD, hj])
        rw [outF_length] at h5
        exact h5
      generalize hR : str (outF D 64) = R at hbk
      have HRR := Lib.hid hR
      clear hR
      go_wp2
      go_ret2
      exact ⟨by rw [HRR.out]; rfl, HB.out⟩

/-! What Hex writes of a digest, read again. -/
theorem hexs_at (l : Bs) (n j : Nat) (h : j < n) : (hexs l n)[2 * j]? = some (dL.getD ((l.getD j 0).toNat / 16) 0) ∧ (hexs l n)[2 * j + 1]? = some (dL.getD ((l.getD j 0).toNat % 16) 0) := by
  induction n with
  | zero => omega
  | succ n ih =>
    rw [hexs]
    have hl := hexs_length l n
    by_cases hj : j < n
    · rw [List.getElem?_append_left (by omega), List.getElem?_append_left (by omega)]
      exact ih hj
    · obtain rfl : j = n := by omega
      rw [List.getElem?_append_right (by omega), List.getElem?_append_right (by omega), hl, Nat.sub_self, show 2 * j + 1 - 2 * j = 1 by omega]
      exact ⟨rfl, rfl⟩
theorem dig_back : ∀ n, n < 16 → Lib.indexByte dA.data.toList (dL.getD n 0) = (n : Int) := by decide
def digOf (d : Bs) (i : Nat) : Nat := if i % 2 = 0 then (d.getD (i / 2) 0).toNat / 16 else (d.getD (i / 2) 0).toNat % 16
theorem outF_two (d : Bs) : ∀ j, j ≤ 32 → ∀ k, k < 32 → (outF (digOf d) (2 * j)).getD k 0 = if k < j then d.getD k 0 else 0
  | 0, _, k, hk => by
    show (List.replicate 32 (0 : UInt8)).getD k 0 = _
    rw [List.getD_eq_getElem?_getD, List.getElem?_replicate, if_pos hk, if_neg (by omega)]
    rfl
  | j + 1, hj, k, hk => by
    have ih := outF_two d j (by omega)
    have hl := outF_length (digOf d) (2 * j)
    rw [show 2 * (j + 1) = 2 * j + 1 + 1 by omega, outF, outF, show (2 * j + 1) / 2 = j by omega, show 2 * j / 2 = j by omega]
    have e0 : digOf d (2 * j) = (d.getD j 0).toNat / 16 := by unfold digOf; rw [if_pos (by omega), show 2 * j / 2 = j by omega]
    have e1 : digOf d (2 * j + 1) = (d.getD j 0).toNat % 16 := by unfold digOf; rw [if_neg (by omega), show (2 * j + 1) / 2 = j by omega]
    rw [e0, e1, List.set_set]
    have e2 : ((outF (digOf d) (2 * j)).set j (UInt8.ofNat (((outF (digOf d) (2 * j)).getD j 0).toNat * 16 + (d.getD j 0).toNat / 16))).getD j 0 = UInt8.ofNat ((d.getD j 0).toNat / 16) := by
      rw [ih j (by omega), if_neg (by omega)]
      simp [List.getD, hl, show j < 32 by omega]
    rw [e2]
    by_cases hkj : k = j
    · subst hkj
      rw [if_pos (by omega)]
      have hb := (d.getD k 0).toNat_lt
      simp only [List.getD_eq_getElem?_getD, List.getElem?_set_self (show k < (outF (digOf d) (2 * k)).length by omega), Option.getD_some]
      apply UInt8.toNat_inj.1
      simp only [UInt8.toNat_ofNat']
      rw [← List.getD_eq_getElem?_getD]
      omega
    · have hne : j ≠ k := fun e => hkj e.symm
      have e3 : ∀ x, ((outF (digOf d) (2 * j)).set j x).getD k 0 = (outF (digOf d) (2 * j)).getD k 0 := fun x => by
        rw [List.getD_eq_getElem?_getD, List.getD_eq_getElem?_getD, List.getElem?_set_ne hne]
      rw [e3, ih k hk]
      by_cases h1 : k < j
      · rw [if_pos h1, if_pos (by omega)]
      · rw [if_neg h1, if_neg (by omega)]
theorem outF_all (d : Bs) (hd : d.length = 32) : outF (digOf d) 64 = d := by
  apply List.ext_getElem (by rw [outF_length, hd])
  intro k h1 h2
  rw [outF_length] at h1
  have h3 := outF_two d 32 (by omega) k h1
  have h4 : k < (outF (digOf d) 64).length := by rw [outF_length]; exact h1
  rw [if_pos h1, show 2 * 32 = 64 from rfl] at h3
  generalize outF (digOf d) 64 = z at *
  have this := h3
  rw [List.getD_eq_getElem?_getD, List.getD_eq_getElem?_getD, List.getElem?_eq_getElem h4, List.getElem?_eq_getElem h2] at this
  exact this

theorem str_get (l : Bs) (i : Nat) (c : UInt8) (hc : l[i]? = some c) (h : i < (str l).size) : (str l)[i] = c := by
  have := (List.getElem?_eq_some_iff.1 hc).2
  rw [← this]; rfl
theorem parse_hex (d : Bs) (w : World) (hd : d.length = 32) : Calls Tryd.prog 12 #[.string (str (hexs d 32))] w fun e w' => e = .returned (.tuple #[.string (str d), .int .i64 0]) ∧ Below w.heap.size w w' := by
  have hz : (hexs d 32).length = 64 := hexs_length d 32
  have hat := fun j h => hexs_at d 32 j h
  generalize hexs d 32 = l at *
  have hz2 : (str l).size = 64 := by show l.toArray.size = 64; rw [List.size_toArray, hz]
  have h := parse_good (str l) w hz2 (digOf d) (fun i hi => by
    have hi2 : i < 64 := by rw [hz2] at hi; exact hi
    have hb := ((d.getD (i / 2) 0)).toNat_lt
    obtain ⟨g1, g2⟩ := hat (i / 2) (by omega)
    unfold digOf
    by_cases h0 : i % 2 = 0
    · rw [if_pos h0]
      rw [show 2 * (i / 2) = i by omega] at g1
      rw [str_get l i _ g1 hi]
      exact ⟨dig_back _ (by omega), by omega⟩
    · rw [if_neg h0]
      rw [show 2 * (i / 2) + 1 = i by omega] at g2
      rw [str_get l i _ g2 hi]
      exact ⟨dig_back _ (by omega), by omega⟩)
  rw [outF_all d hd] at h
  exact h
end Go.Proofs.YtaogjmeofmfgkaaDoor
