/- Parse at every text; the document's Hex. -/
import Derived.Test.YtaogjmeofmfgkaaIs
import Derived.Deep.RegionHeld3
import Derived.Deep.AppendLies
namespace Go.Proofs.Ytaogjmeofmfgkaa
open Go.RowKit

theorem good_num {c : UInt8} (h : ¬ Bad c) : ∃ n : Nat, n < 16 ∧ Lib.indexByte dA.data.toList c = (n : Int) ∧ dL.getD n 0 = c := by
  have h1 := Lib.indexByte_ge dA.data.toList c
  unfold Bad at h
  obtain ⟨n, hn⟩ := Int.eq_ofNat_of_zero_le (show 0 ≤ Lib.indexByte dA.data.toList c by omega)
  have h2 := (Lib.indexByte_some hn).1
  have h3 := (List.getElem?_eq_some_iff.1 h2).1
  have h4 : n < 16 := h3
  refine ⟨n, h4, hn, ?_⟩
  rw [dL_at n h4] at h2
  exact Option.some.inj h2
/-- The value of the digit at place i. -/
def DS (s : ByteArray) (i : Nat) : Nat := (Lib.indexByte dA.data.toList (s.data.toList.getD i 0)).toNat

theorem parse_len (s : ByteArray) (w : World) (hs : s.size ≤ 1000000) (h : s.size ≠ 64) : Calls Try.prog 7 #[.string s] w fun e w' => e = .returned (.tuple #[.string ⟨#[]⟩, .int .i64 30]) ∧ w = w' := by
  have hb1 : ((s.size : Int) != 64) = true := by simp; omega
  go_enter Try.func7, Try.ntmps7
  go_wp2
  go_ret2
  exact ⟨rfl, rfl⟩

set_option maxHeartbeats 1000000 in
theorem parse_bad (s : ByteArray) (w : World) (hs : s.size = 64) (k : Nat) (hk : k < 64) (hkb : Bad (s.data.toList.getD k 0)) (hkg : ∀ i, i < k → ¬ Bad (s.data.toList.getD i 0)) :
    Calls Try.prog 7 #[.string s] w fun e w' => e = .returned (.tuple #[.string ⟨#[]⟩, .int .i64 30]) ∧ Below w.heap.size w w' := by
  have HG := Lib.hid hkg
  have HKB := Lib.hid hkb
  have hlb : (64 : Int) ≤ (s.size : Int) := by omega
  have hub : (s.size : Int) ≤ 64 := by omega
  have hb1 : ((s.size : Int) != 64) = false := by simp; omega
  have hget : ∀ i (h : i < s.size), s.data.toList.getD i 0 = s[i] := fun i h => by simp [List.getD, h]; rfl
  have HGET := Lib.hid hget
  clear hkg hkb hs hget
  have R0 : Hid (Row (w.alloc (.cells z32 38)) w.heap.size 38 (Lib.byteCells (List.replicate 32 0))) := Lib.hid (row_new w z32 38)
  have HB0 : Hid (Below w.heap.size w (w.alloc (.cells z32 38))) := Lib.hid (below1 _ _)
  go_enter Try.func7, Try.ntmps7
  go_wp2
  generalize w.alloc (.cells z32 38) = w1 at *
  go_loopw [12] (fun x wr => ∃ (i : Nat) (o : Bs), i ≤ k ∧ o.length = 32 ∧ x = .int .i64 i ∧ Hid (Row wr w.heap.size 38 (Lib.byteCells o)) ∧ Hid (Below w.heap.size w wr)) (fun x _ => 64 - (intOf x).toNat)
  case atStart => exact ⟨0, List.replicate 32 0, by omega, rfl, rfl, R0, HB0⟩
  case round =>
    clear R0 HB0
    obtain ⟨i, o, hi, hol, rfl, HR, HB⟩ := hrel
    have his : i < s.size := by omega
    have HOL := Lib.hid hol
    clear hol
    by_cases hlt : i < k
    · have hgd := HG.out i hlt
      rw [HGET.out i his] at hgd
      obtain ⟨d, hd, hd1, -⟩ := good_num hgd
      have IB : Hid (∀ W, Calls Try.prog 12 #[.string dA, .int .u8 (s[i].toNat : Int)] W fun e w' => e = .returned (.int .i64 (d : Int)) ∧ W = w') := Lib.hid (fun W => (Try.strings_IndexByte dA (s[i].toNat : Int) W).mono fun e w' ⟨he, hw⟩ => ⟨by rw [he, back_dig, hd1], hw.symm⟩)
      have hc := HR.out.cell (bytes_at o (i / 2) (by rw [HOL.out]; omega))
      have hf := HR.out.thaw (i / 2)
      generalize o.getD (i / 2) 0 = x at *
      clear hd1 hgd
      go_wp2_with fail
      refine (IB.out _).mono ?_
      rintro e w' ⟨rfl, rfl⟩
      go_wp2
      refine ⟨⟨i + 1, o.set (i / 2) (UInt8.ofNat (x.toNat * 16 + d)), by omega, by rw [List.length_set]; exact HOL.out, by go_num, Lib.hid ?_, Lib.hid (HB.out.setCell (p := ⟨w.heap.size, i / 2, none⟩) (Nat.le_refl _) _)⟩, ?_⟩
      · rw [or_digit x.toNat d x.toNat_lt hd]
        have h := HR.out.set (i / 2) (.int .u8 ((UInt8.ofNat (x.toNat * 16 + d)).toNat : Int))
        rw [bytes_set] at h
        exact h
      · simp [intOf]; omega
    · obtain rfl : i = k := by omega
      have hbd := HKB.out
      rw [HGET.out i his] at hbd
      have IB : Hid (∀ W, Calls Try.prog 12 #[.string dA, .int .u8 (s[i].toNat : Int)] W fun e w' => e = .returned (.int .i64 (-1)) ∧ W = w') := Lib.hid (fun W => (Try.strings_IndexByte dA (s[i].toNat : Int) W).mono fun e w' ⟨he, hw⟩ => ⟨by rw [he, back_dig, hbd], hw.symm⟩)
      clear hbd
      go_wp2_with fail
      refine (IB.out _).mono ?_
      rintro e w' ⟨rfl, rfl⟩
      go_wp2
      go_ret2
      exact ⟨rfl, HB.out⟩

/-- The first byte that is no digit. -/
theorem first_bad (l : Bs) (h : ∃ c ∈ l, Bad c) : ∃ k, k < l.length ∧ Bad (l.getD k 0) ∧ ∀ i, i < k → ¬ Bad (l.getD i 0) := by
  induction l with
  | nil => obtain ⟨c, hc, -⟩ := h; cases hc
  | cons x l ih =>
    by_cases hx : Bad x
    · exact ⟨0, by simp, hx, fun i hi => by omega⟩
    · obtain ⟨c, hc, hb⟩ := h
      rcases List.mem_cons.1 hc with rfl | hc
      · exact absurd hb hx
      · obtain ⟨k, hk, h1, h2⟩ := ih ⟨c, hc, hb⟩
        refine ⟨k + 1, by simp; omega, h1, fun i hi => ?_⟩
        cases i with
        | zero => exact hx
        | succ i => exact h2 i (by omega)
theorem parse_no (s : ByteArray) (w : World) (hs : s.size ≤ 1000000) (h : isB s = false) : Calls Try.prog 7 #[.string s] w fun e w' => e = .returned (.tuple #[.string ⟨#[]⟩, .int .i64 30]) ∧ Below w.heap.size w w' := by
  by_cases h64 : s.size = 64
  · obtain ⟨k, hk, h1, h2⟩ := first_bad s.data.toList (by
      unfold isB at h
      rw [decide_eq_false_iff_not] at h
      exact Classical.byContradiction fun hn => h ⟨h64, fun c hc hb => hn ⟨c, hc, hb⟩⟩)
    exact parse_bad s w h64 k (by simp at hk; omega) h1 h2
  · exact (parse_len s w hs h64).mono fun e w' ⟨he, hw⟩ => ⟨he, by rw [← hw]; exact Below.refl _ _⟩
theorem parse_yes (s : ByteArray) (w : World) (h : isB s = true) : Calls Try.prog 7 #[.string s] w fun e w' => e = .returned (.tuple #[.string (str (outF (DS s) 64)), .int .i64 0]) ∧ Below w.heap.size w w' := by
  unfold isB at h
  rw [decide_eq_true_iff] at h
  refine parse_good s w h.1 (DS s) (fun i hi => ?_)
  have hg : s.data.toList.getD i 0 = s[i] := by simp [List.getD, hi]; rfl
  obtain ⟨n, h1, h2, -⟩ := good_num (h.2 _ (get_mem s i hi))
  unfold DS
  rw [hg, h2]
  exact ⟨by simp, by simpa using h1⟩

/-- What was read, written again. -/
theorem outF_pair (D : Nat → Nat) (hD : ∀ i, i < 64 → D i < 16) : ∀ j, j ≤ 32 → ∀ k, k < 32 → ((outF D (2 * j)).getD k 0).toNat = if k < j then D (2 * k) * 16 + D (2 * k + 1) else 0
  | 0, _, k, hk => by
    show ((List.replicate 32 (0 : UInt8)).getD k 0).toNat = _
    rw [List.getD_eq_getElem?_getD, List.getElem?_replicate, if_pos hk, if_neg (by omega)]
    rfl
  | j + 1, hj, k, hk => by
    have ih := outF_pair D hD j (by omega)
    have hl := outF_length D (2 * j)
    have d0 := hD (2 * j) (by omega)
    have d1 := hD (2 * j + 1) (by omega)
    rw [show 2 * (j + 1) = 2 * j + 1 + 1 by omega, outF, outF, show (2 * j + 1) / 2 = j by omega, show 2 * j / 2 = j by omega, List.set_set]
    have e2 : (((outF D (2 * j)).set j (UInt8.ofNat (((outF D (2 * j)).getD j 0).toNat * 16 + D (2 * j)))).getD j 0).toNat = D (2 * j) := by
      rw [ih j (by omega), if_neg (by omega), List.getD_eq_getElem?_getD, List.getElem?_set_self (by omega), Option.getD_some, UInt8.toNat_ofNat']
      omega
    rw [e2]
    by_cases hkj : k = j
    · subst hkj
      rw [if_pos (by omega), List.getD_eq_getElem?_getD, List.getElem?_set_self (by omega), Option.getD_some, UInt8.toNat_ofNat']
      omega
    · have hne : j ≠ k := fun e => hkj e.symm
      rw [List.getD_eq_getElem?_getD, List.getElem?_set_ne hne, ← List.getD_eq_getElem?_getD, ih k hk]
      by_cases h1 : k < j
      · rw [if_pos h1, if_pos (by omega)]
      · rw [if_neg h1, if_neg (by omega)]
theorem hexs_eq (l : Bs) (m : Bs) : ∀ n, 2 * n ≤ m.length → (∀ j, j < n → hex1 (l.getD j 0) = [m.getD (2 * j) 0, m.getD (2 * j + 1) 0]) → hexs l n = m.take (2 * n)
  | 0, _, _ => rfl
  | n + 1, hm, h => by
    rw [hexs, hexs_eq l m n (by omega) (fun j hj => h j (by omega)), h n (by omega), show 2 * (n + 1) = 2 * n + 1 + 1 by omega, List.take_succ_eq_append_getElem (show 2 * n + 1 < m.length by omega), List.take_succ_eq_append_getElem (show 2 * n < m.length by omega), List.append_assoc]
    simp [List.getD, show 2 * n < m.length by omega, show 2 * n + 1 < m.length by omega]
theorem hex_back (s : ByteArray) (h : isB s = true) : hexs (outF (DS s) 64) 32 = s.data.toList := by
  unfold isB at h
  rw [decide_eq_true_iff] at h
  have hz : s.data.toList.length = 64 := by simpa using h.1
  have hds : ∀ i, i < 64 → DS s i < 16 ∧ dL.getD (DS s i) 0 = s.data.toList.getD i 0 := fun i hi => by
    obtain ⟨n, h1, h2, h3⟩ := good_num (h.2 (s.data.toList.getD i 0) (by
      rw [List.getD_eq_getElem?_getD, List.getElem?_eq_getElem (by omega)]; exact List.getElem_mem _))
    unfold DS
    rw [h2]
    exact ⟨by simpa using h1, by simpa using h3⟩
  have hp := outF_pair (DS s) (fun i hi => (hds i hi).1) 32 (by omega)
  rw [show 2 * 32 = 64 from rfl] at hp
  generalize outF (DS s) 64 = z at *
  have := hexs_eq z s.data.toList 32 (by omega) (fun j hj => by
    have h1 := hp j hj
    rw [if_pos hj] at h1
    have a1 := hds (2 * j) (by omega)
    have a2 := hds (2 * j + 1) (by omega)
    unfold hex1
    rw [h1, show (DS s (2 * j) * 16 + DS s (2 * j + 1)) / 16 = DS s (2 * j) by omega, show (DS s (2 * j) * 16 + DS s (2 * j + 1)) % 16 = DS s (2 * j + 1) by omega, a1.2, a2.2])
  rw [this, List.take_of_length_le (by omega)]
end Go.Proofs.Ytaogjmeofmfgkaa
