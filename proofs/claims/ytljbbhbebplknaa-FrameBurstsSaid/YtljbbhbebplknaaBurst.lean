/- FrameBursts: the law's walk. -/
import Derived.Test.YtljbbhbebplknaaBytes
import Derived.Deep.RegionWith
namespace Go.Proofs.Ytljbbhbebplknaa
open Go.RowKit

set_option maxHeartbeats 3200000 in
theorem bursts_empty (s : ByteArray) (a1 : Int) (a2 : Int) (w : World) (h0 : s.size ≤ 140737488351232) (hz : (cutS s).size = 0) : Calls Try.prog 8 #[.string s, .int .i64 a1, .int .u32 a2] w fun e w' => e = .returned (.bool true) ∧ Below w.heap.size w w' := by
  have hconv := run_bytes_of_string (P := Try.prog) w 9 34 5 (cutS s) Try.underlying9 Try.underlying34 Try.underlying5
  rw [hz] at hconv
  go_enter Try.func8, Try.ntmps8
  go_wp2_with fail
  refine (short_any s _ h0).mono ?_
  rintro e w1 ⟨rfl, rfl⟩
  generalize cutS s = c at *
  go_wp2_with fail
  refine (sumE_any _).mono ?_
  rintro e w2 ⟨rfl, rfl⟩
  go_wp2_with fail
  refine (sumA_any _).mono ?_
  rintro e w2 ⟨rfl, rfl⟩
  go_wp2
  go_ret
  exact ⟨rfl, (below1 w _).drew⟩

theorem bit_int (x : UInt8) (p : Nat) (hp : p < 8) : (UInt8.ofNat (2 ^ p)).toNat = 2 ^ p ∧ bits .xor .u8 (x.toNat : Int) (2 ^ p % 256) = (((x ^^^ UInt8.ofNat (2 ^ p)).toNat : Nat) : Int) := by
  have h : p = 0 ∨ p = 1 ∨ p = 2 ∨ p = 3 ∨ p = 4 ∨ p = 5 ∨ p = 6 ∨ p = 7 := by omega
  rcases h with rfl | rfl | rfl | rfl | rfl | rfl | rfl | rfl
  all_goals
    refine ⟨by decide, ?_⟩
    rw [UInt8.toNat_xor]
    exact u8_xor_nat _ _ x.toNat_lt (by decide)
theorem from_neg (a : Int) (n : Nat) (hn : 0 < n) (ha : a < 0) : ∃ f : Nat, -(a + 1).tmod (8 * (n : Int)) = (f : Int) ∧ f < 8 * n := by
  have h1 : -(a + 1).tmod (8 * (n : Int)) = (-(a + 1)) % (8 * (n : Int)) := by rw [← Int.neg_tmod, Int.tmod_eq_emod_of_nonneg (by omega)]
  have h2 := Int.emod_nonneg (-(a + 1)) (show (8 * (n : Int)) ≠ 0 by omega)
  have h3 := Int.emod_lt_of_pos (-(a + 1)) (show 0 < 8 * (n : Int) by omega)
  exact ⟨((-(a + 1)) % (8 * (n : Int))).toNat, by rw [h1]; omega, by omega⟩
theorem from_pos (a : Int) (n : Nat) (hn : 0 < n) : ∃ f : Nat, a % (8 * (n : Int)) = (f : Int) ∧ f < 8 * n := by
  have h2 := Int.emod_nonneg a (show (8 * (n : Int)) ≠ 0 by omega)
  have h3 := Int.emod_lt_of_pos a (show 0 < 8 * (n : Int) by omega)
  exact ⟨(a % (8 * (n : Int))).toNat, by omega, by omega⟩

set_option maxHeartbeats 3200000 in
theorem bursts_some (s c : ByteArray) (a1 : Int) (a2 : Nat) (w : World) (hS : ∀ W, Calls Try.prog 13 #[.string s] W fun e w' => e = .returned (.string c) ∧ W = w') (hcs : c.size ≤ 20000) (hz : 0 < c.size) (h1 : -9223372036854775808 ≤ a1) (h1' : a1 ≤ 9223372036854775807) (h2' : a2 < 4294967296) : Calls Try.prog 8 #[.string s, .int .i64 a1, .int .u32 a2] w fun e w' => e = .returned (.bool true) ∧ Below w.heap.size w w' := by
  have hconv := run_bytes_of_string (P := Try.prog) w 9 34 5 c Try.underlying9 Try.underlying34 Try.underlying5
  have HB := Lib.hid (bytesAt_new w c (grownCap w c.size 0 5) _ rfl)
  have HW := Lib.hid (below1 w (.cells (bytesRow c (grownCap w c.size 0 5)) 5 ((bytesRow c (grownCap w c.size 0 5)).size, (bytesRow c (grownCap w c.size 0 5)).size + 1)))
  have HS := Lib.hid hS
  clear hS
  generalize grownCap w c.size 0 5 = cap at *
  generalize (bytesRow c cap).size = bz at *
  have hcb : (((c.size : Nat) : Int) == 0) = false := by simp only [beq_eq_false_iff_ne, ne_eq]; omega
  by_cases ha : a1 < 0
  · go_enter Try.func8, Try.ntmps8
    go_wp2_with fail
    refine (HS.out _).mono ?_
    rintro e w1 ⟨rfl, rfl⟩
    go_wp2
    obtain ⟨f, hf, hfl⟩ := from_neg a1 c.size hz ha
    rw [hf]
    clear hf ha
    have HB' : Hid (BytesAt (w.alloc (.cells (bytesRow c cap) 5 (bz, bz + 1))).drew w.heap.size c.data.toList) := Lib.hid (HB.out.of_cells rfl)
    have HW' : Hid (Below w.heap.size w (w.alloc (.cells (bytesRow c cap) 5 (bz, bz + 1))).drew) := Lib.hid HW.out.drew
    clear HB HW hconv hcb
    generalize (w.alloc (.cells (bytesRow c cap) 5 (bz, bz + 1))).drew = W at *
    have HSZ : Hid (c.data.toList.length = c.size) := Lib.hid (ba_size c)
    go_loopw [33] (fun x wr => ∃ (i : Nat) (l : Bs), i ≤ 32 ∧ x = .int .i64 i ∧ Hid (BytesAt wr w.heap.size l) ∧ Hid (Turned c.data.toList l f i) ∧ Hid (Below w.heap.size w wr)) (fun x _ => 32 - (intOf x).toNat)
    case atStart => exact ⟨0, c.data.toList, by omega, rfl, HB', Lib.hid (Turned.start _ _), HW'⟩
    case round =>
      clear HB' HW'
      obtain ⟨i, l, hi, rfl, HB, HT, HW⟩ := hrel
      by_cases hi32 : i < 32
      · by_cases hk : f + i < 8 * c.size
        · have hlen : l.length = c.size := HT.out.1.trans HSZ.out
          have hK : (f + i) / 8 < l.length := by omega
          have hcell := HB.out.cell _ hK
          have hthaw := HB.out.thaw _ hK
          have hx : Hid (l[(f + i) / 8]? = some l[(f + i) / 8]) := Lib.hid (List.getElem?_eq_getElem hK)
          generalize l[(f + i) / 8] = x at *
          have HL := Lib.hid hlen
          clear hlen hK
          go_wp2
          · go_region
            go_wp2
            have hm := Lib.hid (bit_int x ((f + i) % 8) (Nat.mod_lt _ (by decide))).1
            have hv := Lib.hid (bit_int x ((f + i) % 8) (Nat.mod_lt _ (by decide))).2
            have hK : (f + i) / 8 < l.length := by have := HL.out; omega
            refine ⟨⟨i + 1, l.set ((f + i) / 8) (x ^^^ UInt8.ofNat (2 ^ ((f + i) % 8))), by omega, by go_num, Lib.hid ?_, Lib.hid (HT.out.turn x hx.out _ hm.out), Lib.hid ?_⟩, ?_⟩
            · rw [hv.out]; exact (HB.out.set _ hK _).of_cells rfl
            · exact (HW.out.setCell (p := ⟨w.heap.size, (f + i) / 8, none⟩) (Nat.le_refl _) _).drew
            · simp [intOf]; omega
          · refine ⟨⟨i + 1, l, by omega, by go_num, HB, Lib.hid HT.out.skip, HW⟩, ?_⟩
            simp [intOf]; omega
        · go_wp2
          go_roundw
          case rel => exact ⟨i + 1, l, by omega, by go_num, HB, Lib.hid HT.out.skip, HW⟩
          case measure => simp [intOf]; omega
      · obtain rfl : i = 32 := by omega
        go_wp2_with fail
        refine (HS.out _).mono ?_
        rintro e w1 ⟨rfl, rfl⟩
        have hbk : ∀ n, (convert 34 9 (.slice (some ⟨w.heap.size, 0, none⟩) c.size cap)).run Try.prog (wr.drewN n) = .ok (.string ⟨l.toArray⟩) (wr.drewN n) := fun n => (HB.out.of_cells (W' := wr.drewN n) rfl).back _ (HT.out.1.trans HSZ.out) cap
        have hsum1 : Hid (∀ W, Calls Try.prog 10 #[.string c] W fun e w' => e = .returned (.int .u32 (crc c.data.toList)) ∧ w' = W) := Lib.hid (fun W => (sum_any c W (by omega)).mono fun e w' ⟨he, hw⟩ => ⟨he, hw.symm⟩)
        have hsum2 : Hid (∀ W, Calls Try.prog 10 #[.string ⟨l.toArray⟩] W fun e w' => e = .returned (.int .u32 (crc l)) ∧ w' = W) := Lib.hid (fun W => (sum_any ⟨l.toArray⟩ W (by have := HT.out.1.trans HSZ.out; show l.toArray.size ≤ _; simp; omega)).mono fun e w' ⟨he, hw⟩ => ⟨he, hw.symm⟩)
        go_wp2
        go_quiet (first
          | (go_at_call_of 10 c; exact Calls.quiet_of_same (hsum1.out _))
          | (go_at_call 10; exact Calls.quiet_of_same (hsum2.out _)))
        go_wp2
        go_ret
        refine ⟨ret_bool ?_, below_drewN HW.out nq⟩
        have h3 := HT.out.same (by rw [HSZ.out]; omega)
        rw [ByteArray.toList_eq]
        by_cases h4 : c.data.toList = l
        · simp [h4]
        · have h5 : ¬ crc c.data.toList = crc l := fun h => h4 (h3.1 h)
          have e1 : (((crc c.data.toList : Nat) : Int) == ((crc l : Nat) : Int)) = false := by simp only [beq_eq_false_iff_ne, ne_eq]; omega
          have e2 : (c.data.toList == l) = false := by simpa using h4
          rw [e1, e2]; rfl
  · go_enter Try.func8, Try.ntmps8
    go_wp2_with fail
    refine (HS.out _).mono ?_
    rintro e w1 ⟨rfl, rfl⟩
    go_wp2
    obtain ⟨f, hf, hfl⟩ := from_pos a1 c.size hz
    rw [hf]
    clear hf ha
    have HB' : Hid (BytesAt (w.alloc (.cells (bytesRow c cap) 5 (bz, bz + 1))).drew w.heap.size c.data.toList) := Lib.hid (HB.out.of_cells rfl)
    have HW' : Hid (Below w.heap.size w (w.alloc (.cells (bytesRow c cap) 5 (bz, bz + 1))).drew) := Lib.hid HW.out.drew
    clear HB HW hconv hcb
    generalize (w.alloc (.cells (bytesRow c cap) 5 (bz, bz + 1))).drew = W at *
    have HSZ : Hid (c.data.toList.length = c.size) := Lib.hid (ba_size c)
    go_loopw [33] (fun x wr => ∃ (i : Nat) (l : Bs), i ≤ 32 ∧ x = .int .i64 i ∧ Hid (BytesAt wr w.heap.size l) ∧ Hid (Turned c.data.toList l f i) ∧ Hid (Below w.heap.size w wr)) (fun x _ => 32 - (intOf x).toNat)
    case atStart => exact ⟨0, c.data.toList, by omega, rfl, HB', Lib.hid (Turned.start _ _), HW'⟩
    case round =>
      clear HB' HW'
      obtain ⟨i, l, hi, rfl, HB, HT, HW⟩ := hrel
      by_cases hi32 : i < 32
      · by_cases hk : f + i < 8 * c.size
        · have hlen : l.length = c.size := HT.out.1.trans HSZ.out
          have hK : (f + i) / 8 < l.length := by omega
          have hcell := HB.out.cell _ hK
          have hthaw := HB.out.thaw _ hK
          have hx : Hid (l[(f + i) / 8]? = some l[(f + i) / 8]) := Lib.hid (List.getElem?_eq_getElem hK)
          generalize l[(f + i) / 8] = x at *
          have HL := Lib.hid hlen
          clear hlen hK
          go_wp2
          · go_region
            go_wp2
            have hm := Lib.hid (bit_int x ((f + i) % 8) (Nat.mod_lt _ (by decide))).1
            have hv := Lib.hid (bit_int x ((f + i) % 8) (Nat.mod_lt _ (by decide))).2
            have hK : (f + i) / 8 < l.length := by have := HL.out; omega
            refine ⟨⟨i + 1, l.set ((f + i) / 8) (x ^^^ UInt8.ofNat (2 ^ ((f + i) % 8))), by omega, by go_num, Lib.hid ?_, Lib.hid (HT.out.turn x hx.out _ hm.out), Lib.hid ?_⟩, ?_⟩
            · rw [hv.out]; exact (HB.out.set _ hK _).of_cells rfl
            · exact (HW.out.setCell (p := ⟨w.heap.size, (f + i) / 8, none⟩) (Nat.le_refl _) _).drew
            · simp [intOf]; omega
          · refine ⟨⟨i + 1, l, by omega, by go_num, HB, Lib.hid HT.out.skip, HW⟩, ?_⟩
            simp [intOf]; omega
        · go_wp2
          go_roundw
          case rel => exact ⟨i + 1, l, by omega, by go_num, HB, Lib.hid HT.out.skip, HW⟩
          case measure => simp [intOf]; omega
      · obtain rfl : i = 32 := by omega
        go_wp2_with fail
        refine (HS.out _).mono ?_
        rintro e w1 ⟨rfl, rfl⟩
        have hbk : ∀ n, (convert 34 9 (.slice (some ⟨w.heap.size, 0, none⟩) c.size cap)).run Try.prog (wr.drewN n) = .ok (.string ⟨l.toArray⟩) (wr.drewN n) := fun n => (HB.out.of_cells (W' := wr.drewN n) rfl).back _ (HT.out.1.trans HSZ.out) cap
        have hsum1 : Hid (∀ W, Calls Try.prog 10 #[.string c] W fun e w' => e = .returned (.int .u32 (crc c.data.toList)) ∧ w' = W) := Lib.hid (fun W => (sum_any c W (by omega)).mono fun e w' ⟨he, hw⟩ => ⟨he, hw.symm⟩)
        have hsum2 : Hid (∀ W, Calls Try.prog 10 #[.string ⟨l.toArray⟩] W fun e w' => e = .returned (.int .u32 (crc l)) ∧ w' = W) := Lib.hid (fun W => (sum_any ⟨l.toArray⟩ W (by have := HT.out.1.trans HSZ.out; show l.toArray.size ≤ _; simp; omega)).mono fun e w' ⟨he, hw⟩ => ⟨he, hw.symm⟩)
        go_wp2
        go_quiet (first
          | (go_at_call_of 10 c; exact Calls.quiet_of_same (hsum1.out _))
          | (go_at_call 10; exact Calls.quiet_of_same (hsum2.out _)))
        go_wp2
        go_ret
        refine ⟨ret_bool ?_, below_drewN HW.out nq⟩
        have h3 := HT.out.same (by rw [HSZ.out]; omega)
        rw [ByteArray.toList_eq]
        by_cases h4 : c.data.toList = l
        · simp [h4]
        · have h5 : ¬ crc c.data.toList = crc l := fun h => h4 (h3.1 h)
          have e1 : (((crc c.data.toList : Nat) : Int) == ((crc l : Nat) : Int)) = false := by simp only [beq_eq_false_iff_ne, ne_eq]; omega
          have e2 : (c.data.toList == l) = false := by simpa using h4
          rw [e1, e2]; rfl

theorem bursts_any (s : ByteArray) (a1 : Int) (a2 : Nat) (w : World) (h0 : s.size ≤ 140737488351232) (h1 : -9223372036854775808 ≤ a1) (h1' : a1 ≤ 9223372036854775807) (h2' : a2 < 4294967296) : Calls Try.prog 8 #[.string s, .int .i64 a1, .int .u32 a2] w fun e w' => e = .returned (.bool true) ∧ Below w.heap.size w w' := by
  by_cases hz : (cutS s).size = 0
  · exact bursts_empty s a1 a2 w h0 hz
  · exact bursts_some s (cutS s) a1 a2 w (fun W => short_any s W h0) (cut_size s) (by omega) h1 h1' h2'

end Go.Proofs.Ytljbbhbebplknaa
