/- FrameTorn: the law's walk. -/
import Derived.Test.YtljbbhbebplknaaLike
import Derived.Test.YtljbbhbebplknaaBytes
namespace Go.Proofs.Ytljbbhbebplknaa
open Go.RowKit

theorem at_neg (a : Int) (n : Nat) (hn : 0 < n) (ha : a < 0) : ∃ f : Nat, -(a + 1).tmod (n : Int) = (f : Int) ∧ f < n := by
  have h1 : -(a + 1).tmod (n : Int) = (-(a + 1)) % (n : Int) := by rw [← Int.neg_tmod, Int.tmod_eq_emod_of_nonneg (by omega)]
  have h2 := Int.emod_nonneg (-(a + 1)) (show (n : Int) ≠ 0 by omega)
  have h3 := Int.emod_lt_of_pos (-(a + 1)) (show 0 < (n : Int) by omega)
  exact ⟨((-(a + 1)) % (n : Int)).toNat, by rw [h1]; omega, by omega⟩
theorem at_pos (a : Int) (n : Nat) (hn : 0 < n) : ∃ f : Nat, a % (n : Int) = (f : Int) ∧ f < n := by
  have h2 := Int.emod_nonneg a (show (n : Int) ≠ 0 by omega)
  have h3 := Int.emod_lt_of_pos a (show 0 < (n : Int) by omega)
  exact ⟨(a % (n : Int)).toNat, by omega, by omega⟩

/-- What is asked of the frame f of a body: no frame begins in a beginning of it, or where one byte was turned. -/
structure IsFrame (f : ByteArray) : Prop where
  long : 12 ≤ f.size
  short : f.size ≤ 20012
  cut : ∀ k, k < f.size → firstF (f.data.toList.take k) = none
  torn : ∀ k x m more, f.data.toList[k]? = some x → m ≠ 0 → firstF (f.data.toList.set k (x ^^^ m) ++ more) = none
theorem isFrame_of (l : Bs) (h : l.length ≤ 20000) : IsFrame (str (frameF l)) := by
  have hz : (str (frameF l)).size = l.length + 12 := by show (frameF l).toArray.size = _; simp
  refine ⟨by omega, by omega, fun k hk => cut_none l k (by omega) (by rw [frameF_length]; omega), fun k x m more hx hm => torn_none l k x m more (by omega) hx hm⟩

set_option maxRecDepth 100000 in
set_option maxHeartbeats 3200000 in
theorem torn_walk (s f more c2 : ByteArray) (at_ : Int) (mask : UInt8) (w : World) (hS : ∀ W, Calls Try.prog 13 #[.string s] W fun e w' => e = .returned (.string (cutS s)) ∧ W = w')
    (hP : ∀ W, Calls Try.prog 9 #[.string (cutS s)] W fun e w' => e = .returned (.tuple #[.string f, .int .i64 0]) ∧ Below W.heap.size W w') (hF : IsFrame f)
    (hM : ∀ W, Calls Try.prog 13 #[.string more] W fun e w' => e = .returned (.string c2) ∧ W = w') (hc2 : c2.size ≤ 20000)
    (h1 : -9223372036854775808 ≤ at_) (h1' : at_ ≤ 9223372036854775807) : Calls Try.prog 7 #[.string s, .int .i64 at_, .int .u8 mask.toNat, .string more] w fun e w' => e = .returned (.bool true) ∧ Below w.heap.size w w' := by
  have HS := Lib.hid hS
  have HP := Lib.hid hP
  have HM := Lib.hid hM
  have HF := Lib.hid hF
  have hf12 := hF.long
  have hfs := hF.short
  clear hS hP hM hF
  generalize cutS s = c at *
  by_cases ha : at_ < 0
  · obtain ⟨k, hE, hk⟩ := at_neg at_ f.size (by omega) ha
    have hE : (at_ + 1).tmod (f.size : Int) = -(k : Int) := by omega
    have HC : Hid (∀ W, Calls Try.prog 14 #[.string (f.extract 0 k)] W fun e w' => (∃ a cap, e = .returned (.tuple #[.slice a 0 cap, .int .i64 0])) ∧ Below W.heap.size W w') := Lib.hid (fun W => scan_none _ W (by rw [extract_size _ _ _ (by omega)]; omega) (by rw [extract_list]; simpa using HF.out.cut k hk))
    go_enter Try.func7, Try.ntmps7
    go_wp2_with fail
    refine (HS.out _).mono ?_
    rintro e w1 ⟨rfl, rfl⟩
    go_wp2_with fail
    refine (HP.out _).mono ?_
    rintro e w1 ⟨rfl, hb1⟩
    go_wp2_with fail
    refine (HC.out _).mono ?_
    rintro e w2 ⟨⟨a, cap, rfl⟩, hb2⟩
    (try rw [hE])
    clear hE
    have HB2 : Hid (Below w.heap.size w w2) := Lib.hid (hb1.trans (hb2.mono hb1.size))
    have hsz : w.heap.size ≤ w2.heap.size := HB2.out.size
    clear hb1 hb2
    by_cases hm : mask = 0
    · subst hm
      go_wp2
      go_ret
      exact ⟨rfl, HB2.out⟩
    · have hmb : ((mask.toNat : Int) == 0) = false := by
        simp only [beq_eq_false_iff_ne, ne_eq]
        intro h
        exact hm (UInt8.toNat_inj.1 (by simpa using h))
      have HMK := Lib.hid hm
      clear hm
      have hconv := run_bytes_of_string (P := Try.prog) w2 9 34 5 f Try.underlying9 Try.underlying34 Try.underlying5
      have HB := Lib.hid (bytesAt_new w2 f (grownCap w2 f.size 0 5) _ rfl)
      generalize grownCap w2 f.size 0 5 = cap2 at *
      generalize (bytesRow f cap2).size = bz at *
      have hK : k < f.data.toList.length := by rw [ba_size]; exact hk
      have hx : Hid (f.data.toList[k]? = some f.data.toList[k]) := Lib.hid (List.getElem?_eq_getElem hK)
      have hcell := (HB.out.of_cells (W' := (w2.alloc (.cells (bytesRow f cap2) 5 (bz, bz + 1))).drew) rfl).cell k hK
      have hthaw := (HB.out.of_cells (W' := (w2.alloc (.cells (bytesRow f cap2) 5 (bz, bz + 1))).drew) rfl).thaw k hK
      generalize f.data.toList[k] = x at *
      go_wp2
      rw [u8_xor_nat x.toNat mask.toNat x.toNat_lt mask.toNat_lt, ← UInt8.toNat_xor]
      have HBW : Hid (BytesAt ((w2.alloc (.cells (bytesRow f cap2) 5 (bz, bz + 1))).setCell ⟨w2.heap.size, k, none⟩ (.int .u8 (((x ^^^ mask).toNat : Nat) : Int))).drew w2.heap.size (f.data.toList.set k (x ^^^ mask))) := Lib.hid ((HB.out.set k hK (x ^^^ mask)).of_cells rfl)
      have HWW : Hid (Below w.heap.size w ((w2.alloc (.cells (bytesRow f cap2) 5 (bz, bz + 1))).setCell ⟨w2.heap.size, k, none⟩ (.int .u8 (((x ^^^ mask).toNat : Nat) : Int))).drew) := Lib.hid (((HB2.out.alloc hsz _).setCell (p := ⟨w2.heap.size, k, none⟩) hsz _).drew)
      clear hcell hthaw hconv HB
      generalize ((w2.alloc (.cells (bytesRow f cap2) 5 (bz, bz + 1))).setCell ⟨w2.heap.size, k, none⟩ (.int .u8 (((x ^^^ mask).toNat : Nat) : Int))).drew = W at *
      have hN : (str (f.data.toList.set k (x ^^^ mask)) ++ c2).data.toList = f.data.toList.set k (x ^^^ mask) ++ c2.data.toList := by rw [ba_append]
      have hNs : (str (f.data.toList.set k (x ^^^ mask)) ++ c2).size ≤ 1000000 := by rw [← ba_size, hN]; simp; omega
      have HC2 : Hid (∀ W, Calls Try.prog 14 #[.string (str (f.data.toList.set k (x ^^^ mask)) ++ c2)] W fun e w' => (∃ a cap, e = .returned (.tuple #[.slice a 0 cap, .int .i64 0])) ∧ Below W.heap.size W w') := Lib.hid (fun W => scan_none _ W hNs (by rw [hN]; exact HF.out.torn k x mask c2.data.toList hx.out HMK.out))
      clear hN hNs
      have hlen : Hid ((f.data.toList.set k (x ^^^ mask)).length = f.size) := Lib.hid (by rw [List.length_set, ba_size])
      have hN2 : (str (f.data.toList.set k (x ^^^ mask))).size = f.size := by show (f.data.toList.set k (x ^^^ mask)).toArray.size = _; rw [List.size_toArray]; exact hlen.out
      generalize f.data.toList.set k (x ^^^ mask) = l at *
      have hbk : (convert 34 9 (.slice (some ⟨w2.heap.size, 0, none⟩) f.size cap2)).run Try.prog W.drew = .ok (.string (str l)) W.drew := (HBW.out.of_cells (W' := W.drew) rfl).back _ hlen.out cap2
      clear hK
      go_region_with (first
        | (go_at_call 13; refine (HM.out _).mono ?_; rintro e w3 ⟨rfl, rfl⟩)
        | (go_at_call 14; refine (HC2.out _).mono ?_; rintro e w3 ⟨⟨a3, cap3, rfl⟩, hb3⟩))
      all_goals
        have HB3 : Hid (Below w.heap.size w w3) := Lib.hid (HWW.out.drew.trans (hb3.mono HWW.out.size))
        clear hb3
        go_wp2
        go_ret
        exact ⟨rfl, HB3.out⟩
  · obtain ⟨k, hE, hk⟩ := at_pos at_ f.size (by omega)
    have HC : Hid (∀ W, Calls Try.prog 14 #[.string (f.extract 0 k)] W fun e w' => (∃ a cap, e = .returned (.tuple #[.slice a 0 cap, .int .i64 0])) ∧ Below W.heap.size W w') := Lib.hid (fun W => scan_none _ W (by rw [extract_size _ _ _ (by omega)]; omega) (by rw [extract_list]; simpa using HF.out.cut k hk))
    go_enter Try.func7, Try.ntmps7
    go_wp2_with fail
    refine (HS.out _).mono ?_
    rintro e w1 ⟨rfl, rfl⟩
    go_wp2_with fail
    refine (HP.out _).mono ?_
    rintro e w1 ⟨rfl, hb1⟩
    go_wp2_with fail
    refine (HC.out _).mono ?_
    rintro e w2 ⟨⟨a, cap, rfl⟩, hb2⟩
    (try rw [hE])
    clear hE
    have HB2 : Hid (Below w.heap.size w w2) := Lib.hid (hb1.trans (hb2.mono hb1.size))
    have hsz : w.heap.size ≤ w2.heap.size := HB2.out.size
    clear hb1 hb2
    by_cases hm : mask = 0
    · subst hm
      go_wp2
      go_ret
      exact ⟨rfl, HB2.out⟩
    · have hmb : ((mask.toNat : Int) == 0) = false := by
        simp only [beq_eq_false_iff_ne, ne_eq]
        intro h
        exact hm (UInt8.toNat_inj.1 (by simpa using h))
      have HMK := Lib.hid hm
      clear hm
      have hconv := run_bytes_of_string (P := Try.prog) w2 9 34 5 f Try.underlying9 Try.underlying34 Try.underlying5
      have HB := Lib.hid (bytesAt_new w2 f (grownCap w2 f.size 0 5) _ rfl)
      generalize grownCap w2 f.size 0 5 = cap2 at *
      generalize (bytesRow f cap2).size = bz at *
      have hK : k < f.data.toList.length := by rw [ba_size]; exact hk
      have hx : Hid (f.data.toList[k]? = some f.data.toList[k]) := Lib.hid (List.getElem?_eq_getElem hK)
      have hcell := (HB.out.of_cells (W' := (w2.alloc (.cells (bytesRow f cap2) 5 (bz, bz + 1))).drew) rfl).cell k hK
      have hthaw := (HB.out.of_cells (W' := (w2.alloc (.cells (bytesRow f cap2) 5 (bz, bz + 1))).drew) rfl).thaw k hK
      generalize f.data.toList[k] = x at *
      go_wp2
      rw [u8_xor_nat x.toNat mask.toNat x.toNat_lt mask.toNat_lt, ← UInt8.toNat_xor]
      have HBW : Hid (BytesAt ((w2.alloc (.cells (bytesRow f cap2) 5 (bz, bz + 1))).setCell ⟨w2.heap.size, k, none⟩ (.int .u8 (((x ^^^ mask).toNat : Nat) : Int))).drew w2.heap.size (f.data.toList.set k (x ^^^ mask))) := Lib.hid ((HB.out.set k hK (x ^^^ mask)).of_cells rfl)
      have HWW : Hid (Below w.heap.size w ((w2.alloc (.cells (bytesRow f cap2) 5 (bz, bz + 1))).setCell ⟨w2.heap.size, k, none⟩ (.int .u8 (((x ^^^ mask).toNat : Nat) : Int))).drew) := Lib.hid (((HB2.out.alloc hsz _).setCell (p := ⟨w2.heap.size, k, none⟩) hsz _).drew)
      clear hcell hthaw hconv HB
      generalize ((w2.alloc (.cells (bytesRow f cap2) 5 (bz, bz + 1))).setCell ⟨w2.heap.size, k, none⟩ (.int .u8 (((x ^^^ mask).toNat : Nat) : Int))).drew = W at *
      have hN : (str (f.data.toList.set k (x ^^^ mask)) ++ c2).data.toList = f.data.toList.set k (x ^^^ mask) ++ c2.data.toList := by rw [ba_append]
      have hNs : (str (f.data.toList.set k (x ^^^ mask)) ++ c2).size ≤ 1000000 := by rw [← ba_size, hN]; simp; omega
      have HC2 : Hid (∀ W, Calls Try.prog 14 #[.string (str (f.data.toList.set k (x ^^^ mask)) ++ c2)] W fun e w' => (∃ a cap, e = .returned (.tuple #[.slice a 0 cap, .int .i64 0])) ∧ Below W.heap.size W w') := Lib.hid (fun W => scan_none _ W hNs (by rw [hN]; exact HF.out.torn k x mask c2.data.toList hx.out HMK.out))
      clear hN hNs
      have hlen : Hid ((f.data.toList.set k (x ^^^ mask)).length = f.size) := Lib.hid (by rw [List.length_set, ba_size])
      have hN2 : (str (f.data.toList.set k (x ^^^ mask))).size = f.size := by show (f.data.toList.set k (x ^^^ mask)).toArray.size = _; rw [List.size_toArray]; exact hlen.out
      generalize f.data.toList.set k (x ^^^ mask) = l at *
      have hbk : (convert 34 9 (.slice (some ⟨w2.heap.size, 0, none⟩) f.size cap2)).run Try.prog W.drew = .ok (.string (str l)) W.drew := (HBW.out.of_cells (W' := W.drew) rfl).back _ hlen.out cap2
      clear hK
      go_region_with (first
        | (go_at_call 13; refine (HM.out _).mono ?_; rintro e w3 ⟨rfl, rfl⟩)
        | (go_at_call 14; refine (HC2.out _).mono ?_; rintro e w3 ⟨⟨a3, cap3, rfl⟩, hb3⟩))
      all_goals
        have HB3 : Hid (Below w.heap.size w w3) := Lib.hid (HWW.out.drew.trans (hb3.mono HWW.out.size))
        clear hb3
        go_wp2
        go_ret
        exact ⟨rfl, HB3.out⟩

theorem torn_any (s more : ByteArray) (at_ : Int) (mask : UInt8) (w : World) (h0 : s.size ≤ 140737488351232) (h3 : more.size ≤ 140737488351232) (h1 : -9223372036854775808 ≤ at_) (h1' : at_ ≤ 9223372036854775807) : Calls Try.prog 7 #[.string s, .int .i64 at_, .int .u8 mask.toNat, .string more] w fun e w' => e = .returned (.bool true) ∧ Below w.heap.size w w' :=
  torn_walk s (str (frameF (cutS s).data.toList)) more (cutS more) at_ mask w (fun W => short_any s W h0) (fun W => put_any (cutS s) W (by have := cut_size s; omega)) (isFrame_of _ (by rw [ba_size]; exact cut_size s)) (fun W => short_any more W h3) (cut_size more) h1 h1'
end Go.Proofs.Ytljbbhbebplknaa
