/- Cuts of package chunk. -/
import Derived.Test.YtagfnpakpncbmaaTexts
namespace Go.Proofs.Ytagfnpakpncbmaa
open Go.RowKit

/-- The places where the chunks end, as the program holds them. -/
def ints (xs : List ByteArray) : List Value := (endsF (lists xs)).map fun n => Value.int .i64 (n : Nat)
@[simp] theorem ints_length (xs : List ByteArray) : (ints xs).length = xs.length := by simp [ints]

set_option maxRecDepth 100000 in
set_option maxHeartbeats 3200000 in
theorem cuts_any (s : ByteArray) (w : World) (hs : s.size ≤ 1000000) : Calls Try.prog 13 #[.string s] w fun e w' => ∃ (a : Option Addr) (cap : Nat) (xs : List ByteArray), Split s.data.toList (lists xs) ∧ e = .returned (.slice a xs.length cap) ∧ Reads w' a cap (ints xs) ∧ Below w.heap.size w w' := by
  obtain ⟨i0, hi, hz0, hz1, hz2⟩ := info_parts info3
  go_enter Try.func13, Try.ntmps13
  go_wp2_with fail
  refine (chunks_any s w).mono ?_
  rintro e w1 ⟨rfl, hbs, hba, hsz, hb1⟩
  go_wp2_with fail
  refine (next_any s 0 _ _ w1 (by omega) (by omega) hbs hba).mono ?_
  rintro e w2 ⟨n, hn, rfl, hba2, hbut2⟩
  have HA : Hid (At w s [] 0 n w2) := Lib.hid { pre := Pre.nil _, fst := hn, bs := (hbut2.block _ (by omega)).trans hbs, ba := hba2, below := hb1.trans (hbut2.below (by omega)) }
  have hz2' : w2.heap.size = w.heap.size + 2 := by rw [hbut2.size, hsz]
  clear hn hba2 hbut2 hbs hba hsz hb1
  go_wp2
  go_loopw [3, 4, 6] (fun v e t wr => ∃ (xs : List ByteArray) (a : Option Addr) (cap k n : Nat) (x : ByteArray), v = .slice a xs.length cap ∧ t = .string x ∧ e = .int .i64 (k : Nat) ∧ Hid (x = s.extract k (k + n)) ∧ Hid (At w s xs k n wr) ∧ Hid (wr.ownsRow (w.heap.size + 2) 3 1 v xs.length (ints xs)) ∧ w.heap.size + 2 ≤ wr.heap.size) (fun v _ _ _ => s.size - lenV v)
  case atStart => exact ⟨[], none, 0, 0, n, _, rfl, rfl, rfl, Lib.hid (by rw [Nat.zero_add]), HA, Lib.hid (World.ownsRow_nil _ _ _ _), by omega⟩
  case round =>
    clear HA hz2'
    obtain ⟨xs, a, cap, k, n', x, rfl, rfl, rfl, HX, HA, HO, hsz⟩ := hrel
    clear w2
    generalize s.extract 0 n = s0
    clear n
    obtain ⟨n, rfl⟩ : ∃ n, n = n' := ⟨n', rfl⟩
    have hle := HA.out.le
    have hcnt : xs.length ≤ k := by have := HA.out.pre.count; simpa using this
    have hxz : x.size = n := by rw [HX.out, extract_size _ _ _ hle]; omega
    rcases Nat.eq_zero_or_pos n with rfl | hpos
    · obtain rfl : x = ⟨#[]⟩ := by
        apply ba_ext
        apply List.eq_nil_of_length_eq_zero
        rw [ba_len]; exact hxz
      go_wp2
      go_ret
      obtain ⟨a', cap', hv, hr⟩ := reads_of_owns HO.out (by simp [ints])
      obtain ⟨h5, -, h6⟩ := Value.slice.inj hv
      subst h5 h6
      exact ⟨a, cap, xs, HA.out.done, rfl, hr, HA.out.below⟩
    · have hne : x.toList.isEmpty = false := by
        rw [ByteArray.toList_eq]
        cases hl : x.data.toList with
        | nil => rw [← ba_len, hl] at hxz; simp at hxz; omega
        | cons => rfl
      have HI : Hid (ints (xs ++ [x]) = ints xs ++ [.int .i64 ((k : Int) + (n : Int))]) := Lib.hid (by
        have h1 := HA.out.pre.sum
        have e1 : lists (xs ++ [x]) = lists xs ++ [x.data.toList] := by simp [lists]
        unfold ints
        rw [e1, endsF_snoc, h1, ba_len, hxz, List.map_append]
        simp)
      have hrow := HO.out
      have hB := HA.out.below
      go_wp2_with (at_builtin; refine wpList_append_own _ rfl _ _ 27 rfl (w.heap.size + 2) 3 i0 (.int .i64 0) 1 8 Try.underlying27 hi hz0 hz1 hz2 rfl (by decide) _ _ _ rfl (hrow.alloc _) ⟨wr.heap.size, 0, none⟩ 1 1 [.int .i64 ((k : Int) + (n : Int))] rfl rfl (cell_one_new _ _ _) (by simp [Value.oneCell']) (by unfold maxLen; omega) (by omega) (by simp; omega) ?_; intro v' w2 hown' hgrow _; obtain ⟨g', cap', rfl⟩ := ownsRow_succ hown')
      have hnb : ∀ B, B < w.heap.size + 2 → some B ≠ (Value.slice a xs.length cap).ownBlock := fun B hB e => by have := (hrow.lt B e.symm).1; omega
      have HB2 : Hid (Below w.heap.size w w2) := Lib.hid ((hB.alloc hB.size _).grown hgrow (by simp; omega) (fun k e => by have := (hrow.lt k e).1; omega))
      have hbs2 := (HA.out.bs.alloc (.cells #[.int .i64 ((k : Int) + (n : Int))] 3)).kept hgrow (hnb _ (by omega))
      have hba2 := (HA.out.ba.alloc (.cells #[.int .i64 ((k : Int) + (n : Int))] 3)).kept hgrow (hnb _ (by omega))
      have hsz2 : w.heap.size + 2 ≤ w2.heap.size := by have := hgrow.size; simp at this; omega
      have HP := Lib.hid (HA.out.more hpos)
      rw [← HX.out] at HP
      have HO2 : Hid (w2.ownsRow (w.heap.size + 2) 3 1 (.slice (some ⟨g', 0, none⟩) (xs ++ [x]).length cap') (xs ++ [x]).length (ints (xs ++ [x]))) := Lib.hid (by rw [HI.out]; simpa using hown')
      clear hown' hgrow hrow hB hnb HO HA hne HX
      go_wp2_with fail
      refine (next_any s (k + n) _ _ w2 (by omega) (by omega) hbs2 hba2).mono ?_
      rintro e w3 ⟨m, hm, rfl, hba3, hbut⟩
      have hbs3 : Boxed w3 w.heap.size 9 (.string s) := (hbut.block _ (by omega)).trans hbs2
      have HA3 : Hid (At w s (xs ++ [x]) (k + n) m w3) := Lib.hid { pre := HP.out, fst := hm, bs := hbs3, ba := hba3, below := HB2.out.trans (hbut.below (by omega)) }
      have HO3 := Lib.hid (ownsRow_but HO2.out hbut (by omega))
      have hsz3 : w.heap.size + 2 ≤ w3.heap.size := by rw [hbut.size]; exact hsz2
      clear hm hba3 hbut hbs3 hbs2 hba2
      go_wp2
      refine ⟨⟨xs ++ [x], some ⟨g', 0, none⟩, cap', k + n, m, _, by simp, rfl, by go_num, Lib.hid rfl, HA3, by simpa using HO3, hsz3⟩, ?_⟩
      simp [lenV]; omega
end Go.Proofs.Ytagfnpakpncbmaa
