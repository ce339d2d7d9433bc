/- FrameOnce: the law's walk. -/
import Derived.Test.YtljbbhbebplknaaLike
import Derived.Test.YtljbbhbebplknaaBytes
namespace Go.Proofs.Ytljbbhbebplknaa
open Go.RowKit

abbrev listsA (xs : List ByteArray) : List Bs := xs.map (·.data.toList)
theorem framesF_take_len (bs : List Bs) (k : Nat) : (framesF (bs.take k)).length ≤ (framesF bs).length := by
  have h : framesF bs = framesF (bs.take k) ++ framesF (bs.drop k) := by
    unfold framesF
    rw [← List.flatMap_append, List.take_append_drop]
  rw [h, List.length_append]; omega

set_option maxRecDepth 100000 in
set_option maxHeartbeats 3200000 in
theorem once_walk (s c : ByteArray) (w : World) (hS : ∀ W, Calls Try.prog 13 #[.string s] W fun e w' => e = .returned (.string c) ∧ W = w') (hc : c.size ≤ 20000) : Calls Try.prog 6 #[.string s] w fun e w' => e = .returned (.bool true) ∧ Below w.heap.size w w' := by
  go_enter Try.func6, Try.ntmps6
  go_wp2_with fail
  refine (hS _).mono ?_
  rintro e w1 ⟨rfl, rfl⟩
  clear hS
  go_wp2_with fail
  refine (scan_reads c _ (by omega)).mono ?_
  rintro e w2 ⟨a, cap, xs, n, hSc, rfl, hR, hb⟩
  have HSc := Lib.hid hSc
  have HR := Lib.hid hR
  have HB := Lib.hid hb
  have hn : n ≤ c.size := by
    have h1 := hSc.pre.length_le
    rw [← hSc.at_, ba_len] at h1
    exact h1
  have hxl : xs.length ≤ 20000 := by
    have h1 := framesF_len (listsA xs)
    rw [← hSc.at_, List.length_map] at h1
    omega
  clear hSc hR hb
  go_wp2
  go_loopw [5, 19] (fun r i wr => ∃ (k : Nat) (rb : ByteArray), k ≤ xs.length ∧ i = .int .i64 k ∧ r = .string rb ∧ rb.size ≤ 20000 ∧ Hid (rb.data.toList = framesF ((listsA xs).take k)) ∧ Hid (Below w2.heap.size w2 wr)) (fun _ i _ => xs.length - (intOf i).toNat)
  case atStart => exact ⟨0, ⟨#[]⟩, by omega, rfl, rfl, by show 0 ≤ 20000; omega, Lib.hid (by simp), Lib.hid (Below.refl _ _)⟩
  case round =>
    obtain ⟨k, rb, hk, rfl, rfl, hrb, HF, HW⟩ := hrel
    by_cases hlt : k < xs.length
    · have hne : xs ≠ [] := by intro h; subst h; simp at hlt
      obtain ⟨g, rfl, hg, hcl⟩ := HR.out.2 hne
      have hcell : wr.cell? ⟨g, k, none⟩ = some (.string xs[k]) := (HW.out.cell (p := ⟨g, k, none⟩) hg).trans (hcl k hlt)
      have hx5 : xs[k].size ≤ 65536 := by
        have := HSc.out.short xs[k].data.toList (List.mem_map_of_mem (List.getElem_mem hlt))
        rw [ba_len] at this
        exact this
      have HP := Lib.hid (fun W => put_any xs[k] W hx5)
      have hfz : (str (frameF xs[k].data.toList)).size ≤ 65548 := by show (frameF xs[k].data.toList).toArray.size ≤ _; simp; omega
      have HF2 : Hid ((rb ++ str (frameF xs[k].data.toList)).data.toList = framesF ((listsA xs).take (k + 1))) := Lib.hid (by
        have hkl : k < (listsA xs).length := by rw [List.length_map]; exact hlt
        rw [ba_append, HF.out, List.take_succ_eq_append_getElem hkl, framesF_snoc, List.getElem_map])
      have hz2 : (rb ++ str (frameF xs[k].data.toList)).size ≤ 20000 := by
        have h1 := framesF_take_len (listsA xs) (k + 1)
        rw [← HF2.out, ← HSc.out.at_, ba_len] at h1
        omega
      clear hcl hne hx5
      generalize hfe : str (frameF xs[k].data.toList) = fr at *
      clear hfe
      generalize xs[k] = x at *
      go_wp2_with fail
      refine (HP.out _).mono ?_
      rintro e w3 ⟨rfl, hb3⟩
      have HW3 : Hid (Below w2.heap.size w2 w3) := Lib.hid (HW.out.trans (hb3.mono HW.out.size))
      clear hb3 hcell
      go_wp2
      go_roundw
      case rel => exact ⟨k + 1, _, by omega, by go_num, rfl, hz2, HF2, HW3⟩
      case measure => simp [intOf]; omega
    · have hrow : rb = c.extract 0 n := by
        apply ba_ext
        obtain ⟨t, ht⟩ := HSc.out.pre
        rw [HF.out, List.take_of_length_le (by rw [List.length_map]; omega), extract_list, List.drop_zero, ← ht, Nat.sub_zero, HSc.out.at_]
        exact (List.take_left' rfl).symm
      subst hrow
      clear HF hrb
      go_wp2_with fail
      refine (sumA_any _).mono ?_
      rintro e w3 ⟨rfl, rfl⟩
      go_wp2
      go_ret
      exact ⟨rfl, HB.out.trans (HW.out.mono HB.out.size)⟩

theorem once_any (s : ByteArray) (w : World) (h0 : s.size ≤ 140737488351232) : Calls Try.prog 6 #[.string s] w fun e w' => e = .returned (.bool true) ∧ Below w.heap.size w w' :=
  once_walk s (cutS s) w (fun W => short_any s W h0) (cut_size s)
end Go.Proofs.Ytljbbhbebplknaa
