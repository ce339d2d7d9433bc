/- FrameScans: the law's walk. -/
import Derived.Test.YtljbbhbebplknaaRScan
import Derived.Test.YtljbbhbebplknaaBytes
namespace Go.Proofs.Ytljbbhbebplknaa
open Go.RowKit

set_option maxRecDepth 100000 in
set_option maxHeartbeats 3200000 in
theorem scans_walk (s c : ByteArray) (w : World) (hS : ∀ W, Calls Try.prog 13 #[.string s] W fun e w' => e = .returned (.string c) ∧ W = w') (hc : c.size ≤ 20000) : Calls Try.prog 4 #[.string s] w fun e w' => e = .returned (.bool true) ∧ Below w.heap.size w w' := by
  go_enter Try.func4, Try.ntmps4
  go_wp2_with fail
  refine (hS _).mono ?_
  rintro e w1 ⟨rfl, rfl⟩
  clear hS
  go_wp2_with fail
  refine (scan_reads c _ (by omega)).mono ?_
  rintro e w2 ⟨a, cap, xs, n, hSc, rfl, hR, hb⟩
  have HSc := Lib.hid hSc
  have HR := Lib.hid hR
  have HB := Lib.hid hb
  have hn : n ≤ c.size := by
    have h1 := hSc.pre.length_le
    rw [← hSc.at_, ba_len] at h1
    exact h1
  have hxl : xs.length ≤ 20000 := by
    have h1 := framesF_len (xs.map (·.data.toList))
    rw [← hSc.at_, List.length_map] at h1
    omega
  clear hSc hR hb
  go_wp2_with fail
  refine (rscan_any c _ (by omega)).mono ?_
  rintro e w3 ⟨a2, cap2, ys, m, hSc2, rfl, hR2, hb2⟩
  obtain ⟨h1, h2⟩ := scanned_unique HSc.out hSc2
  have h3 : ys = xs := by
    have hinj : ∀ (l l' : List ByteArray), l.map (fun x : ByteArray => x.data.toList) = l'.map (fun x : ByteArray => x.data.toList) → l = l' := by
      intro l
      induction l with
      | nil => intro l' h; cases l' with
        | nil => rfl
        | cons => simp at h
      | cons x l ih => intro l' h; cases l' with
        | nil => simp at h
        | cons y l' =>
          rw [List.map_cons, List.map_cons] at h
          injection h with h4 h5
          rw [ba_ext h4, ih l' h5]
    exact hinj _ _ h1.symm
  subst h3 h2
  have HL := Lib.hid (like_any w3 a a2 cap cap2 ys (by omega) (HR.out.below hb2) hR2)
  have HB3 : Hid (Below w.heap.size w w3) := Lib.hid (HB.out.trans (hb2.mono HB.out.size))
  clear hSc2 hR2 hb2 h1
  go_wp2_with fail
  refine HL.out.mono ?_
  rintro e w4 ⟨rfl, k, rfl⟩
  go_wp2_with fail
  refine (sumA_any _).mono ?_
  rintro e w5 ⟨rfl, rfl⟩
  go_wp2
  go_ret
  exact ⟨rfl, below_drewN HB3.out k⟩

theorem scans_any (s : ByteArray) (w : World) (h0 : s.size ≤ 140737488351232) : Calls Try.prog 4 #[.string s] w fun e w' => e = .returned (.bool true) ∧ Below w.heap.size w w' :=
  scans_walk s (cutS s) w (fun W => short_any s W h0) (cut_size s)
end Go.Proofs.Ytljbbhbebplknaa
