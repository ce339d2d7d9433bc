/- The document's Hex. -/
import Derived.Test.YtaogjmeofmfgkaaAny
namespace Go.Proofs.Ytaogjmeofmfgkaa
open Go.RowKit

/-- Bytes of a row of the call's own, as a string. -/
theorem bytes_back {w : World} {base : Nat} {a : Addr} {n cap : Nat} {l : Bs} (h : w.ownsRow base 5 1 (.slice (some a) n cap) n (Lib.byteCells l)) (hl : l.length = n) : (convert 29 9 (.slice (some a) n cap)).run Try.prog w = .ok (.string (str l)) w := by
  subst hl
  rcases h.2 with ⟨hv, h0⟩ | ⟨g, cap', cur, hv, -, hg, hr⟩
  · injection hv with h1 h2 h3
    cases h1
  · injection hv with h1 h2 h3
    injection h1 with h1
    subst h1 h3
    obtain ⟨-, -, -, ht⟩ := hr
    refine run_convert_bytes_back (P := Try.prog) w 29 9 5 ⟨g, 0, none⟩ cap l Try.underlying29 Try.underlying5 Try.underlying9 (fun j hj => ?_)
    rw [Addr.add_mid, Nat.zero_add]
    have hc : w.cell? ⟨g, j, none⟩ = cur[j]? := by simp [World.cell?, hg]
    rw [hc, ← Array.getElem?_toList]
    have h5 : (cur.toList.take (l.length * 1))[j]? = cur.toList[j]? := List.getElem?_take_of_lt (by omega)
    rw [← h5, ht]
    simp [Lib.byteCells, hj]
def dg (n : Nat) : UInt8 := dL.getD n 0
theorem dg_any (n : Nat) (w : World) (h : n < 16) : Calls Try.prog 11 #[.int .u8 (n : Int)] w fun e w' => e = .returned (.int .u8 ((dg n).toNat : Int)) ∧ w' = w := digit_any n w h

set_option maxHeartbeats 3200000 in
set_option maxRecDepth 100000 in
theorem rhex_any (s : ByteArray) (w : World) (hs : s.size ≤ 1000000) : Calls Try.prog 6 #[.string s] w fun e w' => e = .returned (.string (str (hexs s.data.toList s.size))) ∧ Below w.heap.size w w' := by
  obtain ⟨i0, hi0, hz0, hz1, hz2⟩ := info_parts Try.info5
  go_enter Try.func6, Try.ntmps6
  go_wp2
  go_loopw [3, 4] (fun v x wr => ∃ (i : Nat) (a : Addr) (cap : Nat), i ≤ s.size ∧ x = .int .i64 i ∧ v = .slice (some a) (2 * i) cap ∧ Hid (wr.ownsRow w.heap.size 5 1 v (2 * i) (Lib.byteCells (hexs s.data.toList i))) ∧ Hid (Below w.heap.size w wr)) (fun _ x _ => s.size - (intOf x).toNat)
  case atStart => exact ⟨0, _, 0, by omega, rfl, rfl, Lib.hid (World.ownsRow_made w #[] 0 (Nat.le_refl _) (by unfold maxLen; omega) rfl), Lib.hid (below1 _ _)⟩
  case round =>
    obtain ⟨i, a, cap, hi, rfl, rfl, HO, HB⟩ := hrel
    by_cases hlt : i < s.size
    · have HE : Hid (hexs s.data.toList (i + 1) = hexs s.data.toList i ++ hex1 s[i]) := Lib.hid (by
        rw [hexs, show s.data.toList.getD i 0 = s[i] by simp [List.getD, hlt]; rfl])
      have hb256 := s[i].toNat_lt
      obtain ⟨n1, hn1⟩ : ∃ n, n = s[i].toNat / 16 := ⟨_, rfl⟩
      obtain ⟨n2, hn2⟩ : ∃ n, n = s[i].toNat % 16 := ⟨_, rfl⟩
      have hl1 : n1 < 16 := by omega
      have hl2 : n2 < 16 := by omega
      have HE2 : Hid (Lib.byteCells (hexs s.data.toList (i + 1)) = Lib.byteCells (hexs s.data.toList i) ++ [.int .u8 ((dg n1).toNat : Int), .int .u8 ((dg n2).toNat : Int)]) := Lib.hid (by
        rw [HE.out, hn1, hn2]; simp [Lib.byteCells, hex1, dg])
      have q1 : (s[i].toNat : Int).tdiv 16 = (n1 : Int) := by rw [Int.tdiv_eq_ediv_of_nonneg (by omega)]; omega
      have q2 : (s[i].toNat : Int).tmod 16 = (n2 : Int) := by rw [Int.tmod_eq_emod_of_nonneg (by omega)]; omega
      have q3 : (s[i].toNat : Int) / 16 = (n1 : Int) := by omega
      have q4 : (s[i].toNat : Int) % 16 = (n2 : Int) := by omega
      have hli : (i : Int) < (s.size : Int) := by omega
      have q5 : IntKind.u8.wrap (n1 : Int) = (n1 : Int) := by rw [IntKind.wrap_u8']; omega
      have q6 : IntKind.u8.wrap (n2 : Int) = (n2 : Int) := by rw [IntKind.wrap_u8']; omega
      have hrow := HO.out
      have hsz := HB.out.size
      clear hn1 hn2 HE hb256
      go_wp2_with fail
      go_region_held3 (fun _ => True) (trivial)
        (first
          | (go_at_call_of 11 (Value.int .u8 (n1 : Int)); refine (dg_any n1 _ hl1).mono ?_; rintro e w' ⟨rfl, rfl⟩)
          | (go_at_call_of 11 (Value.int .u8 (n2 : Int)); refine (dg_any n2 _ hl2).mono ?_; rintro e w' ⟨rfl, rfl⟩)
          | (refine step_append_lies _ (by rfl) _ _ _ (by rfl) w.heap.size 5 i0 _ 1 1 Try.underlying29 hi0 hz0 hz1 hz2 rfl (by omega) (.slice (some a) (2 * i) cap) (2 * i) _ (by rfl) ((hrow.alloc _).drew) ⟨wr.heap.size, 0, none⟩ 2 2 [.int .u8 ((dg n1).toNat : Int), .int .u8 ((dg n2).toNat : Int)] (by rfl) (by rfl) (World.news_of_block (cs := #[.int .u8 ((dg n1).toNat : Int), .int .u8 ((dg n2).toNat : Int)]) (t := 5) (fr := (0, 0)) (heap_alloc_new wr _)) (by simp [Value.oneCell']) (by omega) (by unfold maxLen; omega) (by omega) (by first | (simp; done) | (simp; omega) | omega) (wr.heap.size + 1) (by first | rfl | simp) ?_; intro gg cap' w5 hown' hgrow hat hlt5)
          | fail)
      all_goals
        have HB5 : Hid (Below w.heap.size w w5) := Lib.hid ((HB.out.alloc HB.out.size _).drew.grown hgrow (by simp; omega) (fun k e => (hrow.lt k e).1))
        have HO5 : Hid (w5.ownsRow w.heap.size 5 1 (.slice (some ⟨gg, 0, none⟩) (2 * (i + 1)) cap') (2 * (i + 1)) (Lib.byteCells (hexs s.data.toList (i + 1)))) := Lib.hid (by
          rw [HE2.out, show 2 * (i + 1) = 2 * i + 2 by omega]
          exact hown')
        clear hown' hgrow hat hrow q1 q2 q3 q4 q5 q6
        go_wp2
        refine ⟨⟨i + 1, ⟨gg, 0, none⟩, cap', by omega, by go_num, rfl, HO5, HB5⟩, ?_⟩
        simp [intOf]; omega
    · obtain rfl : i = s.size := by omega
      have hbk : (convert 29 9 (.slice (some a) (2 * s.size) cap)).run Try.prog wr = .ok (.string (str (hexs s.data.toList s.size))) wr := bytes_back HO.out (hexs_length _ _)
      generalize hR : str (hexs s.data.toList s.size) = R at hbk
      have HRR := Lib.hid hR
      clear hR
      go_wp2
      go_ret
      exact ⟨by rw [HRR.out]; rfl, HB.out⟩
end Go.Proofs.Ytaogjmeofmfgkaa
