/- The document's Cuts; Ints and Like of two lists that are the same. -/
import Derived.Test.YtagfnpakpncbmaaRTexts
namespace Go.Proofs.Ytagfnpakpncbmaa
open Go.RowKit

theorem ownsRow_low {w : World} {base base' : Nat} {e : TypeId} {size : Nat} {v : Value} {n : Nat} {xs : List Value} (h : w.ownsRow base e size v n xs) (hb : base' ≤ base) : w.ownsRow base' e size v n xs := by
  refine ⟨h.1, ?_⟩
  rcases h.2 with h0 | ⟨g, cap, cur, hv, hbs, hr⟩
  · exact .inl h0
  · exact .inr ⟨g, cap, cur, hv, Nat.le_trans hb hbs, hr⟩
theorem owns_apart {w : World} {b1 b2 : Nat} {e1 e2 : TypeId} {s1 s2 : Nat} {v1 v2 : Value} {n1 n2 : Nat} {xs1 xs2 : List Value} (h1 : w.ownsRow b1 e1 s1 v1 n1 xs1) (h2 : w.ownsRow b2 e2 s2 v2 n2 xs2) (he : e1 ≠ e2) {g : Nat} (hg : v1.ownBlock = some g) : v2.ownBlock ≠ some g := by
  intro hg2
  rcases h1.2 with ⟨rfl, -⟩ | ⟨g1, c1, u1, rfl, -, hh1, -⟩
  · cases hg
  rcases h2.2 with ⟨rfl, -⟩ | ⟨g2, c2, u2, rfl, -, hh2, -⟩
  · cases hg2
  obtain rfl : g1 = g := Option.some.inj hg
  obtain rfl : g2 = g1 := Option.some.inj hg2
  rw [hh1] at hh2
  injection hh2 with hh2
  injection hh2 with _ h
  exact he h
theorem owns_grown {w w' : World} {b : Nat} {e : TypeId} {s : Nat} {v : Value} {n : Nat} {xs : List Value} {row : Option Nat} (h : w.ownsRow b e s v n xs) (hg : w.grownBy w' row) (hne : ∀ g, v.ownBlock = some g → row ≠ some g) : w'.ownsRow b e s v n xs := by
  refine ⟨h.1, ?_⟩
  rcases h.2 with h0 | ⟨g, cap, cur, hv, hbs, hh, hr⟩
  · exact .inl h0
  · exact .inr ⟨g, cap, cur, hv, hbs, (hg.block g (Array.getElem?_eq_some_iff.1 hh).1 (fun e => hne g (by rw [hv]; rfl) e.symm)).trans hh, hr⟩
theorem owns_cell {w : World} {b : Nat} {e : TypeId} {a : Option Addr} {n c cap : Nat} {xs : List Value} (h : w.ownsRow b e 1 (.slice a n cap) c xs) {i : Nat} {u : Value} (hi : xs[i]? = some u) : ∃ g, a = some ⟨g, 0, none⟩ ∧ w.cell? ⟨g, i, none⟩ = some u := by
  rcases h.2 with ⟨-, h0⟩ | ⟨g, cap', cur, hv, -, hh, -, -, -, ht⟩
  · have h1 := h.1
    have h2 := (List.getElem?_eq_some_iff.1 hi).1
    omega
  · obtain ⟨h3, h4, h5⟩ := Value.slice.inj hv
    refine ⟨g, h3, ?_⟩
    have h6 : (cur.toList.take (c * 1))[i]? = some u := by rw [ht]; exact hi
    rw [List.getElem?_take] at h6
    split at h6
    · rw [Array.getElem?_toList] at h6
      simp only [World.cell?, hh, h6]
      simp
    · cases h6

theorem ints_take (xs : List ByteArray) (i : Nat) (hi : i < xs.length) : ints (xs.take (i + 1)) = ints (xs.take i) ++ [.int .i64 (((lists (xs.take i)).flatten.length + xs[i].size : Nat) : Int)] := by
  have e1 : xs.take (i + 1) = xs.take i ++ [xs[i]] := by rw [List.take_add_one, List.getElem?_eq_getElem hi]; rfl
  have e2 : lists (xs.take i ++ [xs[i]]) = lists (xs.take i) ++ [xs[i].data.toList] := by unfold lists; rw [List.map_append]; rfl
  unfold ints
  rw [e1, e2, endsF_snoc, ba_len, List.map_append]
  rfl
theorem flat_take (xs : List ByteArray) (i : Nat) (hi : i < xs.length) : (lists (xs.take (i + 1))).flatten.length = (lists (xs.take i)).flatten.length + xs[i].size := by
  have e1 : xs.take (i + 1) = xs.take i ++ [xs[i]] := by rw [List.take_add_one, List.getElem?_eq_getElem hi]; rfl
  have e2 : lists (xs.take i ++ [xs[i]]) = lists (xs.take i) ++ [xs[i].data.toList] := by unfold lists; rw [List.map_append]; rfl
  rw [e1, e2, List.flatten_append, List.length_append]
  simp
theorem flat_le (xs : List ByteArray) (i : Nat) : (lists (xs.take i)).flatten.length ≤ (lists xs).flatten.length := by
  have : lists xs = lists (xs.take i) ++ lists (xs.drop i) := by rw [← List.map_append, List.take_append_drop]
  rw [this, List.flatten_append, List.length_append]
  omega

set_option maxRecDepth 100000 in
set_option maxHeartbeats 3200000 in
theorem rcuts_any (s : ByteArray) (w : World) (hs : s.size ≤ 1000000) : Calls Try.prog 14 #[.string s] w fun e w' => ∃ (a : Option Addr) (cap : Nat) (xs : List ByteArray), Split s.data.toList (lists xs) ∧ e = .returned (.slice a xs.length cap) ∧ Reads w' a cap (ints xs) ∧ Below w.heap.size w w' := by
  obtain ⟨i0, hi0, hz0, hz1, hz2⟩ := info_parts info3
  have HO : Hid ((w.alloc (.cells #[] 3)).ownsRow w.heap.size 3 1 (.slice (some ⟨w.heap.size, 0, none⟩) 0 0) 0 []) := Lib.hid (World.ownsRow_made w #[] 0 (Nat.le_refl _) (by unfold maxLen; omega) rfl)
  go_enter Try.func14, Try.ntmps14
  go_wp2_with fail
  refine (rtexts_own s _ hs).mono ?_
  rintro e w1 ⟨a, cap, xs, hsp, rfl, hown, hb1⟩
  have hle : (lists xs).flatten.length ≤ s.size := by rw [hsp.flatten, ba_len]; exact Nat.le_refl _
  have hcnt : xs.length ≤ s.size := by have := hsp.count; simpa using this
  have HS := Lib.hid hsp
  have HO1 : Hid (w1.ownsRow w.heap.size 3 1 (.slice (some ⟨w.heap.size, 0, none⟩) 0 0) 0 []) := Lib.hid (ownsRow_below HO.out hb1)
  have HT1 : Hid (w1.ownsRow w.heap.size 9 1 (.slice a xs.length cap) xs.length (strs xs)) := Lib.hid (ownsRow_low hown (by simp))
  have HB1 : Hid (Below w.heap.size w w1) := Lib.hid ((below1 w _).trans (hb1.mono (by simp)))
  clear hsp hown hb1 HO
  go_wp2
  go_loopw [3, 4, 11] (fun v t i wr => ∃ (j k cap' : Nat) (a' : Option Addr), j ≤ xs.length ∧ i = .int .i64 j ∧ t = .int .i64 k ∧ v = .slice a' j cap' ∧ k ≤ s.size ∧ Hid (k = (lists (xs.take j)).flatten.length) ∧ Hid (wr.ownsRow w.heap.size 3 1 v j (ints (xs.take j))) ∧ Hid (wr.ownsRow w.heap.size 9 1 (.slice a xs.length cap) xs.length (strs xs)) ∧ Hid (Below w.heap.size w wr)) (fun _ _ i _ => xs.length - (intOf i).toNat)
  case atStart => exact ⟨0, 0, 0, _, by omega, rfl, rfl, rfl, by omega, Lib.hid rfl, HO1, HT1, HB1⟩
  case round =>
    clear HO1 HT1 HB1
    obtain ⟨j, k, cap', a', hj, rfl, rfl, rfl, hk, HK, HO, HT, HB⟩ := hrel
    by_cases hlt : j < xs.length
    · have hx : (strs xs)[j]? = some (.string xs[j]) := by simp [strs, hlt]
      obtain ⟨g, rfl, hc⟩ := owns_cell HT.out hx
      have hf := flat_take xs j hlt
      have hf2 := flat_le xs (j + 1)
      have HI := Lib.hid (ints_take xs j hlt)
      rw [← HK.out] at HI hf
      have hkx : k + xs[j].size ≤ s.size := by omega
      have HF := Lib.hid hf
      have hrow := HO.out
      have hB := HB.out
      clear hf hf2 hx
      generalize xs[j] = x at *
      go_wp2_with (at_builtin; refine wpList_append_own _ rfl _ _ 27 rfl w.heap.size 3 i0 (.int .i64 0) 1 8 Try.underlying27 hi0 hz0 hz1 hz2 rfl (by decide) _ _ _ rfl (hrow.alloc _) ⟨wr.heap.size, 0, none⟩ 1 1 [.int .i64 ((k : Int) + (x.size : Int))] rfl rfl (cell_one_new _ _ _) (by simp [Value.oneCell']) (by unfold maxLen; omega) (by omega) (by have := hB.size; simp; omega) ?_; intro v' w2 hown' hgrow _; obtain ⟨g', cap2, rfl⟩ := ownsRow_succ hown')
      have HB2 : Hid (Below w.heap.size w w2) := Lib.hid ((hB.alloc hB.size _).grown hgrow (by have := hB.size; simp; omega) (fun k e => (hrow.lt k e).1))
      have HT2 := Lib.hid (owns_grown (HT.out.alloc (.cells #[.int .i64 ((k : Int) + (x.size : Int))] 3)) hgrow (fun g hg => owns_apart HT.out hrow (by decide) hg))
      refine ⟨⟨j + 1, k + x.size, cap2, some ⟨g', 0, none⟩, by omega, by go_num, by go_num, rfl, by omega, Lib.hid HF.out.symm, Lib.hid (by rw [HI.out]; simpa using hown'), HT2, HB2⟩, ?_⟩
      simp [intOf]; omega
    · obtain rfl : j = xs.length := by omega
      go_wp2
      go_ret
      have h1 := HO.out
      rw [List.take_length] at h1
      obtain ⟨a2, cap2, hv, hr⟩ := reads_of_owns h1 (by simp)
      obtain ⟨h5, -, h6⟩ := Value.slice.inj hv
      subst h5 h6
      exact ⟨a', cap', xs, HS.out, rfl, hr, HB.out⟩
end Go.Proofs.Ytagfnpakpncbmaa
