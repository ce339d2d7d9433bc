/- The document's Texts. -/
import Derived.Test.YtagfnpakpncbmaaCuts
import Derived.Test.YtagfnpakpncbmaaRef
namespace Go.Proofs.Ytagfnpakpncbmaa
open Go.RowKit

theorem ownsRow_below {w w' : World} {base : Nat} {e : TypeId} {size : Nat} {v : Value} {n : Nat} {xs : List Value} (h : w.ownsRow base e size v n xs) (hb : Below w.heap.size w w') : w'.ownsRow base e size v n xs := by
  refine ⟨h.1, ?_⟩
  rcases h.2 with h0 | ⟨g, cap, cur, hv, hbs, hh, hr⟩
  · exact .inl h0
  · exact .inr ⟨g, cap, cur, hv, hbs, (hb.block g (Array.getElem?_eq_some_iff.1 hh).1).trans hh, hr⟩

theorem rstep_list (r : ByteArray) (n : Nat) : (r.extract n r.size).data.toList = r.data.toList.drop n := by
  rw [extract_list, List.take_of_length_le (by simp)]
theorem rhead_list (r : ByteArray) (n : Nat) : (r.extract 0 n).data.toList = r.data.toList.take n := by
  rw [extract_list]; simp

def szV : Value → Nat
  | .string x => x.size
  | _ => 0

/-- How far the document's cutting has come. -/
structure RAt (w : World) (s : ByteArray) (xs : List ByteArray) (k : Nat) (r : ByteArray) (v : Value) (W : World) : Prop where
  pre : Pre s.data.toList (lists xs) k
  rest : r.data.toList = s.data.toList.drop k
  own : W.ownsRow w.heap.size 9 1 v xs.length (strs xs)
  below : Below w.heap.size w W
theorem RAt.size {w W : World} {s r : ByteArray} {xs : List ByteArray} {k : Nat} {v : Value} (h : RAt w s xs k r v W) : r.size = s.size - k := by
  have := congrArg List.length h.rest
  rwa [ba_len, List.length_drop, ba_len] at this

theorem RAt.more {w W : World} {s r : ByteArray} {xs : List ByteArray} {k n : Nat} {v : Value} (h : RAt w s xs k r v W) (hn : IsFirst r.data.toList n) (h0 : 0 < r.size) :
    Pre s.data.toList (lists (xs ++ [r.extract 0 n])) (k + n) ∧ (r.extract n r.size).data.toList = s.data.toList.drop (k + n) := by
  have h1 : s.data.toList.drop k ≠ [] := by
    rw [← h.rest]
    intro h2
    rw [← ba_len, h2] at h0
    simp at h0
  have h3 := h.pre.snoc (by rw [← h.rest]; exact hn) h1
  have e : lists (xs ++ [r.extract 0 n]) = lists xs ++ [(s.data.toList.drop k).take n] := by
    rw [← h.rest, ← rhead_list]; simp [lists]
  rw [e, rstep_list, h.rest, List.drop_drop]
  exact ⟨h3, rfl⟩

set_option maxRecDepth 100000 in
set_option maxHeartbeats 3200000 in
theorem rtexts_own (s : ByteArray) (w : World) (hs : s.size ≤ 1000000) : Calls Try.prog 17 #[.string s] w fun e w' => ∃ (a : Option Addr) (cap : Nat) (xs : List ByteArray), Split s.data.toList (lists xs) ∧ e = .returned (.slice a xs.length cap) ∧ w'.ownsRow w.heap.size 9 1 (.slice a xs.length cap) xs.length (strs xs) ∧ Below w.heap.size w w' := by
  obtain ⟨i0, hi, hz0, hz1, hz2⟩ := info_parts info9
  go_enter Try.func17, Try.ntmps17
  go_wp2
  go_loopw [0, 3] (fun r v wr => ∃ (xs : List ByteArray) (a : Option Addr) (cap k : Nat) (x : ByteArray), v = .slice a xs.length cap ∧ r = .string x ∧ x.size ≤ s.size ∧ xs.length + x.size ≤ s.size ∧ Hid (RAt w s xs k x v wr)) (fun r _ _ => szV r)
  case atStart => exact ⟨[], _, 0, 0, s, rfl, rfl, Nat.le_refl _, by simp, Lib.hid { pre := Pre.nil _, rest := rfl, own := World.ownsRow_made w #[] 0 (Nat.le_refl _) (by unfold maxLen; omega) rfl, below := below1 _ _ }⟩
  case round =>
    obtain ⟨xs, a, cap, k, r, rfl, rfl, hr, hxr, HA⟩ := hrel
    by_cases h0 : 0 < r.size
    · have hri : (0 : Int) < (r.size : Int) := by omega
      go_wp2
      go_loopw [4] (fun i w2 => ∃ n : Nat, i = .int .i64 n ∧ 1 ≤ n ∧ n ≤ r.size ∧ n ≤ 512 ∧ w2 = wr ∧ Hid (∀ m, 32 ≤ m → m < n → weightF (r.data.toList.take m) % 64 ≠ 7)) (fun i _ => 512 - (intOf i).toNat)
      case atStart => exact ⟨1, rfl, by omega, by omega, by omega, rfl, Lib.hid (fun m h1 h2 => by omega)⟩
      case round =>
        obtain ⟨n, rfl, hn1, hnr, hn5, rfl, HN⟩ := hrel
        have HW : Hid (∀ W, Calls Try.prog 10 #[.string (r.extract 0 n)] W fun e w' => e = .returned (.int .u32 (weightF (r.data.toList.take n))) ∧ W = w') := Lib.hid (fun W => by
          have := rweight_any (r.extract 0 n) W (by rw [extract_size _ _ _ hnr]; omega)
          rwa [rhead_list] at this)
        have hwl := weightF_lt (r.data.toList.take n)
        by_cases hA : n < r.size
        · by_cases hB : n < 512
          · by_cases hC : 32 ≤ n
            · by_cases h7 : weightF (r.data.toList.take n) % 64 = 7
              · have HF : Hid (IsFirst r.data.toList n) := Lib.hid ⟨by rw [ba_len]; exact hnr, hn5, fun _ _ => ⟨hC, h7⟩, HN.out⟩
                have hB7 : (((weightF (r.data.toList.take n) : Nat) : Int) % 64 == 7) = true := by rw [beq_iff_eq]; omega
                clear h7
                go_wp2_with fail
                refine (HW.out _).mono ?_
                rintro e w1 ⟨rfl, rfl⟩
                have HX := Lib.hid (RAt.more HA.out HF.out h0)
                have hrow := HA.out.own
                have hB := HA.out.below
                have hxz : (r.extract 0 n).size = n := (extract_size _ _ _ hnr).trans (by omega)
                have hyz : (r.extract n r.size).size = r.size - n := extract_size _ _ _ (Nat.le_refl _)
                clear HN HF HA
                go_wp2_with (at_builtin; refine wpList_append_own _ rfl _ _ 30 rfl w.heap.size 9 i0 (.string ByteArray.empty) 1 16 Try.underlying30 hi hz0 hz1 hz2 rfl (by decide) _ _ _ rfl (hrow.alloc _) ⟨wr.heap.size, 0, none⟩ 1 1 [.string (r.extract 0 n)] rfl rfl (cell_one_new _ _ _) (by simp [Value.oneCell']) (by unfold maxLen; omega) (by omega) (by have := hB.size; simp; omega) ?_; intro v' w2 hown' hgrow _; obtain ⟨g', cap', rfl⟩ := ownsRow_succ hown')
                have hb2 : Below w.heap.size w w2 := (hB.alloc hB.size _).grown hgrow (by have := hB.size; simp; omega) (fun k e => (hrow.lt k e).1)
                refine ⟨⟨xs ++ [r.extract 0 n], some ⟨g', 0, none⟩, cap', k + n, r.extract n r.size, by simp, rfl, by omega, by simp; omega, Lib.hid { pre := HX.out.1, rest := HX.out.2, own := by simpa using hown', below := hb2 }⟩, ?_⟩
                simp only [szV, Array.getD, List.size_toArray]
                first
                  | omega
                  | (simp [szV]; omega)
              · have H7 := Lib.hid h7
                have hB7 : (((weightF (r.data.toList.take n) : Nat) : Int) % 64 == 7) = false := by rw [beq_eq_false_iff_ne]; omega
                clear h7
                go_wp2_with fail
                refine (HW.out _).mono ?_
                rintro e w1 ⟨rfl, rfl⟩
                go_wp2
                refine ⟨⟨n + 1, by go_num, by omega, by omega, by omega, trivial, Lib.hid (fun m h1 h2 => ?_)⟩, ?_⟩
                · rcases Nat.lt_or_eq_of_le (Nat.le_of_lt_succ h2) with h3 | rfl
                  · exact HN.out m h1 h3
                  · exact H7.out
                · simp [intOf]; omega
            · go_wp2
              refine ⟨⟨n + 1, by go_num, by omega, by omega, by omega, trivial, Lib.hid (fun m h1 h2 => by omega)⟩, ?_⟩
              simp [intOf]; omega
          · obtain rfl : n = 512 := by omega
            have HF : Hid (IsFirst r.data.toList 512) := Lib.hid ⟨by rw [ba_len]; exact hnr, hn5, fun _ h => by omega, HN.out⟩
            have HX := Lib.hid (RAt.more HA.out HF.out h0)
            have hrow := HA.out.own
            have hB := HA.out.below
            have hxz : (r.extract 0 512).size = 512 := (extract_size _ _ _ hnr).trans (by omega)
            have hyz : (r.extract 512 r.size).size = r.size - 512 := extract_size _ _ _ (Nat.le_refl _)
            clear HN HF HA
            go_wp2_with (at_builtin; refine wpList_append_own _ rfl _ _ 30 rfl w.heap.size 9 i0 (.string ByteArray.empty) 1 16 Try.underlying30 hi hz0 hz1 hz2 rfl (by decide) _ _ _ rfl (hrow.alloc _) ⟨wr.heap.size, 0, none⟩ 1 1 [.string (r.extract 0 512)] rfl rfl (cell_one_new _ _ _) (by simp [Value.oneCell']) (by unfold maxLen; omega) (by omega) (by have := hB.size; simp; omega) ?_; intro v' w2 hown' hgrow _; obtain ⟨g', cap', rfl⟩ := ownsRow_succ hown')
            have hb2 : Below w.heap.size w w2 := (hB.alloc hB.size _).grown hgrow (by have := hB.size; simp; omega) (fun k e => (hrow.lt k e).1)
            refine ⟨⟨xs ++ [r.extract 0 512], some ⟨g', 0, none⟩, cap', k + 512, r.extract 512 r.size, by simp, rfl, by omega, by simp; omega, Lib.hid { pre := HX.out.1, rest := HX.out.2, own := by simpa using hown', below := hb2 }⟩, ?_⟩
            simp only [szV, Array.getD, List.size_toArray]
            first
              | omega
              | (simp [szV]; omega)
        · have HF : Hid (IsFirst r.data.toList n) := Lib.hid ⟨by rw [ba_len]; exact hnr, hn5, fun h _ => by rw [ba_len] at h; omega, HN.out⟩
          have HX := Lib.hid (RAt.more HA.out HF.out h0)
          have hrow := HA.out.own
          have hB := HA.out.below
          have hxz : (r.extract 0 n).size = n := (extract_size _ _ _ hnr).trans (by omega)
          have hyz : (r.extract n r.size).size = r.size - n := extract_size _ _ _ (Nat.le_refl _)
          clear HN HF HA
          go_wp2_with (at_builtin; refine wpList_append_own _ rfl _ _ 30 rfl w.heap.size 9 i0 (.string ByteArray.empty) 1 16 Try.underlying30 hi hz0 hz1 hz2 rfl (by decide) _ _ _ rfl (hrow.alloc _) ⟨wr.heap.size, 0, none⟩ 1 1 [.string (r.extract 0 n)] rfl rfl (cell_one_new _ _ _) (by simp [Value.oneCell']) (by unfold maxLen; omega) (by omega) (by have := hB.size; simp; omega) ?_; intro v' w2 hown' hgrow _; obtain ⟨g', cap', rfl⟩ := ownsRow_succ hown')
          have hb2 : Below w.heap.size w w2 := (hB.alloc hB.size _).grown hgrow (by have := hB.size; simp; omega) (fun k e => (hrow.lt k e).1)
          refine ⟨⟨xs ++ [r.extract 0 n], some ⟨g', 0, none⟩, cap', k + n, r.extract n r.size, by simp, rfl, by omega, by simp; omega, Lib.hid { pre := HX.out.1, rest := HX.out.2, own := by simpa using hown', below := hb2 }⟩, ?_⟩
          simp only [szV, Array.getD, List.size_toArray]
          first
            | omega
            | (simp [szV]; omega)
    · go_wp2
      go_ret
      exact ⟨a, cap, xs, HA.out.pre.done (by rw [← HA.out.rest]; exact List.eq_nil_of_length_eq_zero (by rw [ba_len]; omega)), rfl, HA.out.own, HA.out.below⟩

theorem rtexts_any (s : ByteArray) (w : World) (hs : s.size ≤ 1000000) : Calls Try.prog 17 #[.string s] w fun e w' => ∃ (a : Option Addr) (cap : Nat) (xs : List ByteArray), Split s.data.toList (lists xs) ∧ e = .returned (.slice a xs.length cap) ∧ Reads w' a cap (strs xs) ∧ Below w.heap.size w w' := by
  refine (rtexts_own s w hs).mono fun e w' h => ?_
  obtain ⟨a, cap, xs, h1, h2, h3, h4⟩ := h
  obtain ⟨a', cap', hv, hr'⟩ := reads_of_owns h3 (List.length_map _)
  obtain ⟨h5, -, h6⟩ := Value.slice.inj hv
  subst h5 h6
  exact ⟨a, cap, xs, h1, h2, hr', h4⟩
end Go.Proofs.Ytagfnpakpncbmaa
