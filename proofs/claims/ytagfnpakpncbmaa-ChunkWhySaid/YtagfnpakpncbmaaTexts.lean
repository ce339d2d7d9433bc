/- Texts and Cuts of package chunk. -/
import Derived.Test.YtagfnpakpncbmaaNext
namespace Go.Proofs.Ytagfnpakpncbmaa
open Go.RowKit

/-- The slice's elements are these values, in a block of the world. -/
def Reads (w : World) (a : Option Addr) (cap : Nat) (xs : List Value) : Prop :=
  xs.length ≤ cap ∧ (xs ≠ [] → ∃ g, a = some ⟨g, 0, none⟩ ∧ g < w.heap.size ∧ ∀ j (h : j < xs.length), w.cell? ⟨g, j, none⟩ = some xs[j])
theorem Reads.below {w w' : World} {a : Option Addr} {cap : Nat} {xs : List Value} (h : Reads w a cap xs) (hb : Below w.heap.size w w') : Reads w' a cap xs :=
  ⟨h.1, fun hx => by
    obtain ⟨g, ha, hg, hc⟩ := h.2 hx
    exact ⟨g, ha, Nat.lt_of_lt_of_le hg hb.size, fun j hj => (hb.cell (p := ⟨g, j, none⟩) hg).trans (hc j hj)⟩⟩
theorem reads_of_owns {w : World} {base : Nat} {e : TypeId} {v : Value} {n : Nat} {xs : List Value} (h : w.ownsRow base e 1 v n xs) (hn : xs.length = n) : ∃ a cap, v = .slice a n cap ∧ Reads w a cap xs := by
  subst hn
  rcases h.2 with ⟨rfl, h0⟩ | ⟨g, cap, cur, rfl, hb, hh, hc, -, hs, ht⟩
  · have : xs = [] := List.length_eq_zero_iff.1 h0
    subst this
    exact ⟨none, 0, rfl, Nat.le_refl _, fun h => absurd rfl h⟩
  · refine ⟨_, cap, rfl, hc, fun _ => ⟨g, rfl, (Array.getElem?_eq_some_iff.1 hh).1, fun j hj => ?_⟩⟩
    have h1 : (cur.toList.take (xs.length * 1))[j]? = xs[j]? := by rw [ht]
    rw [List.getElem?_take, if_pos (by omega), Array.getElem?_toList] at h1
    simp only [World.cell?, hh, h1]
    simp [List.getElem?_eq_getElem hj]
theorem ownsRow_but {w w' : World} {base : Nat} {e : TypeId} {size : Nat} {v : Value} {n : Nat} {xs : List Value} {A : Nat} (h : w.ownsRow base e size v n xs) (hb : But A w w') (hA : A < base) : w'.ownsRow base e size v n xs := by
  refine ⟨h.1, ?_⟩
  rcases h.2 with h0 | ⟨g, cap, cur, hv, hbs, hh, hr⟩
  · exact .inl h0
  · exact .inr ⟨g, cap, cur, hv, hbs, (hb.block g (by omega)).trans hh, hr⟩
theorem info9 : (Try.prog.info? 9).map (fun i => (i.zero, i.size, i.bytes)) = some (some (.string ByteArray.empty), 1, 16) := by kernel_rfl
theorem info3 : (Try.prog.info? 3).map (fun i => (i.zero, i.size, i.bytes)) = some (some (.int .i64 0), 1, 8) := by kernel_rfl

abbrev lists (xs : List ByteArray) : List Bs := xs.map (·.data.toList)
abbrev strs (xs : List ByteArray) : List Value := xs.map Value.string

/-- At the head of the loop: so many chunks are laid, the next one is at hand. -/
structure At (w : World) (s : ByteArray) (xs : List ByteArray) (k n : Nat) (W : World) : Prop where
  pre : Pre s.data.toList (lists xs) k
  fst : IsFirst (s.data.toList.drop k) n
  bs : Boxed W w.heap.size 9 (.string s)
  ba : Boxed W (w.heap.size + 1) 3 (.int .i64 (k + n : Nat))
  below : Below w.heap.size w W
theorem At.le {w W : World} {s : ByteArray} {xs : List ByteArray} {k n : Nat} (h : At w s xs k n W) : k + n ≤ s.size := by
  have h1 := h.pre.le
  have h2 := h.fst.le
  rw [List.length_drop, ba_len] at h2
  rw [ba_len] at h1
  omega
theorem At.done {w W : World} {s : ByteArray} {xs : List ByteArray} {k : Nat} (h : At w s xs k 0 W) : Split s.data.toList (lists xs) := by
  refine h.pre.done ?_
  by_cases h1 : s.data.toList.drop k = []
  · exact h1
  · have := h.fst.pos h1; omega
theorem At.more {w W : World} {s : ByteArray} {xs : List ByteArray} {k n : Nat} (h : At w s xs k n W) (hn : 0 < n) : Pre s.data.toList (lists (xs ++ [s.extract k (k + n)])) (k + n) := by
  have h1 : s.data.toList.drop k ≠ [] := by
    intro h1
    have := h.fst.le
    rw [h1] at this
    simp at this
    omega
  have h2 := h.pre.snoc h.fst h1
  have e : lists (xs ++ [s.extract k (k + n)]) = lists xs ++ [(s.data.toList.drop k).take n] := by
    simp [lists, extract_list, Nat.add_sub_cancel_left]
  rw [e]; exact h2

def lenV : Value → Nat
  | .slice _ n _ => n
  | _ => 0

set_option maxRecDepth 100000 in
set_option maxHeartbeats 3200000 in
theorem texts_any (s : ByteArray) (w : World) (hs : s.size ≤ 1000000) : Calls Try.prog 16 #[.string s] w fun e w' => ∃ (a : Option Addr) (cap : Nat) (xs : List ByteArray), Split s.data.toList (lists xs) ∧ e = .returned (.slice a xs.length cap) ∧ Reads w' a cap (strs xs) ∧ Below w.heap.size w w' := by
  obtain ⟨i0, hi, hz0, hz1, hz2⟩ := info_parts info9
  go_enter Try.func16, Try.ntmps16
  go_wp2_with fail
  refine (chunks_any s w).mono ?_
  rintro e w1 ⟨rfl, hbs, hba, hsz, hb1⟩
  go_wp2_with fail
  refine (next_any s 0 _ _ w1 (by omega) (by omega) hbs hba).mono ?_
  rintro e w2 ⟨n, hn, rfl, hba2, hbut2⟩
  have HA : Hid (At w s [] 0 n w2) := Lib.hid { pre := Pre.nil _, fst := hn, bs := (hbut2.block _ (by omega)).trans hbs, ba := hba2, below := hb1.trans (hbut2.below (by omega)) }
  have hz2' : w2.heap.size = w.heap.size + 2 := by rw [hbut2.size, hsz]
  clear hn hba2 hbut2 hbs hba hsz hb1
  go_wp2
  go_loopw [3, 5] (fun v t wr => ∃ (xs : List ByteArray) (a : Option Addr) (cap k n : Nat) (x : ByteArray), v = .slice a xs.length cap ∧ t = .string x ∧ Hid (x = s.extract k (k + n)) ∧ Hid (At w s xs k n wr) ∧ Hid (wr.ownsRow (w.heap.size + 2) 9 1 v xs.length (strs xs)) ∧ w.heap.size + 2 ≤ wr.heap.size) (fun v _ _ => s.size - lenV v)
  case atStart => exact ⟨[], none, 0, 0, n, _, rfl, rfl, Lib.hid (by rw [Nat.zero_add]), HA, Lib.hid (World.ownsRow_nil _ _ _ _), by omega⟩
  case round =>
    clear HA hz2'
    obtain ⟨xs, a, cap, k, n', x, rfl, rfl, HX, HA, HO, hsz⟩ := hrel
    clear w2
    generalize s.extract 0 n = s0
    clear n
    obtain ⟨n, rfl⟩ : ∃ n, n = n' := ⟨n', rfl⟩
    have hle := HA.out.le
    have hcnt : xs.length ≤ k := by have := HA.out.pre.count; simpa using this
    have hxz : x.size = n := by rw [HX.out, extract_size _ _ _ hle]; omega
    rcases Nat.eq_zero_or_pos n with rfl | hpos
    · obtain rfl : x = ⟨#[]⟩ := by
        apply ba_ext
        apply List.eq_nil_of_length_eq_zero
        rw [ba_len]; exact hxz
      go_wp2
      go_ret
      obtain ⟨a', cap', hv, hr⟩ := reads_of_owns HO.out (List.length_map _)
      obtain ⟨h5, -, h6⟩ := Value.slice.inj hv
      subst h5 h6
      exact ⟨a, cap, xs, HA.out.done, rfl, hr, HA.out.below⟩
    · have hne : x.toList.isEmpty = false := by
        rw [ByteArray.toList_eq]
        cases hl : x.data.toList with
        | nil => rw [← ba_len, hl] at hxz; simp at hxz; omega
        | cons => rfl
      have hrow := HO.out
      have hB := HA.out.below
      go_wp2_with (at_builtin; refine wpList_append_own _ rfl _ _ 30 rfl (w.heap.size + 2) 9 i0 (.string ByteArray.empty) 1 16 Try.underlying30 hi hz0 hz1 hz2 rfl (by decide) _ _ _ rfl (hrow.alloc _) ⟨wr.heap.size, 0, none⟩ 1 1 [.string x] rfl rfl (cell_one_new _ _ _) (by simp [Value.oneCell']) (by unfold maxLen; omega) (by omega) (by simp; omega) ?_; intro v' w2 hown' hgrow _; obtain ⟨g', cap', rfl⟩ := ownsRow_succ hown')
      have hnb : ∀ B, B < w.heap.size + 2 → some B ≠ (Value.slice a xs.length cap).ownBlock := fun B hB e => by have := (hrow.lt B e.symm).1; omega
      have HB2 : Hid (Below w.heap.size w w2) := Lib.hid ((hB.alloc hB.size _).grown hgrow (by simp; omega) (fun k e => by have := (hrow.lt k e).1; omega))
      have hbs2 := (HA.out.bs.alloc (.cells #[.string x] 9)).kept hgrow (hnb _ (by omega))
      have hba2 := (HA.out.ba.alloc (.cells #[.string x] 9)).kept hgrow (hnb _ (by omega))
      have hsz2 : w.heap.size + 2 ≤ w2.heap.size := by have := hgrow.size; simp at this; omega
      have HP := Lib.hid (HA.out.more hpos)
      rw [← HX.out] at HP
      have HO2 : Hid (w2.ownsRow (w.heap.size + 2) 9 1 (.slice (some ⟨g', 0, none⟩) (xs ++ [x]).length cap') (xs ++ [x]).length (strs (xs ++ [x]))) := Lib.hid (by simpa using hown')
      clear hown' hgrow hrow hB hnb HO HA hne HX
      go_wp2_with fail
      refine (next_any s (k + n) _ _ w2 (by omega) (by omega) hbs2 hba2).mono ?_
      rintro e w3 ⟨m, hm, rfl, hba3, hbut⟩
      have hbs3 : Boxed w3 w.heap.size 9 (.string s) := (hbut.block _ (by omega)).trans hbs2
      have HA3 : Hid (At w s (xs ++ [x]) (k + n) m w3) := Lib.hid { pre := HP.out, fst := hm, bs := hbs3, ba := hba3, below := HB2.out.trans (hbut.below (by omega)) }
      have HO3 := Lib.hid (ownsRow_but HO2.out hbut (by omega))
      have hsz3 : w.heap.size + 2 ≤ w3.heap.size := by rw [hbut.size]; exact hsz2
      clear hm hba3 hbut hbs3 hbs2 hba2
      go_wp2
      refine ⟨⟨xs ++ [x], some ⟨g', 0, none⟩, cap', k + n, m, _, by simp, rfl, Lib.hid rfl, HA3, by simpa using HO3, hsz3⟩, ?_⟩
      simp [lenV]; omega
end Go.Proofs.Ytagfnpakpncbmaa
