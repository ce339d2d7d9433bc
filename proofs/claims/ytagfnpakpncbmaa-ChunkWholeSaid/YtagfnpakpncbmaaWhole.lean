/- strings.Join without a separator; ChunkWhole: what the law answers. -/
import Derived.Test.YtagfnpakpncbmaaLike
import Derived.Test.YtagfnpakpncbmaaShelf
namespace Go.Proofs.Ytagfnpakpncbmaa
open Go.RowKit

theorem inter_nil : ∀ (xs : List Bs), Lib.join xs [] = xs.flatten
  | [] => rfl
  | [x] => by simp [Lib.join_one]
  | x :: y :: r => by
    have h := inter_nil (y :: r)
    simp only [Lib.join, List.intercalate, List.intersperse, List.flatten_cons, List.nil_append] at h ⊢
    rw [h]
theorem join_at (w : World) (g k c : Nat) (xs ys : List ByteArray) (hc : ∀ j (h : j < (strs xs).length), w.cell? ⟨g, j, none⟩ = some (strs xs)[j]) (hg : g < w.heap.size) (hy : ys = xs.drop k) (hN : ys.length ≤ 1000000) (hcap : ys.length ≤ c) (r : ByteArray) (hr : r.data.toList = (lists ys).flatten) (hz : r.size ≤ 1000000) :
    Calls Try.prog 18 #[.slice (some ⟨g, k, none⟩) ys.length c, .string ⟨#[]⟩] w fun e w' => e = .returned (.string r) ∧ Below w.heap.size w w' := by
  have hj : Lib.join (ys.map (·.data.toList)) [] = r.data.toList := by rw [inter_nil, hr]
  have h := Try.strings_Join g k c ys ⟨#[]⟩ w (fun j x hx => by
    rw [hy, List.getElem?_drop] at hx
    obtain ⟨h1, h2⟩ := List.getElem?_eq_some_iff.1 hx
    rw [hc (k + j) (by simpa using h1)]
    simp [strs, h2]) hg (by omega) hcap (by
      have : (Lib.join (ys.map (·.data.toList)) []).length ≤ 1000000 := by rw [hj, ba_len]; exact hz
      exact Nat.le_trans this (by omega))
  refine h.mono fun e w' ⟨he, hb⟩ => ⟨?_, hb⟩
  rw [he]
  refine ret_str (ba_ext ?_)
  rw [← hj]
theorem join_all (w : World) (a : Option Addr) (cap : Nat) (xs : List ByteArray) (h : Reads w a cap (strs xs)) (hN : xs.length ≤ 1000000) (r : ByteArray) (hr : r.data.toList = (lists xs).flatten) (hz : r.size ≤ 1000000) :
    Calls Try.prog 18 #[.slice a xs.length cap, .string ⟨#[]⟩] w fun e w' => e = .returned (.string r) ∧ Below w.heap.size w w' := by
  by_cases hx : xs = []
  · subst hx
    refine (Try.strings_Join_none a cap ⟨#[]⟩ w).mono fun e w' ⟨he, hb⟩ => ⟨?_, by rw [hb]; exact Below.refl _ _⟩
    rw [he]
    exact ret_str (ba_ext (by rw [hr]; rfl))
  · obtain ⟨g, rfl, hg, hc⟩ := h.2 (by simpa using hx)
    exact join_at w g 0 cap xs xs hc hg rfl hN (by simpa using h.1) r hr hz

set_option maxRecDepth 100000 in
set_option maxHeartbeats 3200000 in
theorem whole_any (s : ByteArray) (w : World) (hs : s.size ≤ 140737488351232) : Calls Try.prog 5 #[.string s] w fun e w' => e = .returned (.bool true) ∧ Below w.heap.size w w' := by
  have hz := cutS_size s
  have HS := Lib.hid (fun W => short_any s W hs)
  generalize cutS s = c at *
  go_enter Try.func5, Try.ntmps5
  go_wp2_with fail
  refine (HS.out _).mono ?_
  rintro e w1 ⟨rfl, rfl⟩
  go_wp2_with fail
  refine (texts_any c _ (by omega)).mono ?_
  rintro e w1 ⟨a, cap, xs, hS, rfl, hr, hb1⟩
  have hcnt : xs.length ≤ c.size := by have := hS.count; simpa using this
  have HL := Lib.hid hS
  go_wp2_with fail
  refine (join_all _ a cap xs hr (by omega) c hS.flatten.symm (by omega)).mono ?_
  rintro e w2 ⟨rfl, hb2⟩
  have HR := Lib.hid (hr.below hb2)
  have HB := Lib.hid (hb1.trans (hb2.mono hb1.size))
  clear hr hb1 hb2 hS
  go_wp2
  go_loopw [16] (fun i wr => ∃ k : Nat, k ≤ xs.length ∧ i = .int .i64 k ∧ wr = w2) (fun i _ => xs.length - (intOf i).toNat)
  case atStart => exact ⟨0, by omega, rfl, rfl⟩
  case round =>
    obtain ⟨k, hk, rfl, rfl⟩ := hrel
    by_cases hlt : k < xs.length
    · have hne : strs xs ≠ [] := by intro h; have := congrArg List.length h; simp at this; simp [this] at hlt
      obtain ⟨g1, rfl, -, hc1⟩ := HR.out.2 hne
      have h1 := hc1 k (by simpa using hlt)
      have hl := HL.out.lens k (by simpa using hlt)
      have e1 : (lists xs)[k]'(by simpa using hlt) = xs[k].data.toList := by simp [lists]
      have e2 : (strs xs)[k]'(by simpa using hlt) = .string xs[k] := by simp [strs]
      rw [e1, ba_len] at hl
      rw [e2] at h1
      simp only [List.length_map] at hl
      clear hc1 hne e1 e2
      generalize xs[k] = x at *
      obtain ⟨l1, l2, l3⟩ := hl
      by_cases hk1 : k + 1 < xs.length
      · have l4 := l3 hk1
        go_wp2
        refine ⟨⟨k + 1, by omega, by go_num, trivial⟩, ?_⟩
        simp [intOf]; omega
      · go_wp2
        refine ⟨⟨k + 1, by omega, by go_num, trivial⟩, ?_⟩
        simp [intOf]; omega
    · go_wp2_with fail
      refine (cuts_a _).mono ?_
      rintro e w3 ⟨a5, cap5, rfl, hb5⟩
      have hB := HB.out
      go_wp2
      go_ret
      exact ⟨rfl, hB.trans (hb5.mono hB.size)⟩
end Go.Proofs.Ytagfnpakpncbmaa
