/- The document's digits, shifted, product and above. -/
import Derived.Test.YtaogjmeofmfgkaaDoorRMath
import Derived.Test.YtaogjmeofmfgkaaDoorRBlock
namespace Go.Proofs.YtaogjmeofmfgkaaDoor
open Go.RowKit

theorem info3 : (Tryd.prog.info? 3).map (fun i => (i.zero, i.size, i.bytes)) = some (some (.int .i64 0), 1, 8) := by kernel_rfl
abbrev nats (l : List Nat) : List Value := l.map fun n => Value.int .i64 (n : Nat)
theorem nats_at (l : List Nat) (i : Nat) (h : i < l.length) : (nats l)[i]? = some (.int .i64 ((l.getD i 0 : Nat) : Int)) := by
  simp [nats, h]
theorem nats_set (l : List Nat) (i x : Nat) : (nats l).set i (.int .i64 (x : Nat)) = nats (l.set i x) := by
  simp [nats, List.map_set]
theorem nats_length (l : List Nat) : (nats l).length = l.length := List.length_map _

/-- The slice holds these digits. -/
structure DR (w : World) (v : Value) (l : List Nat) : Prop where
  ex : ∃ g cap, v = .slice (some ⟨g, 0, none⟩) l.length cap ∧ l.length ≤ cap ∧ g < w.heap.size ∧ ∀ j, j < l.length → w.cell? ⟨g, j, none⟩ = some (.int .i64 ((l.getD j 0 : Nat) : Int))
  dig : DigAll l
theorem DR.below {w w' : World} {v : Value} {l : List Nat} (h : DR w v l) (hb : Below w.heap.size w w') : DR w' v l := by
  obtain ⟨⟨g, cap, hv, hc, hg, hcell⟩, hd⟩ := h
  exact ⟨⟨g, cap, hv, hc, Nat.lt_of_lt_of_le hg hb.size, fun j hj => (hb.cell (p := ⟨g, j, none⟩) hg).trans (hcell j hj)⟩, hd⟩
theorem DR.of_own {w : World} {base g n cap : Nat} {l : List Nat} (h : w.ownsRow base 3 1 (.slice (some ⟨g, 0, none⟩) n cap) n (nats l)) (hn : l.length = n) (hd : DigAll l) : DR w (.slice (some ⟨g, 0, none⟩) n cap) l := by
  subst hn
  refine ⟨⟨g, cap, rfl, ?_, ?_, fun j hj => owns_cell h (nats_at l j hj)⟩, hd⟩
  · rcases h.2 with ⟨h0, -⟩ | ⟨g1, cap1, cur, hv, -, -, hc, -⟩
    · cases h0
    · obtain ⟨-, -, h5⟩ := Value.slice.inj hv
      omega
  · rcases h.2 with ⟨h0, -⟩ | ⟨g1, cap1, cur, hv, -, hh, -⟩
    · cases h0
    · obtain ⟨h3, -, -⟩ := Value.slice.inj hv
      obtain rfl : g = g1 := by injection h3 with h; injection h
      exact (Array.getElem?_eq_some_iff.1 hh).1

/-- While a number's digits are laid. -/
structure DI (w : World) (N : Nat) (v : Value) (l : List Nat) (n : Nat) (W : World) : Prop where
  own : W.ownsRow w.heap.size 3 1 v l.length (nats l)
  below : Below w.heap.size w W
  val : valD l + 65536 ^ l.length * n = N
  dig : DigAll l

set_option maxHeartbeats 2000000 in
set_option maxRecDepth 100000 in
theorem digits_any (N : Nat) (w : World) (hN : N < 65536 ^ 4) (h0 : 0 < N) : Calls Tryd.prog 29 #[.int .i64 (N : Nat)] w fun e w' => ∃ v l, e = .returned v ∧ DR w' v l ∧ valD l = N ∧ 0 < l.length ∧ l.length ≤ 4 ∧ Below w.heap.size w w' := by
  obtain ⟨i0, hi, hz0, hz1, hz2⟩ := info_parts info3
  have hN2 : N < 18446744073709551616 := hN
  go_enter Tryd.func29, Tryd.ntmps29
  go_wp2
  go_loopw [0, 3] (fun x v wr => ∃ (n g c : Nat) (l : List Nat), n ≤ N ∧ l.length ≤ 4 ∧ x = .int .i64 (n : Nat) ∧ v = .slice (some ⟨g, 0, none⟩) l.length c ∧ Hid (DI w N v l n wr)) (fun x _ _ => (intOf x).toNat)
  case atStart => exact ⟨N, _, 0, [], Nat.le_refl _, by simp, rfl, rfl, Lib.hid ⟨World.ownsRow_made w #[] 0 (Nat.le_refl _) (by unfold maxLen; omega) rfl, below1 _ _, by simp [valD], fun d hd => by cases hd⟩⟩
  case round =>
    obtain ⟨n, g, c, l, hn, hl, rfl, rfl, HI⟩ := hrel
    by_cases hpos : 0 < n
    · have hl4 : l.length < 4 := by
        have h1 := HI.out.val
        rcases Nat.lt_or_ge l.length 4 with h2 | h2
        · exact h2
        · exfalso
          have h3 : 65536 ^ 4 ≤ 65536 ^ l.length := Nat.pow_le_pow_right (by decide) h2
          have h4 : 65536 ^ l.length * 1 ≤ 65536 ^ l.length * n := Nat.mul_le_mul_left _ hpos
          omega
      have hrow := HI.out.own
      have hB := HI.out.below
      have hni : (0 : Int) < (n : Int) := by omega
      have HV : Hid (valD (l ++ [n % 65536]) + 65536 ^ (l ++ [n % 65536]).length * (n / 65536) = N) := Lib.hid (by
        have h1 := HI.out.val
        have h2 := Nat.div_add_mod n 65536
        rw [valD_append, List.length_append, List.length_singleton, Nat.pow_succ, Nat.mul_assoc, Nat.add_assoc, ← Nat.mul_add]
        rw [show valD [n % 65536] + 65536 * (n / 65536) = n by simp [valD]; omega]
        exact h1)
      have HD := Lib.hid (HI.out.dig.snoc (n % 65536) (Nat.mod_lt _ (by decide)))
      have HM : Hid (nats (l ++ [n % 65536]) = nats l ++ [.int .i64 ((n : Int) % 65536)]) := Lib.hid (by simp [nats])
      clear HI
      go_wp2_with (at_builtin; refine wpList_append_own _ rfl _ _ 61 rfl w.heap.size 3 i0 (.int .i64 0) 1 8 Tryd.underlying61 hi hz0 hz1 hz2 rfl (by decide) _ _ _ rfl (hrow.alloc _) ⟨wr.heap.size, 0, none⟩ 1 1 [.int .i64 ((n : Int) % 65536)] rfl rfl (cell_one_new _ _ _) (by simp [Value.oneCell']) (by unfold maxLen; omega) (by omega) (by have := hB.size; simp; omega) ?_; intro v' w2 hown' hgrow _; obtain ⟨g', cap', rfl, -, -⟩ := owns_some hown' (by omega))
      have HI2 : Hid (DI w N (.slice (some ⟨g', 0, none⟩) (l ++ [n % 65536]).length cap') (l ++ [n % 65536]) (n / 65536) w2) := Lib.hid ⟨by rw [HM.out]; simpa using hown', (hB.alloc hB.size _).grown hgrow (by have := hB.size; simp; omega) (fun k e => (hrow.lt k e).1), HV.out, HD.out⟩
      clear hown' hgrow hrow hB HV HD HM
      go_wp2
      refine ⟨⟨n / 65536, g', cap', l ++ [n % 65536], by omega, by simp; omega, by go_num, by simp, by simpa using HI2⟩, ?_⟩
      simp [intOf]; omega
    · obtain rfl : n = 0 := by omega
      rw [show (((0 : Nat) : Int)) = (0 : Int) from rfl]
      go_wp2
      go_ret
      have h1 := HI.out.val
      rw [Nat.mul_zero, Nat.add_zero] at h1
      refine ⟨_, l, rfl, DR.of_own HI.out.own rfl HI.out.dig, h1, ?_, hl, HI.out.below⟩
      rcases Nat.eq_zero_or_pos l.length with h2 | h2
      · rw [List.length_eq_zero_iff.1 h2] at h1
        simp [valD] at h1; omega
      · exact h2

theorem made_nats (n : Nat) : madeCells (Value.int .i64 0).cells n = (nats (List.replicate n 0)).toArray := by
  have : (Value.int .i64 0).cells = #[.int .i64 0] := rfl
  rw [this]
  apply Array.ext
  · simp [madeCells]
  · intro i h1 h2
    simp [madeCells, Nat.mod_one]
theorem make_any (w : World) (n : Nat) (hn : n ≤ 1000) : (Instr.makeSlice 61 (.int .i64 (n : Nat)) (.int .i64 (n : Nat))).run Tryd.prog w = .ok (.slice (some ⟨w.heap.size, 0, none⟩) n n) (w.alloc (.cells (nats (List.replicate n 0)).toArray 3)) := by
  obtain ⟨i0, hi, hz0, hz1, hz2⟩ := info_parts info3
  have h := run_makeSlice (P := Tryd.prog) w 61 3 i0 (.int .i64 0) Tryd.underlying61 hi hz0 .i64 .i64 (n : Nat) (n : Nat) (by omega) (Int.le_refl _) (by rw [hz1]; simp; omega) (by rw [hz2]; omega) (by omega)
  rw [hz1, Nat.mul_one, Int.toNat_natCast, made_nats] at h
  exact h

set_option maxHeartbeats 2000000 in
set_option maxRecDepth 100000 in
theorem shifted_any (n : Nat) (v : Value) (l : List Nat) (w : World) (hn : n ≤ 100) (hl0 : 0 < l.length) (hl : l.length ≤ 100) (h : DR w v l) : Calls Tryd.prog 28 #[v, .int .i64 (n : Nat)] w fun e w' => ∃ v', e = .returned v' ∧ DR w' v' (List.replicate n 0 ++ l) ∧ Below w.heap.size w w' := by
  obtain ⟨i0, hi, hz0, hz1, hz2⟩ := info_parts info3
  obtain ⟨⟨g, cap, rfl, hc, hg, hcell⟩, hd⟩ := h
  have hmk := make_any w n (by omega)
  have hown : (w.alloc (.cells (nats (List.replicate n 0)).toArray 3)).ownsRow w.heap.size 3 1 (.slice (some ⟨w.heap.size, 0, none⟩) n n) n (nats (List.replicate n 0)) := by
    refine ⟨by simp, .inr ⟨w.heap.size, n, _, rfl, Nat.le_refl _, heap_alloc_new w _, Nat.le_refl _, by unfold maxLen; omega, by simp, by simp⟩⟩
  have hnews : ∀ j u, (nats l)[j]? = some u → (w.alloc (.cells (nats (List.replicate n 0)).toArray 3)).cell? ((⟨g, 0, none⟩ : Addr).add j) = some u := fun j u hu => by
    rw [Addr.add_mid, Nat.zero_add]
    have hj : j < l.length := by have := (List.getElem?_eq_some_iff.1 hu).1; simpa using this
    rw [nats_at l j hj] at hu
    rw [← Option.some.inj hu]
    exact ((below1 w _).cell (p := ⟨g, j, none⟩) hg).trans (hcell j hj)
  have HD := Lib.hid (hd.zeros n)
  have HB := Lib.hid (below1 w (.cells (nats (List.replicate n 0)).toArray 3))
  have HNL : Hid (nats (List.replicate n 0 ++ l) = nats (List.replicate n 0) ++ nats l) := Lib.hid (by simp [nats])
  have hsz : (w.alloc (.cells (nats (List.replicate n 0)).toArray 3)).heap.size = w.heap.size + 1 := by simp
  clear hd hcell hc
  generalize w.alloc (.cells (nats (List.replicate n 0)).toArray 3) = w1 at *
  go_enter Tryd.func28, Tryd.ntmps28
  go_wp2_with (at_builtin; refine wpList_append_own _ rfl _ _ 61 rfl w.heap.size 3 i0 (.int .i64 0) 1 8 Tryd.underlying61 hi hz0 hz1 hz2 rfl (by decide) _ _ _ rfl hown ⟨g, 0, none⟩ l.length cap (nats l) rfl (by simp) hnews (by intro u hu; obtain ⟨x, -, rfl⟩ := List.mem_map.1 hu; rfl) (by unfold maxLen; omega) (by omega) (by omega) ?_; intro v' w2 hown' hgrow _; obtain ⟨g', cap', rfl, -, -⟩ := owns_some hown' (by omega))
  have HR : Hid (DR w2 (.slice (some ⟨g', 0, none⟩) (n + l.length) cap') (List.replicate n 0 ++ l)) := Lib.hid (DR.of_own (by rw [HNL.out]; exact hown') (by simp) HD.out)
  have HB2 : Hid (Below w.heap.size w w2) := Lib.hid (HB.out.grown hgrow (by omega) (fun k e => (hown.lt k e).1))
  clear hown' hgrow hown hnews
  go_wp2
  go_ret
  exact ⟨_, rfl, HR.out, HB2.out⟩
end Go.Proofs.YtaogjmeofmfgkaaDoor
