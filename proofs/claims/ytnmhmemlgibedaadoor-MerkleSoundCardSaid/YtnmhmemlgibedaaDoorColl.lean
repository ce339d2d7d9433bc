/- The document's Collide. -/
import Derived.Test.YtnmhmemlgibedaaDoorShows
namespace Go.Proofs.YtnmhmemlgibedaaDoor
open Go.RowKit

theorem neq_lists2 {x y : BA} (h : x ≠ y) : (x.toList != y.toList) = true := by
  rw [bne, neq_lists h]; rfl
/-- No two unlike texts so far. -/
def NoM (xs ys : List BA) : Prop := ∀ x ∈ xs, ∀ y ∈ ys, x ≠ y → Dg x ≠ Dg y
theorem NoM.meet {xs ys : List BA} (h : NoM xs ys) : ¬ Meet Dg xs ys := fun ⟨x, hx, y, hy, hne, he⟩ => h x hx y hy hne he
/-- The answer. -/
def ClA (xs ys : List BA) (w : World) (e : Ending) (w' : World) : Prop := ∃ r : Bool, e = .returned (.bool r) ∧ (Meet Dg xs ys → r = true) ∧ Below w.heap.size w w'

set_option maxHeartbeats 3200000 in
set_option maxRecDepth 100000 in
theorem collide_any (w : World) (a b : Option Addr) (ca cb : Nat) (xs ys : List BA) (hxl : xs.length ≤ 1000000) (hyl : ys.length ≤ 1000000) (hx : ∀ x ∈ xs, x.size ≤ 1000000) (hy : ∀ y ∈ ys, y.size ≤ 1000000) (hA : InS w a xs) (hB : InS w b ys) :
    Calls Tryd.prog 21 #[.slice a xs.length ca, .slice b ys.length cb] w (ClA xs ys w) := by
  have HA := Lib.hid hA
  have HB := Lib.hid hB
  have HX := Lib.hid hx
  have HY := Lib.hid hy
  clear hA hB hx hy
  go_enter Tryd.func21, Tryd.ntmps21
  go_wp2
  go_loopw [11] (fun ii wr => ∃ k : Nat, k ≤ xs.length ∧ ii = .int .i64 k ∧ Hid (NoM (xs.take k) ys) ∧ Hid (Below w.heap.size w wr)) (fun ii _ => xs.length - (intOf ii).toNat)
  case atStart => exact ⟨0, by omega, rfl, Lib.hid (fun x hx => by simp at hx), Lib.hid (Below.refl _ _)⟩
  case round =>
    obtain ⟨k, hk, rfl, HN, HW⟩ := hrel
    by_cases hlt : k < xs.length
    · obtain ⟨g1, o1, rfl, hg1, hc1⟩ := HA.out (fun e => by rw [e] at hlt; simp at hlt)
      have hcell : wr.cell? ⟨g1, o1 + k, none⟩ = some (.string xs[k]) := (HW.out.cell (p := ⟨g1, o1 + k, none⟩) hg1).trans (hc1 k hlt)
      have hxs := HX.out xs[k] (List.getElem_mem hlt)
      have HT : Hid (xs.take (k + 1) = xs.take k ++ [xs[k]]) := Lib.hid (List.take_succ_eq_append_getElem hlt)
      have HMX : Hid (xs[k] ∈ xs) := Lib.hid (List.getElem_mem hlt)
      clear hc1
      generalize xs[k] = x at *
      go_wp2
      go_loopw [17] (fun jj w2 => ∃ j : Nat, j ≤ ys.length ∧ jj = .int .i64 j ∧ Hid (NoM [x] (ys.take j)) ∧ Hid (Below w.heap.size w w2)) (fun jj _ => ys.length - (intOf jj).toNat)
      case atStart => exact ⟨0, by omega, rfl, Lib.hid (fun x _ y hy => by simp at hy), HW⟩
      case round =>
        obtain ⟨j, hj, rfl, HN2, HW2⟩ := hrel
        clear hcell
        by_cases hlj : j < ys.length
        · obtain ⟨g2, o2, rfl, hg2, hc2⟩ := HB.out (fun e => by rw [e] at hlj; simp at hlj)
          have hcell2 : wr.cell? ⟨g2, o2 + j, none⟩ = some (.string ys[j]) := (HW2.out.cell (p := ⟨g2, o2 + j, none⟩) hg2).trans (hc2 j hlj)
          have hys := HY.out ys[j] (List.getElem_mem hlj)
          have HTY : Hid (ys.take (j + 1) = ys.take j ++ [ys[j]]) := Lib.hid (List.take_succ_eq_append_getElem hlj)
          clear hc2
          generalize ys[j] = y at *
          by_cases hxy : x = y
          · subst hxy
            have HN3 : Hid (NoM [x] (ys.take (j + 1))) := Lib.hid (fun u hu v hv hne => by
              rw [HTY.out] at hv
              rcases List.mem_append.1 hv with hv | hv
              · exact HN2.out u hu v hv hne
              · rw [List.mem_singleton.1 hu, List.mem_singleton.1 hv] at hne
                exact absurd rfl hne)
            go_wp2
            refine ⟨⟨j + 1, by omega, by go_num, HN3, HW2⟩, ?_⟩
            simp [intOf]; omega
          · have hne1 := neq_lists hxy
            have hne2 := neq_lists2 hxy
            have HD1 : Hid (∀ W, Calls Tryd.prog 27 #[.string x] W fun e w' => e = .returned (.string (Dg x)) ∧ Below W.heap.size W w') := Lib.hid (fun W => rof_dgs x W (by omega))
            have HD2 : Hid (∀ W, Calls Tryd.prog 27 #[.string y] W fun e w' => e = .returned (.string (Dg y)) ∧ Below W.heap.size W w') := Lib.hid (fun W => rof_dgs y W (by omega))
            by_cases hd : Dg x = Dg y
            · rw [← hd] at HD2
              clear hxy hd
              generalize Dg x = z at *
              go_wp2_with fail
              refine (HD1.out _).mono ?_
              rintro e w3 ⟨rfl, hb3⟩
              have HW3 := Lib.hid (below_trans HW2.out hb3)
              clear hb3
              go_wp2_with fail
              refine (HD2.out _).mono ?_
              rintro e w4 ⟨rfl, hb4⟩
              go_wp2
              go_ret
              exact ⟨true, rfl, fun _ => rfl, below_trans HW3.out hb4⟩
            · have HN3 : Hid (NoM [x] (ys.take (j + 1))) := Lib.hid (fun u hu v hv hne => by
                rw [HTY.out] at hv
                rcases List.mem_append.1 hv with hv | hv
                · exact HN2.out u hu v hv hne
                · rw [List.mem_singleton.1 hu, List.mem_singleton.1 hv]
                  exact hd)
              have hnd := neq_lists hd
              clear hxy hd
              generalize Dg x = z at *
              generalize Dg y = z2 at *
              go_wp2_with fail
              refine (HD1.out _).mono ?_
              rintro e w3 ⟨rfl, hb3⟩
              have HW3 := Lib.hid (below_trans HW2.out hb3)
              clear hb3 hcell2
              go_wp2_with fail
              refine (HD2.out _).mono ?_
              rintro e w4 ⟨rfl, hb4⟩
              have HW4 := Lib.hid (below_trans HW3.out hb4)
              clear hb4
              go_wp2
              refine ⟨⟨j + 1, by omega, by go_num, HN3, HW4⟩, ?_⟩
              simp [intOf]; omega
        · have HN3 : Hid (NoM (xs.take (k + 1)) ys) := Lib.hid (fun u hu v hv hne => by
            rw [HT.out] at hu
            rcases List.mem_append.1 hu with hu | hu
            · exact HN.out u hu v hv hne
            · exact HN2.out u hu v (by rw [List.take_of_length_le (by omega)]; exact hv) hne)
          go_wp2
          refine ⟨⟨k + 1, by omega, by go_num, HN3, HW2⟩, ?_⟩
          simp [intOf]; omega
    · have HN3 : Hid (¬ Meet Dg xs ys) := Lib.hid (by
        have := HN.out.meet
        rwa [List.take_of_length_le (by omega)] at this)
      go_wp2
      go_ret
      exact ⟨false, rfl, fun h => absurd h HN3.out, HW.out⟩
end Go.Proofs.YtnmhmemlgibedaaDoor
