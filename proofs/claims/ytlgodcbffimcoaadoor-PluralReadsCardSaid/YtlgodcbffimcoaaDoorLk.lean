/- The document's Like, of a rule with itself. -/
import Derived.Test.YtlgodcbffimcoaaDoorTx
import Derived.Test.YtlgodcbffimcoaaDoorPs
namespace Go.Proofs.YtlgodcbffimcoaaDoor
open Go.RowKit

theorem neq55 (w : World) (a b : Int) : (binOp .neq 55 (.agg #[.int .i64 a, .int .i64 b]) (.agg #[.int .i64 a, .int .i64 b])).run Tryd.prog w = .ok (.bool false) w := by
  have hS : Tryd.prog.underlying 55 = some (.struct (Tryd.prog.fieldsOf 55)) := by kernel_rfl
  have hp : Tryd.prog.stoodInHeld 55 = false := by kernel_rfl
  have u3 := Tryd.underlying3
  have a3 := Tryd.isAgg3
  have z3 := Tryd.sizeOf3
  rw [run_neq_struct, show (10000 : Nat) = 9999 + 1 from rfl, run_equalIn_agg w 9999 55 _ _ hS hp]
  simp only [Program.fieldsOf, Tryd.underlying55]
  go_simp
theorem guard55 : Tryd.prog.eqGuardType Tryd.prog.depth 55 = false := by kernel_rfl

set_option maxHeartbeats 3200000 in
set_option maxRecDepth 100000 in
theorem like_any (w : World) (a1 a2 : Option Addr) (c1 c2 : Nat) (xs : Rule) (h1 : SlW w (Old w) (.slice a1 xs.length c1) xs) (h2 : SlW w (Old w) (.slice a2 xs.length c2) xs) (hr : rgRule xs = true) :
    Calls Tryd.prog 12 #[.slice a1 xs.length c1, .slice a2 xs.length c2] w fun e w' => e = .returned (.bool true) ∧ Below w.heap.size w w' := by
  have H1 := Lib.hid h1
  have H2 := Lib.hid h2
  obtain ⟨hg1, hg2, hg3⟩ := allR_get hr
  have HG := Lib.hid hg3
  have m0 : ((xs.length : Int) != (xs.length : Int)) = false := by simp
  clear h1 h2 hr hg3 hg1
  go_enter Tryd.func12, Tryd.ntmps12
  go_wp2
  clear m0
  go_loopw [17] (fun v wr => ∃ k : Nat, k ≤ xs.length ∧ v = .int .i64 k ∧ Hid (Below w.heap.size w wr)) (fun v _ => xs.length - (intOf v).toNat)
  case atStart => exact ⟨0, by omega, rfl, Lib.hid (Below.refl _ _)⟩
  case round =>
    obtain ⟨k, hk, rfl, HB⟩ := hrel
    by_cases hlt : k < xs.length
    · obtain ⟨x, hx⟩ : ∃ x, xs[k]? = some x := ⟨_, List.getElem?_eq_getElem hlt⟩
      obtain ⟨b1, o1, rfl, hb1, hat1⟩ := (H1.out.below HB.out).at_ hx
      obtain ⟨b2, o2, rfl, hb2, hat2⟩ := (H2.out.below HB.out).at_ hx
      obtain ⟨hx1, hx2, hx3⟩ := allR_get (HG.out x (List.mem_of_getElem? hx))
      have HGR := Lib.hid hx3
      clear hx hx3 hx1
      obtain ⟨u1, v1, h91, hsl1⟩ := hat1.w
      obtain ⟨u2, v2, h92, hsl2⟩ := hat2.w
      rw [Nat.mul_one] at h91 h92
      have mm : ((x.length : Int) != (x.length : Int)) = false := by simp
      have HS01 := Lib.hid hsl1
      have HS02 := Lib.hid hsl2
      clear hsl1 hsl2 hat1 hat2
      go_wp2
      go_quiet (fail)
      generalize hw0 : wr.drewN nq = w2
      have hw2 : Same wr w2 := by rw [← hw0]; exact (Same.refl _).drewN _
      have HBW := Lib.hid (by rw [← hw0]; exact below_drewN HB.out nq : Below w.heap.size w w2)
      have HX1 := Lib.hid (SlR.below HS01.out hw2.below)
      have HX2 := Lib.hid (SlR.below HS02.out hw2.below)
      have hb12 : b1 < w2.heap.size := by rw [hw2.heap]; exact hb1
      have hb22 : b2 < w2.heap.size := by rw [hw2.heap]; exact hb2
      have h911 := (hw2.cell ⟨b1, o1 + k, none⟩).trans h91
      have h922 := (hw2.cell ⟨b2, o2 + k, none⟩).trans h92
      have HC1 : Hid (∀ w3, Below w2.heap.size w2 w3 → w3.cell? ⟨b1, o1 + k, none⟩ = some (.slice u1 x.length v1)) := Lib.hid (fun w3 h => (h.cell (p := ⟨b1, o1 + k, none⟩) hb12).trans h911)
      have HC2 : Hid (∀ w3, Below w2.heap.size w2 w3 → w3.cell? ⟨b2, o2 + k, none⟩ = some (.slice u2 x.length v2)) := Lib.hid (fun w3 h => (h.cell (p := ⟨b2, o2 + k, none⟩) hb22).trans h922)
      clear hw2 hw0 h91 h92 HS01 HS02 hb1 hb2
      go_wp2
      clear h911 h922
      go_loopw [36] (fun v wq => ∃ k : Nat, k ≤ x.length ∧ v = .int .i64 k ∧ Hid (Below w2.heap.size w2 wq)) (fun v _ => x.length - (intOf v).toNat)
      case atStart => exact ⟨0, by omega, rfl, Lib.hid (Below.refl _ _)⟩
      case round =>
        obtain ⟨k2, hk2, rfl, HB2⟩ := hrel
        by_cases hlt2 : k2 < x.length
        · obtain ⟨y, hy⟩ : ∃ y, x[k2]? = some y := ⟨_, List.getElem?_eq_getElem hlt2⟩
          obtain ⟨hm0, hm1, hsp⟩ := rgR_true (HGR.out y (List.mem_of_getElem? hy))
          obtain ⟨b3, o3, rfl, hb3, hat3⟩ := (HX1.out.below HB2.out).at_ hy
          obtain ⟨b4, o4, rfl, hb4, hat4⟩ := (HX2.out.below HB2.out).at_ hy
          have hb1w : b1 < wr.heap.size := Nat.lt_of_lt_of_le hb12 HB2.out.size
          have hb2w : b2 < wr.heap.size := Nat.lt_of_lt_of_le hb22 HB2.out.size
          have hb3w : b3 < wr.heap.size := hb3
          have hb4w : b4 < wr.heap.size := hb4
          have h91 := HC1.out _ HB2.out
          have h92 := HC2.out _ HB2.out
          clear hy
          obtain ⟨i0, i1, p1, q1, i2, hs1⟩ := hat3.r
          obtain ⟨j0, j1, p2, q2, j2, hs2⟩ := hat4.r
          obtain ⟨m, ng, sp⟩ := y
          simp only at i0 i1 i2 j0 j1 j2 hs1 hs2 hsp
          have hsp10 := (allR_get hsp).2.1
          have HBB := Lib.hid (below2 wr (.cells #[.int .i64 m, .bool ng, .slice p1 sp.length q1] 49) (.cells #[.int .i64 m, .bool ng, .slice p2 sp.length q2] 49))
          have HS1 := Lib.hid (hs1.below HBB.out)
          have HS2 := Lib.hid (hs2.below HBB.out)
          have HBX1 := Lib.hid ((row_new wr #[.int .i64 m, .bool ng, .slice p1 sp.length q1] 49).alloc (.cells #[.int .i64 m, .bool ng, .slice p2 sp.length q2] 49))
          have HBX2 : Hid (Row ((wr.alloc (.cells #[.int .i64 m, .bool ng, .slice p1 sp.length q1] 49)).alloc (.cells #[.int .i64 m, .bool ng, .slice p2 sp.length q2] 49)) (wr.heap.size + 1) 49 [.int .i64 m, .bool ng, .slice p2 sp.length q2]) := Lib.hid (by
            have h := row_new (wr.alloc (.cells #[.int .i64 m, .bool ng, .slice p1 sp.length q1] 49)) #[.int .i64 m, .bool ng, .slice p2 sp.length q2] 49
            rw [World.size_alloc] at h; exact h)
          have k0 := HBX1.out.cell (i := 0) rfl
          have k1 := HBX1.out.cell (i := 1) rfl
          have k2' := HBX1.out.cell (i := 2) rfl
          have l0 := HBX2.out.cell (i := 0) rfl
          have l1 := HBX2.out.cell (i := 1) rfl
          have l2 := HBX2.out.cell (i := 2) rfl
          have m1 : (m != m) = false := by simp
          have m2 : (ng != ng) = false := by simp
          have m3 : ((sp.length : Int) != (sp.length : Int)) = false := by simp
          clear hs1 hs2 hat3 hat4 hsp
          go_wp2
          go_loopw [77] (fun v wq => ∃ k : Nat, k ≤ sp.length ∧ v = .int .i64 k ∧ Hid (Below ((wr.alloc (.cells #[.int .i64 m, .bool ng, .slice p1 sp.length q1] 49)).alloc (.cells #[.int .i64 m, .bool ng, .slice p2 sp.length q2] 49)).heap.size ((wr.alloc (.cells #[.int .i64 m, .bool ng, .slice p1 sp.length q1] 49)).alloc (.cells #[.int .i64 m, .bool ng, .slice p2 sp.length q2] 49)) wq)) (fun v _ => sp.length - (intOf v).toNat)
          case atStart => exact ⟨0, by omega, rfl, Lib.hid (Below.refl _ _)⟩
          case round =>
            obtain ⟨k3, hk3, rfl, HB3⟩ := hrel
            by_cases hlt3 : k3 < sp.length
            · obtain ⟨z, hz⟩ : ∃ z, sp[k3]? = some z := ⟨_, List.getElem?_eq_getElem hlt3⟩
              obtain ⟨b5, o5, rfl, hb5, hat5⟩ := (HS1.out.below HB3.out).at_ hz
              obtain ⟨b6, o6, rfl, hb6, hat6⟩ := (HS2.out.below HB3.out).at_ hz
              have HR1 := Lib.hid (HBX1.out.below HB3.out)
              have HR2 := Lib.hid (HBX2.out.below HB3.out)
              clear hz
              obtain ⟨f0, f1⟩ := hat5.s
              obtain ⟨g0, g1⟩ := hat6.s
              obtain ⟨lo, hi⟩ := z
              simp only at f0 f1 g0 g1
              have e2 := HR1.out.cell (i := 2) rfl
              have e5 := HR2.out.cell (i := 2) rfl
              have hne := fun w => neq55 w lo hi
              have hgd := guard55
              clear hat5 hat6
              go_wp2
              go_quiet (fail)
              generalize hw0 : wr.drewN nq = w9
              have hb9 := below_drewN HB3.out nq
              rw [hw0] at hb9
              have HB9 := Lib.hid hb9
              clear hw0 hb9
              go_wp2
              go_roundw
              case rel => exact ⟨k3 + 1, by omega, by go_num, HB9⟩
              case measure => simp [intOf]; omega
            · have HB4 := Lib.hid (below_trans HB2.out (below_trans HBB.out HB3.out))
              go_wp2
              go_roundw
              case rel => exact ⟨k2 + 1, by omega, by go_num, HB4⟩
              case measure => simp [intOf]; omega
        · have HB4 := Lib.hid (below_trans HBW.out HB2.out)
          go_wp2
          go_roundw
          case rel => exact ⟨k + 1, by omega, by go_num, HB4⟩
          case measure => simp [intOf]; omega
    · go_wp2
      go_ret
      exact ⟨rfl, HB.out⟩
end Go.Proofs.YtlgodcbffimcoaaDoor
