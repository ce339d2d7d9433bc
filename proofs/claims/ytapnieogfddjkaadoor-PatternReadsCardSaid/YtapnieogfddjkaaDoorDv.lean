/- The document's Like, at two lists of the same parts. -/
import Derived.Test.YtapnieogfddjkaaDoorDu
import Derived.StillTailTactics
namespace Go.Proofs.YtapnieogfddjkaaDoor.Dr
open Go.RowKit Go.Proofs.YtapnieogfddjkaaDoor

def LikeOK (n : Nat) : Prop := ∀ (w : World) (a b : Option Addr) (ca cb : Nat) (xs : List Pt), SlP w (Old w) n (.slice a xs.length ca) xs → SlP w (Old w) n (.slice b xs.length cb) xs →
  Calls Tryd.prog 9 #[.slice a xs.length ca, .slice b xs.length cb] w fun e w' => e = .returned (.bool true) ∧ Below w.heap.size w w'

set_option maxHeartbeats 6400000 in
set_option maxRecDepth 100000 in
theorem like_of (n : Nat) (HV : ∀ q, q < n → LikeOK q) : LikeOK n := by
  intro w a b ca cb xs hxs hys
  have hlc := hxs.lenle
  obtain ⟨L, HL⟩ : ∃ L, Hid (L = xs.length) := ⟨_, Lib.hid rfl⟩
  rw [← HL.out] at hxs hys hlc ⊢
  have HX := Lib.hid hxs
  have HY := Lib.hid hys
  have HVV := Lib.hid HV
  clear hxs hys HV
  go_enter Tryd.func9, Tryd.ntmps9
  go_wp2
  go_loopw [16] (fun i wr => ∃ k : Nat, k ≤ L ∧ i = .int .i64 k ∧ Hid (Below w.heap.size w wr)) (fun i _ => L - (intOf i).toNat)
  case atStart => exact ⟨0, Nat.zero_le _, rfl, Lib.hid (Below.refl _ _)⟩
  case round =>
    obtain ⟨k, hk, rfl, HB⟩ := hrel
    by_cases hlt : k < L
    · obtain ⟨x, hx⟩ : ∃ x, xs[k]? = some x := ⟨_, List.getElem?_eq_getElem (by have := HL.out; omega)⟩
      obtain ⟨g, off, rfl, hg, hat⟩ := (HX.out.old HB.out).at_ hx
      obtain ⟨g2, off2, rfl, hg2, hat2⟩ := (HY.out.old HB.out).at_ hx
      obtain ⟨h0, h1, h2, q, a1, p1, hnq, h3, hcs⟩ := hat.p
      obtain ⟨i0, i1, i2, q2, a2, p2, hnq2, i3, hds⟩ := hat2.p
      obtain rfl : q2 = q := by omega
      obtain ⟨pk, pt, pn, cs⟩ := x
      simp only [Pt.k, Pt.t, Pt.n, Pt.cs] at h0 h1 h2 h3 hcs i0 i1 i2 i3 hds
      have hL1 := hcs.lenle
      obtain ⟨L1, HL1⟩ : ∃ L1, Hid (L1 = cs.length) := ⟨_, Lib.hid rfl⟩
      rw [← HL1.out] at h3 hcs hL1 i3 hds
      have i0 := (World.cell?_of_block (w := wr) (w' := wr.alloc (.cells #[.int .i64 pk, .string pt, .string pn, .slice a1 L1 p1] 42)) (a := ⟨g2, off2 + k * 4, none⟩) (Below.heap_alloc _ _ _ hg2)).trans i0
      have i1 := (World.cell?_of_block (w := wr) (w' := wr.alloc (.cells #[.int .i64 pk, .string pt, .string pn, .slice a1 L1 p1] 42)) (a := ⟨g2, off2 + k * 4 + 1, none⟩) (Below.heap_alloc _ _ _ hg2)).trans i1
      have i2 := (World.cell?_of_block (w := wr) (w' := wr.alloc (.cells #[.int .i64 pk, .string pt, .string pn, .slice a1 L1 p1] 42)) (a := ⟨g2, off2 + k * 4 + 2, none⟩) (Below.heap_alloc _ _ _ hg2)).trans i2
      have i3 := (World.cell?_of_block (w := wr) (w' := wr.alloc (.cells #[.int .i64 pk, .string pt, .string pn, .slice a1 L1 p1] 42)) (a := ⟨g2, off2 + k * 4 + 3, none⟩) (Below.heap_alloc _ _ _ hg2)).trans i3
      have RA := (row_new wr #[.int .i64 pk, .string pt, .string pn, .slice a1 L1 p1] 42).alloc (.cells #[.int .i64 pk, .string pt, .string pn, .slice a2 L1 p2] 42)
      have RB := row_new (wr.alloc (.cells #[.int .i64 pk, .string pt, .string pn, .slice a1 L1 p1] 42)) #[.int .i64 pk, .string pt, .string pn, .slice a2 L1 p2] 42
      have hsz : (wr.alloc (.cells #[.int .i64 pk, .string pt, .string pn, .slice a1 L1 p1] 42)).heap.size = wr.heap.size + 1 := World.size_alloc _ _
      rw [hsz] at RB
      have a0 := RA.cell (i := 0) rfl
      have a1' := RA.cell (i := 1) rfl
      have a2' := RA.cell (i := 2) rfl
      have a3 := RA.cell (i := 3) rfl
      have b0 := RB.cell (i := 0) rfl
      have b1 := RB.cell (i := 1) rfl
      have b2 := RB.cell (i := 2) rfl
      have b3 := RB.cell (i := 3) rfl
      have HRA := Lib.hid RA
      have HRB := Lib.hid RB
      have HB1 : Hid (Below w.heap.size w ((wr.alloc (.cells #[.int .i64 pk, .string pt, .string pn, .slice a1 L1 p1] 42)).alloc (.cells #[.int .i64 pk, .string pt, .string pn, .slice a2 L1 p2] 42))) := Lib.hid (below_trans HB.out (below2 _ _ _))
      have HC1 := Lib.hid ((hcs.old (below2 wr (.cells #[.int .i64 pk, .string pt, .string pn, .slice a1 L1 p1] 42) (.cells #[.int .i64 pk, .string pt, .string pn, .slice a2 L1 p2] 42))))
      have HD1 := Lib.hid ((hds.old (below2 wr (.cells #[.int .i64 pk, .string pt, .string pn, .slice a1 L1 p1] 42) (.cells #[.int .i64 pk, .string pt, .string pn, .slice a2 L1 p2] 42))))
      have HNQ := Lib.hid hnq
      clear RA RB hat hat2 hcs hds hx hnq hnq2 hg hg2 hsz
      go_wp2
      generalize (wr.alloc (.cells #[.int .i64 pk, .string pt, .string pn, .slice a1 L1 p1] 42)).alloc (.cells #[.int .i64 pk, .string pt, .string pn, .slice a2 L1 p2] 42) = w3 at *
      obtain ⟨A, HA⟩ : ∃ A, Hid (A = wr.heap.size) := ⟨_, Lib.hid rfl⟩
      rw [← HA.out] at HRA HRB ⊢
      clear h0 h1 h2 h3 i0 i1 i2 i3 a0 a1' a2' a3 b0 b1 b2 b3 HB
      go_loopw [58] (fun i wr => ∃ j : Nat, j ≤ L1 ∧ i = .int .i64 j ∧ Hid (Below w3.heap.size w3 wr)) (fun i _ => L1 - (intOf i).toNat)
      case atStart => exact ⟨0, Nat.zero_le _, rfl, Lib.hid (Below.refl _ _)⟩
      case round =>
        obtain ⟨j, hj, rfl, HB2⟩ := hrel
        by_cases hlj : j < L1
        · obtain ⟨y, hy⟩ : ∃ y, cs[j]? = some y := ⟨_, List.getElem?_eq_getElem (by have := HL1.out; omega)⟩
          obtain ⟨b2, o2, rfl, -, hat⟩ := (HC1.out.old HB2.out).at_ hy
          obtain ⟨b3, o3, rfl, -, hat2⟩ := (HD1.out.old HB2.out).at_ hy
          obtain ⟨k0, a4, p4, k1, hks⟩ := hat.c
          obtain ⟨l0, a5, p5, l1, hls⟩ := hat2.c
          obtain ⟨key, kids⟩ := y
          simp only [Cs.key, Cs.kids] at k0 k1 hks l0 l1 hls
          have HCALL := Lib.hid (HVV.out q2 (by have := HNQ.out; omega) wr.drew a4 a5 p4 p5 kids (hks.old ((Same.refl _).drew.below)) (hls.old ((Same.refl _).drew.below)))
          obtain ⟨L3, HL3⟩ : ∃ L3, Hid (L3 = kids.length) := ⟨_, Lib.hid rfl⟩
          rw [← HL3.out] at k1 l1 HCALL
          have x3 := (HRA.out.below HB2.out).cell (i := 3) rfl
          have y3 := (HRB.out.below HB2.out).cell (i := 3) rfl
          have HB3 : Hid (Below w3.heap.size w3 wr.drew) := Lib.hid (below_trans HB2.out ((Same.refl _).drew.below))
          clear hat hat2 hks hls hy
          go_wp2
          go_still_tail 26, (by kernel_rfl)
          change wpList _ _ _ _ _ wr.drew
          generalize wr.drew = w4 at *
          go_wp2_with fail
          refine HCALL.out.mono ?_
          rintro e w5 ⟨rfl, hb5⟩
          have HB5 := Lib.hid (below_trans HB3.out hb5)
          clear hb5
          go_wp2
          go_roundw
          case rel => exact ⟨j + 1, by omega, by go_num, HB5⟩
          case measure => simp [intOf]; omega
        · have HB5 := Lib.hid (below_trans HB1.out HB2.out)
          go_wp2
          go_roundw
          case rel => exact ⟨k + 1, by omega, by go_num, HB5⟩
          case measure => simp [intOf]; omega
    · go_wp2
      go_ret
      exact ⟨rfl, HB.out⟩
theorem like_any : ∀ n, LikeOK n := fun n => by
  induction n using Nat.strongRecOn with
  | _ n ih => exact like_of n ih
end Go.Proofs.YtapnieogfddjkaaDoor.Dr
