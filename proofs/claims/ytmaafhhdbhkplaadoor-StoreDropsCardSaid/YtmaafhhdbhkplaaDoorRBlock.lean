/- The document's block. -/
import Derived.Test.YtmaafhhdbhkplaaDoorRNum
namespace Go.Proofs.YtmaafhhdbhkplaaDoor
open Go.RowKit

theorem info35 : (Tryd.prog.info? 56).map (fun i => (i.zero, i.size, i.bytes)) = some (some (.int .u32 0), 1, 4) := by kernel_rfl
/-- Bytes lie there. -/
def Bat (w : World) (g o : Nat) (l : Bs) : Prop := ∀ j, j < l.length → w.cell? ⟨g, o + j, none⟩ = some (.int .u8 ((l.getD j 0).toNat : Int))
/-- Words lie there. -/
def Wat (w : World) (g o : Nat) (l : List Int) : Prop := ∀ j, j < l.length → w.cell? ⟨g, o + j, none⟩ = some (.int .u32 (l.getD j 0))
theorem Bat.below {w w' : World} {B g o : Nat} {l : Bs} (h : Bat w g o l) (hb : Below B w w') (hg : g < B) : Bat w' g o l := fun j hj => (hb.cell (p := ⟨g, o + j, none⟩) hg).trans (h j hj)
theorem Wat.below {w w' : World} {B g o : Nat} {l : List Int} (h : Wat w g o l) (hb : Below B w w') (hg : g < B) : Wat w' g o l := fun j hj => (hb.cell (p := ⟨g, o + j, none⟩) hg).trans (h j hj)
theorem owns_some {w : World} {base : Nat} {e : TypeId} {v : Value} {n : Nat} {xs : List Value} (h : w.ownsRow base e 1 v n xs) (hn : 0 < n) : ∃ g cap, v = .slice (some ⟨g, 0, none⟩) n cap ∧ base ≤ g ∧ g < w.heap.size := h.form hn
theorem owns_cell {w : World} {b : Nat} {e : TypeId} {g n c cap : Nat} {xs : List Value} (h : w.ownsRow b e 1 (.slice (some ⟨g, 0, none⟩) n cap) c xs) {i : Nat} {u : Value} (hi : xs[i]? = some u) : w.cell? ⟨g, i, none⟩ = some u := by
  have := h.cells (g := g) rfl i u hi
  rwa [Addr.add_mid, Nat.zero_add] at this

theorem owns_same {w w' : World} {base : Nat} {e : TypeId} {size : Nat} {v : Value} {n : Nat} {xs : List Value} (h : w.ownsRow base e size v n xs) (hs : Same w w') : w'.ownsRow base e size v n xs := by
  unfold World.ownsRow at *
  rw [hs.heap]; exact h
/-- What the first two loops keep. -/
structure BI (w : World) (v : Value) (t : Nat) (l : List Int) (W : World) : Prop where
  own : W.ownsRow w.heap.size 56 1 v t (u32s l)
  below : Below w.heap.size w W

set_option maxHeartbeats 2000000 in
set_option maxRecDepth 100000 in
theorem block_any (w : World) (hg ho hc kg ko kc g o n cap : Nat) (s : S8) (hs : s.Ok) (ks : List Int) (hk : ks.length = 64) (p : Bs) (hp : p.length = 64) (hn : 64 ≤ n) (hn2 : n ≤ 140737488355328) (hcap : n ≤ cap)
    (hH : Wat w hg ho s.list) (hK : Wat w kg ko ks) (hB : Bat w g o p) (lh : hg < w.heap.size) (lk : kg < w.heap.size) (lg : g < w.heap.size) :
    Calls Tryd.prog 45 #[.slice (some ⟨hg, ho, none⟩) 8 hc, .slice (some ⟨kg, ko, none⟩) 64 kc, .slice (some ⟨g, o, none⟩) n cap] w fun e w' => ∃ g', e = .returned (.slice (some ⟨g', 0, none⟩) 8 8) ∧ Wat w' g' 0 (mixF ks s p).list ∧ w.heap.size ≤ g' ∧ g' < w'.heap.size ∧ Below w.heap.size w w' := by
  obtain ⟨i0, hi, hz0, hz1, hz2⟩ := info_parts info35
  have HH := Lib.hid hH
  have HK := Lib.hid hK
  have HB := Lib.hid hB
  clear hH hK hB
  go_enter Tryd.func45, Tryd.ntmps45
  go_wp2
  go_loopw [7, 8] (fun v x wr => ∃ (t : Nat) (a : Option Addr) (c : Nat), t ≤ 16 ∧ x = .int .i64 t ∧ v = .slice a t c ∧ Hid (BI w v t (w16 p t) wr)) (fun _ x _ => 16 - (intOf x).toNat)
  case atStart => exact ⟨0, _, 0, by omega, rfl, rfl, Lib.hid ⟨World.ownsRow_made w #[] 0 (Nat.le_refl _) (by unfold maxLen; omega) rfl, below1 _ _⟩⟩
  case round =>
    obtain ⟨t, a, c, ht, rfl, rfl, HI⟩ := hrel
    by_cases h16 : t < 16
    · have hB1 := HB.out.below HI.out.below lg
      have b0 := hB1 (4 * t) (by omega)
      have b1 := hB1 (4 * t + 1) (by omega)
      have b2 := hB1 (4 * t + 2) (by omega)
      have b3 := hB1 (4 * t + 3) (by omega)
      have HN : Hid (Calls Tryd.prog 49 #[.slice (some ⟨g, o + 4 * t, none⟩) (n - 4 * t) (cap - 4 * t)] wr fun e w' => e = .returned (.int .u32 (wd4 (p.getD (4 * t) 0) (p.getD (4 * t + 1) 0) (p.getD (4 * t + 2) 0) (p.getD (4 * t + 3) 0))) ∧ ∃ m, w' = wr.drewN m) := Lib.hid (number_any wr g (o + 4 * t) (n - 4 * t) (cap - 4 * t) _ _ _ _ (by omega) (by omega) b0 b1 b2 b3)
      have HW : Hid (u32s (w16 p (t + 1)) = u32s (w16 p t) ++ [.int .u32 (wd4 (p.getD (4 * t) 0) (p.getD (4 * t + 1) 0) (p.getD (4 * t + 2) 0) (p.getD (4 * t + 3) 0))]) := Lib.hid (by rw [w16]; simp [u32s])
      clear hB1 b0 b1 b2 b3
      generalize wd4 (p.getD (4 * t) 0) (p.getD (4 * t + 1) 0) (p.getD (4 * t + 2) 0) (p.getD (4 * t + 3) 0) = x at *
      have hck : ¬ cap = 4 * t := by omega
      have hti : 4 * (t : Int) ≤ (n : Int) := by omega
      go_wp2_with fail
      refine HN.out.mono ?_
      rintro e w1 ⟨rfl, m, rfl⟩
      have HI2 : Hid (BI w (.slice a t c) t (w16 p t) (wr.drewN m)) := Lib.hid ⟨owns_same HI.out.own ((Same.refl wr).drewN m), below_drewN HI.out.below m⟩
      clear HI HN
      generalize wr.drewN m = wq at *
      have hrow := HI2.out.own
      have hbl := HI2.out.below
      go_wp2_with (at_builtin; refine wpList_append_own _ rfl _ _ 57 rfl w.heap.size 56 i0 (.int .u32 0) 1 4 Tryd.underlying57 hi hz0 hz1 hz2 rfl (by decide) _ _ _ rfl (hrow.alloc _) ⟨wq.heap.size, 0, none⟩ 1 1 [.int .u32 x] rfl rfl (cell_one_new _ _ _) (by simp [Value.oneCell']) (by unfold maxLen; omega) (by omega) (by have := hbl.size; simp; omega) ?_; intro v' w2 hown' hgrow _; obtain ⟨g', cap', rfl, -, -⟩ := owns_some hown' (by omega))
      have HI3 : Hid (BI w (.slice (some ⟨g', 0, none⟩) (t + 1) cap') (t + 1) (w16 p (t + 1)) w2) := Lib.hid ⟨by rw [HW.out]; exact hown', (hbl.alloc hbl.size _).grown hgrow (by have := hbl.size; simp; omega) (fun k e => (hrow.lt k e).1)⟩
      clear hown' hgrow hrow hbl HI2 HW
      refine ⟨⟨t + 1, some ⟨g', 0, none⟩, cap', by omega, by go_num, rfl, HI3⟩, ?_⟩
      simp [intOf]; omega
    · obtain rfl : t = 16 := by omega
      clear h16 ht
      rw [show (((16 : Nat) : Int)) = (16 : Int) from rfl]
      go_wp2
      go_loopw [7, 9] (fun v x wr => ∃ (t : Nat) (g1 c : Nat), 16 ≤ t ∧ t ≤ 64 ∧ x = .int .i64 t ∧ v = .slice (some ⟨g1, 0, none⟩) t c ∧ Hid (BI w v t (sch (w16 p 16) (t - 16)) wr)) (fun _ x _ => 64 - (intOf x).toNat)
      case atStart =>
        obtain ⟨g1, c1, hv, -, -⟩ := owns_some HI.out.own (by omega)
        obtain ⟨rfl, -, rfl⟩ := Value.slice.inj hv
        exact ⟨16, g1, c, by omega, by omega, rfl, rfl, HI⟩
      case round =>
        clear HI
        obtain ⟨t, g1, c1, ht1, ht, rfl, rfl, HI⟩ := hrel
        by_cases h64 : t < 64
        · have hL : (sch (w16 p 16) (t - 16)).length = t := by rw [sch_length, w16_length]; omega
          have hat : ∀ i, i < t → wr.cell? ⟨g1, i, none⟩ = some (.int .u32 ((sch (w16 p 16) (t - 16)).getD i 0)) := fun i hi => owns_cell HI.out.own (u32s_at _ i (by omega))
          have k2 := hat (t - 2) (by omega)
          have k7 := hat (t - 7) (by omega)
          have k15 := hat (t - 15) (by omega)
          have k16 := hat (t - 16) (by omega)
          have wall := sch_wd _ (w16_wd p 16) (t - 16)
          have w2 := wall.getD (t - 2)
          have w15 := wall.getD (t - 15)
          have HE : Hid (sch (w16 p 16) (t + 1 - 16) = sch (w16 p 16) (t - 16) ++ [nextF ((sch (w16 p 16) (t - 16)).getD (t - 2) 0) ((sch (w16 p 16) (t - 16)).getD (t - 7) 0) ((sch (w16 p 16) (t - 16)).getD (t - 15) 0) ((sch (w16 p 16) (t - 16)).getD (t - 16) 0)]) := Lib.hid (by
            rw [show t + 1 - 16 = (t - 16) + 1 by omega, sch, show t - 16 + 14 = t - 2 by omega, show t - 16 + 9 = t - 7 by omega, show t - 16 + 1 = t - 15 by omega])
          have u7 := u32s_at (sch (w16 p 16) (t - 16)) (t - 7) (by omega)
          have u16 := u32s_at (sch (w16 p 16) (t - 16)) (t - 16) (by omega)
          generalize (sch (w16 p 16) (t - 16)).getD (t - 2) 0 = x2 at *
          generalize (sch (w16 p 16) (t - 16)).getD (t - 7) 0 = x7 at *
          generalize (sch (w16 p 16) (t - 16)).getD (t - 15) 0 = x15 at *
          generalize (sch (w16 p 16) (t - 16)).getD (t - 16) 0 = x16 at *
          have HE2 : Hid (u32s (sch (w16 p 16) (t + 1 - 16)) = u32s (sch (w16 p 16) (t - 16)) ++ [.int .u32 (nextF x2 x7 x15 x16)]) := Lib.hid (by rw [HE.out]; simp [u32s])
          have HU7 := Lib.hid u7
          have HU16 := Lib.hid u16
          clear hat wall HE hL u7 u16
          have e2 : IntKind.i64.wrap ((t : Int) - 2) = (t : Int) - 2 := IntWalk.i64_in _ (by omega)
          have l2 : 0 ≤ (t : Int) - 2 := by omega
          have m2 : (t : Int) - 2 < (t : Int) := by omega
          have n2 : ((t : Int) - 2).toNat = t - 2 := by omega
          have e7 : IntKind.i64.wrap ((t : Int) - 7) = (t : Int) - 7 := IntWalk.i64_in _ (by omega)
          have l7 : 0 ≤ (t : Int) - 7 := by omega
          have m7 : (t : Int) - 7 < (t : Int) := by omega
          have n7 : ((t : Int) - 7).toNat = t - 7 := by omega
          have e15 : IntKind.i64.wrap ((t : Int) - 15) = (t : Int) - 15 := IntWalk.i64_in _ (by omega)
          have l15 : 0 ≤ (t : Int) - 15 := by omega
          have m15 : (t : Int) - 15 < (t : Int) := by omega
          have n15 : ((t : Int) - 15).toNat = t - 15 := by omega
          have e16 : IntKind.i64.wrap ((t : Int) - 16) = (t : Int) - 16 := IntWalk.i64_in _ (by omega)
          have l16 : 0 ≤ (t : Int) - 16 := by omega
          have m16 : (t : Int) - 16 < (t : Int) := by omega
          have n16 : ((t : Int) - 16).toNat = t - 16 := by omega
          go_wp2_with (first | (go_at_call_of 50 (Value.int .u32 x2); refine (turned_any _ _ _ w2 (by decide) (by decide)).mono ?_; rintro e' w' ⟨rfl, rfl⟩) | (go_at_call_of 50 (Value.int .u32 x15); refine (turned_any _ _ _ w15 (by decide) (by decide)).mono ?_; rintro e' w' ⟨rfl, rfl⟩))
          rw [show bits BinOp.xor IntKind.u32 (bits BinOp.xor IntKind.u32 (rot x2 17) (rot x2 19)) (x2 / 1024) = s1F x2 from rfl, show bits BinOp.xor IntKind.u32 (bits BinOp.xor IntKind.u32 (rot x15 7) (rot x15 18)) (x15 / 8) = s0F x15 from rfl]
          have HNX : Hid (nextF x2 x7 x15 x16 = (s1F x2 + x7 + s0F x15 + x16) % 4294967296) := Lib.hid rfl
          have hrow := HI.out.own
          have hbl := HI.out.below
          have y7 : (7 : Int) ≤ (t : Int) := by omega
          have y7' : 7 ≤ t := by omega
          have y16 : (16 : Int) ≤ (t : Int) := by omega
          generalize s1F x2 = z1 at *
          generalize s0F x15 = z0 at *
          have j7 : wr.drew.cell? ⟨g1, t - 7, none⟩ = some (.int .u32 x7) := k7
          have j16 : wr.drew.cell? ⟨g1, t - 16, none⟩ = some (.int .u32 x16) := k16
          go_region_held3 (fun W => W.cell? ⟨g1, t - 7, none⟩ = some (.int .u32 x7) ∧ W.cell? ⟨g1, t - 16, none⟩ = some (.int .u32 x16))
            (first
              | go_keep
              | (go_split_ands; exact ⟨owns_cell hold5 HU7.out, owns_cell hold5 HU16.out⟩))
            (first
              | (refine step_append_keep (by rfl) _ _ _ (by rfl) w.heap.size 56 i0 _ 4 Tryd.underlying57 hi hz0 hz1 hz2 rfl g1 t c1 _ (by rfl) ((hrow.alloc _).drew) ⟨wr.heap.size, 0, none⟩ _ 1 (by rfl) (cell_one_new _ _ _ 0 _ rfl) (by rfl) (by unfold maxLen; omega) (by omega) (by have := hbl.size; first | (simp; done) | (simp; omega) | omega) ?_; intro gg cap' w5 hown5 hold5 hgrow5)
              | fail)
          all_goals
            have hwrap : IntKind.u32.wrap (IntKind.u32.wrap (IntKind.u32.wrap (z1 + x7) + z0) + x16) = nextF x2 x7 x15 x16 := by
              rw [HNX.out]
              simp only [IntKind.wrap_u32']
              omega
            rw [hwrap] at hown5 hgrow5
            have HI5 : Hid (BI w (.slice (some ⟨gg, 0, none⟩) (t + 1) cap') (t + 1) (sch (w16 p 16) (t + 1 - 16)) w5) := Lib.hid ⟨by rw [HE2.out]; exact hown5, (hbl.alloc hbl.size _).drew.grown hgrow5 (by have := hbl.size; simp; omega) (fun k e => (hrow.lt k e).1)⟩
            clear hown5 hold5 hgrow5 hwrap hrow hbl HI HE2 HU7 HU16 HNX
            go_wp2
            refine ⟨⟨t + 1, gg, cap', by omega, by omega, by go_num, rfl, HI5⟩, ?_⟩
            simp [intOf]; omega
        · obtain rfl : t = 64 := by omega
          obtain ⟨w3, rfl⟩ : ∃ w3, w3 = wr := ⟨wr, rfl⟩
          have HS : Hid (Wat w3 g1 0 (schF p)) := Lib.hid (fun j hj => by
            rw [Nat.zero_add]
            exact owns_cell HI.out.own (u32s_at (schF p) j hj))
          have hgl : w.heap.size ≤ g1 := by
            obtain ⟨g2, c2, hv, h1, -⟩ := owns_some HI.out.own (by omega)
            obtain ⟨h3, -, -⟩ := Value.slice.inj hv
            injection h3 with h3; injection h3 with h3
            omega
          have HBW : Hid (Below w.heap.size w w3) := Lib.hid HI.out.below
          clear HI h64 ht ht1
          rw [show (((64 : Nat) : Int)) = (64 : Int) from rfl]
          have HH2 := HH.out.below HBW.out lh
          have c0 : w3.cell? ⟨hg, ho, none⟩ = some (.int .u32 s.a) := HH2 0 (by simp [S8.list])
          have c1 : w3.cell? ⟨hg, ho + 1, none⟩ = some (.int .u32 s.b) := HH2 1 (by simp [S8.list])
          have c2 : w3.cell? ⟨hg, ho + 2, none⟩ = some (.int .u32 s.c) := HH2 2 (by simp [S8.list])
          have c3 : w3.cell? ⟨hg, ho + 3, none⟩ = some (.int .u32 s.d) := HH2 3 (by simp [S8.list])
          have c4 : w3.cell? ⟨hg, ho + 4, none⟩ = some (.int .u32 s.e) := HH2 4 (by simp [S8.list])
          have c5 : w3.cell? ⟨hg, ho + 5, none⟩ = some (.int .u32 s.f) := HH2 5 (by simp [S8.list])
          have c6 : w3.cell? ⟨hg, ho + 6, none⟩ = some (.int .u32 s.g) := HH2 6 (by simp [S8.list])
          have c7 : w3.cell? ⟨hg, ho + 7, none⟩ = some (.int .u32 s.h) := HH2 7 (by simp [S8.list])
          clear HH2
          go_wp2
          go_quiet (fail)
          have HSA : Hid (Same w3 (w3.drewN nq)) := Lib.hid ((Same.refl w3).drewN nq)
          clear c0 c1 c2 c3 c4 c5 c6 c7
          generalize w3.drewN nq = w4 at *
          have hSL := schF_length p
          have HMX : Hid (∀ r, rnd ks (schF p) s 64 = r → mixF ks s p = addF s r) := Lib.hid (fun r h => by rw [mixF, h])
          generalize schF p = S at *
          go_wp2
          go_loopw [14, 15, 16, 17, 18, 19, 20, 21, 22] (fun xa xb xc xd xe xf xg xh x w6 => ∃ (t : Nat) (a b c d e f g h : Int), t ≤ 64 ∧ x = .int .i64 t ∧ xa = .int .u32 a ∧ xb = .int .u32 b ∧ xc = .int .u32 c ∧ xd = .int .u32 d ∧ xe = .int .u32 e ∧ xf = .int .u32 f ∧ xg = .int .u32 g ∧ xh = .int .u32 h ∧ Hid (rnd ks S s t = ⟨a, b, c, d, e, f, g, h⟩) ∧ Hid (Same w3 w6)) (fun _ _ _ _ _ _ _ _ x _ => 64 - (intOf x).toNat)
          case atStart => exact ⟨0, s.a, s.b, s.c, s.d, s.e, s.f, s.g, s.h, by omega, rfl, rfl, rfl, rfl, rfl, rfl, rfl, rfl, rfl, Lib.hid rfl, HSA⟩
          case round =>
            clear HSA
            obtain ⟨t, a, b, c, d, e, f, g', h, ht, rfl, rfl, rfl, rfl, rfl, rfl, rfl, rfl, rfl, HR, HSM⟩ := hrel
            have hok := rnd_ok ks S hs t
            rw [HR.out] at hok
            obtain ⟨ha, hb, hc', hd, he, hf, hg', hh⟩ := hok
            by_cases h64 : t < 64
            · have k1 : wr.cell? ⟨kg, ko + t, none⟩ = some (.int .u32 (ks.getD t 0)) := (HSM.out.cell _).trans (HK.out.below HBW.out lk t (by omega))
              have k2 : wr.cell? ⟨g1, t, none⟩ = some (.int .u32 (S.getD t 0)) := by
                have := HS.out t (by omega)
                rw [Nat.zero_add] at this
                exact (HSM.out.cell _).trans this
              have HE : Hid (rnd ks S s (t + 1) = stepF ⟨a, b, c, d, e, f, g', h⟩ (ks.getD t 0) (S.getD t 0)) := Lib.hid (by rw [rnd, HR.out])
              generalize ks.getD t 0 = kt at *
              generalize S.getD t 0 = wt at *
              have q1 : (t : Int) < 64 := by omega
              go_wp2
              go_quiet ((go_at_call 50; exact Calls.quiet_of_same (turned_q _ _ _ he (by decide) (by decide))))
              go_wp2_with (go_at_call 50; refine (turned_any _ _ _ ha (by decide) (by decide)).mono ?_; rintro e' w' ⟨rfl, rfl⟩)
              refine ⟨⟨t + 1, (stepF ⟨a, b, c, d, e, f, g', h⟩ kt wt).a, a, b, c, (stepF ⟨a, b, c, d, e, f, g', h⟩ kt wt).e, e, f, g', by omega, by go_num, rfl, rfl, rfl, rfl, rfl, rfl, rfl, rfl, Lib.hid (HE.out.trans rfl), Lib.hid (HSM.out.drewN nq)⟩, ?_⟩
              simp [intOf]; omega
            · obtain rfl : t = 64 := by omega
              have HM := Lib.hid (HMX.out _ HR.out)
              have HBX : Hid (Below w.heap.size w wr) := Lib.hid (HBW.out.trans HSM.out.below)
              clear HR HSM HMX HBW HS h64 ht
              rw [show (((64 : Nat) : Int)) = (64 : Int) from rfl]
              have HH2 := HH.out.below HBX.out lh
              have c0 : wr.cell? ⟨hg, ho, none⟩ = some (.int .u32 s.a) := HH2 0 (by simp [S8.list])
              have c1 : wr.cell? ⟨hg, ho + 1, none⟩ = some (.int .u32 s.b) := HH2 1 (by simp [S8.list])
              have c2 : wr.cell? ⟨hg, ho + 2, none⟩ = some (.int .u32 s.c) := HH2 2 (by simp [S8.list])
              have c3 : wr.cell? ⟨hg, ho + 3, none⟩ = some (.int .u32 s.d) := HH2 3 (by simp [S8.list])
              have c4 : wr.cell? ⟨hg, ho + 4, none⟩ = some (.int .u32 s.e) := HH2 4 (by simp [S8.list])
              have c5 : wr.cell? ⟨hg, ho + 5, none⟩ = some (.int .u32 s.f) := HH2 5 (by simp [S8.list])
              have c6 : wr.cell? ⟨hg, ho + 6, none⟩ = some (.int .u32 s.g) := HH2 6 (by simp [S8.list])
              have c7 : wr.cell? ⟨hg, ho + 7, none⟩ = some (.int .u32 s.h) := HH2 7 (by simp [S8.list])
              clear HH2
              go_wp2
              go_still_tail 40, (by kernel_rfl)
              change wpList _ _ _ _ _ wr.drew
              have HB5 : Hid (Below w.heap.size w wr.drew) := Lib.hid HBX.out.drew
              clear c0 c1 c2 c3 c4 c5 c6 c7 HBX
              generalize wr.drew = w5 at *
              have HN5 : Hid (Wat (w5.alloc (.cells (u32s (addF s ⟨a, b, c, d, e, f, g', h⟩).list).toArray 56)) w5.heap.size 0 (addF s ⟨a, b, c, d, e, f, g', h⟩).list) := Lib.hid (fun j hj => by
                rw [Nat.zero_add]
                exact (row_new w5 (u32s (addF s ⟨a, b, c, d, e, f, g', h⟩).list).toArray 56).cell (u32s_at _ j hj))
              go_wp2
              go_ret
              refine ⟨w5.heap.size, rfl, ?_, HB5.out.size, by simp, HB5.out.alloc HB5.out.size _⟩
              rw [HM.out]
              exact HN5.out
end Go.Proofs.YtmaafhhdbhkplaaDoor
