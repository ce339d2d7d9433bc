/- The document's Slow; DigestRoots: what the law answers. -/
import Derived.Test.YtaogjmeofmfgkaaDoorRPrim
import Derived.Test.YtaogjmeofmfgkaaDoorROf
namespace Go.Proofs.YtaogjmeofmfgkaaDoor
open Go.RowKit

theorem k_is : ∀ i, i < 64 → ((X3.getD i 0 % 4294967296 : Nat) : Int) = kL.getD i 0 := by decide +kernel
theorem h_is : ∀ i, i < 8 → ((X2.getD i 0 % 4294967296 : Nat) : Int) = h0.list.getD i 0 := by decide +kernel
theorem p_in : ∀ i, i < 64 → 2 ≤ PL.getD i 0 ∧ PL.getD i 0 ≤ 1000 := by decide +kernel
theorem rootK (i : Nat) (hi : i < 64) (w : World) : Calls Tryd.prog 19 #[.int .i64 ((PL.getD i 0 : Nat) : Int), .int .i64 3] w fun e w' => e = .returned (.int .u32 (kL.getD i 0)) ∧ Below w.heap.size w w' := by
  refine (root3_any (PL.getD i 0) w (p_in i hi).1 (p_in i hi).2).mono fun e w' ⟨he, hb⟩ => ⟨?_, hb⟩
  rw [he, root3_is i hi, k_is i hi]
theorem rootH (i : Nat) (hi : i < 8) (w : World) : Calls Tryd.prog 19 #[.int .i64 ((PL.getD i 0 : Nat) : Int), .int .i64 2] w fun e w' => e = .returned (.int .u32 (h0.list.getD i 0)) ∧ Below w.heap.size w w' := by
  refine (root2_any (PL.getD i 0) w (p_in i (by omega)).1 (p_in i (by omega)).2).mono fun e w' ⟨he, hb⟩ => ⟨?_, hb⟩
  rw [he, root2_is i hi, h_is i hi]
theorem owns_apart {w : World} {b1 b2 : Nat} {e1 e2 : TypeId} {s1 s2 : Nat} {v1 v2 : Value} {n1 n2 : Nat} {xs1 xs2 : List Value} (h1 : w.ownsRow b1 e1 s1 v1 n1 xs1) (h2 : w.ownsRow b2 e2 s2 v2 n2 xs2) (he : e1 ≠ e2) {g : Nat} (hg : v1.ownBlock = some g) : v2.ownBlock ≠ some g := by
  intro hg2
  rcases h1.2 with ⟨rfl, -⟩ | ⟨g1, c1, u1, rfl, -, hh1, -⟩
  · cases hg
  rcases h2.2 with ⟨rfl, -⟩ | ⟨g2, c2, u2, rfl, -, hh2, -⟩
  · cases hg2
  obtain rfl : g1 = g := Option.some.inj hg
  obtain rfl : g2 = g1 := Option.some.inj hg2
  rw [hh1] at hh2
  injection hh2 with hh2
  injection hh2 with _ h
  exact he h
theorem owns_grown {w w' : World} {b : Nat} {e : TypeId} {s : Nat} {v : Value} {n : Nat} {xs : List Value} {row : Option Nat} (h : w.ownsRow b e s v n xs) (hg : w.grownBy w' row) (hne : ∀ g, v.ownBlock = some g → row ≠ some g) : w'.ownsRow b e s v n xs := by
  refine ⟨h.1, ?_⟩
  rcases h.2 with h0 | ⟨g, cap, cur, hv, hbs, hh, hr⟩
  · exact .inl h0
  · exact .inr ⟨g, cap, cur, hv, hbs, (hg.block g (Array.getElem?_eq_some_iff.1 hh).1 (fun e => hne g (by rw [hv]; rfl) e.symm)).trans hh, hr⟩
theorem owns_below {w w' : World} {base : Nat} {e : TypeId} {size : Nat} {v : Value} {n : Nat} {xs : List Value} (h : w.ownsRow base e size v n xs) (hb : Below w.heap.size w w') : w'.ownsRow base e size v n xs := by
  refine ⟨h.1, ?_⟩
  rcases h.2 with h0 | ⟨g, cap, cur, hv, hbs, hh, hr⟩
  · exact .inl h0
  · exact .inr ⟨g, cap, cur, hv, hbs, (hb.block g (Array.getElem?_eq_some_iff.1 hh).1).trans hh, hr⟩
theorem u32s_take (l : List Int) (i : Nat) (hi : i < l.length) : u32s (l.take (i + 1)) = u32s (l.take i) ++ [.int .u32 (l.getD i 0)] := by
  have e : l.take (i + 1) = l.take i ++ [l.getD i 0] := by
    rw [List.take_add_one, List.getElem?_eq_getElem hi]
    simp [List.getD, hi]
  rw [e]; simp [u32s]
theorem owns_wat {w : World} {base g n cap : Nat} {l : List Int} (h : w.ownsRow base 35 1 (.slice (some ⟨g, 0, none⟩) n cap) n (u32s l)) : Wat w g 0 l := fun j hj => by
  rw [Nat.zero_add]
  exact owns_cell h (u32s_at l j hj)
theorem owns_lt {w : World} {base g n cap : Nat} {e : TypeId} {xs : List Value} (h : w.ownsRow base e 1 (.slice (some ⟨g, 0, none⟩) n cap) n xs) : g < w.heap.size := (h.lt g rfl).2

set_option maxHeartbeats 2000000 in
set_option maxRecDepth 100000 in
theorem slow_any (s : ByteArray) (w : World) (hs : s.size ≤ 100000) : Calls Tryd.prog 11 #[.string s] w fun e w' => e = .returned (.string (str (shaF s.data.toList))) ∧ Below w.heap.size w w' := by
  obtain ⟨i0, hi, hz0, hz1, hz2⟩ := info_parts info35
  have HK0 : Hid ((w.alloc (.cells #[] 35)).ownsRow w.heap.size 35 1 (.slice (some ⟨w.heap.size, 0, none⟩) 0 0) 0 (u32s (kL.take 0))) := Lib.hid (World.ownsRow_made w #[] 0 (Nat.le_refl _) (by unfold maxLen; omega) rfl)
  have HB0 := Lib.hid (below1 w (.cells #[] 35))
  have HSH : Hid (be4s (stN kL h0 (s.data.toList ++ padF s.size) ((s.data.toList ++ padF s.size).length / 64)).list 8 = shaF s.data.toList) := Lib.hid (by
    unfold shaF stW
    rw [ba_len])
  go_enter Tryd.func11, Tryd.ntmps11
  go_wp2_with fail
  refine (primes64 _).mono ?_
  rintro e w1 ⟨gp, cp, rfl, hP, hb1⟩
  have HK1 := Lib.hid (owns_below HK0.out hb1)
  have HB1 : Hid (Below w.heap.size w w1) := Lib.hid (HB0.out.trans (hb1.mono (by simp)))
  have HP1 := Lib.hid hP
  clear hP hb1 HK0 HB0
  generalize hbp : (w.alloc (.cells #[] 35)).heap.size = bp at HP1
  clear hbp
  go_wp2
  go_loopw [3, 12] (fun v x wr => ∃ (i g c : Nat), i ≤ 64 ∧ x = .int .i64 i ∧ v = .slice (some ⟨g, 0, none⟩) i c ∧ Hid (wr.ownsRow w.heap.size 35 1 v i (u32s (kL.take i))) ∧ Hid (wr.ownsRow bp 3 1 (.slice (some ⟨gp, 0, none⟩) 64 cp) 64 (nats PL)) ∧ Hid (Below w.heap.size w wr)) (fun _ x _ => 64 - (intOf x).toNat)
  case atStart => exact ⟨0, _, 0, by omega, rfl, rfl, HK1, HP1, HB1⟩
  case round =>
    clear HK1 HP1 HB1
    obtain ⟨i, g, c, hi64, rfl, rfl, HO, HP, HB⟩ := hrel
    by_cases hlt : i < 64
    · have hc := owns_cell HP.out (nats_at PL i hlt)
      have HR := Lib.hid (rootK i hlt)
      have HE := Lib.hid (u32s_take kL i hlt)
      generalize PL.getD i 0 = p at *
      generalize kL.getD i 0 = x at *
      have q1 : (i : Int) < 64 := by omega
      go_wp2_with fail
      refine (HR.out _).mono ?_
      rintro e w2 ⟨rfl, hb2⟩
      have hrow := owns_below HO.out hb2
      have HP2 := Lib.hid (owns_below HP.out hb2)
      have hB := below_trans HB.out hb2
      clear hb2 HO HP HB HR hc
      go_wp2_with (at_builtin; refine wpList_append_own _ rfl _ _ 36 rfl w.heap.size 35 i0 (.int .u32 0) 1 4 Tryd.underlying36 hi hz0 hz1 hz2 rfl (by decide) _ _ _ rfl (hrow.alloc _) ⟨w2.heap.size, 0, none⟩ 1 1 [.int .u32 x] rfl rfl (cell_one_new _ _ _) (by simp [Value.oneCell']) (by unfold maxLen; omega) (by omega) (by have := hB.size; simp; omega) ?_; intro v' w3 hown' hgrow _; obtain ⟨g', cap', rfl, -, -⟩ := owns_some hown' (by omega))
      have HB3 : Hid (Below w.heap.size w w3) := Lib.hid ((hB.alloc hB.size _).grown hgrow (by have := hB.size; simp; omega) (fun k e => (hrow.lt k e).1))
      have HP3 := Lib.hid (owns_grown (HP2.out.alloc (.cells #[.int .u32 x] 35)) hgrow (fun g hg => owns_apart HP2.out hrow (by decide) hg))
      have HO3 : Hid (w3.ownsRow w.heap.size 35 1 (.slice (some ⟨g', 0, none⟩) (i + 1) cap') (i + 1) (u32s (kL.take (i + 1)))) := Lib.hid (by rw [HE.out]; exact hown')
      clear hown' hgrow hrow hB HP2 HE
      refine ⟨⟨i + 1, g', cap', by omega, by go_num, rfl, HO3, HP3, HB3⟩, ?_⟩
      simp [intOf]; omega
    · obtain rfl : i = 64 := by omega
      have HKW : Hid (Wat wr g 0 kL) := Lib.hid (owns_wat HO.out)
      have hgl := owns_lt HO.out
      clear HO HP
      obtain ⟨wy, rfl⟩ : ∃ wy, wy = wr := ⟨wr, rfl⟩
      have HH0 : Hid ((wy.alloc (.cells #[] 35)).ownsRow wy.heap.size 35 1 (.slice (some ⟨wy.heap.size, 0, none⟩) 0 0) 0 (u32s (h0.list.take 0))) := Lib.hid (World.ownsRow_made wy #[] 0 (Nat.le_refl _) (by unfold maxLen; omega) rfl)
      have HBy := Lib.hid (below1 wy (.cells #[] 35))
      rw [show (((64 : Nat) : Int)) = (64 : Int) from rfl]
      go_wp2_with fail
      refine (primes8 _).mono ?_
      rintro e w1 ⟨gq, cq, rfl, hP, hb1⟩
      have HH1 := Lib.hid (owns_below HH0.out hb1)
      have HB1 : Hid (Below wy.heap.size wy w1) := Lib.hid (HBy.out.trans (hb1.mono (by simp)))
      have HP1 := Lib.hid hP
      clear hP hb1 HH0 HBy
      generalize hbq : (wy.alloc (.cells #[] 35)).heap.size = bq at HP1
      clear hbq
      go_wp2
      go_loopw [6, 25] (fun v x wr => ∃ (i g c : Nat), i ≤ 8 ∧ x = .int .i64 i ∧ v = .slice (some ⟨g, 0, none⟩) i c ∧ Hid (wr.ownsRow wy.heap.size 35 1 v i (u32s (h0.list.take i))) ∧ Hid (wr.ownsRow bq 3 1 (.slice (some ⟨gq, 0, none⟩) 8 cq) 8 (nats (PL.take 8))) ∧ Hid (Below wy.heap.size wy wr)) (fun _ x _ => 8 - (intOf x).toNat)
      case atStart => exact ⟨0, _, 0, by omega, rfl, rfl, HH1, HP1, HB1⟩
      case round =>
        clear HH1 HP1 HB1
        obtain ⟨i, gh, ch, hi8, rfl, rfl, HO, HP, HBz⟩ := hrel
        by_cases hlt8 : i < 8
        · have hc := owns_cell HP.out (nats_at (PL.take 8) i hlt8)
          rw [show (PL.take 8).getD i 0 = PL.getD i 0 by
            rw [List.getD_eq_getElem?_getD, List.getElem?_take, if_pos hlt8, ← List.getD_eq_getElem?_getD]] at hc
          have HR := Lib.hid (rootH i hlt8)
          have HE := Lib.hid (u32s_take h0.list i hlt8)
          generalize PL.getD i 0 = p at *
          generalize h0.list.getD i 0 = x at *
          have q1 : (i : Int) < 8 := by omega
          go_wp2_with fail
          refine (HR.out _).mono ?_
          rintro e w2 ⟨rfl, hb2⟩
          have hrow := owns_below HO.out hb2
          have HP2 := Lib.hid (owns_below HP.out hb2)
          have hB := below_trans HBz.out hb2
          clear hb2 HO HP HBz HR hc
          go_wp2_with (at_builtin; refine wpList_append_own _ rfl _ _ 36 rfl wy.heap.size 35 i0 (.int .u32 0) 1 4 Tryd.underlying36 hi hz0 hz1 hz2 rfl (by decide) _ _ _ rfl (hrow.alloc _) ⟨w2.heap.size, 0, none⟩ 1 1 [.int .u32 x] rfl rfl (cell_one_new _ _ _) (by simp [Value.oneCell']) (by unfold maxLen; omega) (by omega) (by have := hB.size; simp; omega) ?_; intro v' w3 hown' hgrow _; obtain ⟨g', cap', rfl, -, -⟩ := owns_some hown' (by omega))
          have HB3 : Hid (Below wy.heap.size wy w3) := Lib.hid ((hB.alloc hB.size _).grown hgrow (by have := hB.size; simp; omega) (fun k e => (hrow.lt k e).1))
          have HP3 := Lib.hid (owns_grown (HP2.out.alloc (.cells #[.int .u32 x] 35)) hgrow (fun g hg => owns_apart HP2.out hrow (by decide) hg))
          have HO3 : Hid (w3.ownsRow wy.heap.size 35 1 (.slice (some ⟨g', 0, none⟩) (i + 1) cap') (i + 1) (u32s (h0.list.take (i + 1)))) := Lib.hid (by rw [HE.out]; exact hown')
          clear hown' hgrow hrow hB HP2 HE
          refine ⟨⟨i + 1, g', cap', by omega, by go_num, rfl, HO3, HP3, HB3⟩, ?_⟩
          simp [intOf]; omega
        · obtain rfl : i = 8 := by omega
          have HHW : Hid (Wat wr gh 0 h0.list) := Lib.hid (owns_wat HO.out)
          have hhl := owns_lt HO.out
          have HKW2 : Hid (Wat wr g 0 kL) := Lib.hid (HKW.out.below HBz.out hgl)
          have hgl2 : g < wr.heap.size := Nat.lt_of_lt_of_le hgl HBz.out.size
          have HBF : Hid (Below w.heap.size w wr) := Lib.hid (below_trans HB.out HBz.out)
          have HC : Hid (Calls Tryd.prog 17 #[.string s, .slice (some ⟨gh, 0, none⟩) 8 ch, .slice (some ⟨g, 0, none⟩) 64 c] wr fun e w' => e = .returned (.string (str (shaF s.data.toList))) ∧ Below wr.heap.size wr w') := Lib.hid (by
            have := over_any s wr gh ch g 0 c h0 h0_ok kL kL_length hs HHW.out HKW2.out hhl hgl2
            rwa [HSH.out] at this)
          clear HHW HKW2 HKW HO HP HBz
          rw [show (((8 : Nat) : Int)) = (8 : Int) from rfl]
          go_wp2_with fail
          refine HC.out.mono ?_
          rintro e w5 ⟨rfl, hb5⟩
          go_wp2
          go_ret
          exact ⟨rfl, below_trans HBF.out hb5⟩

set_option maxHeartbeats 1000000 in
theorem roots_any (s : ByteArray) (w : World) (ht : Tab w) (hs : s.size ≤ 140737488351232) :
    Calls Tryd.prog 4 #[.string s] w fun e w' => e = .returned (.bool true) ∧ Below w.heap.size w w' := by
  have HT := Lib.hid ht
  clear ht
  have hc := cut_size s 300
  have S1 : Hid (∀ W, Calls Tryd.prog 8 #[.string s, .int .i64 300] W fun e w' => e = .returned (.string (cutS s 300)) ∧ W = w') := Lib.hid (fun W => short_any s 300 W hs (by omega))
  generalize cutS s 300 = c at *
  have O1 : Hid (∀ W, Tab W → Calls Tryd.prog 9 #[.string c] W fun e w' => e = .returned (.string (str (shaF c.data.toList))) ∧ Below W.heap.size W w') := Lib.hid (fun W h => of_any _ W h (by omega))
  have O2 : Hid (∀ W, Calls Tryd.prog 11 #[.string c] W fun e w' => e = .returned (.string (str (shaF c.data.toList))) ∧ Below W.heap.size W w') := Lib.hid (fun W => slow_any _ W (by omega))
  generalize str (shaF c.data.toList) = D at *
  go_enter Tryd.func4, Tryd.ntmps4
  go_wp2_with fail
  refine (S1.out _).mono ?_
  rintro e w' ⟨rfl, rfl⟩
  go_wp2_with fail
  refine (O1.out w HT.out).mono ?_
  rintro e w1 ⟨rfl, hb1⟩
  go_wp2_with fail
  refine (O2.out w1).mono ?_
  rintro e w2 ⟨rfl, hb2⟩
  have HB3 := Lib.hid (below_trans hb1 hb2)
  clear hb1 hb2
  go_wp2
  go_ret
  exact ⟨rfl, HB3.out⟩
end Go.Proofs.YtaogjmeofmfgkaaDoor
