/- The document's over. -/
import Derived.Test.YtmaafhhdbhkplaaDoorRFill
namespace Go.Proofs.YtmaafhhdbhkplaaDoor
open Go.RowKit

theorem Bat.drop {w : World} {g o : Nat} {l : Bs} (h : Bat w g o l) (k n : Nat) : Bat w g (o + k) ((l.drop k).take n) := fun j hj => by
  have h1 : j < n ∧ k + j < l.length := by
    rw [List.length_take, List.length_drop] at hj; omega
  have := h (k + j) h1.2
  rw [Nat.add_assoc, this]
  congr 3
  simp [List.getD, h1.1]
theorem OwnM.bat {w : World} {base g n cap : Nat} {l : Bs} (h : OwnM w base (.slice (some ⟨g, 0, none⟩) n cap) (Lib.byteCells l)) : Bat w g 0 l := fun j hj => by
  rw [Nat.zero_add]
  exact h.cell (bytes_at l j hj)
theorem ok_all {s : S8} (h : s.Ok) : WdAll s.list := by
  intro x hx
  simp only [S8.list, List.mem_cons, List.not_mem_nil, or_false] at hx
  rcases hx with rfl | rfl | rfl | rfl | rfl | rfl | rfl | rfl
  · exact h.a
  · exact h.b
  · exact h.c
  · exact h.d
  · exact h.e
  · exact h.f
  · exact h.g
  · exact h.h

/-- While the blocks are mixed in. -/
structure OI (w1 : World) (ks : List Int) (s0 : S8) (m : Bs) (j h : Nat) (W : World) : Prop where
  words : Wat W h 0 (stN ks s0 m j).list
  lt : h < W.heap.size
  below : Below w1.heap.size w1 W

set_option maxHeartbeats 2000000 in
set_option maxRecDepth 100000 in
theorem over_any (s : ByteArray) (w : World) (hg hc kg ko kc : Nat) (s0 : S8) (hs0 : s0.Ok) (ks : List Int) (hk : ks.length = 64) (hs : s.size ≤ 140737488351232)
    (hH : Wat w hg 0 s0.list) (hK : Wat w kg ko ks) (lh : hg < w.heap.size) (lk : kg < w.heap.size) :
    Calls Tryd.prog 39 #[.string s, .slice (some ⟨hg, 0, none⟩) 8 hc, .slice (some ⟨kg, ko, none⟩) 64 kc] w fun e w' => e = .returned (.string (str (be4s (stN ks s0 (s.data.toList ++ padF s.size) ((s.data.toList ++ padF s.size).length / 64)).list 8))) ∧ Below w.heap.size w w' := by
  obtain ⟨i0, hi, hz0, hz1, hz2⟩ := info_parts info5
  have HH := Lib.hid hH
  have HK := Lib.hid hK
  clear hH hK
  obtain ⟨M, hM⟩ : ∃ M, (s.data.toList ++ padF s.size).length = 64 * M := ⟨(s.size + (padF s.size).length) / 64, by
    have := padF_whole s.size
    rw [List.length_append, ba_len]; omega⟩
  have hM2 : 64 * M ≤ 140737488351400 := by
    rw [← hM, List.length_append, ba_len, padF_length]
    have := Nat.mod_lt (119 - s.size % 64) (show 0 < 64 by decide)
    omega
  rw [show (s.data.toList ++ padF s.size).length / 64 = M by rw [hM]; omega]
  have HFil := Lib.hid (filled_any s w hs)
  generalize s.data.toList ++ padF s.size = m at *
  go_enter Tryd.func39, Tryd.ntmps39
  go_wp2_with fail
  refine HFil.out.mono ?_
  rintro e w1 ⟨v, rfl, hF⟩
  obtain ⟨g, cap, hv, hbg, hlg, hcap⟩ := hF.own.slice
  rw [bytesM_length, hM] at hv hcap
  subst hv
  have HBT := Lib.hid hF.own.bat
  have HB1 := Lib.hid hF.below
  clear hF
  have H0 : Hid (OI w1 ks s0 m 0 hg w1) := Lib.hid ⟨HH.out.below HB1.out lh, Nat.lt_of_lt_of_le lh HB1.out.size, Below.refl _ _⟩
  go_wp2
  go_loopw [1, 7] (fun h p wr => ∃ (j hb hc cp : Nat) (ap : Option Addr), j ≤ M ∧ h = .slice (some ⟨hb, 0, none⟩) 8 hc ∧ p = .slice ap (64 * M - 64 * j) cp ∧ Hid (64 * j < 64 * M → ap = some ⟨g, 64 * j, none⟩ ∧ 64 * M - 64 * j ≤ cp) ∧ Hid (OI w1 ks s0 m j hb wr)) (fun _ p _ => lenV p)
  case atStart => exact ⟨0, hg, hc, cap, _, by omega, rfl, rfl, Lib.hid (fun _ => ⟨rfl, by omega⟩), H0⟩
  case round =>
    clear H0
    obtain ⟨j, hb, hc', cp, ap, hj, rfl, rfl, HAP, HO⟩ := hrel
    by_cases hjM : j < M
    · obtain ⟨rfl, hcp⟩ := HAP.out (by omega)
      have HB5 := Lib.hid (HO.out.below)
      have HC : Hid (Calls Tryd.prog 45 #[.slice (some ⟨hb, 0, none⟩) 8 hc', .slice (some ⟨kg, ko, none⟩) 64 kc, .slice (some ⟨g, 64 * j, none⟩) (64 * M - 64 * j) cp] wr fun e w' => ∃ g', e = .returned (.slice (some ⟨g', 0, none⟩) 8 8) ∧ Wat w' g' 0 (stN ks s0 m (j + 1)).list ∧ wr.heap.size ≤ g' ∧ g' < w'.heap.size ∧ Below wr.heap.size wr w') := Lib.hid (by
        have hB := (HBT.out.below HO.out.below hlg).drop (64 * j) 64
        rw [Nat.zero_add] at hB
        have hp : ((m.drop (64 * j)).take 64).length = 64 := by rw [List.length_take, List.length_drop, hM]; omega
        exact block_any wr hb 0 hc' kg ko kc g (64 * j) (64 * M - 64 * j) cp (stN ks s0 m j) (stN_ok ks hs0 m j) ks hk _ hp (by omega) (by omega) hcp HO.out.words (HK.out.below (HB1.out.trans (HO.out.below.mono HB1.out.size)) lk) hB HO.out.lt (Nat.lt_of_lt_of_le lk (Nat.le_trans HB1.out.size HO.out.below.size)) (Nat.lt_of_lt_of_le hlg HO.out.below.size))
      have hpos : (0 : Int) < ((64 * M - 64 * j : Nat) : Int) := by omega
      go_wp2_with fail
      refine HC.out.mono ?_
      rintro e w2 ⟨g', rfl, hW2, -, hl2, hb2⟩
      have HO2 : Hid (OI w1 ks s0 m (j + 1) g' w2) := Lib.hid ⟨hW2, hl2, HO.out.below.trans (hb2.mono HO.out.below.size)⟩
      clear hW2 hl2 hb2 HC HO HAP hpos
      have h64 : 64 ≤ 64 * M - 64 * j := by omega
      have hle : 64 * M - 64 * j ≤ 140737488351400 := by omega
      have HLL : Hid (64 * M - 64 * (j + 1) = 64 * M - 64 * j - 64) := Lib.hid (by omega)
      by_cases hck : cp = 64
      · subst hck
        have HV : Hid (¬ 64 * (j + 1) < 64 * M) := Lib.hid (by omega)
        have HL0 : Hid (64 * M - 64 * (j + 1) = 0) := Lib.hid (by omega)
        generalize hLM : 64 * M - 64 * j = L at *
        have h64i : (64 : Int) ≤ (L : Int) := by omega
        go_wp2
        refine ⟨⟨j + 1, g', 8, _, _, by omega, rfl, by rw [HL0.out], Lib.hid (fun h => absurd h HV.out), HO2⟩, ?_⟩
        show 0 < 64 * M - 64 * j
        omega
      · generalize hLM : 64 * M - 64 * j = L at *
        have h64i : (64 : Int) ≤ (L : Int) := by omega
        go_wp2
        refine ⟨⟨j + 1, g', 8, cp - 64, some ⟨g, 64 * j + 64, none⟩, by omega, rfl, by rw [HLL.out], Lib.hid (fun h => ⟨by rw [Nat.mul_add], by rw [HLL.out]; omega⟩), HO2⟩, ?_⟩
        show L - 64 < 64 * M - 64 * j
        omega
    · obtain rfl : j = M := by omega
      rw [Nat.sub_self]
      have HWA := Lib.hid HO.out.words
      have HBW : Hid (Below w.heap.size w wr) := Lib.hid (HB1.out.trans (HO.out.below.mono HB1.out.size))
      have hlb := Nat.le_trans HB1.out.size HO.out.below.size
      have hbl := HO.out.lt
      have HWD := Lib.hid (ok_all (stN_ok ks hs0 m j))
      have hwl : (stN ks s0 m j).list.length = 8 := rfl
      clear HO HAP HBT HB1 HH HK HFil
      obtain ⟨wz, rfl⟩ : ∃ wz, wz = wr := ⟨wr, rfl⟩
      generalize hws : (stN ks s0 m j).list = ws4 at HWA HWD hwl
      have HWS := Lib.hid hws
      clear hws
      have HM0 : Hid ((wz.alloc (.cells #[] 5)).ownsRow wz.heap.size 5 1 (.slice (some ⟨wz.heap.size, 0, none⟩) 0 0) 0 []) := Lib.hid (World.ownsRow_made wz #[] 0 (Nat.le_refl _) (by unfold maxLen; omega) rfl)
      have HB0 : Hid (Below wz.heap.size wz (wz.alloc (.cells #[] 5))) := Lib.hid (below1 _ _)
      go_wp2
      go_loopw [8, 25] (fun v x wr => ∃ (i : Nat) (a : Option Addr) (cap : Nat), i ≤ 8 ∧ x = .int .i64 i ∧ v = .slice a (4 * i) cap ∧ Hid (wr.ownsRow wz.heap.size 5 1 v (4 * i) (Lib.byteCells (be4s ws4 i))) ∧ Hid (Below wz.heap.size wz wr)) (fun _ x _ => 8 - (intOf x).toNat)
      case atStart => exact ⟨0, _, 0, by omega, rfl, rfl, HM0, HB0⟩
      case round =>
        clear HM0 HB0
        obtain ⟨i, a, cap, hi8, rfl, rfl, HO, HB⟩ := hrel
        by_cases h8 : i < 8
        · have hwd := HWD.out.getD i
          have hcell : wr.cell? ⟨hb, i, none⟩ = some (.int .u32 (ws4.getD i 0)) := by
            have := HWA.out.below HB.out hbl i (by omega)
            rwa [Nat.zero_add] at this
          have HE : Hid (be4s ws4 (i + 1) = be4s ws4 i ++ be4 (ws4.getD i 0)) := Lib.hid rfl
          generalize ws4.getD i 0 = x at *
          obtain ⟨hx0, hx1⟩ := hwd
          obtain ⟨X, rfl⟩ := Int.eq_ofNat_of_zero_le hx0
          have hX : X < 4294967296 := by omega
          clear hx0 hx1
          have hrow := HO.out
          have hsz := HB.out.size
          have q8 : (i : Int) < 8 := by omega
          go_wp2_with (at_builtin; refine wpList_append_own _ rfl _ _ 65 rfl wz.heap.size 5 i0 (.int .u8 0) 1 1 Tryd.underlying65 hi hz0 hz1 hz2 rfl (by decide) _ _ _ rfl (hrow.alloc _) ⟨wr.heap.size, 0, none⟩ 4 4 [.int .u8 ((X : Int) / 16777216), .int .u8 ((X : Int) / 65536 % 256), .int .u8 ((X : Int) / 256 % 256), .int .u8 ((X : Int) % 256)] rfl rfl (new_cells wr #[.int .u8 ((X : Int) / 16777216), .int .u8 ((X : Int) / 65536 % 256), .int .u8 ((X : Int) / 256 % 256), .int .u8 ((X : Int) % 256)] 5) (by simp [Value.oneCell']) (by unfold maxLen; omega) (by omega) (by simp; omega) ?_; intro v' w5 hown' hgrow _; obtain ⟨a', cap', rfl⟩ := ownsRow_slice hown')
          have HB5 : Hid (Below wz.heap.size wz w5) := Lib.hid ((HB.out.alloc HB.out.size _).grown hgrow (by simp; omega) (fun k e => (hrow.lt k e).1))
          have HO5 : Hid (w5.ownsRow wz.heap.size 5 1 (.slice a' (4 * (i + 1)) cap') (4 * (i + 1)) (Lib.byteCells (be4s ws4 (i + 1)))) := Lib.hid (by
            rw [HE.out]
            have e1 : Lib.byteCells (be4s ws4 i ++ be4 (X : Int)) = Lib.byteCells (be4s ws4 i) ++ [.int .u8 ((X : Int) / 16777216), .int .u8 ((X : Int) / 65536 % 256), .int .u8 ((X : Int) / 256 % 256), .int .u8 ((X : Int) % 256)] := by
              simp only [Lib.byteCells, List.map_append]
              rw [show List.map (fun b : UInt8 => Value.int .u8 (b.toNat : Int)) (be4 (X : Int)) = [.int .u8 ((X : Int) / 16777216), .int .u8 ((X : Int) / 65536 % 256), .int .u8 ((X : Int) / 256 % 256), .int .u8 ((X : Int) % 256)] from be4_cells X hX]
            rw [e1, show 4 * (i + 1) = 4 * i + 4 by omega]
            exact hown')
          refine ⟨⟨i + 1, a', cap', by omega, by go_num, rfl, HO5, HB5⟩, ?_⟩
          simp [intOf]; omega
        · obtain rfl : i = 8 := by omega
          have hrow := HO.out
          have hbk := bytes_back hrow (be4s_length ws4 8)
          clear hrow
          rw [show (((8 : Nat) : Int)) = (8 : Int) from rfl]
          go_wp2
          go_ret
          exact ⟨by rw [HWS.out]; rfl, HBW.out.trans (HB.out.mono HBW.out.size)⟩
end Go.Proofs.YtmaafhhdbhkplaaDoor
