/- The law DeltaMakes. -/
import Derived.Test.YtmagcikaepobiaaMke
import Derived.Test.YtmagcikaepobiaaDAppL
namespace Go.Proofs.Ytmagcikaepobiaa.Dl
open Go.RowKit

/-- The first bytes of a text. -/
def cutB (s : BA) (n : Nat) : BA := if n < s.size then s.extract 0 n else s
theorem cutB_size (s : BA) (n : Nat) : (cutB s n).size ≤ n := by
  unfold cutB; split
  · rw [ByteArray.size_extract]; omega
  · omega
theorem short_any (s : BA) (n : Nat) (w : World) (hn : n ≤ 1000000) (_hs : s.size ≤ 140737488351232) : Calls Try.prog 14 #[.string s, .int .i64 n] w fun e w' => e = .returned (.string (cutB s n)) ∧ w' = w := by
  by_cases h : n < s.size
  · have HE : Hid (cutB s n = s.extract 0 n) := Lib.hid (by unfold cutB; rw [if_pos h])
    rw [HE.out]
    go_enter Try.func14, Try.ntmps14
    go_wp2
    go_ret
    exact ⟨rfl, rfl⟩
  · have HE : Hid (cutB s n = s) := Lib.hid (by unfold cutB; rw [if_neg h])
    rw [HE.out]
    go_enter Try.func14, Try.ntmps14
    go_wp2
    go_ret
    exact ⟨rfl, rfl⟩
theorem Made.szs {old now : BA} {d : List Opr} (h : Made old now d) : Szs d := fun j x hx => by
  have := okB_size ((rgB_true h.rg).2 j x hx); omega
theorem InI.two {w : World} {a : Option Addr} {xs : List Opr} (h : InI w a xs) {j : Nat} {x y : Opr} (hx : xs[j]? = some x) (hy : xs[j + 1]? = some y) : ∃ b off, a = some ⟨b, off, none⟩ ∧ b < w.heap.size ∧ At3 w b (off + j * 3) x ∧ At3 w b (off + (j + 1) * 3) y := by
  obtain ⟨b, off, ha, hl, hc⟩ := h (by intro e; subst e; simp at hx)
  exact ⟨b, off, ha, hl, hc j x hx, hc (j + 1) y hy⟩

set_option maxHeartbeats 6400000 in
set_option maxRecDepth 100000 in
theorem makes_any (w : World) (o n : BA) (m : Int) (ho : o.size ≤ 140737488351232) (hn : n.size ≤ 140737488351232) (hm : w.cell? ⟨0, 0, none⟩ = some (.int .i64 m)) : Calls Try.prog 4 #[.string o, .string n] w fun e w' => e = .returned (.bool true) ∧ Below w.heap.size w w' := by
  have HS1 := Lib.hid (short_any o 3000 w (by decide) ho)
  have HS2 := Lib.hid (short_any n 3000 w (by decide) hn)
  have h1 := cutB_size o 3000
  have h2 := cutB_size n 3000
  have HMK := Lib.hid (make_any w (cutB o 3000) (cutB n 3000) m (by omega) (by omega) hm)
  clear hm
  generalize cutB o 3000 = old at *
  generalize cutB n 3000 = now at *
  go_enter Try.func4, Try.ntmps4
  go_wp2_with fail
  refine HS1.out.mono ?_
  rintro e w1 ⟨rfl, rfl⟩
  go_wp2_with fail
  refine HS2.out.mono ?_
  rintro e w2 ⟨rfl, rfl⟩
  go_wp2_with fail
  refine HMK.out.mono ?_
  rintro e w3 ⟨v, rfl, ⟨d, hd, hmd, -⟩, hb3⟩
  obtain ⟨a, cap, rfl, hcap, hin⟩ := InI.of_owns hd
  have hl : d.length ≤ 2000 := (rgB_true hmd.rg).1
  have HMD := Lib.hid hmd
  have HIN := Lib.hid hin
  have HB3 := Lib.hid hb3
  have HR1 := Lib.hid (rright_any w3 a cap d (by omega) hmd.szs hin)
  rw [hmd.rg] at HR1
  clear hd hmd hin hb3 HS1 HS2 HMK
  go_wp2_with fail
  refine HR1.out.mono ?_
  rintro e w4 ⟨rfl, hb4⟩
  have HIN4 := Lib.hid (HIN.out.below hb4)
  have HB4 := Lib.hid (below_trans HB3.out hb4)
  have HR2 := Lib.hid (size_any w4 a cap d (by omega) HMD.out.szs HIN4.out)
  rw [szA_yes HMD.out.rg] at HR2
  have hsz := HMD.out.siz
  clear hb4 HR1
  go_wp2_with fail
  refine HR2.out.mono ?_
  rintro e w5 ⟨rfl, hb5⟩
  have HIN5 := Lib.hid (HIN4.out.below hb5)
  have HB5 := Lib.hid (below_trans HB4.out hb5)
  clear hb5 HR2 HIN HB3 HIN4 HB4
  have hz1 : ¬ ((now.size : Int) + 8 < (szF d : Int)) := by omega
  have hfin : Hid (now.size = 0 → (d.length : Int) = 0) := Lib.hid (fun h => by rw [HMD.out.nil h]; rfl)
  have hne : now = ByteArray.empty ∧ (d.length : Int) = 0 ∨ now.toList.isEmpty = false ∧ ¬ now.toList = [] := by
    rcases text_cases now with rfl | h0
    · exact .inl ⟨rfl, hfin.out rfl⟩
    · exact .inr ⟨size_pos_of h0, toList_ne h0⟩
  have HAPP := Lib.hid (HMD.out.app (by omega))
  have HAP := Lib.hid (HMD.out.apt)
  have HSZ := Lib.hid HMD.out.szs
  rcases hne with ⟨rfl, hd0⟩ | ⟨e1, e2⟩
  · have HA2 : Hid (appF old d 0 = (ByteArray.empty, 0)) := Lib.hid HAPP.out
    clear hfin HMD HAPP
    go_wp2
    go_loopw [7] (fun i wr => ∃ k : Nat, 1 ≤ k ∧ k ≤ max 1 d.length ∧ i = .int .i64 k ∧ Hid (Below w5.heap.size w5 wr)) (fun i _ => d.length - (intOf i).toNat)
    case atStart => exact ⟨1, by omega, by omega, rfl, Lib.hid (Below.refl _ _)⟩
    case round =>
      obtain ⟨k, hk1, hk, rfl, HB⟩ := hrel
      by_cases hlt : k < d.length
      · exfalso; omega
      · have HA := Lib.hid (apply_any wr old a cap d 0 (by omega) (by omega) HSZ.out (HIN5.out.below HB.out))
        rw [HA2.out] at HA
        go_wp2_with fail
        refine HA.out.mono ?_
        rintro e w6 ⟨rfl, hb6⟩
        have HB6 := Lib.hid (below_trans HB5.out (below_trans HB.out hb6))
        clear hb6 HA
        go_wp2_with fail
        refine (right_one w6).mono ?_
        rintro e w8 ⟨rfl, hb8⟩
        have HB8 := Lib.hid (below_trans HB6.out hb8)
        clear hb8
        go_wp2
        go_ret
        exact ⟨by simp, HB8.out⟩
  · have HA2 : Hid (appF old d now.size = (now, 0)) := Lib.hid HAPP.out
    clear hfin HMD HAPP
    go_wp2
    go_loopw [7] (fun i wr => ∃ k : Nat, 1 ≤ k ∧ k ≤ max 1 d.length ∧ i = .int .i64 k ∧ Hid (Below w5.heap.size w5 wr)) (fun i _ => d.length - (intOf i).toNat)
    case atStart => exact ⟨1, by omega, by omega, rfl, Lib.hid (Below.refl _ _)⟩
    case round =>
      obtain ⟨k, hk1, hk, rfl, HB⟩ := hrel
      by_cases hlt : k < d.length
      · obtain ⟨j, rfl⟩ : ∃ j, k = j + 1 := ⟨k - 1, by omega⟩
        obtain ⟨x, hx⟩ : ∃ x, d[j]? = some x := ⟨_, List.getElem?_eq_getElem (by omega)⟩
        obtain ⟨y, hy⟩ : ∃ y, d[j + 1]? = some y := ⟨_, List.getElem?_eq_getElem hlt⟩
        obtain ⟨b, off, rfl, hbl, ⟨x0, x1, x2⟩, ⟨y0, y1, y2⟩⟩ := (HIN5.out.below HB.out).two hx hy
        have hap := HAP.out j x y hx hy
        clear hx hy
        obtain ⟨K, hK⟩ : ∃ K, K = j + 1 := ⟨_, rfl⟩
        have hKj : ((K : Int) - 1).toNat = j := by omega
        rw [← hK] at y0 y1 y2 hlt hk hk1 ⊢
        clear hK
        clear x0 x2 y0 y2
        obtain ⟨xf, xn, xt⟩ := x
        obtain ⟨yf, yn, yt⟩ := y
        simp only at hap x1 y1
        by_cases hy0 : yn = 0
        · subst hy0
          have hx0 : (xn == 0) = false := by simpa using hap
          clear hap
          go_wp2
          go_roundw
          case rel => exact ⟨K + 1, by omega, by omega, by go_num, HB⟩
          case measure => simp [intOf]; omega
        · have hyb : (yn == 0) = false := by simpa using hy0
          clear hap
          go_wp2
          go_roundw
          case rel => exact ⟨K + 1, by omega, by omega, by go_num, HB⟩
          case measure => simp [intOf]; omega
      · have HA := Lib.hid (apply_any wr old a cap d now.size (by omega) (by omega) HSZ.out (HIN5.out.below HB.out))
        rw [HA2.out] at HA
        go_wp2_with fail
        refine HA.out.mono ?_
        rintro e w6 ⟨rfl, hb6⟩
        have HB6 := Lib.hid (below_trans HB5.out (below_trans HB.out hb6))
        clear hb6 HA
        go_wp2_with fail
        refine (right_one w6).mono ?_
        rintro e w8 ⟨rfl, hb8⟩
        have HB8 := Lib.hid (below_trans HB6.out hb8)
        clear hb8
        go_wp2
        go_ret
        exact ⟨by simp, HB8.out⟩
end Go.Proofs.Ytmagcikaepobiaa.Dl
