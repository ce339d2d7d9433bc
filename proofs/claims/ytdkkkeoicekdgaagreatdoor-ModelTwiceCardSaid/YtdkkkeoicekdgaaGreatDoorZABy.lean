/- A catalog as bytes, by package catalog. -/
import Derived.Test.YtdkkkeoicekdgaaGreatDoorZAg41

namespace Go.Proofs.YtdkkkeoicekdgaaGreatDoor.Ca
set_option maxHeartbeats 40000000
set_option maxRecDepth 100000
open Go.Lib (hid)
open Go.RowKit Go.Proofs.YtdkkkeoicekdgaaGreatDoor
theorem SlE.blw {w w' : World} {B : Nat} {v : Value} {xs : List Ent} (h : SlE w (fun b => b < B) v xs) (hb : Below B w w') : SlE w' (fun b => b < B) v xs := Sl.keep h (fun b hb2 => hb.block b hb2) (fun _ h => h) (fun _ _ h => h)
theorem ent_box (w : World) (x : Ent) : Hid (Row (w.alloc (.cells (enC x) 81)) w.heap.size 81 [.string x.loc, .string x.key, .string x.pat]) /\ Hid (Below w.heap.size w (w.alloc (.cells (enC x) 81))) := ⟨hid (z02 w (enC x) 81), hid (z04 _ _)⟩
theorem z82 (w : World) (a : Option Addr) (cap : Nat) (xs : List Ent) (hX : SlE w (Old w) (.slice a xs.length cap) xs) (hF : ∀ x, x ∈ xs -> FitE x) (hE : EnvC w) :
  Calls Tryz.prog 42 #[.slice a xs.length cap] w fun e w' => e = .returned (.tuple #[.string ⟨(z0o xs).1.toArray⟩, .int .i64 (z0o xs).2]) /\ Below w.heap.size w w' := by
 have HR := hid (z1l w a cap xs hX hF hE)
 have hle := z77 xs
 have hxl := hX.len
 obtain ⟨q, HQ⟩ : ∃ q, Hid (q = z0m xs) := ⟨_, hid rfl⟩
 rw [<- HQ.out] at HR hle
 by_cases h0 : q = 0
 ·have HQ0 : Hid (z0m xs = 0) := hid (by rw [<- HQ.out]; exact h0)
  have HRG : Hid (Rgt xs) := hid (z1q.1 HQ0.out)
  have HBY : Hid (z0o xs = Co.putF (catT xs)) := hid (by unfold z0o; rw [HQ0.out, if_neg (by simp)])
  subst h0
  obtain ⟨i0, hi, hz0, hz1, hz2⟩ := info_parts infoV
  have HIN : Hid (SlE w (fun b => b < w.heap.size) (.slice a xs.length cap) xs) := hid hX
  have HTX : Hid (∀ x, x ∈ xs -> FitE x) := hid hF
  have HTB := hid (fun W (hb : Below w.heap.size w W) => (hE.below hb).env)
  have hl200 : xs.length <= 200 := HRG.out.len
  obtain ⟨M, HM⟩ : ∃ M, Hid (M = xs.length) := ⟨_, hid rfl⟩
  rw [<- HM.out] at HR HIN hl200
  rw [<- HM.out, HBY.out]
  clear hX hF hE hxl
  go_enter Tryz.func42, Tryz.ntmps42
  go_wp2_with fail
  refine HR.out.mono ?_
  rintro e w1 ⟨rfl, hb1⟩
  have HB1 := hid hb1
  have HS : Hid (BI w1.heap.size (w1.heap.size + 1) w (w1.alloc (.cells (lsC (.slice none 0 0)) 88)) (.slice none 0 0) ((xs.take 0).map entT) []) := hid (BI.start w w1 hb1)
  clear hb1
  go_wp2
  generalize w1.alloc (.cells #[.int .i64 3, .int .i64 0, .string ⟨#[]⟩, .slice none 0 0] 88) = W0 at *
  go_loopw [16] (fun i wr => ∃ (k : Nat) (L : Value) (vs : List Value), k <= M /\ i = .int .i64 k /\ Hid (BI w1.heap.size (w1.heap.size + 1) w wr L ((xs.take k).map entT) vs)) (fun i _ => M - (intOf i).toNat)
  case atStart => exact ⟨0, _, _, by omega, rfl, HS⟩
  case round =>
   clear HS
   obtain ⟨k, L, vs, hk, rfl, HI⟩ := hrel
   have hlk : ((xs.take k).map entT).length = k := by rw [List.length_map, List.length_take, <- HM.out]; omega
   by_cases hlt : k < M
   ·obtain ⟨x, hx⟩ : ∃ x, xs[k]? = some x := ⟨_, List.getElem?_eq_getElem (by have := HM.out; omega)⟩
    obtain ⟨b, off, rfl, hbl, h0, h1, h2⟩ := (HIN.out.blw HI.out.below).get hx
    have HMT := hid (map_take hx)
    have HLK := hid hlk
    obtain ⟨Q3, HE1⟩ := ent_box wr x
    have HV := hid (fun W => zb5 x W)
    have hbk := HI.out.blk
    have hbk3 := (HE1.out.block _ (Co.z01 hbk)).trans hbk
    clear hx hlk
    obtain ⟨xl, xk, xp⟩ := x
    simp only at h0 h1 h2 Q3 HE1 hbk3
    have c0 := Q3.out.cell (i := 0) rfl
    have c1 := Q3.out.cell (i := 1) rfl
    have c2 := Q3.out.cell (i := 2) rfl
    have l3 : (wr.alloc (.cells #[.string xl, .string xk, .string xp] 81)).cell? ⟨w1.heap.size, 3, none⟩ = some L := by simp [World.cell?, hbk3]
    have hlb := Co.z01 hbk3
    obtain ⟨aL, cL, hL⟩ := HI.out.slice
    rw [HLK.out] at hL
    subst hL
    have HVD : Hid (Calls Tryz.prog 85 #[.agg #[.string xl, .string xk, .string xp]] (wr.alloc (.cells #[.string xl, .string xk, .string xp] 81)).drew fun e w2 => ∃ (kd n0 : Int) (b0 : BA) (a0 : Option Addr) (l0 cp0 : Nat), e = .returned (.agg #[.int .i64 kd, .int .i64 n0, .string b0, .slice a0 l0 cp0]) /\
      w2.cell? ⟨w1.heap.size, 3, none⟩ = some (.slice aL k cL) /\ w1.heap.size < w2.heap.size /\ Hid (Below wr.heap.size wr w2) /\ Hid (Co.Rep w2 (fun g => wr.heap.size <= g /\ g < w2.heap.size) (entT ⟨xl, xk, xp⟩) (.agg #[.int .i64 kd, .int .i64 n0, .string b0, .slice a0 l0 cp0]))) := hid ((HV.out _).mono (by
     rintro e w2 ⟨d0, d1, d2, d3, rfl, hrep, hb2⟩
     obtain ⟨kd, n0, b0, a0, l0, cp0, hcv⟩ := Co.Rep.cells _ _ hrep
     injection hcv with hcv
     injection hcv with hcv
     injection hcv with e0 hcv
     injection hcv with e1 hcv
     injection hcv with e2 hcv
     injection hcv with e3 hcv
     subst e0 e1 e2 e3
     have hb3 : Below wr.heap.size wr w2 := HE1.out.drew.trans (hb2.mono HE1.out.size)
     refine ⟨kd, n0, b0, a0, l0, cp0, rfl, ?_, ?_, hid hb3, hid ?_⟩
     ·have h9 := (hb3.block _ (Co.z01 HI.out.blk)).trans HI.out.blk
      simp [World.cell?, h9]
     ·exact Nat.lt_of_lt_of_le (Co.z01 HI.out.blk) hb3.size
     ·exact Co.Rep.keep (fun _ _ => rfl) (fun g hg => ⟨Nat.le_trans HE1.out.size hg.1, hg.2⟩) _ _ hrep))
    clear hbk hbk3
    go_wp2_with fail
    have HH := hid (And.intro (Co.z01 HI.out.blk) HI.out.below)
    clear HV h0 h1 h2
    go_region_law ((first
     | (go_simp; go_at_call 85; refine HVD.out.mono ?_; rintro e w2 ⟨kd, n0, b0, a0, l0, cp0, rfl, l5, l6, HB2, HR2⟩)
     | (refine step_append_lies _ (by rfl) _ _ _ (by rfl) (w1.heap.size + 1) 88 i0 _ 4 56 Tryz.underlying86 hi hz0 hz1 hz2 rfl (by omega) (.slice aL k cL) k vs (by rfl) (((by have h9 := (HI.out.call HB2.out).own; rw [HLK.out] at h9; exact h9 : w2.ownsRow (w1.heap.size + 1) 88 4 (.slice aL k cL) k vs)).alloc _) ⟨w2.heap.size, 0, none⟩ 1 1 [.int .i64 kd, .int .i64 n0, .string b0, .slice a0 l0 cp0] (by rfl) (by rfl) (z81 _ _ _ _ _ _ rfl) (by simp [Value.oneCell']) (by omega) (by unfold maxLen; omega) (by omega) (by simp; omega) (w2.heap.size + 1) (by simp) ?_; intro g c w3 hown hgrow hl hlt3; have s3 := BI.blk3 HI.out HB2.out hgrow; have z3 : w3.cell? ⟨w1.heap.size, 3, none⟩ = some (.slice aL k cL) := (by simp [World.cell?, s3]); have f3 := Co.frozen_of_heap s3 3; have HST := hid (BI.step HI.out HLK.out HB2.out HR2.out hown hgrow rfl hl); clear hown hgrow hl s3)))
    all_goals
     go_wp2
     go_roundw
     case rel => exact ⟨k + 1, _, _, by omega, by go_num, hid (by rw [HMT.out]; exact HST.out)⟩
     case measure => simp [intOf]; omega
   ·have hk2 : xs.take k = xs := List.take_of_length_le (by have := HM.out; omega)
    have hB := HI.out
    rw [hk2] at hB
    have hbk := hB.blk
    obtain ⟨aL, cL, hL⟩ := hB.slice
    rw [List.length_map, <- HM.out] at hL
    subst hL
    have hBt := hB.tree
    rw [show Co.Tree.list (xs.map entT) = catT xs from rfl] at hBt
    have HP := hid (Co.putS_any hBt (ok_cat xs) (tx_cat (fun e he => HTX.out e he)) (lev_cat xs) (by rw [zc4]; have := HM.out; omega) (HTB.out _ hB.below).tab)
    have HBW := hid hB.below
    clear hBt
    have c0 : wr.cell? ⟨w1.heap.size, 0, none⟩ = some (.int .i64 3) := by simp [World.cell?, hbk]
    have c1 : wr.cell? ⟨w1.heap.size, 1, none⟩ = some (.int .i64 0) := by simp [World.cell?, hbk]
    have c2 : wr.cell? ⟨w1.heap.size, 2, none⟩ = some (.string ⟨#[]⟩) := by simp [World.cell?, hbk]
    have c3 : wr.cell? ⟨w1.heap.size, 3, none⟩ = some (.slice aL M cL) := by simp [World.cell?, hbk]
    clear hB hbk hk2
    go_wp2_with fail
    refine HP.out.mono ?_
    rintro e w5 ⟨rfl, hb5⟩
    have HB5 := hid (z00 HBW.out hb5)
    clear hb5
    go_wp2
    go_ret2
    exact ⟨rfl, HB5.out⟩
 ·have HA : Hid (z0o xs = ([], (z0m xs : Int))) := hid (by unfold z0o; rw [if_pos (by rw [<- HQ.out]; exact h0)])
  have hqb : ((q : Int) != 0) = true := by rw [bne_iff_ne]; omega
  rw [HA.out]
  clear hX hF hE h0
  generalize xs.length = L at *
  go_enter Tryz.func42, Tryz.ntmps42
  go_wp2_with fail
  refine HR.out.mono ?_
  rintro e w1 ⟨rfl, hb1⟩
  have HB := hid hb1
  clear hb1
  go_wp2
  go_ret2
  exact ⟨by rw [HQ.out]; rfl, HB.out⟩
end Go.Proofs.YtdkkkeoicekdgaaGreatDoor.Ca
