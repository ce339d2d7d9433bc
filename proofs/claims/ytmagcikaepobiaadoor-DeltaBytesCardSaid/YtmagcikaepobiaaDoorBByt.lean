/- A delta as bytes, by package delta. -/
import Derived.Test.YtmagcikaepobiaaDoorBIx
namespace Go.Proofs.YtmagcikaepobiaaDoor.Dl
open Go.RowKit

set_option maxHeartbeats 40000000 in
set_option maxRecDepth 100000 in
theorem bytes_any (w : World) (a : Option Addr) (cap : Nat) (xs : List Opr) (hxl : xs.length ≤ 9223372036854775807) (hz : Szs xs) (hIn : InI w a xs) (hn : rgB xs = true → nodes (treeD xs) ≤ 4000) (htab : TabW w) :
    Calls Tryd.prog 6 #[.slice a xs.length cap] w fun e w' => e = .returned (.tuple #[.string ⟨(bytF xs).1.toArray⟩, .int .i64 (bytF xs).2]) ∧ Below w.heap.size w w' := by
  have HC := Lib.hid (fun w' (hb : Below w.heap.size w w') => right_any w' a cap xs hxl hz (hIn.below hb))
  have HIN := Lib.hid hIn
  have HTB := Lib.hid htab
  clear hIn hz htab
  cases hr : rgB xs with
  | false =>
    have HR := Lib.hid (bytF_no hr)
    rw [hr] at HC
    clear hr hn
    go_enter Tryd.func6, Tryd.ntmps6
    go_wp2_with fail
    refine (HC.out _ (Below.refl _ _)).mono ?_
    rintro e w1 ⟨rfl, hb1⟩
    have HB1 := Lib.hid hb1
    clear hb1
    go_wp2
    go_ret2
    exact ⟨by rw [HR.out]; rfl, HB1.out⟩
  | true =>
    have HR := Lib.hid (bytF_yes hr)
    have HTO := Lib.hid (tree_ok hr)
    have HN := Lib.hid (hn hr)
    obtain ⟨hx2, hok⟩ := rgB_true hr
    have HOK := Lib.hid hok
    obtain ⟨i0, hi, hz0, hz1, hz2⟩ := info_parts infoV
    rw [hr] at HC
    clear hr hn hok
    go_enter Tryd.func6, Tryd.ntmps6
    go_wp2_with fail
    refine (HC.out _ (Below.refl _ _)).mono ?_
    rintro e w1 ⟨rfl, hb1⟩
    have HB1 := Lib.hid hb1
    have HS := Lib.hid (BI.start w w1 hb1)
    clear hb1
    go_wp2
    generalize w1.alloc (.cells #[.int .i64 3, .int .i64 0, .string ⟨#[]⟩, .slice none 0 0] 36) = W0 at *
    go_loopw [13] (fun i wr => ∃ (k : Nat) (L : Value) (vs : List Value), k ≤ xs.length ∧ i = .int .i64 k ∧ Hid (BI w1.heap.size w wr L ((xs.take k).map opT) vs)) (fun i _ => xs.length - (intOf i).toNat)
    case atStart => exact ⟨0, _, _, by omega, rfl, HS⟩
    case round =>
      clear HS
      obtain ⟨k, L, vs, hk, rfl, HI⟩ := hrel
      have hlk : ((xs.take k).map opT).length = k := by rw [List.length_map, List.length_take]; omega
      by_cases hlt : k < xs.length
      · obtain ⟨x, hx⟩ : ∃ x, xs[k]? = some x := ⟨_, List.getElem?_eq_getElem hlt⟩
        obtain ⟨b, off, rfl, hbl, h0, h1, h2⟩ := (HIN.out.below HI.out.below).at_ hx
        have hzx := okB_size (HOK.out k x hx)
        have HMT := Lib.hid (map_take hx)
        have HLK := Lib.hid hlk
        obtain ⟨Q3, HE1⟩ := op_box wr x
        have HV := Lib.hid (fun W => value_any x W (by omega))
        have hbk := HI.out.blk
        have hbk3 := (HE1.out.block _ (lt_of_heap hbk)).trans hbk
        clear hx hlk
        obtain ⟨f, n, t⟩ := x
        simp only at h0 h1 h2 Q3 HE1 hzx hbk3
        have c0 := Q3.out.cell (i := 0) rfl
        have c1 := Q3.out.cell (i := 1) rfl
        have c2 := Q3.out.cell (i := 2) rfl
        have l3 : (wr.alloc (.cells #[.int .i64 f, .int .i64 n, .string t] 32)).cell? ⟨w1.heap.size, 3, none⟩ = some L := by simp [World.cell?, hbk3]
        have hlb := lt_of_heap hbk3
        obtain ⟨aL, cL, hL⟩ := HI.out.slice
        rw [HLK.out] at hL
        subst hL
        have HVD : Hid (Calls Tryd.prog 12 #[.agg #[.int .i64 f, .int .i64 n, .string t]] (wr.alloc (.cells #[.int .i64 f, .int .i64 n, .string t] 32)).drew fun e w2 => ∃ (kd n0 : Int) (b0 : BA) (a0 : Option Addr) (l0 cp0 : Nat), e = .returned (.agg #[.int .i64 kd, .int .i64 n0, .string b0, .slice a0 l0 cp0]) ∧
            w2.cell? ⟨w1.heap.size, 3, none⟩ = some (.slice aL k cL) ∧ w1.heap.size < w2.heap.size ∧ Hid (Below wr.heap.size wr w2) ∧ Hid (Rep w2 (fun g => wr.heap.size ≤ g ∧ g < w2.heap.size) (opT ⟨f, n, t⟩) (.agg #[.int .i64 kd, .int .i64 n0, .string b0, .slice a0 l0 cp0]))) := Lib.hid ((HV.out _).mono (by
          rintro e w2 ⟨d0, d1, d2, d3, rfl, hrep, hb2⟩
          obtain ⟨kd, n0, b0, a0, l0, cp0, hcv⟩ := Rep.cells _ _ hrep
          injection hcv with hcv
          injection hcv with hcv
          injection hcv with e0 hcv
          injection hcv with e1 hcv
          injection hcv with e2 hcv
          injection hcv with e3 hcv
          subst e0 e1 e2 e3
          have hb3 : Below wr.heap.size wr w2 := HE1.out.drew.trans (hb2.mono HE1.out.size)
          refine ⟨kd, n0, b0, a0, l0, cp0, rfl, ?_, ?_, Lib.hid hb3, Lib.hid ?_⟩
          · have h9 := (hb3.block _ (lt_of_heap HI.out.blk)).trans HI.out.blk
            simp [World.cell?, h9]
          · exact Nat.lt_of_lt_of_le (lt_of_heap HI.out.blk) hb3.size
          · exact Rep.keep (fun _ _ => rfl) (fun g hg => ⟨Nat.le_trans HE1.out.size hg.1, hg.2⟩) _ _ hrep))
        clear hbk hbk3
        go_wp2_with fail
        have HH := Lib.hid (And.intro (lt_of_heap HI.out.blk) (HIN.out.below HI.out.below))
        clear HV h0 h1 h2
        go_region_law ((first
          | (go_simp; go_at_call 12; refine HVD.out.mono ?_; rintro e w2 ⟨kd, n0, b0, a0, l0, cp0, rfl, l5, l6, HB2, HR2⟩)
          | (refine step_append_lies _ (by rfl) _ _ _ (by rfl) (w1.heap.size + 1) 36 i0 _ 4 56 Tryd.underlying34 hi hz0 hz1 hz2 rfl (by omega) (.slice aL k cL) k vs (by rfl) (((by have h9 := (HI.out.call HB2.out).own; rw [HLK.out] at h9; exact h9 : w2.ownsRow (w1.heap.size + 1) 36 4 (.slice aL k cL) k vs)).alloc _) ⟨w2.heap.size, 0, none⟩ 1 1 [.int .i64 kd, .int .i64 n0, .string b0, .slice a0 l0 cp0] (by rfl) (by rfl) (cell_new4 _ _ _ _ _ _ rfl) (by simp [Value.oneCell']) (by omega) (by unfold maxLen; omega) (by omega) (by simp; omega) (w2.heap.size + 1) (by simp) ?_; intro g c w3 hown hgrow hl hlt3; have s3 := BI.blk3 HI.out HB2.out hgrow; have z3 : w3.cell? ⟨w1.heap.size, 3, none⟩ = some (.slice aL k cL) := (by simp [World.cell?, s3]); have f3 := frozen_of_heap s3 3; have HST := Lib.hid (BI.step HI.out HLK.out HB2.out HR2.out hown hgrow rfl hl); clear hown hgrow hl s3)))
        all_goals
          go_wp2
          go_roundw
          case rel => exact ⟨k + 1, _, _, by omega, by go_num, Lib.hid (by rw [HMT.out]; exact HST.out)⟩
          case measure => simp [intOf]; omega
      · have hk2 : xs.take k = xs := List.take_of_length_le (by omega)
        have hB := HI.out
        rw [hk2] at hB
        obtain ⟨ok1, ok2, ok3⟩ := HTO.out
        have hbk := hB.blk
        obtain ⟨aL, cL, hL⟩ := hB.slice
        rw [List.length_map] at hL
        subst hL
        have hBt := hB.tree
        rw [show Tree.list (xs.map opT) = treeD xs from rfl] at hBt
        have HP := Lib.hid (putS_any hBt ok1 ok2 ok3 HN.out (HTB.out.below hB.below))
        have HBW := Lib.hid hB.below
        clear hBt
        have c0 : wr.cell? ⟨w1.heap.size, 0, none⟩ = some (.int .i64 3) := by simp [World.cell?, hbk]
        have c1 : wr.cell? ⟨w1.heap.size, 1, none⟩ = some (.int .i64 0) := by simp [World.cell?, hbk]
        have c2 : wr.cell? ⟨w1.heap.size, 2, none⟩ = some (.string ⟨#[]⟩) := by simp [World.cell?, hbk]
        have c3 : wr.cell? ⟨w1.heap.size, 3, none⟩ = some (.slice aL xs.length cL) := by simp [World.cell?, hbk]
        clear hB hbk hk2 ok1 ok2 ok3
        go_wp2_with fail
        refine HP.out.mono ?_
        rintro e w5 ⟨rfl, hb5⟩
        have HB5 := Lib.hid (below_trans HBW.out hb5)
        clear hb5
        go_wp2
        go_ret2
        exact ⟨by rw [HR.out]; rfl, HB5.out⟩
end Go.Proofs.YtmagcikaepobiaaDoor.Dl
