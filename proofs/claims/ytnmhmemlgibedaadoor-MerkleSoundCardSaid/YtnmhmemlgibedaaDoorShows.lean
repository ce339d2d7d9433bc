/- digests; MerkleShows: what the law answers. -/
import Derived.Test.YtnmhmemlgibedaaDoorROf
import Derived.Test.YtnmhmemlgibedaaDoorPrv
import Derived.Test.YtnmhmemlgibedaaDoorChk
namespace Go.Proofs.YtnmhmemlgibedaaDoor
open Go.RowKit

theorem rof_dgs (s : BA) (w : World) (hs : s.size ≤ 140737488351232) : Calls Tryd.prog 27 #[.string s] w fun e w' => e = .returned (.string (Dg s)) ∧ Below w.heap.size w w' := rof_any s w hs
/-- Leaves that may be, made of texts. -/
def dig1 (s : BA) : BA := if s.size = 32 then s else Dg s
def digL (xs : List BA) : List BA := (xs.take 40).map dig1
theorem dig1_size (s : BA) : (dig1 s).size = 32 := by
  unfold dig1
  split
  · assumption
  · exact Dg_size s
theorem digL_sized (xs : List BA) : AllS (digL xs) := fun x hx => by
  obtain ⟨s, -, rfl⟩ := List.mem_map.1 hx
  exact dig1_size s
theorem digL_length (xs : List BA) : (digL xs).length ≤ 40 := by
  unfold digL
  rw [List.length_map, List.length_take]; omega
theorem dig_take (xs : List BA) (k : Nat) (h : k < xs.length) : ((xs.take (k + 1)).map dig1) = (xs.take k).map dig1 ++ [dig1 xs[k]] := by
  rw [List.take_succ_eq_append_getElem h, List.map_append]; rfl

structure DI (w : World) (ys : List BA) (v : Value) (W : World) : Prop where
  own : W.ownsRow w.heap.size 9 1 v ys.length (strs ys)
  below : Below w.heap.size w W
theorem DI.call {w W W' : World} {ys : List BA} {v : Value} (h : DI w ys v W) (hb : Below W.heap.size W W') : DI w ys v W' := ⟨ownsRow_below h.own hb, below_trans h.below hb⟩

set_option maxHeartbeats 3200000 in
set_option maxRecDepth 100000 in
theorem digests_any (w : World) (a : Option Addr) (cap : Nat) (xs : List BA) (hl : xs.length ≤ 9223372036854775807) (hx : ∀ x, x ∈ xs → x.size ≤ 140737488351232) (hIn : InS w a xs) :
    Calls Tryd.prog 20 #[.slice a xs.length cap] w fun e w' => ∃ pa pc, e = .returned (.slice pa (digL xs).length pc) ∧ (digL xs).length ≤ pc ∧ InS w' pa (digL xs) ∧ Below w.heap.size w w' := by
  obtain ⟨i0, hi0, hz0, hz1, hz2⟩ := info_parts info9
  have HIN := Lib.hid hIn
  have HX := Lib.hid hx
  clear hIn hx
  go_enter Tryd.func20, Tryd.ntmps20
  go_wp2
  go_loopw [3, 8] (fun v ii wr => ∃ (k : Nat) (ys : List BA) (pa : Option Addr) (pc : Nat), ii = .int .i64 k ∧ v = .slice pa ys.length pc ∧ k ≤ xs.length ∧ k ≤ 40 ∧ ys.length ≤ k ∧ Hid (ys = (xs.take k).map dig1) ∧ Hid (DI w ys v wr)) (fun _ ii _ => xs.length - (intOf ii).toNat)
  case atStart => exact ⟨0, [], none, 0, rfl, rfl, by omega, by omega, by simp, Lib.hid (by simp), Lib.hid ⟨World.ownsRow_nil _ _ _ _, Below.refl _ _⟩⟩
  case round =>
    obtain ⟨k, ys, pa, pc, rfl, rfl, hk, hk40, hyk, HY, HD⟩ := hrel
    by_cases hlt : k < xs.length
    · obtain ⟨b, off, rfl, hb, hcl⟩ := HIN.out (fun e => by rw [e] at hlt; simp at hlt)
      have hcell : wr.cell? ⟨b, off + k, none⟩ = some (.string xs[k]) := (HD.out.below.cell (p := ⟨b, off + k, none⟩) hb).trans (hcl k hlt)
      have hxs := HX.out xs[k] (List.getElem_mem hlt)
      have HT := Lib.hid (dig_take xs k hlt)
      clear hcl
      generalize xs[k] = x at *
      by_cases h40 : k < 40
      · have h40i : ¬ (40 : Int) ≤ (k : Int) := by omega
        by_cases h32 : x.size = 32
        · have hB : ((x.size : Int) != 32) = false := by rw [bne_eq_false_iff_eq]; omega
          rw [show dig1 x = x by unfold dig1; rw [if_pos h32]] at HT
          have hrow := HD.out.own
          have hsz := HD.out.below.size
          clear h32
          go_wp2_with (at_builtin; refine wpList_append_own _ rfl _ _ 22 rfl w.heap.size 9 i0 (.string ByteArray.empty) 1 16 Tryd.underlying22 hi0 hz0 hz1 hz2 rfl (by decide) _ _ _ rfl (hrow.alloc _) ⟨wr.heap.size, 0, none⟩ 1 1 [.string x] rfl rfl (cell_new1 _ _ _) (by simp [Value.oneCell']) (by unfold maxLen; omega) (by omega) (by simp; omega) ?_; intro v' w2 hown' hgrow _; obtain ⟨g', cap', rfl⟩ := ownsRow_succ hown')
          have HB2 : Hid (Below w.heap.size w w2) := Lib.hid ((HD.out.below.alloc HD.out.below.size _).grown hgrow (by simp; omega) (fun k e => (hrow.lt k e).1))
          refine ⟨⟨k + 1, ys ++ [x], some ⟨g', 0, none⟩, cap', by go_num, by simp, by omega, by omega, by simp; omega, Lib.hid (by rw [HT.out, HY.out]), Lib.hid ⟨by simpa using hown', HB2.out⟩⟩, ?_⟩
          simp [intOf]; omega
        · have hB : ((x.size : Int) != 32) = true := by rw [bne_iff_ne]; omega
          rw [show dig1 x = Dg x by unfold dig1; rw [if_neg h32]] at HT
          have HR := Lib.hid (rof_dgs x wr hxs)
          clear h32
          generalize Dg x = z at *
          go_wp2_with fail
          refine HR.out.mono ?_
          rintro e w1 ⟨rfl, hb1⟩
          have HD1 := Lib.hid (HD.out.call hb1)
          have hrow := HD1.out.own
          have hsz := HD1.out.below.size
          clear hb1 hcell
          go_wp2_with (at_builtin; refine wpList_append_own _ rfl _ _ 22 rfl w.heap.size 9 i0 (.string ByteArray.empty) 1 16 Tryd.underlying22 hi0 hz0 hz1 hz2 rfl (by decide) _ _ _ rfl (hrow.alloc _) ⟨w1.heap.size, 0, none⟩ 1 1 [.string z] rfl rfl (cell_new1 _ _ _) (by simp [Value.oneCell']) (by unfold maxLen; omega) (by omega) (by simp; omega) ?_; intro v' w2 hown' hgrow _; obtain ⟨g', cap', rfl⟩ := ownsRow_succ hown')
          have HB2 : Hid (Below w.heap.size w w2) := Lib.hid ((HD1.out.below.alloc HD1.out.below.size _).grown hgrow (by simp; omega) (fun k e => (hrow.lt k e).1))
          refine ⟨⟨k + 1, ys ++ [z], some ⟨g', 0, none⟩, cap', by go_num, by simp, by omega, by omega, by simp; omega, Lib.hid (by rw [HT.out, HY.out]), Lib.hid ⟨by simpa using hown', HB2.out⟩⟩, ?_⟩
          simp [intOf]; omega
      · obtain rfl : k = 40 := by omega
        rw [show ((40 : Nat) : Int) = (40 : Int) from rfl]
        go_wp2
        go_ret
        obtain ⟨a', cap', hv, hle, hin⟩ := InS.of_owns HD.out.own
        have e : digL xs = ys := HY.out.symm
        rw [e]
        exact ⟨a', cap', by rw [← hv]; rfl, hle, hin, HD.out.below⟩
    · have HE : Hid (digL xs = ys) := Lib.hid (by
        rw [HY.out]
        unfold digL
        rw [List.take_of_length_le (show xs.length ≤ k by omega), List.take_of_length_le (by omega)])
      go_wp2
      go_ret
      obtain ⟨a', cap', hv, hle, hin⟩ := InS.of_owns HD.out.own
      rw [HE.out]
      exact ⟨a', cap', by rw [← hv]; rfl, hle, hin, HD.out.below⟩

theorem root_yes (w : World) (a : Option Addr) (cap : Nat) (xs : List BA) (ht : Tab w) (hl : xs.length ≤ 4096) (hs : AllS xs) (hc : xs.length ≤ cap) (hIn : InS w a xs) :
    Calls Tryd.prog 10 #[.slice a xs.length cap] w fun e w' => e = .returned (.tuple #[.string (rootF Dg xs), .int .i64 0]) ∧ Below w.heap.size w w' := by
  have := root_any w a cap xs ht (by omega) (fun x hx => by rw [hs x hx]; omega) hc hIn
  rwa [show rootA xs = .tuple #[.string (rootF Dg xs), .int .i64 0] by unfold rootA; rw [if_pos (fault_ok.2 ⟨hl, hs⟩)]] at this

set_option maxHeartbeats 3200000 in
set_option maxRecDepth 100000 in
theorem shows_any (w : World) (a : Option Addr) (cap : Nat) (xs : List BA) (ht : Tab w) (hl : xs.length ≤ 9223372036854775807) (hx : ∀ x, x ∈ xs → x.size ≤ 140737488351232) (hIn : InS w a xs) :
    Calls Tryd.prog 6 #[.slice a xs.length cap] w fun e w' => e = .returned (.bool true) ∧ Below w.heap.size w w' := by
  have HDG := Lib.hid (digests_any w a cap xs hl hx hIn)
  have hdl := digL_length xs
  have HDS := Lib.hid (digL_sized xs)
  have HT := Lib.hid ht
  clear ht hIn hx
  generalize digL xs = L at *
  have HRS : Hid ((rootF Dg L).size = 32) := Lib.hid (Dg_size _)
  go_enter Tryd.func6, Tryd.ntmps6
  go_wp2_with fail
  refine HDG.out.mono ?_
  rintro e w1 ⟨pa, pc, rfl, hle, hin, hb1⟩
  have HIN := Lib.hid hin
  have HB1 := Lib.hid hb1
  have HRT := Lib.hid (root_yes w1 pa pc L (HT.out.below hb1) (by omega) HDS.out hle hin)
  clear hin hb1
  go_wp2_with fail
  refine HRT.out.mono ?_
  rintro e w2 ⟨rfl, hb2⟩
  have HIN2 := Lib.hid (HIN.out.below hb2)
  have HB2 := Lib.hid (below_trans HB1.out hb2)
  clear hb2
  have HCK : Hid (∀ (k : Nat) (d : BA), L[k]? = some d → Checked (rootF Dg L) L.length k d (proofF Dg L k)) := Lib.hid (fun k d hd => ⟨topF Dg L, shown_of Dg Dg_size (by omega) HDS.out hd, by rw [Int.toNat_natCast]; rfl⟩)
  have hrs := HRS.out
  have hrb : (((rootF Dg L).size : Int) != 32) = false := by rw [bne_eq_false_iff_eq]; omega
  have hrs2 : (rootF Dg L).size ≤ 32 := by omega
  clear hrs
  generalize rootF Dg L = R at *
  go_wp2
  clear hrb
  go_loopw [26] (fun ii wr => ∃ k : Nat, k ≤ L.length ∧ ii = .int .i64 k ∧ Hid (Below w2.heap.size w2 wr)) (fun ii _ => L.length - (intOf ii).toNat)
  case atStart => exact ⟨0, by omega, rfl, Lib.hid (Below.refl _ _)⟩
  case round =>
    obtain ⟨k, hk, rfl, HB⟩ := hrel
    by_cases hlt : k < L.length
    · obtain ⟨b, off, rfl, hb, hcl⟩ := HIN2.out (fun e => by rw [e] at hlt; simp at hlt)
      have hcell : wr.cell? ⟨b, off + k, none⟩ = some (.string L[k]) := (HB.out.cell (p := ⟨b, off + k, none⟩) hb).trans (hcl k hlt)
      have HTW : Hid (Tab wr) := Lib.hid (HT.out.below (HB2.out.trans (HB.out.mono HB2.out.size)))
      have HPV := Lib.hid (prove_yes wr (some ⟨b, off, none⟩) pc L k HTW.out (by omega) hlt hle HDS.out (HIN2.out.below HB.out))
      have HC := Lib.hid (HCK.out k L[k] (List.getElem?_eq_getElem hlt))
      have hls : L[k].size = 32 := HDS.out _ (List.getElem_mem hlt)
      have hls2 : L[k].size ≤ 32 := by omega
      have HPS := Lib.hid (proof_sized Dg Dg_size L k HDS.out)
      have hpl := proof_len L k
      clear hcl hls
      generalize L[k] = x at *
      generalize proofF Dg L k = P at *
      go_wp2_with fail
      refine HPV.out.mono ?_
      rintro e w3 ⟨pa3, pc3, rfl, hle3, hpc3, hin3, hb3⟩
      have HB3 := Lib.hid (HB.out.trans (hb3.mono HB.out.size))
      have HKK := Lib.hid (check_any w3 R L.length k x pa3 pc3 P (HTW.out.below hb3) (by omega) (by omega) (by omega) (by omega) (by omega) (by omega) hle3 hpc3 (fun y hy => by rw [HPS.out y hy]; omega) hin3)
      clear hin3 hb3 hcell
      go_wp2_with fail
      refine HKK.out.mono ?_
      rintro e w4 ⟨bb, rfl, hbb, hb4⟩
      obtain rfl : bb = true := hbb.2 HC.out
      have HB4 := Lib.hid (HB3.out.trans (hb4.mono HB3.out.size))
      clear hbb hb4
      go_wp2
      refine ⟨⟨k + 1, by omega, by go_num, HB4⟩, ?_⟩
      simp [intOf]; omega
    · go_wp2
      go_ret
      exact ⟨rfl, HB2.out.trans (HB.out.mono HB2.out.size)⟩
end Go.Proofs.YtnmhmemlgibedaaDoor
