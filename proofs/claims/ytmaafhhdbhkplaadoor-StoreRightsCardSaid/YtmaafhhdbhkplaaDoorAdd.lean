/- Add: what the call makes of a Hash. -/
import Derived.Test.YtmaafhhdbhkplaaDoorAddP
namespace Go.Proofs.YtmaafhhdbhkplaaDoor
open Go.RowKit

def sizeOfStr : Value → Nat | .string t => t.size | _ => 0
set_option maxHeartbeats 1000000 in
set_option maxRecDepth 100000 in
theorem add_any (s : ByteArray) (w : World) (b : Nat) (m : Bs) (h : HashAt w b m) (hb0 : b ≠ 0) (ht : Tab w) (hm : m.length + s.size ≤ 1152921504606846975) :
    Calls Tryd.prog 41 #[.pointer (some ⟨b, 0, none⟩), .string s] w fun e w' => e = .returned (.tuple #[]) ∧ HashAt w' b (m ++ s.data.toList) ∧ Nx b w w' := by
  have HH := Lib.hid h
  have HT := Lib.hid ht
  clear h ht
  go_enter Tryd.func41, Tryd.ntmps41
  go_wp2
  go_loopw [1] (fun x wr => ∃ (s' : ByteArray) (m' : Bs), x = .string s' ∧ Hid (m' ++ s'.data.toList = m ++ s.data.toList) ∧ Hid (HashAt wr b m') ∧ Hid (Nx b w wr)) (fun x _ => sizeOfStr x)
  case atStart => exact ⟨s, m, rfl, Lib.hid rfl, HH, Lib.hid (Nx.refl _ _)⟩
  case round =>
    clear HH
    obtain ⟨s', m', rfl, HE, HH, HN⟩ := hrel
    by_cases hz : s'.size = 0
    · have hem : s' = ⟨#[]⟩ := by
        obtain ⟨⟨l⟩⟩ := s'
        simp [ByteArray.size] at hz
        subst hz
        rfl
      subst hem
      go_wp2
      go_end0
      exact ⟨rfl, by have := HH.out; rw [← HE.out]; simpa using this, HN.out⟩
    · have hne : (s'.toList).isEmpty = false := by
        rw [ByteArray.toList_eq]
        simp
        intro h
        apply hz
        rw [ByteArray.size, h]
        rfl
      have hne2 : ¬ s'.toList = [] := by
        intro h
        rw [h] at hne
        exact absurd hne (by decide)
      have hml : m'.length + s'.size ≤ 1152921504606846975 := by
        have h1 := congrArg List.length HE.out
        simp at h1
        omega
      go_wp2_with fail
      refine (state_any wr b m' HH.out (by omega)).mono ?_
      rintro e w1 ⟨rfl, hb1⟩
      obtain ⟨ws, bl, hin⟩ := HH.out
      have hin1 := hin.keep (hb1.block b hin.row.lt)
      have hbl : b < w1.heap.size := hin1.row.lt
      have HT1 : Hid (Tab w1) := Lib.hid ((HN.out.tab HT.out hb0).below hb1)
      have hL : (u32s (stW m').list).length = 8 := rfl
      have hok := stW_ok m'
      generalize hZ : stW m' = Z at hL hok ⊢
      have HZ := Lib.hid hZ
      have HOK := Lib.hid hok
      clear hZ hok
      have HTH : Hid ((w1.alloc (.cells z8 69)).there w1.heap.size 0 (u32s Z.list).toArray.size) := Lib.hid ((row_new w1 z8 69).there 0 _ (by rw [List.size_toArray, hL]; simp))
      have HI2 : Hid ((Tryd.prog.info? 69).map (·.size) = some (u32s Z.list).toArray.size) := Lib.hid (by rw [List.size_toArray, hL]; exact info52)
      have RS : Hid (Row ((w1.alloc (.cells z8 69)).setCells w1.heap.size 0 (u32s Z.list).toArray.toList) w1.heap.size 69 (u32s Z.list)) := Lib.hid ((row_new w1 z8 69).setArr _ (by rw [hL]; rfl))
      have HBT : Hid (But w1.heap.size (w1.alloc (.cells z8 69)) ((w1.alloc (.cells z8 69)).setCells w1.heap.size 0 (u32s Z.list).toArray.toList)) := Lib.hid (but_setCells _ _ _ _)
      have HIN : Hid (HashIn ((w1.alloc (.cells z8 69)).setCells w1.heap.size 0 (u32s Z.list).toArray.toList) b m' ws bl) := Lib.hid ((hin1.keep (Below.heap_alloc _ _ _ hbl)).keep (HBT.out.block b (by omega)))
      have HN2 : Hid (Nx b w ((w1.alloc (.cells z8 69)).setCells w1.heap.size 0 (u32s Z.list).toArray.toList)) := Lib.hid ((HN.out.trans (.of_below hb1)).trans (.of_below ((below1 _ _).trans (HBT.out.below (Nat.le_refl _)))))
      have HT2 : Hid (Tab ((w1.alloc (.cells z8 69)).setCells w1.heap.size 0 (u32s Z.list).toArray.toList)) := Lib.hid ((HT1.out.below (below1 _ _)).keep (HBT.out.block 0 (by have := HT1.out.pos; omega)))
      clear hL hin hin1 HT1 hb1 HN HH
      go_wp2_with ((refine wpList_store_row rfl rfl 69 _ _ rfl w1.heap.size 0 (u32s Z.list).toArray rfl rfl HTH.out HI2.out (one_u32s _) ?_))
      generalize (w1.alloc (.cells z8 69)).setCells w1.heap.size 0 (u32s Z.list).toArray.toList = w2 at *
      generalize w1.heap.size = M at *
      clear HTH HBT
      clear w1
      have hc0 := HIN.out.c0
      obtain ⟨r, hr⟩ : ∃ r : Nat, r = m'.length % 64 := ⟨_, rfl⟩
      have hrm : ((m'.length : Int) % 64) = (r : Int) := by omega
      have hrt : ((m'.length : Int)).tmod 64 = (r : Int) := by rw [Int.tmod_eq_emod_of_nonneg (by omega)]; exact hrm
      have hr64 : (r : Int) < 64 := by omega
      have hr65 : (r : Int) ≤ 64 := by omega
      have hr0 : (0 : Int) ≤ (r : Int) := by omega
      have hr64' : r < 64 := by omega
      have HR := Lib.hid hr
      clear hr
      go_still_tail 10, (by kernel_rfl)
      rw [if_neg (by omega)]
      change wpList _ _ _ _ _ w2.drew
      have HIN3 : Hid (HashIn w2.drew b m' ws bl) := Lib.hid (HIN.out.keep rfl)
      have HN3 : Hid (Nx b w w2.drew) := Lib.hid (HN2.out.trans (.of_below (Same.refl w2).drew.below))
      have HT3 : Hid (Tab w2.drew) := Lib.hid (HT2.out.keep rfl)
      have RS3 : Hid (Row w2.drew M 69 (u32s Z.list)) := Lib.hid (RS.out.keep rfl)
      clear hc0 HIN HN2 HT2 RS hrm hrt hr65 hr0
      generalize w2.drew = w3 at *
      clear w2
      obtain ⟨n, hn⟩ : ∃ n : Nat, Nat.min s'.size (64 - r) = n := ⟨_, rfl⟩
      have hns : n ≤ s'.size := by rw [← hn]; exact Nat.min_le_left _ _
      have hnr : n ≤ 64 - r := by rw [← hn]; exact Nat.min_le_right _ _
      have hn1 : 1 ≤ n := by rw [← hn]; exact Nat.le_min.2 ⟨by omega, by omega⟩
      have HMIN := Lib.hid hn
      clear hn
      have hcl : (s'.data.toList.take n).length = n := by rw [List.length_take]; simp; omega
      have HCP : Hid ((Builtin.copy_ #[65, 9] 3 #[.slice (some ⟨b, 9 + r, none⟩) (64 - r) (64 - r), .string s']).run Tryd.prog w3 = .ok (goInt n) (w3.setCells b (9 + r) (Lib.byteCells (s'.data.toList.take n)))) :=
        Lib.hid (run_copy_str w3 65 9 3 5 b (9 + r) (64 - r) (64 - r) s' Tryd.underlying65 Tryd.sizeOf5 n HMIN.out (HIN3.out.row.there _ _ (by rw [hcells_length, HIN3.out.wl, HIN3.out.bll]; omega)))
      have HROW : Hid (Row (w3.setCells b (9 + r) (Lib.byteCells (s'.data.toList.take n))) b 72 (hcells m'.length ws (bl.take r ++ s'.data.toList.take n ++ bl.drop (r + n)))) := Lib.hid (by
        have h1 := Row.setCells (Lib.byteCells (s'.data.toList.take n)) (9 + r) w3 _ HIN3.out.row (by rw [bytes_length, hcells_length, HIN3.out.wl, HIN3.out.bll, hcl]; omega)
        rw [hcells_block _ _ _ _ _ HIN3.out.wl HIN3.out.bll (by omega), hcl] at h1
        exact h1)
      have HBU : Hid (But b w3 (w3.setCells b (9 + r) (Lib.byteCells (s'.data.toList.take n)))) := Lib.hid (but_setCells _ _ _ _)
      have HC := Lib.hid hcl
      clear hcl
      have c0 := HROW.out.cell (i := 0) (v := .int .u64 m'.length) rfl
      have f0 := HROW.out.thaw 0
      have hlen2 : ((m'.length + n : Nat) : Int) = (m'.length : Int) + (n : Int) := by omega
      have HROW2 : Hid (Row ((w3.setCells b (9 + r) (Lib.byteCells (s'.data.toList.take n))).setCell ⟨b, 0, none⟩ (.int .u64 ((m'.length : Int) + (n : Int)))) b 72 (hcells (m'.length + n) ws (bl.take r ++ s'.data.toList.take n ++ bl.drop (r + n)))) := Lib.hid (by
        have h1 := HROW.out.set 0 (.int .u64 ((m'.length + n : Nat) : Int))
        rw [hcells_len, hlen2] at h1
        exact h1)
      have HBU2 : Hid (But b w3 ((w3.setCells b (9 + r) (Lib.byteCells (s'.data.toList.take n))).setCell ⟨b, 0, none⟩ (.int .u64 ((m'.length : Int) + (n : Int))))) := Lib.hid (HBU.out.set 0 _)
      have HTL : Hid ((bl.take r ++ s'.data.toList.take n ++ bl.drop (r + n)).length = 64 ∧ (bl.take r ++ s'.data.toList.take n ++ bl.drop (r + n)).take (r + n) = (m' ++ s'.data.toList.take n).drop (64 * (m'.length / 64))) := Lib.hid (by
        have := add_tail HIN3.out (s'.data.toList.take n) (by rw [HC.out, ← HR.out]; omega)
        rw [HC.out, ← HR.out] at this
        exact this)
      have HE2 : Hid ((m' ++ s'.data.toList.take n) ++ (s'.extract n s'.size).data.toList = m ++ s.data.toList) := Lib.hid ((take_drop_str m' s' n hns).trans HE.out)
      have hex := extract_size s' n
      have HEX := Lib.hid hex
      have hmr : m'.length % 64 = r := HR.out.symm
      have HMR := Lib.hid hmr
      have hl2 : (m' ++ s'.data.toList.take n).length = m'.length + n := by rw [List.length_append, HC.out]
      have HL2 := Lib.hid hl2
      have HNF : Hid (Nx b w ((w3.setCells b (9 + r) (Lib.byteCells (s'.data.toList.take n))).setCell ⟨b, 0, none⟩ (.int .u64 ((m'.length : Int) + (n : Int))))) := Lib.hid (HN3.out.trans (.of_but HBU2.out))
      by_cases hf : r + n = 64
      · have hB : (((m'.length : Int) + (n : Int)) % 64 == 0) = true := by simp; omega
        have RS4 : Hid (Row ((w3.setCells b (9 + r) (Lib.byteCells (s'.data.toList.take n))).setCell ⟨b, 0, none⟩ (.int .u64 ((m'.length : Int) + (n : Int)))) M 69 (u32s Z.list)) := Lib.hid (HBU2.out.row RS3.out (by omega))
        have HT4 : Hid (Tab ((w3.setCells b (9 + r) (Lib.byteCells (s'.data.toList.take n))).setCell ⟨b, 0, none⟩ (.int .u64 ((m'.length : Int) + (n : Int))))) := Lib.hid (HT3.out.keep (HBU2.out.block 0 (fun e => hb0 e.symm)))
        have HF := Lib.hid hf
        clear hlen2 hex hmr hl2 hf
        go_wp2_with ((refine Lib.wpList_copy_run _ rfl _ _ 65 9 rfl _ _ rfl rfl HCP.out ?_))
        generalize (w3.setCells b (9 + r) (Lib.byteCells (s'.data.toList.take n))).setCell ⟨b, 0, none⟩ (.int .u64 ((m'.length : Int) + (n : Int))) = w4 at *
        clear c0 f0 HCP HROW HBU HBU2
        generalize hBL : bl.take r ++ s'.data.toList.take n ++ bl.drop (r + n) = BL at HROW2 HTL
        have HBLL : Hid (BL.length = 64) := Lib.hid HTL.out.1
        clear hBL
        have HMX : Mixing w M b Z (m'.length + n) BL w4 := ⟨RS4.out, ⟨ws, HIN3.out.wl, HROW2.out⟩, HT4.out, HNF.out⟩
        have HBM : Hid (M ≠ b) := Lib.hid (by omega)
        have hu53 := Tryd.underlying70
        have hi53 : (Tryd.prog.info? 70).map (·.size) = some (Lib.byteCells BL).length := by rw [bytes_length, HBLL.out]; exact info53
        obtain ⟨Y, hY⟩ : ∃ Y, Y = (mixF kL Z BL).list := ⟨_, rfl⟩
        have hYl : Y.length = 8 := by rw [hY]; rfl
        have HMC : Hid (∀ W, Tab W → Calls Tryd.prog 47 #[.agg (u32s Z.list).toArray, .agg (Lib.byteCells BL).toArray] W fun e w' => e = .returned (.agg (u32s Y).toArray) ∧ Below W.heap.size W w') := Lib.hid (fun W h => by
          rw [hY]; exact mixed_any Z BL W HOK.out HBLL.out h)
        have HSC : Hid (∀ W, Mixing w M b Z (m'.length + n) BL W → (storeCells ⟨b, 1, none⟩ (u32s Y) 0).run Tryd.prog W = .ok () (W.setCells b 1 (u32s Y))) := Lib.hid (fun W h => h.store HBLL.out Y hYl)
        have HY := Lib.hid hY
        have HYL := Lib.hid hYl
        clear hY hYl
        have hS4 := HMX.conj HBLL.out
        clear HMX HROW2 RS4 HT4 HNF
        go_region_held3 (fun W => W.cell? ⟨M, 0, none⟩ = some (.int .u32 Z.a) ∧ W.cell? ⟨M, 1, none⟩ = some (.int .u32 Z.b) ∧ W.cell? ⟨M, 2, none⟩ = some (.int .u32 Z.c) ∧ W.cell? ⟨M, 3, none⟩ = some (.int .u32 Z.d) ∧ W.cell? ⟨M, 4, none⟩ = some (.int .u32 Z.e) ∧ W.cell? ⟨M, 5, none⟩ = some (.int .u32 Z.f) ∧ W.cell? ⟨M, 6, none⟩ = some (.int .u32 Z.g) ∧ W.cell? ⟨M, 7, none⟩ = some (.int .u32 Z.h) ∧ W.rangeAt b 9 (Lib.byteCells BL) ∧ Mixing w M b Z (m'.length + n) BL W)
          (first | assumption | (go_split_ands; refine Mixing.conj ?_ HBLL.out; first | assumption | (apply Mixing.drew; assumption) | (refine Mixing.stored ?_ HBLL.out Y HYL.out HBM.out hb0; assumption) | (refine Mixing.call ?_ hb6; assumption)))
          (first
            | (go_at_call 47; refine (HMC.out _ ?_).mono ?_; (go_split_ands; refine Mixing.tab (w := w) (M := M) (b := b) (Z := Z) (len := m'.length + n) (BL := BL) ?_; assumption); rintro e w6 ⟨rfl, hb6⟩; have hmx6 : Mixing w M b Z (m'.length + n) BL w6 := (by go_split_ands; refine Mixing.call ?_ hb6; assumption); have hsc6 := HSC.out w6 hmx6))
        have HST : Hid (stW (m' ++ s'.data.toList.take n) = mixF kL Z BL) := Lib.hid (by
          have h6 := HTL.out.2
          rw [HF.out] at h6
          rw [stW_full m' _ BL (by rw [HC.out, HMR.out]; exact HF.out) HBLL.out h6, HZ.out])
        have HN7 : Hid (Nx b w (w6.setCells b 1 (u32s Y))) := Lib.hid (hmx6.nx.trans (.of_but (but_setCells _ _ _ _)))
        have HFIN : Hid (HashAt (w6.setCells b 1 (u32s Y)) b (m' ++ s'.data.toList.take n)) := Lib.hid (by
          refine ⟨Y, BL, ?_, HYL.out, HBLL.out, ?_, ?_⟩
          · rw [HL2.out]; exact hmx6.row HBLL.out Y HYL.out
          · intro _
            rw [HST.out]; exact HY.out
          · have e1 := HMR.out
            have e2 := HF.out
            rw [HL2.out, show (m'.length + n) % 64 = 0 by omega, List.take_zero, List.drop_eq_nil_of_le (by rw [HL2.out]; omega)])
        go_split_ands
        clear hmx6 hsc6 hu53 hi53 hb6
        go_wp2
        refine ⟨⟨s'.extract n s'.size, m' ++ s'.data.toList.take n, rfl, HE2, HFIN, HN7⟩, ?_⟩
        show (s'.extract n s'.size).size < s'.size
        rw [HEX.out]; omega
      · have hB : (((m'.length : Int) + (n : Int)) % 64 == 0) = false := by simp; omega
        have HFIN : Hid (HashAt ((w3.setCells b (9 + r) (Lib.byteCells (s'.data.toList.take n))).setCell ⟨b, 0, none⟩ (.int .u64 ((m'.length : Int) + (n : Int)))) b (m' ++ s'.data.toList.take n)) := Lib.hid (by
          refine ⟨ws, bl.take r ++ s'.data.toList.take n ++ bl.drop (r + n), ?_, HIN3.out.wl, HTL.out.1, ?_, ?_⟩
          · rw [hl2]; exact HROW2.out
          · intro h1
            rw [hl2] at h1
            rw [stW_part m' _ (by rw [HC.out, HMR.out]; omega)]
            exact HIN3.out.words (by have := HMR.out; omega)
          · have h3 := HTL.out.2
            rw [hl2, show (m'.length + n) % 64 = r + n by have := HMR.out; omega, show (m'.length + n) / 64 = m'.length / 64 by have := HMR.out; omega]
            exact h3)
        have HF := Lib.hid hf
        clear hlen2 hex hmr hl2 hf
        go_wp2_with ((refine Lib.wpList_copy_run _ rfl _ _ 65 9 rfl _ _ rfl rfl HCP.out ?_))
        refine ⟨⟨s'.extract n s'.size, m' ++ s'.data.toList.take n, rfl, HE2, HFIN, HNF⟩, ?_⟩
        show (s'.extract n s'.size).size < s'.size
        rw [HEX.out]; omega
end Go.Proofs.YtmaafhhdbhkplaaDoor
