/- Prove of package merkle. -/
import Derived.Test.YtnmhmemlgibedaaDoorTop
import Derived.Deep.AppendLies
namespace Go.Proofs.YtnmhmemlgibedaaDoor
open Go.RowKit

theorem proofF_few {r : List BA} (i : Nat) (h : r.length ≤ 1) : proofF Dg r i = [] := by unfold proofF; rw [dif_pos h]
theorem proofF_some {r : List BA} {i : Nat} (h : 1 < r.length) (hs : sib i < r.length) : proofF Dg r i = r[sib i] :: proofF Dg (above Dg r) (i / 2) := by
  conv => lhs; unfold proofF
  rw [dif_neg (by omega), List.getElem?_eq_getElem hs]; rfl
theorem proofF_none {r : List BA} {i : Nat} (h : 1 < r.length) (hs : ¬ sib i < r.length) : proofF Dg r i = proofF Dg (above Dg r) (i / 2) := by
  conv => lhs; unfold proofF
  rw [dif_neg (by omega), List.getElem?_eq_none (by omega)]; rfl

theorem proof_len : ∀ (r : List BA) (i : Nat), (proofF Dg r i).length ≤ r.length := by
  intro r
  induction hn : r.length using Nat.strongRecOn generalizing r with
  | _ n ih =>
    subst hn
    intro i
    by_cases h : r.length ≤ 1
    · rw [proofF_few i h]; simp
    · have h2 := ih _ (above_lt Dg h) (above Dg r) rfl (i / 2)
      have h3 := above_lt Dg h
      by_cases hs : sib i < r.length
      · rw [proofF_some (by omega) hs, List.length_cons]; omega
      · rw [proofF_none (by omega) hs]; omega
/-- How far a proof has come: ps are laid, row is the row at hand. -/
structure PI (w : World) (xs : List BA) (i : Nat) (row ps : List BA) (k : Nat) (v : Value) (ap : Option Addr) (W : World) : Prop where
  prf : proofF Dg xs i = ps ++ proofF Dg row k
  sized : AllS row
  ins : InS W ap row
  apart : ∀ b off, ap = some ⟨b, off, none⟩ → v.ownBlock ≠ some b
  own : W.ownsRow w.heap.size 9 1 v ps.length (strs ps)
  below : Below w.heap.size w W
  tab : Tab W
  pos : 0 < w.heap.size
theorem PI.snoc {w W W2 : World} {xs row ps : List BA} {i k : Nat} {v : Value} {ap : Option Addr} {x : BA} {g cap : Nat} {o : Obj} (h : PI w xs i row ps k v ap W) (hne : row ≠ [])
    (hown : W2.ownsRow w.heap.size 9 1 (.slice (some ⟨g, 0, none⟩) (ps.length + 1) cap) (ps.length + 1) (strs ps ++ [.string x])) (hg : (W.alloc o).grownBy W2 v.ownBlock) (hgg : v.ownBlock = some g ∨ g = W.heap.size + 1) :
    InS W2 ap row ∧ (∀ b off, ap = some ⟨b, off, none⟩ → (Value.slice (some ⟨g, 0, none⟩) (ps.length + 1) cap).ownBlock ≠ some b) ∧ W2.ownsRow w.heap.size 9 1 (.slice (some ⟨g, 0, none⟩) (ps.length + 1) cap) (ps ++ [x]).length (strs (ps ++ [x])) ∧ Below w.heap.size w W2 ∧ Tab W2 := by
  have hsz := h.below.size
  obtain ⟨b, off, rfl, hb, hc⟩ := h.ins hne
  have hnb := h.apart b off rfl
  refine ⟨fun _ => ⟨b, off, rfl, by have := hg.size; simp at this; omega, fun j hj => ?_⟩, fun b' off' e e2 => ?_, by simpa using hown, (h.below.alloc h.below.size _).grown hg (by simp; omega) (fun k e => (h.own.lt k e).1), ?_⟩
  · rw [← hc j hj]
    refine (World.cell?_of_block (a := ⟨b, off + j, none⟩) (hg.block b (by simp; omega) (fun e => hnb e.symm))).trans ?_
    exact (below1 W o).cell (p := ⟨b, off + j, none⟩) hb
  · cases e
    obtain rfl : g = b := Option.some.inj e2
    rcases hgg with hgg | hgg
    · exact hnb hgg
    · omega
  · refine h.tab.keep ?_
    have h0 := h.pos
    rw [hg.block 0 (by simp) (fun e => by have := (h.own.lt 0 e.symm).1; omega)]
    exact Below.heap_alloc _ _ _ h.tab.pos

set_option maxHeartbeats 3200000 in
set_option maxRecDepth 100000 in
theorem prove_yes (w : World) (a : Option Addr) (cap : Nat) (xs : List BA) (i : Nat) (ht : Tab w) (hl : xs.length ≤ 4096) (hi : i < xs.length) (hc : xs.length ≤ cap) (hs : AllS xs) (hIn : InS w a xs) :
    Calls Tryd.prog 15 #[.slice a xs.length cap, .int .i64 i] w fun e w' => ∃ pa pc, e = .returned (.tuple #[.slice pa (proofF Dg xs i).length pc, .int .i64 0]) ∧ (proofF Dg xs i).length ≤ pc ∧ pc ≤ 9223372036854775807 ∧ InS w' pa (proofF Dg xs i) ∧ Below w.heap.size w w' := by
  obtain ⟨i0, hi0, hz0, hz1, hz2⟩ := info_parts info9
  have HF : Hid (Calls Tryd.prog 23 #[.slice a xs.length cap] w fun e w' => e = .returned (.int .i64 0) ∧ w = w') := Lib.hid (by
    have := fault_any w a cap xs (by omega) (fun x hx => by rw [hs x hx]; omega) hIn
    rwa [fault_ok.2 ⟨hl, hs⟩] at this)
  have H0 : Hid (PI w xs i xs [] i (.slice none 0 0) a w) := Lib.hid ⟨rfl, hs, hIn, fun b off e e2 => (by cases e2), World.ownsRow_nil _ _ _ _, Below.refl _ _, ht, ht.pos⟩
  have hii : (i : Int) < (xs.length : Int) := by omega
  have hi1 : i ≤ 4096 := by omega
  have hB1 : decide ((i : Int) < 0) = false := by simp
  have hB2 : decide (xs.length ≤ i) = false := by simp; omega
  clear ht hIn hs
  go_enter Tryd.func15, Tryd.ntmps15
  go_wp2_with fail
  refine HF.out.mono ?_
  rintro e w1 ⟨rfl, rfl⟩
  go_wp2
  go_loopw [1, 7, 8] (fun ii v r wr => ∃ (row ps : List BA) (k : Nat) (pa ap : Option Addr) (pc cp : Nat), ii = .int .i64 k ∧ v = .slice pa ps.length pc ∧ r = .slice ap row.length cp ∧ row.length ≤ 4096 ∧ k < row.length ∧ k ≤ 4096 ∧ ps.length + row.length ≤ 4096 ∧ row.length ≤ cp ∧ Hid (PI w xs i row ps k v ap wr)) (fun _ _ r _ => lenS r)
  case atStart => exact ⟨xs, [], i, none, a, 0, cap, rfl, rfl, rfl, hl, hi, hi1, by simpa using hl, hc, H0⟩
  case round =>
    clear H0
    obtain ⟨row, ps, k, pa, ap, pc, cp, rfl, rfl, rfl, hrl, hk, hk2, hpr, hcp, HP⟩ := hrel
    by_cases h1 : 1 < row.length
    · have HO := Lib.hid (fun W => other_any k W (by omega))
      have hsl := sib_le k
      have hlt : (above Dg row).length < row.length := above_lt Dg (by omega)
      have hkd : k / 2 < (above Dg row).length := by rw [above_length]; omega
      by_cases h2 : sib k < row.length
      · have HPF := Lib.hid (proofF_some h1 h2)
        obtain ⟨b, off, rfl, hb, hcl⟩ := HP.out.ins (fun e => by rw [e] at hk; simp at hk)
        have hcell := hcl (sib k) h2
        have HNE : Hid (row ≠ []) := Lib.hid (fun e => by rw [e] at hk; simp at hk)
        have h2i : ((sib k : Nat) : Int) < (row.length : Int) := by omega
        generalize row[sib k] = x at *
        clear hcl
        generalize sib k = s at *
        have hrow := HP.out.own
        have hsz := HP.out.below.size
        go_wp2_with fail
        refine (HO.out _).mono ?_
        rintro e w1 ⟨rfl, rfl⟩
        go_wp2_with (at_builtin; refine wpList_append_lies _ rfl _ _ 22 rfl w.heap.size 9 i0 (.string ByteArray.empty) 1 16 Tryd.underlying22 hi0 hz0 hz1 hz2 rfl (by decide) _ _ _ rfl (hrow.alloc _) ⟨wr.heap.size, 0, none⟩ 1 1 [.string x] rfl rfl (cell_new1 _ _ _) (by simp [Value.oneCell']) (by decide) (by unfold maxLen; omega) (by omega) (by simp; omega) (wr.heap.size + 1) (by simp) ?_; intro g cap' w3 hown' hgrow hg hglt)
        obtain ⟨n1, n2, n3, n4, n5⟩ := HP.out.snoc HNE.out hown' hgrow hg
        have HN := Lib.hid (next_any w3 (some ⟨b, off, none⟩) cp row n5 hrl hcp HP.out.sized n1)
        have HK2 := Lib.hid n2
        have HK3 := Lib.hid n3
        have HK4 := Lib.hid n4
        have HK5 := Lib.hid n5
        clear n1 n2 n3 n4 n5 hown' hgrow hg hglt hcell
        refine HN.out.mono ?_
        rintro e w4 ⟨a', cap4, rfl, hle, hin, hfr, hb4⟩
        have HP2 : Hid (PI w xs i (above Dg row) (ps ++ [x]) (k / 2) (.slice (some ⟨g, 0, none⟩) (ps.length + 1) cap') a' w4) := Lib.hid ⟨by rw [HP.out.prf, HPF.out]; simp, above_sized Dg Dg_size row HP.out.sized, hin, fun b' off' e e2 => by
            have := hfr b' off' e
            have := (HK3.out.lt b' e2).2
            omega, ownsRow_below HK3.out hb4, below_trans HK4.out hb4, HK5.out.below hb4, HP.out.pos⟩
        clear hin hfr hb4 HN HK2 HK3 HK4 HK5 HP HPF HNE HO
        generalize above Dg row = row2 at *
        go_wp2
        refine ⟨⟨row2, ps ++ [x], k / 2, some ⟨g, 0, none⟩, a', cap', cap4, by go_num, by simp, rfl, by omega, hkd, by omega, by simp; omega, hle, HP2⟩, ?_⟩
        simp [lenS]; omega
      · have HPF := Lib.hid (proofF_none h1 h2)
        have h2i : ¬ ((sib k : Nat) : Int) < (row.length : Int) := by omega
        have HN := Lib.hid (next_any wr ap cp row HP.out.tab hrl hcp HP.out.sized HP.out.ins)
        generalize sib k = s at *
        go_wp2_with fail
        refine (HO.out _).mono ?_
        rintro e w1 ⟨rfl, rfl⟩
        go_wp2_with fail
        refine HN.out.mono ?_
        rintro e w4 ⟨a', cap4, rfl, hle, hin, hfr, hb4⟩
        have HP2 : Hid (PI w xs i (above Dg row) ps (k / 2) (.slice pa ps.length pc) a' w4) := Lib.hid ⟨by rw [HP.out.prf, HPF.out], above_sized Dg Dg_size row HP.out.sized, hin, fun b' off' e e2 => by
            have := hfr b' off' e
            have := (HP.out.own.lt b' e2).2
            omega, ownsRow_below HP.out.own hb4, below_trans HP.out.below hb4, HP.out.tab.below hb4, HP.out.pos⟩
        clear hin hfr hb4 HN HP HPF HO
        generalize above Dg row = row2 at *
        go_wp2
        refine ⟨⟨row2, ps, k / 2, pa, a', pc, cap4, by go_num, rfl, rfl, by omega, hkd, by omega, by omega, hle, HP2⟩, ?_⟩
        simp [lenS]; omega
    · have h3 := HP.out.prf
      rw [proofF_few k (by omega), List.append_nil] at h3
      have H3 := Lib.hid h3
      clear h3
      go_wp2
      go_ret2
      obtain ⟨a', cap', hv, hle, hin⟩ := InS.of_owns HP.out.own
      rw [H3.out]
      exact ⟨a', cap', by rw [← hv]; rfl, hle, owns_cap (by rw [← hv]; exact HP.out.own), hin, HP.out.below⟩

set_option maxHeartbeats 1600000 in
theorem prove_bad (w : World) (a : Option Addr) (cap : Nat) (xs : List BA) (i : Int) (hl : xs.length ≤ 9223372036854775807) (hx : ∀ x, x ∈ xs → x.size ≤ 9223372036854775807) (hIn : InS w a xs) (h : faultF xs ≠ 0) :
    Calls Tryd.prog 15 #[.slice a xs.length cap, .int .i64 i] w fun e w' => e = .returned (.tuple #[.slice none 0 0, .int .i64 (faultF xs : Nat)]) ∧ w = w' := by
  have HF := Lib.hid (fault_any w a cap xs hl hx hIn)
  have hb1 : (((faultF xs : Nat) : Int) != 0) = true := by rw [bne_iff_ne]; omega
  have hb2 : ((faultF xs : Nat) : Int) ≠ 0 := by omega
  clear hIn h
  generalize faultF xs = f at *
  go_enter Tryd.func15, Tryd.ntmps15
  go_wp2_with fail
  refine HF.out.mono ?_
  rintro e w1 ⟨rfl, rfl⟩
  go_wp2
  go_ret2
  exact ⟨rfl, rfl⟩
set_option maxHeartbeats 1600000 in
theorem prove_no (w : World) (a : Option Addr) (cap : Nat) (xs : List BA) (i : Int) (hl : xs.length ≤ 9223372036854775807) (hx : ∀ x, x ∈ xs → x.size ≤ 9223372036854775807) (hIn : InS w a xs) (h : faultF xs = 0) (hi : i < 0 ∨ xs.length ≤ i) :
    Calls Tryd.prog 15 #[.slice a xs.length cap, .int .i64 i] w fun e w' => e = .returned (.tuple #[.slice none 0 0, .int .i64 1]) ∧ w = w' := by
  have HF := Lib.hid (fault_any w a cap xs hl hx hIn)
  rw [h] at HF
  clear hIn h
  by_cases h0 : i < 0
  · go_enter Tryd.func15, Tryd.ntmps15
    go_wp2_with fail
    refine HF.out.mono ?_
    rintro e w1 ⟨rfl, rfl⟩
    go_wp2
    go_ret2
    exact ⟨rfl, rfl⟩
  · have h1 : (xs.length : Int) ≤ i := by omega
    clear hi
    go_enter Tryd.func15, Tryd.ntmps15
    go_wp2_with fail
    refine HF.out.mono ?_
    rintro e w1 ⟨rfl, rfl⟩
    go_wp2
    go_ret2
    exact ⟨rfl, rfl⟩
end Go.Proofs.YtnmhmemlgibedaaDoor
