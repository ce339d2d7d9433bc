/- The document's Proof, Like; MerkleProves: what the law answers. -/
import Derived.Test.YtnmhmemlgibedaaDoorRoots
import Derived.Test.YtnmhmemlgibedaaDoorPrv
namespace Go.Proofs.YtnmhmemlgibedaaDoor
open Go.RowKit

theorem AM.call {w W W' : World} {M : Nat} {ts ys us vs : List BA} {v : Value} (h : AM w M ts ys us v W) (hm : MadeAt W' M (ts ++ us ++ vs)) (hv : Mv M W W') : AM w M ts ys (us ++ vs) v W' := by
  refine ⟨⟨h.own.1, ?_⟩, fun g e => hv.off g (h.voff g e), by rw [← List.append_assoc]; exact hm, h.mv.trans hv⟩
  rcases h.own.2 with h0 | ⟨g, cap, cur, hvv, hbs, hh, hr⟩
  · exact .inl h0
  · exact .inr ⟨g, cap, cur, hvv, hbs, (hv.keep g (h.voff g (by rw [hvv]; rfl))).trans hh, hr⟩
/-- How far the document's proof has come. -/
structure RP (w : World) (M : Nat) (xs : List BA) (i : Nat) (row ps us : List BA) (k : Nat) (v : Value) (ap : Option Addr) (W : World) : Prop where
  prf : proofF Dg xs i = ps ++ proofF Dg row k
  sized : AllS row
  ins : InO W M ap row
  apart : ∀ b off, ap = some ⟨b, off, none⟩ → v.ownBlock ≠ some b
  am : AM w M [] ps us v W
theorem RP.snoc {w W W2 : World} {M : Nat} {xs row ps us : List BA} {i k : Nat} {v : Value} {ap : Option Addr} {x : BA} {g cap : Nat} {o : Obj} (h : RP w M xs i row ps us k v ap W) (hne : row ≠ [])
    (hown : W2.ownsRow w.heap.size 9 1 (.slice (some ⟨g, 0, none⟩) (ps.length + 1) cap) (ps.length + 1) (strs ps ++ [.string x])) (hg : (W.alloc o).grownBy W2 v.ownBlock) (hgg : v.ownBlock = some g ∨ g = W.heap.size + 1) (hlt : g < W2.heap.size) :
    InO W2 M ap row ∧ (∀ b off, ap = some ⟨b, off, none⟩ → (Value.slice (some ⟨g, 0, none⟩) (ps.length + 1) cap).ownBlock ≠ some b) ∧ AM w M [] (ps ++ [x]) us (.slice (some ⟨g, 0, none⟩) (ps.length + 1) cap) W2 := by
  obtain ⟨b, off, rfl, hb, hc⟩ := h.ins hne
  have hnb := h.apart b off rfl
  obtain ⟨m1, m2, -, -⟩ := made_grown h.am.made hg h.am.voff
  have hbl := hb.lt
  refine ⟨fun _ => ⟨b, off, rfl, m2 b hb, fun j hj => ?_⟩, fun b' off' e e2 => ?_, h.am.snoc hown hg hgg hlt⟩
  · rw [← hc j hj]
    refine (World.cell?_of_block (a := ⟨b, off + j, none⟩) (hg.block b (by simp; omega) (fun e => hnb e.symm))).trans ?_
    exact (below1 W o).cell (p := ⟨b, off + j, none⟩) hbl
  · cases e
    obtain rfl : g = b := Option.some.inj e2
    rcases hgg with hgg | hgg
    · exact hnb hgg
    · omega
theorem RP.next {w W W' : World} {M : Nat} {xs row ps us : List BA} {i k : Nat} {v : Value} {a' : Option Addr} (hp : proofF Dg xs i = ps ++ proofF Dg (above Dg row) (k / 2)) (hs : AllS row) (ha : AM w M [] ps us v W) (hin : InO W' M a' (above Dg row)) (hfr : ∀ b off, a' = some ⟨b, off, none⟩ → W.heap.size ≤ b) (hm : MadeAt W' M ([] ++ us ++ aboveT row)) (hv : Mv M W W') :
    RP w M xs i (above Dg row) ps (us ++ aboveT row) (k / 2) v a' W' :=
  ⟨hp, above_sized Dg Dg_size row hs, hin, fun b off e e2 => by
    have := hfr b off e
    have := (ha.voff b e2).lt
    omega, ha.call hm hv⟩
theorem sib_odd {k : Nat} (h : k % 2 = 1) : sib k = k - 1 := by unfold sib; rw [if_pos h]
theorem sib_even {k : Nat} (h : ¬ k % 2 = 1) : sib k = k + 1 := by unfold sib; rw [if_neg h]

set_option maxHeartbeats 6400000 in
set_option maxRecDepth 100000 in
theorem rproof_any (w : World) (a : Option Addr) (cap : Nat) (xs : List BA) (i : Nat) (hl : xs.length ≤ 4096) (hi : i < xs.length) (hs : AllS xs) (hIn : InS w a xs) :
    Calls Tryd.prog 17 #[.slice a xs.length cap, .int .i64 i] w fun e w' => ∃ pa pc, e = .returned (.slice pa (proofF Dg xs i).length pc) ∧ (proofF Dg xs i).length ≤ pc ∧ InS w' pa (proofF Dg xs i) ∧ Below w.heap.size w w' := by
  obtain ⟨i0, hi0, hz0, hz1, hz2⟩ := info_parts info9
  have hM := made_new w
  have hA := am_new hM
  have hO : InO _ w.heap.size a xs := (InO.of_ins hIn).mv hA.mv
  have hsz1 : (w.alloc (.cells #[.slice none 0 0] 31)).heap.size = w.heap.size + 1 := by simp
  have H0 : Hid (RP (w.alloc (.cells #[.slice none 0 0] 31)) w.heap.size xs i xs [] [] i (.slice (some ⟨w.heap.size + 1, 0, none⟩) 0 0) a ((w.alloc (.cells #[.slice none 0 0] 31)).alloc (.cells #[] 9))) := Lib.hid ⟨rfl, hs, hO, fun b off e e2 => by
    have h1 : w.heap.size + 1 = b := Option.some.inj e2
    rcases List.eq_nil_or_concat xs with h2 | h2
    · subst h2; simp at hi
    · obtain ⟨b', off', e', hb', -⟩ := hIn (fun e => by rw [e] at hi; simp at hi)
      rw [e] at e'
      simp at e', (by rw [hsz1] at hA; exact hA)⟩
  have HW : Hid (∀ W', Mv w.heap.size (w.alloc (.cells #[.slice none 0 0] 31)) W' → Below w.heap.size w W') := Lib.hid (fun W' h => h.below_new)
  have hii : (i : Int) < (xs.length : Int) := by omega
  have hi1 : i ≤ 4096 := by omega
  clear hM hA hO hIn hs
  go_enter Tryd.func17, Tryd.ntmps17
  go_wp2
  generalize (w.alloc (.cells #[.slice none 0 0] 31)).alloc (.cells #[] 9) = w2 at *
  generalize w.alloc (.cells #[.slice none 0 0] 31) = w1 at *
  go_loopw [1, 6, 7] (fun ii v r wr => ∃ (row ps us : List BA) (k : Nat) (pa ap : Option Addr) (pc cp : Nat), ii = .int .i64 k ∧ v = .slice pa ps.length pc ∧ r = .slice ap row.length cp ∧ k < row.length ∧ k ≤ 4096 ∧ ps.length + row.length ≤ 4096 ∧ us.length + row.length ≤ 4096 ∧ Hid (RP w1 w.heap.size xs i row ps us k v ap wr)) (fun _ _ r _ => lenS r)
  case atStart => exact ⟨xs, [], [], i, _, a, 0, cap, rfl, rfl, rfl, hi, hi1, by simpa using hl, by simpa using hl, H0⟩
  case round =>
    clear H0
    obtain ⟨row, ps, us, k, pa, ap, pc, cp, rfl, rfl, rfl, hk, hk2, hpr, hur, HP⟩ := hrel
    by_cases h1 : 1 < row.length
    · have hlt : (above Dg row).length < row.length := above_lt Dg (by omega)
      have hat := aboveT_length row
      have hkd : k / 2 < (above Dg row).length := by rw [above_length]; omega
      have HNE : Hid (row ≠ []) := Lib.hid (fun e => by rw [e] at hk; simp at hk)
      by_cases ho : k % 2 = 1
      · have hsb : sib k < row.length := by rw [sib_odd ho]; omega
        have HPF := Lib.hid (proofF_some h1 hsb)
        obtain ⟨b, off, rfl, hb, hcl⟩ := HP.out.ins HNE.out
        have hsb2 : k - 1 < row.length := by omega
        have hcell := hcl (k - 1) hsb2
        have HX : Hid (row[sib k] = row[k - 1]) := Lib.hid (by simp [sib_odd ho])
        rw [HX.out] at HPF
        generalize row[k - 1] = x at *
        have hrem : ((k : Int) % 2 == 1) = true := by rw [beq_iff_eq]; omega
        obtain ⟨k', rfl⟩ : ∃ k', k = k' + 1 := ⟨k - 1, by omega⟩
        rw [show k' + 1 - 1 = k' by omega] at hcell
        clear hcl hb hsb hsb2 HX
        have hk3 : (k' : Int) < (row.length : Int) := by omega
        have hk4 : k' < row.length := by omega
        have hrow := HP.out.am.own
        have hsz := HP.out.am.mv.size
        go_wp2_with (at_builtin; refine wpList_append_lies _ rfl _ _ 22 rfl w1.heap.size 9 i0 (.string ByteArray.empty) 1 16 Tryd.underlying22 hi0 hz0 hz1 hz2 rfl (by decide) _ _ _ rfl (hrow.alloc _) ⟨wr.heap.size, 0, none⟩ 1 1 [.string x] rfl rfl (cell_new1 _ _ _) (by simp [Value.oneCell']) (by decide) (by unfold maxLen; omega) (by omega) (by simp; omega) (wr.heap.size + 1) (by simp) ?_; intro g cap' w3 hown' hgrow hg hglt)
        obtain ⟨n1, n2, n3⟩ := HP.out.snoc HNE.out hown' hgrow hg hglt
        have HN := Lib.hid (above_any w3 w.heap.size ([] ++ us) (some ⟨b, off, none⟩) cp row n3.made (by simp; omega) HP.out.sized n1)
        have HK3 := Lib.hid n3
        clear n1 n2 n3 hown' hgrow hg hglt hcell
        refine HN.out.mono ?_
        rintro e w4 ⟨a', cap4, rfl, hle, hin, hfr, hm4, hv4⟩
        have HP2 := Lib.hid (RP.next (k := (k' + 1)) (by rw [HP.out.prf, HPF.out]; simp) HP.out.sized HK3.out hin hfr hm4 hv4)
        clear hin hfr hm4 hv4 HN HP HPF hle HK3 HNE
        have hul2 : (us ++ aboveT row).length = us.length + (aboveT row).length := List.length_append
        generalize above Dg row = row2 at *
        generalize us ++ aboveT row = us2 at *
        go_wp2
        refine ⟨⟨row2, ps ++ [x], us2, (k' + 1) / 2, some ⟨g, 0, none⟩, a', cap', cap4, by go_num, by simp, rfl, hkd, by omega, by simp; omega, by omega, HP2⟩, ?_⟩
        simp [lenS]; omega
      · have hrem : ((k : Int) % 2 == 1) = false := by rw [beq_eq_false_iff_ne]; omega
        by_cases hsb2 : k + 1 < row.length
        · have hsb : sib k < row.length := by rw [sib_even ho]; omega
          have HPF := Lib.hid (proofF_some h1 hsb)
          obtain ⟨b, off, rfl, hb, hcl⟩ := HP.out.ins HNE.out
          have hcell : wr.cell? ⟨b, off + (k + 1), none⟩ = _ := hcl (k + 1) hsb2
          have HX : Hid (row[sib k] = row[k + 1]) := Lib.hid (by simp [sib_even ho])
          rw [HX.out] at HPF
          generalize row[k + 1] = x at *
          clear hcl hb hsb HX
          have hk3 : (k : Int) + 1 < (row.length : Int) := by omega
          have hk5 : ((k : Int) + 1).toNat = k + 1 := by omega
          have hrow := HP.out.am.own
          have hsz := HP.out.am.mv.size
          go_wp2_with (at_builtin; refine wpList_append_lies _ rfl _ _ 22 rfl w1.heap.size 9 i0 (.string ByteArray.empty) 1 16 Tryd.underlying22 hi0 hz0 hz1 hz2 rfl (by decide) _ _ _ rfl (hrow.alloc _) ⟨wr.heap.size, 0, none⟩ 1 1 [.string x] rfl rfl (cell_new1 _ _ _) (by simp [Value.oneCell']) (by decide) (by unfold maxLen; omega) (by omega) (by simp; omega) (wr.heap.size + 1) (by simp) ?_; intro g cap' w3 hown' hgrow hg hglt)
          obtain ⟨n1, n2, n3⟩ := HP.out.snoc HNE.out hown' hgrow hg hglt
          have HN := Lib.hid (above_any w3 w.heap.size ([] ++ us) (some ⟨b, off, none⟩) cp row n3.made (by simp; omega) HP.out.sized n1)
          have HK3 := Lib.hid n3
          clear n1 n2 n3 hown' hgrow hg hglt hcell
          refine HN.out.mono ?_
          rintro e w4 ⟨a', cap4, rfl, hle, hin, hfr, hm4, hv4⟩
          have HP2 := Lib.hid (RP.next (k := k) (by rw [HP.out.prf, HPF.out]; simp) HP.out.sized HK3.out hin hfr hm4 hv4)
          clear hin hfr hm4 hv4 HN HP HPF hle HK3 HNE
          have hul2 : (us ++ aboveT row).length = us.length + (aboveT row).length := List.length_append
          generalize above Dg row = row2 at *
          generalize us ++ aboveT row = us2 at *
          go_wp2
          refine ⟨⟨row2, ps ++ [x], us2, k / 2, some ⟨g, 0, none⟩, a', cap', cap4, by go_num, by simp, rfl, hkd, by omega, by simp; omega, by omega, HP2⟩, ?_⟩
          simp [lenS]; omega
        · have hsb : ¬ sib k < row.length := by rw [sib_even ho]; omega
          have HPF := Lib.hid (proofF_none h1 hsb)
          have hk3 : ¬ (k : Int) + 1 < (row.length : Int) := by omega
          have HN := Lib.hid (above_any wr w.heap.size ([] ++ us) ap cp row HP.out.am.made (by simp; omega) HP.out.sized HP.out.ins)
          go_wp2_with fail
          refine HN.out.mono ?_
          rintro e w4 ⟨a', cap4, rfl, hle, hin, hfr, hm4, hv4⟩
          have HP2 := Lib.hid (RP.next (by rw [HP.out.prf, HPF.out]) HP.out.sized HP.out.am hin hfr hm4 hv4)
          clear hin hfr hm4 hv4 HN HP HPF hle
          have hul2 : (us ++ aboveT row).length = us.length + (aboveT row).length := List.length_append
          generalize above Dg row = row2 at *
          generalize us ++ aboveT row = us2 at *
          go_wp2
          refine ⟨⟨row2, ps, us2, k / 2, pa, a', pc, cap4, by go_num, rfl, rfl, hkd, by omega, by omega, by omega, HP2⟩, ?_⟩
          simp [lenS]; omega
    · have h3 := HP.out.prf
      rw [proofF_few k (by omega), List.append_nil] at h3
      have H3 := Lib.hid h3
      clear h3
      go_wp2
      go_ret
      obtain ⟨a', cap', hv, hle, hin⟩ := InS.of_owns HP.out.am.own
      rw [H3.out]
      exact ⟨a', cap', by rw [← hv]; rfl, hle, hin, HW.out _ HP.out.am.mv⟩

set_option maxHeartbeats 1600000 in
theorem like_any (w : World) (a b : Option Addr) (cap cap' : Nat) (xs : List BA) (hlen : xs.length ≤ 1000000) (ha : InS w a xs) (hb : InS w b xs) :
    Calls Tryd.prog 16 #[.slice a xs.length cap, .slice b xs.length cap'] w fun e w' => e = .returned (.bool true) ∧ ∃ m, w' = w.drewN m := by
  have HA := Lib.hid ha
  have HB := Lib.hid hb
  clear ha hb
  go_enter Tryd.func16, Tryd.ntmps16
  go_wp2
  go_loopw [13] (fun i wr => ∃ k m : Nat, k ≤ xs.length ∧ i = .int .i64 k ∧ wr = w.drewN m) (fun i _ => xs.length - (intOf i).toNat)
  case atStart => exact ⟨0, 0, by omega, rfl, rfl⟩
  case round =>
    obtain ⟨k, m, hk, rfl, rfl⟩ := hrel
    by_cases hlt : k < xs.length
    · have hne : xs ≠ [] := by intro h; rw [h] at hlt; simp at hlt
      obtain ⟨g1, o1, rfl, -, hc1⟩ := HA.out hne
      obtain ⟨g2, o2, rfl, -, hc2⟩ := HB.out hne
      have h1 := hc1 k hlt
      have h2 := hc2 k hlt
      generalize xs[k] = x at *
      clear hc1 hc2 hne
      go_wp2
      go_quiet (fail)
      go_wp2
      go_roundw
      case rel => exact ⟨k + 1, _, by omega, by go_num, rfl⟩
      case measure => simp [intOf]; omega
    · go_wp2
      go_ret
      exact ⟨rfl, m, rfl⟩
end Go.Proofs.YtnmhmemlgibedaaDoor
