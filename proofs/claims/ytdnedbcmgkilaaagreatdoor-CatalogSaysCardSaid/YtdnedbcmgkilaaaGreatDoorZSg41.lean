/- The document's Language and Chain; Like of two lists that are the same. -/
import Derived.Test.YtdnedbcmgkilaaaGreatDoorZSLRl
import Derived.Test.YtdnedbcmgkilaaaGreatDoorZSg50
import Derived.Test.YtdnedbcmgkilaaaGreatDoorZSg22
import Derived.Test.YtdnedbcmgkilaaaGreatDoorZSSd
import Derived.Test.YtdnedbcmgkilaaaGreatDoorZSg24
import Derived.Test.YtdnedbcmgkilaaaGreatDoorZSg48

section

namespace Go.Proofs.YtdnedbcmgkilaaaGreatDoor.Lc
set_option maxHeartbeats 3200000
set_option maxRecDepth 100000
open Go.Lib (hid)
open Go.RowKit Go.Lib
theorem zbx (w : World) (o : Obj) (x : Value) (t : TypeId) : ∀ j u, [x][j]? = some u -> ((w.alloc o).alloc (.cells #[x] t)).cell? ((⟨w.heap.size + 1, 0, none⟩ : Addr).add j) = some u := by
 have h := cell_one_new (w.alloc o) x t
 rwa [World.size_alloc] at h
theorem zi2 : ∀ (l : List UInt8) (k : Nat), (∀ j, j < k -> l[j]? ≠ some 45) -> l[k]? = some 45 -> langF l = l.take k
 | [], k, _, h => by simp at h
 | c :: r, 0, _, h => by
  have : c = 45 := by simpa using h
  subst this; simp [langF]
 | c :: r, k + 1, h, h2 => by
  have hc : c ≠ 45 := fun e => h 0 (by omega) (by simp [e])
  have ih := zi2 r k (fun j hj => by have := h (j + 1) (by omega); simpa using this) (by simpa using h2)
  rw [langF, List.takeWhile_cons_of_pos (by simpa using hc), List.take_succ_cons]
  exact congrArg (c :: ·) ih
theorem zeb : ∀ (l : List UInt8), (∀ j, j < l.length -> l[j]? ≠ some 45) -> langF l = l
 | [], _ => rfl
 | c :: r, h => by
  have hc : c ≠ 45 := fun e => h 0 (by simp) (by simp [e])
  have ih := zeb r (fun j hj => by have := h (j + 1) (by simp; omega); simpa using this)
  rw [langF, List.takeWhile_cons_of_pos (by simpa using hc)]
  exact congrArg (c :: ·) ih
theorem zgw (s : ByteArray) (w : World) (hs : s.size <= 140737488351232) : Calls Tryz.prog 49 #[.string s] w fun e w' => e = .returned (.string (langS s)) /\ w' = w := by
 have HL := hid (z4s s w (by omega))
 cases hl : locB s.data.toList with
 | false =>
  rw [hl] at HL
  have HF := hid (zec hl)
  clear hl
  go_enter Tryz.func49, Tryz.ntmps49
  go_wp2_with fail
  refine HL.out.mono ?_
  rintro e w1 ⟨rfl, rfl⟩
  go_wp2
  go_ret
  exact ⟨z90 HF.out.symm, rfl⟩
 | true =>
  rw [hl] at HL
  have HF := hid (zbc hl)
  have hs := zb9 hl
  clear hl
  go_enter Tryz.func49, Tryz.ntmps49
  go_wp2_with fail
  refine HL.out.mono ?_
  rintro e w1 ⟨rfl, rfl⟩
  clear HL
  go_wp2
  go_loopw [3] (fun i wr => ∃ k : Nat, k <= s.size /\ i = .int .i64 k /\ wr = w1 /\ Hid (∀ j, j < k -> s.data.toList[j]? ≠ some 45)) (fun i _ => s.size - (intOf i).toNat)
  case atStart => exact ⟨0, Nat.zero_le _, rfl, rfl, hid (fun j h => by omega)⟩
  case round =>
   obtain ⟨k, hk, rfl, rfl, HA⟩ := hrel
   by_cases hlt : k < s.size
   ·have hlt2 : k < s.data.size := hlt
    have hat := z45 s k hlt
    by_cases h45 : s[k] = 45
    ·have hBB : ((s[k].toNat : Int) == 45) = true := by rw [h45]; rfl
     have HE : Hid (s.extract 0 k = langS s) := hid (by
      rw [HF.out]
      apply z3a
      rw [zdp, z36]
      exact (zi2 _ k HA.out (by rw [hat, h45])).symm)
     clear hat h45
     go_wp2
     go_ret
     exact ⟨z90 HE.out, rfl⟩
    ·have hBB : ((s[k].toNat : Int) == 45) = false := by
      have := z3d (n := 45) 45 rfl h45
      simpa [bne] using this
     have HN : Hid (∀ j, j < k + 1 -> s.data.toList[j]? ≠ some 45) := hid (fun j hj => by
      rcases Nat.lt_or_eq_of_le (Nat.le_of_lt_succ hj) with h | rfl
      ·exact HA.out j h
      ·rw [hat]; exact fun e => h45 (Option.some.inj e))
     clear hat h45
     go_wp2
     have hz : s.data.size = s.size := rfl
     refine ⟨⟨k + 1, by omega, by go_num, trivial, HN⟩, ?_⟩
     simp [intOf]; omega
   ·have HE : Hid (s = langS s) := hid (by
     rw [HF.out]
     apply z3a
     rw [zdp]
     exact (zeb _ (fun j hj => HA.out j (by rw [z1k] at hj; omega))).symm)
    go_wp2
    go_ret
    exact ⟨z90 HE.out, rfl⟩
theorem zfo (s : ByteArray) (w : World) (hs0 : s.size <= 140737488351232) : Calls Tryz.prog 43 #[.string s] w fun e w' => ∃ (a : Option Addr) (cap : Nat) (xs : List ByteArray), e = .returned (.slice a xs.length cap) /\ lists xs = z1c s.data.toList /\ Reads w' a cap xs /\ Below w.heap.size w w' := by
 have HL := hid (z4s s w (by omega))
 obtain ⟨i0, hi, hz0, hz1, hz2⟩ := info_parts info9
 by_cases h0 : s = ⟨#[]⟩
 ·subst h0
  obtain ⟨s, hse⟩ : ∃ s : ByteArray, s = ⟨#[]⟩ := ⟨_, rfl⟩
  have hsz : s.size = 0 := by rw [hse]; rfl
  have HF : Hid (z1c s.data.toList = [[]]) := hid (by rw [hse]; rfl)
  have he : s.toList.isEmpty = true := by rw [hse, ByteArray.toList_eq]; rfl
  clear HL hs0
  rw [<- hse]
  go_enter Tryz.func43, Tryz.ntmps43
  go_wp2
  go_loopw [3, 4] (fun v i wr => ∃ (xs : List ByteArray) (a : Option Addr) (cap k : Nat) (I : Int), v = .slice a xs.length cap /\ i = .int .i64 I /\ I + 1 = (k : Int) /\ k <= s.size /\ xs.length + k <= 33 /\ Hid (wr.ownsRow w.heap.size 9 1 v xs.length (strs xs)) /\ Hid (Below w.heap.size w wr) /\ Hid (z1c s.data.toList = lists xs ++ (pre s.data.toList k ++ [[]]))) (fun _ i _ => (intOf i).toNat)
  case atStart => exact ⟨[], _, 0, 0, -1, rfl, by go_num, rfl, Nat.zero_le _, by simp, hid (World.ownsRow_made w #[] 0 (Nat.le_refl _) (by unfold maxLen; omega) rfl), hid (z02 _ _), hid (by rw [HF.out]; rfl)⟩
  case round =>
   clear HF
   obtain ⟨xs, a, cap, k, I, rfl, rfl, hI, hk, hn, HO, HB, HQ⟩ := hrel
   have hrow := HO.out
   have hB := HB.out
   by_cases h2 : 0 < I
   ·exfalso; omega
   ·have HP : Hid (pre s.data.toList k = []) := hid (by
     rcases (show k = 0 ∨ k = 1 by omega) with rfl | rfl
     ·rfl
     ·rw [pre, if_neg (by omega)]; rfl)
    clear HO HB
    go_wp2_with (at_builtin; refine wpList_append_own _ rfl _ _ 67 rfl w.heap.size 9 i0 (.string ByteArray.empty) 1 16 Tryz.underlying67 hi hz0 hz1 hz2 rfl (by decide) _ _ _ rfl (hrow.alloc _) ⟨wr.heap.size, 0, none⟩ 1 1 [.string ⟨#[]⟩] rfl rfl (cell_one_new _ _ _) (by simp [Value.oneCell']) (by unfold maxLen; omega) (by omega) (by have := hB.size; simp; omega) ?_; intro v' w2 hown' hgrow _; obtain ⟨g', cap', rfl⟩ := z17 hown')
    have hb2 : Below w.heap.size w w2 := (hB.alloc hB.size _).grown hgrow (by have := hB.size; simp; omega) (fun k e => (hrow.lt k e).1)
    have HR := z2g (xs := xs ++ [⟨#[]⟩]) (by simpa [strs] using hown')
    have HF : Hid (lists (xs ++ [⟨#[]⟩]) = z1c s.data.toList) := hid (by rw [HQ.out, HP.out, lists, List.map_append]; rfl)
    clear hgrow hrow hB HQ hown'
    go_wp2
    go_ret
    obtain ⟨a2, cap2, hv, hr⟩ := HR
    refine ⟨a2, cap2, _, ?_, HF.out.trans (by rw [hse]), hr, hb2⟩
    rw [<- hv]; simp
 ·have h0e : s.toList.isEmpty = false := by
   rw [ByteArray.toList_eq]
   cases hl : s.data.toList with
   | nil => exact absurd (z3a (b := ⟨#[]⟩) (by rw [hl])) h0
   | cons => rfl
  have h0l : s.data.toList ≠ [] := fun e => h0 (z3a e)
  cases hl : locB s.data.toList with
  | false =>
   rw [hl] at HL
   have HF := hid (zf3 hl h0l)
   clear hl h0 h0l
   go_enter Tryz.func43, Tryz.ntmps43
   go_wp2_with fail
   refine HL.out.mono ?_
   rintro e w1 ⟨rfl, rfl⟩
   go_wp2
   go_ret
   exact ⟨none, 0, [], rfl, HF.out.symm, ⟨Nat.le_refl _, fun h => absurd rfl h⟩, Below.refl _ _⟩
  | true =>
   rw [hl] at HL
   have HF : Hid (z1c s.data.toList = lists [s] ++ (pre s.data.toList s.size ++ [[]])) := hid (by rw [z8b hl, z2d, if_neg h0l, z1k]; rfl)
   have hs := zb9 hl
   clear hl h0 h0l
   go_enter Tryz.func43, Tryz.ntmps43
   go_wp2_with fail
   refine HL.out.mono ?_
   rintro e w1 ⟨rfl, hw⟩
   rw [hw]
   clear hw
   have hrow0 : (w.alloc (.cells #[] 9)).ownsRow w.heap.size 9 1 (.slice (some ⟨w.heap.size, 0, none⟩) 0 0) 0 [] := World.ownsRow_made w #[] 0 (Nat.le_refl _) (by unfold maxLen; omega) rfl
   have hB0 := z02 w (.cells #[] 9)
   clear HL
   go_wp2_with (at_builtin; refine wpList_append_own _ rfl _ _ 67 rfl w.heap.size 9 i0 (.string ByteArray.empty) 1 16 Tryz.underlying67 hi hz0 hz1 hz2 rfl (by decide) _ _ _ rfl (hrow0.alloc _) ⟨w.heap.size + 1, 0, none⟩ 1 1 [.string s] rfl rfl (zbx _ _ _ _) (by simp [Value.oneCell']) (by unfold maxLen; omega) (by omega) (by have := hB0.size; simp; omega) ?_; intro v' w2 hown' hgrow _; obtain ⟨g', cap', rfl⟩ := z17 hown')
   have HB1 : Hid (Below w.heap.size w w2) := hid ((hB0.alloc hB0.size _).grown hgrow (by have := hB0.size; simp; omega) (fun k e => (hrow0.lt k e).1))
   have HO1 : Hid (w2.ownsRow w.heap.size 9 1 (.slice (some ⟨g', 0, none⟩) 1 cap') 1 (strs [s])) := hid (by simpa [strs] using hown')
   clear hown' hgrow hrow0 hB0
   go_wp2
   go_loopw [3, 4] (fun v i wr => ∃ (xs : List ByteArray) (a : Option Addr) (cap k : Nat) (I : Int), v = .slice a xs.length cap /\ i = .int .i64 I /\ I + 1 = (k : Int) /\ k <= s.size /\ xs.length + k <= 33 /\ Hid (wr.ownsRow w.heap.size 9 1 v xs.length (strs xs)) /\ Hid (Below w.heap.size w wr) /\ Hid (z1c s.data.toList = lists xs ++ (pre s.data.toList k ++ [[]]))) (fun _ i _ => (intOf i).toNat)
   case atStart => exact ⟨[s], _, _, s.size, (s.size : Int) - 1, rfl, by go_num, by omega, Nat.le_refl _, by simp; omega, HO1, HB1, HF⟩
   case round =>
    clear HF HO1 HB1
    obtain ⟨xs, a, cap, k, I, rfl, rfl, hI, hk, hn, HO, HB, HQ⟩ := hrel
    have hrow := HO.out
    have hB := HB.out
    by_cases h2 : 0 < I
    ·obtain ⟨q, rfl⟩ : ∃ q, k = q + 2 := ⟨k - 2, by omega⟩
     obtain rfl : I = ((q + 1 : Nat) : Int) := by omega
     have hlt : q + 1 < s.size := by omega
     have hlt2 : q + 1 < s.data.size := hlt
     have hat := z45 s (q + 1) hlt
     have hz : s.data.size = s.size := rfl
     by_cases h45 : s[q + 1] = 45
     ·have hBB : ((s[q + 1].toNat : Int) == 45) = true := by rw [h45]; rfl
      have HP : Hid (pre s.data.toList (q + 2) = s.data.toList.take (q + 1) :: pre s.data.toList (q + 1)) := hid (by
       rw [pre, if_pos ⟨by omega, by rw [hat, h45]⟩])
      clear hat h45 HO HB
      go_wp2_with (at_builtin; refine wpList_append_own _ rfl _ _ 67 rfl w.heap.size 9 i0 (.string ByteArray.empty) 1 16 Tryz.underlying67 hi hz0 hz1 hz2 rfl (by decide) _ _ _ rfl (hrow.alloc _) ⟨wr.heap.size, 0, none⟩ 1 1 [.string (s.extract 0 (q + 1))] rfl rfl (cell_one_new _ _ _) (by simp [Value.oneCell']) (by unfold maxLen; omega) (by omega) (by have := hB.size; simp; omega) ?_; intro v' w2 hown' hgrow _; obtain ⟨g', cap', rfl⟩ := z17 hown')
      have hb2 : Below w.heap.size w w2 := (hB.alloc hB.size _).grown hgrow (by have := hB.size; simp; omega) (fun k e => (hrow.lt k e).1)
      have HO2 : Hid (w2.ownsRow w.heap.size 9 1 (.slice (some ⟨g', 0, none⟩) (xs ++ [s.extract 0 (q + 1)]).length cap') (xs ++ [s.extract 0 (q + 1)]).length (strs (xs ++ [s.extract 0 (q + 1)]))) := hid (by simpa [strs] using hown')
      have HB2 := hid hb2
      have HQ2 : Hid (z1c s.data.toList = lists (xs ++ [s.extract 0 (q + 1)]) ++ (pre s.data.toList (q + 1) ++ [[]])) := hid (by rw [HQ.out, HP.out, lists, lists, List.map_append, List.map_singleton, z36]; simp)
      clear hown' hgrow hrow hB HQ hb2 HP
      go_wp2
      refine ⟨⟨xs ++ [s.extract 0 (q + 1)], some ⟨g', 0, none⟩, cap', q + 1, (q : Int), by simp, by go_num, by omega, by omega, by simp; omega, by simpa using HO2, HB2, HQ2⟩, ?_⟩
      all_goals simp [intOf]
     ·have hBB : ((s[q + 1].toNat : Int) == 45) = false := by
       have := z3d (n := 45) 45 rfl h45
       simpa [bne] using this
      have HP : Hid (z1c s.data.toList = lists xs ++ (pre s.data.toList (q + 1) ++ [[]])) := hid (by
       have e : pre s.data.toList (q + 2) = pre s.data.toList (q + 1) := by
        rw [pre, if_neg (fun e => h45 (by rw [hat] at e; exact Option.some.inj e.2))]
       rw [<- e]; exact HQ.out)
      clear hat h45 HQ hrow hB
      go_wp2
      refine ⟨⟨xs, a, cap, q + 1, (q : Int), by simp, by go_num, by omega, by omega, by omega, HO, HB, HP⟩, ?_⟩
      all_goals simp [intOf]
    ·have HP : Hid (pre s.data.toList k = []) := hid (by
      rcases (show k = 0 ∨ k = 1 by omega) with rfl | rfl
      ·rfl
      ·rw [pre, if_neg (by omega)]; rfl)
     clear HO HB
     go_wp2_with (at_builtin; refine wpList_append_own _ rfl _ _ 67 rfl w.heap.size 9 i0 (.string ByteArray.empty) 1 16 Tryz.underlying67 hi hz0 hz1 hz2 rfl (by decide) _ _ _ rfl (hrow.alloc _) ⟨wr.heap.size, 0, none⟩ 1 1 [.string ⟨#[]⟩] rfl rfl (cell_one_new _ _ _) (by simp [Value.oneCell']) (by unfold maxLen; omega) (by omega) (by have := hB.size; simp; omega) ?_; intro v' w2 hown' hgrow _; obtain ⟨g', cap', rfl⟩ := z17 hown')
     have hb2 : Below w.heap.size w w2 := (hB.alloc hB.size _).grown hgrow (by have := hB.size; simp; omega) (fun k e => (hrow.lt k e).1)
     have HR := z2g (xs := xs ++ [⟨#[]⟩]) (by simpa [strs] using hown')
     have HF : Hid (lists (xs ++ [⟨#[]⟩]) = z1c s.data.toList) := hid (by rw [HQ.out, HP.out, lists, List.map_append]; rfl)
     clear hgrow hrow hB HQ hown'
     go_wp2
     go_ret
     obtain ⟨a2, cap2, hv, hr⟩ := HR
     refine ⟨a2, cap2, _, ?_, HF.out, hr, hb2⟩
     rw [<- hv]; simp
end Go.Proofs.YtdnedbcmgkilaaaGreatDoor.Lc

end

section

namespace Go.Proofs.YtdnedbcmgkilaaaGreatDoor.Ca
set_option maxHeartbeats 6400000
set_option maxRecDepth 100000
open Go.Lib (hid)
open Go.RowKit Go.Proofs.YtdnedbcmgkilaaaGreatDoor
theorem zau (w : World) (a : Option Addr) (cap : Nat) (xs : List Ent) (loc key : BA) (hX : SlE w (Old w) (.slice a xs.length cap) xs) (hF : ∀ x, x ∈ xs -> FitE x) (hE : EnvC w) (hs : loc.size <= 140737488351232) :
  Calls Tryz.prog 21 #[.slice a xs.length cap, .string loc, .string key] w (FindQ (findR xs loc key) w) := by
 have hb0 := z02 w (.cells (enC noE) 38)
 have HB0 := hid hb0
 have HR := hid (z49 (w.alloc (.cells (enC noE) 38)) a cap xs (hX.old hb0) hF (hE.below hb0))
 have r0 := z04 w (enC noE) 38
 have HR0 := hid r0
 obtain ⟨q, HQ⟩ : ∃ q, Hid (q = z0n xs) := ⟨_, hid rfl⟩
 rw [<- HQ.out] at HR
 by_cases h0 : q = 0
 ·have HQ0 : Hid (z0n xs = 0) := hid (by rw [<- HQ.out]; exact h0)
  have HRG : Hid (Rgt xs) := hid (z5a.1 HQ0.out)
  subst h0
  have HX := hid hX
  have HCH := hid (fun W => Lc.zfo loc W hs)
  obtain ⟨L, HL⟩ : ∃ L, Hid (L = xs.length) := ⟨_, hid rfl⟩
  have hL2 : L <= 9223372036854775807 := by have := HL.out; have := HRG.out.len; omega
  rw [<- HL.out] at HR HX ⊢
  clear hX hF hE r0 hb0 hs
  go_enter Tryz.func21, Tryz.ntmps21
  go_wp2_with fail
  refine HR.out.mono ?_
  rintro e w1 ⟨rfl, hb1⟩
  have HR1 := hid (HR0.out.below hb1)
  have HB1 := hid (z00 HB0.out hb1)
  have HCH1 := hid (HCH.out w1)
  clear hb1 HR HB0 HR0 HCH
  go_wp2_with fail
  refine HCH1.out.mono ?_
  rintro e w4 ⟨ca, cc, ch, rfl, hch, hrd, hb4⟩
  obtain rfl := zf4 hch
  have HR4 := hid (HR1.out.below hb4)
  have HB4 := hid (z00 HB1.out hb4)
  have HRD := hid hrd
  obtain ⟨M, HM⟩ : ∃ M, Hid (M = (z1d loc).length) := ⟨_, hid rfl⟩
  rw [<- HM.out]
  have hML : M <= 9223372036854775807 := by
   have := zbw loc
   have := HM.out
   omega
  clear hch hrd hb4 HR1 HB1 HCH1
  go_wp2
  go_loopw [10, 11, 21] (fun v10 v11 i wr => ∃ k : Nat, k <= M /\ i = .int .i64 k /\ Hid (Below w4.heap.size w4 wr) /\ Hid (findL xs key ((z1d loc).drop k) = findL xs key (z1d loc))) (fun _ _ i _ => M - (intOf i).toNat)
  case atStart => exact ⟨0, Nat.zero_le _, rfl, hid (Below.refl _ _), hid (by rw [List.drop_zero])⟩
  case round =>
   obtain ⟨k, hk, rfl, HB, HFR⟩ := hrel
   have HRr := hid (HR4.out.below HB.out)
   have HBr := hid (z00 HB4.out HB.out)
   have z0 := HRr.out.cell (i := 0) rfl
   have z1 := HRr.out.cell (i := 1) rfl
   have z2 := HRr.out.cell (i := 2) rfl
   by_cases hlt : k < M
   ·have hkl : k < (z1d loc).length := by have := HM.out; omega
    obtain ⟨g, rfl, hg, hcc⟩ := (HRD.out.below HB.out).2 (by intro h; rw [h] at hkl; simp at hkl)
    have x0 := hcc k hkl
    have hdr := List.drop_eq_getElem_cons hkl
    obtain ⟨s, hs⟩ : ∃ s, s = (z1d loc)[k] := ⟨_, rfl⟩
    rw [<- hs] at x0 hdr
    have HST : Hid (findL xs key ((z1d loc).drop k) = match findC xs s key with | some y => some y | none => findL xs key ((z1d loc).drop (k + 1))) := hid (by rw [hdr, findL]; cases findC xs s key <;> rfl)
    have HAT := hid (at_any wr a cap xs s key (HX.out.old HBr.out |> fun h => by rw [<- HL.out]; exact h))
    rw [<- HL.out] at HAT
    clear hcc hdr hs hkl
    go_wp2_with fail
    refine HAT.out.mono ?_
    rintro e w5 ⟨i, rfl, hi, hb5⟩
    have hbw := z00 HBr.out hb5
    have HB5 := hid (z00 HB.out hb5)
    rcases AtP.yes HRG.out.srt hi with ⟨j, y, rfl, hj, hf⟩ | ⟨rfl, hf⟩
    ·have HFN : Hid (findR xs loc key = .ok y) := hid (z86 HQ0.out (by rw [<- HFR.out, HST.out, hf]))
     have hjl : j < L := by have := (List.getElem?_eq_some_iff.1 hj).1; have := HL.out; omega
     obtain ⟨b, off, rfl, -, x5, x6, x7⟩ := (HX.out.old hbw).get hj
     have HR6 := HRr.out.below hb5
     have t0 := HR6.thaw 0
     have t1 := HR6.thaw 1
     have t2 := HR6.thaw 2
     have e0 := HR6.cell (i := 0) rfl
     have e1 := HR6.cell (i := 1) rfl
     have e2 := HR6.cell (i := 2) rfl
     have R7 := z2n (x := noE) (y := y) HR6
     have f0 := R7.cell (i := 0) rfl
     have f1 := R7.cell (i := 1) rfl
     have f2 := R7.cell (i := 2) rfl
     have HBF := hid (z2o (R := w.heap.size) hbw (Nat.le_refl _) y)
     obtain ⟨yl, yk, yp⟩ := y
     simp only at x5 x6 x7 f0 f1 f2 HBF e0 e1 e2 t0 t1 t2
     clear hb5 R7 HR6 z0 z1 z2 x0 hi hj hf hbw HST HAT
     go_wp2
     exact bodyPost_ret (v := .tuple #[.agg #[.string yl, .string yk, .string yp], .int .i64 0]) (by simp [results, Tryz.results21, go_sem, f0, f1, f2]) rfl (FindQ.yes HFN.out HBF.out)
    ·have HFN : Hid (findL xs key ((z1d loc).drop (k + 1)) = findL xs key (z1d loc)) := hid (by rw [<- HFR.out, HST.out, hf])
     clear hf hi HST HAT z0 z1 z2 hb5 hbw x0
     go_wp2
     go_roundw
     case rel => exact ⟨k + 1, by omega, by go_num, HB5, HFN⟩
     case measure => simp [intOf]; omega
   ·have HFN : Hid (findR xs loc key = .error 60) := hid (z87 HQ0.out (by rw [<- HFR.out, List.drop_of_length_le (by have := HM.out; omega), findL]))
    have t0 := HRr.out.thaw 0
    have t1 := HRr.out.thaw 1
    have t2 := HRr.out.thaw 2
    have R7 := z2n (x := noE) (y := noE) HRr.out
    have f0 := R7.cell (i := 0) rfl
    have f1 := R7.cell (i := 1) rfl
    have f2 := R7.cell (i := 2) rfl
    have HBF := hid (z2o (R := w.heap.size) HBr.out (Nat.le_refl _) noE)
    clear R7
    go_wp2
    exact bodyPost_ret (v := .tuple #[.agg #[.string ⟨#[]⟩, .string ⟨#[]⟩, .string ⟨#[]⟩], .int .i64 60]) (by simp [results, Tryz.results21, go_sem, f0, f1, f2]) rfl (FindQ.no HFN.out HBF.out)
 ·have HA : Hid (findR xs loc key = .error q) := hid (by rw [zbn (by rw [<- HQ.out]; exact h0), HQ.out])
  have hqb := ne0 h0
  clear hX hF hE h0 r0 hb0
  generalize xs.length = L at *
  go_enter Tryz.func21, Tryz.ntmps21
  go_wp2_with fail
  refine HR.out.mono ?_
  rintro e w1 ⟨rfl, hb1⟩
  have HR1 := HR0.out.below hb1
  have HB := hid (z00 HB0.out hb1)
  have z0 := HR1.cell (i := 0) rfl
  have z1 := HR1.cell (i := 1) rfl
  have z2 := HR1.cell (i := 2) rfl
  have t0 := HR1.thaw 0
  have t1 := HR1.thaw 1
  have t2 := HR1.thaw 2
  have R7 := z2n (x := noE) (y := noE) HR1
  have f0 := R7.cell (i := 0) rfl
  have f1 := R7.cell (i := 1) rfl
  have f2 := R7.cell (i := 2) rfl
  have HBF := hid (z2o (R := w.heap.size) HB.out (Nat.le_refl _) noE)
  clear hb1 R7 HR1
  go_wp2
  exact bodyPost_ret (v := .tuple #[.agg #[.string ⟨#[]⟩, .string ⟨#[]⟩, .string ⟨#[]⟩], .int .i64 q]) (by simp [results, Tryz.results21, go_sem, f0, f1, f2]) rfl (FindQ.no HA.out HBF.out)
end Go.Proofs.YtdnedbcmgkilaaaGreatDoor.Ca

end

section

namespace Go.Proofs.YtdnedbcmgkilaaaGreatDoor
set_option maxHeartbeats 3200000
set_option maxRecDepth 100000
open Go.Lib (hid)
open Go.RowKit
theorem right_ok {xs : List Pt} (h : z0k xs = 0) : okPs false false xs = true := by
 unfold z0k at h
 split at h
 ·cases h
 ·split at h
  ·cases h
  ·split at h
   ·assumption
   ·cases h
theorem zcm (n : Nat) (w : World) (a : Option Addr) (cap : Nat) (xs : List Pt) (lang : BA) (b : Option Addr) (capb : Nat) (gs : List Argm) (hxs : SlP w (Old w) n (.slice a xs.length cap) xs) (hc : cntPs xs <= 2000) (hd : dpPs xs <= 32) (hsm : smPs 140737488351232 xs) (hst : stPs 140737488351232 xs) (hE : EnvW w)
  (has : SlA w (Old w) (.slice b gs.length capb) gs) (hsz : ∀ (k : Nat) x, gs[k]? = some x -> x.nm.size <= 140737488351232 /\ x.s.size <= 140737488351232) (hgb : ArgB gs) :
  Calls Tryz.prog 48 #[.slice a xs.length cap, .string lang, .slice b gs.length capb] w fun e w' => FmtE lang gs n xs e /\ Below w.heap.size w w' := by
 have HR := hid (Dr.z49 n w a cap xs hxs hc hd hsm)
 have HA := hid (fun W (hb : Below w.heap.size w W) => zh1 W b capb gs (has.old hb) hsz)
 have HV := hid (fun W (hb : Below w.heap.size w W) (hr : z0k xs = 0) (ho : ArgsOK gs) => sayK_all n false lang b capb gs 0 xs a cap ⟨#[]⟩ W (by omega) (by omega) (hxs.old hb) (has.old hb) hgb ho (right_ok hr) hst (hE.below hb) (by decide))
 obtain ⟨q, HQ⟩ : ∃ q, Hid (q = z0k xs) := ⟨_, hid rfl⟩
 rw [<- HQ.out] at HR
 have hq : q <= 91 := by
  rw [HQ.out]; unfold z0k
  split
  ·omega
  ·split
   ·omega
   ·split <;> omega
 clear hxs hc hd hsm hE has hsz hgb hst
 generalize hlx : xs.length = nx at *
 generalize hlg : gs.length = na at *
 clear hlx hlg
 by_cases h0 : q = 0
 ·have HQ0 : Hid (z0k xs = 0) := hid (by rw [<- HQ.out]; exact h0)
  subst h0
  go_enter Tryz.func48, Tryz.ntmps48
  go_wp2_with fail
  refine HR.out.mono ?_
  rintro e w1 ⟨rfl, hb1⟩
  have HB1 := hid hb1
  clear hb1 HR
  go_wp2_with fail
  refine (HA.out w1 HB1.out).mono ?_
  rintro e w2 ⟨z, rfl, hz, hb2⟩
  have HB2 := hid (z00 HB1.out hb2)
  have HZ := hid hz
  clear hb2 HA HB1 hz
  cases z with
  | false =>
   have HNO : Hid (¬ ArgsOK gs) := hid (fun h => by have := HZ.out.2 h; cases this)
   go_wp2
   exact bodyPost_ret (v := .tuple #[.string ⟨#[]⟩, .int .i64 1]) (by simp [results, Tryz.results48, go_sem]) rfl ⟨.inr (.inl ⟨HQ0.out, HNO.out, rfl⟩), HB2.out⟩
  | true =>
   have HOK := hid (HZ.out.1 rfl)
   go_wp2_with fail
   refine (HV.out w2 HB2.out HQ0.out HOK.out).mono ?_
   rintro e w3 ⟨he, hb3⟩
   have HB3 := hid (z00 HB2.out hb3)
   clear hb3 HV HB2
   obtain ⟨r, HRR⟩ : ∃ r, Hid (r = evPs lang gs n 0 xs []) := ⟨_, hid rfl⟩
   change EvE (evPs lang gs n 0 xs []) e at he
   rw [<- HRR.out] at he
   cases r with
   | ok o =>
    obtain rfl : e = .returned (.tuple #[.string ⟨o.toArray⟩, .int .i64 0]) := he
    go_wp2
    exact bodyPost_ret (v := .tuple #[.string ⟨o.toArray⟩, .int .i64 0]) (by simp [results, Tryz.results48, go_sem]) rfl ⟨.inr (.inr ⟨HQ0.out, HOK.out, by rw [<- HRR.out]; rfl⟩), HB3.out⟩
   | error k =>
    obtain rfl : e = .returned (.tuple #[.string ⟨#[]⟩, .int .i64 k]) := he
    go_wp2
    exact bodyPost_ret (v := .tuple #[.string ⟨#[]⟩, .int .i64 k]) (by simp [results, Tryz.results48, go_sem]) rfl ⟨.inr (.inr ⟨HQ0.out, HOK.out, by rw [<- HRR.out]; rfl⟩), HB3.out⟩
 ·have HQ0 : Hid (z0k xs ≠ 0) := hid (by rw [<- HQ.out]; exact h0)
  have hqb : ((q : Int) != 0) = true := by rw [bne_iff_ne]; omega
  go_enter Tryz.func48, Tryz.ntmps48
  go_wp2_with fail
  refine HR.out.mono ?_
  rintro e w1 ⟨rfl, hb1⟩
  have HB1 := hid hb1
  clear hb1 HR
  go_wp2
  exact bodyPost_ret (v := .tuple #[.string ⟨#[]⟩, .int .i64 q]) (by simp [results, Tryz.results48, go_sem]) rfl ⟨.inl ⟨HQ0.out, by rw [HQ.out]⟩, HB1.out⟩
theorem fmtE_one {g : BA} {gs : List Argm} {n : Nat} {xs : List Pt} {e e' : Ending} (h : FmtE g gs n xs e) (h' : FmtE g gs n xs e') : e = e' := by
 rcases h with ⟨h1, h2⟩ | ⟨h1, h2, h3⟩ | ⟨h1, h2, h3⟩ <;> rcases h' with ⟨k1, k2⟩ | ⟨k1, k2, k3⟩ | ⟨k1, k2, k3⟩
 ·rw [h2, k2]
 ·exact absurd k1 h1
 ·exact absurd k1 h1
 ·exact absurd h1 k1
 ·rw [h3, k3]
 ·exact absurd k2 h2
 ·exact absurd h1 k1
 ·exact absurd h2 k2
 ·unfold EvE at h3 k3
  cases hr : evPs g gs n 0 xs [] with
  | ok o => rw [hr] at h3 k3; rw [h3, k3]
  | error q => rw [hr] at h3 k3; rw [h3, k3]
end Go.Proofs.YtdnedbcmgkilaaaGreatDoor

end

section

namespace Go.Proofs.YtdnedbcmgkilaaaGreatDoor.Ca
set_option maxHeartbeats 6400000
set_option maxRecDepth 100000
open Go.Lib (hid)
open Go.RowKit Go.Proofs.YtdnedbcmgkilaaaGreatDoor
def SayQ (r : AnsE) (gs : List Argm) (w : World) (e : Ending) (w' : World) : Prop := Below w.heap.size w w' /\ match r with
 | .error k => e = .returned (.tuple #[.string ⟨#[]⟩, .int .i64 k])
 | .ok y => FmtE (Lc.langS y.loc) gs 40 (z03 y.pat.data.toList).1 e
theorem SayQ.no {r : AnsE} {gs : List Argm} {w w' : World} {k : Nat} (h : r = .error k) (hb : Below w.heap.size w w') : SayQ r gs w (.returned (.tuple #[.string ⟨#[]⟩, .int .i64 k])) w' := ⟨hb, by rw [h]⟩
theorem SayQ.one {r : AnsE} {gs : List Argm} {w w1 w2 w3 : World} {e e' : Ending} (h : SayQ r gs w e w1) (h' : SayQ r gs w2 e' w3) : e = e' := by
 have k := h.2
 have k' := h'.2
 cases r with
 | error j => simp only at k k'; rw [k, k']
 | ok y => exact fmtE_one k k'
structure SmP (xs : List Pt) : Prop where
 cnt : cntPs xs <= 2000
 dp : dpPs xs <= 32
 sm : smPs 140737488351232 xs
 st : stPs 140737488351232 xs
theorem smp_of (l : List UInt8) (h : (z03 l).2.1 = 0) : SmP (z03 l).1 := by
 unfold z03 at h ⊢
 split at h
 ·cases h
 ·rename_i hl
  split at h
  ·rename_i h2; exact absurd h h2
  ·split at h
   ·rename_i h3
    exact absurd h h3
   ·rename_i h2 h3
    rw [if_neg hl, if_neg h2, if_neg h3]
    have h2' : (endF l (readF l).2).2 = 0 := by simpa using h2
    have he := (z9q h2').1
    refine ⟨?_, zj3 he, zcd (by omega), st_read (by omega)⟩
    have := z9v he
    simp only
    omega
theorem findL_in {l : List Ent} {key : BA} {a : List BA} {e : Ent} (h : findL l key a = some e) : e ∈ l := by
 obtain ⟨s, -, -, -, h4⟩ := zbo h
 exact h4
theorem zbl {l : List Ent} {loc key : BA} {y : Ent} (h : findR l loc key = .ok y) : mayB y = true := by
 unfold findR at h
 split at h
 ·cases h
 ·rename_i hr
  have hr0 : z0n l = 0 := by simpa using hr
  split at h
  ·rename_i z hz
   cases h
   exact (z5a.1 hr0).may _ (findL_in hz)
  ·cases h
theorem zbm {l : List Ent} {loc key : BA} {k : Nat} (h : findR l loc key = .error k) : k ≠ 0 := by
 unfold findR at h
 split at h
 ·rename_i hr; cases h; exact hr
 ·split at h
  ·cases h
  ·cases h; decide
theorem may_loc {y : Ent} (h : mayB y = true) : y.loc.size <= 32 := by
 unfold mayB locOK at h
 simp only [Bool.and_eq_true, Bool.or_eq_true] at h
 have hl : y.loc.data.toList.length = y.loc.size := by simp
 rcases h.1.1 with h | h
 ·have h2 : y.loc.data.toList = [] := by simpa using h
  rw [h2] at hl; simp at hl; omega
 ·unfold Lc.locB at h
  simp only [Bool.and_eq_true, decide_eq_true_eq] at h
  have := h.1
  omega
theorem zhu {y : Ent} (h : mayB y = true) : (z03 y.pat.data.toList).2.1 = 0 := by
 unfold mayB at h
 simp only [Bool.and_eq_true] at h
 have := h.2
 unfold patB at this
 simpa using this
theorem z7b {g : BA} {gs : List Argm} {n : Nat} {xs : List Pt} {e : Ending} (h : FmtE g gs n xs e) : ∃ (s : BA) (k : Int), e = .returned (.tuple #[.string s, .int .i64 k]) := by
 rcases h with ⟨-, rfl⟩ | ⟨-, -, rfl⟩ | ⟨-, -, h⟩
 ·exact ⟨_, _, rfl⟩
 ·exact ⟨_, _, rfl⟩
 ·unfold EvE at h
  split at h
  ·exact ⟨_, 0, h⟩
  ·exact ⟨_, _, h⟩
theorem say_any (w : World) (a : Option Addr) (cap : Nat) (xs : List Ent) (loc key : BA) (b : Option Addr) (capb : Nat) (gs : List Argm) (hX : SlE w (Old w) (.slice a xs.length cap) xs) (hF : ∀ x, x ∈ xs -> FitE x) (hE : EnvC w)
  (hA : SlA w (Old w) (.slice b gs.length capb) gs) (hG : ∀ (k : Nat) x, gs[k]? = some x -> (-9223372036854775808 <= x.n /\ x.n <= 9223372036854775807) /\ x.nm.size <= 140737488351232 /\ x.s.size <= 140737488351232) :
  Calls Tryz.prog 22 #[.slice a xs.length cap, .string loc, .string key, .slice b gs.length capb] w (SayQ (findR xs loc key) gs w) := by
 have HFI := hid (zbp w a cap xs loc key hX hF hE)
 have HE := hid hE
 have HA := hid hA
 have HG := hid hG
 clear hX hF hE hA hG
 obtain ⟨r, HR⟩ : ∃ r, Hid (r = findR xs loc key) := ⟨_, hid rfl⟩
 rw [<- HR.out] at HFI ⊢
 generalize xs.length = L at *
 obtain ⟨ln, HLN⟩ : ∃ ln, Hid (ln = gs.length) := ⟨_, hid rfl⟩
 rw [<- HLN.out]
 cases r with
 | error k =>
  have hkb := ne0 (zbm HR.out.symm)
  go_enter Tryz.func22, Tryz.ntmps22
  go_wp2_with fail
  refine HFI.out.mono ?_
  rintro e w1 ⟨hb1, rfl⟩
  have HB1 := hid (z00 hb1 (z02 w1 (.cells (enC noE) 38)))
  clear hb1
  go_wp2
  go_ret2
  exact SayQ.no rfl HB1.out
 | ok y =>
  have HMY := hid (zbl HR.out.symm)
  have HSP := hid (smp_of _ (zhu HMY.out))
  obtain ⟨yl, yk, yp⟩ := y
  obtain ⟨xp, HXP⟩ : ∃ xp, Hid (xp = (z03 yp.data.toList)) := ⟨_, hid rfl⟩
  simp only at HSP
  rw [<- HXP.out] at HSP
  have HFY : Hid (∀ e w', Below w.heap.size w w' -> FmtE (Lc.langS yl) gs 40 xp.1 e -> SayQ (.ok ⟨yl, yk, yp⟩) gs w e w') := hid (fun e w' hb hf => ⟨hb, by show FmtE (Lc.langS yl) gs 40 (z03 yp.data.toList).1 e; rw [<- HXP.out]; exact hf⟩)
  have HPA : Hid (∀ W, EnvC W -> Calls Tryz.prog 44 #[.string yp] W fun e w' => (∃ a cap n, e = .returned (.tuple #[.slice a xp.1.length cap, .int .i64 xp.2.1, .int .i64 xp.2.2]) /\ SlP w' (Fsh W.heap.size w') n (.slice a xp.1.length cap) xp.1) /\ Below W.heap.size W w') := hid (fun W hE => by
   have h := z5e yp W hE.env
   skip
   rw [<- HXP.out] at h
   exact h)
  have HLA : Hid (∀ W, EnvC W -> Calls Tryz.prog 46 #[.string yl] W fun e w' => e = .returned (.string (Lc.langS yl)) /\ Below W.heap.size W w') := hid (fun W hE => by obtain ⟨-, m, hm⟩ := hE; exact Lc.lang_any yl m W hm)
  go_enter Tryz.func22, Tryz.ntmps22
  go_wp2_with fail
  refine HFI.out.mono ?_
  rintro e w1 ⟨hb1, rfl⟩
  have R := z04 w1 #[.string yl, .string yk, .string yp] 38
  have c0 := R.cell (i := 0) rfl
  have c2 := R.cell (i := 2) rfl
  have HR1 := hid R
  have HB1 := hid (z00 hb1 (z02 w1 (.cells #[.string yl, .string yk, .string yp] 38)))
  have HE1 := hid (HE.out.below HB1.out)
  have HP1 := hid (HPA.out _ HE1.out)
  obtain ⟨h1, HH1⟩ : ∃ h, Hid (h = w1.heap.size) := ⟨_, hid rfl⟩
  clear hb1 R HFI HPA
  rw [<- HH1.out] at HR1 c0 c2
  go_wp2_with fail
  rw [<- HH1.out]
  generalize w1.alloc (.cells #[.string yl, .string yk, .string yp] 38) = w2 at *
  refine HP1.out.mono ?_
  rintro e w3 ⟨⟨pa, pc, n, rfl, hs3⟩, hb3⟩
  have HB3 := hid (z00 HB1.out hb3)
  have HS3 : Hid (SlP w3 (Old w3) (max n 40) (.slice pa xp.1.length pc) xp.1) := hid ((SlP.keep hs3 (fun _ _ => rfl) (fun _ hb => hb.2)).le (Nat.le_max_left _ _))
  have d0 := (HR1.out.below hb3).cell (i := 0) rfl
  have HL3 := hid (HLA.out w3 (HE.out.below HB3.out))
  obtain ⟨xps, xe, xat⟩ := xp
  simp only at HS3 HSP HFY ⊢
  obtain ⟨lp, HLP⟩ : ∃ lp, Hid (lp = xps.length) := ⟨_, hid rfl⟩
  rw [<- HLP.out]
  clear hb3 hs3 HP1 HLA c0 c2
  go_wp2_with fail
  refine HL3.out.mono ?_
  rintro e w4 ⟨rfl, hb4⟩
  have HB4 := hid (z00 HB3.out hb4)
  have HS4 := hid (SlP.old HS3.out hb4)
  have HFM := hid (zfw (max n 40) w4 pa pc xps (Lc.langS yl) b capb gs HS4.out HSP.out.cnt HSP.out.sm HSP.out.st (HE.out.below HB4.out).env (HA.out.old HB4.out) (fun k x hx => (HG.out k x hx).2.1) (fun k x hx => ⟨(HG.out k x hx).1.1, (HG.out k x hx).1.2, (HG.out k x hx).2.2⟩))
  rw [<- HLP.out, <- HLN.out] at HFM
  clear hb4 HL3 d0
  generalize Lc.langS yl = lang at *
  go_wp2_with fail
  refine HFM.out.mono ?_
  rintro e w5 ⟨hf5, hb5⟩
  have HB5 := hid (z00 HB4.out hb5)
  have HFQ := hid (HFY.out _ _ HB5.out (z84 (Nat.lt_of_le_of_lt HSP.out.dp (Nat.lt_of_lt_of_le (by decide) (Nat.le_max_right n 40))) (Nat.lt_of_le_of_lt HSP.out.dp (by decide)) hf5))
  obtain ⟨s5, q5, he5⟩ := z7b hf5
  subst he5
  clear hf5 hb5 HFM HFY
  go_wp2
  go_ret2
  exact HFQ.out
end Go.Proofs.YtdnedbcmgkilaaaGreatDoor.Ca

end

section

namespace Go.Proofs.YtdnedbcmgkilaaaGreatDoor.Ca
set_option maxHeartbeats 6400000
set_option maxRecDepth 100000
open Go.Lib (hid)
open Go.RowKit Go.Proofs.YtdnedbcmgkilaaaGreatDoor
theorem rsay_any (w : World) (a : Option Addr) (cap : Nat) (xs : List Ent) (loc key : BA) (b : Option Addr) (capb : Nat) (gs : List Argm) (hX : SlE w (Old w) (.slice a xs.length cap) xs) (hF : ∀ x, x ∈ xs -> FitE x) (hE : EnvC w) (hs : loc.size <= 140737488351232)
  (hA : SlA w (Old w) (.slice b gs.length capb) gs) (hG : ∀ (k : Nat) x, gs[k]? = some x -> (-9223372036854775808 <= x.n /\ x.n <= 9223372036854775807) /\ x.nm.size <= 140737488351232 /\ x.s.size <= 140737488351232) :
  Calls Tryz.prog 23 #[.slice a xs.length cap, .string loc, .string key, .slice b gs.length capb] w (SayQ (findR xs loc key) gs w) := by
 have HFI := hid (zau w a cap xs loc key hX hF hE hs)
 have HE := hid hE
 have HA := hid hA
 have HG := hid hG
 clear hX hF hE hA hG hs
 obtain ⟨r, HR⟩ : ∃ r, Hid (r = findR xs loc key) := ⟨_, hid rfl⟩
 rw [<- HR.out] at HFI ⊢
 generalize xs.length = L at *
 obtain ⟨ln, HLN⟩ : ∃ ln, Hid (ln = gs.length) := ⟨_, hid rfl⟩
 rw [<- HLN.out]
 cases r with
 | error k =>
  have hkb := ne0 (zbm HR.out.symm)
  go_enter Tryz.func23, Tryz.ntmps23
  go_wp2_with fail
  refine HFI.out.mono ?_
  rintro e w1 ⟨hb1, rfl⟩
  have HB1 := hid (z00 hb1 (z02 w1 (.cells (enC noE) 38)))
  clear hb1
  go_wp2
  go_ret2
  exact SayQ.no rfl HB1.out
 | ok y =>
  have HMY := hid (zbl HR.out.symm)
  have HSP := hid (smp_of _ (zhu HMY.out))
  obtain ⟨yl, yk, yp⟩ := y
  obtain ⟨xp, HXP⟩ : ∃ xp, Hid (xp = (z03 yp.data.toList)) := ⟨_, hid rfl⟩
  simp only at HSP
  rw [<- HXP.out] at HSP
  have HFY : Hid (∀ e w', Below w.heap.size w w' -> FmtE (Lc.langS yl) gs 40 xp.1 e -> SayQ (.ok ⟨yl, yk, yp⟩) gs w e w') := hid (fun e w' hb hf => ⟨hb, by show FmtE (Lc.langS yl) gs 40 (z03 yp.data.toList).1 e; rw [<- HXP.out]; exact hf⟩)
  have HPA : Hid (∀ W, EnvC W -> Calls Tryz.prog 47 #[.string yp] W fun e w' => (∃ a cap n, e = .returned (.tuple #[.slice a xp.1.length cap, .int .i64 xp.2.1, .int .i64 xp.2.2]) /\ SlP w' (Fsh W.heap.size w') n (.slice a xp.1.length cap) xp.1) /\ Below W.heap.size W w') := hid (fun W hE => by
   have h := Dr.z7u yp W
   rw [zbt] at h
   rw [<- HXP.out] at h
   exact h)
  have HLA : Hid (∀ W, EnvC W -> Calls Tryz.prog 49 #[.string yl] W fun e w' => e = .returned (.string (Lc.langS yl)) /\ Below W.heap.size W w') := hid (fun W hE => (Lc.zgw yl W (by have := may_loc HMY.out; simp only at this; omega)).mono fun e w' ⟨h1, h2⟩ => ⟨h1, by rw [h2]; exact Below.refl _ _⟩)
  go_enter Tryz.func23, Tryz.ntmps23
  go_wp2_with fail
  refine HFI.out.mono ?_
  rintro e w1 ⟨hb1, rfl⟩
  have R := z04 w1 #[.string yl, .string yk, .string yp] 38
  have c0 := R.cell (i := 0) rfl
  have c2 := R.cell (i := 2) rfl
  have HR1 := hid R
  have HB1 := hid (z00 hb1 (z02 w1 (.cells #[.string yl, .string yk, .string yp] 38)))
  have HE1 := hid (HE.out.below HB1.out)
  have HP1 := hid (HPA.out _ HE1.out)
  obtain ⟨h1, HH1⟩ : ∃ h, Hid (h = w1.heap.size) := ⟨_, hid rfl⟩
  clear hb1 R HFI HPA
  rw [<- HH1.out] at HR1 c0 c2
  go_wp2_with fail
  rw [<- HH1.out]
  generalize w1.alloc (.cells #[.string yl, .string yk, .string yp] 38) = w2 at *
  refine HP1.out.mono ?_
  rintro e w3 ⟨⟨pa, pc, n, rfl, hs3⟩, hb3⟩
  have HB3 := hid (z00 HB1.out hb3)
  have HS3 : Hid (SlP w3 (Old w3) (max n 40) (.slice pa xp.1.length pc) xp.1) := hid ((SlP.keep hs3 (fun _ _ => rfl) (fun _ hb => hb.2)).le (Nat.le_max_left _ _))
  have d0 := (HR1.out.below hb3).cell (i := 0) rfl
  have HL3 := hid (HLA.out w3 (HE.out.below HB3.out))
  obtain ⟨xps, xe, xat⟩ := xp
  simp only at HS3 HSP HFY ⊢
  obtain ⟨lp, HLP⟩ : ∃ lp, Hid (lp = xps.length) := ⟨_, hid rfl⟩
  rw [<- HLP.out]
  clear hb3 hs3 HP1 HLA c0 c2
  go_wp2_with fail
  refine HL3.out.mono ?_
  rintro e w4 ⟨rfl, hb4⟩
  have HB4 := hid (z00 HB3.out hb4)
  have HS4 := hid (SlP.old HS3.out hb4)
  have HFM := hid (zcm (max n 40) w4 pa pc xps (Lc.langS yl) b capb gs HS4.out HSP.out.cnt HSP.out.dp HSP.out.sm HSP.out.st (HE.out.below HB4.out).env (HA.out.old HB4.out) (fun k x hx => ⟨(HG.out k x hx).2.1, (HG.out k x hx).2.2⟩) (fun k x hx => ⟨(HG.out k x hx).1.1, (HG.out k x hx).1.2, (HG.out k x hx).2.2⟩))
  rw [<- HLP.out, <- HLN.out] at HFM
  clear hb4 HL3 d0
  generalize Lc.langS yl = lang at *
  go_wp2_with fail
  refine HFM.out.mono ?_
  rintro e w5 ⟨hf5, hb5⟩
  have HB5 := hid (z00 HB4.out hb5)
  have HFQ := hid (HFY.out _ _ HB5.out (z84 (Nat.lt_of_le_of_lt HSP.out.dp (Nat.lt_of_lt_of_le (by decide) (Nat.le_max_right n 40))) (Nat.lt_of_le_of_lt HSP.out.dp (by decide)) hf5))
  obtain ⟨s5, q5, he5⟩ := z7b hf5
  subst he5
  clear hf5 hb5 HFM HFY
  go_wp2
  go_ret2
  exact HFQ.out
end Go.Proofs.YtdnedbcmgkilaaaGreatDoor.Ca

end

section

namespace Go.Proofs.YtdnedbcmgkilaaaGreatDoor.Ca
set_option maxHeartbeats 6400000
set_option maxRecDepth 100000
open Go.Lib (hid)
open Go.RowKit Go.Proofs.YtdnedbcmgkilaaaGreatDoor
theorem eqlE (w : World) (a b c : BA) : (binOp .eql 38 (.agg #[.string a, .string b, .string c]) (.agg #[.string a, .string b, .string c])).run Tryz.prog w = .ok (.bool true) w := by
 have hS : Tryz.prog.underlying 38 = some (.struct (Tryz.prog.fieldsOf 38)) := by kernel_rfl
 have hp : Tryz.prog.stoodInHeld 38 = false := by kernel_rfl
 have u9 := Tryz.underlying9
 have a9 := Tryz.isAgg9
 have z9 := Tryz.sizeOf9
 rw [run_eql_struct, show (10000 : Nat) = 9999 + 1 from rfl, run_equalIn_agg w 9999 38 _ _ hS hp]
 simp only [Program.fieldsOf, Tryz.underlying38]
 go_simp
theorem ziv (r : AnsE) : ∃ (y : Ent) (k : Int), ∀ w e w', FindQ r w e w' -> e = .returned (.tuple #[enV y, .int .i64 k]) /\ Below w.heap.size w w' := by
 cases r with
 | ok y => exact ⟨y, 0, fun w e w' h => ⟨h.2, h.1⟩⟩
 | error k => exact ⟨noE, k, fun w e w' h => ⟨h.2, h.1⟩⟩
theorem say_form {r : AnsE} {gs : List Argm} {w w' : World} {e : Ending} (h : SayQ r gs w e w') : ∃ (s : BA) (k : Int), e = .returned (.tuple #[.string s, .int .i64 k]) := by
 have k := h.2
 cases r with
 | error j => exact ⟨_, _, k⟩
 | ok y => exact z7b k
theorem says_any (w : World) (a : Option Addr) (cap : Nat) (xs : List Ent) (loc key : BA) (b : Option Addr) (capb : Nat) (gs : List Argm) (hX : SlE w (Old w) (.slice a xs.length cap) xs) (hF : ∀ x, x ∈ xs -> FitE x) (hs : loc.size <= 140737488351232)
  (hA : SlA w (Old w) (.slice b gs.length capb) gs) (hG : ∀ (k : Nat) x, gs[k]? = some x -> (-9223372036854775808 <= x.n /\ x.n <= 9223372036854775807) /\ x.nm.size <= 140737488351232 /\ x.s.size <= 140737488351232) (hE : EnvC w) :
  Calls Tryz.prog 5 #[.slice a xs.length cap, .string loc, .string key, .slice b gs.length capb] w fun e w' => e = .returned (.bool true) /\ Below w.heap.size w w' := by
 have HFW := hid (few_any w a cap xs hX)
 obtain ⟨L0, HL0⟩ : ∃ L, Hid (L = xs.length) := ⟨_, hid rfl⟩
 rw [<- HL0.out] at HFW ⊢
 have hF' : ∀ x, x ∈ fewF xs -> FitE x := fun x hx => hF x (few_mem hx)
 have HSX : Hid (SlE w (Old w) (.slice a (fewF xs).length cap) (fewF xs) -> ∀ W, Below w.heap.size w W -> (Calls Tryz.prog 20 #[.slice a (fewF xs).length cap, .string loc, .string key] W (FindQ (findR (fewF xs) loc key) W) /\ Calls Tryz.prog 21 #[.slice a (fewF xs).length cap, .string loc, .string key] W (FindQ (findR (fewF xs) loc key) W)) /\
   Calls Tryz.prog 22 #[.slice a (fewF xs).length cap, .string loc, .string key, .slice b gs.length capb] W (SayQ (findR (fewF xs) loc key) gs W) /\ Calls Tryz.prog 23 #[.slice a (fewF xs).length cap, .string loc, .string key, .slice b gs.length capb] W (SayQ (findR (fewF xs) loc key) gs W) /\
   Calls Tryz.prog 12 #[] W fun e w' => e = .returned (.bool true) /\ Below W.heap.size W w') := hid (fun h W hb =>
  ⟨⟨zbp W a cap (fewF xs) loc key (h.old hb) hF' (hE.below hb), zau W a cap (fewF xs) loc key (h.old hb) hF' (hE.below hb) hs⟩, say_any W a cap (fewF xs) loc key b capb gs (h.old hb) hF' (hE.below hb) (hA.old hb) hG, rsay_any W a cap (fewF xs) loc key b capb gs (h.old hb) hF' (hE.below hb) hs (hA.old hb) hG, zjp W (hE.below hb)⟩)
 clear hX hF hF' hE hA hG hs HL0
 generalize findR (fewF xs) loc key = r at *
 generalize fewF xs = ys at *
 obtain ⟨L, HL⟩ : ∃ L, Hid (L = ys.length) := ⟨_, hid rfl⟩
 rw [<- HL.out] at HFW HSX
 obtain ⟨ln, HLN⟩ : ∃ ln, Hid (ln = gs.length) := ⟨_, hid rfl⟩
 rw [<- HLN.out] at HSX ⊢
 obtain ⟨y, k, hfm⟩ := ziv r
 have HFM := hid hfm
 clear hfm
 go_enter Tryz.func5, Tryz.ntmps5
 go_wp2_with fail
 refine HFW.out.mono ?_
 rintro e w1 ⟨rfl, rfl, hX⟩
 have HS := hid (HSX.out hX)
 have H1 := hid (HS.out w (Below.refl _ _)).1.1
 obtain ⟨yl, yk, yp⟩ := y
 clear hX HFW HSX
 go_wp2_with fail
 refine H1.out.mono ?_
 rintro e w2 h2
 obtain ⟨rfl, hb2⟩ := HFM.out _ _ _ h2
 have R := z04 w2 #[.string yl, .string yk, .string yp] 38
 have HR2 := hid R
 have HB2 := hid (z00 hb2 (z02 w2 (.cells #[.string yl, .string yk, .string yp] 38)))
 have H2 := hid (HS.out _ HB2.out).1.2
 obtain ⟨g2, HG2⟩ : ∃ h, Hid (h = w2.heap.size) := ⟨_, hid rfl⟩
 clear h2 hb2 R H1
 rw [<- HG2.out] at HR2
 go_wp2_with fail
 rw [<- HG2.out]
 generalize w2.alloc (.cells #[.string yl, .string yk, .string yp] 38) = w3 at *
 refine H2.out.mono ?_
 rintro e w4 h4
 obtain ⟨rfl, hb4⟩ := HFM.out _ _ _ h4
 have HR4 := hid ((HR2.out.below hb4).below (z02 w4 (.cells #[.string yl, .string yk, .string yp] 38)))
 have HT4 := hid (z04 w4 #[.string yl, .string yk, .string yp] 38)
 have HB4 := hid (z00 HB2.out (z00 hb4 (z02 w4 (.cells #[.string yl, .string yk, .string yp] 38))))
 have H4 := hid (HS.out _ HB4.out).2.1
 obtain ⟨g4, HG4⟩ : ∃ h, Hid (h = w4.heap.size) := ⟨_, hid rfl⟩
 clear h4 hb4 H2 HR2
 rw [<- HG4.out] at HT4
 go_wp2_with fail
 rw [<- HG4.out]
 generalize w4.alloc (.cells #[.string yl, .string yk, .string yp] 38) = w5 at *
 refine H4.out.mono ?_
 rintro e w6 h6
 obtain ⟨s, q, he6⟩ := say_form h6
 subst he6
 have HQ6 := hid h6
 have HB6 := hid (z00 HB4.out h6.1)
 have HR6 := hid (HR4.out.below h6.1)
 have HT6 := hid (HT4.out.below h6.1)
 have H6 := hid (HS.out _ HB6.out).2.2.1
 clear h6 H4 HR4 HT4
 go_wp2_with fail
 refine H6.out.mono ?_
 rintro e w7 h7
 obtain rfl := SayQ.one HQ6.out h7
 have HB7 := hid (z00 HB6.out h7.1)
 have HR7 := hid (HR6.out.below h7.1)
 have HT7 := hid (HT6.out.below h7.1)
 have H7 := hid (HS.out _ HB7.out).2.2.2
 clear h7 H6 HR6 HT6 HQ6
 go_wp2_with fail
 refine H7.out.mono ?_
 rintro e w8 ⟨rfl, hb8⟩
 have HB8 := hid (z00 HB7.out hb8)
 have R8 := HR7.out.below hb8
 have T8 := HT7.out.below hb8
 have c0 := R8.cell (i := 0) rfl
 have c1 := R8.cell (i := 1) rfl
 have c2 := R8.cell (i := 2) rfl
 have d0 := T8.cell (i := 0) rfl
 have d1 := T8.cell (i := 1) rfl
 have d2 := T8.cell (i := 2) rfl
 have heq := eqlE
 have hgd := guard38
 clear hb8 H7 HR7 HT7 R8 T8
 go_wp2
 go_ret
 exact ⟨rfl, HB8.out⟩
end Go.Proofs.YtdnedbcmgkilaaaGreatDoor.Ca

end
