/- Package format: Chain. -/
import Derived.Test.YtdnedbcmgkilaaaGreatDoorZSg2
import Derived.Test.YtdnedbcmgkilaaaGreatDoorZSg7
import Derived.Test.YtdnedbcmgkilaaaGreatDoorZSEal

section

namespace Go.Proofs.YtdnedbcmgkilaaaGreatDoor.Lc
set_option maxHeartbeats 3200000
set_option maxRecDepth 100000
open Go.Lib (hid)
open Go.RowKit Go.Lib
theorem zje (s : ByteArray) (m : Int) (w : World) (hm : MaxW m w) : Calls Tryz.prog 41 #[.string s] w fun e w' => ∃ (a : Option Addr) (cap : Nat) (xs : List ByteArray), e = .returned (.slice a xs.length cap) /\ lists xs = z1c s.data.toList /\ Reads w' a cap xs /\ Below w.heap.size w w' := by
 have HL := hid (z5t s m w hm)
 obtain ⟨i0, hi, hz0, hz1, hz2⟩ := info_parts info9
 clear hm
 by_cases h0 : s = ⟨#[]⟩
 ·have HF : Hid (z1c s.data.toList = z2d s.data.toList) := hid (by subst h0; rfl)
  have hs : s.size <= 32 := by subst h0; decide
  subst h0
  clear HL
  go_enter Tryz.func41, Tryz.ntmps41
  go_wp2
  go_loopw [0, 3] (fun l v wr => ∃ (x : ByteArray) (xs : List ByteArray) (a : Option Addr) (cap : Nat), l = .string x /\ v = .slice a xs.length cap /\ xs.length + x.size <= 32 /\ Hid (wr.ownsRow w.heap.size 9 1 v xs.length (strs xs)) /\ Hid (Below w.heap.size w wr) /\ Hid (z1c (⟨#[]⟩ : ByteArray).data.toList = lists xs ++ z2d x.data.toList)) (fun l _ _ => szV l)
  case atStart => exact ⟨⟨#[]⟩, [], none, 0, rfl, rfl, by simpa using hs, hid (World.ownsRow_nil _ _ _ _), hid (Below.refl _ _), hid (by rw [HF.out]; rfl)⟩
  case round =>
   clear HF
   obtain ⟨x, xs, a, cap, rfl, rfl, hn, HO, HB, HQ⟩ := hrel
   have hrow := HO.out
   have hB := HB.out
   by_cases hx : x = ⟨#[]⟩
   ·subst hx
    clear HO HB
    go_wp2_with (at_builtin; refine wpList_append_own _ rfl _ _ 67 rfl w.heap.size 9 i0 (.string ByteArray.empty) 1 16 Tryz.underlying67 hi hz0 hz1 hz2 rfl (by decide) _ _ _ rfl (hrow.alloc _) ⟨wr.heap.size, 0, none⟩ 1 1 [.string ⟨#[]⟩] rfl rfl (cell_one_new _ _ _) (by simp [Value.oneCell']) (by unfold maxLen; omega) (by omega) (by have := hB.size; simp; omega) ?_; intro v' w2 hown' hgrow _; obtain ⟨g', cap', rfl⟩ := z17 hown')
    have hb2 : Below w.heap.size w w2 := (hB.alloc hB.size _).grown hgrow (by have := hB.size; simp; omega) (fun k e => (hrow.lt k e).1)
    have HR := z2g (xs := xs ++ [⟨#[]⟩]) (by simpa [strs] using hown')
    have HF : Hid (lists (xs ++ [⟨#[]⟩]) = z1c (⟨#[]⟩ : ByteArray).data.toList) := hid (by rw [HQ.out, lists, List.map_append]; rfl)
    clear hgrow hrow hB HQ hown'
    go_wp2
    go_ret
    obtain ⟨a2, cap2, hv, hr⟩ := HR
    refine ⟨a2, cap2, _, ?_, HF.out, hr, hb2⟩
    rw [<- hv]; simp
   ·have hxe : x.toList.isEmpty = false := by
     rw [ByteArray.toList_eq]
     cases hl : x.data.toList with
     | nil => exact absurd (z3a (b := ⟨#[]⟩) (by rw [hl])) hx
     | cons => rfl
    have hne : x.data.toList ≠ [] := fun e => hx (z3a e)
    have hk := zea x.data.toList x.data.toList.length (List.length_pos_iff.2 hne)
    have HLI := hid (Tryz.strings_LastIndex_one x ⟨#[45]⟩ rfl (by omega))
    rw [z1k] at hk
    have HI : Hid (max 0 (Lib.lastIndexByte x 45) = ((lastD x.data.toList x.size : Nat) : Int)) := hid (by rw [ze9 x, z1k])
    have HC : Hid (z2d x.data.toList = x.data.toList :: z2d (x.data.toList.take (lastD x.data.toList x.size))) := hid (by have := z7h _ hne; rwa [z1k] at this)
    clear hne hx HO HB
    generalize lastD x.data.toList x.size = k at *
    go_wp2_with (at_builtin; refine wpList_append_own _ rfl _ _ 67 rfl w.heap.size 9 i0 (.string ByteArray.empty) 1 16 Tryz.underlying67 hi hz0 hz1 hz2 rfl (by decide) _ _ _ rfl (hrow.alloc _) ⟨wr.heap.size, 0, none⟩ 1 1 [.string x] rfl rfl (cell_one_new _ _ _) (by simp [Value.oneCell']) (by unfold maxLen; omega) (by omega) (by have := hB.size; simp; omega) ?_; intro v' w2 hown' hgrow _; obtain ⟨g', cap', rfl⟩ := z17 hown')
    have hb2 : Below w.heap.size w w2 := (hB.alloc hB.size _).grown hgrow (by have := hB.size; simp; omega) (fun k e => (hrow.lt k e).1)
    have HO2 : Hid (w2.ownsRow w.heap.size 9 1 (.slice (some ⟨g', 0, none⟩) (xs ++ [x]).length cap') (xs ++ [x]).length (strs (xs ++ [x]))) := hid (by simpa [strs] using hown')
    have HB2 := hid hb2
    have HQ2 : Hid (z1c (⟨#[]⟩ : ByteArray).data.toList = lists (xs ++ [x]) ++ z2d (x.extract 0 k).data.toList) := hid (by rw [HQ.out, HC.out, z36, lists, lists, List.map_append]; simp)
    clear hown' hgrow hrow hB HQ hb2
    go_wp2_with fail
    refine (HLI.out w2).mono ?_
    rintro e w3 ⟨rfl, rfl⟩
    have HI2 : Hid (max 0 (Lib.lastIndexByte x (((⟨#[45]⟩ : ByteArray)[0]'(by decide)).toNat : Int)) = (k : Int)) := hid HI.out
    generalize Lib.lastIndexByte x (((⟨#[45]⟩ : ByteArray)[0]'(by decide)).toNat : Int) = I at *
    have hI := HI2.out
    have hxz : (x.extract 0 k).size = k := by simp; omega
    clear HI HI2 HLI HC
    go_wp2
    refine ⟨⟨x.extract 0 k, xs ++ [x], some ⟨g', 0, none⟩, cap', ?_, by simp, by rw [hxz]; simp; omega, by simpa using HO2, HB2, HQ2⟩, ?_⟩
    ·go_num
    ·simp only [szV]
     simp; omega
 ·have h0e : s.toList.isEmpty = false := by
   rw [ByteArray.toList_eq]
   cases hl : s.data.toList with
   | nil => exact absurd (z3a (b := ⟨#[]⟩) (by rw [hl])) h0
   | cons => rfl
  have h0l : s.data.toList ≠ [] := fun e => h0 (z3a e)
  cases hl : locB s.data.toList with
  | false =>
   rw [hl] at HL
   have HF := hid (zf3 hl h0l)
   clear hl h0 h0l
   go_enter Tryz.func41, Tryz.ntmps41
   go_wp2_with fail
   refine HL.out.mono ?_
   rintro e w1 ⟨rfl, hb⟩
   have HB1 := hid hb
   clear hb
   go_wp2
   go_ret
   exact ⟨none, 0, [], rfl, HF.out.symm, ⟨Nat.le_refl _, fun h => absurd rfl h⟩, HB1.out⟩
  | true =>
   rw [hl] at HL
   have HF := hid (z8b hl)
   have hs := zb9 hl
   clear hl h0 h0l
   go_enter Tryz.func41, Tryz.ntmps41
   go_wp2_with fail
   refine HL.out.mono ?_
   rintro e w1 ⟨rfl, hb⟩
   have HB1 := hid hb
   clear hb
   go_wp2
   go_loopw [0, 3] (fun l v wr => ∃ (x : ByteArray) (xs : List ByteArray) (a : Option Addr) (cap : Nat), l = .string x /\ v = .slice a xs.length cap /\ xs.length + x.size <= 32 /\ Hid (wr.ownsRow w.heap.size 9 1 v xs.length (strs xs)) /\ Hid (Below w.heap.size w wr) /\ Hid (z1c s.data.toList = lists xs ++ z2d x.data.toList)) (fun l _ _ => szV l)
   case atStart => exact ⟨s, [], none, 0, rfl, rfl, by simpa using hs, hid (World.ownsRow_nil _ _ _ _), HB1, hid (by rw [HF.out]; rfl)⟩
   case round =>
    clear HF
    obtain ⟨x, xs, a, cap, rfl, rfl, hn, HO, HB, HQ⟩ := hrel
    have hrow := HO.out
    have hB := HB.out
    by_cases hx : x = ⟨#[]⟩
    ·subst hx
     clear HO HB
     go_wp2_with (at_builtin; refine wpList_append_own _ rfl _ _ 67 rfl w.heap.size 9 i0 (.string ByteArray.empty) 1 16 Tryz.underlying67 hi hz0 hz1 hz2 rfl (by decide) _ _ _ rfl (hrow.alloc _) ⟨wr.heap.size, 0, none⟩ 1 1 [.string ⟨#[]⟩] rfl rfl (cell_one_new _ _ _) (by simp [Value.oneCell']) (by unfold maxLen; omega) (by omega) (by have := hB.size; simp; omega) ?_; intro v' w2 hown' hgrow _; obtain ⟨g', cap', rfl⟩ := z17 hown')
     have hb2 : Below w.heap.size w w2 := (hB.alloc hB.size _).grown hgrow (by have := hB.size; simp; omega) (fun k e => (hrow.lt k e).1)
     have HR := z2g (xs := xs ++ [⟨#[]⟩]) (by simpa [strs] using hown')
     have HF : Hid (lists (xs ++ [⟨#[]⟩]) = z1c s.data.toList) := hid (by rw [HQ.out, lists, List.map_append]; rfl)
     clear hgrow hrow hB HQ hown'
     go_wp2
     go_ret
     obtain ⟨a2, cap2, hv, hr⟩ := HR
     refine ⟨a2, cap2, _, ?_, HF.out, hr, hb2⟩
     rw [<- hv]; simp
    ·have hxe : x.toList.isEmpty = false := by
      rw [ByteArray.toList_eq]
      cases hl : x.data.toList with
      | nil => exact absurd (z3a (b := ⟨#[]⟩) (by rw [hl])) hx
      | cons => rfl
     have hne : x.data.toList ≠ [] := fun e => hx (z3a e)
     have hk := zea x.data.toList x.data.toList.length (List.length_pos_iff.2 hne)
     have HLI := hid (Tryz.strings_LastIndex_one x ⟨#[45]⟩ rfl (by omega))
     rw [z1k] at hk
     have HI : Hid (max 0 (Lib.lastIndexByte x 45) = ((lastD x.data.toList x.size : Nat) : Int)) := hid (by rw [ze9 x, z1k])
     have HC : Hid (z2d x.data.toList = x.data.toList :: z2d (x.data.toList.take (lastD x.data.toList x.size))) := hid (by have := z7h _ hne; rwa [z1k] at this)
     clear hne hx HO HB
     generalize lastD x.data.toList x.size = k at *
     go_wp2_with (at_builtin; refine wpList_append_own _ rfl _ _ 67 rfl w.heap.size 9 i0 (.string ByteArray.empty) 1 16 Tryz.underlying67 hi hz0 hz1 hz2 rfl (by decide) _ _ _ rfl (hrow.alloc _) ⟨wr.heap.size, 0, none⟩ 1 1 [.string x] rfl rfl (cell_one_new _ _ _) (by simp [Value.oneCell']) (by unfold maxLen; omega) (by omega) (by have := hB.size; simp; omega) ?_; intro v' w2 hown' hgrow _; obtain ⟨g', cap', rfl⟩ := z17 hown')
     have hb2 : Below w.heap.size w w2 := (hB.alloc hB.size _).grown hgrow (by have := hB.size; simp; omega) (fun k e => (hrow.lt k e).1)
     have HO2 : Hid (w2.ownsRow w.heap.size 9 1 (.slice (some ⟨g', 0, none⟩) (xs ++ [x]).length cap') (xs ++ [x]).length (strs (xs ++ [x]))) := hid (by simpa [strs] using hown')
     have HB2 := hid hb2
     have HQ2 : Hid (z1c s.data.toList = lists (xs ++ [x]) ++ z2d (x.extract 0 k).data.toList) := hid (by rw [HQ.out, HC.out, z36, lists, lists, List.map_append]; simp)
     clear hown' hgrow hrow hB HQ hb2
     go_wp2_with fail
     refine (HLI.out w2).mono ?_
     rintro e w3 ⟨rfl, rfl⟩
     have HI2 : Hid (max 0 (Lib.lastIndexByte x (((⟨#[45]⟩ : ByteArray)[0]'(by decide)).toNat : Int)) = (k : Int)) := hid HI.out
     generalize Lib.lastIndexByte x (((⟨#[45]⟩ : ByteArray)[0]'(by decide)).toNat : Int) = I at *
     have hI := HI2.out
     have hxz : (x.extract 0 k).size = k := by simp; omega
     clear HI HI2 HLI HC
     go_wp2
     refine ⟨⟨x.extract 0 k, xs ++ [x], some ⟨g', 0, none⟩, cap', ?_, by simp, by rw [hxz]; simp; omega, by simpa using HO2, HB2, HQ2⟩, ?_⟩
     ·go_num
     ·simp only [szV]
      simp; omega
end Go.Proofs.YtdnedbcmgkilaaaGreatDoor.Lc

end

section

namespace Go.Proofs.YtdnedbcmgkilaaaGreatDoor.Ca
set_option maxHeartbeats 6400000
set_option maxRecDepth 100000
open Go.Lib (hid)
open Go.RowKit Go.Proofs.YtdnedbcmgkilaaaGreatDoor
def z1d (loc : BA) : List BA := (Lc.z1c loc.data.toList).map fun l => (⟨l.toArray⟩ : BA)
theorem zf4 {xs : List BA} {loc : BA} (h : Lc.lists xs = Lc.z1c loc.data.toList) : xs = z1d loc := by
 refine Lc.zba (h.trans ?_)
 unfold z1d Lc.lists
 rw [List.map_map]
 conv => lhs; rw [<- List.map_id (Lc.z1c loc.data.toList)]
 exact List.map_congr_left (fun l _ => by simp)
theorem zh5 (L : List UInt8) : ∀ k, (Lc.pre L k).length <= k
 | 0 => by rw [Lc.pre]; exact Nat.le_refl _
 | k + 1 => by
  have := zh5 L k
  rw [Lc.pre]
  split
  ·rw [List.length_cons]; omega
  ·omega
theorem zbw (loc : BA) : (z1d loc).length <= 34 := by
 unfold z1d
 rw [List.length_map]
 unfold Lc.z1c
 split
 ·rename_i h
  have hl : loc.data.toList.length <= 32 := by
   rcases h with h | h
   ·rw [h]; simp
   ·have := Lc.zb9 h; rw [z05]; exact this
  unfold Lc.z2d
  split
  ·simp
  ·have := zh5 loc.data.toList loc.data.toList.length
   simp only [List.length_cons, List.length_append, List.length_nil]
   omega
 ·simp
abbrev AnsE := Except Nat Ent
noncomputable def findR (l : List Ent) (loc key : BA) : AnsE :=
 if z0n l ≠ 0 then .error (z0n l) else match findL l key (z1d loc) with
 | some y => .ok y
 | none => .error 60
theorem zbn {l : List Ent} {loc key : BA} (h : z0n l ≠ 0) : findR l loc key = .error (z0n l) := by unfold findR; rw [if_pos h]
theorem z86 {l : List Ent} {loc key : BA} {y : Ent} (h : z0n l = 0) (hf : findL l key (z1d loc) = some y) : findR l loc key = .ok y := by unfold findR; rw [if_neg (by simpa using h), hf]
theorem z87 {l : List Ent} {loc key : BA} (h : z0n l = 0) (hf : findL l key (z1d loc) = none) : findR l loc key = .error 60 := by unfold findR; rw [if_neg (by simpa using h), hf]
def FindQ (r : AnsE) (w : World) (e : Ending) (w' : World) : Prop := Below w.heap.size w w' /\ match r with
 | .ok y => e = .returned (.tuple #[enV y, .int .i64 0])
 | .error k => e = .returned (.tuple #[enV noE, .int .i64 k])
theorem FindQ.no {r : AnsE} {w w' : World} {k : Nat} (h : r = .error k) (hb : Below w.heap.size w w') : FindQ r w (.returned (.tuple #[enV noE, .int .i64 k])) w' := ⟨hb, by rw [h]⟩
theorem FindQ.yes {r : AnsE} {w w' : World} {y : Ent} (h : r = .ok y) (hb : Below w.heap.size w w') : FindQ r w (.returned (.tuple #[enV y, .int .i64 0])) w' := ⟨hb, by rw [h]⟩
abbrev putE (w : World) (R : Nat) (y : Ent) : World := ((w.setCell ⟨R, 0, none⟩ (.string y.loc)).setCell ⟨R, 1, none⟩ (.string y.key)).setCell ⟨R, 2, none⟩ (.string y.pat)
theorem z2n {w : World} {R : Nat} {x y : Ent} (h : Row w R 38 [.string x.loc, .string x.key, .string x.pat]) : Row (putE w R y) R 38 [.string y.loc, .string y.key, .string y.pat] := ((h.set 0 (.string y.loc)).set 1 (.string y.key)).set 2 (.string y.pat)
theorem z2o {w w' : World} {R : Nat} (h : Below w.heap.size w w') (hR : w.heap.size <= R) (y : Ent) : Below w.heap.size w (putE w' R y) :=
 ((h.setCell (p := ⟨R, 0, none⟩) hR _).setCell (p := ⟨R, 1, none⟩) hR _).setCell (p := ⟨R, 2, none⟩) hR _
theorem zbp (w : World) (a : Option Addr) (cap : Nat) (xs : List Ent) (loc key : BA) (hX : SlE w (Old w) (.slice a xs.length cap) xs) (hF : ∀ x, x ∈ xs -> FitE x) (hE : EnvC w) :
  Calls Tryz.prog 20 #[.slice a xs.length cap, .string loc, .string key] w (FindQ (findR xs loc key) w) := by
 have hb0 := z02 w (.cells (enC noE) 38)
 have HB0 := hid hb0
 have HR := hid (z1o (w.alloc (.cells (enC noE) 38)) a cap xs (hX.old hb0) hF (hE.below hb0))
 have r0 := z04 w (enC noE) 38
 have HR0 := hid r0
 obtain ⟨q, HQ⟩ : ∃ q, Hid (q = z0n xs) := ⟨_, hid rfl⟩
 rw [<- HQ.out] at HR
 by_cases h0 : q = 0
 ·have HQ0 : Hid (z0n xs = 0) := hid (by rw [<- HQ.out]; exact h0)
  have HRG : Hid (Rgt xs) := hid (z5a.1 HQ0.out)
  subst h0
  have HX := hid hX
  have HE := hid hE
  obtain ⟨L, HL⟩ : ∃ L, Hid (L = xs.length) := ⟨_, hid rfl⟩
  rw [<- HL.out] at HR HX ⊢
  clear hX hF hE r0 hb0
  go_enter Tryz.func20, Tryz.ntmps20
  go_wp2_with fail
  refine HR.out.mono ?_
  rintro e w1 ⟨rfl, hb1⟩
  have HR1 := hid (HR0.out.below hb1)
  have HB1 := hid (z00 HB0.out hb1)
  have HLI := hid (z5u a L cap w1)
  clear hb1 HR HB0 HR0
  go_wp2_with fail
  refine HLI.out.mono ?_
  rintro e w2 ⟨rfl, hb2⟩
  have hb3 := z00 hb2 (z02 w2 (.cells #[.slice a L cap, cmpFn] 50))
  have HR3 := hid (HR1.out.below hb3)
  have HB3 := hid (z00 HB1.out hb3)
  have HS3 := hid (z04 w2 #[.slice a L cap, cmpFn] 50)
  obtain ⟨-, m, hm⟩ := HE.out.below HB3.out
  have HCH := hid (Lc.zje loc m (w2.alloc (.cells #[.slice a L cap, cmpFn] 50)) hm)
  obtain ⟨S, HS⟩ : ∃ S, Hid (S = w2.heap.size) := ⟨_, hid rfl⟩
  clear hb2 hb3 HR1 HB1 HLI hm
  go_wp2_with fail
  rw [<- HS.out] at HS3 ⊢
  generalize w2.alloc (.cells #[.slice a L cap, cmpFn] 50) = w3 at *
  refine HCH.out.mono ?_
  rintro e w4 ⟨ca, cc, ch, rfl, hch, hrd, hb4⟩
  obtain rfl := zf4 hch
  have HR4 := hid (HR3.out.below hb4)
  have HB4 := hid (z00 HB3.out hb4)
  have HS4 := hid (HS3.out.below hb4)
  have HRD := hid hrd
  obtain ⟨M, HM⟩ : ∃ M, Hid (M = (z1d loc).length) := ⟨_, hid rfl⟩
  rw [<- HM.out]
  have hML : M <= 9223372036854775807 := by
   have := zbw loc
   have := HM.out
   omega
  clear hch hrd hb4 HR3 HB3 HS3 HCH
  go_wp2
  go_loopw [25] (fun i wr => ∃ k : Nat, k <= M /\ i = .int .i64 k /\ Hid (Below w4.heap.size w4 wr) /\ Hid (findL xs key ((z1d loc).drop k) = findL xs key (z1d loc))) (fun i _ => M - (intOf i).toNat)
  case atStart => exact ⟨0, Nat.zero_le _, rfl, hid (Below.refl _ _), hid (by rw [List.drop_zero])⟩
  case round =>
   obtain ⟨k, hk, rfl, HB, HFR⟩ := hrel
   have HRr := hid (HR4.out.below HB.out)
   have HBr := hid (z00 HB4.out HB.out)
   have z0 := HRr.out.cell (i := 0) rfl
   have z1 := HRr.out.cell (i := 1) rfl
   have z2 := HRr.out.cell (i := 2) rfl
   by_cases hlt : k < M
   ·have hkl : k < (z1d loc).length := by have := HM.out; omega
    obtain ⟨g, rfl, hg, hcc⟩ := (HRD.out.below HB.out).2 (by intro h; rw [h] at hkl; simp at hkl)
    have x0 := hcc k hkl
    have hdr := List.drop_eq_getElem_cons hkl
    obtain ⟨s, hs⟩ : ∃ s, s = (z1d loc)[k] := ⟨_, rfl⟩
    rw [<- hs] at x0 hdr
    have HST : Hid (findL xs key ((z1d loc).drop k) = match findC xs s key with | some y => some y | none => findL xs key ((z1d loc).drop (k + 1))) := hid (by rw [hdr, findL]; cases findC xs s key <;> rfl)
    have HFI := hid (find_any wr S a cap xs ⟨s, key, ⟨#[]⟩⟩ (by rw [<- HL.out]; exact HS4.out.below HB.out) (by rw [<- HL.out]; exact HX.out.old HBr.out) HRG.out.srt (by have := HRG.out.len; omega))
    clear hcc hdr hs hkl
    cases hf : findC xs s key with
    | some y =>
     have HFN : Hid (findR xs loc key = .ok y) := hid (z86 HQ0.out (by rw [<- HFR.out, HST.out, hf]))
     have HFQ : Hid (Calls Tryz.prog 42 #[.pointer (some ⟨S, 0, none⟩), .agg #[.string s, .string key, .string ⟨#[]⟩]] wr fun e w' => e = .returned (.tuple #[.agg #[.string y.loc, .string y.key, .string y.pat], .bool true]) /\ Below wr.heap.size wr w') := hid (HFI.out.mono fun e w' h => by
      unfold FindP at h
      simp only [hf] at h
      exact h)
     clear hf HST HFI
     go_wp2_with fail
     refine HFQ.out.mono ?_
     rintro e w5 ⟨rfl, hb5⟩
     have hb6 := z00 hb5 (z02 w5 (.cells (enC y) 38))
     have R6 := z04 w5 (enC y) 38
     have HR6 := HRr.out.below hb6
     have d0 := R6.cell (i := 0) rfl
     have d1 := R6.cell (i := 1) rfl
     have d2 := R6.cell (i := 2) rfl
     have t0 := HR6.thaw 0
     have t1 := HR6.thaw 1
     have t2 := HR6.thaw 2
     have e0 := HR6.cell (i := 0) rfl
     have e1 := HR6.cell (i := 1) rfl
     have e2 := HR6.cell (i := 2) rfl
     have R7 := z2n (x := noE) (y := y) HR6
     have f0 := R7.cell (i := 0) rfl
     have f1 := R7.cell (i := 1) rfl
     have f2 := R7.cell (i := 2) rfl
     have HBF := hid (z2o (R := w.heap.size) (z00 HBr.out hb6) (Nat.le_refl _) y)
     obtain ⟨yl, yk, yp⟩ := y
     simp only at d0 d1 d2 f0 f1 f2 HBF HFQ e0 e1 e2 t0 t1 t2
     clear hb5 hb6 R6 R7 HR6 z0 z1 z2
     go_wp2
     exact bodyPost_ret (v := .tuple #[.agg #[.string yl, .string yk, .string yp], .int .i64 0]) (by simp [results, Tryz.results20, go_sem, f0, f1, f2]) rfl (FindQ.yes HFN.out HBF.out)
    | none =>
     have HFN : Hid (findL xs key ((z1d loc).drop (k + 1)) = findL xs key (z1d loc)) := hid (by rw [<- HFR.out, HST.out, hf])
     have HFQ : Hid (Calls Tryz.prog 42 #[.pointer (some ⟨S, 0, none⟩), .agg #[.string s, .string key, .string ⟨#[]⟩]] wr fun e w' => e = .returned (.tuple #[.agg #[.string ⟨#[]⟩, .string ⟨#[]⟩, .string ⟨#[]⟩], .bool false]) /\ Below wr.heap.size wr w') := hid (HFI.out.mono fun e w' h => by
      unfold FindP at h
      simp only [hf] at h
      exact h)
     clear hf HST HFI z0 z1 z2
     go_wp2_with fail
     refine HFQ.out.mono ?_
     rintro e w5 ⟨rfl, hb5⟩
     have HB6 := hid (z00 HB.out (z00 hb5 (z02 w5 (.cells (enC noE) 38))))
     clear hb5
     go_wp2
     go_roundw
     case rel => exact ⟨k + 1, by omega, by go_num, HB6, HFN⟩
     case measure => simp [intOf]; omega
   ·have HFN : Hid (findR xs loc key = .error 60) := hid (z87 HQ0.out (by rw [<- HFR.out, List.drop_of_length_le (by have := HM.out; omega), findL]))
    have t0 := HRr.out.thaw 0
    have t1 := HRr.out.thaw 1
    have t2 := HRr.out.thaw 2
    have R7 := z2n (x := noE) (y := noE) HRr.out
    have f0 := R7.cell (i := 0) rfl
    have f1 := R7.cell (i := 1) rfl
    have f2 := R7.cell (i := 2) rfl
    have HBF := hid (z2o (R := w.heap.size) HBr.out (Nat.le_refl _) noE)
    clear R7
    go_wp2
    exact bodyPost_ret (v := .tuple #[.agg #[.string ⟨#[]⟩, .string ⟨#[]⟩, .string ⟨#[]⟩], .int .i64 60]) (by simp [results, Tryz.results20, go_sem, f0, f1, f2]) rfl (FindQ.no HFN.out HBF.out)
 ·have HA : Hid (findR xs loc key = .error q) := hid (by rw [zbn (by rw [<- HQ.out]; exact h0), HQ.out])
  have hqb := ne0 h0
  clear hX hF hE h0 r0 hb0
  generalize xs.length = L at *
  go_enter Tryz.func20, Tryz.ntmps20
  go_wp2_with fail
  refine HR.out.mono ?_
  rintro e w1 ⟨rfl, hb1⟩
  have HR1 := HR0.out.below hb1
  have HB := hid (z00 HB0.out hb1)
  have z0 := HR1.cell (i := 0) rfl
  have z1 := HR1.cell (i := 1) rfl
  have z2 := HR1.cell (i := 2) rfl
  have t0 := HR1.thaw 0
  have t1 := HR1.thaw 1
  have t2 := HR1.thaw 2
  have R7 := z2n (x := noE) (y := noE) HR1
  have f0 := R7.cell (i := 0) rfl
  have f1 := R7.cell (i := 1) rfl
  have f2 := R7.cell (i := 2) rfl
  have HBF := hid (z2o (R := w.heap.size) HB.out (Nat.le_refl _) noE)
  clear hb1 R7 HR1
  go_wp2
  exact bodyPost_ret (v := .tuple #[.agg #[.string ⟨#[]⟩, .string ⟨#[]⟩, .string ⟨#[]⟩], .int .i64 q]) (by simp [results, Tryz.results20, go_sem, f0, f1, f2]) rfl (FindQ.no HA.out HBF.out)
end Go.Proofs.YtdnedbcmgkilaaaGreatDoor.Ca

end
