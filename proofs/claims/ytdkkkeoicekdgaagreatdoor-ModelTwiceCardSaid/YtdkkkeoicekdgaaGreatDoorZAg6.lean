/- The document's Right and Parse. -/
import Derived.Test.YtdkkkeoicekdgaaGreatDoorZADh
import Derived.Test.YtdkkkeoicekdgaaGreatDoorZARs
import Derived.Test.YtdkkkeoicekdgaaGreatDoorZAEk
import Derived.Test.YtdkkkeoicekdgaaGreatDoorZAg23

section

namespace Go.Proofs.YtdkkkeoicekdgaaGreatDoor.Dr
open Go.RowKit Go.Proofs.YtdkkkeoicekdgaaGreatDoor
end Go.Proofs.YtdkkkeoicekdgaaGreatDoor.Dr

end

section

namespace Go.Proofs.YtdkkkeoicekdgaaGreatDoor.Ca
set_option maxHeartbeats 3200000
set_option maxRecDepth 100000
open Go.Lib (hid)
open Go.RowKit Go.Proofs.YtdkkkeoicekdgaaGreatDoor
def FitE (x : Ent) : Prop := x.loc.size <= 140737488351232 /\ x.key.size <= 140737488351232 /\ x.pat.size <= 140737488351232
theorem emp_iff (s : BA) : s.toList.isEmpty = s.data.toList.isEmpty := by rw [ByteArray.toList_eq]
theorem may_eq (x : Ent) : mayB x = ((x.loc.data.toList.isEmpty || Lc.locB x.loc.data.toList) && keyB x.key.data.toList && patB x.pat.data.toList) := rfl
structure BK (w : World) (A : Nat) (x : Ent) (W : World) : Prop where
 row : Row W A 81 [.string x.loc, .string x.key, .string x.pat]
 below : Below w.heap.size w W
 env : EnvC W
theorem BK.step {w W W' : World} {A : Nat} {x : Ent} (h : BK w A x W) (hb : Below W.heap.size W W') : BK w A x W' := ⟨h.row.below hb, z00 h.below hb, h.env.below hb⟩
theorem BK.mk1 (w : World) (x : Ent) (h : EnvC w) : BK w w.heap.size x (w.alloc (.cells (enC x) 81)) := ⟨z02 w (enC x) 81, z04 _ _, h.below (z04 _ _)⟩
theorem z6r (x : Ent) (w : World) (hE : EnvC w) (_hF : FitE x) : Calls Tryz.prog 124 #[enV x] w fun e w' => e = .returned (.bool (!mayB x)) /\ Below w.heap.size w w' := by
 have K := BK.mk1 w x hE
 have HM := hid (may_eq x)
 have HL : Hid (∀ W, Hid (BK w w.heap.size x W) -> Calls Tryz.prog 157 #[.string x.loc] W fun e w' => e = .returned (.bool (Lc.locB x.loc.data.toList)) /\ (w'.cell? ⟨w.heap.size, 0, none⟩ = some (.string x.loc) /\ w'.cell? ⟨w.heap.size, 1, none⟩ = some (.string x.key) /\ w'.cell? ⟨w.heap.size, 2, none⟩ = some (.string x.pat)) /\ Hid (BK w w.heap.size x w')) := hid (fun W k => by
  obtain ⟨-, m, hm⟩ := k.out.env
  exact (Lc.zal x.loc m W hm).mono fun e w' ⟨he, h2⟩ => ⟨he, ⟨(k.out.step h2).row.cell rfl, (k.out.step h2).row.cell rfl, (k.out.step h2).row.cell rfl⟩, hid (k.out.step h2)⟩)
 have HK : Hid (∀ W, Hid (BK w w.heap.size x W) -> Calls Tryz.prog 158 #[.string x.key] W fun e w' => e = .returned (.bool (keyB x.key.data.toList)) /\ (w'.cell? ⟨w.heap.size, 0, none⟩ = some (.string x.loc) /\ w'.cell? ⟨w.heap.size, 1, none⟩ = some (.string x.key) /\ w'.cell? ⟨w.heap.size, 2, none⟩ = some (.string x.pat)) /\ Hid (BK w w.heap.size x w')) := hid (fun W k => (z74 x.key W).mono fun e w' ⟨he, h2⟩ => ⟨he, ⟨(k.out.step h2).row.cell rfl, (k.out.step h2).row.cell rfl, (k.out.step h2).row.cell rfl⟩, hid (k.out.step h2)⟩)
 have HP : Hid (∀ W, Hid (BK w w.heap.size x W) -> Calls Tryz.prog 159 #[.string x.pat] W fun e w' => (∃ a cap n, e = .returned (.tuple #[.slice a (z0q x.pat.data.toList).1.length cap, .int .i64 (z0q x.pat.data.toList).2.1, .int .i64 (z0q x.pat.data.toList).2.2]) /\ SlP w' (Fsh W.heap.size w') n (.slice a (z0q x.pat.data.toList).1.length cap) (z0q x.pat.data.toList).1) /\ Hid (BK w w.heap.size x w')) := hid (fun W k => (zby x.pat W k.out.env.env).mono fun e w' ⟨h1, h2⟩ => ⟨h1, hid (k.out.step h2)⟩)
 obtain ⟨bl, HBL⟩ : ∃ b, Hid (b = Lc.locB x.loc.data.toList) := ⟨_, hid rfl⟩
 obtain ⟨bk, HBK⟩ : ∃ b, Hid (b = keyB x.key.data.toList) := ⟨_, hid rfl⟩
 obtain ⟨pl, HPL⟩ : ∃ b, Hid (b = (z0q x.pat.data.toList).1.length) := ⟨_, hid rfl⟩
 obtain ⟨pe, HPE⟩ : ∃ b, Hid (b = (z0q x.pat.data.toList).2.1) := ⟨_, hid rfl⟩
 obtain ⟨po, HPO⟩ : ∃ b, Hid (b = (z0q x.pat.data.toList).2.2) := ⟨_, hid rfl⟩
 have HPB : Hid (patB x.pat.data.toList = decide (pe = 0)) := hid (by rw [HPE.out]; rfl)
 rw [<- HBL.out] at HL HM
 rw [<- HBK.out] at HK HM
 rw [<- HPL.out, <- HPE.out, <- HPO.out] at HP
 rw [HPB.out, <- emp_iff] at HM
 have c0 := K.row.cell (i := 0) rfl
 have c1 := K.row.cell (i := 1) rfl
 have c2 := K.row.cell (i := 2) rfl
 have HK0 := hid K
 clear K hE
 obtain ⟨xl, xk, xp⟩ := x
 simp only at c0 c1 c2 HL HK HP HM HK0 HPB
 cases hEB : xl.toList.isEmpty with
 | true =>
  have HEB := hid hEB
  rw [HEB.out] at HM
  cases bk with
  | false =>
   go_enter Tryz.func124, Tryz.ntmps124
   go_wp2_with fail
   refine (HK.out _ HK0).mono ?_
   rintro e w2 ⟨rfl, ⟨c0, c1, c2⟩, hk2⟩
   clear HK0
   have HK0 := hk2
   clear hk2
   go_wp2
   go_ret
   exact ⟨by rw [HM.out]; rfl, HK0.out.below⟩
  | true =>
   go_enter Tryz.func124, Tryz.ntmps124
   go_wp2_with fail
   refine (HK.out _ HK0).mono ?_
   rintro e w2 ⟨rfl, ⟨c0, c1, c2⟩, hk2⟩
   clear HK0
   have HK0 := hk2
   clear hk2
   go_wp2_with fail
   refine (HP.out _ HK0).mono ?_
   rintro e w3 ⟨⟨a, cap, n, rfl, -⟩, hk3⟩
   go_wp2
   go_ret
   exact ⟨z03 (by rw [HM.out]; by_cases hp : pe = 0 <;> simp [hp]), hk3.out.below⟩
 | false =>
  have HEB := hid hEB
  rw [HEB.out] at HM
  cases bl with
  | true =>
   cases bk with
   | false =>
    go_enter Tryz.func124, Tryz.ntmps124
    go_wp2_with fail
    refine (HL.out _ HK0).mono ?_
    rintro e w1 ⟨rfl, ⟨c0, c1, c2⟩, hk1⟩
    clear HK0
    have HK0 := hk1
    clear hk1
    go_wp2_with fail
    refine (HK.out _ HK0).mono ?_
    rintro e w2 ⟨rfl, ⟨c0, c1, c2⟩, hk2⟩
    clear HK0
    have HK0 := hk2
    clear hk2
    go_wp2
    go_ret
    exact ⟨by rw [HM.out]; rfl, HK0.out.below⟩
   | true =>
    go_enter Tryz.func124, Tryz.ntmps124
    go_wp2_with fail
    refine (HL.out _ HK0).mono ?_
    rintro e w1 ⟨rfl, ⟨c0, c1, c2⟩, hk1⟩
    clear HK0
    have HK0 := hk1
    clear hk1
    go_wp2_with fail
    refine (HK.out _ HK0).mono ?_
    rintro e w2 ⟨rfl, ⟨c0, c1, c2⟩, hk2⟩
    clear HK0
    have HK0 := hk2
    clear hk2
    go_wp2_with fail
    refine (HP.out _ HK0).mono ?_
    rintro e w3 ⟨⟨a, cap, n, rfl, -⟩, hk3⟩
    go_wp2
    go_ret
    exact ⟨z03 (by rw [HM.out]; by_cases hp : pe = 0 <;> simp [hp]), hk3.out.below⟩
  | false =>
   go_enter Tryz.func124, Tryz.ntmps124
   go_wp2_with fail
   refine (HL.out _ HK0).mono ?_
   rintro e w1 ⟨rfl, ⟨c0, c1, c2⟩, hk1⟩
   clear HK0
   have HK0 := hk1
   clear hk1
   go_wp2
   go_ret
   exact ⟨by rw [HM.out]; rfl, HK0.out.below⟩
end Go.Proofs.YtdkkkeoicekdgaaGreatDoor.Ca

end
