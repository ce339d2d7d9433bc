/- The document's plural. -/
import Derived.Test.YtdnedbcmgkilaaaGreatDoorZSg48

namespace Go.Proofs.YtdnedbcmgkilaaaGreatDoor
set_option maxHeartbeats 6400000
set_option maxRecDepth 100000
open Go.Lib (hid)
open Go.RowKit
structure RK (w : World) (pk : Int) (t nm : BA) (a : Option Addr) (L cap : Nat) (cs : List Cs) (m : Nat) (W : World) : Prop where
 bel : Below w.heap.size w W
 row : Row W w.heap.size 141 [.int .i64 pk, .string t, .string nm, .slice a L cap]
 cs : SlC W (Old W) m (.slice a L cap) cs
 env : EnvW W
section
variable {w W W' : World} {pk : Int} {t nm : BA} {a : Option Addr} {L cap m : Nat} {cs : List Cs}
theorem RK.step (h : RK w pk t nm a L cap cs m W) (hb : Below W.heap.size W W') : RK w pk t nm a L cap cs m W' := ⟨z00 h.bel hb, h.row.below hb, h.cs.old hb, h.env.below hb⟩
theorem RK.cells (h : RK w pk t nm a L cap cs m W) : (W.cell? ⟨w.heap.size, 0, none⟩ = some (.int .i64 pk) /\ W.cell? ⟨w.heap.size, 1, none⟩ = some (.string t) /\ W.cell? ⟨w.heap.size, 2, none⟩ = some (.string nm) /\ W.cell? ⟨w.heap.size, 3, none⟩ = some (.slice a L cap)) := ⟨h.row.cell rfl, h.row.cell rfl, h.row.cell rfl, h.row.cell rfl⟩
end
theorem z8z (n : Int) (h1 : -9223372036854775808 <= n) (h2 : n <= 9223372036854775807) (w : World) (hE : EnvW w) : Calls Tryz.prog 63 #[.int .i64 n, .int .i64 10] w fun e w' => e = .returned (.string ⟨(Lib.itoa n).toArray⟩) /\ Below w.heap.size w w' :=
 (Tryz.strconv_FormatInt_10 n h1 h2 w hE.tab).mono fun e w' ⟨he, k, os, hw⟩ => ⟨he, by rw [hw]; exact z2t w k os⟩
theorem zck (m : Nat) (w : World) (pk : Int) (t nm : BA) (a : Option Addr) (cap : Nat) (cs : List Cs) (lang : BA) (n : Int) (h1 : -9223372036854775808 <= n) (h2 : n <= 9223372036854775807) (hcs : SlC w (Old w) m (.slice a cs.length cap) cs) (hE : EnvW w) :
  Calls Tryz.prog 135 #[.agg #[.int .i64 pk, .string t, .string nm, .slice a cs.length cap], .string lang, .int .i64 n] w fun e w' => ∃ a1 p1, e = .returned (.slice a1 (choF cs [⟨(61 :: Lib.itoa n).toArray⟩, Pu.catF lang n, z19]).length p1) /\ SlP w' (Old w') m (.slice a1 (choF cs [⟨(61 :: Lib.itoa n).toArray⟩, Pu.catF lang n, z19]).length p1) (choF cs [⟨(61 :: Lib.itoa n).toArray⟩, Pu.catF lang n, z19]) /\ Below w.heap.size w w' := by
 obtain ⟨L, HL⟩ : ∃ L, Hid (L = cs.length) := ⟨_, hid rfl⟩
 obtain ⟨dg, HDG⟩ : ∃ dg : BA, Hid (dg = ⟨(Lib.itoa n).toArray⟩) := ⟨_, hid rfl⟩
 obtain ⟨ct, HCT⟩ : ∃ ct : BA, Hid (ct = Pu.catF lang n) := ⟨_, hid rfl⟩
 have hdz : dg.size <= 21 := by
  rw [HDG.out]; show (Lib.itoa n).toArray.size <= _; rw [List.size_toArray]; exact Lib.itoa_length_le n h1 h2
 have hds : ¬ 9223372036854775807 < 1 + dg.size := by omega
 have HKE : Hid ((⟨#[61]⟩ : BA) ++ dg = ⟨(61 :: Lib.itoa n).toArray⟩) := hid (by
  rw [HDG.out]; apply ByteArray.ext; apply Array.toList_inj.1; simp)
 rw [<- HCT.out, <- HKE.out]
 rw [<- HL.out] at hcs ⊢
 have K1 : Hid (RK w pk t nm a L cap cs m (w.alloc (.cells #[.int .i64 pk, .string t, .string nm, .slice a L cap] 141))) := hid ⟨z02 _ _, z04 w _ _, hcs.old (z02 _ _), hE.below (z02 _ _)⟩
 have HC1 : Hid (∀ W, Hid (RK w pk t nm a L cap cs m W) -> Calls Tryz.prog 63 #[.int .i64 n, .int .i64 10] W fun e w' => e = .returned (.string dg) /\ (w'.cell? ⟨w.heap.size, 0, none⟩ = some (.int .i64 pk) /\ w'.cell? ⟨w.heap.size, 1, none⟩ = some (.string t) /\ w'.cell? ⟨w.heap.size, 2, none⟩ = some (.string nm) /\ w'.cell? ⟨w.heap.size, 3, none⟩ = some (.slice a L cap)) /\ Hid (RK w pk t nm a L cap cs m w')) :=
  hid (fun W k => (z8z n h1 h2 W k.out.env).mono fun e w' ⟨he, hb⟩ => ⟨by rw [he, HDG.out], (k.out.step hb).cells, hid (k.out.step hb)⟩)
 have HC2 : Hid (∀ W, Hid (RK w pk t nm a L cap cs m W) -> Calls Tryz.prog 173 #[.string lang, .int .i64 n] W fun e w' => e = .returned (.string ct) /\ (w'.cell? ⟨w.heap.size, 0, none⟩ = some (.int .i64 pk) /\ w'.cell? ⟨w.heap.size, 1, none⟩ = some (.string t) /\ w'.cell? ⟨w.heap.size, 2, none⟩ = some (.string nm) /\ w'.cell? ⟨w.heap.size, 3, none⟩ = some (.slice a L cap)) /\ Hid (RK w pk t nm a L cap cs m w')) :=
  hid (fun W k => (Pu.z91 W lang n h1 h2).mono fun e w' ⟨he, hb⟩ => ⟨by rw [he, HCT.out], (k.out.step hb).cells, hid (k.out.step hb)⟩)
 have HKK : Hid (∀ key W, Hid (RK w pk t nm a L cap cs m W) -> Calls Tryz.prog 136 #[.agg #[.int .i64 pk, .string t, .string nm, .slice a L cap], .string key] W fun e w' => KidE w' m (cs.find? (ky key)) e /\ (w'.cell? ⟨w.heap.size, 0, none⟩ = some (.int .i64 pk) /\ w'.cell? ⟨w.heap.size, 1, none⟩ = some (.string t) /\ w'.cell? ⟨w.heap.size, 2, none⟩ = some (.string nm) /\ w'.cell? ⟨w.heap.size, 3, none⟩ = some (.slice a L cap)) /\ Hid (RK w pk t nm a L cap cs m w')) :=
  hid (fun key W k => by
   have hc := zap m W pk t nm a cap cs key (by rw [<- HL.out]; exact k.out.cs)
   rw [<- HL.out] at hc
   exact hc.mono fun e w' ⟨he, hb⟩ => ⟨he, (k.out.step hb).cells, hid (k.out.step hb)⟩)
 clear hcs hE
 cases hr : cs.find? (ky ((⟨#[61]⟩ : BA) ++ dg)) with
 | some c =>
  obtain ⟨nk, HNK⟩ : ∃ nk, Hid (nk = c.kids.length) := ⟨_, hid rfl⟩
  have HA1 : Hid (∀ W, Hid (RK w pk t nm a L cap cs m W) -> Calls Tryz.prog 136 #[.agg #[.int .i64 pk, .string t, .string nm, .slice a L cap], .string ((⟨#[61]⟩ : BA) ++ dg)] W fun e w' => ∃ a1 p1, e = .returned (.tuple #[.slice a1 nk p1, .bool true]) /\ (w'.cell? ⟨w.heap.size, 0, none⟩ = some (.int .i64 pk) /\ w'.cell? ⟨w.heap.size, 1, none⟩ = some (.string t) /\ w'.cell? ⟨w.heap.size, 2, none⟩ = some (.string nm) /\ w'.cell? ⟨w.heap.size, 3, none⟩ = some (.slice a L cap)) /\ Hid (SlP w' (Old w') m (.slice a1 nk p1) c.kids) /\ Hid (RK w pk t nm a L cap cs m w')) := hid (fun W k => (HKK.out _ W k).mono fun e w' ⟨he, hc, hk⟩ => by
   rw [hr] at he
   obtain ⟨a1, p1, he1, he2⟩ := he
   rw [<- HNK.out] at he1 he2
   exact ⟨a1, p1, he1, hc, hid he2, hk⟩)
  have HE : Hid (choF cs [(⟨#[61]⟩ : BA) ++ dg, ct, z19] = c.kids) := hid (z4f hr)
  clear hr
  have K0 := hid (K1.out.step (Below.refl _ _).drew)
  have d0 := K0.out.cells
  clear HKK K1
  go_enter Tryz.func135, Tryz.ntmps135
  go_wp2
  go_region_held3 (fun W => (W.cell? ⟨w.heap.size, 0, none⟩ = some (.int .i64 pk) /\ W.cell? ⟨w.heap.size, 1, none⟩ = some (.string t) /\ W.cell? ⟨w.heap.size, 2, none⟩ = some (.string nm) /\ W.cell? ⟨w.heap.size, 3, none⟩ = some (.slice a L cap))) (first | go_keep | assumption)
   (first
    | (go_at_call 63; refine (HC1.out _ ?_).mono ?_; assumption; rintro e U1 ⟨rfl, hq1, hk1⟩)
    | (go_at_call 136; refine (HA1.out _ ?_).mono ?_; assumption; rintro e U2 ⟨a1, p1, rfl, hq2, hs2, hk2⟩)
    | fail)
  all_goals go_wp2
  all_goals go_ret
  all_goals exact ⟨a1, p1, by rw [HE.out, HNK.out]; rfl, by rw [HE.out, <- HNK.out]; exact hs2.out, hk2.out.bel⟩
 | none =>
  have HA1 : Hid (∀ W, Hid (RK w pk t nm a L cap cs m W) -> Calls Tryz.prog 136 #[.agg #[.int .i64 pk, .string t, .string nm, .slice a L cap], .string ((⟨#[61]⟩ : BA) ++ dg)] W fun e w' => e = .returned (.tuple #[.slice none 0 0, .bool false]) /\ (w'.cell? ⟨w.heap.size, 0, none⟩ = some (.int .i64 pk) /\ w'.cell? ⟨w.heap.size, 1, none⟩ = some (.string t) /\ w'.cell? ⟨w.heap.size, 2, none⟩ = some (.string nm) /\ w'.cell? ⟨w.heap.size, 3, none⟩ = some (.slice a L cap)) /\ Hid (RK w pk t nm a L cap cs m w')) := hid (fun W k => (HKK.out _ W k).mono fun e w' ⟨he, hc, hk⟩ => by
   rw [hr] at he
   exact ⟨he, hc, hk⟩)
  have HM1 : Hid (∀ r, choF cs (((⟨#[61]⟩ : BA) ++ dg) :: r) = choF cs r) := hid (fun r => z2z hr)
  clear hr
  cases hr : cs.find? (ky ct) with
  | some c =>
   obtain ⟨nk, HNK⟩ : ∃ nk, Hid (nk = c.kids.length) := ⟨_, hid rfl⟩
   have HA2 : Hid (∀ W, Hid (RK w pk t nm a L cap cs m W) -> Calls Tryz.prog 136 #[.agg #[.int .i64 pk, .string t, .string nm, .slice a L cap], .string (ct)] W fun e w' => ∃ a1 p1, e = .returned (.tuple #[.slice a1 nk p1, .bool true]) /\ (w'.cell? ⟨w.heap.size, 0, none⟩ = some (.int .i64 pk) /\ w'.cell? ⟨w.heap.size, 1, none⟩ = some (.string t) /\ w'.cell? ⟨w.heap.size, 2, none⟩ = some (.string nm) /\ w'.cell? ⟨w.heap.size, 3, none⟩ = some (.slice a L cap)) /\ Hid (SlP w' (Old w') m (.slice a1 nk p1) c.kids) /\ Hid (RK w pk t nm a L cap cs m w')) := hid (fun W k => (HKK.out _ W k).mono fun e w' ⟨he, hc, hk⟩ => by
    rw [hr] at he
    obtain ⟨a1, p1, he1, he2⟩ := he
    rw [<- HNK.out] at he1 he2
    exact ⟨a1, p1, he1, hc, hid he2, hk⟩)
   have HE : Hid (choF cs [(⟨#[61]⟩ : BA) ++ dg, ct, z19] = c.kids) := hid (by rw [HM1.out]; exact z4f hr)
   clear hr
   have K0 := hid (K1.out.step (Below.refl _ _).drew)
   have d0 := K0.out.cells
   clear HKK K1
   go_enter Tryz.func135, Tryz.ntmps135
   go_wp2
   go_region_held3 (fun W => (W.cell? ⟨w.heap.size, 0, none⟩ = some (.int .i64 pk) /\ W.cell? ⟨w.heap.size, 1, none⟩ = some (.string t) /\ W.cell? ⟨w.heap.size, 2, none⟩ = some (.string nm) /\ W.cell? ⟨w.heap.size, 3, none⟩ = some (.slice a L cap))) (first | go_keep | assumption)
    (first
     | (go_at_call 63; refine (HC1.out _ ?_).mono ?_; assumption; rintro e U1 ⟨rfl, hq1, hk1⟩)
     | (go_at_call 136; refine (HA1.out _ ?_).mono ?_; assumption; rintro e U2 ⟨rfl, hq2, hk2⟩)
     | fail)
   all_goals (have K3 := hid (hk2.out.step (Below.refl _ _).drew))
   all_goals have e0 := K3.out.cells
   all_goals go_wp2
   go_region_held3 (fun W => (W.cell? ⟨w.heap.size, 0, none⟩ = some (.int .i64 pk) /\ W.cell? ⟨w.heap.size, 1, none⟩ = some (.string t) /\ W.cell? ⟨w.heap.size, 2, none⟩ = some (.string nm) /\ W.cell? ⟨w.heap.size, 3, none⟩ = some (.slice a L cap))) (first | go_keep | assumption)
    (first
     | (go_at_call 173; refine (HC2.out _ ?_).mono ?_; assumption; rintro e U3 ⟨rfl, hq3, hk3⟩)
     | (go_at_call 136; refine (HA2.out _ ?_).mono ?_; assumption; rintro e U4 ⟨a1, p1, rfl, hq4, hs4, hk4⟩)
     | fail)
   all_goals go_wp2
   all_goals go_ret
   all_goals exact ⟨a1, p1, by rw [HE.out, HNK.out]; rfl, by rw [HE.out, <- HNK.out]; exact hs4.out, hk4.out.bel⟩
  | none =>
   have HA2 : Hid (∀ W, Hid (RK w pk t nm a L cap cs m W) -> Calls Tryz.prog 136 #[.agg #[.int .i64 pk, .string t, .string nm, .slice a L cap], .string (ct)] W fun e w' => e = .returned (.tuple #[.slice none 0 0, .bool false]) /\ (w'.cell? ⟨w.heap.size, 0, none⟩ = some (.int .i64 pk) /\ w'.cell? ⟨w.heap.size, 1, none⟩ = some (.string t) /\ w'.cell? ⟨w.heap.size, 2, none⟩ = some (.string nm) /\ w'.cell? ⟨w.heap.size, 3, none⟩ = some (.slice a L cap)) /\ Hid (RK w pk t nm a L cap cs m w')) := hid (fun W k => (HKK.out _ W k).mono fun e w' ⟨he, hc, hk⟩ => by
    rw [hr] at he
    exact ⟨he, hc, hk⟩)
   have HM2 : Hid (∀ r, choF cs (ct :: r) = choF cs r) := hid (fun r => z2z hr)
   clear hr
   cases hr : cs.find? (ky z19) with
   | some c =>
    obtain ⟨nk, HNK⟩ : ∃ nk, Hid (nk = c.kids.length) := ⟨_, hid rfl⟩
    have HA3 : Hid (∀ W, Hid (RK w pk t nm a L cap cs m W) -> Calls Tryz.prog 136 #[.agg #[.int .i64 pk, .string t, .string nm, .slice a L cap], .string (⟨#[111, 116, 104, 101, 114]⟩)] W fun e w' => ∃ a1 p1, e = .returned (.tuple #[.slice a1 nk p1, .bool true]) /\ (w'.cell? ⟨w.heap.size, 0, none⟩ = some (.int .i64 pk) /\ w'.cell? ⟨w.heap.size, 1, none⟩ = some (.string t) /\ w'.cell? ⟨w.heap.size, 2, none⟩ = some (.string nm) /\ w'.cell? ⟨w.heap.size, 3, none⟩ = some (.slice a L cap)) /\ Hid (SlP w' (Old w') m (.slice a1 nk p1) c.kids) /\ Hid (RK w pk t nm a L cap cs m w')) := hid (fun W k => (HKK.out _ W k).mono fun e w' ⟨he, hc, hk⟩ => by
     rw [hr] at he
     obtain ⟨a1, p1, he1, he2⟩ := he
     rw [<- HNK.out] at he1 he2
     exact ⟨a1, p1, he1, hc, hid he2, hk⟩)
    have HE : Hid (choF cs [(⟨#[61]⟩ : BA) ++ dg, ct, z19] = c.kids) := hid (by rw [HM1.out, HM2.out]; exact z4f hr)
    clear hr
    have K0 := hid (K1.out.step (Below.refl _ _).drew)
    have d0 := K0.out.cells
    clear HKK K1
    go_enter Tryz.func135, Tryz.ntmps135
    go_wp2
    go_region_held3 (fun W => (W.cell? ⟨w.heap.size, 0, none⟩ = some (.int .i64 pk) /\ W.cell? ⟨w.heap.size, 1, none⟩ = some (.string t) /\ W.cell? ⟨w.heap.size, 2, none⟩ = some (.string nm) /\ W.cell? ⟨w.heap.size, 3, none⟩ = some (.slice a L cap))) (first | go_keep | assumption)
     (first
      | (go_at_call 63; refine (HC1.out _ ?_).mono ?_; assumption; rintro e U1 ⟨rfl, hq1, hk1⟩)
      | (go_at_call 136; refine (HA1.out _ ?_).mono ?_; assumption; rintro e U2 ⟨rfl, hq2, hk2⟩)
      | fail)
    all_goals (have K3 := hid (hk2.out.step (Below.refl _ _).drew))
    all_goals have e0 := K3.out.cells
    all_goals go_wp2
    go_region_held3 (fun W => (W.cell? ⟨w.heap.size, 0, none⟩ = some (.int .i64 pk) /\ W.cell? ⟨w.heap.size, 1, none⟩ = some (.string t) /\ W.cell? ⟨w.heap.size, 2, none⟩ = some (.string nm) /\ W.cell? ⟨w.heap.size, 3, none⟩ = some (.slice a L cap))) (first | go_keep | assumption)
     (first
      | (go_at_call 173; refine (HC2.out _ ?_).mono ?_; assumption; rintro e U3 ⟨rfl, hq3, hk3⟩)
      | (go_at_call 136; refine (HA2.out _ ?_).mono ?_; assumption; rintro e U4 ⟨rfl, hq4, hk4⟩)
      | fail)
    all_goals obtain ⟨f0, f1, f2, f3⟩ := hk4.out.cells
    all_goals go_wp2_with fail
    refine (HA3.out _ hk4).mono ?_
    rintro e U5 ⟨a1, p1, rfl, hq5, hs5, hk5⟩
    clear f0 f1 f2 f3
    all_goals go_wp2
    all_goals go_ret
    all_goals exact ⟨a1, p1, by rw [HE.out, HNK.out]; rfl, by rw [HE.out, <- HNK.out]; exact hs5.out, hk5.out.bel⟩
   | none =>
    have HA3 : Hid (∀ W, Hid (RK w pk t nm a L cap cs m W) -> Calls Tryz.prog 136 #[.agg #[.int .i64 pk, .string t, .string nm, .slice a L cap], .string (⟨#[111, 116, 104, 101, 114]⟩)] W fun e w' => e = .returned (.tuple #[.slice none 0 0, .bool false]) /\ (w'.cell? ⟨w.heap.size, 0, none⟩ = some (.int .i64 pk) /\ w'.cell? ⟨w.heap.size, 1, none⟩ = some (.string t) /\ w'.cell? ⟨w.heap.size, 2, none⟩ = some (.string nm) /\ w'.cell? ⟨w.heap.size, 3, none⟩ = some (.slice a L cap)) /\ Hid (RK w pk t nm a L cap cs m w')) := hid (fun W k => (HKK.out _ W k).mono fun e w' ⟨he, hc, hk⟩ => by
     rw [hr] at he
     exact ⟨he, hc, hk⟩)
    have HE : Hid (choF cs [(⟨#[61]⟩ : BA) ++ dg, ct, z19] = []) := hid (by rw [HM1.out, HM2.out]; exact z2z hr)
    clear hr
    have K0 := hid (K1.out.step (Below.refl _ _).drew)
    have d0 := K0.out.cells
    clear HKK K1
    go_enter Tryz.func135, Tryz.ntmps135
    go_wp2
    go_region_held3 (fun W => (W.cell? ⟨w.heap.size, 0, none⟩ = some (.int .i64 pk) /\ W.cell? ⟨w.heap.size, 1, none⟩ = some (.string t) /\ W.cell? ⟨w.heap.size, 2, none⟩ = some (.string nm) /\ W.cell? ⟨w.heap.size, 3, none⟩ = some (.slice a L cap))) (first | go_keep | assumption)
     (first
      | (go_at_call 63; refine (HC1.out _ ?_).mono ?_; assumption; rintro e U1 ⟨rfl, hq1, hk1⟩)
      | (go_at_call 136; refine (HA1.out _ ?_).mono ?_; assumption; rintro e U2 ⟨rfl, hq2, hk2⟩)
      | fail)
    all_goals (have K3 := hid (hk2.out.step (Below.refl _ _).drew))
    all_goals have e0 := K3.out.cells
    all_goals go_wp2
    go_region_held3 (fun W => (W.cell? ⟨w.heap.size, 0, none⟩ = some (.int .i64 pk) /\ W.cell? ⟨w.heap.size, 1, none⟩ = some (.string t) /\ W.cell? ⟨w.heap.size, 2, none⟩ = some (.string nm) /\ W.cell? ⟨w.heap.size, 3, none⟩ = some (.slice a L cap))) (first | go_keep | assumption)
     (first
      | (go_at_call 173; refine (HC2.out _ ?_).mono ?_; assumption; rintro e U3 ⟨rfl, hq3, hk3⟩)
      | (go_at_call 136; refine (HA2.out _ ?_).mono ?_; assumption; rintro e U4 ⟨rfl, hq4, hk4⟩)
      | fail)
    all_goals obtain ⟨f0, f1, f2, f3⟩ := hk4.out.cells
    all_goals go_wp2_with fail
    refine (HA3.out _ hk4).mono ?_
    rintro e U5 ⟨rfl, hq5, hk5⟩
    clear f0 f1 f2 f3
    go_wp2
    go_ret
    exact ⟨none, 0, by rw [HE.out]; rfl, by rw [HE.out]; exact Sl.nil _ _ _ _, hk5.out.bel⟩
end Go.Proofs.YtdnedbcmgkilaaaGreatDoor
