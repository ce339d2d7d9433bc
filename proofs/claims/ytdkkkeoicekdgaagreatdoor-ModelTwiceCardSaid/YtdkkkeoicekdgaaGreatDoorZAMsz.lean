/- Package model: a result stored where no client is. -/
import Derived.Test.YtdkkkeoicekdgaaGreatDoorZAMsn

namespace Go.Proofs.YtdkkkeoicekdgaaGreatDoor.Md
set_option maxHeartbeats 12800000
set_option maxRecDepth 100000
open Go.RowKit Go.Maps Go.WideShapes Go.WideMaps Go.Proofs.YtdkkkeoicekdgaaGreatDoor Go.Proofs.YtdkkkeoicekdgaaGreatDoor.Ca
theorem z88 (w : World) (m : Mdl) (ae : Option Addr) (ce : Nat) (ac : Option Addr) (cc M : Nat) (c : Cli) (hst : StAt w m ae ce ac cc M) (hsr : SrtC m.cs) (hl : m.cs.length <= 16) (hle : m.es.length <= 1000) (hid : ∀ x, x ∈ m.cs -> 1 <= x.id /\ x.id <= 1073741824) (hci : 1 <= c.id /\ c.id <= 1073741824) (hun : ∀ x, x ∈ m.cs -> x.id ≠ c.id) (hnone : ac = none) :
  Calls Tryz.prog 83 #[.agg (stC m.vr (.slice ae m.es.length ce) (.slice ac m.cs.length cc) M), clV c] w (z1n ⟨m.vr, m.es, putL c m.cs⟩ w) := by
 obtain ⟨v, es, cs⟩ := m
 obtain ⟨ci, cq, ca, cv⟩ := c
 simp only at hst hsr hl hle hid hci hun ⊢
 have HLT := Lib.hid hst.lt
 obtain ⟨n0, D, hom, hgd⟩ := hst.map
 have HOM := Lib.hid hom
 have HGD := Lib.hid hgd
 have HSR := Lib.hid hsr
 have HID := Lib.hid hid
 obtain ⟨Le, HLe⟩ : ∃ L, Hid (L = es.length) := ⟨_, Lib.hid rfl⟩
 obtain ⟨Lc, HLc⟩ : ∃ L, Hid (L = cs.length) := ⟨_, Lib.hid rfl⟩
 have hLc : Lc <= 16 := by have := HLc.out; omega
 have hLe : Le <= 1000 := by have := HLe.out; omega
 have HKY : Hid (keyOf Tryz.prog 3 (.int .i64 ci) = some (kI ci)) := Lib.hid (keyOf_int_mk Tryz.underlying3 (wfI (by omega) (by omega)))
 have hcap := hst.cs.len
 simp only at hcap
 rw [<- HLe.out, <- HLc.out]
 have hcc1 : Lc <= cc := by have := HLc.out; omega
 have hcc2 : cc <= 9223372036854775807 := hcap.2.2
 obtain ⟨W1, HW1⟩ : ∃ W, Hid (W = ((w.alloc (.cells (stC v (.slice ae Le ce) (.slice ac Lc cc) M) 73)).alloc (.cells #[.int .i64 ci, .int .i64 cq, .int .i64 ca, .int .i64 cv] 32)).alloc (.cells #[.int .i64 0, .slice none 0 0, .slice none 0 0, .map none] 73)) := ⟨_, Lib.hid rfl⟩
 have HSZ : Hid (W1.heap.size = w.heap.size + 3) := Lib.hid (by rw [HW1.out]; simp)
 have HB1 : Hid (Below w.heap.size w W1) := Lib.hid (by rw [HW1.out]; exact z48 w _ _ _)
 have HRA : Hid (Row W1 w.heap.size 73 [.int .i64 v, .slice ae Le ce, .slice ac Lc cc, .map (some M)]) := Lib.hid (by rw [HW1.out]; exact ((z02 w (stC v (.slice ae Le ce) (.slice ac Lc cc) M) _).alloc _).alloc _)
 have HRC : Hid (Row W1 (w.heap.size + 1) 32 [.int .i64 ci, .int .i64 cq, .int .i64 ca, .int .i64 cv]) := Lib.hid (by
  rw [HW1.out]
  have h := (z02 (w.alloc (.cells (stC v (.slice ae Le ce) (.slice ac Lc cc) M) 73)) #[.int .i64 ci, .int .i64 cq, .int .i64 ca, .int .i64 cv] 32).alloc (.cells #[.int .i64 0, .slice none 0 0, .slice none 0 0, .map none] 73)
  rwa [World.size_alloc] at h)
 have HRB : Hid (Row W1 (w.heap.size + 1 + 1) 73 [.int .i64 0, .slice none 0 0, .slice none 0 0, .map none]) := Lib.hid (by
  rw [HW1.out]
  have h := z02 ((w.alloc (.cells (stC v (.slice ae Le ce) (.slice ac Lc cc) M) 73)).alloc (.cells #[.int .i64 ci, .int .i64 cq, .int .i64 ca, .int .i64 cv] 32)) #[.int .i64 0, .slice none 0 0, .slice none 0 0, .map none] 73
  simpa only [World.size_alloc] using h)
 have HO1 : Hid (OMm W1 M n0 D) := Lib.hid (z0r HOM.out (HB1.out.block _ HLT.out.lt))
 have a2 : (((w.alloc (.cells (stC v (.slice ae Le ce) (.slice ac Lc cc) M) 73)).alloc (.cells #[.int .i64 ci, .int .i64 cq, .int .i64 ca, .int .i64 cv] 32)).alloc (.cells #[.int .i64 0, .slice none 0 0, .slice none 0 0, .map none] 73)).cell? ⟨w.heap.size, 3, none⟩ = some (.map (some M)) := by rw [<- HW1.out]; exact HRA.out.cell rfl
 have b0 : (((w.alloc (.cells (stC v (.slice ae Le ce) (.slice ac Lc cc) M) 73)).alloc (.cells #[.int .i64 ci, .int .i64 cq, .int .i64 ca, .int .i64 cv] 32)).alloc (.cells #[.int .i64 0, .slice none 0 0, .slice none 0 0, .map none] 73)).cell? ⟨w.heap.size + 1, 0, none⟩ = some (.int .i64 ci) := by rw [<- HW1.out]; exact HRC.out.cell rfl
 have HO0 : Hid (OMm (((w.alloc (.cells (stC v (.slice ae Le ce) (.slice ac Lc cc) M) 73)).alloc (.cells #[.int .i64 ci, .int .i64 cq, .int .i64 ca, .int .i64 cv] 32)).alloc (.cells #[.int .i64 0, .slice none 0 0, .slice none 0 0, .map none] 73)) M n0 D) := Lib.hid (by rw [<- HW1.out]; exact HO1.out)
 have HHAS : Hid (Maps.has D (kI ci) = false) := Lib.hid (by
  cases hh : Maps.has D (kI ci) with
  | false => rfl
  | true =>
   obtain ⟨j, x, h1, h2, h3⟩ := (hgd.has ci).1 hh
   exact absurd h3 (hun x (List.mem_of_getElem? h2)))
 have HUN := Lib.hid hun
 subst hnone
 obtain rfl : cc = 0 := hst.nil rfl
 have hL0 : Lc = 0 := by
  have h9 : cs = [] := by
   cases cs with
   | nil => rfl
   | cons y r => obtain ⟨b, off, ha, -⟩ := hst.cs.get (j := 0) rfl; cases ha
  rw [HLc.out, h9]; rfl
 have HL0 := Lib.hid hL0
 clear hL0
 have HCS : Hid (∀ W, Below w.heap.size w W -> SlL W (Old W) (.slice none cs.length 0) cs) := Lib.hid (fun W h => hst.cs.old h)
 have HS1 : Hid (∀ W, Below W1.heap.size W1 W -> (W.cell? ⟨w.heap.size + 1, 0, none⟩ = some (.int .i64 ci) /\ W.cell? ⟨w.heap.size + 1, 1, none⟩ = some (.int .i64 cq) /\ W.cell? ⟨w.heap.size + 1, 2, none⟩ = some (.int .i64 ca) /\ W.cell? ⟨w.heap.size + 1, 3, none⟩ = some (.int .i64 cv)) /\ W.cell? ⟨w.heap.size, 2, none⟩ = some (.slice none Lc 0) /\ W.frozen? ⟨w.heap.size, 2, none⟩ = false) := Lib.hid (fun W h =>
  ⟨⟨(HRC.out.below h).cell rfl, (HRC.out.below h).cell rfl, (HRC.out.below h).cell rfl, (HRC.out.below h).cell rfl⟩, (HRA.out.below h).cell rfl, (HRA.out.below h).thaw _⟩)
 have HNEW : Hid (∀ W a8 c8, Below w.heap.size w W -> OwnL W W1.heap.size (.slice a8 (Lc + 1) c8) (putL ⟨ci, cq, ca, cv⟩ cs) -> (putL ⟨ci, cq, ca, cv⟩ cs).length = Lc + 1 -> Calls Tryz.prog 39 #[.agg #[.int .i64 v, .slice ae Le ce, .slice a8 (Lc + 1) c8]] W (z1n ⟨v, es, putL ⟨ci, cq, ca, cv⟩ cs⟩ W)) := Lib.hid (fun W a8 c8 hb ho hpl => by
  have h := z2y W v ae ce es a8 c8 (putL ⟨ci, cq, ca, cv⟩ cs) (hst.es.old hb) (by rw [hpl]; exact OwnL.sl ho) hle (by omega) (z99 hsr) (fun x hx => by
   rcases z3c hx with rfl | hx
   ·exact ⟨by simp only; omega, by simp only; omega⟩
   ·have := hid x hx; omega)
  rw [hpl, <- HLe.out] at h
  exact h)
 clear hst hsr hl hle hid hom hgd hcap hun
 go_enter Tryz.func83, Tryz.ntmps83
 go_wp2_with (at_lookup; refine wpList_lookup_own_ok_int _ rfl _ _ 71 rfl 3 3 .i64 lawI Tryz.underlying71 Tryz.underlying3 (zeroI _) M _ _ rfl HO0.out _ _ rfl HKY.out ?_; intro cw hat hwc; rw [HHAS.out]; clear hat hwc)
 rw [<- HW1.out]
 clear a2 b0 HO0
 go_loopw [7] (fun v7 wr => ∃ p : Nat, p <= Lc /\ v7 = .int .i64 p /\ Hid (∀ (j : Nat) x, j < p -> cs[j]? = some x -> x.id < ci) /\ Hid (Below W1.heap.size W1 wr)) (fun v7 _ => Lc - (intOf v7).toNat)
 case atStart => exact ⟨0, Nat.zero_le _, rfl, Lib.hid (fun j x h => by omega), Lib.hid (Below.refl _ _)⟩
 case round =>
  obtain ⟨p, hp, rfl, HLE, HBR⟩ := hrel
  obtain ⟨⟨q0, q1, q2, q3⟩, a3, -⟩ := HS1.out wr HBR.out
  clear q1 q2 q3
  by_cases hlt : p < Lc
  ·exact absurd hlt (by have := HL0.out; omega)
  ·have HPL : Hid (p = Lc) := Lib.hid (by omega)
   obtain rfl : p = 0 := by have := HL0.out; omega
   have HPUT : Hid (putL ⟨ci, cq, ca, cv⟩ cs = cs.take 0 ++ ⟨ci, cq, ca, cv⟩ :: cs.drop 0) := Lib.hid (z3d (by have := HLc.out; omega) HLE.out (fun y hy => by have h9 := (List.getElem?_eq_some_iff.1 hy).1; have := HLc.out; have := HPL.out; omega))
   have HPLN : Hid ((putL ⟨ci, cq, ca, cv⟩ cs).length = Lc + 1) := Lib.hid (by rw [HPUT.out]; have := HLc.out; simp; omega)
   have hp1 : ((0 : Nat) : Int) <= ((0 : Nat) : Int) := by omega
   have hp2 : ((0 : Nat) : Int) <= (Lc : Int) := by omega
   have hp3 : ((0 : Nat) : Int) <= (0 : Int) := by omega
   go_wp2
   go_quiet (fail)
   have HB2 := Lib.hid (z09 HBR.out nq)
   generalize wr.drewN nq = W2 at *
   clear q0 a3
   have hk0 : Below W1.heap.size W1 W2.drew := HB2.out.drew
   have hkb : Below W1.heap.size W1 (W2.alloc (.cells #[.int .i64 ci, .int .i64 cq, .int .i64 ca, .int .i64 cv] 32)).drew := (z00 HB2.out (z04 _ _)).drew
   have hkc : Below W1.heap.size W1 ((W2.alloc (.cells #[.int .i64 ci, .int .i64 cq, .int .i64 ca, .int .i64 cv] 32)).alloc (.cells #[.slice none 0 0, .slice (some ⟨W2.heap.size, 0, none⟩) 1 1, .slice none 0 0] 23)).drew := (z00 HB2.out (z2l _ _ _)).drew
   obtain ⟨hq0, a20, -⟩ := HS1.out _ hk0
   obtain ⟨hqb, a2b, -⟩ := HS1.out _ hkb
   obtain ⟨hqc, -, -⟩ := HS1.out _ hkc
   have HLI : Hid (z49 ((W2.alloc (.cells #[.int .i64 ci, .int .i64 cq, .int .i64 ca, .int .i64 cv] 32)).alloc (.cells #[.slice none 0 0, .slice (some ⟨W2.heap.size, 0, none⟩) 1 1, .slice none 0 0] 23)).drew (W2.heap.size + 1) [cs.take 0, [⟨ci, cq, ca, cv⟩], cs.drop 0]) := Lib.hid (by
    have hcs := (HCS.out _ (z00 HB1.out hkc))
    have q1 := (z02 W2 #[.int .i64 ci, .int .i64 cq, .int .i64 ca, .int .i64 cv] 32).alloc (.cells #[.slice none 0 0, .slice (some ⟨W2.heap.size, 0, none⟩) 1 1, .slice none 0 0] 23)
    have q2 := z02 (W2.alloc (.cells #[.int .i64 ci, .int .i64 cq, .int .i64 ca, .int .i64 cv] 32)) #[.slice none 0 0, .slice (some ⟨W2.heap.size, 0, none⟩) 1 1, .slice none 0 0] 23
    rw [World.size_alloc] at q2
    refine ⟨by simp, fun k l hk => ?_⟩
    match k, hk with
    | 0, hk =>
     obtain rfl := Option.some.inj hk
     exact z2o hcs (by have := HLc.out; omega) (q2.cell rfl)
    | 1, hk =>
     obtain rfl := Option.some.inj hk
     exact ⟨some ⟨W2.heap.size, 0, none⟩, 1, q2.cell rfl, z68 q1⟩
    | 2, hk =>
     obtain rfl := Option.some.inj hk
     exact z7k HLc.out HPL.out (q2.cell rfl)
    | k + 3, hk => simp at hk)
   have HC : Hid (Calls Tryz.prog 129 #[.slice (some ⟨W2.heap.size + 1, 0, none⟩) 3 3] ((W2.alloc (.cells #[.int .i64 ci, .int .i64 cq, .int .i64 ca, .int .i64 cv] 32)).alloc (.cells #[.slice none 0 0, .slice (some ⟨W2.heap.size, 0, none⟩) 1 1, .slice none 0 0] 23)).drew fun e w' => ∃ a8 c8, e = .returned (.slice a8 (Lc + 1) c8) /\ (w'.cell? ⟨w.heap.size + 1, 0, none⟩ = some (.int .i64 ci) /\ w'.cell? ⟨w.heap.size + 1, 1, none⟩ = some (.int .i64 cq) /\ w'.cell? ⟨w.heap.size + 1, 2, none⟩ = some (.int .i64 ca) /\ w'.cell? ⟨w.heap.size + 1, 3, none⟩ = some (.int .i64 cv)) /\ w'.cell? ⟨w.heap.size, 2, none⟩ = some (.slice none Lc 0) /\ w'.frozen? ⟨w.heap.size, 2, none⟩ = false /\ Hid (OwnL w' W1.heap.size (.slice a8 (Lc + 1) c8) (cs.take 0 ++ ⟨ci, cq, ca, cv⟩ :: cs.drop 0)) /\ Hid (Below W1.heap.size W1 w')) := Lib.hid (by
    have h := z2d _ (W2.heap.size + 1) 3 [cs.take 0, [⟨ci, cq, ca, cv⟩], cs.drop 0] HLI.out (by simp) (by simp) (by simp; have := HLc.out; omega)
    refine h.mono fun e w' hh => ?_
    obtain ⟨v8, he, hown, hb⟩ := hh
    have hfl : [cs.take 0, [(⟨ci, cq, ca, cv⟩ : Cli)], cs.drop 0].flatten = cs.take 0 ++ ⟨ci, cq, ca, cv⟩ :: cs.drop 0 := by simp
    have hle8 : (cs.take 0 ++ (⟨ci, cq, ca, cv⟩ : Cli) :: cs.drop 0).length = Lc + 1 := by have := HLc.out; simp; omega
    rw [hfl] at hown
    obtain ⟨a8, c8, rfl, -⟩ := z0g hown
    have hb9 := z00 hkc hb
    obtain ⟨g1, g2, g3⟩ := HS1.out w' hb9
    rw [hle8] at he
    refine ⟨a8, c8, he, g1, g2, g3, Lib.hid ?_, Lib.hid hb9⟩
    have h9 := z1g (B' := W1.heap.size) hown (by have := hkc.size; exact this)
    rw [hle8] at h9
    have h10 : OwnL w' W1.heap.size (.slice a8 (Lc + 1) c8) (cs.take 0 ++ ⟨ci, cq, ca, cv⟩ :: cs.drop 0) := by unfold OwnL; rw [hle8]; exact h9
    exact h10)
   go_wp2_with fail
   refine wp_region_noPanic ?_
   refine wp_region_held_drew (S := fun W => W.cell? ⟨w.heap.size + 1, 0, none⟩ = some (.int .i64 ci) /\ W.cell? ⟨w.heap.size + 1, 1, none⟩ = some (.int .i64 cq) /\ W.cell? ⟨w.heap.size + 1, 2, none⟩ = some (.int .i64 ca) /\ W.cell? ⟨w.heap.size + 1, 3, none⟩ = some (.int .i64 cv)) (by kernel_rfl) ?_ (fun hz0 => ?_)
   ·exact hq0
   refine wpAnyH_take (i := 0) (oi := { dst := some 50, op := .fieldAddr 73 (.tmp 2) 0, type := 0, pos := "state.go:75", after := #[], guard := none }) (v := ?_) rfl (by kernel_rfl) (by kernel_rfl) (by kernel_rfl) (fun _ _ _ h => h) (Or.inl ⟨by rfl, ?_⟩) (by assumption) ?_
   rotate_left
   ·(intro w hSw; (try dsimp only at hSw); go_simp) <;> with_reducible rfl
   simp only [Act.put, List.setIfInBounds_toArray, List.set_cons_zero, List.set_cons_succ]
   refine wpAnyH_take (i := 1) (oi := { dst := some 51, op := .fieldAddr 25 (.tmp 50) 2, type := 0, pos := "state.go:75", after := #[{ on := 0, ground := .data }], guard := none }) (v := ?_) rfl (by kernel_rfl) (by kernel_rfl) (by kernel_rfl) (fun _ _ _ h => h) (Or.inl ⟨by rfl, ?_⟩) (by assumption) ?_
   rotate_left
   ·(intro w hSw; (try dsimp only at hSw); go_simp) <;> with_reducible rfl
   simp only [Act.put, List.setIfInBounds_toArray, List.set_cons_zero, List.set_cons_succ]
   refine wpAnyH_take (i := 3) (oi := { dst := some 53, op := .move (.tmp 7), type := 3, pos := "state.go:75", after := #[], guard := none }) (v := ?_) rfl (by kernel_rfl) (by kernel_rfl) (by kernel_rfl) (fun _ _ _ h => h) (Or.inl ⟨by rfl, ?_⟩) (by assumption) ?_
   rotate_left
   ·(intro w hSw; (try dsimp only at hSw); go_simp) <;> with_reducible rfl
   simp only [Act.put, List.setIfInBounds_toArray, List.set_cons_zero, List.set_cons_succ]
   refine wpAnyH_take (i := 5) (oi := { dst := some 55, op := .load 32 (.tmp 3), type := 32, pos := "state.go:75", after := #[], guard := none }) (v := ?_) rfl (by kernel_rfl) (by kernel_rfl) (by kernel_rfl) (fun _ _ _ h => h) (Or.inl ⟨by rfl, ?_⟩) (by assumption) ?_
   rotate_left
   ·(intro w hSw; (try dsimp only at hSw); go_simp) <;> with_reducible rfl
   simp only [Act.put, List.setIfInBounds_toArray, List.set_cons_zero, List.set_cons_succ]
   refine wpAnyH_take (i := 7) (oi := { dst := some 57, op := .fieldAddr 73 (.tmp 2) 0, type := 0, pos := "state.go:75", after := #[], guard := none }) (v := ?_) rfl (by kernel_rfl) (by kernel_rfl) (by kernel_rfl) (fun _ _ _ h => h) (Or.inl ⟨by rfl, ?_⟩) (by assumption) ?_
   rotate_left
   ·(intro w hSw; (try dsimp only at hSw); go_simp) <;> with_reducible rfl
   simp only [Act.put, List.setIfInBounds_toArray, List.set_cons_zero, List.set_cons_succ]
   refine wpAnyH_take (i := 8) (oi := { dst := some 58, op := .fieldAddr 25 (.tmp 57) 2, type := 0, pos := "state.go:75", after := #[{ on := 7, ground := .data }], guard := none }) (v := ?_) rfl (by kernel_rfl) (by kernel_rfl) (by kernel_rfl) (fun _ _ _ h => h) (Or.inl ⟨by rfl, ?_⟩) (by assumption) ?_
   rotate_left
   ·(intro w hSw; (try dsimp only at hSw); go_simp) <;> with_reducible rfl
   simp only [Act.put, List.setIfInBounds_toArray, List.set_cons_zero, List.set_cons_succ]
   refine wpAnyH_take (i := 10) (oi := { dst := some 60, op := .move (.tmp 7), type := 3, pos := "state.go:75", after := #[], guard := none }) (v := ?_) rfl (by kernel_rfl) (by kernel_rfl) (by kernel_rfl) (fun _ _ _ h => h) (Or.inl ⟨by rfl, ?_⟩) (by assumption) ?_
   rotate_left
   ·(intro w hSw; (try dsimp only at hSw); go_simp) <;> with_reducible rfl
   simp only [Act.put, List.setIfInBounds_toArray, List.set_cons_zero, List.set_cons_succ]
   refine wpAnyH_ready (rs := [2, 6, 9]) (by kernel_rfl) (by simp) ?_
   refine AllReadyH.cons (o := { dst := some 52, op := .load 23 (.tmp 51), type := 23, pos := "state.go:75", after := #[{ on := 1, ground := .data }], guard := none }) rfl (fun K hK => ?_) ?_
   focus
    go_simp
    refine hK.out _ _ ?_ (fun hz1 => ?_)
    ·(try dsimp only) <;> (first | exact hq0 | exact hqb)
    clear hK K hz0
    try simp only [Act.put, List.setIfInBounds_toArray, List.set_cons_zero, List.set_cons_succ]
    refine wpAnyH_take (i := 4) (oi := { dst := some 54, op := .slice 23 (.tmp 52) none (some (.tmp 53)) none, type := 23, pos := "state.go:75", after := #[{ on := 2, ground := .data }, { on := 3, ground := .data }], guard := none }) (v := ?_) rfl (by kernel_rfl) (by kernel_rfl) (by kernel_rfl) (fun _ _ _ h => h) (Or.inl ⟨by rfl, ?_⟩) (by assumption) ?_
    rotate_left
    ·(intro w hSw; (try dsimp only at hSw); go_simp) <;> with_reducible rfl
    simp only [Act.put, List.setIfInBounds_toArray, List.set_cons_zero, List.set_cons_succ]
    refine wpAnyH_ready (rs := [6, 9]) (by kernel_rfl) (by simp) ?_
    refine AllReadyH.cons (o := { dst := some 56, op := .buildSlice 23 1 #[(0, .tmp 55)], type := 23, pos := "state.go:75", after := #[{ on := 5, ground := .data }], guard := none }) rfl (fun K hK => ?_) ?_
    focus
     go_simp
     refine hK.out _ _ ?_ (fun hz2 => ?_)
     ·(try dsimp only) <;> (first | exact hq0 | exact hqb)
     clear hK K hz1
     try simp only [Act.put, List.setIfInBounds_toArray, List.set_cons_zero, List.set_cons_succ]
     refine wpAnyH_ready (rs := [9]) (by kernel_rfl) (by simp) ?_
     refine AllReadyH.cons (o := { dst := some 59, op := .load 23 (.tmp 58), type := 23, pos := "state.go:75", after := #[{ on := 8, ground := .data }], guard := none }) rfl (fun K hK => ?_) AllReadyH.nil
     go_simp
     refine hK.out _ _ ?_ (fun hz3 => ?_)
     ·(try dsimp only) <;> (first | exact hq0 | exact hqb)
     clear hK K hz2
     try simp only [Act.put, List.setIfInBounds_toArray, List.set_cons_zero, List.set_cons_succ]
     refine wpAnyH_take (i := 11) (oi := { dst := some 61, op := .slice 23 (.tmp 59) (some (.tmp 60)) none none, type := 23, pos := "state.go:75", after := #[{ on := 9, ground := .data }, { on := 10, ground := .data }], guard := none }) (v := ?_) rfl (by kernel_rfl) (by kernel_rfl) (by kernel_rfl) (fun _ _ _ h => h) (Or.inl ⟨by rfl, ?_⟩) (by assumption) ?_
     rotate_left
     ·(intro w hSw; (try dsimp only at hSw); go_simp) <;> with_reducible rfl
     simp only [Act.put, List.setIfInBounds_toArray, List.set_cons_zero, List.set_cons_succ]
    rotate_left
    refine AllReadyH.cons (o := { dst := some 59, op := .load 23 (.tmp 58), type := 23, pos := "state.go:75", after := #[{ on := 8, ground := .data }], guard := none }) rfl (fun K hK => ?_) AllReadyH.nil
    go_simp
    refine hK.out _ _ ?_ (fun hz2 => ?_)
    ·(try dsimp only) <;> (first | exact hq0 | exact hqb)
    clear hK K hz1
    try simp only [Act.put, List.setIfInBounds_toArray, List.set_cons_zero, List.set_cons_succ]
    refine wpAnyH_take (i := 11) (oi := { dst := some 61, op := .slice 23 (.tmp 59) (some (.tmp 60)) none none, type := 23, pos := "state.go:75", after := #[{ on := 9, ground := .data }, { on := 10, ground := .data }], guard := none }) (v := ?_) rfl (by kernel_rfl) (by kernel_rfl) (by kernel_rfl) (fun _ _ _ h => h) (Or.inl ⟨by rfl, ?_⟩) (by assumption) ?_
    rotate_left
    ·(intro w hSw; (try dsimp only at hSw); go_simp) <;> with_reducible rfl
    simp only [Act.put, List.setIfInBounds_toArray, List.set_cons_zero, List.set_cons_succ]
    refine wpAnyH_ready (rs := [6]) (by kernel_rfl) (by simp) ?_
    refine AllReadyH.cons (o := { dst := some 56, op := .buildSlice 23 1 #[(0, .tmp 55)], type := 23, pos := "state.go:75", after := #[{ on := 5, ground := .data }], guard := none }) rfl (fun K hK => ?_) AllReadyH.nil
    go_simp
    refine hK.out _ _ ?_ (fun hz3 => ?_)
    ·(try dsimp only) <;> (first | exact hq0 | exact hqb)
    clear hK K hz2
    try simp only [Act.put, List.setIfInBounds_toArray, List.set_cons_zero, List.set_cons_succ]
   rotate_left 2
   refine AllReadyH.cons (o := { dst := some 56, op := .buildSlice 23 1 #[(0, .tmp 55)], type := 23, pos := "state.go:75", after := #[{ on := 5, ground := .data }], guard := none }) rfl (fun K hK => ?_) ?_
   focus
    go_simp
    refine hK.out _ _ ?_ (fun hz1 => ?_)
    ·(try dsimp only) <;> (first | exact hq0 | exact hqb)
    clear hK K hz0
    try simp only [Act.put, List.setIfInBounds_toArray, List.set_cons_zero, List.set_cons_succ]
    refine wpAnyH_ready (rs := [2, 9]) (by kernel_rfl) (by simp) ?_
    refine AllReadyH.cons (o := { dst := some 52, op := .load 23 (.tmp 51), type := 23, pos := "state.go:75", after := #[{ on := 1, ground := .data }], guard := none }) rfl (fun K hK => ?_) ?_
    focus
     go_simp
     refine hK.out _ _ ?_ (fun hz2 => ?_)
     ·(try dsimp only) <;> (first | exact hq0 | exact hqb)
     clear hK K hz1
     try simp only [Act.put, List.setIfInBounds_toArray, List.set_cons_zero, List.set_cons_succ]
     refine wpAnyH_take (i := 4) (oi := { dst := some 54, op := .slice 23 (.tmp 52) none (some (.tmp 53)) none, type := 23, pos := "state.go:75", after := #[{ on := 2, ground := .data }, { on := 3, ground := .data }], guard := none }) (v := ?_) rfl (by kernel_rfl) (by kernel_rfl) (by kernel_rfl) (fun _ _ _ h => h) (Or.inl ⟨by rfl, ?_⟩) (by assumption) ?_
     rotate_left
     ·(intro w hSw; (try dsimp only at hSw); go_simp) <;> with_reducible rfl
     simp only [Act.put, List.setIfInBounds_toArray, List.set_cons_zero, List.set_cons_succ]
     refine wpAnyH_ready (rs := [9]) (by kernel_rfl) (by simp) ?_
     refine AllReadyH.cons (o := { dst := some 59, op := .load 23 (.tmp 58), type := 23, pos := "state.go:75", after := #[{ on := 8, ground := .data }], guard := none }) rfl (fun K hK => ?_) AllReadyH.nil
     go_simp
     refine hK.out _ _ ?_ (fun hz3 => ?_)
     ·(try dsimp only) <;> (first | exact hq0 | exact hqb)
     clear hK K hz2
     try simp only [Act.put, List.setIfInBounds_toArray, List.set_cons_zero, List.set_cons_succ]
     refine wpAnyH_take (i := 11) (oi := { dst := some 61, op := .slice 23 (.tmp 59) (some (.tmp 60)) none none, type := 23, pos := "state.go:75", after := #[{ on := 9, ground := .data }, { on := 10, ground := .data }], guard := none }) (v := ?_) rfl (by kernel_rfl) (by kernel_rfl) (by kernel_rfl) (fun _ _ _ h => h) (Or.inl ⟨by rfl, ?_⟩) (by assumption) ?_
     rotate_left
     ·(intro w hSw; (try dsimp only at hSw); go_simp) <;> with_reducible rfl
     simp only [Act.put, List.setIfInBounds_toArray, List.set_cons_zero, List.set_cons_succ]
    rotate_left
    refine AllReadyH.cons (o := { dst := some 59, op := .load 23 (.tmp 58), type := 23, pos := "state.go:75", after := #[{ on := 8, ground := .data }], guard := none }) rfl (fun K hK => ?_) AllReadyH.nil
    go_simp
    refine hK.out _ _ ?_ (fun hz2 => ?_)
    ·(try dsimp only) <;> (first | exact hq0 | exact hqb)
    clear hK K hz1
    try simp only [Act.put, List.setIfInBounds_toArray, List.set_cons_zero, List.set_cons_succ]
    refine wpAnyH_take (i := 11) (oi := { dst := some 61, op := .slice 23 (.tmp 59) (some (.tmp 60)) none none, type := 23, pos := "state.go:75", after := #[{ on := 9, ground := .data }, { on := 10, ground := .data }], guard := none }) (v := ?_) rfl (by kernel_rfl) (by kernel_rfl) (by kernel_rfl) (fun _ _ _ h => h) (Or.inl ⟨by rfl, ?_⟩) (by assumption) ?_
    rotate_left
    ·(intro w hSw; (try dsimp only at hSw); go_simp) <;> with_reducible rfl
    simp only [Act.put, List.setIfInBounds_toArray, List.set_cons_zero, List.set_cons_succ]
    refine wpAnyH_ready (rs := [2]) (by kernel_rfl) (by simp) ?_
    refine AllReadyH.cons (o := { dst := some 52, op := .load 23 (.tmp 51), type := 23, pos := "state.go:75", after := #[{ on := 1, ground := .data }], guard := none }) rfl (fun K hK => ?_) AllReadyH.nil
    go_simp
    refine hK.out _ _ ?_ (fun hz3 => ?_)
    ·(try dsimp only) <;> (first | exact hq0 | exact hqb)
    clear hK K hz2
    try simp only [Act.put, List.setIfInBounds_toArray, List.set_cons_zero, List.set_cons_succ]
    refine wpAnyH_take (i := 4) (oi := { dst := some 54, op := .slice 23 (.tmp 52) none (some (.tmp 53)) none, type := 23, pos := "state.go:75", after := #[{ on := 2, ground := .data }, { on := 3, ground := .data }], guard := none }) (v := ?_) rfl (by kernel_rfl) (by kernel_rfl) (by kernel_rfl) (fun _ _ _ h => h) (Or.inl ⟨by rfl, ?_⟩) (by assumption) ?_
    rotate_left
    ·(intro w hSw; (try dsimp only at hSw); go_simp) <;> with_reducible rfl
    simp only [Act.put, List.setIfInBounds_toArray, List.set_cons_zero, List.set_cons_succ]
   rotate_left 2
   refine AllReadyH.cons (o := { dst := some 59, op := .load 23 (.tmp 58), type := 23, pos := "state.go:75", after := #[{ on := 8, ground := .data }], guard := none }) rfl (fun K hK => ?_) AllReadyH.nil
   go_simp
   refine hK.out _ _ ?_ (fun hz1 => ?_)
   ·(try dsimp only) <;> (first | exact hq0 | exact hqb)
   clear hK K hz0
   try simp only [Act.put, List.setIfInBounds_toArray, List.set_cons_zero, List.set_cons_succ]
   refine wpAnyH_take (i := 11) (oi := { dst := some 61, op := .slice 23 (.tmp 59) (some (.tmp 60)) none none, type := 23, pos := "state.go:75", after := #[{ on := 9, ground := .data }, { on := 10, ground := .data }], guard := none }) (v := ?_) rfl (by kernel_rfl) (by kernel_rfl) (by kernel_rfl) (fun _ _ _ h => h) (Or.inl ⟨by rfl, ?_⟩) (by assumption) ?_
   rotate_left
   ·(intro w hSw; (try dsimp only at hSw); go_simp) <;> with_reducible rfl
   simp only [Act.put, List.setIfInBounds_toArray, List.set_cons_zero, List.set_cons_succ]
   refine wpAnyH_ready (rs := [2, 6]) (by kernel_rfl) (by simp) ?_
   refine AllReadyH.cons (o := { dst := some 52, op := .load 23 (.tmp 51), type := 23, pos := "state.go:75", after := #[{ on := 1, ground := .data }], guard := none }) rfl (fun K hK => ?_) ?_
   focus
    go_simp
    refine hK.out _ _ ?_ (fun hz2 => ?_)
    ·(try dsimp only) <;> (first | exact hq0 | exact hqb)
    clear hK K hz1
    try simp only [Act.put, List.setIfInBounds_toArray, List.set_cons_zero, List.set_cons_succ]
    refine wpAnyH_take (i := 4) (oi := { dst := some 54, op := .slice 23 (.tmp 52) none (some (.tmp 53)) none, type := 23, pos := "state.go:75", after := #[{ on := 2, ground := .data }, { on := 3, ground := .data }], guard := none }) (v := ?_) rfl (by kernel_rfl) (by kernel_rfl) (by kernel_rfl) (fun _ _ _ h => h) (Or.inl ⟨by rfl, ?_⟩) (by assumption) ?_
    rotate_left
    ·(intro w hSw; (try dsimp only at hSw); go_simp) <;> with_reducible rfl
    simp only [Act.put, List.setIfInBounds_toArray, List.set_cons_zero, List.set_cons_succ]
    refine wpAnyH_ready (rs := [6]) (by kernel_rfl) (by simp) ?_
    refine AllReadyH.cons (o := { dst := some 56, op := .buildSlice 23 1 #[(0, .tmp 55)], type := 23, pos := "state.go:75", after := #[{ on := 5, ground := .data }], guard := none }) rfl (fun K hK => ?_) AllReadyH.nil
    go_simp
    refine hK.out _ _ ?_ (fun hz3 => ?_)
    ·(try dsimp only) <;> (first | exact hq0 | exact hqb)
    clear hK K hz2
    try simp only [Act.put, List.setIfInBounds_toArray, List.set_cons_zero, List.set_cons_succ]
   rotate_left
   refine AllReadyH.cons (o := { dst := some 56, op := .buildSlice 23 1 #[(0, .tmp 55)], type := 23, pos := "state.go:75", after := #[{ on := 5, ground := .data }], guard := none }) rfl (fun K hK => ?_) AllReadyH.nil
   go_simp
   refine hK.out _ _ ?_ (fun hz2 => ?_)
   ·(try dsimp only) <;> (first | exact hq0 | exact hqb)
   clear hK K hz1
   try simp only [Act.put, List.setIfInBounds_toArray, List.set_cons_zero, List.set_cons_succ]
   refine wpAnyH_ready (rs := [2]) (by kernel_rfl) (by simp) ?_
   refine AllReadyH.cons (o := { dst := some 52, op := .load 23 (.tmp 51), type := 23, pos := "state.go:75", after := #[{ on := 1, ground := .data }], guard := none }) rfl (fun K hK => ?_) AllReadyH.nil
   go_simp
   refine hK.out _ _ ?_ (fun hz3 => ?_)
   ·(try dsimp only) <;> (first | exact hq0 | exact hqb)
   clear hK K hz2
   try simp only [Act.put, List.setIfInBounds_toArray, List.set_cons_zero, List.set_cons_succ]
   refine wpAnyH_take (i := 4) (oi := { dst := some 54, op := .slice 23 (.tmp 52) none (some (.tmp 53)) none, type := 23, pos := "state.go:75", after := #[{ on := 2, ground := .data }, { on := 3, ground := .data }], guard := none }) (v := ?_) rfl (by kernel_rfl) (by kernel_rfl) (by kernel_rfl) (fun _ _ _ h => h) (Or.inl ⟨by rfl, ?_⟩) (by assumption) ?_
   rotate_left
   ·(intro w hSw; (try dsimp only at hSw); go_simp) <;> with_reducible rfl
   simp only [Act.put, List.setIfInBounds_toArray, List.set_cons_zero, List.set_cons_succ]
   all_goals
    refine wpAnyH_ready (rs := [12]) (by kernel_rfl) (by simp) ?_
    refine AllReadyH.cons (o := { dst := some 62, op := .buildSlice 206 3 #[(0, .tmp 54), (1, .tmp 56), (2, .tmp 61)], type := 206, pos := "state.go:75", after := #[{ on := 4, ground := .data }, { on := 6, ground := .data }, { on := 11, ground := .data }], guard := none }) rfl (fun K hK => ?_) AllReadyH.nil
    go_simp
    refine hK.out _ _ ?_ (fun hz4 => ?_)
    ·(try dsimp only) <;> exact hqc
    clear hK K hz3
    try simp only [Act.put, List.setIfInBounds_toArray, List.set_cons_zero, List.set_cons_succ]
    refine wpAnyH_ready (rs := [13]) (by kernel_rfl) (by simp) ?_
    refine AllReadyH.cons (o := { dst := some 63, op := .call { callee := .value (.func 129), args := #[.tmp 62], argTypes := #[206] }, type := 23, pos := "state.go:75", after := #[{ on := 12, ground := .data }], guard := none }) rfl (fun K hK => ?_) AllReadyH.nil
    go_simp
    refine HC.out.mono ?_
    rintro e w4 ⟨a8, c8, rfl, hq4, a24, t24, HO4, HB4⟩
    go_wp2_with fail
    refine hK.out _ _ ?_ (fun hz5 => ?_)
    ·(try dsimp only) <;> exact hq4
    clear hK K hz4
    try simp only [Act.put, List.setIfInBounds_toArray, List.set_cons_zero, List.set_cons_succ]
    refine wpAnyH_take (i := 14) (oi := { dst := some 64, op := .fieldAddr 73 (.tmp 2) 0, type := 0, pos := "state.go:75", after := #[{ on := 0, ground := .phase }, { on := 1, ground := .phase }, { on := 2, ground := .phase }, { on := 3, ground := .phase }, { on := 4, ground := .phase }, { on := 5, ground := .phase }, { on := 6, ground := .phase }, { on := 7, ground := .phase }, { on := 8, ground := .phase }, { on := 9, ground := .phase }, { on := 10, ground := .phase }, { on := 11, ground := .phase }, { on := 12, ground := .phase }, { on := 13, ground := .phase }], guard := none }) (v := ?_) rfl (by kernel_rfl) (by kernel_rfl) (by kernel_rfl) (fun _ _ _ h => h) (Or.inl ⟨by rfl, ?_⟩) (by assumption) ?_
    rotate_left
    ·(intro w hSw; (try dsimp only at hSw); go_simp) <;> with_reducible rfl
    simp only [Act.put, List.setIfInBounds_toArray, List.set_cons_zero, List.set_cons_succ]
    refine wpAnyH_take (i := 15) (oi := { dst := some 65, op := .fieldAddr 25 (.tmp 64) 2, type := 0, pos := "state.go:75", after := #[{ on := 14, ground := .data }, { on := 0, ground := .phase }, { on := 1, ground := .phase }, { on := 2, ground := .phase }, { on := 3, ground := .phase }, { on := 4, ground := .phase }, { on := 5, ground := .phase }, { on := 6, ground := .phase }, { on := 7, ground := .phase }, { on := 8, ground := .phase }, { on := 9, ground := .phase }, { on := 10, ground := .phase }, { on := 11, ground := .phase }, { on := 12, ground := .phase }, { on := 13, ground := .phase }], guard := none }) (v := ?_) rfl (by kernel_rfl) (by kernel_rfl) (by kernel_rfl) (fun _ _ _ h => h) (Or.inl ⟨by rfl, ?_⟩) (by assumption) ?_
    rotate_left
    ·(intro w hSw; (try dsimp only at hSw); go_simp) <;> with_reducible rfl
    simp only [Act.put, List.setIfInBounds_toArray, List.set_cons_zero, List.set_cons_succ]
    refine wpAnyH_ready (rs := [16]) (by kernel_rfl) (by simp) ?_
    refine AllReadyH.cons (o := { dst := none, op := .store 23 (.tmp 65) (.tmp 63), type := 0, pos := "state.go:75", after := #[{ on := 15, ground := .data }, { on := 13, ground := .data }, { on := 13, ground := .chain }, { on := 0, ground := .phase }, { on := 1, ground := .phase }, { on := 2, ground := .phase }, { on := 3, ground := .phase }, { on := 4, ground := .phase }, { on := 5, ground := .phase }, { on := 6, ground := .phase }, { on := 7, ground := .phase }, { on := 8, ground := .phase }, { on := 9, ground := .phase }, { on := 10, ground := .phase }, { on := 11, ground := .phase }, { on := 12, ground := .phase }, { on := 13, ground := .phase }], guard := none }) rfl (fun K hK => ?_) AllReadyH.nil
    go_simp
    refine hK.out _ _ ?_ (fun hz6 => ?_)
    ·(try dsimp only) <;> exact z4f hq4
    clear hK K hz5
    try simp only [Act.put, List.setIfInBounds_toArray, List.set_cons_zero, List.set_cons_succ]
    refine wpAnyH_done (by kernel_rfl) ?_ _
    refine NoPanic.normal ?_
    have hbA : But w.heap.size w4 (w4.setCell ⟨w.heap.size, 2, none⟩ (.slice a8 (Lc + 1) c8)) := (But.refl _ _).set _ _
    have RA5 := (HRA.out.below HB4.out).set 2 (.slice a8 (Lc + 1) c8)
    have RB5 := Lib.hid ((HRB.out.below HB4.out).keep (hbA.block (w.heap.size + 1 + 1) (by omega)))
    have y0 := RA5.cell (i := 0) rfl
    have y1 := RA5.cell (i := 1) rfl
    have y2 := RA5.cell (i := 2) rfl
    have HBL : Hid (Below w.heap.size w (w4.setCell ⟨w.heap.size, 2, none⟩ (.slice a8 (Lc + 1) c8))) := Lib.hid ((z00 HB1.out HB4.out).trans (hbA.below (B := w.heap.size) (by omega)))
    have HSO := Lib.hid (HNEW.out _ a8 c8 HBL.out (by have h9 := HO4.out; rw [<- HPUT.out] at h9; exact z1c h9 hbA (by have := HSZ.out; omega)) HPLN.out)
    clear hbA RA5
    generalize w4.setCell ⟨w.heap.size, 2, none⟩ (.slice a8 (Lc + 1) c8) = w5 at *
    go_wp2_with fail
    refine HSO.out.mono ?_
    rintro e w6 ⟨a6, c6, a7, c7, M7, rfl, hst6, hfr6, hb6⟩
    have RB6 := RB5.out.below hb6
    have hl6 : (⟨v, es, putL ⟨ci, cq, ca, cv⟩ cs⟩ : Mdl).es.length = Le := HLe.out.symm
    have hl7 : (⟨v, es, putL ⟨ci, cq, ca, cv⟩ cs⟩ : Mdl).cs.length = Lc + 1 := HPLN.out
    rw [hl6, hl7]
    have t0 := RB6.thaw 0
    have t1 := RB6.thaw 1
    have t2 := RB6.thaw 2
    have t3 := RB6.thaw 3
    have e0 := RB6.cell (i := 0) rfl
    have e1 := RB6.cell (i := 1) rfl
    have e2 := RB6.cell (i := 2) rfl
    have e3 := RB6.cell (i := 3) rfl
    have RP := z1b RB6 v (.slice a6 Le c6) (.slice a7 (Lc + 1) c7) M7
    have f0 := RP.cell (i := 0) rfl
    have f1 := RP.cell (i := 1) rfl
    have f2 := RP.cell (i := 2) rfl
    have f3 := RP.cell (i := 3) rfl
    have HFIN : Hid (z1n ⟨v, es, putL ⟨ci, cq, ca, cv⟩ cs⟩ w (.returned (.agg (stC v (.slice a6 Le c6) (.slice a7 (Lc + 1) c7) M7))) (putS w6 (w.heap.size + 1 + 1) v (.slice a6 Le c6) (.slice a7 (Lc + 1) c7) M7)) := Lib.hid (by
     have hbP := z0f w6 (w.heap.size + 1 + 1) v (.slice a6 Le c6) (.slice a7 (Lc + 1) c7) M7
     exact ⟨a6, c6, a7, c7, M7, by rw [hl6, hl7], hst6.but RB6 (fun _ => Value.noConfusion) (fun _ => Value.noConfusion) (fun _ => Value.noConfusion) (fun _ => Value.noConfusion) (fun _ => Value.noConfusion) (fun _ => Value.noConfusion) (fun _ => Value.noConfusion) hbP, Sl.keep hfr6 (fun b hb => hbP.block b (by have h1 := hb.1; have h2 := RB5.out.lt; omega)) (fun b hb => ⟨Nat.le_trans HBL.out.size hb.1, Nat.lt_of_lt_of_eq hb.2 hbP.size.symm⟩) (fun _ _ h => h), (z00 HBL.out hb6).trans (hbP.below (B := w.heap.size) (by omega))⟩)
    clear RB6 RP hst6 hfr6 hb6 hl6 hl7 y0 y1 y2 HSO
    go_wp2
    exact bodyPost_ret (v := .agg (stC v (.slice a6 Le c6) (.slice a7 (Lc + 1) c7) M7)) (by simp [results, Tryz.results83, go_sem, f0, f1, f2, f3]) rfl HFIN.out
end Go.Proofs.YtdkkkeoicekdgaaGreatDoor.Md
