/- Package model: Do of what is valid. -/
import Derived.Test.YtdkkkeoicekdgaaGreatDoorZBg27

namespace Go.Proofs.YtdkkkeoicekdgaaGreatDoor.Md
set_option maxHeartbeats 6400000
set_option maxRecDepth 100000
open Go.Lib (hid)
open Go.RowKit Go.Maps Go.WideShapes Go.WideMaps Go.Proofs.YtdkkkeoicekdgaaGreatDoor Go.Proofs.YtdkkkeoicekdgaaGreatDoor.Ca
theorem z0t {g : Nat} {w w' : World} (h : But g w w') {b i : Nat} (hb : b ≠ g) : w'.cell? ⟨b, i, none⟩ = w.cell? ⟨b, i, none⟩ := World.cell?_of_block (h.block b hb)
theorem do_yes (w : World) (m : Mdl) (ae : Option Addr) (ce : Nat) (ac : Option Addr) (cc : Nat) (c : Cmd) (b : Option Addr) (capc : Nat) (hE : SlE w (Old w) (.slice ae m.es.length ce) m.es) (hC : SlL w (Old w) (.slice ac m.cs.length cc) m.cs) (hF : ∀ x, x ∈ m.es -> FitE x) (hV : EnvC w) (hR : RgtM m) (hM : mayC c = true) (hH : SlH w (Old w) (.slice b c.ch.length capc) c.ch) (hFC : ∀ x, x ∈ c.ch -> FitE x.e) :
  Calls Tryz.prog 11 #[.agg (mdC m.vr (.slice ae m.es.length ce) (.slice ac m.cs.length cc)), .agg #[.int .i64 c.cl, .int .i64 c.sq, .slice b c.ch.length capc]] w (DoP m c w) := by
 have HRT := hid (fun W (h : Below w.heap.size w W) => z5i W m ae ce ac cc (hE.old h) (hC.old h) hF (hV.below h))
 have HMY := hid (fun W => z3j W c b capc)
 have HSO : Hid (∀ W, Below w.heap.size w W -> Calls Tryz.prog 39 #[.agg #[.int .i64 m.vr, .slice ae m.es.length ce, .slice ac m.cs.length cc]] W (z1m m W)) := hid (fun W h => z27 W m.vr ae ce m.es ac cc m.cs (hE.old h) (hC.old h) (by have := (z0u hR.es).len; omega) (by have := hR.cs.len; omega) hR.cs.srt (fun x hx => by have := (z2e.1 (hR.cs.ok x hx)).1; omega))
 have HEX := hid (fun W ae2 ce2 ac2 cc2 M2 (h : Below w.heap.size w W) (hs : StAt W m ae2 ce2 ac2 cc2 M2) => z45 W m ae2 ce2 ac2 cc2 M2 c b capc hs hR hM (hH.old h) hFC (hV.below h))
 have HRM := hid hR
 have HMM := hid hM
 obtain ⟨m2, r2, HD⟩ : ∃ m2 r2, Hid (doF m c = (m2, r2)) := ⟨_, _, hid rfl⟩
 have HIDS : Hid (∀ x, x ∈ m2.cs -> 1 <= x.id) := hid (fun x hx => by
  have h := z4k hR hM
  rw [HD.out] at h
  exact (z2e.1 (h.cs.ok x hx)).1.1)
 rw [HD.out] at HEX
 obtain ⟨L2e, HL2e⟩ : ∃ L, Hid (L = m2.es.length) := ⟨_, hid rfl⟩
 obtain ⟨L2c, HL2c⟩ : ∃ L, Hid (L = m2.cs.length) := ⟨_, hid rfl⟩
 obtain ⟨v2, HV2⟩ : ∃ L, Hid (L = m2.vr) := ⟨_, hid rfl⟩
 obtain ⟨ri, rq, ra, rv⟩ := r2
 obtain ⟨Le, HLe⟩ : ∃ L, Hid (L = m.es.length) := ⟨_, hid rfl⟩
 obtain ⟨Lc, HLc⟩ : ∃ L, Hid (L = m.cs.length) := ⟨_, hid rfl⟩
 obtain ⟨Lh, HLh⟩ : ∃ L, Hid (L = c.ch.length) := ⟨_, hid rfl⟩
 obtain ⟨v, Hv⟩ : ∃ L, Hid (L = m.vr) := ⟨_, hid rfl⟩
 obtain ⟨cl, Hcl⟩ : ∃ L, Hid (L = c.cl) := ⟨_, hid rfl⟩
 obtain ⟨sq, Hsq⟩ : ∃ L, Hid (L = c.sq) := ⟨_, hid rfl⟩
 rw [<- HLe.out, <- HLc.out, <- Hv.out] at HRT HSO HEX
 rw [<- HLh.out, <- Hcl.out, <- Hsq.out] at HMY HEX
 rw [<- HLe.out, <- HLc.out, <- HLh.out, <- Hv.out, <- Hcl.out, <- Hsq.out]
 clear hE hC hF hV hR hM hH hFC HLh Hcl Hsq
 obtain ⟨W1, HW1⟩ : ∃ W, Hid (W = (((w.alloc (.cells (mdC v (.slice ae Le ce) (.slice ac Lc cc)) 25)).alloc (.cells #[.int .i64 cl, .int .i64 sq, .slice b Lh capc] 28)).alloc (.cells #[.int .i64 0, .slice none 0 0, .slice none 0 0] 25)).alloc (.cells #[.int .i64 0, .int .i64 0, .int .i64 0, .int .i64 0] 32)) := ⟨_, hid rfl⟩
 have HB1 : Hid (Below w.heap.size w W1) := hid (by rw [HW1.out]; exact (z49 w _ _ _).alloc (by simp; omega) _)
 have HRA : Hid (Row W1 w.heap.size 25 [.int .i64 v, .slice ae Le ce, .slice ac Lc cc]) := hid (by rw [HW1.out]; exact (((z01 w (mdC v (.slice ae Le ce) (.slice ac Lc cc)) _).alloc _).alloc _).alloc _)
 have HRC : Hid (Row W1 (w.heap.size + 1) 28 [.int .i64 cl, .int .i64 sq, .slice b Lh capc]) := hid (by
  rw [HW1.out]
  have h := ((z01 (w.alloc (.cells (mdC v (.slice ae Le ce) (.slice ac Lc cc)) 25)) #[.int .i64 cl, .int .i64 sq, .slice b Lh capc] 28).alloc (.cells #[.int .i64 0, .slice none 0 0, .slice none 0 0] 25)).alloc (.cells #[.int .i64 0, .int .i64 0, .int .i64 0, .int .i64 0] 32)
  simpa only [World.size_alloc] using h)
 have HRR : Hid (Row W1 (w.heap.size + 1 + 1) 25 [.int .i64 0, .slice none 0 0, .slice none 0 0]) := hid (by
  rw [HW1.out]
  have h := (z01 ((w.alloc (.cells (mdC v (.slice ae Le ce) (.slice ac Lc cc)) 25)).alloc (.cells #[.int .i64 cl, .int .i64 sq, .slice b Lh capc] 28)) #[.int .i64 0, .slice none 0 0, .slice none 0 0] 25).alloc (.cells #[.int .i64 0, .int .i64 0, .int .i64 0, .int .i64 0] 32)
  simpa only [World.size_alloc] using h)
 have HRTT : Hid (Row W1 (w.heap.size + 1 + 1 + 1) 32 [.int .i64 0, .int .i64 0, .int .i64 0, .int .i64 0]) := hid (by
  rw [HW1.out]
  have h := z01 (((w.alloc (.cells (mdC v (.slice ae Le ce) (.slice ac Lc cc)) 25)).alloc (.cells #[.int .i64 cl, .int .i64 sq, .slice b Lh capc] 28)).alloc (.cells #[.int .i64 0, .slice none 0 0, .slice none 0 0] 25)) #[.int .i64 0, .int .i64 0, .int .i64 0, .int .i64 0] 32
  simpa only [World.size_alloc] using h)
 have a0 : ((((w.alloc (.cells (mdC v (.slice ae Le ce) (.slice ac Lc cc)) 25)).alloc (.cells #[.int .i64 cl, .int .i64 sq, .slice b Lh capc] 28)).alloc (.cells #[.int .i64 0, .slice none 0 0, .slice none 0 0] 25)).alloc (.cells #[.int .i64 0, .int .i64 0, .int .i64 0, .int .i64 0] 32)).cell? ⟨w.heap.size, 0, none⟩ = some (.int .i64 v) := by rw [<- HW1.out]; exact HRA.out.cell rfl
 have a1 : ((((w.alloc (.cells (mdC v (.slice ae Le ce) (.slice ac Lc cc)) 25)).alloc (.cells #[.int .i64 cl, .int .i64 sq, .slice b Lh capc] 28)).alloc (.cells #[.int .i64 0, .slice none 0 0, .slice none 0 0] 25)).alloc (.cells #[.int .i64 0, .int .i64 0, .int .i64 0, .int .i64 0] 32)).cell? ⟨w.heap.size, 1, none⟩ = some (.slice ae Le ce) := by rw [<- HW1.out]; exact HRA.out.cell rfl
 have a2 : ((((w.alloc (.cells (mdC v (.slice ae Le ce) (.slice ac Lc cc)) 25)).alloc (.cells #[.int .i64 cl, .int .i64 sq, .slice b Lh capc] 28)).alloc (.cells #[.int .i64 0, .slice none 0 0, .slice none 0 0] 25)).alloc (.cells #[.int .i64 0, .int .i64 0, .int .i64 0, .int .i64 0] 32)).cell? ⟨w.heap.size, 2, none⟩ = some (.slice ac Lc cc) := by rw [<- HW1.out]; exact HRA.out.cell rfl
 go_enter Tryz.func11, Tryz.ntmps11
 go_wp2_with fail
 rw [<- HW1.out]
 refine (HRT.out W1 HB1.out).mono ?_
 rintro e w2 ⟨r, rfl, hr, hb2⟩
 have HR := hid hr
 have HB2 : Hid (Below W1.heap.size W1 w2) := hid hb2
 clear a0 a1 a2 hr hb2 HRT
 have HSZ : Hid (W1.heap.size = w.heap.size + 4) := hid (by rw [HW1.out]; simp)
 obtain rfl : r = true := HR.out.2 HRM.out
 rw [HMM.out] at HMY
 have HSR : Hid (∀ W, Below W1.heap.size W1 W -> W.cell? ⟨w.heap.size, 0, none⟩ = some (.int .i64 v) /\ W.cell? ⟨w.heap.size, 1, none⟩ = some (.slice ae Le ce) /\ W.cell? ⟨w.heap.size, 2, none⟩ = some (.slice ac Lc cc) /\ W.cell? ⟨w.heap.size + 1, 0, none⟩ = some (.int .i64 cl) /\ W.cell? ⟨w.heap.size + 1, 1, none⟩ = some (.int .i64 sq) /\ W.cell? ⟨w.heap.size + 1, 2, none⟩ = some (.slice b Lh capc)) := hid (fun W h => ⟨(HRA.out.below h).cell rfl, (HRA.out.below h).cell rfl, (HRA.out.below h).cell rfl, (HRC.out.below h).cell rfl, (HRC.out.below h).cell rfl, (HRC.out.below h).cell rfl⟩)
 obtain ⟨-, -, -, b0, b1, b2⟩ := HSR.out _ HB2.out
 go_wp2_with fail
 refine (HMY.out w2).mono ?_
 rintro e w3 ⟨rfl, hb3⟩
 have HB3 := hid (z00 HB2.out hb3)
 clear b0 b1 b2 hb3 HMY
 go_wp2
 have HB4 := hid HB3.out.drew
 have hs0 := HSR.out _ HB4.out
 refine wp_region_noPanic ?_
 refine wp_region_held_drew (S := fun W => W.cell? ⟨w.heap.size, 0, none⟩ = some (.int .i64 v) /\ W.cell? ⟨w.heap.size, 1, none⟩ = some (.slice ae Le ce) /\ W.cell? ⟨w.heap.size, 2, none⟩ = some (.slice ac Lc cc) /\ W.cell? ⟨w.heap.size + 1, 0, none⟩ = some (.int .i64 cl) /\ W.cell? ⟨w.heap.size + 1, 1, none⟩ = some (.int .i64 sq) /\ W.cell? ⟨w.heap.size + 1, 2, none⟩ = some (.slice b Lh capc)) (by kernel_rfl) hs0 (fun hz => ?_)
 clear hs0
 generalize w3.drew = w4 at *
 refine wpAnyH_take (i := 0) (oi := { dst := some 20, op := .load 25 (.tmp 2), type := 25, pos := "model.go:35", after := #[], guard := none }) (v := ?_) rfl (by kernel_rfl) (by kernel_rfl) (by kernel_rfl) (fun _ _ _ h => h) (Or.inl ⟨by rfl, ?_⟩) (by assumption) ?_
 rotate_left
 ·(intro w hSw; (try dsimp only at hSw); go_simp) <;> with_reducible rfl
 simp only [Act.put, List.setIfInBounds_toArray, List.set_cons_zero, List.set_cons_succ]
 refine wpAnyH_take (i := 2) (oi := { dst := some 22, op := .load 28 (.tmp 3), type := 28, pos := "model.go:35", after := #[], guard := none }) (v := ?_) rfl (by kernel_rfl) (by kernel_rfl) (by kernel_rfl) (fun _ _ _ h => h) (Or.inl ⟨by rfl, ?_⟩) (by assumption) ?_
 rotate_left
 ·(intro w hSw; (try dsimp only at hSw); go_simp) <;> with_reducible rfl
 simp only [Act.put, List.setIfInBounds_toArray, List.set_cons_zero, List.set_cons_succ]
 refine wpAnyH_ready (rs := [1, 7, 8]) (by kernel_rfl) (by simp) ?_
 refine AllReadyH.cons (o := { dst := some 21, op := .call { callee := .value (.func 39), args := #[.tmp 20], argTypes := #[25] }, type := 73, pos := "model.go:35", after := #[{ on := 0, ground := .data }], guard := none }) rfl (fun K hK => ?_) ?_
 focus
  go_simp
  refine (HSO.out _ (z00 HB1.out HB4.out)).mono ?_
  rintro e u1 ⟨ae1, ce1, ac1, cc1, M1, rfl, hst, -, hb⟩
  rw [<- HLe.out, <- HLc.out, <- Hv.out]
  have HST := hid hst
  have HB10 := hid (z00 HB4.out hb)
  clear hst hb
  go_wp2_with fail
  refine hK.out _ _ ?_ (fun hz => ?_)
  ·exact HSR.out _ HB10.out
  clear hK K
  try simp only [Act.put, List.setIfInBounds_toArray, List.set_cons_zero, List.set_cons_succ]
  refine wpAnyH_ready (rs := [3, 7, 8]) (by kernel_rfl) (by simp) ?_
  refine AllReadyH.cons (o := { dst := some 23, op := .call { callee := .value (.func 40), args := #[.tmp 21, .tmp 22], argTypes := #[73, 28] }, type := 74, pos := "model.go:35", after := #[{ on := 1, ground := .data }, { on := 2, ground := .data }, { on := 1, ground := .chain }], guard := none }) rfl (fun K hK => ?_) ?_
  focus
   go_simp
   refine (HEX.out _ _ _ _ _ _ (z00 HB1.out HB10.out) HST.out).mono ?_
   rintro e u2 ⟨ae3, ce3, ac3, cc3, M3, rfl, hst, hb⟩
   simp only
   rw [<- HL2e.out, <- HL2c.out, <- HV2.out]
   have HST := hid hst
   have HB20 := hid (z00 HB10.out hb)
   clear hst hb
   go_wp2_with fail
   refine hK.out _ _ ?_ (fun hz => ?_)
   ·exact HSR.out _ HB20.out
   clear hK K
   try simp only [Act.put, List.setIfInBounds_toArray, List.set_cons_zero, List.set_cons_succ]
   refine wpAnyH_take (i := 4) (oi := { dst := some 19, op := .move (.tmp 23), type := 74, pos := "model.go:35", after := #[{ on := 3, ground := .data }], guard := none }) (v := ?_) rfl (by kernel_rfl) (by kernel_rfl) (by kernel_rfl) (fun _ _ _ h => h) (Or.inl ⟨by rfl, ?_⟩) (by assumption) ?_
   rotate_left
   ·(intro w hSw; (try dsimp only at hSw); go_simp) <;> with_reducible rfl
   simp only [Act.put, List.setIfInBounds_toArray, List.set_cons_zero, List.set_cons_succ]
   refine wpAnyH_take (i := 5) (oi := { dst := some 24, op := .extract (.tmp 19) 0, type := 73, pos := "model.go:35", after := #[{ on := 4, ground := .data }], guard := none }) (v := ?_) rfl (by kernel_rfl) (by kernel_rfl) (by kernel_rfl) (fun _ _ _ h => h) (Or.inl ⟨by rfl, ?_⟩) (by assumption) ?_
   rotate_left
   ·(intro w hSw; (try dsimp only at hSw); go_simp) <;> with_reducible rfl
   simp only [Act.put, List.setIfInBounds_toArray, List.set_cons_zero, List.set_cons_succ]
   refine wpAnyH_take (i := 6) (oi := { dst := some 25, op := .extract (.tmp 19) 1, type := 32, pos := "model.go:35", after := #[{ on := 4, ground := .data }, { on := 9, ground := .gcOnly .lateStores }], guard := none }) (v := ?_) rfl (by kernel_rfl) (by kernel_rfl) (by kernel_rfl) (fun _ _ _ h => h) (Or.inl ⟨by rfl, ?_⟩) (by assumption) ?_
   rotate_left
   ·(intro w hSw; (try dsimp only at hSw); go_simp) <;> with_reducible rfl
   simp only [Act.put, List.setIfInBounds_toArray, List.set_cons_zero, List.set_cons_succ]
   refine wpAnyH_ready (rs := [7, 8]) (by kernel_rfl) (by simp) ?_
   refine AllReadyH.cons (o := { dst := some 7, op := .alloc 73, type := 0, pos := "model.go:35", after := #[], guard := none }) rfl (fun K hK => ?_) ?_
   focus
    go_simp
    obtain ⟨P, HEP⟩ : ∃ P, Hid (P = u2.heap.size) := ⟨_, hid rfl⟩
    obtain ⟨u3, HU3⟩ : ∃ W, Hid (W = u2.alloc (.cells #[.int .i64 0, .slice none 0 0, .slice none 0 0, .map none] 73)) := ⟨_, hid rfl⟩
    rw [<- HEP.out, <- HU3.out]
    have hal : Below u2.heap.size u2 u3 := by rw [HU3.out]; exact z04 _ _
    have HRP : Hid (Row u3 P 73 [.int .i64 0, .slice none 0 0, .slice none 0 0, .map none]) := hid (by rw [HU3.out, HEP.out]; exact z01 u2 #[.int .i64 0, .slice none 0 0, .slice none 0 0, .map none] _)
    have hgeP : w.heap.size + 4 <= P := by have h8 := HB1.out.size; have h9 := HB20.out.size; have h7 := HSZ.out; have h6 := HEP.out; omega
    have HST := hid (HST.out.old hal)
    have HB30 := hid (z00 HB20.out hal)
    clear hal
    refine hK.out _ _ ?_ (fun hz => ?_)
    ·exact HSR.out _ HB30.out
    clear hK K
    try simp only [Act.put, List.setIfInBounds_toArray, List.set_cons_zero, List.set_cons_succ]
    refine wpAnyH_ready (rs := [8]) (by kernel_rfl) (by simp) ?_
    refine AllReadyH.cons (o := { dst := some 8, op := .alloc 32, type := 0, pos := "model.go:35", after := #[], guard := none }) rfl (fun K hK => ?_) ?_
    focus
     go_simp
     obtain ⟨Q, HEQ⟩ : ∃ P, Hid (P = u3.heap.size) := ⟨_, hid rfl⟩
     obtain ⟨uZ, HUZ⟩ : ∃ W, Hid (W = u3.alloc (.cells #[.int .i64 0, .int .i64 0, .int .i64 0, .int .i64 0] 32)) := ⟨_, hid rfl⟩
     rw [<- HEQ.out, <- HUZ.out]
     have hal : Below u3.heap.size u3 uZ := by rw [HUZ.out]; exact z04 _ _
     have HRQ : Hid (Row uZ Q 32 [.int .i64 0, .int .i64 0, .int .i64 0, .int .i64 0]) := hid (by rw [HUZ.out, HEQ.out]; exact z01 u3 #[.int .i64 0, .int .i64 0, .int .i64 0, .int .i64 0] _)
     have hgeQ : w.heap.size + 4 <= Q := by have h8 := HB1.out.size; have h9 := HB30.out.size; have h7 := HSZ.out; have h6 := HEQ.out; omega
     have hneQ : P ≠ Q := by have h8 := HRP.out.lt; have h6 := HEQ.out; omega
     have HRP := hid (HRP.out.below hal)
     have HST := hid (HST.out.old hal)
     have HBZ0 := hid (z00 HB30.out hal)
     clear hal
     refine hK.out _ _ ?_ (fun hz => ?_)
     ·exact HSR.out _ HBZ0.out
     clear hK K
     try simp only [Act.put, List.setIfInBounds_toArray, List.set_cons_zero, List.set_cons_succ]
    rotate_left
    exact AllReadyH.nil
   rotate_left
   refine AllReadyH.cons (o := { dst := some 8, op := .alloc 32, type := 0, pos := "model.go:35", after := #[], guard := none }) rfl (fun K hK => ?_) ?_
   focus
    go_simp
    obtain ⟨Q, HEQ⟩ : ∃ P, Hid (P = u2.heap.size) := ⟨_, hid rfl⟩
    obtain ⟨u5, HU5⟩ : ∃ W, Hid (W = u2.alloc (.cells #[.int .i64 0, .int .i64 0, .int .i64 0, .int .i64 0] 32)) := ⟨_, hid rfl⟩
    rw [<- HEQ.out, <- HU5.out]
    have hal : Below u2.heap.size u2 u5 := by rw [HU5.out]; exact z04 _ _
    have HRQ : Hid (Row u5 Q 32 [.int .i64 0, .int .i64 0, .int .i64 0, .int .i64 0]) := hid (by rw [HU5.out, HEQ.out]; exact z01 u2 #[.int .i64 0, .int .i64 0, .int .i64 0, .int .i64 0] _)
    have hgeQ : w.heap.size + 4 <= Q := by have h8 := HB1.out.size; have h9 := HB20.out.size; have h7 := HSZ.out; have h6 := HEQ.out; omega
    have HST := hid (HST.out.old hal)
    have HB50 := hid (z00 HB20.out hal)
    clear hal
    refine hK.out _ _ ?_ (fun hz => ?_)
    ·exact HSR.out _ HB50.out
    clear hK K
    try simp only [Act.put, List.setIfInBounds_toArray, List.set_cons_zero, List.set_cons_succ]
    refine wpAnyH_ready (rs := [7]) (by kernel_rfl) (by simp) ?_
    refine AllReadyH.cons (o := { dst := some 7, op := .alloc 73, type := 0, pos := "model.go:35", after := #[], guard := none }) rfl (fun K hK => ?_) ?_
    focus
     go_simp
     obtain ⟨P, HEP⟩ : ∃ P, Hid (P = u5.heap.size) := ⟨_, hid rfl⟩
     obtain ⟨uZ, HUZ⟩ : ∃ W, Hid (W = u5.alloc (.cells #[.int .i64 0, .slice none 0 0, .slice none 0 0, .map none] 73)) := ⟨_, hid rfl⟩
     rw [<- HEP.out, <- HUZ.out]
     have hal : Below u5.heap.size u5 uZ := by rw [HUZ.out]; exact z04 _ _
     have HRP : Hid (Row uZ P 73 [.int .i64 0, .slice none 0 0, .slice none 0 0, .map none]) := hid (by rw [HUZ.out, HEP.out]; exact z01 u5 #[.int .i64 0, .slice none 0 0, .slice none 0 0, .map none] _)
     have hgeP : w.heap.size + 4 <= P := by have h8 := HB1.out.size; have h9 := HB50.out.size; have h7 := HSZ.out; have h6 := HEP.out; omega
     have hneP : Q ≠ P := by have h8 := HRQ.out.lt; have h6 := HEP.out; omega
     have HRQ := hid (HRQ.out.below hal)
     have HST := hid (HST.out.old hal)
     have HBZ0 := hid (z00 HB50.out hal)
     clear hal
     refine hK.out _ _ ?_ (fun hz => ?_)
     ·exact HSR.out _ HBZ0.out
     clear hK K
     try simp only [Act.put, List.setIfInBounds_toArray, List.set_cons_zero, List.set_cons_succ]
    rotate_left
    exact AllReadyH.nil
   rotate_left
   exact AllReadyH.nil
  rotate_left 2
  refine AllReadyH.cons (o := { dst := some 7, op := .alloc 73, type := 0, pos := "model.go:35", after := #[], guard := none }) rfl (fun K hK => ?_) ?_
  focus
   go_simp
   obtain ⟨P, HEP⟩ : ∃ P, Hid (P = u1.heap.size) := ⟨_, hid rfl⟩
   obtain ⟨u7, HU7⟩ : ∃ W, Hid (W = u1.alloc (.cells #[.int .i64 0, .slice none 0 0, .slice none 0 0, .map none] 73)) := ⟨_, hid rfl⟩
   rw [<- HEP.out, <- HU7.out]
   have hal : Below u1.heap.size u1 u7 := by rw [HU7.out]; exact z04 _ _
   have HRP : Hid (Row u7 P 73 [.int .i64 0, .slice none 0 0, .slice none 0 0, .map none]) := hid (by rw [HU7.out, HEP.out]; exact z01 u1 #[.int .i64 0, .slice none 0 0, .slice none 0 0, .map none] _)
   have hgeP : w.heap.size + 4 <= P := by have h8 := HB1.out.size; have h9 := HB10.out.size; have h7 := HSZ.out; have h6 := HEP.out; omega
   have HST := hid (HST.out.old hal)
   have HB70 := hid (z00 HB10.out hal)
   clear hal
   refine hK.out _ _ ?_ (fun hz => ?_)
   ·exact HSR.out _ HB70.out
   clear hK K
   try simp only [Act.put, List.setIfInBounds_toArray, List.set_cons_zero, List.set_cons_succ]
   refine wpAnyH_ready (rs := [3, 8]) (by kernel_rfl) (by simp) ?_
   refine AllReadyH.cons (o := { dst := some 23, op := .call { callee := .value (.func 40), args := #[.tmp 21, .tmp 22], argTypes := #[73, 28] }, type := 74, pos := "model.go:35", after := #[{ on := 1, ground := .data }, { on := 2, ground := .data }, { on := 1, ground := .chain }], guard := none }) rfl (fun K hK => ?_) ?_
   focus
    go_simp
    refine (HEX.out _ _ _ _ _ _ (z00 HB1.out HB70.out) HST.out).mono ?_
    rintro e u8 ⟨ae3, ce3, ac3, cc3, M3, rfl, hst, hb⟩
    simp only
    rw [<- HL2e.out, <- HL2c.out, <- HV2.out]
    have HST := hid hst
    have HB80 := hid (z00 HB70.out hb)
    have HRP := hid (HRP.out.below hb)
    clear hst hb
    go_wp2_with fail
    refine hK.out _ _ ?_ (fun hz => ?_)
    ·exact HSR.out _ HB80.out
    clear hK K
    try simp only [Act.put, List.setIfInBounds_toArray, List.set_cons_zero, List.set_cons_succ]
    refine wpAnyH_take (i := 4) (oi := { dst := some 19, op := .move (.tmp 23), type := 74, pos := "model.go:35", after := #[{ on := 3, ground := .data }], guard := none }) (v := ?_) rfl (by kernel_rfl) (by kernel_rfl) (by kernel_rfl) (fun _ _ _ h => h) (Or.inl ⟨by rfl, ?_⟩) (by assumption) ?_
    rotate_left
    ·(intro w hSw; (try dsimp only at hSw); go_simp) <;> with_reducible rfl
    simp only [Act.put, List.setIfInBounds_toArray, List.set_cons_zero, List.set_cons_succ]
    refine wpAnyH_take (i := 5) (oi := { dst := some 24, op := .extract (.tmp 19) 0, type := 73, pos := "model.go:35", after := #[{ on := 4, ground := .data }], guard := none }) (v := ?_) rfl (by kernel_rfl) (by kernel_rfl) (by kernel_rfl) (fun _ _ _ h => h) (Or.inl ⟨by rfl, ?_⟩) (by assumption) ?_
    rotate_left
    ·(intro w hSw; (try dsimp only at hSw); go_simp) <;> with_reducible rfl
    simp only [Act.put, List.setIfInBounds_toArray, List.set_cons_zero, List.set_cons_succ]
    refine wpAnyH_take (i := 6) (oi := { dst := some 25, op := .extract (.tmp 19) 1, type := 32, pos := "model.go:35", after := #[{ on := 4, ground := .data }, { on := 9, ground := .gcOnly .lateStores }], guard := none }) (v := ?_) rfl (by kernel_rfl) (by kernel_rfl) (by kernel_rfl) (fun _ _ _ h => h) (Or.inl ⟨by rfl, ?_⟩) (by assumption) ?_
    rotate_left
    ·(intro w hSw; (try dsimp only at hSw); go_simp) <;> with_reducible rfl
    simp only [Act.put, List.setIfInBounds_toArray, List.set_cons_zero, List.set_cons_succ]
    refine wpAnyH_ready (rs := [8]) (by kernel_rfl) (by simp) ?_
    refine AllReadyH.cons (o := { dst := some 8, op := .alloc 32, type := 0, pos := "model.go:35", after := #[], guard := none }) rfl (fun K hK => ?_) ?_
    focus
     go_simp
     obtain ⟨Q, HEQ⟩ : ∃ P, Hid (P = u8.heap.size) := ⟨_, hid rfl⟩
     obtain ⟨uZ, HUZ⟩ : ∃ W, Hid (W = u8.alloc (.cells #[.int .i64 0, .int .i64 0, .int .i64 0, .int .i64 0] 32)) := ⟨_, hid rfl⟩
     rw [<- HEQ.out, <- HUZ.out]
     have hal : Below u8.heap.size u8 uZ := by rw [HUZ.out]; exact z04 _ _
     have HRQ : Hid (Row uZ Q 32 [.int .i64 0, .int .i64 0, .int .i64 0, .int .i64 0]) := hid (by rw [HUZ.out, HEQ.out]; exact z01 u8 #[.int .i64 0, .int .i64 0, .int .i64 0, .int .i64 0] _)
     have hgeQ : w.heap.size + 4 <= Q := by have h8 := HB1.out.size; have h9 := HB80.out.size; have h7 := HSZ.out; have h6 := HEQ.out; omega
     have hneQ : P ≠ Q := by have h8 := HRP.out.lt; have h6 := HEQ.out; omega
     have HRP := hid (HRP.out.below hal)
     have HST := hid (HST.out.old hal)
     have HBZ0 := hid (z00 HB80.out hal)
     clear hal
     refine hK.out _ _ ?_ (fun hz => ?_)
     ·exact HSR.out _ HBZ0.out
     clear hK K
     try simp only [Act.put, List.setIfInBounds_toArray, List.set_cons_zero, List.set_cons_succ]
    rotate_left
    exact AllReadyH.nil
   rotate_left
   refine AllReadyH.cons (o := { dst := some 8, op := .alloc 32, type := 0, pos := "model.go:35", after := #[], guard := none }) rfl (fun K hK => ?_) ?_
   focus
    go_simp
    obtain ⟨Q, HEQ⟩ : ∃ P, Hid (P = u7.heap.size) := ⟨_, hid rfl⟩
    obtain ⟨u10, HU10⟩ : ∃ W, Hid (W = u7.alloc (.cells #[.int .i64 0, .int .i64 0, .int .i64 0, .int .i64 0] 32)) := ⟨_, hid rfl⟩
    rw [<- HEQ.out, <- HU10.out]
    have hal : Below u7.heap.size u7 u10 := by rw [HU10.out]; exact z04 _ _
    have HRQ : Hid (Row u10 Q 32 [.int .i64 0, .int .i64 0, .int .i64 0, .int .i64 0]) := hid (by rw [HU10.out, HEQ.out]; exact z01 u7 #[.int .i64 0, .int .i64 0, .int .i64 0, .int .i64 0] _)
    have hgeQ : w.heap.size + 4 <= Q := by have h8 := HB1.out.size; have h9 := HB70.out.size; have h7 := HSZ.out; have h6 := HEQ.out; omega
    have hneQ : P ≠ Q := by have h8 := HRP.out.lt; have h6 := HEQ.out; omega
    have HRP := hid (HRP.out.below hal)
    have HST := hid (HST.out.old hal)
    have HB100 := hid (z00 HB70.out hal)
    clear hal
    refine hK.out _ _ ?_ (fun hz => ?_)
    ·exact HSR.out _ HB100.out
    clear hK K
    try simp only [Act.put, List.setIfInBounds_toArray, List.set_cons_zero, List.set_cons_succ]
    refine wpAnyH_ready (rs := [3]) (by kernel_rfl) (by simp) ?_
    refine AllReadyH.cons (o := { dst := some 23, op := .call { callee := .value (.func 40), args := #[.tmp 21, .tmp 22], argTypes := #[73, 28] }, type := 74, pos := "model.go:35", after := #[{ on := 1, ground := .data }, { on := 2, ground := .data }, { on := 1, ground := .chain }], guard := none }) rfl (fun K hK => ?_) ?_
    focus
     go_simp
     refine (HEX.out _ _ _ _ _ _ (z00 HB1.out HB100.out) HST.out).mono ?_
     rintro e uZ ⟨ae3, ce3, ac3, cc3, M3, rfl, hst, hb⟩
     simp only
     rw [<- HL2e.out, <- HL2c.out, <- HV2.out]
     have HST := hid hst
     have HBZ0 := hid (z00 HB100.out hb)
     have HRP := hid (HRP.out.below hb)
     have HRQ := hid (HRQ.out.below hb)
     clear hst hb
     go_wp2_with fail
     refine hK.out _ _ ?_ (fun hz => ?_)
     ·exact HSR.out _ HBZ0.out
     clear hK K
     try simp only [Act.put, List.setIfInBounds_toArray, List.set_cons_zero, List.set_cons_succ]
     refine wpAnyH_take (i := 4) (oi := { dst := some 19, op := .move (.tmp 23), type := 74, pos := "model.go:35", after := #[{ on := 3, ground := .data }], guard := none }) (v := ?_) rfl (by kernel_rfl) (by kernel_rfl) (by kernel_rfl) (fun _ _ _ h => h) (Or.inl ⟨by rfl, ?_⟩) (by assumption) ?_
     rotate_left
     ·(intro w hSw; (try dsimp only at hSw); go_simp) <;> with_reducible rfl
     simp only [Act.put, List.setIfInBounds_toArray, List.set_cons_zero, List.set_cons_succ]
     refine wpAnyH_take (i := 5) (oi := { dst := some 24, op := .extract (.tmp 19) 0, type := 73, pos := "model.go:35", after := #[{ on := 4, ground := .data }], guard := none }) (v := ?_) rfl (by kernel_rfl) (by kernel_rfl) (by kernel_rfl) (fun _ _ _ h => h) (Or.inl ⟨by rfl, ?_⟩) (by assumption) ?_
     rotate_left
     ·(intro w hSw; (try dsimp only at hSw); go_simp) <;> with_reducible rfl
     simp only [Act.put, List.setIfInBounds_toArray, List.set_cons_zero, List.set_cons_succ]
     refine wpAnyH_take (i := 6) (oi := { dst := some 25, op := .extract (.tmp 19) 1, type := 32, pos := "model.go:35", after := #[{ on := 4, ground := .data }, { on := 9, ground := .gcOnly .lateStores }], guard := none }) (v := ?_) rfl (by kernel_rfl) (by kernel_rfl) (by kernel_rfl) (fun _ _ _ h => h) (Or.inl ⟨by rfl, ?_⟩) (by assumption) ?_
     rotate_left
     ·(intro w hSw; (try dsimp only at hSw); go_simp) <;> with_reducible rfl
     simp only [Act.put, List.setIfInBounds_toArray, List.set_cons_zero, List.set_cons_succ]
    rotate_left
    exact AllReadyH.nil
   rotate_left
   exact AllReadyH.nil
  rotate_left 2
  refine AllReadyH.cons (o := { dst := some 8, op := .alloc 32, type := 0, pos := "model.go:35", after := #[], guard := none }) rfl (fun K hK => ?_) ?_
  focus
   go_simp
   obtain ⟨Q, HEQ⟩ : ∃ P, Hid (P = u1.heap.size) := ⟨_, hid rfl⟩
   obtain ⟨u12, HU12⟩ : ∃ W, Hid (W = u1.alloc (.cells #[.int .i64 0, .int .i64 0, .int .i64 0, .int .i64 0] 32)) := ⟨_, hid rfl⟩
   rw [<- HEQ.out, <- HU12.out]
   have hal : Below u1.heap.size u1 u12 := by rw [HU12.out]; exact z04 _ _
   have HRQ : Hid (Row u12 Q 32 [.int .i64 0, .int .i64 0, .int .i64 0, .int .i64 0]) := hid (by rw [HU12.out, HEQ.out]; exact z01 u1 #[.int .i64 0, .int .i64 0, .int .i64 0, .int .i64 0] _)
   have hgeQ : w.heap.size + 4 <= Q := by have h8 := HB1.out.size; have h9 := HB10.out.size; have h7 := HSZ.out; have h6 := HEQ.out; omega
   have HST := hid (HST.out.old hal)
   have HB120 := hid (z00 HB10.out hal)
   clear hal
   refine hK.out _ _ ?_ (fun hz => ?_)
   ·exact HSR.out _ HB120.out
   clear hK K
   try simp only [Act.put, List.setIfInBounds_toArray, List.set_cons_zero, List.set_cons_succ]
   refine wpAnyH_ready (rs := [3, 7]) (by kernel_rfl) (by simp) ?_
   refine AllReadyH.cons (o := { dst := some 23, op := .call { callee := .value (.func 40), args := #[.tmp 21, .tmp 22], argTypes := #[73, 28] }, type := 74, pos := "model.go:35", after := #[{ on := 1, ground := .data }, { on := 2, ground := .data }, { on := 1, ground := .chain }], guard := none }) rfl (fun K hK => ?_) ?_
   focus
    go_simp
    refine (HEX.out _ _ _ _ _ _ (z00 HB1.out HB120.out) HST.out).mono ?_
    rintro e u13 ⟨ae3, ce3, ac3, cc3, M3, rfl, hst, hb⟩
    simp only
    rw [<- HL2e.out, <- HL2c.out, <- HV2.out]
    have HST := hid hst
    have HB130 := hid (z00 HB120.out hb)
    have HRQ := hid (HRQ.out.below hb)
    clear hst hb
    go_wp2_with fail
    refine hK.out _ _ ?_ (fun hz => ?_)
    ·exact HSR.out _ HB130.out
    clear hK K
    try simp only [Act.put, List.setIfInBounds_toArray, List.set_cons_zero, List.set_cons_succ]
    refine wpAnyH_take (i := 4) (oi := { dst := some 19, op := .move (.tmp 23), type := 74, pos := "model.go:35", after := #[{ on := 3, ground := .data }], guard := none }) (v := ?_) rfl (by kernel_rfl) (by kernel_rfl) (by kernel_rfl) (fun _ _ _ h => h) (Or.inl ⟨by rfl, ?_⟩) (by assumption) ?_
    rotate_left
    ·(intro w hSw; (try dsimp only at hSw); go_simp) <;> with_reducible rfl
    simp only [Act.put, List.setIfInBounds_toArray, List.set_cons_zero, List.set_cons_succ]
    refine wpAnyH_take (i := 5) (oi := { dst := some 24, op := .extract (.tmp 19) 0, type := 73, pos := "model.go:35", after := #[{ on := 4, ground := .data }], guard := none }) (v := ?_) rfl (by kernel_rfl) (by kernel_rfl) (by kernel_rfl) (fun _ _ _ h => h) (Or.inl ⟨by rfl, ?_⟩) (by assumption) ?_
    rotate_left
    ·(intro w hSw; (try dsimp only at hSw); go_simp) <;> with_reducible rfl
    simp only [Act.put, List.setIfInBounds_toArray, List.set_cons_zero, List.set_cons_succ]
    refine wpAnyH_take (i := 6) (oi := { dst := some 25, op := .extract (.tmp 19) 1, type := 32, pos := "model.go:35", after := #[{ on := 4, ground := .data }, { on := 9, ground := .gcOnly .lateStores }], guard := none }) (v := ?_) rfl (by kernel_rfl) (by kernel_rfl) (by kernel_rfl) (fun _ _ _ h => h) (Or.inl ⟨by rfl, ?_⟩) (by assumption) ?_
    rotate_left
    ·(intro w hSw; (try dsimp only at hSw); go_simp) <;> with_reducible rfl
    simp only [Act.put, List.setIfInBounds_toArray, List.set_cons_zero, List.set_cons_succ]
    refine wpAnyH_ready (rs := [7]) (by kernel_rfl) (by simp) ?_
    refine AllReadyH.cons (o := { dst := some 7, op := .alloc 73, type := 0, pos := "model.go:35", after := #[], guard := none }) rfl (fun K hK => ?_) ?_
    focus
     go_simp
     obtain ⟨P, HEP⟩ : ∃ P, Hid (P = u13.heap.size) := ⟨_, hid rfl⟩
     obtain ⟨uZ, HUZ⟩ : ∃ W, Hid (W = u13.alloc (.cells #[.int .i64 0, .slice none 0 0, .slice none 0 0, .map none] 73)) := ⟨_, hid rfl⟩
     rw [<- HEP.out, <- HUZ.out]
     have hal : Below u13.heap.size u13 uZ := by rw [HUZ.out]; exact z04 _ _
     have HRP : Hid (Row uZ P 73 [.int .i64 0, .slice none 0 0, .slice none 0 0, .map none]) := hid (by rw [HUZ.out, HEP.out]; exact z01 u13 #[.int .i64 0, .slice none 0 0, .slice none 0 0, .map none] _)
     have hgeP : w.heap.size + 4 <= P := by have h8 := HB1.out.size; have h9 := HB130.out.size; have h7 := HSZ.out; have h6 := HEP.out; omega
     have hneP : Q ≠ P := by have h8 := HRQ.out.lt; have h6 := HEP.out; omega
     have HRQ := hid (HRQ.out.below hal)
     have HST := hid (HST.out.old hal)
     have HBZ0 := hid (z00 HB130.out hal)
     clear hal
     refine hK.out _ _ ?_ (fun hz => ?_)
     ·exact HSR.out _ HBZ0.out
     clear hK K
     try simp only [Act.put, List.setIfInBounds_toArray, List.set_cons_zero, List.set_cons_succ]
    rotate_left
    exact AllReadyH.nil
   rotate_left
   refine AllReadyH.cons (o := { dst := some 7, op := .alloc 73, type := 0, pos := "model.go:35", after := #[], guard := none }) rfl (fun K hK => ?_) ?_
   focus
    go_simp
    obtain ⟨P, HEP⟩ : ∃ P, Hid (P = u12.heap.size) := ⟨_, hid rfl⟩
    obtain ⟨u15, HU15⟩ : ∃ W, Hid (W = u12.alloc (.cells #[.int .i64 0, .slice none 0 0, .slice none 0 0, .map none] 73)) := ⟨_, hid rfl⟩
    rw [<- HEP.out, <- HU15.out]
    have hal : Below u12.heap.size u12 u15 := by rw [HU15.out]; exact z04 _ _
    have HRP : Hid (Row u15 P 73 [.int .i64 0, .slice none 0 0, .slice none 0 0, .map none]) := hid (by rw [HU15.out, HEP.out]; exact z01 u12 #[.int .i64 0, .slice none 0 0, .slice none 0 0, .map none] _)
    have hgeP : w.heap.size + 4 <= P := by have h8 := HB1.out.size; have h9 := HB120.out.size; have h7 := HSZ.out; have h6 := HEP.out; omega
    have hneP : Q ≠ P := by have h8 := HRQ.out.lt; have h6 := HEP.out; omega
    have HRQ := hid (HRQ.out.below hal)
    have HST := hid (HST.out.old hal)
    have HB150 := hid (z00 HB120.out hal)
    clear hal
    refine hK.out _ _ ?_ (fun hz => ?_)
    ·exact HSR.out _ HB150.out
    clear hK K
    try simp only [Act.put, List.setIfInBounds_toArray, List.set_cons_zero, List.set_cons_succ]
    refine wpAnyH_ready (rs := [3]) (by kernel_rfl) (by simp) ?_
    refine AllReadyH.cons (o := { dst := some 23, op := .call { callee := .value (.func 40), args := #[.tmp 21, .tmp 22], argTypes := #[73, 28] }, type := 74, pos := "model.go:35", after := #[{ on := 1, ground := .data }, { on := 2, ground := .data }, { on := 1, ground := .chain }], guard := none }) rfl (fun K hK => ?_) ?_
    focus
     go_simp
     refine (HEX.out _ _ _ _ _ _ (z00 HB1.out HB150.out) HST.out).mono ?_
     rintro e uZ ⟨ae3, ce3, ac3, cc3, M3, rfl, hst, hb⟩
     simp only
     rw [<- HL2e.out, <- HL2c.out, <- HV2.out]
     have HST := hid hst
     have HBZ0 := hid (z00 HB150.out hb)
     have HRP := hid (HRP.out.below hb)
     have HRQ := hid (HRQ.out.below hb)
     clear hst hb
     go_wp2_with fail
     refine hK.out _ _ ?_ (fun hz => ?_)
     ·exact HSR.out _ HBZ0.out
     clear hK K
     try simp only [Act.put, List.setIfInBounds_toArray, List.set_cons_zero, List.set_cons_succ]
     refine wpAnyH_take (i := 4) (oi := { dst := some 19, op := .move (.tmp 23), type := 74, pos := "model.go:35", after := #[{ on := 3, ground := .data }], guard := none }) (v := ?_) rfl (by kernel_rfl) (by kernel_rfl) (by kernel_rfl) (fun _ _ _ h => h) (Or.inl ⟨by rfl, ?_⟩) (by assumption) ?_
     rotate_left
     ·(intro w hSw; (try dsimp only at hSw); go_simp) <;> with_reducible rfl
     simp only [Act.put, List.setIfInBounds_toArray, List.set_cons_zero, List.set_cons_succ]
     refine wpAnyH_take (i := 5) (oi := { dst := some 24, op := .extract (.tmp 19) 0, type := 73, pos := "model.go:35", after := #[{ on := 4, ground := .data }], guard := none }) (v := ?_) rfl (by kernel_rfl) (by kernel_rfl) (by kernel_rfl) (fun _ _ _ h => h) (Or.inl ⟨by rfl, ?_⟩) (by assumption) ?_
     rotate_left
     ·(intro w hSw; (try dsimp only at hSw); go_simp) <;> with_reducible rfl
     simp only [Act.put, List.setIfInBounds_toArray, List.set_cons_zero, List.set_cons_succ]
     refine wpAnyH_take (i := 6) (oi := { dst := some 25, op := .extract (.tmp 19) 1, type := 32, pos := "model.go:35", after := #[{ on := 4, ground := .data }, { on := 9, ground := .gcOnly .lateStores }], guard := none }) (v := ?_) rfl (by kernel_rfl) (by kernel_rfl) (by kernel_rfl) (fun _ _ _ h => h) (Or.inl ⟨by rfl, ?_⟩) (by assumption) ?_
     rotate_left
     ·(intro w hSw; (try dsimp only at hSw); go_simp) <;> with_reducible rfl
     simp only [Act.put, List.setIfInBounds_toArray, List.set_cons_zero, List.set_cons_succ]
    rotate_left
    exact AllReadyH.nil
   rotate_left
   exact AllReadyH.nil
  rotate_left 2
  exact AllReadyH.nil
 rotate_left 6
 refine AllReadyH.cons (o := { dst := some 7, op := .alloc 73, type := 0, pos := "model.go:35", after := #[], guard := none }) rfl (fun K hK => ?_) ?_
 focus
  go_simp
  obtain ⟨P, HEP⟩ : ∃ P, Hid (P = w4.heap.size) := ⟨_, hid rfl⟩
  obtain ⟨u17, HU17⟩ : ∃ W, Hid (W = w4.alloc (.cells #[.int .i64 0, .slice none 0 0, .slice none 0 0, .map none] 73)) := ⟨_, hid rfl⟩
  rw [<- HEP.out, <- HU17.out]
  have hal : Below w4.heap.size w4 u17 := by rw [HU17.out]; exact z04 _ _
  have HRP : Hid (Row u17 P 73 [.int .i64 0, .slice none 0 0, .slice none 0 0, .map none]) := hid (by rw [HU17.out, HEP.out]; exact z01 w4 #[.int .i64 0, .slice none 0 0, .slice none 0 0, .map none] _)
  have hgeP : w.heap.size + 4 <= P := by have h8 := HB1.out.size; have h9 := HB4.out.size; have h7 := HSZ.out; have h6 := HEP.out; omega
  have HB170 := hid (z00 HB4.out hal)
  clear hal
  refine hK.out _ _ ?_ (fun hz => ?_)
  ·exact HSR.out _ HB170.out
  clear hK K
  try simp only [Act.put, List.setIfInBounds_toArray, List.set_cons_zero, List.set_cons_succ]
  refine wpAnyH_ready (rs := [1, 8]) (by kernel_rfl) (by simp) ?_
  refine AllReadyH.cons (o := { dst := some 21, op := .call { callee := .value (.func 39), args := #[.tmp 20], argTypes := #[25] }, type := 73, pos := "model.go:35", after := #[{ on := 0, ground := .data }], guard := none }) rfl (fun K hK => ?_) ?_
  focus
   go_simp
   refine (HSO.out _ (z00 HB1.out HB170.out)).mono ?_
   rintro e u18 ⟨ae1, ce1, ac1, cc1, M1, rfl, hst, -, hb⟩
   rw [<- HLe.out, <- HLc.out, <- Hv.out]
   have HST := hid hst
   have HB180 := hid (z00 HB170.out hb)
   have HRP := hid (HRP.out.below hb)
   clear hst hb
   go_wp2_with fail
   refine hK.out _ _ ?_ (fun hz => ?_)
   ·exact HSR.out _ HB180.out
   clear hK K
   try simp only [Act.put, List.setIfInBounds_toArray, List.set_cons_zero, List.set_cons_succ]
   refine wpAnyH_ready (rs := [3, 8]) (by kernel_rfl) (by simp) ?_
   refine AllReadyH.cons (o := { dst := some 23, op := .call { callee := .value (.func 40), args := #[.tmp 21, .tmp 22], argTypes := #[73, 28] }, type := 74, pos := "model.go:35", after := #[{ on := 1, ground := .data }, { on := 2, ground := .data }, { on := 1, ground := .chain }], guard := none }) rfl (fun K hK => ?_) ?_
   focus
    go_simp
    refine (HEX.out _ _ _ _ _ _ (z00 HB1.out HB180.out) HST.out).mono ?_
    rintro e u19 ⟨ae3, ce3, ac3, cc3, M3, rfl, hst, hb⟩
    simp only
    rw [<- HL2e.out, <- HL2c.out, <- HV2.out]
    have HST := hid hst
    have HB190 := hid (z00 HB180.out hb)
    have HRP := hid (HRP.out.below hb)
    clear hst hb
    go_wp2_with fail
    refine hK.out _ _ ?_ (fun hz => ?_)
    ·exact HSR.out _ HB190.out
    clear hK K
    try simp only [Act.put, List.setIfInBounds_toArray, List.set_cons_zero, List.set_cons_succ]
    refine wpAnyH_take (i := 4) (oi := { dst := some 19, op := .move (.tmp 23), type := 74, pos := "model.go:35", after := #[{ on := 3, ground := .data }], guard := none }) (v := ?_) rfl (by kernel_rfl) (by kernel_rfl) (by kernel_rfl) (fun _ _ _ h => h) (Or.inl ⟨by rfl, ?_⟩) (by assumption) ?_
    rotate_left
    ·(intro w hSw; (try dsimp only at hSw); go_simp) <;> with_reducible rfl
    simp only [Act.put, List.setIfInBounds_toArray, List.set_cons_zero, List.set_cons_succ]
    refine wpAnyH_take (i := 5) (oi := { dst := some 24, op := .extract (.tmp 19) 0, type := 73, pos := "model.go:35", after := #[{ on := 4, ground := .data }], guard := none }) (v := ?_) rfl (by kernel_rfl) (by kernel_rfl) (by kernel_rfl) (fun _ _ _ h => h) (Or.inl ⟨by rfl, ?_⟩) (by assumption) ?_
    rotate_left
    ·(intro w hSw; (try dsimp only at hSw); go_simp) <;> with_reducible rfl
    simp only [Act.put, List.setIfInBounds_toArray, List.set_cons_zero, List.set_cons_succ]
    refine wpAnyH_take (i := 6) (oi := { dst := some 25, op := .extract (.tmp 19) 1, type := 32, pos := "model.go:35", after := #[{ on := 4, ground := .data }, { on := 9, ground := .gcOnly .lateStores }], guard := none }) (v := ?_) rfl (by kernel_rfl) (by kernel_rfl) (by kernel_rfl) (fun _ _ _ h => h) (Or.inl ⟨by rfl, ?_⟩) (by assumption) ?_
    rotate_left
    ·(intro w hSw; (try dsimp only at hSw); go_simp) <;> with_reducible rfl
    simp only [Act.put, List.setIfInBounds_toArray, List.set_cons_zero, List.set_cons_succ]
    refine wpAnyH_ready (rs := [8]) (by kernel_rfl) (by simp) ?_
    refine AllReadyH.cons (o := { dst := some 8, op := .alloc 32, type := 0, pos := "model.go:35", after := #[], guard := none }) rfl (fun K hK => ?_) ?_
    focus
     go_simp
     obtain ⟨Q, HEQ⟩ : ∃ P, Hid (P = u19.heap.size) := ⟨_, hid rfl⟩
     obtain ⟨uZ, HUZ⟩ : ∃ W, Hid (W = u19.alloc (.cells #[.int .i64 0, .int .i64 0, .int .i64 0, .int .i64 0] 32)) := ⟨_, hid rfl⟩
     rw [<- HEQ.out, <- HUZ.out]
     have hal : Below u19.heap.size u19 uZ := by rw [HUZ.out]; exact z04 _ _
     have HRQ : Hid (Row uZ Q 32 [.int .i64 0, .int .i64 0, .int .i64 0, .int .i64 0]) := hid (by rw [HUZ.out, HEQ.out]; exact z01 u19 #[.int .i64 0, .int .i64 0, .int .i64 0, .int .i64 0] _)
     have hgeQ : w.heap.size + 4 <= Q := by have h8 := HB1.out.size; have h9 := HB190.out.size; have h7 := HSZ.out; have h6 := HEQ.out; omega
     have hneQ : P ≠ Q := by have h8 := HRP.out.lt; have h6 := HEQ.out; omega
     have HRP := hid (HRP.out.below hal)
     have HST := hid (HST.out.old hal)
     have HBZ0 := hid (z00 HB190.out hal)
     clear hal
     refine hK.out _ _ ?_ (fun hz => ?_)
     ·exact HSR.out _ HBZ0.out
     clear hK K
     try simp only [Act.put, List.setIfInBounds_toArray, List.set_cons_zero, List.set_cons_succ]
    rotate_left
    exact AllReadyH.nil
   rotate_left
   refine AllReadyH.cons (o := { dst := some 8, op := .alloc 32, type := 0, pos := "model.go:35", after := #[], guard := none }) rfl (fun K hK => ?_) ?_
   focus
    go_simp
    obtain ⟨Q, HEQ⟩ : ∃ P, Hid (P = u18.heap.size) := ⟨_, hid rfl⟩
    obtain ⟨u21, HU21⟩ : ∃ W, Hid (W = u18.alloc (.cells #[.int .i64 0, .int .i64 0, .int .i64 0, .int .i64 0] 32)) := ⟨_, hid rfl⟩
    rw [<- HEQ.out, <- HU21.out]
    have hal : Below u18.heap.size u18 u21 := by rw [HU21.out]; exact z04 _ _
    have HRQ : Hid (Row u21 Q 32 [.int .i64 0, .int .i64 0, .int .i64 0, .int .i64 0]) := hid (by rw [HU21.out, HEQ.out]; exact z01 u18 #[.int .i64 0, .int .i64 0, .int .i64 0, .int .i64 0] _)
    have hgeQ : w.heap.size + 4 <= Q := by have h8 := HB1.out.size; have h9 := HB180.out.size; have h7 := HSZ.out; have h6 := HEQ.out; omega
    have hneQ : P ≠ Q := by have h8 := HRP.out.lt; have h6 := HEQ.out; omega
    have HRP := hid (HRP.out.below hal)
    have HST := hid (HST.out.old hal)
    have HB210 := hid (z00 HB180.out hal)
    clear hal
    refine hK.out _ _ ?_ (fun hz => ?_)
    ·exact HSR.out _ HB210.out
    clear hK K
    try simp only [Act.put, List.setIfInBounds_toArray, List.set_cons_zero, List.set_cons_succ]
    refine wpAnyH_ready (rs := [3]) (by kernel_rfl) (by simp) ?_
    refine AllReadyH.cons (o := { dst := some 23, op := .call { callee := .value (.func 40), args := #[.tmp 21, .tmp 22], argTypes := #[73, 28] }, type := 74, pos := "model.go:35", after := #[{ on := 1, ground := .data }, { on := 2, ground := .data }, { on := 1, ground := .chain }], guard := none }) rfl (fun K hK => ?_) ?_
    focus
     go_simp
     refine (HEX.out _ _ _ _ _ _ (z00 HB1.out HB210.out) HST.out).mono ?_
     rintro e uZ ⟨ae3, ce3, ac3, cc3, M3, rfl, hst, hb⟩
     simp only
     rw [<- HL2e.out, <- HL2c.out, <- HV2.out]
     have HST := hid hst
     have HBZ0 := hid (z00 HB210.out hb)
     have HRP := hid (HRP.out.below hb)
     have HRQ := hid (HRQ.out.below hb)
     clear hst hb
     go_wp2_with fail
     refine hK.out _ _ ?_ (fun hz => ?_)
     ·exact HSR.out _ HBZ0.out
     clear hK K
     try simp only [Act.put, List.setIfInBounds_toArray, List.set_cons_zero, List.set_cons_succ]
     refine wpAnyH_take (i := 4) (oi := { dst := some 19, op := .move (.tmp 23), type := 74, pos := "model.go:35", after := #[{ on := 3, ground := .data }], guard := none }) (v := ?_) rfl (by kernel_rfl) (by kernel_rfl) (by kernel_rfl) (fun _ _ _ h => h) (Or.inl ⟨by rfl, ?_⟩) (by assumption) ?_
     rotate_left
     ·(intro w hSw; (try dsimp only at hSw); go_simp) <;> with_reducible rfl
     simp only [Act.put, List.setIfInBounds_toArray, List.set_cons_zero, List.set_cons_succ]
     refine wpAnyH_take (i := 5) (oi := { dst := some 24, op := .extract (.tmp 19) 0, type := 73, pos := "model.go:35", after := #[{ on := 4, ground := .data }], guard := none }) (v := ?_) rfl (by kernel_rfl) (by kernel_rfl) (by kernel_rfl) (fun _ _ _ h => h) (Or.inl ⟨by rfl, ?_⟩) (by assumption) ?_
     rotate_left
     ·(intro w hSw; (try dsimp only at hSw); go_simp) <;> with_reducible rfl
     simp only [Act.put, List.setIfInBounds_toArray, List.set_cons_zero, List.set_cons_succ]
     refine wpAnyH_take (i := 6) (oi := { dst := some 25, op := .extract (.tmp 19) 1, type := 32, pos := "model.go:35", after := #[{ on := 4, ground := .data }, { on := 9, ground := .gcOnly .lateStores }], guard := none }) (v := ?_) rfl (by kernel_rfl) (by kernel_rfl) (by kernel_rfl) (fun _ _ _ h => h) (Or.inl ⟨by rfl, ?_⟩) (by assumption) ?_
     rotate_left
     ·(intro w hSw; (try dsimp only at hSw); go_simp) <;> with_reducible rfl
     simp only [Act.put, List.setIfInBounds_toArray, List.set_cons_zero, List.set_cons_succ]
    rotate_left
    exact AllReadyH.nil
   rotate_left
   exact AllReadyH.nil
  rotate_left 2
  refine AllReadyH.cons (o := { dst := some 8, op := .alloc 32, type := 0, pos := "model.go:35", after := #[], guard := none }) rfl (fun K hK => ?_) ?_
  focus
   go_simp
   obtain ⟨Q, HEQ⟩ : ∃ P, Hid (P = u17.heap.size) := ⟨_, hid rfl⟩
   obtain ⟨u23, HU23⟩ : ∃ W, Hid (W = u17.alloc (.cells #[.int .i64 0, .int .i64 0, .int .i64 0, .int .i64 0] 32)) := ⟨_, hid rfl⟩
   rw [<- HEQ.out, <- HU23.out]
   have hal : Below u17.heap.size u17 u23 := by rw [HU23.out]; exact z04 _ _
   have HRQ : Hid (Row u23 Q 32 [.int .i64 0, .int .i64 0, .int .i64 0, .int .i64 0]) := hid (by rw [HU23.out, HEQ.out]; exact z01 u17 #[.int .i64 0, .int .i64 0, .int .i64 0, .int .i64 0] _)
   have hgeQ : w.heap.size + 4 <= Q := by have h8 := HB1.out.size; have h9 := HB170.out.size; have h7 := HSZ.out; have h6 := HEQ.out; omega
   have hneQ : P ≠ Q := by have h8 := HRP.out.lt; have h6 := HEQ.out; omega
   have HRP := hid (HRP.out.below hal)
   have HB230 := hid (z00 HB170.out hal)
   clear hal
   refine hK.out _ _ ?_ (fun hz => ?_)
   ·exact HSR.out _ HB230.out
   clear hK K
   try simp only [Act.put, List.setIfInBounds_toArray, List.set_cons_zero, List.set_cons_succ]
   refine wpAnyH_ready (rs := [1]) (by kernel_rfl) (by simp) ?_
   refine AllReadyH.cons (o := { dst := some 21, op := .call { callee := .value (.func 39), args := #[.tmp 20], argTypes := #[25] }, type := 73, pos := "model.go:35", after := #[{ on := 0, ground := .data }], guard := none }) rfl (fun K hK => ?_) ?_
   focus
    go_simp
    refine (HSO.out _ (z00 HB1.out HB230.out)).mono ?_
    rintro e u24 ⟨ae1, ce1, ac1, cc1, M1, rfl, hst, -, hb⟩
    rw [<- HLe.out, <- HLc.out, <- Hv.out]
    have HST := hid hst
    have HB240 := hid (z00 HB230.out hb)
    have HRP := hid (HRP.out.below hb)
    have HRQ := hid (HRQ.out.below hb)
    clear hst hb
    go_wp2_with fail
    refine hK.out _ _ ?_ (fun hz => ?_)
    ·exact HSR.out _ HB240.out
    clear hK K
    try simp only [Act.put, List.setIfInBounds_toArray, List.set_cons_zero, List.set_cons_succ]
    refine wpAnyH_ready (rs := [3]) (by kernel_rfl) (by simp) ?_
    refine AllReadyH.cons (o := { dst := some 23, op := .call { callee := .value (.func 40), args := #[.tmp 21, .tmp 22], argTypes := #[73, 28] }, type := 74, pos := "model.go:35", after := #[{ on := 1, ground := .data }, { on := 2, ground := .data }, { on := 1, ground := .chain }], guard := none }) rfl (fun K hK => ?_) ?_
    focus
     go_simp
     refine (HEX.out _ _ _ _ _ _ (z00 HB1.out HB240.out) HST.out).mono ?_
     rintro e uZ ⟨ae3, ce3, ac3, cc3, M3, rfl, hst, hb⟩
     simp only
     rw [<- HL2e.out, <- HL2c.out, <- HV2.out]
     have HST := hid hst
     have HBZ0 := hid (z00 HB240.out hb)
     have HRP := hid (HRP.out.below hb)
     have HRQ := hid (HRQ.out.below hb)
     clear hst hb
     go_wp2_with fail
     refine hK.out _ _ ?_ (fun hz => ?_)
     ·exact HSR.out _ HBZ0.out
     clear hK K
     try simp only [Act.put, List.setIfInBounds_toArray, List.set_cons_zero, List.set_cons_succ]
     refine wpAnyH_take (i := 4) (oi := { dst := some 19, op := .move (.tmp 23), type := 74, pos := "model.go:35", after := #[{ on := 3, ground := .data }], guard := none }) (v := ?_) rfl (by kernel_rfl) (by kernel_rfl) (by kernel_rfl) (fun _ _ _ h => h) (Or.inl ⟨by rfl, ?_⟩) (by assumption) ?_
     rotate_left
     ·(intro w hSw; (try dsimp only at hSw); go_simp) <;> with_reducible rfl
     simp only [Act.put, List.setIfInBounds_toArray, List.set_cons_zero, List.set_cons_succ]
     refine wpAnyH_take (i := 5) (oi := { dst := some 24, op := .extract (.tmp 19) 0, type := 73, pos := "model.go:35", after := #[{ on := 4, ground := .data }], guard := none }) (v := ?_) rfl (by kernel_rfl) (by kernel_rfl) (by kernel_rfl) (fun _ _ _ h => h) (Or.inl ⟨by rfl, ?_⟩) (by assumption) ?_
     rotate_left
     ·(intro w hSw; (try dsimp only at hSw); go_simp) <;> with_reducible rfl
     simp only [Act.put, List.setIfInBounds_toArray, List.set_cons_zero, List.set_cons_succ]
     refine wpAnyH_take (i := 6) (oi := { dst := some 25, op := .extract (.tmp 19) 1, type := 32, pos := "model.go:35", after := #[{ on := 4, ground := .data }, { on := 9, ground := .gcOnly .lateStores }], guard := none }) (v := ?_) rfl (by kernel_rfl) (by kernel_rfl) (by kernel_rfl) (fun _ _ _ h => h) (Or.inl ⟨by rfl, ?_⟩) (by assumption) ?_
     rotate_left
     ·(intro w hSw; (try dsimp only at hSw); go_simp) <;> with_reducible rfl
     simp only [Act.put, List.setIfInBounds_toArray, List.set_cons_zero, List.set_cons_succ]
    rotate_left
    exact AllReadyH.nil
   rotate_left
   exact AllReadyH.nil
  rotate_left
  exact AllReadyH.nil
 rotate_left 3
 refine AllReadyH.cons (o := { dst := some 8, op := .alloc 32, type := 0, pos := "model.go:35", after := #[], guard := none }) rfl (fun K hK => ?_) ?_
 focus
  go_simp
  obtain ⟨Q, HEQ⟩ : ∃ P, Hid (P = w4.heap.size) := ⟨_, hid rfl⟩
  obtain ⟨u26, HU26⟩ : ∃ W, Hid (W = w4.alloc (.cells #[.int .i64 0, .int .i64 0, .int .i64 0, .int .i64 0] 32)) := ⟨_, hid rfl⟩
  rw [<- HEQ.out, <- HU26.out]
  have hal : Below w4.heap.size w4 u26 := by rw [HU26.out]; exact z04 _ _
  have HRQ : Hid (Row u26 Q 32 [.int .i64 0, .int .i64 0, .int .i64 0, .int .i64 0]) := hid (by rw [HU26.out, HEQ.out]; exact z01 w4 #[.int .i64 0, .int .i64 0, .int .i64 0, .int .i64 0] _)
  have hgeQ : w.heap.size + 4 <= Q := by have h8 := HB1.out.size; have h9 := HB4.out.size; have h7 := HSZ.out; have h6 := HEQ.out; omega
  have HB260 := hid (z00 HB4.out hal)
  clear hal
  refine hK.out _ _ ?_ (fun hz => ?_)
  ·exact HSR.out _ HB260.out
  clear hK K
  try simp only [Act.put, List.setIfInBounds_toArray, List.set_cons_zero, List.set_cons_succ]
  refine wpAnyH_ready (rs := [1, 7]) (by kernel_rfl) (by simp) ?_
  refine AllReadyH.cons (o := { dst := some 21, op := .call { callee := .value (.func 39), args := #[.tmp 20], argTypes := #[25] }, type := 73, pos := "model.go:35", after := #[{ on := 0, ground := .data }], guard := none }) rfl (fun K hK => ?_) ?_
  focus
   go_simp
   refine (HSO.out _ (z00 HB1.out HB260.out)).mono ?_
   rintro e u27 ⟨ae1, ce1, ac1, cc1, M1, rfl, hst, -, hb⟩
   rw [<- HLe.out, <- HLc.out, <- Hv.out]
   have HST := hid hst
   have HB270 := hid (z00 HB260.out hb)
   have HRQ := hid (HRQ.out.below hb)
   clear hst hb
   go_wp2_with fail
   refine hK.out _ _ ?_ (fun hz => ?_)
   ·exact HSR.out _ HB270.out
   clear hK K
   try simp only [Act.put, List.setIfInBounds_toArray, List.set_cons_zero, List.set_cons_succ]
   refine wpAnyH_ready (rs := [3, 7]) (by kernel_rfl) (by simp) ?_
   refine AllReadyH.cons (o := { dst := some 23, op := .call { callee := .value (.func 40), args := #[.tmp 21, .tmp 22], argTypes := #[73, 28] }, type := 74, pos := "model.go:35", after := #[{ on := 1, ground := .data }, { on := 2, ground := .data }, { on := 1, ground := .chain }], guard := none }) rfl (fun K hK => ?_) ?_
   focus
    go_simp
    refine (HEX.out _ _ _ _ _ _ (z00 HB1.out HB270.out) HST.out).mono ?_
    rintro e u28 ⟨ae3, ce3, ac3, cc3, M3, rfl, hst, hb⟩
    simp only
    rw [<- HL2e.out, <- HL2c.out, <- HV2.out]
    have HST := hid hst
    have HB280 := hid (z00 HB270.out hb)
    have HRQ := hid (HRQ.out.below hb)
    clear hst hb
    go_wp2_with fail
    refine hK.out _ _ ?_ (fun hz => ?_)
    ·exact HSR.out _ HB280.out
    clear hK K
    try simp only [Act.put, List.setIfInBounds_toArray, List.set_cons_zero, List.set_cons_succ]
    refine wpAnyH_take (i := 4) (oi := { dst := some 19, op := .move (.tmp 23), type := 74, pos := "model.go:35", after := #[{ on := 3, ground := .data }], guard := none }) (v := ?_) rfl (by kernel_rfl) (by kernel_rfl) (by kernel_rfl) (fun _ _ _ h => h) (Or.inl ⟨by rfl, ?_⟩) (by assumption) ?_
    rotate_left
    ·(intro w hSw; (try dsimp only at hSw); go_simp) <;> with_reducible rfl
    simp only [Act.put, List.setIfInBounds_toArray, List.set_cons_zero, List.set_cons_succ]
    refine wpAnyH_take (i := 5) (oi := { dst := some 24, op := .extract (.tmp 19) 0, type := 73, pos := "model.go:35", after := #[{ on := 4, ground := .data }], guard := none }) (v := ?_) rfl (by kernel_rfl) (by kernel_rfl) (by kernel_rfl) (fun _ _ _ h => h) (Or.inl ⟨by rfl, ?_⟩) (by assumption) ?_
    rotate_left
    ·(intro w hSw; (try dsimp only at hSw); go_simp) <;> with_reducible rfl
    simp only [Act.put, List.setIfInBounds_toArray, List.set_cons_zero, List.set_cons_succ]
    refine wpAnyH_take (i := 6) (oi := { dst := some 25, op := .extract (.tmp 19) 1, type := 32, pos := "model.go:35", after := #[{ on := 4, ground := .data }, { on := 9, ground := .gcOnly .lateStores }], guard := none }) (v := ?_) rfl (by kernel_rfl) (by kernel_rfl) (by kernel_rfl) (fun _ _ _ h => h) (Or.inl ⟨by rfl, ?_⟩) (by assumption) ?_
    rotate_left
    ·(intro w hSw; (try dsimp only at hSw); go_simp) <;> with_reducible rfl
    simp only [Act.put, List.setIfInBounds_toArray, List.set_cons_zero, List.set_cons_succ]
    refine wpAnyH_ready (rs := [7]) (by kernel_rfl) (by simp) ?_
    refine AllReadyH.cons (o := { dst := some 7, op := .alloc 73, type := 0, pos := "model.go:35", after := #[], guard := none }) rfl (fun K hK => ?_) ?_
    focus
     go_simp
     obtain ⟨P, HEP⟩ : ∃ P, Hid (P = u28.heap.size) := ⟨_, hid rfl⟩
     obtain ⟨uZ, HUZ⟩ : ∃ W, Hid (W = u28.alloc (.cells #[.int .i64 0, .slice none 0 0, .slice none 0 0, .map none] 73)) := ⟨_, hid rfl⟩
     rw [<- HEP.out, <- HUZ.out]
     have hal : Below u28.heap.size u28 uZ := by rw [HUZ.out]; exact z04 _ _
     have HRP : Hid (Row uZ P 73 [.int .i64 0, .slice none 0 0, .slice none 0 0, .map none]) := hid (by rw [HUZ.out, HEP.out]; exact z01 u28 #[.int .i64 0, .slice none 0 0, .slice none 0 0, .map none] _)
     have hgeP : w.heap.size + 4 <= P := by have h8 := HB1.out.size; have h9 := HB280.out.size; have h7 := HSZ.out; have h6 := HEP.out; omega
     have hneP : Q ≠ P := by have h8 := HRQ.out.lt; have h6 := HEP.out; omega
     have HRQ := hid (HRQ.out.below hal)
     have HST := hid (HST.out.old hal)
     have HBZ0 := hid (z00 HB280.out hal)
     clear hal
     refine hK.out _ _ ?_ (fun hz => ?_)
     ·exact HSR.out _ HBZ0.out
     clear hK K
     try simp only [Act.put, List.setIfInBounds_toArray, List.set_cons_zero, List.set_cons_succ]
    rotate_left
    exact AllReadyH.nil
   rotate_left
   refine AllReadyH.cons (o := { dst := some 7, op := .alloc 73, type := 0, pos := "model.go:35", after := #[], guard := none }) rfl (fun K hK => ?_) ?_
   focus
    go_simp
    obtain ⟨P, HEP⟩ : ∃ P, Hid (P = u27.heap.size) := ⟨_, hid rfl⟩
    obtain ⟨u30, HU30⟩ : ∃ W, Hid (W = u27.alloc (.cells #[.int .i64 0, .slice none 0 0, .slice none 0 0, .map none] 73)) := ⟨_, hid rfl⟩
    rw [<- HEP.out, <- HU30.out]
    have hal : Below u27.heap.size u27 u30 := by rw [HU30.out]; exact z04 _ _
    have HRP : Hid (Row u30 P 73 [.int .i64 0, .slice none 0 0, .slice none 0 0, .map none]) := hid (by rw [HU30.out, HEP.out]; exact z01 u27 #[.int .i64 0, .slice none 0 0, .slice none 0 0, .map none] _)
    have hgeP : w.heap.size + 4 <= P := by have h8 := HB1.out.size; have h9 := HB270.out.size; have h7 := HSZ.out; have h6 := HEP.out; omega
    have hneP : Q ≠ P := by have h8 := HRQ.out.lt; have h6 := HEP.out; omega
    have HRQ := hid (HRQ.out.below hal)
    have HST := hid (HST.out.old hal)
    have HB300 := hid (z00 HB270.out hal)
    clear hal
    refine hK.out _ _ ?_ (fun hz => ?_)
    ·exact HSR.out _ HB300.out
    clear hK K
    try simp only [Act.put, List.setIfInBounds_toArray, List.set_cons_zero, List.set_cons_succ]
    refine wpAnyH_ready (rs := [3]) (by kernel_rfl) (by simp) ?_
    refine AllReadyH.cons (o := { dst := some 23, op := .call { callee := .value (.func 40), args := #[.tmp 21, .tmp 22], argTypes := #[73, 28] }, type := 74, pos := "model.go:35", after := #[{ on := 1, ground := .data }, { on := 2, ground := .data }, { on := 1, ground := .chain }], guard := none }) rfl (fun K hK => ?_) ?_
    focus
     go_simp
     refine (HEX.out _ _ _ _ _ _ (z00 HB1.out HB300.out) HST.out).mono ?_
     rintro e uZ ⟨ae3, ce3, ac3, cc3, M3, rfl, hst, hb⟩
     simp only
     rw [<- HL2e.out, <- HL2c.out, <- HV2.out]
     have HST := hid hst
     have HBZ0 := hid (z00 HB300.out hb)
     have HRP := hid (HRP.out.below hb)
     have HRQ := hid (HRQ.out.below hb)
     clear hst hb
     go_wp2_with fail
     refine hK.out _ _ ?_ (fun hz => ?_)
     ·exact HSR.out _ HBZ0.out
     clear hK K
     try simp only [Act.put, List.setIfInBounds_toArray, List.set_cons_zero, List.set_cons_succ]
     refine wpAnyH_take (i := 4) (oi := { dst := some 19, op := .move (.tmp 23), type := 74, pos := "model.go:35", after := #[{ on := 3, ground := .data }], guard := none }) (v := ?_) rfl (by kernel_rfl) (by kernel_rfl) (by kernel_rfl) (fun _ _ _ h => h) (Or.inl ⟨by rfl, ?_⟩) (by assumption) ?_
     rotate_left
     ·(intro w hSw; (try dsimp only at hSw); go_simp) <;> with_reducible rfl
     simp only [Act.put, List.setIfInBounds_toArray, List.set_cons_zero, List.set_cons_succ]
     refine wpAnyH_take (i := 5) (oi := { dst := some 24, op := .extract (.tmp 19) 0, type := 73, pos := "model.go:35", after := #[{ on := 4, ground := .data }], guard := none }) (v := ?_) rfl (by kernel_rfl) (by kernel_rfl) (by kernel_rfl) (fun _ _ _ h => h) (Or.inl ⟨by rfl, ?_⟩) (by assumption) ?_
     rotate_left
     ·(intro w hSw; (try dsimp only at hSw); go_simp) <;> with_reducible rfl
     simp only [Act.put, List.setIfInBounds_toArray, List.set_cons_zero, List.set_cons_succ]
     refine wpAnyH_take (i := 6) (oi := { dst := some 25, op := .extract (.tmp 19) 1, type := 32, pos := "model.go:35", after := #[{ on := 4, ground := .data }, { on := 9, ground := .gcOnly .lateStores }], guard := none }) (v := ?_) rfl (by kernel_rfl) (by kernel_rfl) (by kernel_rfl) (fun _ _ _ h => h) (Or.inl ⟨by rfl, ?_⟩) (by assumption) ?_
     rotate_left
     ·(intro w hSw; (try dsimp only at hSw); go_simp) <;> with_reducible rfl
     simp only [Act.put, List.setIfInBounds_toArray, List.set_cons_zero, List.set_cons_succ]
    rotate_left
    exact AllReadyH.nil
   rotate_left
   exact AllReadyH.nil
  rotate_left 2
  refine AllReadyH.cons (o := { dst := some 7, op := .alloc 73, type := 0, pos := "model.go:35", after := #[], guard := none }) rfl (fun K hK => ?_) ?_
  focus
   go_simp
   obtain ⟨P, HEP⟩ : ∃ P, Hid (P = u26.heap.size) := ⟨_, hid rfl⟩
   obtain ⟨u32, HU32⟩ : ∃ W, Hid (W = u26.alloc (.cells #[.int .i64 0, .slice none 0 0, .slice none 0 0, .map none] 73)) := ⟨_, hid rfl⟩
   rw [<- HEP.out, <- HU32.out]
   have hal : Below u26.heap.size u26 u32 := by rw [HU32.out]; exact z04 _ _
   have HRP : Hid (Row u32 P 73 [.int .i64 0, .slice none 0 0, .slice none 0 0, .map none]) := hid (by rw [HU32.out, HEP.out]; exact z01 u26 #[.int .i64 0, .slice none 0 0, .slice none 0 0, .map none] _)
   have hgeP : w.heap.size + 4 <= P := by have h8 := HB1.out.size; have h9 := HB260.out.size; have h7 := HSZ.out; have h6 := HEP.out; omega
   have hneP : Q ≠ P := by have h8 := HRQ.out.lt; have h6 := HEP.out; omega
   have HRQ := hid (HRQ.out.below hal)
   have HB320 := hid (z00 HB260.out hal)
   clear hal
   refine hK.out _ _ ?_ (fun hz => ?_)
   ·exact HSR.out _ HB320.out
   clear hK K
   try simp only [Act.put, List.setIfInBounds_toArray, List.set_cons_zero, List.set_cons_succ]
   refine wpAnyH_ready (rs := [1]) (by kernel_rfl) (by simp) ?_
   refine AllReadyH.cons (o := { dst := some 21, op := .call { callee := .value (.func 39), args := #[.tmp 20], argTypes := #[25] }, type := 73, pos := "model.go:35", after := #[{ on := 0, ground := .data }], guard := none }) rfl (fun K hK => ?_) ?_
   focus
    go_simp
    refine (HSO.out _ (z00 HB1.out HB320.out)).mono ?_
    rintro e u33 ⟨ae1, ce1, ac1, cc1, M1, rfl, hst, -, hb⟩
    rw [<- HLe.out, <- HLc.out, <- Hv.out]
    have HST := hid hst
    have HB330 := hid (z00 HB320.out hb)
    have HRP := hid (HRP.out.below hb)
    have HRQ := hid (HRQ.out.below hb)
    clear hst hb
    go_wp2_with fail
    refine hK.out _ _ ?_ (fun hz => ?_)
    ·exact HSR.out _ HB330.out
    clear hK K
    try simp only [Act.put, List.setIfInBounds_toArray, List.set_cons_zero, List.set_cons_succ]
    refine wpAnyH_ready (rs := [3]) (by kernel_rfl) (by simp) ?_
    refine AllReadyH.cons (o := { dst := some 23, op := .call { callee := .value (.func 40), args := #[.tmp 21, .tmp 22], argTypes := #[73, 28] }, type := 74, pos := "model.go:35", after := #[{ on := 1, ground := .data }, { on := 2, ground := .data }, { on := 1, ground := .chain }], guard := none }) rfl (fun K hK => ?_) ?_
    focus
     go_simp
     refine (HEX.out _ _ _ _ _ _ (z00 HB1.out HB330.out) HST.out).mono ?_
     rintro e uZ ⟨ae3, ce3, ac3, cc3, M3, rfl, hst, hb⟩
     simp only
     rw [<- HL2e.out, <- HL2c.out, <- HV2.out]
     have HST := hid hst
     have HBZ0 := hid (z00 HB330.out hb)
     have HRP := hid (HRP.out.below hb)
     have HRQ := hid (HRQ.out.below hb)
     clear hst hb
     go_wp2_with fail
     refine hK.out _ _ ?_ (fun hz => ?_)
     ·exact HSR.out _ HBZ0.out
     clear hK K
     try simp only [Act.put, List.setIfInBounds_toArray, List.set_cons_zero, List.set_cons_succ]
     refine wpAnyH_take (i := 4) (oi := { dst := some 19, op := .move (.tmp 23), type := 74, pos := "model.go:35", after := #[{ on := 3, ground := .data }], guard := none }) (v := ?_) rfl (by kernel_rfl) (by kernel_rfl) (by kernel_rfl) (fun _ _ _ h => h) (Or.inl ⟨by rfl, ?_⟩) (by assumption) ?_
     rotate_left
     ·(intro w hSw; (try dsimp only at hSw); go_simp) <;> with_reducible rfl
     simp only [Act.put, List.setIfInBounds_toArray, List.set_cons_zero, List.set_cons_succ]
     refine wpAnyH_take (i := 5) (oi := { dst := some 24, op := .extract (.tmp 19) 0, type := 73, pos := "model.go:35", after := #[{ on := 4, ground := .data }], guard := none }) (v := ?_) rfl (by kernel_rfl) (by kernel_rfl) (by kernel_rfl) (fun _ _ _ h => h) (Or.inl ⟨by rfl, ?_⟩) (by assumption) ?_
     rotate_left
     ·(intro w hSw; (try dsimp only at hSw); go_simp) <;> with_reducible rfl
     simp only [Act.put, List.setIfInBounds_toArray, List.set_cons_zero, List.set_cons_succ]
     refine wpAnyH_take (i := 6) (oi := { dst := some 25, op := .extract (.tmp 19) 1, type := 32, pos := "model.go:35", after := #[{ on := 4, ground := .data }, { on := 9, ground := .gcOnly .lateStores }], guard := none }) (v := ?_) rfl (by kernel_rfl) (by kernel_rfl) (by kernel_rfl) (fun _ _ _ h => h) (Or.inl ⟨by rfl, ?_⟩) (by assumption) ?_
     rotate_left
     ·(intro w hSw; (try dsimp only at hSw); go_simp) <;> with_reducible rfl
     simp only [Act.put, List.setIfInBounds_toArray, List.set_cons_zero, List.set_cons_succ]
    rotate_left
    exact AllReadyH.nil
   rotate_left
   exact AllReadyH.nil
  rotate_left
  exact AllReadyH.nil
 rotate_left 3
 exact AllReadyH.nil
 all_goals
  have HSTD := hid (z5h HRP.out HRQ.out (by omega) v2 (.slice ae3 L2e ce3) (.slice ac3 L2c cc3) M3 ⟨ri, rq, ra, rv⟩)
  have HP0 : Hid ((putS uZ P v2 (.slice ae3 L2e ce3) (.slice ac3 L2c cc3) M3).cell? ⟨w.heap.size, 0, none⟩ = some (.int .i64 v) /\ (putS uZ P v2 (.slice ae3 L2e ce3) (.slice ac3 L2c cc3) M3).cell? ⟨w.heap.size, 1, none⟩ = some (.slice ae Le ce) /\ (putS uZ P v2 (.slice ae3 L2e ce3) (.slice ac3 L2c cc3) M3).cell? ⟨w.heap.size, 2, none⟩ = some (.slice ac Lc cc) /\ (putS uZ P v2 (.slice ae3 L2e ce3) (.slice ac3 L2c cc3) M3).cell? ⟨w.heap.size + 1, 0, none⟩ = some (.int .i64 cl) /\ (putS uZ P v2 (.slice ae3 L2e ce3) (.slice ac3 L2c cc3) M3).cell? ⟨w.heap.size + 1, 1, none⟩ = some (.int .i64 sq) /\ (putS uZ P v2 (.slice ae3 L2e ce3) (.slice ac3 L2c cc3) M3).cell? ⟨w.heap.size + 1, 2, none⟩ = some (.slice b Lh capc)) := hid (by
   have hk := HSTD.out.keepN
   obtain ⟨k0, k1, k2, k3, k4, k5⟩ := HSR.out _ HBZ0.out
   exact ⟨(hk ⟨w.heap.size, 0, none⟩ (by show w.heap.size ≠ P; omega) (by show w.heap.size ≠ Q; omega)).1.trans k0, (hk ⟨w.heap.size, 1, none⟩ (by show w.heap.size ≠ P; omega) (by show w.heap.size ≠ Q; omega)).1.trans k1, (hk ⟨w.heap.size, 2, none⟩ (by show w.heap.size ≠ P; omega) (by show w.heap.size ≠ Q; omega)).1.trans k2, (hk ⟨w.heap.size + 1, 0, none⟩ (by show w.heap.size + 1 ≠ P; omega) (by show w.heap.size + 1 ≠ Q; omega)).1.trans k3, (hk ⟨w.heap.size + 1, 1, none⟩ (by show w.heap.size + 1 ≠ P; omega) (by show w.heap.size + 1 ≠ Q; omega)).1.trans k4, (hk ⟨w.heap.size + 1, 2, none⟩ (by show w.heap.size + 1 ≠ P; omega) (by show w.heap.size + 1 ≠ Q; omega)).1.trans k5⟩)
  have HP1 : Hid ((putT (putS uZ P v2 (.slice ae3 L2e ce3) (.slice ac3 L2c cc3) M3) Q ri rq ra rv).cell? ⟨w.heap.size, 0, none⟩ = some (.int .i64 v) /\ (putT (putS uZ P v2 (.slice ae3 L2e ce3) (.slice ac3 L2c cc3) M3) Q ri rq ra rv).cell? ⟨w.heap.size, 1, none⟩ = some (.slice ae Le ce) /\ (putT (putS uZ P v2 (.slice ae3 L2e ce3) (.slice ac3 L2c cc3) M3) Q ri rq ra rv).cell? ⟨w.heap.size, 2, none⟩ = some (.slice ac Lc cc) /\ (putT (putS uZ P v2 (.slice ae3 L2e ce3) (.slice ac3 L2c cc3) M3) Q ri rq ra rv).cell? ⟨w.heap.size + 1, 0, none⟩ = some (.int .i64 cl) /\ (putT (putS uZ P v2 (.slice ae3 L2e ce3) (.slice ac3 L2c cc3) M3) Q ri rq ra rv).cell? ⟨w.heap.size + 1, 1, none⟩ = some (.int .i64 sq) /\ (putT (putS uZ P v2 (.slice ae3 L2e ce3) (.slice ac3 L2c cc3) M3) Q ri rq ra rv).cell? ⟨w.heap.size + 1, 2, none⟩ = some (.slice b Lh capc)) := hid (by
   have hk := HSTD.out.keepN
   obtain ⟨k0, k1, k2, k3, k4, k5⟩ := HSR.out _ HBZ0.out
   exact ⟨(hk ⟨w.heap.size, 0, none⟩ (by show w.heap.size ≠ P; omega) (by show w.heap.size ≠ Q; omega)).2.trans k0, (hk ⟨w.heap.size, 1, none⟩ (by show w.heap.size ≠ P; omega) (by show w.heap.size ≠ Q; omega)).2.trans k1, (hk ⟨w.heap.size, 2, none⟩ (by show w.heap.size ≠ P; omega) (by show w.heap.size ≠ Q; omega)).2.trans k2, (hk ⟨w.heap.size + 1, 0, none⟩ (by show w.heap.size + 1 ≠ P; omega) (by show w.heap.size + 1 ≠ Q; omega)).2.trans k3, (hk ⟨w.heap.size + 1, 1, none⟩ (by show w.heap.size + 1 ≠ P; omega) (by show w.heap.size + 1 ≠ Q; omega)).2.trans k4, (hk ⟨w.heap.size + 1, 2, none⟩ (by show w.heap.size + 1 ≠ P; omega) (by show w.heap.size + 1 ≠ Q; omega)).2.trans k5⟩)
  have hstd := HSTD.out
  obtain ⟨r0, r1, r2, r3⟩ := hstd.c1
  obtain ⟨s0, s1, s2, s3⟩ := hstd.f1
  clear hstd
  refine wpAnyH_ready (rs := [9]) (by kernel_rfl) (by simp) ?_
  refine AllReadyH.cons (o := { dst := none, op := .store 73 (.tmp 7) (.tmp 24), type := 0, pos := "model.go:35", after := #[{ on := 7, ground := .data }, { on := 5, ground := .data }, { on := 3, ground := .chain }, { on := 0, ground := .phase }, { on := 1, ground := .phase }, { on := 2, ground := .phase }, { on := 3, ground := .phase }, { on := 4, ground := .phase }, { on := 5, ground := .phase }, { on := 6, ground := .textOnly .lateStores }, { on := 7, ground := .phase }, { on := 8, ground := .phase }], guard := none }) rfl (fun K hK => ?_) AllReadyH.nil
  go_simp
  refine hK.out _ _ ?_ (fun hz1 => ?_)
  ·exact HP0.out
  clear hK K hz r0 r1 r2 s0 s1 s2 r3 s3
  try simp only [Act.put, List.setIfInBounds_toArray, List.set_cons_zero, List.set_cons_succ]
  have hstd := HSTD.out
  obtain ⟨r0, r1, r2, r3⟩ := hstd.c2
  obtain ⟨s0, s1, s2, s3⟩ := hstd.f2
  clear hstd
  refine wpAnyH_ready (rs := [10]) (by kernel_rfl) (by simp) ?_
  refine AllReadyH.cons (o := { dst := none, op := .store 32 (.tmp 8) (.tmp 25), type := 0, pos := "model.go:35", after := #[{ on := 8, ground := .data }, { on := 6, ground := .data }, { on := 9, ground := .chain }, { on := 0, ground := .phase }, { on := 1, ground := .phase }, { on := 2, ground := .phase }, { on := 3, ground := .phase }, { on := 4, ground := .phase }, { on := 5, ground := .phase }, { on := 6, ground := .phase }, { on := 7, ground := .phase }, { on := 8, ground := .phase }, { on := 9, ground := .phase }], guard := none }) rfl (fun K hK => ?_) AllReadyH.nil
  go_simp
  refine hK.out _ _ ?_ (fun hz2 => ?_)
  ·exact HP1.out
  clear hK K hz1 r0 r1 r2 s0 s1 s2 r3 s3
  try simp only [Act.put, List.setIfInBounds_toArray, List.set_cons_zero, List.set_cons_succ]
  have hstd := HSTD.out
  have HG1 := hid hstd.g1
  have HG2 := hid hstd.g2
  clear hstd hz2 HP0 HP1
  obtain ⟨W5, HW5⟩ : ∃ W, Hid (W = (putT (putS uZ P v2 (.slice ae3 L2e ce3) (.slice ac3 L2c cc3) M3) Q ri rq ra rv)) := ⟨_, hid rfl⟩
  have hb1 := z0e uZ P v2 (.slice ae3 L2e ce3) (.slice ac3 L2c cc3) M3
  have hb2 := z0z (putS uZ P v2 (.slice ae3 L2e ce3) (.slice ac3 L2c cc3) M3) Q ri rq ra rv
  have HS5 : Hid (StAt W5 m2 ae3 ce3 ac3 cc3 M3) := hid (by
   rw [HW5.out]
   exact (StAt.but HST.out HRP.out (fun _ => Value.noConfusion) (fun _ => Value.noConfusion) (fun _ => Value.noConfusion) (fun _ => Value.noConfusion) (fun _ => Value.noConfusion) (fun _ => Value.noConfusion) (fun _ => Value.noConfusion) hb1).butZ HIDS.out (HRQ.out.keep (hb1.block Q (by omega))) hb2)
  have HR5 : Hid (Row W5 (w.heap.size + 1 + 1) 25 [.int .i64 0, .slice none 0 0, .slice none 0 0]) := hid (by rw [HW5.out]; exact ((HRR.out.below HBZ0.out).keep (hb1.block (w.heap.size + 1 + 1) (by omega))).keep (hb2.block (w.heap.size + 1 + 1) (by omega)))
  have HT5 : Hid (Row W5 (w.heap.size + 1 + 1 + 1) 32 [.int .i64 0, .int .i64 0, .int .i64 0, .int .i64 0]) := hid (by rw [HW5.out]; exact ((HRTT.out.below HBZ0.out).keep (hb1.block (w.heap.size + 1 + 1 + 1) (by omega))).keep (hb2.block (w.heap.size + 1 + 1 + 1) (by omega)))
  have HB5 : Hid (Below w.heap.size w W5) := hid (by rw [HW5.out]; exact ((z00 HB1.out HBZ0.out).trans (hb1.below (B := w.heap.size) (by omega))).trans (hb2.below (B := w.heap.size) (by omega)))
  have HSQ : Hid (W5.drew.cell? ⟨P, 0, none⟩ = some (.int .i64 v2) /\ W5.drew.cell? ⟨P, 1, none⟩ = some (.slice ae3 L2e ce3) /\ W5.drew.cell? ⟨P, 2, none⟩ = some (.slice ac3 L2c cc3) /\ W5.drew.cell? ⟨Q, 0, none⟩ = some (.int .i64 ri) /\ W5.drew.cell? ⟨Q, 1, none⟩ = some (.int .i64 rq) /\ W5.drew.cell? ⟨Q, 2, none⟩ = some (.int .i64 ra) /\ W5.drew.cell? ⟨Q, 3, none⟩ = some (.int .i64 rv)) := hid (by
   obtain ⟨f0, f1, f2, f3⟩ := HG1.out
   obtain ⟨g0, g1, g2, g3⟩ := HG2.out
   rw [HW5.out]
   exact ⟨(z0w _ _).trans f0, (z0w _ _).trans f1, (z0w _ _).trans f2, (z0w _ _).trans g0, (z0w _ _).trans g1, (z0w _ _).trans g2, (z0w _ _).trans g3⟩)
  clear hb1 hb2
  refine wpAnyH_done (by kernel_rfl) ?_ _
  refine NoPanic.normal ?_
  go_wp2
  rw [<- show W5 = ((((((((uZ.setCell ⟨P, 0, none⟩ (.int .i64 v2)).setCell ⟨P, 1, none⟩ (.slice ae3 L2e ce3)).setCell ⟨P, 2, none⟩ (.slice ac3 L2c cc3)).setCell ⟨P, 3, none⟩ (.map (some M3))).setCell ⟨Q, 0, none⟩ (.int .i64 ri)).setCell ⟨Q, 1, none⟩ (.int .i64 rq)).setCell ⟨Q, 2, none⟩ (.int .i64 ra)).setCell ⟨Q, 3, none⟩ (.int .i64 rv)) from HW5.out]
  refine wp_region_noPanic ?_
  refine wp_region_held_drew (S := fun W => W.cell? ⟨P, 0, none⟩ = some (.int .i64 v2) /\ W.cell? ⟨P, 1, none⟩ = some (.slice ae3 L2e ce3) /\ W.cell? ⟨P, 2, none⟩ = some (.slice ac3 L2c cc3) /\ W.cell? ⟨Q, 0, none⟩ = some (.int .i64 ri) /\ W.cell? ⟨Q, 1, none⟩ = some (.int .i64 rq) /\ W.cell? ⟨Q, 2, none⟩ = some (.int .i64 ra) /\ W.cell? ⟨Q, 3, none⟩ = some (.int .i64 rv)) (by kernel_rfl) HSQ.out (fun hz => ?_)
  have HS6 := hid (HS5.out.old (Below.refl W5.heap.size W5).drew)
  have HR6 := hid (HR5.out.below (Below.refl W5.heap.size W5).drew)
  have HT6 := hid (HT5.out.below (Below.refl W5.heap.size W5).drew)
  have HB6 := hid HB5.out.drew
  clear HS5 HR5 HT5 HB5 HSTD HG1 HG2 HW5
  generalize W5.drew = W6 at *
  refine wpAnyH_take (i := 0) (oi := { dst := some 26, op := .fieldAddr 73 (.tmp 7) 0, type := 0, pos := "model.go:36", after := #[], guard := none }) (v := ?_) rfl (by kernel_rfl) (by kernel_rfl) (by kernel_rfl) (fun _ _ _ h => h) (Or.inl ⟨by rfl, ?_⟩) (by assumption) ?_
  rotate_left
  ·(intro w hSw; (try dsimp only at hSw); go_simp) <;> with_reducible rfl
  simp only [Act.put, List.setIfInBounds_toArray, List.set_cons_zero, List.set_cons_succ]
  refine wpAnyH_take (i := 1) (oi := { dst := some 27, op := .load 25 (.tmp 26), type := 25, pos := "model.go:36", after := #[{ on := 0, ground := .data }], guard := none }) (v := ?_) rfl (by kernel_rfl) (by kernel_rfl) (by kernel_rfl) (fun _ _ _ h => h) (Or.inl ⟨by rfl, ?_⟩) (by assumption) ?_
  rotate_left
  ·(intro w hSw; (try dsimp only at hSw); go_simp) <;> with_reducible rfl
  simp only [Act.put, List.setIfInBounds_toArray, List.set_cons_zero, List.set_cons_succ]
  refine wpAnyH_take (i := 2) (oi := { dst := some 28, op := .load 32 (.tmp 8), type := 32, pos := "model.go:36", after := #[{ on := 3, ground := .gcOnly .lateStores }], guard := none }) (v := ?_) rfl (by kernel_rfl) (by kernel_rfl) (by kernel_rfl) (fun _ _ _ h => h) (Or.inl ⟨by rfl, ?_⟩) (by assumption) ?_
  rotate_left
  ·(intro w hSw; (try dsimp only at hSw); go_simp) <;> with_reducible rfl
  simp only [Act.put, List.setIfInBounds_toArray, List.set_cons_zero, List.set_cons_succ]
  have HSM := hid (z8d HR6.out HT6.out (by omega) v2 (.slice ae3 L2e ce3) (.slice ac3 L2c cc3) ⟨ri, rq, ra, rv⟩)
  have hb1 := z28 W6 (w.heap.size + 1 + 1) v2 (.slice ae3 L2e ce3) (.slice ac3 L2c cc3)
  have hb2 := z0z (putM W6 (w.heap.size + 1 + 1) v2 (.slice ae3 L2e ce3) (.slice ac3 L2c cc3)) (w.heap.size + 1 + 1 + 1) ri rq ra rv
  have hPR : P ≠ w.heap.size + 1 + 1 := by omega
  have hQR : Q ≠ w.heap.size + 1 + 1 := by omega
  have hPT : P ≠ w.heap.size + 1 + 1 + 1 := by omega
  have hQT : Q ≠ w.heap.size + 1 + 1 + 1 := by omega
  have HQ0 : Hid ((putM W6 (w.heap.size + 1 + 1) v2 (.slice ae3 L2e ce3) (.slice ac3 L2c cc3)).cell? ⟨P, 0, none⟩ = some (.int .i64 v2) /\ (putM W6 (w.heap.size + 1 + 1) v2 (.slice ae3 L2e ce3) (.slice ac3 L2c cc3)).cell? ⟨P, 1, none⟩ = some (.slice ae3 L2e ce3) /\ (putM W6 (w.heap.size + 1 + 1) v2 (.slice ae3 L2e ce3) (.slice ac3 L2c cc3)).cell? ⟨P, 2, none⟩ = some (.slice ac3 L2c cc3) /\ (putM W6 (w.heap.size + 1 + 1) v2 (.slice ae3 L2e ce3) (.slice ac3 L2c cc3)).cell? ⟨Q, 0, none⟩ = some (.int .i64 ri) /\ (putM W6 (w.heap.size + 1 + 1) v2 (.slice ae3 L2e ce3) (.slice ac3 L2c cc3)).cell? ⟨Q, 1, none⟩ = some (.int .i64 rq) /\ (putM W6 (w.heap.size + 1 + 1) v2 (.slice ae3 L2e ce3) (.slice ac3 L2c cc3)).cell? ⟨Q, 2, none⟩ = some (.int .i64 ra) /\ (putM W6 (w.heap.size + 1 + 1) v2 (.slice ae3 L2e ce3) (.slice ac3 L2c cc3)).cell? ⟨Q, 3, none⟩ = some (.int .i64 rv)) := hid (by
   obtain ⟨k0, k1, k2, k3, k4, k5, k6⟩ := HSQ.out
   exact ⟨(z0t hb1 hPR).trans k0, (z0t hb1 hPR).trans k1, (z0t hb1 hPR).trans k2, (z0t hb1 hQR).trans k3, (z0t hb1 hQR).trans k4, (z0t hb1 hQR).trans k5, (z0t hb1 hQR).trans k6⟩)
  have HQ1 : Hid ((putT (putM W6 (w.heap.size + 1 + 1) v2 (.slice ae3 L2e ce3) (.slice ac3 L2c cc3)) (w.heap.size + 1 + 1 + 1) ri rq ra rv).cell? ⟨P, 0, none⟩ = some (.int .i64 v2) /\ (putT (putM W6 (w.heap.size + 1 + 1) v2 (.slice ae3 L2e ce3) (.slice ac3 L2c cc3)) (w.heap.size + 1 + 1 + 1) ri rq ra rv).cell? ⟨P, 1, none⟩ = some (.slice ae3 L2e ce3) /\ (putT (putM W6 (w.heap.size + 1 + 1) v2 (.slice ae3 L2e ce3) (.slice ac3 L2c cc3)) (w.heap.size + 1 + 1 + 1) ri rq ra rv).cell? ⟨P, 2, none⟩ = some (.slice ac3 L2c cc3) /\ (putT (putM W6 (w.heap.size + 1 + 1) v2 (.slice ae3 L2e ce3) (.slice ac3 L2c cc3)) (w.heap.size + 1 + 1 + 1) ri rq ra rv).cell? ⟨Q, 0, none⟩ = some (.int .i64 ri) /\ (putT (putM W6 (w.heap.size + 1 + 1) v2 (.slice ae3 L2e ce3) (.slice ac3 L2c cc3)) (w.heap.size + 1 + 1 + 1) ri rq ra rv).cell? ⟨Q, 1, none⟩ = some (.int .i64 rq) /\ (putT (putM W6 (w.heap.size + 1 + 1) v2 (.slice ae3 L2e ce3) (.slice ac3 L2c cc3)) (w.heap.size + 1 + 1 + 1) ri rq ra rv).cell? ⟨Q, 2, none⟩ = some (.int .i64 ra) /\ (putT (putM W6 (w.heap.size + 1 + 1) v2 (.slice ae3 L2e ce3) (.slice ac3 L2c cc3)) (w.heap.size + 1 + 1 + 1) ri rq ra rv).cell? ⟨Q, 3, none⟩ = some (.int .i64 rv)) := hid (by
   obtain ⟨k0, k1, k2, k3, k4, k5, k6⟩ := HQ0.out
   exact ⟨(z0t hb2 hPT).trans k0, (z0t hb2 hPT).trans k1, (z0t hb2 hPT).trans k2, (z0t hb2 hQT).trans k3, (z0t hb2 hQT).trans k4, (z0t hb2 hQT).trans k5, (z0t hb2 hQT).trans k6⟩)
  have HFIN : Hid (DoP m c w (.returned (.tuple #[.agg (mdC v2 (.slice ae3 L2e ce3) (.slice ac3 L2c cc3)), clV ⟨ri, rq, ra, rv⟩, .int .i64 0])) (putT (putM W6 (w.heap.size + 1 + 1) v2 (.slice ae3 L2e ce3) (.slice ac3 L2c cc3)) (w.heap.size + 1 + 1 + 1) ri rq ra rv)) := hid (by
   have s := (HS6.out.butR HR6.out hb1).butZ HIDS.out (HT6.out.keep (hb1.block (w.heap.size + 1 + 1 + 1) (by omega))) hb2
   refine .inr ⟨HRM.out, HMM.out, ?_⟩
   rw [HD.out]
   exact ⟨ae3, ce3, ac3, cc3, by rw [HL2e.out, HL2c.out, HV2.out], s.es, s.cs, (HB6.out.trans (hb1.below (B := w.heap.size) (by omega))).trans (hb2.below (B := w.heap.size) (by omega))⟩)
  clear hb1 hb2 hPR hQR hPT hQT
  have hstd := HSM.out
  obtain ⟨r0, r1, r2⟩ := hstd.c1
  obtain ⟨s0, s1, s2⟩ := hstd.f1
  clear hstd
  refine wpAnyH_ready (rs := [3]) (by kernel_rfl) (by simp) ?_
  refine AllReadyH.cons (o := { dst := none, op := .store 25 (.tmp 4) (.tmp 27), type := 0, pos := "model.go:36", after := #[{ on := 1, ground := .data }, { on := 0, ground := .phase }, { on := 1, ground := .phase }, { on := 2, ground := .textOnly .lateStores }], guard := none }) rfl (fun K hK => ?_) AllReadyH.nil
  go_simp
  refine hK.out _ _ ?_ (fun hz1 => ?_)
  ·exact HQ0.out
  clear hK K hz r0 r1 r2 s0 s1 s2
  try simp only [Act.put, List.setIfInBounds_toArray, List.set_cons_zero, List.set_cons_succ]
  have hstd := HSM.out
  obtain ⟨r0, r1, r2, r3⟩ := hstd.c2
  obtain ⟨s0, s1, s2, s3⟩ := hstd.f2
  clear hstd
  refine wpAnyH_ready (rs := [4]) (by kernel_rfl) (by simp) ?_
  refine AllReadyH.cons (o := { dst := none, op := .store 32 (.tmp 5) (.tmp 28), type := 0, pos := "model.go:36", after := #[{ on := 2, ground := .data }, { on := 3, ground := .chain }, { on := 0, ground := .phase }, { on := 1, ground := .phase }, { on := 2, ground := .phase }, { on := 3, ground := .phase }], guard := none }) rfl (fun K hK => ?_) AllReadyH.nil
  go_simp
  refine hK.out _ _ ?_ (fun hz2 => ?_)
  ·exact HQ1.out
  clear hK K hz1 r0 r1 r2 s0 s1 s2 r3 s3
  try simp only [Act.put, List.setIfInBounds_toArray, List.set_cons_zero, List.set_cons_succ]
  refine wpAnyH_take (i := 5) (oi := { dst := some 6, op := .assign (.const (.int .i64 0)), type := 30, pos := "model.go:36", after := #[{ on := 4, ground := .chain }, { on := 0, ground := .phase }, { on := 1, ground := .phase }, { on := 2, ground := .phase }, { on := 3, ground := .phase }, { on := 4, ground := .phase }], guard := none }) (v := ?_) rfl (by kernel_rfl) (by kernel_rfl) (by kernel_rfl) (fun _ _ _ h => h) (Or.inl ⟨by rfl, ?_⟩) (by assumption) ?_
  rotate_left
  ·(intro w hSw; (try dsimp only at hSw); go_simp) <;> with_reducible rfl
  simp only [Act.put, List.setIfInBounds_toArray, List.set_cons_zero, List.set_cons_succ]
  have hstd := HSM.out
  obtain ⟨f0, f1, f2⟩ := hstd.g1
  obtain ⟨g0, g1, g2, g3⟩ := hstd.g2
  simp only at g0 g1 g2 g3 f0 f1 f2
  clear hstd hz2
  refine wpAnyH_done (by kernel_rfl) ?_ _
  refine NoPanic.normal ?_
  go_wp2
  exact bodyPost_ret (v := .tuple #[.agg (mdC v2 (.slice ae3 L2e ce3) (.slice ac3 L2c cc3)), clV ⟨ri, rq, ra, rv⟩, .int .i64 0]) (by simp [results, Tryz.results11, go_sem, f0, f1, f2, g0, g1, g2, g3]) rfl HFIN.out
end Go.Proofs.YtdkkkeoicekdgaaGreatDoor.Md
