/- Package model: Do of what is valid. -/
import Derived.Test.YtdkkkeoicekdgaaGreatDoorZEg41

namespace Go.Proofs.YtdkkkeoicekdgaaGreatDoor.Md
set_option maxHeartbeats 6400000
set_option maxRecDepth 100000
open Go.Lib (hid)
open Go.RowKit Go.Maps Go.WideShapes Go.WideMaps Go.Proofs.YtdkkkeoicekdgaaGreatDoor Go.Proofs.YtdkkkeoicekdgaaGreatDoor.Ca
theorem z2d {w W1 W : World} (hb : Below W1.heap.size W1 W) (hs : W1.heap.size = w.heap.size + 4) (cs : Array Value) (t : TypeId) :
  ∃ P U, Hid (P = W.heap.size) /\ Hid (U = W.alloc (.cells cs t)) /\ Hid (Row U P t cs.toList) /\ w.heap.size + 4 <= P /\ Hid (Below W1.heap.size W1 U) /\ Below W.heap.size W U :=
 ⟨_, _, hid rfl, hid rfl, hid (z02 W cs t), by have := hb.size; omega, hid (z00 hb (z03 _ _)), z03 _ _⟩
theorem z07 {g : Nat} {w w' : World} (h : But g w w') {b i : Nat} (hb : b ≠ g) : w'.cell? ⟨b, i, none⟩ = w.cell? ⟨b, i, none⟩ := World.cell?_of_block (h.block b hb)
theorem do_yes (w : World) (m : Mdl) (ae : Option Addr) (ce : Nat) (ac : Option Addr) (cc : Nat) (c : Cmd) (b : Option Addr) (capc : Nat) (hE : SlE w (Old w) (.slice ae m.es.length ce) m.es) (hC : SlL w (Old w) (.slice ac m.cs.length cc) m.cs) (hF : ∀ x, x ∈ m.es -> FitE x) (hV : EnvC w) (hR : RgtM m) (hM : mayC c = true) (hH : SlH w (Old w) (.slice b c.ch.length capc) c.ch) (hFC : ∀ x, x ∈ c.ch -> FitE x.e) :
  Calls Tryz.prog 11 #[.agg (mdC m.vr (.slice ae m.es.length ce) (.slice ac m.cs.length cc)), .agg #[.int .i64 c.cl, .int .i64 c.sq, .slice b c.ch.length capc]] w (DoP m c w) := by
 have ay := hid (fun W (h : Below w.heap.size w W) => z5u W m ae ce ac cc (hE.old h) (hC.old h) hF (hV.below h));have aj := hid (fun W => z5j W c b capc);have aa : Hid (∀ W, Below w.heap.size w W -> Calls Tryz.prog 39 #[.agg #[.int .i64 m.vr, .slice ae m.es.length ce, .slice ac m.cs.length cc]] W (z3h m W)) := hid (fun W h => z4t W m.vr ae ce m.es ac cc m.cs (hE.old h) (hC.old h) (by have := (z10 hR.es).len; omega) (by have := hR.cs.len; omega) hR.cs.srt (fun x hx => by have := (z3q.1 (hR.cs.ok x hx)).1; omega));have R := hid (fun W ae2 ce2 ac2 cc2 M2 (h : Below w.heap.size w W) (hs : StAt W m ae2 ce2 ac2 cc2 M2) => zb5 W m ae2 ce2 ac2 cc2 M2 c b capc hs hR hM (hH.old h) hFC (hV.below h));have aK := hid hR;have aM := hid hM;obtain ⟨m2, r2, HD⟩ : ∃ m2 r2, Hid (doF m c = (m2, r2)) := ⟨_, _, hid rfl⟩
 have au : Hid (∀ x, x ∈ m2.cs -> 1 <= x.id) := hid (fun x hx => by
  have h := do_right hR hM;rw [HD.out] at h
  exact (z3q.1 (h.cs.ok x hx)).1.1)
 rw [HD.out] at R;obtain ⟨i, L⟩ := nmd (m2.es.length);obtain ⟨j, M⟩ := nmd (m2.cs.length);obtain ⟨v2, af⟩ := nmd (m2.vr);obtain ⟨ri, rq, ra, rv⟩ := r2;obtain ⟨Le, X⟩ := nmd (m.es.length);obtain ⟨Lc, Y⟩ := nmd (m.cs.length);obtain ⟨Lh, az⟩ := nmd (c.ch.length);obtain ⟨v, Hv⟩ := nmd (m.vr);obtain ⟨cl, aA⟩ := nmd (c.cl);obtain ⟨sq, aB⟩ := nmd (c.sq);rw [<- X.out, <- Y.out, <- Hv.out] at ay aa R;rw [<- az.out, <- aA.out, <- aB.out] at aj R;rw [<- X.out, <- Y.out, <- az.out, <- Hv.out, <- aA.out, <- aB.out];clear hE hC hF hV hR hM hH hFC az aA aB;obtain ⟨W1, H⟩ := nmd ((((w.alloc (.cells (mdC v (.slice ae Le ce) (.slice ac Lc cc)) 25)).alloc (.cells #[.int .i64 cl, .int .i64 sq, .slice b Lh capc] 28)).alloc (.cells #[.int .i64 0, .slice none 0 0, .slice none 0 0] 25)).alloc (.cells #[.int .i64 0, .int .i64 0, .int .i64 0, .int .i64 0] 32));have I : Hid (Below w.heap.size w W1) := hid (by rw [H.out]; exact (z4q w _ _ _).alloc (by simp; omega) _);have Z : Hid (Row W1 w.heap.size 25 [.int .i64 v, .slice ae Le ce, .slice ac Lc cc]) := hid (by rw [H.out]; exact (((z02 w (mdC v (.slice ae Le ce) (.slice ac Lc cc)) _).alloc _).alloc _).alloc _)
 have aC : Hid (Row W1 (w.heap.size + 1) 28 [.int .i64 cl, .int .i64 sq, .slice b Lh capc]) := hid (by
  rw [H.out];have h := ((z02 (w.alloc (.cells (mdC v (.slice ae Le ce) (.slice ac Lc cc)) 25)) #[.int .i64 cl, .int .i64 sq, .slice b Lh capc] 28).alloc (.cells #[.int .i64 0, .slice none 0 0, .slice none 0 0] 25)).alloc (.cells #[.int .i64 0, .int .i64 0, .int .i64 0, .int .i64 0] 32)
  simpa only [World.size_alloc] using h)
 have bh : Hid (Row W1 (w.heap.size + 1 + 1) 25 [.int .i64 0, .slice none 0 0, .slice none 0 0]) := hid (by
  rw [H.out];have h := (z02 ((w.alloc (.cells (mdC v (.slice ae Le ce) (.slice ac Lc cc)) 25)).alloc (.cells #[.int .i64 cl, .int .i64 sq, .slice b Lh capc] 28)) #[.int .i64 0, .slice none 0 0, .slice none 0 0] 25).alloc (.cells #[.int .i64 0, .int .i64 0, .int .i64 0, .int .i64 0] 32)
  simpa only [World.size_alloc] using h)
 have aN : Hid (Row W1 (w.heap.size + 1 + 1 + 1) 32 [.int .i64 0, .int .i64 0, .int .i64 0, .int .i64 0]) := hid (by
  rw [H.out];have h := z02 (((w.alloc (.cells (mdC v (.slice ae Le ce) (.slice ac Lc cc)) 25)).alloc (.cells #[.int .i64 cl, .int .i64 sq, .slice b Lh capc] 28)).alloc (.cells #[.int .i64 0, .slice none 0 0, .slice none 0 0] 25)) #[.int .i64 0, .int .i64 0, .int .i64 0, .int .i64 0] 32
  simpa only [World.size_alloc] using h)
 have a0 : ((((w.alloc (.cells (mdC v (.slice ae Le ce) (.slice ac Lc cc)) 25)).alloc (.cells #[.int .i64 cl, .int .i64 sq, .slice b Lh capc] 28)).alloc (.cells #[.int .i64 0, .slice none 0 0, .slice none 0 0] 25)).alloc (.cells #[.int .i64 0, .int .i64 0, .int .i64 0, .int .i64 0] 32)).cell? ⟨w.heap.size, 0, none⟩ = some (.int .i64 v) := by rw [<- H.out]; exact Z.out.cell rfl
 have a1 : ((((w.alloc (.cells (mdC v (.slice ae Le ce) (.slice ac Lc cc)) 25)).alloc (.cells #[.int .i64 cl, .int .i64 sq, .slice b Lh capc] 28)).alloc (.cells #[.int .i64 0, .slice none 0 0, .slice none 0 0] 25)).alloc (.cells #[.int .i64 0, .int .i64 0, .int .i64 0, .int .i64 0] 32)).cell? ⟨w.heap.size, 1, none⟩ = some (.slice ae Le ce) := by rw [<- H.out]; exact Z.out.cell rfl
 have a2 : ((((w.alloc (.cells (mdC v (.slice ae Le ce) (.slice ac Lc cc)) 25)).alloc (.cells #[.int .i64 cl, .int .i64 sq, .slice b Lh capc] 28)).alloc (.cells #[.int .i64 0, .slice none 0 0, .slice none 0 0] 25)).alloc (.cells #[.int .i64 0, .int .i64 0, .int .i64 0, .int .i64 0] 32)).cell? ⟨w.heap.size, 2, none⟩ = some (.slice ac Lc cc) := by rw [<- H.out]; exact Z.out.cell rfl
 go_enter Tryz.func11, Tryz.ntmps11
 go_wp2_with fail
 rw [<- H.out];refine (ay.out W1 I.out).mono ?_;rintro e w2 ⟨r, rfl, hr, A⟩;have HR := hid hr;have aO : Hid (Below W1.heap.size W1 w2) := hid A;clear a0 a1 a2 hr A ay;have G : Hid (W1.heap.size = w.heap.size + 4) := hid (by rw [H.out]; simp);obtain rfl : r = true := HR.out.2 aK.out;rw [aM.out] at aj;have t : Hid (∀ W, Below W1.heap.size W1 W -> W.cell? ⟨w.heap.size, 0, none⟩ = some (.int .i64 v) /\ W.cell? ⟨w.heap.size, 1, none⟩ = some (.slice ae Le ce) /\ W.cell? ⟨w.heap.size, 2, none⟩ = some (.slice ac Lc cc) /\ W.cell? ⟨w.heap.size + 1, 0, none⟩ = some (.int .i64 cl) /\ W.cell? ⟨w.heap.size + 1, 1, none⟩ = some (.int .i64 sq) /\ W.cell? ⟨w.heap.size + 1, 2, none⟩ = some (.slice b Lh capc)) := hid (fun W h => ⟨(Z.out.below h).cell rfl, (Z.out.below h).cell rfl, (Z.out.below h).cell rfl, (aC.out.below h).cell rfl, (aC.out.below h).cell rfl, (aC.out.below h).cell rfl⟩);obtain ⟨-, -, -, b0, b1, b2⟩ := t.out _ aO.out
 go_wp2_with fail
 refine (aj.out w2).mono ?_;rintro e w3 ⟨rfl, aP⟩;have bi := hid (z00 aO.out aP);clear b0 b1 b2 aP aj;go_wp2;have ag := hid bi.out.drew;have aQ := t.out _ ag.out;refine wp_region_noPanic ?_;refine wp_region_held_drew (S := fun W => W.cell? ⟨w.heap.size, 0, none⟩ = some (.int .i64 v) /\ W.cell? ⟨w.heap.size, 1, none⟩ = some (.slice ae Le ce) /\ W.cell? ⟨w.heap.size, 2, none⟩ = some (.slice ac Lc cc) /\ W.cell? ⟨w.heap.size + 1, 0, none⟩ = some (.int .i64 cl) /\ W.cell? ⟨w.heap.size + 1, 1, none⟩ = some (.int .i64 sq) /\ W.cell? ⟨w.heap.size + 1, 2, none⟩ = some (.slice b Lh capc)) (by kernel_rfl) aQ (fun hz => ?_);clear aQ
 generalize w3.drew = w4 at *
 refine wT 0 { dst := some 20, op := Go.Op.load 25 (Go.Operand.tmp 2), type := 25, pos := "model.go:35", after := #[], guard := none } (v := ?_) (Or.inl ⟨by rfl, ?_⟩) ?_
 rotate_left
 ·(intro w hSw; (try dsimp only at hSw); go_simp) <;> with_reducible rfl
 simp only [Act.put, la, lb, lc];refine wT 2 { dst := some 22, op := Go.Op.load 28 (Go.Operand.tmp 3), type := 28, pos := "model.go:35", after := #[], guard := none } (v := ?_) (Or.inl ⟨by rfl, ?_⟩) ?_
 rotate_left
 ·(intro w hSw; (try dsimp only at hSw); go_simp) <;> with_reducible rfl
 simp only [Act.put, la, lb, lc];refine wA [1, 7, 8] ?_;refine cR { dst := some 21, op := Go.Op.call { callee := Go.Callee.value (Go.Operand.func 39), args := #[Go.Operand.tmp 20], argTypes := #[25] }, type := 73, pos := "model.go:35", after := #[{ on := 0, ground := Go.Ground.data }], guard := none } (fun K hK => ?_) ?_
 focus
  go_simp
  refine (aa.out _ (z00 I.out ag.out)).mono ?_;rintro e ua ⟨aD, aE, aF, aG, M1, rfl, y, -, hb⟩;rw [<- X.out, <- Y.out, <- Hv.out];have o := hid y;have z := hid (z00 ag.out hb);clear y hb
  go_wp2_with fail
  refine hK.out _ _ ?_ (fun hz => ?_)
  ·exact t.out _ z.out
  clear hK K
  try simp only [Act.put, la, lb, lc]
 rotate_left
 refine cR { dst := some 7, op := Go.Op.alloc 73, type := 0, pos := "model.go:35", after := #[], guard := none } (fun K hK => ?_) ?_
 focus
  go_simp
  obtain ⟨P, ua, E, aH, p, N, z, k⟩ := z2d ag.out G.out #[.int .i64 0, .slice none 0 0, .slice none 0 0, .map none] 73;rw [<- E.out, <- aH.out];clear k;refine hK.out _ _ ?_ (fun hz => ?_)
  ·exact t.out _ z.out
  clear hK K
  try simp only [Act.put, la, lb, lc]
 rotate_left
 refine cR { dst := some 8, op := Go.Op.alloc 32, type := 0, pos := "model.go:35", after := #[], guard := none } (fun K hK => ?_) AllReadyH.nil
 focus
  go_simp
  obtain ⟨Q, ua, F, aH, u, O, z, k⟩ := z2d ag.out G.out #[.int .i64 0, .int .i64 0, .int .i64 0, .int .i64 0] 32;rw [<- F.out, <- aH.out];clear k;refine hK.out _ _ ?_ (fun hz => ?_)
  ·exact t.out _ z.out
  clear hK K
  try simp only [Act.put, la, lb, lc]
 all_goals
  first
  | focus
      have _ := M1;refine wA [3, 7, 8] ?_;refine cR { dst := some 23, op := Go.Op.call { callee := Go.Callee.value (Go.Operand.func 40), args := #[Go.Operand.tmp 21, Go.Operand.tmp 22], argTypes := #[73, 28] }, type := 74, pos := "model.go:35", after := #[{ on := 1, ground := Go.Ground.data }, { on := 2, ground := Go.Ground.data }, { on := 1, ground := Go.Ground.chain }], guard := none } (fun K hK => ?_) ?_
      focus
       go_simp
       refine (R.out _ _ _ _ _ _ (z00 I.out z.out) o.out).mono ?_;rintro e ub ⟨a, d, f, g, M3, rfl, y, hb⟩;simp only;rw [<- L.out, <- M.out, <- af.out];have o := hid y;have l := hid (z00 z.out hb);clear y hb
       go_wp2_with fail
       refine hK.out _ _ ?_ (fun hz => ?_)
       ·exact t.out _ l.out
       clear hK K
       try simp only [Act.put, la, lb, lc]
       refine wT 4 { dst := some 19, op := Go.Op.move (Go.Operand.tmp 23), type := 74, pos := "model.go:35", after := #[{ on := 3, ground := Go.Ground.data }], guard := none } (v := ?_) (Or.inl ⟨by rfl, ?_⟩) ?_
       rotate_left
       ·(intro w hSw; (try dsimp only at hSw); go_simp) <;> with_reducible rfl
       simp only [Act.put, la, lb, lc];refine wT 5 { dst := some 24, op := Go.Op.extract (Go.Operand.tmp 19) 0, type := 73, pos := "model.go:35", after := #[{ on := 4, ground := Go.Ground.data }], guard := none } (v := ?_) (Or.inl ⟨by rfl, ?_⟩) ?_
       rotate_left
       ·(intro w hSw; (try dsimp only at hSw); go_simp) <;> with_reducible rfl
       simp only [Act.put, la, lb, lc];refine wT 6 { dst := some 25, op := Go.Op.extract (Go.Operand.tmp 19) 1, type := 32, pos := "model.go:35", after := #[{ on := 4, ground := Go.Ground.data }, { on := 9, ground := Go.Ground.gcOnly Go.Departure.lateStores }], guard := none } (v := ?_) (Or.inl ⟨by rfl, ?_⟩) ?_
       rotate_left
       ·(intro w hSw; (try dsimp only at hSw); go_simp) <;> with_reducible rfl
       simp only [Act.put, la, lb, lc]
      rotate_left
      refine cR { dst := some 7, op := Go.Op.alloc 73, type := 0, pos := "model.go:35", after := #[], guard := none } (fun K hK => ?_) ?_
      focus
       go_simp
       obtain ⟨P, ub, E, T, p, N, l, k⟩ := z2d z.out G.out #[.int .i64 0, .slice none 0 0, .slice none 0 0, .map none] 73;rw [<- E.out, <- T.out];have o := hid (o.out.old k);clear k;refine hK.out _ _ ?_ (fun hz => ?_)
       ·exact t.out _ l.out
       clear hK K
       try simp only [Act.put, la, lb, lc]
      rotate_left
      refine cR { dst := some 8, op := Go.Op.alloc 32, type := 0, pos := "model.go:35", after := #[], guard := none } (fun K hK => ?_) AllReadyH.nil
      focus
       go_simp
       obtain ⟨Q, ub, F, T, u, O, l, k⟩ := z2d z.out G.out #[.int .i64 0, .int .i64 0, .int .i64 0, .int .i64 0] 32;rw [<- F.out, <- T.out];have o := hid (o.out.old k);clear k;refine hK.out _ _ ?_ (fun hz => ?_)
       ·exact t.out _ l.out
       clear hK K
       try simp only [Act.put, la, lb, lc]
  | focus
      have _ := p;refine wA [1, 8] ?_;refine cR { dst := some 21, op := Go.Op.call { callee := Go.Callee.value (Go.Operand.func 39), args := #[Go.Operand.tmp 20], argTypes := #[25] }, type := 73, pos := "model.go:35", after := #[{ on := 0, ground := Go.Ground.data }], guard := none } (fun K hK => ?_) ?_
      focus
       go_simp
       refine (aa.out _ (z00 I.out z.out)).mono ?_;rintro e ub ⟨aD, aE, aF, aG, M1, rfl, y, -, hb⟩;rw [<- X.out, <- Y.out, <- Hv.out];have o := hid y;have l := hid (z00 z.out hb);have p := hid (p.out.below hb);clear y hb
       go_wp2_with fail
       refine hK.out _ _ ?_ (fun hz => ?_)
       ·exact t.out _ l.out
       clear hK K
       try simp only [Act.put, la, lb, lc]
      rotate_left
      refine cR { dst := some 8, op := Go.Op.alloc 32, type := 0, pos := "model.go:35", after := #[], guard := none } (fun K hK => ?_) AllReadyH.nil
      focus
       go_simp
       obtain ⟨Q, ub, F, T, u, O, l, k⟩ := z2d z.out G.out #[.int .i64 0, .int .i64 0, .int .i64 0, .int .i64 0] 32;rw [<- F.out, <- T.out]
       have aw : P ≠ Q := by have h8 := p.out.lt; have h6 := F.out; omega
       have p := hid (p.out.below k);clear k;refine hK.out _ _ ?_ (fun hz => ?_)
       ·exact t.out _ l.out
       clear hK K
       try simp only [Act.put, la, lb, lc]
  | focus
      refine wA [1, 7] ?_;refine cR { dst := some 21, op := Go.Op.call { callee := Go.Callee.value (Go.Operand.func 39), args := #[Go.Operand.tmp 20], argTypes := #[25] }, type := 73, pos := "model.go:35", after := #[{ on := 0, ground := Go.Ground.data }], guard := none } (fun K hK => ?_) ?_
      focus
       go_simp
       refine (aa.out _ (z00 I.out z.out)).mono ?_;rintro e ub ⟨aD, aE, aF, aG, M1, rfl, y, -, hb⟩;rw [<- X.out, <- Y.out, <- Hv.out];have o := hid y;have l := hid (z00 z.out hb);have u := hid (u.out.below hb);clear y hb
       go_wp2_with fail
       refine hK.out _ _ ?_ (fun hz => ?_)
       ·exact t.out _ l.out
       clear hK K
       try simp only [Act.put, la, lb, lc]
      rotate_left
      refine cR { dst := some 7, op := Go.Op.alloc 73, type := 0, pos := "model.go:35", after := #[], guard := none } (fun K hK => ?_) AllReadyH.nil
      focus
       go_simp
       obtain ⟨P, ub, E, T, p, N, l, k⟩ := z2d z.out G.out #[.int .i64 0, .slice none 0 0, .slice none 0 0, .map none] 73;rw [<- E.out, <- T.out]
       have ax : Q ≠ P := by have h8 := u.out.lt; have h6 := E.out; omega
       have u := hid (u.out.below k);clear k;refine hK.out _ _ ?_ (fun hz => ?_)
       ·exact t.out _ l.out
       clear hK K
       try simp only [Act.put, la, lb, lc]
 all_goals
  first
  | focus
      have _ := M3;refine wA [7, 8] ?_;refine cR { dst := some 7, op := Go.Op.alloc 73, type := 0, pos := "model.go:35", after := #[], guard := none } (fun K hK => ?_) ?_
      focus
       go_simp
       obtain ⟨P, uc, E, U, p, N, q, k⟩ := z2d l.out G.out #[.int .i64 0, .slice none 0 0, .slice none 0 0, .map none] 73;rw [<- E.out, <- U.out];have o := hid (o.out.old k);clear k;refine hK.out _ _ ?_ (fun hz => ?_)
       ·exact t.out _ q.out
       clear hK K
       try simp only [Act.put, la, lb, lc]
      rotate_left
      refine cR { dst := some 8, op := Go.Op.alloc 32, type := 0, pos := "model.go:35", after := #[], guard := none } (fun K hK => ?_) AllReadyH.nil
      focus
       go_simp
       obtain ⟨Q, uc, F, U, u, O, q, k⟩ := z2d l.out G.out #[.int .i64 0, .int .i64 0, .int .i64 0, .int .i64 0] 32;rw [<- F.out, <- U.out];have o := hid (o.out.old k);clear k;refine hK.out _ _ ?_ (fun hz => ?_)
       ·exact t.out _ q.out
       clear hK K
       try simp only [Act.put, la, lb, lc]
  | focus
      have _ := M1;have _ := p;refine wA [3, 8] ?_;refine cR { dst := some 23, op := Go.Op.call { callee := Go.Callee.value (Go.Operand.func 40), args := #[Go.Operand.tmp 21, Go.Operand.tmp 22], argTypes := #[73, 28] }, type := 74, pos := "model.go:35", after := #[{ on := 1, ground := Go.Ground.data }, { on := 2, ground := Go.Ground.data }, { on := 1, ground := Go.Ground.chain }], guard := none } (fun K hK => ?_) ?_
      focus
       go_simp
       refine (R.out _ _ _ _ _ _ (z00 I.out l.out) o.out).mono ?_;rintro e uc ⟨a, d, f, g, M3, rfl, y, hb⟩;simp only;rw [<- L.out, <- M.out, <- af.out];have o := hid y;have q := hid (z00 l.out hb);have p := hid (p.out.below hb);clear y hb
       go_wp2_with fail
       refine hK.out _ _ ?_ (fun hz => ?_)
       ·exact t.out _ q.out
       clear hK K
       try simp only [Act.put, la, lb, lc]
       refine wT 4 { dst := some 19, op := Go.Op.move (Go.Operand.tmp 23), type := 74, pos := "model.go:35", after := #[{ on := 3, ground := Go.Ground.data }], guard := none } (v := ?_) (Or.inl ⟨by rfl, ?_⟩) ?_
       rotate_left
       ·(intro w hSw; (try dsimp only at hSw); go_simp) <;> with_reducible rfl
       simp only [Act.put, la, lb, lc];refine wT 5 { dst := some 24, op := Go.Op.extract (Go.Operand.tmp 19) 0, type := 73, pos := "model.go:35", after := #[{ on := 4, ground := Go.Ground.data }], guard := none } (v := ?_) (Or.inl ⟨by rfl, ?_⟩) ?_
       rotate_left
       ·(intro w hSw; (try dsimp only at hSw); go_simp) <;> with_reducible rfl
       simp only [Act.put, la, lb, lc];refine wT 6 { dst := some 25, op := Go.Op.extract (Go.Operand.tmp 19) 1, type := 32, pos := "model.go:35", after := #[{ on := 4, ground := Go.Ground.data }, { on := 9, ground := Go.Ground.gcOnly Go.Departure.lateStores }], guard := none } (v := ?_) (Or.inl ⟨by rfl, ?_⟩) ?_
       rotate_left
       ·(intro w hSw; (try dsimp only at hSw); go_simp) <;> with_reducible rfl
       simp only [Act.put, la, lb, lc]
      rotate_left
      refine cR { dst := some 8, op := Go.Op.alloc 32, type := 0, pos := "model.go:35", after := #[], guard := none } (fun K hK => ?_) AllReadyH.nil
      focus
       go_simp
       obtain ⟨Q, uc, F, U, u, O, q, k⟩ := z2d l.out G.out #[.int .i64 0, .int .i64 0, .int .i64 0, .int .i64 0] 32;rw [<- F.out, <- U.out]
       have aw : P ≠ Q := by have h8 := p.out.lt; have h6 := F.out; omega
       have p := hid (p.out.below k);have o := hid (o.out.old k);clear k;refine hK.out _ _ ?_ (fun hz => ?_)
       ·exact t.out _ q.out
       clear hK K
       try simp only [Act.put, la, lb, lc]
  | focus
      have _ := M1;refine wA [3, 7] ?_;refine cR { dst := some 23, op := Go.Op.call { callee := Go.Callee.value (Go.Operand.func 40), args := #[Go.Operand.tmp 21, Go.Operand.tmp 22], argTypes := #[73, 28] }, type := 74, pos := "model.go:35", after := #[{ on := 1, ground := Go.Ground.data }, { on := 2, ground := Go.Ground.data }, { on := 1, ground := Go.Ground.chain }], guard := none } (fun K hK => ?_) ?_
      focus
       go_simp
       refine (R.out _ _ _ _ _ _ (z00 I.out l.out) o.out).mono ?_;rintro e uc ⟨a, d, f, g, M3, rfl, y, hb⟩;simp only;rw [<- L.out, <- M.out, <- af.out];have o := hid y;have q := hid (z00 l.out hb);have u := hid (u.out.below hb);clear y hb
       go_wp2_with fail
       refine hK.out _ _ ?_ (fun hz => ?_)
       ·exact t.out _ q.out
       clear hK K
       try simp only [Act.put, la, lb, lc]
       refine wT 4 { dst := some 19, op := Go.Op.move (Go.Operand.tmp 23), type := 74, pos := "model.go:35", after := #[{ on := 3, ground := Go.Ground.data }], guard := none } (v := ?_) (Or.inl ⟨by rfl, ?_⟩) ?_
       rotate_left
       ·(intro w hSw; (try dsimp only at hSw); go_simp) <;> with_reducible rfl
       simp only [Act.put, la, lb, lc];refine wT 5 { dst := some 24, op := Go.Op.extract (Go.Operand.tmp 19) 0, type := 73, pos := "model.go:35", after := #[{ on := 4, ground := Go.Ground.data }], guard := none } (v := ?_) (Or.inl ⟨by rfl, ?_⟩) ?_
       rotate_left
       ·(intro w hSw; (try dsimp only at hSw); go_simp) <;> with_reducible rfl
       simp only [Act.put, la, lb, lc];refine wT 6 { dst := some 25, op := Go.Op.extract (Go.Operand.tmp 19) 1, type := 32, pos := "model.go:35", after := #[{ on := 4, ground := Go.Ground.data }, { on := 9, ground := Go.Ground.gcOnly Go.Departure.lateStores }], guard := none } (v := ?_) (Or.inl ⟨by rfl, ?_⟩) ?_
       rotate_left
       ·(intro w hSw; (try dsimp only at hSw); go_simp) <;> with_reducible rfl
       simp only [Act.put, la, lb, lc]
      rotate_left
      refine cR { dst := some 7, op := Go.Op.alloc 73, type := 0, pos := "model.go:35", after := #[], guard := none } (fun K hK => ?_) AllReadyH.nil
      focus
       go_simp
       obtain ⟨P, uc, E, U, p, N, q, k⟩ := z2d l.out G.out #[.int .i64 0, .slice none 0 0, .slice none 0 0, .map none] 73;rw [<- E.out, <- U.out]
       have ax : Q ≠ P := by have h8 := u.out.lt; have h6 := E.out; omega
       have u := hid (u.out.below k);have o := hid (o.out.old k);clear k;refine hK.out _ _ ?_ (fun hz => ?_)
       ·exact t.out _ q.out
       clear hK K
       try simp only [Act.put, la, lb, lc]
  | focus
      refine wR 1 { dst := some 21, op := Go.Op.call { callee := Go.Callee.value (Go.Operand.func 39), args := #[Go.Operand.tmp 20], argTypes := #[25] }, type := 73, pos := "model.go:35", after := #[{ on := 0, ground := Go.Ground.data }], guard := none } (fun K hK => ?_)
      focus
       go_simp
       refine (aa.out _ (z00 I.out l.out)).mono ?_;rintro e uc ⟨aD, aE, aF, aG, M1, rfl, y, -, hb⟩;rw [<- X.out, <- Y.out, <- Hv.out];have o := hid y;have q := hid (z00 l.out hb);have p := hid (p.out.below hb);have u := hid (u.out.below hb);clear y hb
       go_wp2_with fail
       refine hK.out _ _ ?_ (fun hz => ?_)
       ·exact t.out _ q.out
       clear hK K
       try simp only [Act.put, la, lb, lc]
 all_goals
  first
  | focus
      have _ := M3;have _ := p;refine wR 8 { dst := some 8, op := Go.Op.alloc 32, type := 0, pos := "model.go:35", after := #[], guard := none } (fun K hK => ?_)
      focus
       go_simp
       obtain ⟨Q, uZ, F, aI, u, O, D, k⟩ := z2d q.out G.out #[.int .i64 0, .int .i64 0, .int .i64 0, .int .i64 0] 32;rw [<- F.out, <- aI.out]
       have aw : P ≠ Q := by have h8 := p.out.lt; have h6 := F.out; omega
       have p := hid (p.out.below k);have o := hid (o.out.old k);clear k;refine hK.out _ _ ?_ (fun hz => ?_)
       ·exact t.out _ D.out
       clear hK K
       try simp only [Act.put, la, lb, lc]
  | focus
      have _ := M3;refine wR 7 { dst := some 7, op := Go.Op.alloc 73, type := 0, pos := "model.go:35", after := #[], guard := none } (fun K hK => ?_)
      focus
       go_simp
       obtain ⟨P, uZ, E, aI, p, N, D, k⟩ := z2d q.out G.out #[.int .i64 0, .slice none 0 0, .slice none 0 0, .map none] 73;rw [<- E.out, <- aI.out]
       have ax : Q ≠ P := by have h8 := u.out.lt; have h6 := E.out; omega
       have u := hid (u.out.below k);have o := hid (o.out.old k);clear k;refine hK.out _ _ ?_ (fun hz => ?_)
       ·exact t.out _ D.out
       clear hK K
       try simp only [Act.put, la, lb, lc]
  | focus
      refine wR 3 { dst := some 23, op := Go.Op.call { callee := Go.Callee.value (Go.Operand.func 40), args := #[Go.Operand.tmp 21, Go.Operand.tmp 22], argTypes := #[73, 28] }, type := 74, pos := "model.go:35", after := #[{ on := 1, ground := Go.Ground.data }, { on := 2, ground := Go.Ground.data }, { on := 1, ground := Go.Ground.chain }], guard := none } (fun K hK => ?_)
      focus
       go_simp
       refine (R.out _ _ _ _ _ _ (z00 I.out q.out) o.out).mono ?_;rintro e uZ ⟨a, d, f, g, M3, rfl, y, hb⟩;simp only;rw [<- L.out, <- M.out, <- af.out];have o := hid y;have D := hid (z00 q.out hb);have p := hid (p.out.below hb);have u := hid (u.out.below hb);clear y hb
       go_wp2_with fail
       refine hK.out _ _ ?_ (fun hz => ?_)
       ·exact t.out _ D.out
       clear hK K
       try simp only [Act.put, la, lb, lc]
       refine wT 4 { dst := some 19, op := Go.Op.move (Go.Operand.tmp 23), type := 74, pos := "model.go:35", after := #[{ on := 3, ground := Go.Ground.data }], guard := none } (v := ?_) (Or.inl ⟨by rfl, ?_⟩) ?_
       rotate_left
       ·(intro w hSw; (try dsimp only at hSw); go_simp) <;> with_reducible rfl
       simp only [Act.put, la, lb, lc];refine wT 5 { dst := some 24, op := Go.Op.extract (Go.Operand.tmp 19) 0, type := 73, pos := "model.go:35", after := #[{ on := 4, ground := Go.Ground.data }], guard := none } (v := ?_) (Or.inl ⟨by rfl, ?_⟩) ?_
       rotate_left
       ·(intro w hSw; (try dsimp only at hSw); go_simp) <;> with_reducible rfl
       simp only [Act.put, la, lb, lc];refine wT 6 { dst := some 25, op := Go.Op.extract (Go.Operand.tmp 19) 1, type := 32, pos := "model.go:35", after := #[{ on := 4, ground := Go.Ground.data }, { on := 9, ground := Go.Ground.gcOnly Go.Departure.lateStores }], guard := none } (v := ?_) (Or.inl ⟨by rfl, ?_⟩) ?_
       rotate_left
       ·(intro w hSw; (try dsimp only at hSw); go_simp) <;> with_reducible rfl
       simp only [Act.put, la, lb, lc]
 all_goals
  have J := hid (za1 p.out u.out (by omega) v2 (.slice a i d) (.slice f j g) M3 ⟨ri, rq, ra, rv⟩)
  have aR : Hid ((putS uZ P v2 (.slice a i d) (.slice f j g) M3).cell? ⟨w.heap.size, 0, none⟩ = some (.int .i64 v) /\ (putS uZ P v2 (.slice a i d) (.slice f j g) M3).cell? ⟨w.heap.size, 1, none⟩ = some (.slice ae Le ce) /\ (putS uZ P v2 (.slice a i d) (.slice f j g) M3).cell? ⟨w.heap.size, 2, none⟩ = some (.slice ac Lc cc) /\ (putS uZ P v2 (.slice a i d) (.slice f j g) M3).cell? ⟨w.heap.size + 1, 0, none⟩ = some (.int .i64 cl) /\ (putS uZ P v2 (.slice a i d) (.slice f j g) M3).cell? ⟨w.heap.size + 1, 1, none⟩ = some (.int .i64 sq) /\ (putS uZ P v2 (.slice a i d) (.slice f j g) M3).cell? ⟨w.heap.size + 1, 2, none⟩ = some (.slice b Lh capc)) := hid (by
   have hk := J.out.keepN;obtain ⟨k0, k1, k2, k3, k4, k5⟩ := t.out _ D.out
   exact ⟨(hk ⟨w.heap.size, 0, none⟩ (by show w.heap.size ≠ P; omega) (by show w.heap.size ≠ Q; omega)).1.trans k0, (hk ⟨w.heap.size, 1, none⟩ (by show w.heap.size ≠ P; omega) (by show w.heap.size ≠ Q; omega)).1.trans k1, (hk ⟨w.heap.size, 2, none⟩ (by show w.heap.size ≠ P; omega) (by show w.heap.size ≠ Q; omega)).1.trans k2, (hk ⟨w.heap.size + 1, 0, none⟩ (by show w.heap.size + 1 ≠ P; omega) (by show w.heap.size + 1 ≠ Q; omega)).1.trans k3, (hk ⟨w.heap.size + 1, 1, none⟩ (by show w.heap.size + 1 ≠ P; omega) (by show w.heap.size + 1 ≠ Q; omega)).1.trans k4, (hk ⟨w.heap.size + 1, 2, none⟩ (by show w.heap.size + 1 ≠ P; omega) (by show w.heap.size + 1 ≠ Q; omega)).1.trans k5⟩)
  have aS : Hid ((putT (putS uZ P v2 (.slice a i d) (.slice f j g) M3) Q ri rq ra rv).cell? ⟨w.heap.size, 0, none⟩ = some (.int .i64 v) /\ (putT (putS uZ P v2 (.slice a i d) (.slice f j g) M3) Q ri rq ra rv).cell? ⟨w.heap.size, 1, none⟩ = some (.slice ae Le ce) /\ (putT (putS uZ P v2 (.slice a i d) (.slice f j g) M3) Q ri rq ra rv).cell? ⟨w.heap.size, 2, none⟩ = some (.slice ac Lc cc) /\ (putT (putS uZ P v2 (.slice a i d) (.slice f j g) M3) Q ri rq ra rv).cell? ⟨w.heap.size + 1, 0, none⟩ = some (.int .i64 cl) /\ (putT (putS uZ P v2 (.slice a i d) (.slice f j g) M3) Q ri rq ra rv).cell? ⟨w.heap.size + 1, 1, none⟩ = some (.int .i64 sq) /\ (putT (putS uZ P v2 (.slice a i d) (.slice f j g) M3) Q ri rq ra rv).cell? ⟨w.heap.size + 1, 2, none⟩ = some (.slice b Lh capc)) := hid (by
   have hk := J.out.keepN;obtain ⟨k0, k1, k2, k3, k4, k5⟩ := t.out _ D.out
   exact ⟨(hk ⟨w.heap.size, 0, none⟩ (by show w.heap.size ≠ P; omega) (by show w.heap.size ≠ Q; omega)).2.trans k0, (hk ⟨w.heap.size, 1, none⟩ (by show w.heap.size ≠ P; omega) (by show w.heap.size ≠ Q; omega)).2.trans k1, (hk ⟨w.heap.size, 2, none⟩ (by show w.heap.size ≠ P; omega) (by show w.heap.size ≠ Q; omega)).2.trans k2, (hk ⟨w.heap.size + 1, 0, none⟩ (by show w.heap.size + 1 ≠ P; omega) (by show w.heap.size + 1 ≠ Q; omega)).2.trans k3, (hk ⟨w.heap.size + 1, 1, none⟩ (by show w.heap.size + 1 ≠ P; omega) (by show w.heap.size + 1 ≠ Q; omega)).2.trans k4, (hk ⟨w.heap.size + 1, 2, none⟩ (by show w.heap.size + 1 ≠ P; omega) (by show w.heap.size + 1 ≠ Q; omega)).2.trans k5⟩)
  have n := J.out;obtain ⟨r0, r1, r2, r3⟩ := n.c1;obtain ⟨s0, s1, s2, s3⟩ := n.f1;clear n;refine wR 9 { dst := none, op := Go.Op.store 73 (Go.Operand.tmp 7) (Go.Operand.tmp 24), type := 0, pos := "model.go:35", after := #[{ on := 7, ground := Go.Ground.data }, { on := 5, ground := Go.Ground.data }, { on := 3, ground := Go.Ground.chain }, { on := 0, ground := Go.Ground.phase }, { on := 1, ground := Go.Ground.phase }, { on := 2, ground := Go.Ground.phase }, { on := 3, ground := Go.Ground.phase }, { on := 4, ground := Go.Ground.phase }, { on := 5, ground := Go.Ground.phase }, { on := 6, ground := Go.Ground.textOnly Go.Departure.lateStores }, { on := 7, ground := Go.Ground.phase }, { on := 8, ground := Go.Ground.phase }], guard := none } (fun K hK => ?_)
  go_simp
  refine hK.out _ _ ?_ (fun hz1 => ?_)
  ·exact aR.out
  clear hK K hz r0 r1 r2 s0 s1 s2 r3 s3
  try simp only [Act.put, la, lb, lc]
  have n := J.out;obtain ⟨r0, r1, r2, r3⟩ := n.c2;obtain ⟨s0, s1, s2, s3⟩ := n.f2;clear n;refine wR 10 { dst := none, op := Go.Op.store 32 (Go.Operand.tmp 8) (Go.Operand.tmp 25), type := 0, pos := "model.go:35", after := #[{ on := 8, ground := Go.Ground.data }, { on := 6, ground := Go.Ground.data }, { on := 9, ground := Go.Ground.chain }, { on := 0, ground := Go.Ground.phase }, { on := 1, ground := Go.Ground.phase }, { on := 2, ground := Go.Ground.phase }, { on := 3, ground := Go.Ground.phase }, { on := 4, ground := Go.Ground.phase }, { on := 5, ground := Go.Ground.phase }, { on := 6, ground := Go.Ground.phase }, { on := 7, ground := Go.Ground.phase }, { on := 8, ground := Go.Ground.phase }, { on := 9, ground := Go.Ground.phase }], guard := none } (fun K hK => ?_)
  go_simp
  refine hK.out _ _ ?_ (fun hz2 => ?_)
  ·exact aS.out
  clear hK K hz1 r0 r1 r2 s0 s1 s2 r3 s3
  try simp only [Act.put, la, lb, lc]
  have n := J.out;have aT := hid n.g1;have aU := hid n.g2;clear n hz2 aR aS;obtain ⟨W5, V⟩ := nmd ((putT (putS uZ P v2 (.slice a i d) (.slice f j g) M3) Q ri rq ra rv));have C := z14 uZ P v2 (.slice a i d) (.slice f j g) M3;have A := z19 (putS uZ P v2 (.slice a i d) (.slice f j g) M3) Q ri rq ra rv
  have aV : Hid (StAt W5 m2 a d f g M3) := hid (by
   rw [V.out]
   exact (StAt.but o.out p.out (fun _ => Value.noConfusion) (fun _ => Value.noConfusion) (fun _ => Value.noConfusion) (fun _ => Value.noConfusion) (fun _ => Value.noConfusion) (fun _ => Value.noConfusion) (fun _ => Value.noConfusion) C).butZ au.out (u.out.keep (C.block Q (by omega))) A)
  have aW : Hid (Row W5 (w.heap.size + 1 + 1) 25 [.int .i64 0, .slice none 0 0, .slice none 0 0]) := hid (by rw [V.out]; exact ((bh.out.below D.out).keep (C.block (w.heap.size + 1 + 1) (by omega))).keep (A.block (w.heap.size + 1 + 1) (by omega)));have aX : Hid (Row W5 (w.heap.size + 1 + 1 + 1) 32 [.int .i64 0, .int .i64 0, .int .i64 0, .int .i64 0]) := hid (by rw [V.out]; exact ((aN.out.below D.out).keep (C.block (w.heap.size + 1 + 1 + 1) (by omega))).keep (A.block (w.heap.size + 1 + 1 + 1) (by omega)));have aY : Hid (Below w.heap.size w W5) := hid (by rw [V.out]; exact ((z00 I.out D.out).trans (C.below (B := w.heap.size) (by omega))).trans (A.below (B := w.heap.size) (by omega)))
  have aZ : Hid (W5.drew.cell? ⟨P, 0, none⟩ = some (.int .i64 v2) /\ W5.drew.cell? ⟨P, 1, none⟩ = some (.slice a i d) /\ W5.drew.cell? ⟨P, 2, none⟩ = some (.slice f j g) /\ W5.drew.cell? ⟨Q, 0, none⟩ = some (.int .i64 ri) /\ W5.drew.cell? ⟨Q, 1, none⟩ = some (.int .i64 rq) /\ W5.drew.cell? ⟨Q, 2, none⟩ = some (.int .i64 ra) /\ W5.drew.cell? ⟨Q, 3, none⟩ = some (.int .i64 rv)) := hid (by
   obtain ⟨f0, f1, f2, f3⟩ := aT.out;obtain ⟨g0, g1, g2, g3⟩ := aU.out;rw [V.out]
   exact ⟨(z0h _ _).trans f0, (z0h _ _).trans f1, (z0h _ _).trans f2, (z0h _ _).trans g0, (z0h _ _).trans g1, (z0h _ _).trans g2, (z0h _ _).trans g3⟩)
  clear C A;refine wpAnyH_done (by kernel_rfl) ?_ _;refine NoPanic.normal ?_;go_wp2;rw [<- show W5 = ((((((((uZ.setCell ⟨P, 0, none⟩ (.int .i64 v2)).setCell ⟨P, 1, none⟩ (.slice a i d)).setCell ⟨P, 2, none⟩ (.slice f j g)).setCell ⟨P, 3, none⟩ (.map (some M3))).setCell ⟨Q, 0, none⟩ (.int .i64 ri)).setCell ⟨Q, 1, none⟩ (.int .i64 rq)).setCell ⟨Q, 2, none⟩ (.int .i64 ra)).setCell ⟨Q, 3, none⟩ (.int .i64 rv)) from V.out];refine wp_region_noPanic ?_;refine wp_region_held_drew (S := fun W => W.cell? ⟨P, 0, none⟩ = some (.int .i64 v2) /\ W.cell? ⟨P, 1, none⟩ = some (.slice a i d) /\ W.cell? ⟨P, 2, none⟩ = some (.slice f j g) /\ W.cell? ⟨Q, 0, none⟩ = some (.int .i64 ri) /\ W.cell? ⟨Q, 1, none⟩ = some (.int .i64 rq) /\ W.cell? ⟨Q, 2, none⟩ = some (.int .i64 ra) /\ W.cell? ⟨Q, 3, none⟩ = some (.int .i64 rv)) (by kernel_rfl) aZ.out (fun hz => ?_);have bj := hid (aV.out.old (Below.refl W5.heap.size W5).drew);have bc := hid (aW.out.below (Below.refl W5.heap.size W5).drew);have bd := hid (aX.out.below (Below.refl W5.heap.size W5).drew);have bm := hid aY.out.drew;clear aV aW aX aY J aT aU V
  generalize W5.drew = W6 at *
  refine wT 0 { dst := some 26, op := Go.Op.fieldAddr 73 (Go.Operand.tmp 7) 0, type := 0, pos := "model.go:36", after := #[], guard := none } (v := ?_) (Or.inl ⟨by rfl, ?_⟩) ?_
  rotate_left
  ·(intro w hSw; (try dsimp only at hSw); go_simp) <;> with_reducible rfl
  simp only [Act.put, la, lb, lc];refine wT 1 { dst := some 27, op := Go.Op.load 25 (Go.Operand.tmp 26), type := 25, pos := "model.go:36", after := #[{ on := 0, ground := Go.Ground.data }], guard := none } (v := ?_) (Or.inl ⟨by rfl, ?_⟩) ?_
  rotate_left
  ·(intro w hSw; (try dsimp only at hSw); go_simp) <;> with_reducible rfl
  simp only [Act.put, la, lb, lc];refine wT 2 { dst := some 28, op := Go.Op.load 32 (Go.Operand.tmp 8), type := 32, pos := "model.go:36", after := #[{ on := 3, ground := Go.Ground.gcOnly Go.Departure.lateStores }], guard := none } (v := ?_) (Or.inl ⟨by rfl, ?_⟩) ?_
  rotate_left
  ·(intro w hSw; (try dsimp only at hSw); go_simp) <;> with_reducible rfl
  simp only [Act.put, la, lb, lc];have aJ := hid (z4s bc.out bd.out (by omega) v2 (.slice a i d) (.slice f j g) ⟨ri, rq, ra, rv⟩);have C := z1e W6 (w.heap.size + 1 + 1) v2 (.slice a i d) (.slice f j g);have A := z19 (putM W6 (w.heap.size + 1 + 1) v2 (.slice a i d) (.slice f j g)) (w.heap.size + 1 + 1 + 1) ri rq ra rv
  have aq : P ≠ w.heap.size + 1 + 1 := by omega
  have ah : Q ≠ w.heap.size + 1 + 1 := by omega
  have ar : P ≠ w.heap.size + 1 + 1 + 1 := by omega
  have ai : Q ≠ w.heap.size + 1 + 1 + 1 := by omega
  have bf : Hid ((putM W6 (w.heap.size + 1 + 1) v2 (.slice a i d) (.slice f j g)).cell? ⟨P, 0, none⟩ = some (.int .i64 v2) /\ (putM W6 (w.heap.size + 1 + 1) v2 (.slice a i d) (.slice f j g)).cell? ⟨P, 1, none⟩ = some (.slice a i d) /\ (putM W6 (w.heap.size + 1 + 1) v2 (.slice a i d) (.slice f j g)).cell? ⟨P, 2, none⟩ = some (.slice f j g) /\ (putM W6 (w.heap.size + 1 + 1) v2 (.slice a i d) (.slice f j g)).cell? ⟨Q, 0, none⟩ = some (.int .i64 ri) /\ (putM W6 (w.heap.size + 1 + 1) v2 (.slice a i d) (.slice f j g)).cell? ⟨Q, 1, none⟩ = some (.int .i64 rq) /\ (putM W6 (w.heap.size + 1 + 1) v2 (.slice a i d) (.slice f j g)).cell? ⟨Q, 2, none⟩ = some (.int .i64 ra) /\ (putM W6 (w.heap.size + 1 + 1) v2 (.slice a i d) (.slice f j g)).cell? ⟨Q, 3, none⟩ = some (.int .i64 rv)) := hid (by
   obtain ⟨k0, k1, k2, k3, k4, k5, k6⟩ := aZ.out
   exact ⟨(z07 C aq).trans k0, (z07 C aq).trans k1, (z07 C aq).trans k2, (z07 C ah).trans k3, (z07 C ah).trans k4, (z07 C ah).trans k5, (z07 C ah).trans k6⟩)
  have bn : Hid ((putT (putM W6 (w.heap.size + 1 + 1) v2 (.slice a i d) (.slice f j g)) (w.heap.size + 1 + 1 + 1) ri rq ra rv).cell? ⟨P, 0, none⟩ = some (.int .i64 v2) /\ (putT (putM W6 (w.heap.size + 1 + 1) v2 (.slice a i d) (.slice f j g)) (w.heap.size + 1 + 1 + 1) ri rq ra rv).cell? ⟨P, 1, none⟩ = some (.slice a i d) /\ (putT (putM W6 (w.heap.size + 1 + 1) v2 (.slice a i d) (.slice f j g)) (w.heap.size + 1 + 1 + 1) ri rq ra rv).cell? ⟨P, 2, none⟩ = some (.slice f j g) /\ (putT (putM W6 (w.heap.size + 1 + 1) v2 (.slice a i d) (.slice f j g)) (w.heap.size + 1 + 1 + 1) ri rq ra rv).cell? ⟨Q, 0, none⟩ = some (.int .i64 ri) /\ (putT (putM W6 (w.heap.size + 1 + 1) v2 (.slice a i d) (.slice f j g)) (w.heap.size + 1 + 1 + 1) ri rq ra rv).cell? ⟨Q, 1, none⟩ = some (.int .i64 rq) /\ (putT (putM W6 (w.heap.size + 1 + 1) v2 (.slice a i d) (.slice f j g)) (w.heap.size + 1 + 1 + 1) ri rq ra rv).cell? ⟨Q, 2, none⟩ = some (.int .i64 ra) /\ (putT (putM W6 (w.heap.size + 1 + 1) v2 (.slice a i d) (.slice f j g)) (w.heap.size + 1 + 1 + 1) ri rq ra rv).cell? ⟨Q, 3, none⟩ = some (.int .i64 rv)) := hid (by
   obtain ⟨k0, k1, k2, k3, k4, k5, k6⟩ := bf.out
   exact ⟨(z07 A ar).trans k0, (z07 A ar).trans k1, (z07 A ar).trans k2, (z07 A ai).trans k3, (z07 A ai).trans k4, (z07 A ai).trans k5, (z07 A ai).trans k6⟩)
  have bg : Hid (DoP m c w (.returned (.tuple #[.agg (mdC v2 (.slice a i d) (.slice f j g)), clV ⟨ri, rq, ra, rv⟩, .int .i64 0])) (putT (putM W6 (w.heap.size + 1 + 1) v2 (.slice a i d) (.slice f j g)) (w.heap.size + 1 + 1 + 1) ri rq ra rv)) := hid (by
   have s := (bj.out.butR bc.out C).butZ au.out (bd.out.keep (C.block (w.heap.size + 1 + 1 + 1) (by omega))) A;refine .inr ⟨aK.out, aM.out, ?_⟩;rw [HD.out]
   exact ⟨a, d, f, g, by rw [L.out, M.out, af.out], s.es, s.cs, (bm.out.trans (C.below (B := w.heap.size) (by omega))).trans (A.below (B := w.heap.size) (by omega))⟩)
  clear C A aq ah ar ai;have n := aJ.out;obtain ⟨r0, r1, r2⟩ := n.c1;obtain ⟨s0, s1, s2⟩ := n.f1;clear n;refine wR 3 { dst := none, op := Go.Op.store 25 (Go.Operand.tmp 4) (Go.Operand.tmp 27), type := 0, pos := "model.go:36", after := #[{ on := 1, ground := Go.Ground.data }, { on := 0, ground := Go.Ground.phase }, { on := 1, ground := Go.Ground.phase }, { on := 2, ground := Go.Ground.textOnly Go.Departure.lateStores }], guard := none } (fun K hK => ?_)
  go_simp
  refine hK.out _ _ ?_ (fun hz1 => ?_)
  ·exact bf.out
  clear hK K hz r0 r1 r2 s0 s1 s2
  try simp only [Act.put, la, lb, lc]
  have n := aJ.out;obtain ⟨r0, r1, r2, r3⟩ := n.c2;obtain ⟨s0, s1, s2, s3⟩ := n.f2;clear n;refine wR 4 { dst := none, op := Go.Op.store 32 (Go.Operand.tmp 5) (Go.Operand.tmp 28), type := 0, pos := "model.go:36", after := #[{ on := 2, ground := Go.Ground.data }, { on := 3, ground := Go.Ground.chain }, { on := 0, ground := Go.Ground.phase }, { on := 1, ground := Go.Ground.phase }, { on := 2, ground := Go.Ground.phase }, { on := 3, ground := Go.Ground.phase }], guard := none } (fun K hK => ?_)
  go_simp
  refine hK.out _ _ ?_ (fun hz2 => ?_)
  ·exact bn.out
  clear hK K hz1 r0 r1 r2 s0 s1 s2 r3 s3
  try simp only [Act.put, la, lb, lc]
  refine wT 5 { dst := some 6, op := Go.Op.assign (Go.Operand.const (Go.Value.int Go.IntKind.i64 0)), type := 30, pos := "model.go:36", after := #[{ on := 4, ground := Go.Ground.chain }, { on := 0, ground := Go.Ground.phase }, { on := 1, ground := Go.Ground.phase }, { on := 2, ground := Go.Ground.phase }, { on := 3, ground := Go.Ground.phase }, { on := 4, ground := Go.Ground.phase }], guard := none } (v := ?_) (Or.inl ⟨by rfl, ?_⟩) ?_
  rotate_left
  ·(intro w hSw; (try dsimp only at hSw); go_simp) <;> with_reducible rfl
  simp only [Act.put, la, lb, lc];have n := aJ.out;obtain ⟨f0, f1, f2⟩ := n.g1;obtain ⟨g0, g1, g2, g3⟩ := n.g2;simp only at g0 g1 g2 g3 f0 f1 f2;clear n hz2;refine wpAnyH_done (by kernel_rfl) ?_ _;refine NoPanic.normal ?_;go_wp2;exact bodyPost_ret (v := .tuple #[.agg (mdC v2 (.slice a i d) (.slice f j g)), clV ⟨ri, rq, ra, rv⟩, .int .i64 0]) (by simp [results, Tryz.results11, go_sem, f0, f1, f2, g0, g1, g2, g3]) rfl bg.out
end Go.Proofs.YtdkkkeoicekdgaaGreatDoor.Md
