/- The law ModelDoes. -/
import Derived.Test.YtdkkkeoicekdgaaGreatDoorZEMrd

namespace Go.Proofs.YtdkkkeoicekdgaaGreatDoor.Md
set_option maxHeartbeats 12800000
set_option maxRecDepth 100000
open Go.Lib (hid)
open Go.RowKit Go.Maps Go.WideShapes Go.WideMaps Go.Proofs.YtdkkkeoicekdgaaGreatDoor Go.Proofs.YtdkkkeoicekdgaaGreatDoor.Ca
theorem eqL (w : World) (a b c d : Int) : (binOp .eql 32 (.agg #[.int .i64 a, .int .i64 b, .int .i64 c, .int .i64 d]) (.agg #[.int .i64 a, .int .i64 b, .int .i64 c, .int .i64 d])).run Tryz.prog w = .ok (.bool true) w := by
 have hS : Tryz.prog.underlying 32 = some (.struct (Tryz.prog.fieldsOf 32)) := by kernel_rfl
 have hp : Tryz.prog.stoodInHeld 32 = false := by kernel_rfl
 have u3 := Tryz.underlying3;have a3 := Tryz.isAgg3;have z3 := Tryz.sizeOf3;rw [run_eql_struct, show (10000 : Nat) = 9999 + 1 from rfl, run_equalIn_agg w 9999 32 _ _ hS hp];simp only [Program.fieldsOf, Tryz.underlying32]
 go_simp
theorem zi4 (w : World) (vr : Int) (ae ac : Option Addr) (Le ce Lc cc : Nat) : Calls Tryz.prog 10 #[.agg (mdC vr (.slice ae Le ce) (.slice ac Lc cc))] w fun e w' => ∃ r : Bool, e = .returned (.bool r) /\ (r = true -> Le <= 60 /\ Lc <= 40) /\ Below w.heap.size w w' := by
 have R := z02 w (mdC vr (.slice ae Le ce) (.slice ac Lc cc)) 25;have c0 := R.c0;have c1 := R.c1;have c2 := R.c2;have HB := hid (z03 w (.cells (mdC vr (.slice ae Le ce) (.slice ac Lc cc)) 25));clear R;obtain ⟨p, HP⟩ := nmd (decide ((Le : Int) <= 60));obtain ⟨q, HQ⟩ := nmd (decide ((Lc : Int) <= 40));have hp := HP.out.symm;have hq := HQ.out.symm
 go_enter Tryz.func10, Tryz.ntmps10
 cases p with
 | false =>
  go_wp2;go_ret;exact ⟨_, rfl, (fun h => by cases h), HB.out⟩
 | true =>
  go_wp2;go_ret;refine ⟨_, rfl, fun h => ?_, HB.out⟩
  have h1 : (Le : Int) <= 60 := by have := HP.out.symm; simpa using this
  have h2 : (Lc : Int) <= 40 := by have := HQ.out.symm; rw [h] at this; simpa using this
  omega
theorem zh9 (w : World) (m : Mdl) (ae : Option Addr) (ce : Nat) (ac : Option Addr) (cc : Nat) (c : Cmd) (b : Option Addr) (capc : Nat) (hE : SlE w (Old w) (.slice ae m.es.length ce) m.es) (hC : SlL w (Old w) (.slice ac m.cs.length cc) m.cs) (hF : ∀ x, x ∈ m.es -> FitE x) (hV : EnvC w) (hH : SlH w (Old w) (.slice b c.ch.length capc) c.ch) (hFC : ∀ x, x ∈ c.ch -> FitE x.e) :
  Calls Tryz.prog 3 #[.agg (mdC m.vr (.slice ae m.es.length ce) (.slice ac m.cs.length cc)), .agg #[.int .i64 c.cl, .int .i64 c.sq, .slice b c.ch.length capc]] w fun e w' => e = .returned (.bool true) /\ Below w.heap.size w w' := by
 have aj := hid (fun W => zi4 W m.vr ae ac m.es.length ce m.cs.length cc);have aI := hid (fun W => zft W);have q := hid (fun W (hb : Below w.heap.size w W) => do_any W m ae ce ac cc c b capc (hE.old hb) (hC.old hb) hF (hV.below hb) (hH.old hb) hFC)
 obtain ⟨rb, aq⟩ : ∃ rb : Bool, Hid (rb = true ↔ RgtM m) := by
  by_cases h : RgtM m
  ·exact ⟨true, hid ⟨fun _ => h, fun _ => rfl⟩⟩
  ·exact ⟨false, hid ⟨fun h2 => Bool.noConfusion h2, fun h2 => absurd h2 h⟩⟩
 have X : ∀ r : Bool, (r = true ↔ RgtM m) -> r = rb := fun r h => by
  cases r <;> cases rb <;> first | rfl | exact absurd (h.2 (aq.out.1 rfl)) (by decide) | exact absurd (aq.out.2 (h.1 rfl)) (by decide)
 have aC : Hid (∀ W, Below w.heap.size w W -> Calls Tryz.prog 12 #[.agg (mdC m.vr (.slice ae m.es.length ce) (.slice ac m.cs.length cc))] W fun e w' => e = .returned (.bool rb) /\ Below W.heap.size W w') := hid (fun W hb => (z5u W m ae ce ac cc (hE.old hb) (hC.old hb) hF (hV.below hb)).mono fun e w' ⟨r, he, hr, A⟩ => ⟨by rw [he, X r hr], A⟩);have ar : Hid (m.cs.length <= 40 -> ∀ W, Below w.heap.size w W -> Calls Tryz.prog 13 #[.agg (mdC m.vr (.slice ae m.es.length ce) (.slice ac m.cs.length cc))] W fun e w' => e = .returned (.bool rb) /\ Below W.heap.size W w') := hid (fun hl W hb => (zc0 W m ae ce ac cc (hE.old hb) (hC.old hb) hF (hV.below hb) (by omega)).mono fun e w' ⟨r, he, hr, A⟩ => ⟨by rw [he, X r hr], A⟩);clear X;have au := hid (fun W => z5j W c b capc);have U := hid (fun W => zf9 W c b capc);have s := hid (fun W (hb : Below w.heap.size w W) hR hM => rdo_any W m ae ce ac cc c b capc (hE.old hb) (hC.old hb) (hV.below hb) hR hM (hH.old hb) hFC)
 unfold RdP at s
 unfold DoP at q
 obtain ⟨⟨v2, aJ, aK⟩, ⟨ri, rq, ra, rv⟩, HD⟩ : ∃ m2 r2, Hid (doF m c = (m2, r2)) := ⟨_, _, hid rfl⟩;rw [HD.out] at q s;simp only at q s;obtain ⟨mb, aU⟩ := nmd (mayC c);rw [<- aU.out] at au U q s;obtain ⟨vr, es, cs⟩ := m;obtain ⟨cl, sq, ch⟩ := c;obtain ⟨Le, aV⟩ := nmd (es.length);obtain ⟨Lc, aW⟩ := nmd (cs.length);obtain ⟨Lh, aX⟩ := nmd (ch.length);obtain ⟨f, M⟩ := nmd (aJ.length);obtain ⟨g, N⟩ := nmd (aK.length);clear hE hC hF hV hH hFC;simp only at aC ar au U aj q s ⊢;rw [<- aV.out, <- aW.out] at aC ar aj q s ⊢;rw [<- aX.out] at au U q s ⊢;rw [<- M.out, <- N.out] at q s;obtain ⟨W1, V⟩ := nmd ((w.alloc (.cells (mdC vr (.slice ae Le ce) (.slice ac Lc cc)) 25)).alloc (.cells #[.int .i64 cl, .int .i64 sq, .slice b Lh capc] 28));have aM : Hid (Below w.heap.size w W1) := hid (by rw [V.out]; exact z3s _ _ _);have Y : Hid (Row W1 w.heap.size 25 [.int .i64 vr, .slice ae Le ce, .slice ac Lc cc]) := hid (by rw [V.out]; exact (z02 w (mdC vr (.slice ae Le ce) (.slice ac Lc cc)) _).alloc _)
 have aN : Hid (Row W1 (w.heap.size + 1) 28 [.int .i64 cl, .int .i64 sq, .slice b Lh capc]) := hid (by
  rw [V.out];have h := z02 (w.alloc (.cells (mdC vr (.slice ae Le ce) (.slice ac Lc cc)) 25)) #[.int .i64 cl, .int .i64 sq, .slice b Lh capc] 28
  rwa [World.size_alloc] at h)
 have r0 := Y.out.c0;have r1 := Y.out.c1;have r2 := Y.out.c2;rw [V.out] at r0 r1 r2
 go_enter Tryz.func3, Tryz.ntmps3
 go_wp2_with fail
 rw [<- V.out];clear r0 r1 r2 V;refine (aj.out W1).mono ?_;rintro e w2 ⟨r, rfl, aA, A⟩;have aw := hid (z00 aM.out A);have B := hid (Y.out.below A);have C := hid (aN.out.below A);clear A aj Y aN aM
 cases r with
 | false =>
  go_wp2;go_ret;exact ⟨rfl, aw.out⟩
 | true =>
  have Z := hid (ar.out (aA rfl).2);clear ar aA;have r0 := B.out.c0;have r1 := B.out.c1;have r2 := B.out.c2;have q0 := C.out.c0;have q1 := C.out.c1;have q2 := C.out.c2
  go_wp2_with fail
  clear r0 r1 r2 q0 q1 q2;refine (q.out w2 aw.out).mono ?_;clear q;rintro e w3 aY;have aB : Hid (∀ W, Below w2.heap.size w2 W -> Row W w.heap.size 25 [.int .i64 vr, .slice ae Le ce, .slice ac Lc cc] /\ Row W (w.heap.size + 1) 28 [.int .i64 cl, .int .i64 sq, .slice b Lh capc]) := hid (fun W h => ⟨B.out.below h, C.out.below h⟩);clear B C
  have bi : (mb != mb) = false := by simp
  have bj : (rb != rb) = false := by simp
  rcases aY with ⟨hno, rfl, hb3⟩ | ⟨hR, hM, ae3, ce3, ac3, cc3, rfl, he3, hc3, hb3⟩
  focus
   have aZ : Hid (¬ (rb = true /\ mb = true)) := hid (fun h => hno ⟨aq.out.1 h.1, h.2⟩);have aD := hid hb3;clear hno hb3 s
   go_wp2_with (with_reducible refine ze5 ?_; refine hid ?_; refine z4e (ty := 25) (x := .tmp 5) (y := .tmp 17) rfl ?_)
   refine hid ?_;obtain ⟨V1, j⟩ := nmd ((w3.alloc (.cells #[.int .i64 0, .slice none 0 0, .slice none 0 0] 25)).alloc (.cells #[.int .i64 0, .int .i64 0, .int .i64 0, .int .i64 0] 32));rw [<- j.out];obtain ⟨d, k, l, n⟩ := zbn w3 0 (.slice none 0 0) (.slice none 0 0) ⟨0, 0, 0, 0⟩;rw [<- j.out] at d k l n;clear j;have O : Hid (Row (((((((V1.setCell ⟨w3.heap.size, 0, none⟩ (.int .i64 0)).setCell ⟨w3.heap.size, 1, none⟩ (.slice none 0 0)).setCell ⟨w3.heap.size, 2, none⟩ (.slice none 0 0)).setCell ⟨w3.heap.size + 1, 0, none⟩ (.int .i64 0)).setCell ⟨w3.heap.size + 1, 1, none⟩ (.int .i64 0)).setCell ⟨w3.heap.size + 1, 2, none⟩ (.int .i64 0)).setCell ⟨w3.heap.size + 1, 3, none⟩ (.int .i64 0)) (w3.heap.size) 25 [.int .i64 0, (.slice none 0 0), (.slice none 0 0)]) := hid k;have R : Hid (Row (((((((V1.setCell ⟨w3.heap.size, 0, none⟩ (.int .i64 0)).setCell ⟨w3.heap.size, 1, none⟩ (.slice none 0 0)).setCell ⟨w3.heap.size, 2, none⟩ (.slice none 0 0)).setCell ⟨w3.heap.size + 1, 0, none⟩ (.int .i64 0)).setCell ⟨w3.heap.size + 1, 1, none⟩ (.int .i64 0)).setCell ⟨w3.heap.size + 1, 2, none⟩ (.int .i64 0)).setCell ⟨w3.heap.size + 1, 3, none⟩ (.int .i64 0)) (w3.heap.size + 1) 32 [.int .i64 0, .int .i64 0, .int .i64 0, .int .i64 0]) := hid l;have o : Hid (Below w3.heap.size w3 (((((((V1.setCell ⟨w3.heap.size, 0, none⟩ (.int .i64 0)).setCell ⟨w3.heap.size, 1, none⟩ (.slice none 0 0)).setCell ⟨w3.heap.size, 2, none⟩ (.slice none 0 0)).setCell ⟨w3.heap.size + 1, 0, none⟩ (.int .i64 0)).setCell ⟨w3.heap.size + 1, 1, none⟩ (.int .i64 0)).setCell ⟨w3.heap.size + 1, 2, none⟩ (.int .i64 0)).setCell ⟨w3.heap.size + 1, 3, none⟩ (.int .i64 0))) := hid n
   obtain ⟨c0, c1, c2⟩ := d.c1;obtain ⟨s0, s1, s2⟩ := d.f1;obtain ⟨t0, t1, t2, t3⟩ := d.c2;obtain ⟨z0, z1, z2, z3⟩ := d.f2;clear d k l n;have aa : Hid (Below w2.heap.size w2 (((((((V1.setCell ⟨w3.heap.size, 0, none⟩ (.int .i64 0)).setCell ⟨w3.heap.size, 1, none⟩ (.slice none 0 0)).setCell ⟨w3.heap.size, 2, none⟩ (.slice none 0 0)).setCell ⟨w3.heap.size + 1, 0, none⟩ (.int .i64 0)).setCell ⟨w3.heap.size + 1, 1, none⟩ (.int .i64 0)).setCell ⟨w3.heap.size + 1, 2, none⟩ (.int .i64 0)).setCell ⟨w3.heap.size + 1, 3, none⟩ (.int .i64 0))) := hid (z00 aD.out o.out);go_wp2
   generalize hv : (((((((V1.setCell ⟨w3.heap.size, 0, none⟩ (.int .i64 0)).setCell ⟨w3.heap.size, 1, none⟩ (.slice none 0 0)).setCell ⟨w3.heap.size, 2, none⟩ (.slice none 0 0)).setCell ⟨w3.heap.size + 1, 0, none⟩ (.int .i64 0)).setCell ⟨w3.heap.size + 1, 1, none⟩ (.int .i64 0)).setCell ⟨w3.heap.size + 1, 2, none⟩ (.int .i64 0)).setCell ⟨w3.heap.size + 1, 3, none⟩ (.int .i64 0)) = w5 at *
   clear hv o c0 c1 c2 s0 s1 s2 t0 t1 t2 t3 z0 z1 z2 z3;have af : Hid (Below w5.heap.size w5 w5.drew) := hid (Below.refl _ _).drew;have u : Hid (∀ W, Below w5.heap.size w5 W -> Below w.heap.size w W) := hid (fun W h => z00 (z00 aw.out aa.out) h)
   have i : Hid (∀ W, Below w5.heap.size w5 W -> W.cell? ⟨w.heap.size, 0, none⟩ = some (.int .i64 vr) /\ W.cell? ⟨w.heap.size, 1, none⟩ = some (.slice ae Le ce) /\ W.cell? ⟨w.heap.size, 2, none⟩ = some (.slice ac Lc cc) /\ W.cell? ⟨w.heap.size + 1, 0, none⟩ = some (.int .i64 cl) /\ W.cell? ⟨w.heap.size + 1, 1, none⟩ = some (.int .i64 sq) /\ W.cell? ⟨w.heap.size + 1, 2, none⟩ = some (.slice b Lh capc)) := hid (fun W h => by
    obtain ⟨h1, h2⟩ := aB.out W (z00 aa.out h)
    exact ⟨h1.cell rfl, h1.cell rfl, h1.cell rfl, h2.cell rfl, h2.cell rfl, h2.cell rfl⟩)
   have aO := hid (i.out _ af.out)
  rotate_left
  focus
   obtain rfl : mb = true := hM;obtain rfl : rb = true := aq.out.2 hR;have aD := hid hb3;have bc := hid hR
   go_wp2_with (with_reducible refine ze5 ?_; refine hid ?_; refine z4e (ty := 25) (x := .tmp 5) (y := .tmp 17) rfl ?_)
   refine hid ?_;obtain ⟨V1, j⟩ := nmd ((w3.alloc (.cells #[.int .i64 0, .slice none 0 0, .slice none 0 0] 25)).alloc (.cells #[.int .i64 0, .int .i64 0, .int .i64 0, .int .i64 0] 32));rw [<- j.out];obtain ⟨d, k, l, n⟩ := zbn w3 v2 (.slice ae3 f ce3) (.slice ac3 g cc3) ⟨ri, rq, ra, rv⟩;rw [<- j.out] at d k l n;clear j;have O : Hid (Row (((((((V1.setCell ⟨w3.heap.size, 0, none⟩ (.int .i64 v2)).setCell ⟨w3.heap.size, 1, none⟩ (.slice ae3 f ce3)).setCell ⟨w3.heap.size, 2, none⟩ (.slice ac3 g cc3)).setCell ⟨w3.heap.size + 1, 0, none⟩ (.int .i64 ri)).setCell ⟨w3.heap.size + 1, 1, none⟩ (.int .i64 rq)).setCell ⟨w3.heap.size + 1, 2, none⟩ (.int .i64 ra)).setCell ⟨w3.heap.size + 1, 3, none⟩ (.int .i64 rv)) (w3.heap.size) 25 [.int .i64 v2, (.slice ae3 f ce3), (.slice ac3 g cc3)]) := hid k;have R : Hid (Row (((((((V1.setCell ⟨w3.heap.size, 0, none⟩ (.int .i64 v2)).setCell ⟨w3.heap.size, 1, none⟩ (.slice ae3 f ce3)).setCell ⟨w3.heap.size, 2, none⟩ (.slice ac3 g cc3)).setCell ⟨w3.heap.size + 1, 0, none⟩ (.int .i64 ri)).setCell ⟨w3.heap.size + 1, 1, none⟩ (.int .i64 rq)).setCell ⟨w3.heap.size + 1, 2, none⟩ (.int .i64 ra)).setCell ⟨w3.heap.size + 1, 3, none⟩ (.int .i64 rv)) (w3.heap.size + 1) 32 [.int .i64 ri, .int .i64 rq, .int .i64 ra, .int .i64 rv]) := hid l;have o : Hid (Below w3.heap.size w3 (((((((V1.setCell ⟨w3.heap.size, 0, none⟩ (.int .i64 v2)).setCell ⟨w3.heap.size, 1, none⟩ (.slice ae3 f ce3)).setCell ⟨w3.heap.size, 2, none⟩ (.slice ac3 g cc3)).setCell ⟨w3.heap.size + 1, 0, none⟩ (.int .i64 ri)).setCell ⟨w3.heap.size + 1, 1, none⟩ (.int .i64 rq)).setCell ⟨w3.heap.size + 1, 2, none⟩ (.int .i64 ra)).setCell ⟨w3.heap.size + 1, 3, none⟩ (.int .i64 rv))) := hid n
   obtain ⟨c0, c1, c2⟩ := d.c1;obtain ⟨s0, s1, s2⟩ := d.f1;obtain ⟨t0, t1, t2, t3⟩ := d.c2;obtain ⟨z0, z1, z2, z3⟩ := d.f2;clear d k l n;have bd := hid (he3.old o.out);have bf := hid (hc3.old o.out);clear he3 hc3 hb3;have aa : Hid (Below w2.heap.size w2 (((((((V1.setCell ⟨w3.heap.size, 0, none⟩ (.int .i64 v2)).setCell ⟨w3.heap.size, 1, none⟩ (.slice ae3 f ce3)).setCell ⟨w3.heap.size, 2, none⟩ (.slice ac3 g cc3)).setCell ⟨w3.heap.size + 1, 0, none⟩ (.int .i64 ri)).setCell ⟨w3.heap.size + 1, 1, none⟩ (.int .i64 rq)).setCell ⟨w3.heap.size + 1, 2, none⟩ (.int .i64 ra)).setCell ⟨w3.heap.size + 1, 3, none⟩ (.int .i64 rv))) := hid (z00 aD.out o.out);go_wp2
   generalize hv : (((((((V1.setCell ⟨w3.heap.size, 0, none⟩ (.int .i64 v2)).setCell ⟨w3.heap.size, 1, none⟩ (.slice ae3 f ce3)).setCell ⟨w3.heap.size, 2, none⟩ (.slice ac3 g cc3)).setCell ⟨w3.heap.size + 1, 0, none⟩ (.int .i64 ri)).setCell ⟨w3.heap.size + 1, 1, none⟩ (.int .i64 rq)).setCell ⟨w3.heap.size + 1, 2, none⟩ (.int .i64 ra)).setCell ⟨w3.heap.size + 1, 3, none⟩ (.int .i64 rv)) = w5 at *
   clear hv o c0 c1 c2 s0 s1 s2 t0 t1 t2 t3 z0 z1 z2 z3;have af : Hid (Below w5.heap.size w5 w5.drew) := hid (Below.refl _ _).drew;have u : Hid (∀ W, Below w5.heap.size w5 W -> Below w.heap.size w W) := hid (fun W h => z00 (z00 aw.out aa.out) h)
   have i : Hid (∀ W, Below w5.heap.size w5 W -> W.cell? ⟨w.heap.size, 0, none⟩ = some (.int .i64 vr) /\ W.cell? ⟨w.heap.size, 1, none⟩ = some (.slice ae Le ce) /\ W.cell? ⟨w.heap.size, 2, none⟩ = some (.slice ac Lc cc) /\ W.cell? ⟨w.heap.size + 1, 0, none⟩ = some (.int .i64 cl) /\ W.cell? ⟨w.heap.size + 1, 1, none⟩ = some (.int .i64 sq) /\ W.cell? ⟨w.heap.size + 1, 2, none⟩ = some (.slice b Lh capc)) := hid (fun W h => by
    obtain ⟨h1, h2⟩ := aB.out W (z00 aa.out h)
    exact ⟨h1.cell rfl, h1.cell rfl, h1.cell rfl, h2.cell rfl, h2.cell rfl, h2.cell rfl⟩)
   have aO := hid (i.out _ af.out)
  rotate_left
  all_goals
   refine wp_region_noPanic ?_;refine wp_region_held_drew (S := fun W => W.cell? ⟨w.heap.size, 0, none⟩ = some (.int .i64 vr) /\ W.cell? ⟨w.heap.size, 1, none⟩ = some (.slice ae Le ce) /\ W.cell? ⟨w.heap.size, 2, none⟩ = some (.slice ac Lc cc) /\ W.cell? ⟨w.heap.size + 1, 0, none⟩ = some (.int .i64 cl) /\ W.cell? ⟨w.heap.size + 1, 1, none⟩ = some (.int .i64 sq) /\ W.cell? ⟨w.heap.size + 1, 2, none⟩ = some (.slice b Lh capc)) (by kernel_rfl) aO.out (fun hz => ?_)
   generalize w5.drew = w6 at *
   refine wT 0 { dst := some 20, op := Go.Op.load 25 (Go.Operand.tmp 2), type := 25, pos := "law.go:36", after := #[], guard := none } (v := ?_) (Or.inl ⟨by rfl, ?_⟩) ?_
   rotate_left
   ·(intro w hSw; (try dsimp only at hSw); go_simp) <;> with_reducible rfl
   simp only [Act.put, la, lb, lc];refine wT 2 { dst := some 22, op := Go.Op.load 25 (Go.Operand.tmp 2), type := 25, pos := "law.go:36", after := #[], guard := none } (v := ?_) (Or.inl ⟨by rfl, ?_⟩) ?_
   rotate_left
   ·(intro w hSw; (try dsimp only at hSw); go_simp) <;> with_reducible rfl
   simp only [Act.put, la, lb, lc];refine wR 1 { dst := some 21, op := Go.Op.call { callee := Go.Callee.value (Go.Operand.func 12), args := #[Go.Operand.tmp 20], argTypes := #[25] }, type := 4, pos := "law.go:36", after := #[{ on := 0, ground := Go.Ground.data }], guard := none } (fun K hK => ?_)
   go_simp
   refine (aC.out w6 (u.out w6 af.out)).mono ?_;rintro e u1 ⟨rfl, p⟩;have ax := hid (z00 af.out p);clear p
   go_wp2_with fail
   refine hK.out _ _ ?_ (fun hz1 => ?_)
   ·exact i.out _ ax.out
   clear hK K
   try simp only [Act.put, la, lb, lc]
   refine wR 3 { dst := some 23, op := Go.Op.call { callee := Go.Callee.value (Go.Operand.func 13), args := #[Go.Operand.tmp 22], argTypes := #[25] }, type := 4, pos := "law.go:36", after := #[{ on := 2, ground := Go.Ground.data }, { on := 1, ground := Go.Ground.chain }], guard := none } (fun K hK => ?_)
   go_simp
   refine (Z.out u1 (u.out u1 ax.out)).mono ?_;rintro e u2 ⟨rfl, p⟩;have aE := hid (z00 ax.out p);clear p
   go_wp2_with fail
   refine hK.out _ _ ?_ (fun hz2 => ?_)
   ·exact i.out _ aE.out
   clear hK K
   try simp only [Act.put, la, lb, lc]
   refine wT 4 { dst := some 24, op := Go.Op.binOp Go.BinOp.neq 4 (Go.Operand.tmp 21) (Go.Operand.tmp 23) 4, type := 4, pos := "law.go:36", after := #[{ on := 1, ground := Go.Ground.data }, { on := 3, ground := Go.Ground.data }], guard := none } (v := ?_) (Or.inl ⟨by rfl, ?_⟩) ?_
   rotate_left
   ·(intro w hSw; (try dsimp only at hSw); go_simp) <;> with_reducible rfl
   simp only [Act.put, la, lb, lc];refine wT 5 { dst := some 25, op := Go.Op.move (Go.Operand.tmp 24), type := 4, pos := "law.go:36", after := #[{ on := 4, ground := Go.Ground.data }, { on := 3, ground := Go.Ground.chain }], guard := none } (v := ?_) (Or.inl ⟨by rfl, ?_⟩) ?_
   rotate_left
   ·(intro w hSw; (try dsimp only at hSw); go_simp) <;> with_reducible rfl
   simp only [Act.put, la, lb, lc];refine wT 6 { dst := some 26, op := Go.Op.load 28 (Go.Operand.tmp 3), type := 28, pos := "law.go:36", after := #[{ on := 5, ground := Go.Ground.guard }], guard := some (5, false) } (v := ?_) (Or.inl ⟨by rfl, ?_⟩) ?_
   rotate_left
   ·(intro w hSw; (try dsimp only at hSw); go_simp) <;> with_reducible rfl
   simp only [Act.put, la, lb, lc];refine wT 8 { dst := some 28, op := Go.Op.load 28 (Go.Operand.tmp 3), type := 28, pos := "law.go:36", after := #[{ on := 5, ground := Go.Ground.guard }], guard := some (5, false) } (v := ?_) (Or.inl ⟨by rfl, ?_⟩) ?_
   rotate_left
   ·(intro w hSw; (try dsimp only at hSw); go_simp) <;> with_reducible rfl
   simp only [Act.put, la, lb, lc];refine wR 7 { dst := some 27, op := Go.Op.call { callee := Go.Callee.value (Go.Operand.func 14), args := #[Go.Operand.tmp 26], argTypes := #[28] }, type := 4, pos := "law.go:36", after := #[{ on := 6, ground := Go.Ground.data }, { on := 5, ground := Go.Ground.chain }, { on := 5, ground := Go.Ground.guard }], guard := some (5, false) } (fun K hK => ?_)
   go_simp
   refine (au.out u2).mono ?_;rintro e u3 ⟨rfl, p⟩;have aF := hid (z00 aE.out p);clear p
   go_wp2_with fail
   refine hK.out _ _ ?_ (fun hz3 => ?_)
   ·exact i.out _ aF.out
   clear hK K
   try simp only [Act.put, la, lb, lc]
   refine wR 9 { dst := some 29, op := Go.Op.call { callee := Go.Callee.value (Go.Operand.func 15), args := #[Go.Operand.tmp 28], argTypes := #[28] }, type := 4, pos := "law.go:36", after := #[{ on := 8, ground := Go.Ground.data }, { on := 7, ground := Go.Ground.chain }, { on := 5, ground := Go.Ground.guard }], guard := some (5, false) } (fun K hK => ?_)
   go_simp
   refine (U.out u3).mono ?_;rintro e u4 ⟨rfl, p⟩;have aG := hid (z00 aF.out p);clear p
   go_wp2_with fail
   refine hK.out _ _ ?_ (fun hz4 => ?_)
   ·exact i.out _ aG.out
   clear hK K
   try simp only [Act.put, la, lb, lc]
   refine wT 10 { dst := some 30, op := Go.Op.binOp Go.BinOp.neq 4 (Go.Operand.tmp 27) (Go.Operand.tmp 29) 4, type := 4, pos := "law.go:36", after := #[{ on := 7, ground := Go.Ground.data }, { on := 9, ground := Go.Ground.data }, { on := 5, ground := Go.Ground.guard }], guard := some (5, false) } (v := ?_) (Or.inl ⟨by rfl, ?_⟩) ?_
   rotate_left
   ·(intro w hSw; (try dsimp only at hSw); go_simp) <;> with_reducible rfl
   simp only [Act.put, la, lb, lc];refine wT 11 { dst := some 31, op := Go.Op.pick (Go.Operand.tmp 25) (Go.Operand.const (Go.Value.bool true)) (Go.Operand.tmp 30), type := 4, pos := "law.go:36", after := #[{ on := 5, ground := Go.Ground.data }, { on := 10, ground := Go.Ground.data }], guard := none } (v := ?_) (Or.inl ⟨by rfl, ?_⟩) ?_
   rotate_left
   ·(intro w hSw; (try dsimp only at hSw); go_simp) <;> with_reducible rfl
   simp only [Act.put, la, lb, lc];refine wpAnyH_done (by kernel_rfl) ?_ _;refine NoPanic.normal ?_;clear hz hz1 hz2 hz3 hz4;have D := aG;clear ax aE aF aG
  ·skip
   have HH := i.out _ D.out;obtain ⟨r0, r1, r2, q0, q1, q2⟩ := HH
   go_wp2_with fail
   clear r0 r1 r2 q0 q1 q2;refine (Z.out u4 (u.out u4 D.out)).mono ?_;rintro e x1 ⟨rfl, a⟩;have E := hid (z00 D.out a);clear a
   cases rb with
   | false =>
    go_wp2_with fail
    refine (aI.out x1).mono ?_;rintro e x3 ⟨rfl, a⟩;have F := hid (z00 E.out a);clear a;have G := hid (O.out.below F.out);have n0 := G.out.c0;have n1 := G.out.c1;have n2 := G.out.c2
    go_wp2_with fail
    clear n0 n1 n2;have HC := z7d x3 zeroM none none none none 0 0 0 0 (Sl.nil _ _ _ _) (Sl.nil _ _ _ _) (Sl.nil _ _ _ _) (Sl.nil _ _ _ _);simp only [List.length_nil] at HC;refine HC.mono ?_;clear HC;rintro e x4 ⟨rfl, a⟩;have t := hid (z00 F.out a);clear a;have z := hid (R.out.below t.out);have n0 := z.out.c0;have n1 := z.out.c1;have n2 := z.out.c2;have n3 := z.out.c3;have aP := eqL;go_wp2;go_ret;exact ⟨rfl, u.out _ t.out⟩
   | true =>
    obtain rfl : mb = false := by cases mb with | false => rfl | true => exact absurd ⟨rfl, rfl⟩ aZ.out
    obtain ⟨-, -, -, q0, q1, q2⟩ := i.out _ E.out
    go_wp2_with fail
    clear q0 q1 q2;refine (U.out x1).mono ?_;rintro e x2 ⟨rfl, a⟩;have ag := hid (z00 E.out a);clear a
    go_wp2_with fail
    refine (aI.out x2).mono ?_;rintro e x3 ⟨rfl, a⟩;have F := hid (z00 ag.out a);clear a;have G := hid (O.out.below F.out);have n0 := G.out.c0;have n1 := G.out.c1;have n2 := G.out.c2
    go_wp2_with fail
    clear n0 n1 n2;have HC := z7d x3 zeroM none none none none 0 0 0 0 (Sl.nil _ _ _ _) (Sl.nil _ _ _ _) (Sl.nil _ _ _ _) (Sl.nil _ _ _ _);simp only [List.length_nil] at HC;refine HC.mono ?_;clear HC;rintro e x4 ⟨rfl, a⟩;have t := hid (z00 F.out a);clear a;have z := hid (R.out.below t.out);have n0 := z.out.c0;have n1 := z.out.c1;have n2 := z.out.c2;have n3 := z.out.c3;have aP := eqL;go_wp2;go_ret;exact ⟨rfl, u.out _ t.out⟩
  ·skip
   obtain ⟨r0, r1, r2, q0, q1, q2⟩ := i.out _ D.out
   go_wp2_with fail
   clear r0 r1 r2 q0 q1 q2;refine (Z.out u4 (u.out u4 D.out)).mono ?_;rintro e x1 ⟨rfl, a⟩;have E := hid (z00 D.out a);clear a;obtain ⟨-, -, -, q0, q1, q2⟩ := i.out _ E.out
   go_wp2_with fail
   clear q0 q1 q2;refine (U.out x1).mono ?_;rintro e x2 ⟨rfl, a⟩;have ag := hid (z00 E.out a);clear a E D;obtain ⟨r0, r1, r2, q0, q1, q2⟩ := i.out _ ag.out
   go_wp2_with fail
   clear r0 r1 r2 q0 q1 q2;refine (s.out x2 (u.out x2 ag.out) bc.out (by first | rfl | trivial)).mono ?_;rintro e x3 ⟨H, I, J, L, rfl, aQ, aR, a⟩;have F := hid (z00 ag.out a);clear a
   go_wp2_with (with_reducible refine ze5 ?_; refine hid ?_; refine z4e (ty := 25) (x := .tmp 8) (y := .tmp 59) rfl ?_)
   refine hid ?_;obtain ⟨V2, ah⟩ := nmd ((x3.alloc (.cells #[.int .i64 0, .slice none 0 0, .slice none 0 0] 25)).alloc (.cells #[.int .i64 0, .int .i64 0, .int .i64 0, .int .i64 0] 32));rw [<- ah.out];obtain ⟨d, k, l, n⟩ := zbn x3 v2 (.slice H f I) (.slice J g L) ⟨ri, rq, ra, rv⟩;rw [<- ah.out] at d k l n;clear ah;have ai : Hid (Row (((((((V2.setCell ⟨x3.heap.size, 0, none⟩ (.int .i64 v2)).setCell ⟨x3.heap.size, 1, none⟩ (.slice H f I)).setCell ⟨x3.heap.size, 2, none⟩ (.slice J g L)).setCell ⟨x3.heap.size + 1, 0, none⟩ (.int .i64 ri)).setCell ⟨x3.heap.size + 1, 1, none⟩ (.int .i64 rq)).setCell ⟨x3.heap.size + 1, 2, none⟩ (.int .i64 ra)).setCell ⟨x3.heap.size + 1, 3, none⟩ (.int .i64 rv)) (x3.heap.size) 25 [.int .i64 v2, (.slice H f I), (.slice J g L)]) := hid k;have aS : Hid (Row (((((((V2.setCell ⟨x3.heap.size, 0, none⟩ (.int .i64 v2)).setCell ⟨x3.heap.size, 1, none⟩ (.slice H f I)).setCell ⟨x3.heap.size, 2, none⟩ (.slice J g L)).setCell ⟨x3.heap.size + 1, 0, none⟩ (.int .i64 ri)).setCell ⟨x3.heap.size + 1, 1, none⟩ (.int .i64 rq)).setCell ⟨x3.heap.size + 1, 2, none⟩ (.int .i64 ra)).setCell ⟨x3.heap.size + 1, 3, none⟩ (.int .i64 rv)) (x3.heap.size + 1) 32 [.int .i64 ri, .int .i64 rq, .int .i64 ra, .int .i64 rv]) := hid l;have T : Hid (Below x3.heap.size x3 (((((((V2.setCell ⟨x3.heap.size, 0, none⟩ (.int .i64 v2)).setCell ⟨x3.heap.size, 1, none⟩ (.slice H f I)).setCell ⟨x3.heap.size, 2, none⟩ (.slice J g L)).setCell ⟨x3.heap.size + 1, 0, none⟩ (.int .i64 ri)).setCell ⟨x3.heap.size + 1, 1, none⟩ (.int .i64 rq)).setCell ⟨x3.heap.size + 1, 2, none⟩ (.int .i64 ra)).setCell ⟨x3.heap.size + 1, 3, none⟩ (.int .i64 rv))) := hid n
   obtain ⟨c0, c1, c2⟩ := d.c1;obtain ⟨s0, s1, s2⟩ := d.f1;obtain ⟨t0, t1, t2, t3⟩ := d.c2;obtain ⟨z0, z1, z2, z3⟩ := d.f2;clear d k l n;have bg := hid (aQ.old T.out);have bh := hid (aR.old T.out);have t := hid (z00 F.out T.out);have aH := hid (O.out.below t.out);have n0 := aH.out.c0;have n1 := aH.out.c1;have n2 := aH.out.c2;have m0 := ai.out.c0;have m1 := ai.out.c1;have m2 := ai.out.c2;clear aQ aR
   go_wp2_with fail
   generalize hv : (((((((V2.setCell ⟨x3.heap.size, 0, none⟩ (.int .i64 v2)).setCell ⟨x3.heap.size, 1, none⟩ (.slice H f I)).setCell ⟨x3.heap.size, 2, none⟩ (.slice J g L)).setCell ⟨x3.heap.size + 1, 0, none⟩ (.int .i64 ri)).setCell ⟨x3.heap.size + 1, 1, none⟩ (.int .i64 rq)).setCell ⟨x3.heap.size + 1, 2, none⟩ (.int .i64 ra)).setCell ⟨x3.heap.size + 1, 3, none⟩ (.int .i64 rv)) = x4 at *
   clear hv T c0 c1 c2 s0 s1 s2 t0 t1 t2 t3 z0 z1 z2 z3 n0 n1 n2 m0 m1 m2;have HC := z7d x4 ⟨v2, aJ, aK⟩ ae3 H ac3 J ce3 I cc3 L (by simp only; rw [<- M.out]; exact bd.out.old t.out) (by simp only; rw [<- M.out]; exact bg.out) (by simp only; rw [<- N.out]; exact bf.out.old t.out) (by simp only; rw [<- N.out]; exact bh.out);simp only at HC;rw [<- M.out, <- N.out] at HC;refine HC.mono ?_;clear HC;rintro e x5 ⟨rfl, a⟩;have aT := hid (z00 t.out a);have ay := hid (R.out.below aT.out);have az := hid (aS.out.below a);clear a;have n0 := ay.out.c0;have n1 := ay.out.c1;have n2 := ay.out.c2;have n3 := ay.out.c3;have m0 := az.out.c0;have m1 := az.out.c1;have m2 := az.out.c2;have m3 := az.out.c3;have aP := eqL;go_wp2;go_ret;exact ⟨rfl, u.out _ aT.out⟩
end Go.Proofs.YtdkkkeoicekdgaaGreatDoor.Md
