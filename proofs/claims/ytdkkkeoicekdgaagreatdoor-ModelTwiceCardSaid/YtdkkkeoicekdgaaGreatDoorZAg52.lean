/- The document's Like of models; few, alive; Do at every model and command. -/
import Derived.Deep.QuietTactic
import Derived.BigQuiet
import Derived.Test.YtdkkkeoicekdgaaGreatDoorZAMdy
import Derived.Test.YtdkkkeoicekdgaaGreatDoorZAAg

section

namespace Go.Proofs.YtdkkkeoicekdgaaGreatDoor.Md
set_option maxHeartbeats 3200000
set_option maxRecDepth 100000
open Go.Lib (hid)
open Go.RowKit Go.Maps Go.WideShapes Go.WideMaps Go.Proofs.YtdkkkeoicekdgaaGreatDoor Go.Proofs.YtdkkkeoicekdgaaGreatDoor.Ca
theorem neqL (w : World) (a b c d : Int) : (binOp .neq 32 (.agg #[.int .i64 a, .int .i64 b, .int .i64 c, .int .i64 d]) (.agg #[.int .i64 a, .int .i64 b, .int .i64 c, .int .i64 d])).run Tryz.prog w = .ok (.bool false) w := by
 have hS : Tryz.prog.underlying 32 = some (.struct (Tryz.prog.fieldsOf 32)) := by kernel_rfl
 have hp : Tryz.prog.stoodInHeld 32 = false := by kernel_rfl
 have u3 := Tryz.underlying3
 have a3 := Tryz.isAgg3
 have z3 := Tryz.sizeOf3
 rw [run_neq_struct, show (10000 : Nat) = 9999 + 1 from rfl, run_equalIn_agg w 9999 32 _ _ hS hp]
 simp only [Program.fieldsOf, Tryz.underlying32]
 go_simp
theorem guardL : Tryz.prog.eqGuardType Tryz.prog.depth 32 = false := by kernel_rfl
theorem zca (w : World) (m : Mdl) (a1 a2 b1 b2 : Option Addr) (c1 c2 d1 d2 : Nat) (h1 : SlE w (Old w) (.slice a1 m.es.length c1) m.es) (h2 : SlE w (Old w) (.slice a2 m.es.length c2) m.es) (g1 : SlL w (Old w) (.slice b1 m.cs.length d1) m.cs) (g2 : SlL w (Old w) (.slice b2 m.cs.length d2) m.cs) :
  Calls Tryz.prog 17 #[.agg (mdC m.vr (.slice a1 m.es.length c1) (.slice b1 m.cs.length d1)), .agg (mdC m.vr (.slice a2 m.es.length c2) (.slice b2 m.cs.length d2))] w fun e w' => e = .returned (.bool true) /\ Below w.heap.size w w' := by
 obtain ⟨vr, es, cs⟩ := m
 have hl := g1.len
 obtain ⟨L, HL⟩ : ∃ L, Hid (L = cs.length) := ⟨_, hid rfl⟩
 have hL2 : L <= 9223372036854775807 := by have := HL.out; simp only at hl; omega
 simp only at h1 h2 g1 g2 ⊢
 obtain ⟨W1, HW1⟩ : ∃ W, Hid (W = (w.alloc (.cells (mdC vr (.slice a1 es.length c1) (.slice b1 cs.length d1)) 25)).alloc (.cells (mdC vr (.slice a2 es.length c2) (.slice b2 cs.length d2)) 25)) := ⟨_, hid rfl⟩
 have HB1 : Hid (Below w.heap.size w W1) := hid (by rw [HW1.out]; exact z2l _ _ _)
 have HLE := hid (fun W (hb : Below w.heap.size w W) => like_any W a1 a2 c1 c2 es (h1.old hb) (h2.old hb))
 have H1 := hid (g1.old HB1.out)
 have H2 := hid (g2.old HB1.out)
 have HR1 : Hid (Row W1 w.heap.size 25 [.int .i64 vr, .slice a1 es.length c1, .slice b1 cs.length d1]) := hid (by rw [HW1.out]; exact (z02 w (mdC vr (.slice a1 es.length c1) (.slice b1 cs.length d1)) _).alloc _)
 have HR2 : Hid (Row W1 (w.heap.size + 1) 25 [.int .i64 vr, .slice a2 es.length c2, .slice b2 cs.length d2]) := hid (by
  rw [HW1.out]
  have h := z02 (w.alloc (.cells (mdC vr (.slice a1 es.length c1) (.slice b1 cs.length d1)) 25)) (mdC vr (.slice a2 es.length c2) (.slice b2 cs.length d2)) 25
  rwa [World.size_alloc] at h)
 obtain ⟨Le, HLe⟩ : ∃ L, Hid (L = es.length) := ⟨_, hid rfl⟩
 rw [<- HL.out] at H1 H2 HR1 HR2 HW1 ⊢
 rw [<- HLe.out] at HR1 HR2 HW1 HLE ⊢
 clear h1 h2 g1 g2 hl
 have r0 := HR1.out.cell (i := 0) rfl
 have r1 := HR1.out.cell (i := 1) rfl
 have r2 := HR1.out.cell (i := 2) rfl
 have s0 := HR2.out.cell (i := 0) rfl
 have s1 := HR2.out.cell (i := 1) rfl
 have s2 := HR2.out.cell (i := 2) rfl
 rw [HW1.out] at r0 r1 r2 s0 s1 s2
 go_enter Tryz.func17, Tryz.ntmps17
 go_wp2_with fail
 rw [<- HW1.out]
 clear r0 r1 r2 s0 s1 s2 HW1
 refine (HLE.out W1 HB1.out).mono ?_
 rintro e w2 ⟨rfl, hb2⟩
 have HB2 := hid (z00 HB1.out hb2)
 have HK1 := hid (H1.out.old hb2)
 have HK2 := hid (H2.out.old hb2)
 have HS1 := hid (HR1.out.below hb2)
 have HS2 := hid (HR2.out.below hb2)
 clear hb2 HLE
 have r2 := HS1.out.cell (i := 2) rfl
 go_wp2
 clear r2
 go_loopw [31] (fun i wr => ∃ k m : Nat, k <= L /\ i = .int .i64 k /\ wr = w2.drewN m) (fun i _ => L - (intOf i).toNat)
 case atStart => exact ⟨0, 0, by omega, rfl, rfl⟩
 case round =>
  obtain ⟨k, m, hk, rfl, rfl⟩ := hrel
  by_cases hlt : k < L
  ·obtain ⟨x, hx⟩ : ∃ x, cs[k]? = some x := ⟨_, List.getElem?_eq_getElem (by have := HL.out; omega)⟩
   obtain ⟨p1, o1, rfl, hb1, i1, i2, i3, i4⟩ := HK1.out.get hx
   obtain ⟨p2, o2, rfl, hb2, j1, j2, j3, j4⟩ := HK2.out.get hx
   have r2 := HS1.out.cell (i := 2) rfl
   have s2 := HS2.out.cell (i := 2) rfl
   have hne := neqL
   have hgd := guardL
   obtain ⟨x0, x1, x2, x3⟩ := x
   simp only at i1 i2 i3 i4 j1 j2 j3 j4
   clear hx
   go_wp2
   go_quiet (fail)
   go_wp2
   go_roundw
   case rel => exact ⟨k + 1, _, by omega, by go_num, rfl⟩
   case measure => simp [intOf]; omega
  ·go_wp2
   go_ret
   exact ⟨rfl, z09 HB2.out m⟩
theorem fewm_any (w : World) (vr : Int) (ae ac : Option Addr) (Le ce Lc cc : Nat) : Calls Tryz.prog 10 #[.agg (mdC vr (.slice ae Le ce) (.slice ac Lc cc))] w fun e w' => ∃ r : Bool, e = .returned (.bool r) /\ Below w.heap.size w w' := by
 have R := z02 w (mdC vr (.slice ae Le ce) (.slice ac Lc cc)) 25
 have c0 := R.cell (i := 0) rfl
 have c1 := R.cell (i := 1) rfl
 have c2 := R.cell (i := 2) rfl
 have HB := hid (z04 w (.cells (mdC vr (.slice ae Le ce) (.slice ac Lc cc)) 25))
 clear R
 obtain ⟨p, hp⟩ : ∃ p, decide ((Le : Int) <= 60) = p := ⟨_, rfl⟩
 obtain ⟨q, hq⟩ : ∃ p, decide ((Lc : Int) <= 40) = p := ⟨_, rfl⟩
 go_enter Tryz.func10, Tryz.ntmps10
 cases p with
 | false =>
  go_wp2
  go_ret
  exact ⟨_, rfl, HB.out⟩
 | true =>
  go_wp2
  go_ret
  exact ⟨_, rfl, HB.out⟩
theorem zb1 (w : World) : Calls Tryz.prog 16 #[] w fun e w' => e = .returned (.bool true) /\ Below w.heap.size w w' := by
 have HM := hid (fun W b c => z3h W ⟨1, 1, [⟨false, ⟨⟨#[]⟩, ⟨#[]⟩, ⟨#[]⟩⟩⟩]⟩ b c)
 simp only [List.length_singleton] at HM
 go_enter Tryz.func16, Tryz.ntmps16
 go_wp2_with fail
 refine (HM.out _ _ _).mono ?_
 rintro e w2 ⟨rfl, hb⟩
 have HB := hid (z00 (z04 _ _) hb)
 clear hb
 go_wp2
 go_ret
 exact ⟨by rfl, HB.out⟩
theorem do_any (w : World) (m : Mdl) (ae : Option Addr) (ce : Nat) (ac : Option Addr) (cc : Nat) (c : Cmd) (b : Option Addr) (capc : Nat) (hE : SlE w (Old w) (.slice ae m.es.length ce) m.es) (hC : SlL w (Old w) (.slice ac m.cs.length cc) m.cs) (hF : ∀ x, x ∈ m.es -> FitE x) (hV : EnvC w) (hH : SlH w (Old w) (.slice b c.ch.length capc) c.ch) (hFC : ∀ x, x ∈ c.ch -> FitE x.e) :
  Calls Tryz.prog 11 #[.agg (mdC m.vr (.slice ae m.es.length ce) (.slice ac m.cs.length cc)), .agg #[.int .i64 c.cl, .int .i64 c.sq, .slice b c.ch.length capc]] w (DoP m c w) := by
 by_cases hR : RgtM m
 ·cases hM : mayC c with
  | true => exact do_yes w m ae ce ac cc c b capc hE hC hF hV hR hM hH hFC
  | false => exact do_no w m ae ce ac cc c b capc hE hC hF hV (fun h => by rw [hM] at h; cases h.2)
 ·exact do_no w m ae ce ac cc c b capc hE hC hF hV (fun h => hR h.1)
end Go.Proofs.YtdkkkeoicekdgaaGreatDoor.Md

end

section

namespace Go.Proofs.YtdkkkeoicekdgaaGreatDoor.Md
set_option maxRecDepth 100000
open Go.ChangeShapes Go.WideShapes Go.ChangeAt Go.WideMaps Go.WideElems Go.RowKit Go.Deep Go.Proofs.YtdkkkeoicekdgaaGreatDoor Go.Proofs.YtdkkkeoicekdgaaGreatDoor.Ca
theorem zdb : Tryz.prog.cellsOf 3 = 1 := by kernel_rfl
theorem cellsN : Tryz.prog.cellsOf 30 = 1 := by kernel_rfl
theorem cellsC : Tryz.prog.cellsOf 32 = 4 := by kernel_rfl
theorem cellsCs : Tryz.prog.cellsOf 23 = 1 := by kernel_rfl
theorem cellsEs : Tryz.prog.cellsOf 22 = 1 := by kernel_rfl
theorem cellsHs : Tryz.prog.cellsOf 26 = 1 := by kernel_rfl
theorem cellsM : Tryz.prog.cellsOf 25 = 3 := by kernel_rfl
theorem cellsD : Tryz.prog.cellsOf 28 = 3 := by kernel_rfl
section
variable {H : Type} {enc : TypeId × Value -> H} {W : World}
theorem open_cli {n : Nat} {cs : List Value} {y : DataW H × List MemPlace} (hl : cs.length = 4) (h : DataW.trod enc Tryz.prog W 0 (fun _ => true) true n 32 cs = some y) :
  ∃ x : Cli, cs = [.int .i64 x.id, .int .i64 x.sq, .int .i64 x.an, .int .i64 x.vr] := by
 obtain ⟨ys, n', -, hy, -, hyl, hg⟩ := DataW.trod_struct Tryz.underlying32 h
 match cs, hl with
 | [c0, c1, c2, c3], _ =>
  have g0 : DataW.trod enc Tryz.prog W 0 (fun _ => true) true n' 3 (([c0, c1, c2, c3].drop 0).take (Tryz.prog.cellsOf 3)) = ys[0]? := hg 0 _ rfl
  have g1 : DataW.trod enc Tryz.prog W 0 (fun _ => true) true n' 3 (([c0, c1, c2, c3].drop 1).take (Tryz.prog.cellsOf 3)) = ys[1]? := hg 1 _ rfl
  have g2 : DataW.trod enc Tryz.prog W 0 (fun _ => true) true n' 30 (([c0, c1, c2, c3].drop 2).take (Tryz.prog.cellsOf 30)) = ys[2]? := hg 2 _ rfl
  have g3 : DataW.trod enc Tryz.prog W 0 (fun _ => true) true n' 3 (([c0, c1, c2, c3].drop 3).take (Tryz.prog.cellsOf 3)) = ys[3]? := hg 3 _ rfl
  simp only [zdb, cellsN, List.drop_zero, List.take_succ_cons, List.take_zero, List.drop_succ_cons] at g0 g1 g2 g3
  match ys, hyl with
  | [y0, y1, y2, y3], _ =>
   obtain ⟨k0, hk0, -, -⟩ := DataW.trod_int Tryz.underlying3 g0
   obtain ⟨k1, hk1, -, -⟩ := DataW.trod_int Tryz.underlying3 g1
   obtain ⟨k2, hk2, -, -⟩ := DataW.trod_int Tryz.underlying30 g2
   obtain ⟨k3, hk3, -, -⟩ := DataW.trod_int Tryz.underlying3 g3
   simp only [List.cons.injEq, and_true] at hk0 hk1 hk2 hk3
   exact ⟨⟨k0, k1, k2, k3⟩, by rw [hk0, hk1, hk2, hk3]⟩
theorem zc0 {fuel : Nat} {c0 : Value} {y0 : DataW H × List MemPlace} (g1 : DataW.trod enc Tryz.prog W 0 (fun _ => true) true fuel 23 [c0] = some y0)
  (hlt2 : ∀ x ∈ y0.2, x.block < W.heap.size) : ∃ (a : Option Addr) (cap : Nat) (xs : List Cli), c0 = .slice a xs.length cap /\ SlL W (Old W) (.slice a xs.length cap) xs := by
 rcases open_slice Tryz.underlying23 g1 with ⟨hcs, -⟩ | ⟨a, len, cap, m, n2, D, Pl, hcs, -, hl, hm, hmm, hx, hi⟩
 ·obtain rfl : c0 = .slice none 0 0 := by simpa using hcs
  exact ⟨none, 0, [], rfl, Sl.nil _ _ _ _⟩
 ·obtain rfl : c0 = .slice (some a) len cap := by simpa using hcs
  simp only [if_true] at hmm
  unfold maxLen at hm
  rw [cellsC] at hi hx
  have hex : ∀ i, i < len -> ∃ x : Cli, W.cell? (a.add (i * 4)) = some (.int .i64 x.id) /\ W.cell? (a.add (i * 4 + 1)) = some (.int .i64 x.sq) /\ W.cell? (a.add (i * 4 + 2)) = some (.int .i64 x.an) /\ W.cell? (a.add (i * 4 + 3)) = some (.int .i64 x.vr) := fun i hil => by
   obtain ⟨cs', hc, ht'⟩ := hi i (by omega)
   obtain ⟨-, hcl, hat⟩ := World.cells?_some hc
   obtain ⟨x, rfl⟩ := open_cli hcl ht'
   have k0 := hat 0 (by simp)
   have k1 := hat 1 (by simp)
   have k2 := hat 2 (by simp)
   have k3 := hat 3 (by simp)
   rw [Go.Deep.add_add] at k0 k1 k2 k3
   exact ⟨x, k0, k1, k2, k3⟩
  obtain ⟨xs, hxl, hxs⟩ := z6f len hex
  refine ⟨some a, cap, xs, by rw [hxl], ⟨some a, cap, rfl, by omega, hm, fun hne => ?_⟩⟩
  have hpos : 0 < xs.length := List.length_pos_iff.2 hne
  have hc0 := (hxs 0 xs[0] (List.getElem?_eq_getElem hpos)).1
  obtain ⟨b, off, spot⟩ := a
  have hspot : spot = none := by simpa [Addr.add] using World.cell?_spot hc0
  subst hspot
  have hbW : b < W.heap.size := hlt2 (.cell b off) (by rw [hx]; exact List.mem_append_left _ (MemPlace.mem_row.2 ⟨0, by omega, by simp⟩))
  refine ⟨b, off, rfl, hbW, fun j x hj => ?_⟩
  obtain ⟨h0, h1, h2, h3⟩ := hxs j x hj
  rw [Addr.add_mid] at h0 h1 h2 h3
  refine ⟨[.int .i64 x.id, .int .i64 x.sq, .int .i64 x.an, .int .i64 x.vr], rfl, rfl, fun i u hu => ?_⟩
  match i, hu with
  | 0, hu => obtain rfl := Option.some.inj hu; exact h0
  | 1, hu => obtain rfl := Option.some.inj hu; rw [Nat.add_assoc]; exact h1
  | 2, hu => obtain rfl := Option.some.inj hu; rw [Nat.add_assoc]; exact h2
  | 3, hu => obtain rfl := Option.some.inj hu; rw [Nat.add_assoc]; exact h3
  | _ + 4, hu => simp at hu
theorem zaj {r : Reach} {b0 : Nat} {v : Value} {d : DataW H} {p : List MemPlace} (hv : Value.okWide Tryz.prog W r b0 25 v) (h : DataW.Trod enc Tryz.prog W 0 (fun _ => true) true 25 v d p)
  (hlt : ∀ x ∈ p, x.block < W.heap.size) (hw : ∀ n ∈ d.weights Tryz.prog 25, n <= reachBytes) : ∃ (m : Mdl) (ae : Option Addr) (ce : Nat) (ac : Option Addr) (cc : Nat), v = .agg (mdC m.vr (.slice ae m.es.length ce) (.slice ac m.cs.length cc)) /\ SlE W (Old W) (.slice ae m.es.length ce) m.es /\ SlL W (Old W) (.slice ac m.cs.length cc) m.cs /\ ∀ x, x ∈ m.es -> FitE x := by
 obtain ⟨cs, rfl, hsz⟩ := okWide_struct Tryz.underlying25 hv
 rw [cellsM] at hsz
 obtain ⟨l⟩ := cs
 match l, hsz with
 | [c0, c1, c2], _ =>
  obtain ⟨fuel, hf⟩ := h
  obtain ⟨ys, n', -, hx, -, hyl, hg⟩ := DataW.trod_struct Tryz.underlying25 hf
  have g0 : DataW.trod enc Tryz.prog W 0 (fun _ => true) true n' 3 (([c0, c1, c2].drop 0).take (Tryz.prog.cellsOf 3)) = ys[0]? := hg 0 _ rfl
  have g1 : DataW.trod enc Tryz.prog W 0 (fun _ => true) true n' 22 (([c0, c1, c2].drop 1).take (Tryz.prog.cellsOf 22)) = ys[1]? := hg 1 _ rfl
  have g2 : DataW.trod enc Tryz.prog W 0 (fun _ => true) true n' 23 (([c0, c1, c2].drop 2).take (Tryz.prog.cellsOf 23)) = ys[2]? := hg 2 _ rfl
  simp only [zdb, cellsEs, cellsCs, List.drop_zero, List.take_succ_cons, List.take_zero, List.drop_succ_cons] at g0 g1 g2
  match ys, hyl with
  | [y0, y1, y2], _ =>
   simp only [Prod.mk.injEq] at hx
   obtain ⟨hx1, hx2⟩ := hx
   obtain ⟨k0, hk0, -, -⟩ := DataW.trod_int Tryz.underlying3 g0
   have g1' : DataW.trod enc Tryz.prog W 0 (fun _ => true) true n' 22 [c1] = some y1 := by simpa using g1
   have g2' : DataW.trod enc Tryz.prog W 0 (fun _ => true) true n' 23 [c2] = some y2 := by simpa using g2
   obtain ⟨a, cap, xs, rfl, hs, hft⟩ := z7d g1' (fun x hxm => hlt x (by rw [hx2]; simp [hxm])) (fun m hm => hw m (by
    rw [hx1]
    simp [DataW.weights, Tryz.underlying25, DataW.weightsEach, hm]))
   obtain ⟨a2, cap2, ys2, rfl, hs2⟩ := zc0 g2' (fun x hxm => hlt x (by rw [hx2]; simp [hxm]))
   simp only [List.cons.injEq, and_true] at hk0
   subst hk0
   exact ⟨⟨k0, xs, ys2⟩, a, cap, a2, cap2, rfl, hs, hs2, hft⟩
theorem open_cmd {n : Nat} {cs : List Value} {y : DataW H × List MemPlace} (hl : cs.length = 3) (h : DataW.trod enc Tryz.prog W 0 (fun _ => true) true n 28 cs = some y)
  (hlt : ∀ x ∈ y.2, x.block < W.heap.size) (hw : ∀ n ∈ y.1.weights Tryz.prog 28, n <= reachBytes) : ∃ (c : Cmd) (b : Option Addr) (capc : Nat), cs = [.int .i64 c.cl, .int .i64 c.sq, .slice b c.ch.length capc] /\ SlH W (Old W) (.slice b c.ch.length capc) c.ch /\ ∀ x, x ∈ c.ch -> FitE x.e := by
 obtain ⟨ys, n', -, hx, -, hyl, hg⟩ := DataW.trod_struct Tryz.underlying28 h
 match cs, hl with
 | [c0, c1, c2], _ =>
  have g0 : DataW.trod enc Tryz.prog W 0 (fun _ => true) true n' 3 (([c0, c1, c2].drop 0).take (Tryz.prog.cellsOf 3)) = ys[0]? := hg 0 _ rfl
  have g1 : DataW.trod enc Tryz.prog W 0 (fun _ => true) true n' 3 (([c0, c1, c2].drop 1).take (Tryz.prog.cellsOf 3)) = ys[1]? := hg 1 _ rfl
  have g2 : DataW.trod enc Tryz.prog W 0 (fun _ => true) true n' 26 (([c0, c1, c2].drop 2).take (Tryz.prog.cellsOf 26)) = ys[2]? := hg 2 _ rfl
  simp only [zdb, cellsHs, List.drop_zero, List.take_succ_cons, List.take_zero, List.drop_succ_cons] at g0 g1 g2
  match ys, hyl with
  | [y0, y1, y2], _ =>
   obtain rfl := hx
   obtain ⟨k0, hk0, -, -⟩ := DataW.trod_int Tryz.underlying3 g0
   obtain ⟨k1, hk1, -, -⟩ := DataW.trod_int Tryz.underlying3 g1
   have g2' : DataW.trod enc Tryz.prog W 0 (fun _ => true) true n' 26 [c2] = some y2 := by simpa using g2
   obtain ⟨a, cap, xs, rfl, hs, hft⟩ := z7f g2' (fun x hxm => hlt x (by simp [hxm])) (fun m hm => hw m (by
    simp [DataW.weights, Tryz.underlying28, DataW.weightsEach, hm]))
   simp only [List.cons.injEq, and_true] at hk0 hk1
   subst hk0 hk1
   exact ⟨⟨k0, k1, xs⟩, a, cap, rfl, hs, hft⟩
theorem z7e {r : Reach} {b0 : Nat} {v : Value} {d : DataW H} {p : List MemPlace} (hv : Value.okWide Tryz.prog W r b0 28 v) (h : DataW.Trod enc Tryz.prog W 0 (fun _ => true) true 28 v d p)
  (hlt : ∀ x ∈ p, x.block < W.heap.size) (hw : ∀ n ∈ d.weights Tryz.prog 28, n <= reachBytes) : ∃ (c : Cmd) (b : Option Addr) (capc : Nat), v = .agg #[.int .i64 c.cl, .int .i64 c.sq, .slice b c.ch.length capc] /\ SlH W (Old W) (.slice b c.ch.length capc) c.ch /\ ∀ x, x ∈ c.ch -> FitE x.e := by
 obtain ⟨cs, rfl, hsz⟩ := okWide_struct Tryz.underlying28 hv
 rw [cellsD] at hsz
 obtain ⟨l⟩ := cs
 obtain ⟨fuel, hf⟩ := h
 obtain ⟨c, b, capc, hc, h1, h2⟩ := open_cmd (cs := l) (by simpa using hsz) hf hlt hw
 subst hc
 exact ⟨c, b, capc, rfl, h1, h2⟩
end
end Go.Proofs.YtdkkkeoicekdgaaGreatDoor.Md

end

section

namespace Go.Proofs.YtdkkkeoicekdgaaGreatDoor.Md
set_option maxHeartbeats 6400000
set_option maxRecDepth 100000
open Go.Lib (hid)
open Go.RowKit Go.Maps Go.WideShapes Go.WideMaps Go.Proofs.YtdkkkeoicekdgaaGreatDoor Go.Proofs.YtdkkkeoicekdgaaGreatDoor.Ca
theorem zb6 (u : World) (v : Int) (ve vc : Value) (r : Cli) :
  StoM ((u.alloc (.cells #[.int .i64 0, .slice none 0 0, .slice none 0 0] 25)).alloc (.cells #[.int .i64 0, .int .i64 0, .int .i64 0, .int .i64 0] 32)) u.heap.size (u.heap.size + 1) v ve vc r /\
  Row (putT (putM ((u.alloc (.cells #[.int .i64 0, .slice none 0 0, .slice none 0 0] 25)).alloc (.cells #[.int .i64 0, .int .i64 0, .int .i64 0, .int .i64 0] 32)) u.heap.size v ve vc) (u.heap.size + 1) r.id r.sq r.an r.vr) u.heap.size 25 [.int .i64 v, ve, vc] /\
  Row (putT (putM ((u.alloc (.cells #[.int .i64 0, .slice none 0 0, .slice none 0 0] 25)).alloc (.cells #[.int .i64 0, .int .i64 0, .int .i64 0, .int .i64 0] 32)) u.heap.size v ve vc) (u.heap.size + 1) r.id r.sq r.an r.vr) (u.heap.size + 1) 32 [.int .i64 r.id, .int .i64 r.sq, .int .i64 r.an, .int .i64 r.vr] /\
  Below u.heap.size u (putT (putM ((u.alloc (.cells #[.int .i64 0, .slice none 0 0, .slice none 0 0] 25)).alloc (.cells #[.int .i64 0, .int .i64 0, .int .i64 0, .int .i64 0] 32)) u.heap.size v ve vc) (u.heap.size + 1) r.id r.sq r.an r.vr) := by
 have h1 : Row ((u.alloc (.cells #[.int .i64 0, .slice none 0 0, .slice none 0 0] 25)).alloc (.cells #[.int .i64 0, .int .i64 0, .int .i64 0, .int .i64 0] 32)) u.heap.size 25 [.int .i64 0, .slice none 0 0, .slice none 0 0] := (z02 u #[.int .i64 0, .slice none 0 0, .slice none 0 0] _).alloc _
 have h2 : Row ((u.alloc (.cells #[.int .i64 0, .slice none 0 0, .slice none 0 0] 25)).alloc (.cells #[.int .i64 0, .int .i64 0, .int .i64 0, .int .i64 0] 32)) (u.heap.size + 1) 32 [.int .i64 0, .int .i64 0, .int .i64 0, .int .i64 0] := by
  have h := z02 (u.alloc (.cells #[.int .i64 0, .slice none 0 0, .slice none 0 0] 25)) #[.int .i64 0, .int .i64 0, .int .i64 0, .int .i64 0] 32
  rwa [World.size_alloc] at h
 have s := z8b h1 h2 (by omega) v ve vc r
 have b1 := z4e ((u.alloc (.cells #[.int .i64 0, .slice none 0 0, .slice none 0 0] 25)).alloc (.cells #[.int .i64 0, .int .i64 0, .int .i64 0, .int .i64 0] 32)) u.heap.size v ve vc
 have b2 := z10 (putM ((u.alloc (.cells #[.int .i64 0, .slice none 0 0, .slice none 0 0] 25)).alloc (.cells #[.int .i64 0, .int .i64 0, .int .i64 0, .int .i64 0] 32)) u.heap.size v ve vc) (u.heap.size + 1) r.id r.sq r.an r.vr
 refine ⟨s, ?_, ?_, s.bl u.heap.size (Nat.le_refl _) (by omega) u (z2l u _ _)⟩
 ·exact (z9a h1 v ve vc).keep (b2.block _ (by omega))
 ·exact z65 (h2.keep (b1.block _ (by omega))) r.id r.sq r.an r.vr
theorem zd1 (w : World) (m : Mdl) (ae : Option Addr) (ce : Nat) (ac : Option Addr) (cc : Nat) (c : Cmd) (b : Option Addr) (capc : Nat) (hE : SlE w (Old w) (.slice ae m.es.length ce) m.es) (hC : SlL w (Old w) (.slice ac m.cs.length cc) m.cs) (hV : EnvC w) (hH : SlH w (Old w) (.slice b c.ch.length capc) c.ch) (hFC : ∀ x, x ∈ c.ch -> FitE x.e) (hR : RgtM m) (hM : mayC c = true) :
  Calls Tryz.prog 11 #[.agg (mdC m.vr (.slice ae m.es.length ce) (.slice ac m.cs.length cc)), .agg #[.int .i64 c.cl, .int .i64 c.sq, .slice b c.ch.length capc]] w fun e w' => ∃ ae ce ac cc, e = .returned (.tuple #[.agg (mdC (doF m c).1.vr (.slice ae (doF m c).1.es.length ce) (.slice ac (doF m c).1.cs.length cc)), clV (doF m c).2, .int .i64 0]) /\ SlE w' (Old w') (.slice ae (doF m c).1.es.length ce) (doF m c).1.es /\ SlL w' (Old w') (.slice ac (doF m c).1.cs.length cc) (doF m c).1.cs /\ Below w.heap.size w w' := by
 refine (do_any w m ae ce ac cc c b capc hE hC (z6g (z0p hR.es)) hV hH hFC).mono ?_
 rintro e w' (⟨h, -⟩ | ⟨-, -, h⟩)
 ·exact absurd ⟨hR, hM⟩ h
 ·exact h
def SeqAt (l : List Cli) (id : Int) (k : Nat) (n : Int) : Prop := (n = 0 /\ ∀ j x, j < k -> l[j]? = some x -> x.id ≠ id) ∨ ∃ j x, j < k /\ l[j]? = some x /\ x.id = id /\ n = x.sq
theorem seq_zero (l : List Cli) (id : Int) : SeqAt l id 0 0 := .inl ⟨rfl, fun j x h => by omega⟩
theorem seq_yes {l : List Cli} {id : Int} {k : Nat} {x : Cli} (hx : l[k]? = some x) (h : x.id = id) : SeqAt l id (k + 1) x.sq := .inr ⟨k, x, by omega, hx, h, rfl⟩
theorem seq_no {l : List Cli} {id : Int} {k : Nat} {n : Int} {x : Cli} (h0 : SeqAt l id k n) (hx : l[k]? = some x) (h : x.id ≠ id) : SeqAt l id (k + 1) n := by
 rcases h0 with ⟨h1, h2⟩ | ⟨j, y, h1, h2⟩
 ·refine .inl ⟨h1, fun j y hj hy => ?_⟩
  by_cases e : j = k
  ·subst e; rw [hx] at hy; cases hy; exact h
  ·exact h2 j y (by omega) hy
 ·exact .inr ⟨j, y, by omega, h2⟩
theorem seq_end {l : List Cli} {id : Int} {n : Int} (hs : SrtC l) (h : SeqAt l id l.length n) : seqOf l id = n := by
 unfold seqOf
 rcases h with ⟨h1, h2⟩ | ⟨j, y, h1, h2, h3, h4⟩
 ·rw [z1m.2 (fun x hx => by obtain ⟨i, hi⟩ := List.getElem?_of_mem hx; exact h2 i x (List.getElem?_eq_some_iff.1 hi).1 hi)]
  exact h1.symm
 ·cases hf : z0x l id with
  | none => exact absurd h3 (z1m.1 hf y (List.mem_of_getElem? h2))
  | some z =>
   obtain ⟨hz, hzi⟩ := z52 hf
   obtain ⟨i, hi⟩ := List.getElem?_of_mem hz
   have e : i = j := by
    rcases Nat.lt_trichotomy i j with h9 | h9 | h9
    ·have := z5h hs hi h2 h9; omega
    ·exact h9
    ·have := z5h hs h2 hi h9; omega
   subst e
   rw [hi] at h2
   cases h2
   exact h4.symm
theorem zak (w : World) (m : Mdl) (ae : Option Addr) (ce : Nat) (ac : Option Addr) (cc : Nat) (c : Cmd) (b : Option Addr) (capc : Nat) (hE : SlE w (Old w) (.slice ae m.es.length ce) m.es) (hC : SlL w (Old w) (.slice ac m.cs.length cc) m.cs) (hF : ∀ x, x ∈ m.es -> FitE x) (hV : EnvC w) (hH : SlH w (Old w) (.slice b c.ch.length capc) c.ch) (hFC : ∀ x, x ∈ c.ch -> FitE x.e) :
  Calls Tryz.prog 7 #[.agg (mdC m.vr (.slice ae m.es.length ce) (.slice ac m.cs.length cc)), .agg #[.int .i64 c.cl, .int .i64 c.sq, .slice b c.ch.length capc]] w fun e w' => e = .returned (.bool true) /\ Below w.heap.size w w' := by
 have HRT := hid (fun W (hb : Below w.heap.size w W) => z3t W m ae ce ac cc (hE.old hb) (hC.old hb) hF (hV.below hb))
 have HMY := hid (fun W => z3h W c b capc)
 have HFW := hid (fun W => fewm_any W m.vr ae ac m.es.length ce m.cs.length cc)
 have HAL := hid (fun W => zb1 W)
 have HDO := hid (fun W (hb : Below w.heap.size w W) hR hM => zd1 W m ae ce ac cc c b capc (hE.old hb) (hC.old hb) (hV.below hb) (hH.old hb) hFC hR hM)
 have HD2 := hid (fun W (m2 : Mdl) a1 c1 a2 c2 (hb : Below w.heap.size w W) h1 h2 hR hM => zd1 W m2 a1 c1 a2 c2 c b capc h1 h2 (hV.below hb) (hH.old hb) hFC hR hM)
 have HCO := hid (fun W (hb : Below w.heap.size w W) => hC.old hb)
 have HTW := hid (do_twice m c)
 have HDV := hid (fun (hR : RgtM m) (hM : mayC c = true) => zas hR hM)
 have HDR := hid (fun (hR : RgtM m) (hM : mayC c = true) => z9z hR hM)
 obtain ⟨⟨v2, es2, cs2⟩, ⟨ri, rq, ra, rv⟩, HD⟩ : ∃ m2 r2, Hid (doF m c = (m2, r2)) := ⟨_, _, hid rfl⟩
 rw [HD.out] at HDO HTW HDV HDR
 simp only at HDO HTW HDV HDR
 have HD2' := hid (fun W a1 c1 a2 c2 => HD2.out W ⟨v2, es2, cs2⟩ a1 c1 a2 c2)
 rw [HTW.out] at HD2'
 simp only at HD2'
 obtain ⟨p, HP⟩ : ∃ p, Hid (p = mayC c) := ⟨_, hid rfl⟩
 rw [<- HP.out] at HMY HDO HDV HDR HD2'
 obtain ⟨vr, es, cs⟩ := m
 obtain ⟨cl, sq, ch⟩ := c
 obtain ⟨Le, HLe⟩ : ∃ L, Hid (L = es.length) := ⟨_, hid rfl⟩
 obtain ⟨Lc, HLc⟩ : ∃ L, Hid (L = cs.length) := ⟨_, hid rfl⟩
 obtain ⟨Lh, HLh⟩ : ∃ L, Hid (L = ch.length) := ⟨_, hid rfl⟩
 obtain ⟨L2e, HL2e⟩ : ∃ L, Hid (L = es2.length) := ⟨_, hid rfl⟩
 obtain ⟨L2c, HL2c⟩ : ∃ L, Hid (L = cs2.length) := ⟨_, hid rfl⟩
 have hLc := hC.len
 clear hE hC hF hV hH hFC HD2
 simp only at HRT HMY HFW HDO HCO HD2' HDV hLc ⊢
 rw [<- HLe.out, <- HLc.out] at HRT HFW HDO ⊢
 rw [<- HLc.out] at HCO hLc
 rw [<- HLh.out] at HMY HDO HD2' ⊢
 rw [<- HL2e.out, <- HL2c.out] at HDO HD2'
 have hLc2 : Lc <= 9223372036854775807 := by omega
 clear hLc
 obtain ⟨W1, HW1⟩ : ∃ W, Hid (W = (w.alloc (.cells (mdC vr (.slice ae Le ce) (.slice ac Lc cc)) 25)).alloc (.cells #[.int .i64 cl, .int .i64 sq, .slice b Lh capc] 28)) := ⟨_, hid rfl⟩
 have HB1 : Hid (Below w.heap.size w W1) := hid (by rw [HW1.out]; exact z2l _ _ _)
 have HRA : Hid (Row W1 w.heap.size 25 [.int .i64 vr, .slice ae Le ce, .slice ac Lc cc]) := hid (by rw [HW1.out]; exact (z02 w (mdC vr (.slice ae Le ce) (.slice ac Lc cc)) _).alloc _)
 have HRC : Hid (Row W1 (w.heap.size + 1) 28 [.int .i64 cl, .int .i64 sq, .slice b Lh capc]) := hid (by
  rw [HW1.out]
  have h := z02 (w.alloc (.cells (mdC vr (.slice ae Le ce) (.slice ac Lc cc)) 25)) #[.int .i64 cl, .int .i64 sq, .slice b Lh capc] 28
  rwa [World.size_alloc] at h)
 have r0 := HRA.out.cell (i := 0) rfl
 have r1 := HRA.out.cell (i := 1) rfl
 have r2 := HRA.out.cell (i := 2) rfl
 rw [HW1.out] at r0 r1 r2
 go_enter Tryz.func7, Tryz.ntmps7
 go_wp2_with fail
 rw [<- HW1.out]
 clear r0 r1 r2 HW1
 refine (HFW.out W1).mono ?_
 rintro e w2 ⟨r, rfl, hb2⟩
 have HB2 := hid (z00 HB1.out hb2)
 have HRA2 := hid (HRA.out.below hb2)
 have HRC2 := hid (HRC.out.below hb2)
 clear hb2 HFW HRA HRC
 cases r with
 | false =>
  go_wp2_with fail
  refine (HAL.out w2).mono ?_
  rintro e w99 ⟨rfl, hb99⟩
  have HB99 := hid (z00 HB2.out hb99)
  clear hb99
  go_wp2
  go_ret
  exact ⟨rfl, HB99.out⟩
 | true =>
  have r0 := HRA2.out.cell (i := 0) rfl
  have r1 := HRA2.out.cell (i := 1) rfl
  have r2 := HRA2.out.cell (i := 2) rfl
  go_wp2_with fail
  clear r0 r1 r2
  refine (HRT.out w2 HB2.out).mono ?_
  rintro e w3 ⟨r, rfl, hr, hb3⟩
  have HB3 := hid (z00 HB2.out hb3)
  have HRA3 := hid (HRA2.out.below hb3)
  have HRC3 := hid (HRC2.out.below hb3)
  have HR := hid hr
  clear hb3 hr HRT HRA2 HRC2
  cases r with
  | false =>
   go_wp2_with fail
   refine (HAL.out w3).mono ?_
   rintro e w99 ⟨rfl, hb99⟩
   have HB99 := hid (z00 HB3.out hb99)
   clear hb99
   go_wp2
   go_ret
   exact ⟨rfl, HB99.out⟩
  | true =>
   have r0 := HRC3.out.cell (i := 0) rfl
   have r1 := HRC3.out.cell (i := 1) rfl
   have r2 := HRC3.out.cell (i := 2) rfl
   have HRG : Hid (RgtM ⟨vr, es, cs⟩) := hid (HR.out.1 rfl)
   go_wp2_with fail
   clear r0 r1 r2
   refine (HMY.out w3).mono ?_
   rintro e w4 ⟨rfl, hb4⟩
   have HB4 := hid (z00 HB3.out hb4)
   have HRA4 := hid (HRA3.out.below hb4)
   have HRC4 := hid (HRC3.out.below hb4)
   clear hb4 HMY HRA3 HRC3 HR
   cases p with
   | false =>
    go_wp2_with fail
    refine (HAL.out w4).mono ?_
    rintro e w99 ⟨rfl, hb99⟩
    have HB99 := hid (z00 HB4.out hb99)
    clear hb99
    go_wp2
    go_ret
    exact ⟨rfl, HB99.out⟩
   | true =>
    have r2 := HRA4.out.cell (i := 2) rfl
    go_wp2
    clear r2
    go_loopw [5, 31] (fun kn i wr => ∃ (k : Nat) (n : Int), k <= Lc /\ i = .int .i64 k /\ kn = .int .i64 n /\ Hid (Below w4.heap.size w4 wr) /\ Hid (SeqAt cs cl k n)) (fun _ i _ => Lc - (intOf i).toNat)
    case atStart => exact ⟨0, 0, Nat.zero_le _, rfl, rfl, hid (Below.refl _ _), hid (seq_zero _ _)⟩
    case round =>
     obtain ⟨k, n, hk, rfl, rfl, HBR, HSQ⟩ := hrel
     by_cases hlt : k < Lc
     ·obtain ⟨x, hx⟩ : ∃ x, cs[k]? = some x := ⟨_, List.getElem?_eq_getElem (by have := HLc.out; omega)⟩
      have HX := hid hx
      obtain ⟨b0, off, rfl, -, x0, x1, x2, x3⟩ := (HCO.out wr (z00 HB4.out HBR.out)).get hx
      clear hx
      obtain ⟨xi, xq, xa, xv⟩ := x
      simp only at x0 x1 x2 x3
      have HBO := hid (z00 HBR.out (z04 wr (.cells #[.int .i64 xi, .int .i64 xq, .int .i64 xa, .int .i64 xv] 32)))
      have HRX := hid (z02 wr #[.int .i64 xi, .int .i64 xq, .int .i64 xa, .int .i64 xv] 32)
      have HRCx := hid (HRC4.out.below HBO.out)
      have y0 := HRCx.out.cell (i := 0) rfl
      have d0 := HRX.out.cell (i := 0) rfl
      have d1 := HRX.out.cell (i := 1) rfl
      by_cases he : xi = cl
      ·have u1 : (xi == cl) = true := by rw [beq_iff_eq]; exact he
       have HN := hid (seq_yes HX.out he)
       clear he
       go_wp2
       go_roundw
       case rel => exact ⟨k + 1, _, by omega, by go_num, rfl, HBO, HN⟩
       case measure => simp [intOf]; omega
      ·have u1 : (xi == cl) = false := by rw [beq_eq_false_iff_ne]; exact he
       have HN := hid (seq_no HSQ.out HX.out he)
       clear he
       go_wp2
       go_roundw
       case rel => exact ⟨k + 1, _, by omega, by go_num, rfl, HBO, HN⟩
       case measure => simp [intOf]; omega
     ·have HSE : Hid (seqOf cs cl = n) := hid (seq_end HRG.out.cs.srt (by have h := HSQ.out; rwa [show k = cs.length by have := HLc.out; omega] at h))
      have HB5 := hid (z00 HB4.out HBR.out)
      have HRA5 := hid (HRA4.out.below HBR.out)
      have HRC5 := hid (HRC4.out.below HBR.out)
      clear HSQ HBR HRA4 HRC4
      have r0 := HRA5.out.cell (i := 0) rfl
      have r1 := HRA5.out.cell (i := 1) rfl
      have r2 := HRA5.out.cell (i := 2) rfl
      have y0 := HRC5.out.cell (i := 0) rfl
      have y1 := HRC5.out.cell (i := 1) rfl
      have y2 := HRC5.out.cell (i := 2) rfl
      go_wp2_with fail
      clear r0 r1 r2 y0 y1 y2
      refine (HDO.out wr HB5.out HRG.out (by first | rfl | trivial)).mono ?_
      rintro e w6 ⟨ae3, ce3, ac3, cc3, rfl, he3, hc3, hb6⟩
      go_wp2_with (with_reducible refine zcd ?_; refine hid ?_; refine z3s (ty := 25) (x := .tmp 8) (y := .tmp 47) rfl ?_)
      refine hid ?_
      obtain ⟨V1, HWV1⟩ : ∃ W, Hid (W = (w6.alloc (.cells #[.int .i64 0, .slice none 0 0, .slice none 0 0] 25)).alloc (.cells #[.int .i64 0, .int .i64 0, .int .i64 0, .int .i64 0] 32)) := ⟨_, hid rfl⟩
      rw [<- HWV1.out]
      obtain ⟨hst, hr1, hr2, hbb⟩ := zb6 w6 v2 (.slice ae3 L2e ce3) (.slice ac3 L2c cc3) ⟨ri, rq, ra, rv⟩
      rw [<- HWV1.out] at hst hr1 hr2 hbb
      clear HWV1
      have HRN1 : Hid (Row ((((((((V1).setCell ⟨w6.heap.size, 0, none⟩ (.int .i64 v2)).setCell ⟨w6.heap.size, 1, none⟩ (.slice ae3 L2e ce3)).setCell ⟨w6.heap.size, 2, none⟩ (.slice ac3 L2c cc3)).setCell ⟨w6.heap.size + 1, 0, none⟩ (.int .i64 ri)).setCell ⟨w6.heap.size + 1, 1, none⟩ (.int .i64 rq)).setCell ⟨w6.heap.size + 1, 2, none⟩ (.int .i64 ra)).setCell ⟨w6.heap.size + 1, 3, none⟩ (.int .i64 rv)) (w6.heap.size) 25 [.int .i64 v2, (.slice ae3 L2e ce3), (.slice ac3 L2c cc3)]) := hid hr1
      have HRL1 : Hid (Row ((((((((V1).setCell ⟨w6.heap.size, 0, none⟩ (.int .i64 v2)).setCell ⟨w6.heap.size, 1, none⟩ (.slice ae3 L2e ce3)).setCell ⟨w6.heap.size, 2, none⟩ (.slice ac3 L2c cc3)).setCell ⟨w6.heap.size + 1, 0, none⟩ (.int .i64 ri)).setCell ⟨w6.heap.size + 1, 1, none⟩ (.int .i64 rq)).setCell ⟨w6.heap.size + 1, 2, none⟩ (.int .i64 ra)).setCell ⟨w6.heap.size + 1, 3, none⟩ (.int .i64 rv)) (w6.heap.size + 1) 32 [.int .i64 ri, .int .i64 rq, .int .i64 ra, .int .i64 rv]) := hid hr2
      have HBX1 : Hid (Below w6.heap.size w6 ((((((((V1).setCell ⟨w6.heap.size, 0, none⟩ (.int .i64 v2)).setCell ⟨w6.heap.size, 1, none⟩ (.slice ae3 L2e ce3)).setCell ⟨w6.heap.size, 2, none⟩ (.slice ac3 L2c cc3)).setCell ⟨w6.heap.size + 1, 0, none⟩ (.int .i64 ri)).setCell ⟨w6.heap.size + 1, 1, none⟩ (.int .i64 rq)).setCell ⟨w6.heap.size + 1, 2, none⟩ (.int .i64 ra)).setCell ⟨w6.heap.size + 1, 3, none⟩ (.int .i64 rv))) := hid hbb
      obtain ⟨c0, c1, c2⟩ := hst.c1
      obtain ⟨s0, s1, s2⟩ := hst.f1
      obtain ⟨t0, t1, t2, t3⟩ := hst.c2
      obtain ⟨z0, z1, z2, z3⟩ := hst.f2
      clear hst hr1 hr2 hbb
      have HB7 := hid (z00 HB5.out (z00 hb6 HBX1.out))
      have HE7 := hid (he3.old HBX1.out)
      have HC7 := hid (hc3.old HBX1.out)
      have HRA7 := hid ((HRA5.out.below hb6).below HBX1.out)
      have HRC7 := hid ((HRC5.out.below hb6).below HBX1.out)
      clear he3 hc3 hb6 HRA5 HRC5
      have n0 := HRN1.out.cell (i := 0) rfl
      have n1 := HRN1.out.cell (i := 1) rfl
      have n2 := HRN1.out.cell (i := 2) rfl
      have y0 := HRC7.out.cell (i := 0) rfl
      have y1 := HRC7.out.cell (i := 1) rfl
      have y2 := HRC7.out.cell (i := 2) rfl
      go_wp2_with fail
      generalize hv : (((((((V1).setCell ⟨w6.heap.size, 0, none⟩ (.int .i64 v2)).setCell ⟨w6.heap.size, 1, none⟩ (.slice ae3 L2e ce3)).setCell ⟨w6.heap.size, 2, none⟩ (.slice ac3 L2c cc3)).setCell ⟨w6.heap.size + 1, 0, none⟩ (.int .i64 ri)).setCell ⟨w6.heap.size + 1, 1, none⟩ (.int .i64 rq)).setCell ⟨w6.heap.size + 1, 2, none⟩ (.int .i64 ra)).setCell ⟨w6.heap.size + 1, 3, none⟩ (.int .i64 rv) = w7 at *
      clear hv HBX1 n0 n1 n2 y0 y1 y2 c0 c1 c2 s0 s1 s2 t0 t1 t2 t3 z0 z1 z2 z3
      have HRG2 : Hid (RgtM ⟨v2, es2, cs2⟩) := hid (HDR.out HRG.out (by first | rfl | trivial))
      have HC := HD2'.out w7 ae3 ce3 ac3 cc3 HB7.out HE7.out HC7.out HRG2.out (by first | rfl | trivial)
      refine HC.mono ?_
      clear HC
      rintro e w8 ⟨ae4, ce4, ac4, cc4, rfl, he4, hc4, hb8⟩
      go_wp2_with (with_reducible refine zcd ?_; refine hid ?_; refine z3s (ty := 25) (x := .tmp 11) (y := .tmp 54) rfl ?_)
      refine hid ?_
      obtain ⟨V2, HWV2⟩ : ∃ W, Hid (W = (w8.alloc (.cells #[.int .i64 0, .slice none 0 0, .slice none 0 0] 25)).alloc (.cells #[.int .i64 0, .int .i64 0, .int .i64 0, .int .i64 0] 32)) := ⟨_, hid rfl⟩
      rw [<- HWV2.out]
      obtain ⟨hst, hr1, hr2, hbb⟩ := zb6 w8 v2 (.slice ae4 L2e ce4) (.slice ac4 L2c cc4) ⟨ri, rq, ra, rv⟩
      rw [<- HWV2.out] at hst hr1 hr2 hbb
      clear HWV2
      have HRN2 : Hid (Row ((((((((V2).setCell ⟨w8.heap.size, 0, none⟩ (.int .i64 v2)).setCell ⟨w8.heap.size, 1, none⟩ (.slice ae4 L2e ce4)).setCell ⟨w8.heap.size, 2, none⟩ (.slice ac4 L2c cc4)).setCell ⟨w8.heap.size + 1, 0, none⟩ (.int .i64 ri)).setCell ⟨w8.heap.size + 1, 1, none⟩ (.int .i64 rq)).setCell ⟨w8.heap.size + 1, 2, none⟩ (.int .i64 ra)).setCell ⟨w8.heap.size + 1, 3, none⟩ (.int .i64 rv)) (w8.heap.size) 25 [.int .i64 v2, (.slice ae4 L2e ce4), (.slice ac4 L2c cc4)]) := hid hr1
      have HRL2 : Hid (Row ((((((((V2).setCell ⟨w8.heap.size, 0, none⟩ (.int .i64 v2)).setCell ⟨w8.heap.size, 1, none⟩ (.slice ae4 L2e ce4)).setCell ⟨w8.heap.size, 2, none⟩ (.slice ac4 L2c cc4)).setCell ⟨w8.heap.size + 1, 0, none⟩ (.int .i64 ri)).setCell ⟨w8.heap.size + 1, 1, none⟩ (.int .i64 rq)).setCell ⟨w8.heap.size + 1, 2, none⟩ (.int .i64 ra)).setCell ⟨w8.heap.size + 1, 3, none⟩ (.int .i64 rv)) (w8.heap.size + 1) 32 [.int .i64 ri, .int .i64 rq, .int .i64 ra, .int .i64 rv]) := hid hr2
      have HBX2 : Hid (Below w8.heap.size w8 ((((((((V2).setCell ⟨w8.heap.size, 0, none⟩ (.int .i64 v2)).setCell ⟨w8.heap.size, 1, none⟩ (.slice ae4 L2e ce4)).setCell ⟨w8.heap.size, 2, none⟩ (.slice ac4 L2c cc4)).setCell ⟨w8.heap.size + 1, 0, none⟩ (.int .i64 ri)).setCell ⟨w8.heap.size + 1, 1, none⟩ (.int .i64 rq)).setCell ⟨w8.heap.size + 1, 2, none⟩ (.int .i64 ra)).setCell ⟨w8.heap.size + 1, 3, none⟩ (.int .i64 rv))) := hid hbb
      obtain ⟨c0, c1, c2⟩ := hst.c1
      obtain ⟨s0, s1, s2⟩ := hst.f1
      obtain ⟨t0, t1, t2, t3⟩ := hst.c2
      obtain ⟨z0, z1, z2, z3⟩ := hst.f2
      clear hst hr1 hr2 hbb
      have HBY := hid (z00 hb8 HBX2.out)
      have HB9 := hid (z00 HB7.out HBY.out)
      have HE9 := hid (he4.old HBX2.out)
      have HC9 := hid (hc4.old HBX2.out)
      have HE9n := hid (HE7.out.old HBY.out)
      have HC9n := hid (HC7.out.old HBY.out)
      have HRA9 := hid (HRA7.out.below HBY.out)
      have HRC9 := hid (HRC7.out.below HBY.out)
      have HRN9 := hid (HRN1.out.below HBY.out)
      have HRL9 := hid (HRL1.out.below HBY.out)
      clear he4 hc4 hb8 HE7 HC7 HRA7 HRC7 HRN1 HRL1 HBY
      have n0 := HRN9.out.cell (i := 0) rfl
      have n1 := HRN9.out.cell (i := 1) rfl
      have n2 := HRN9.out.cell (i := 2) rfl
      have m0 := HRN2.out.cell (i := 0) rfl
      have m1 := HRN2.out.cell (i := 1) rfl
      have m2 := HRN2.out.cell (i := 2) rfl
      go_wp2_with fail
      generalize hv : (((((((V2).setCell ⟨w8.heap.size, 0, none⟩ (.int .i64 v2)).setCell ⟨w8.heap.size, 1, none⟩ (.slice ae4 L2e ce4)).setCell ⟨w8.heap.size, 2, none⟩ (.slice ac4 L2c cc4)).setCell ⟨w8.heap.size + 1, 0, none⟩ (.int .i64 ri)).setCell ⟨w8.heap.size + 1, 1, none⟩ (.int .i64 rq)).setCell ⟨w8.heap.size + 1, 2, none⟩ (.int .i64 ra)).setCell ⟨w8.heap.size + 1, 3, none⟩ (.int .i64 rv) = w9 at *
      clear hv HBX2 n0 n1 n2 m0 m1 m2 c0 c1 c2 s0 s1 s2 t0 t1 t2 t3 z0 z1 z2 z3
      have HC := zca w9 ⟨v2, es2, cs2⟩ ae3 ae4 ac3 ac4 ce3 ce4 cc3 cc4 (by simp only; rw [<- HL2e.out]; exact HE9n.out) (by simp only; rw [<- HL2e.out]; exact HE9.out) (by simp only; rw [<- HL2c.out]; exact HC9n.out) (by simp only; rw [<- HL2c.out]; exact HC9.out)
      simp only at HC
      rw [<- HL2e.out, <- HL2c.out] at HC
      refine HC.mono ?_
      clear HC
      rintro e wa ⟨rfl, hba⟩
      have HBA := hid (z00 HB9.out hba)
      have HRAa := hid (HRA9.out.below hba)
      have HRCa := hid (HRC9.out.below hba)
      have HRNa := hid (HRN9.out.below hba)
      have HRLa := hid (HRL9.out.below hba)
      have HRMa := hid (HRL2.out.below hba)
      clear hba HRA9 HRC9 HRN9 HRL9 HRL2 HRN2 HE9 HC9 HE9n HC9n HB9
      have hne := neqL
      have hgd := guardL
      have hver := HDV.out HRG.out (by first | rfl | trivial)
      rw [HSE.out] at hver
      have hv0 := HRG.out.lo
      have hv1 := HRG.out.hi
      simp only at hv0 hv1
      have HVER := hid hver
      clear hver
      have l0 := HRLa.out.cell (i := 0) rfl
      have l1 := HRLa.out.cell (i := 1) rfl
      have l2 := HRLa.out.cell (i := 2) rfl
      have l3 := HRLa.out.cell (i := 3) rfl
      have q0 := HRMa.out.cell (i := 0) rfl
      have q1 := HRMa.out.cell (i := 1) rfl
      have q2 := HRMa.out.cell (i := 2) rfl
      have q3 := HRMa.out.cell (i := 3) rfl
      have y1 := HRCa.out.cell (i := 1) rfl
      have n0 := HRNa.out.cell (i := 0) rfl
      have r0 := HRAa.out.cell (i := 0) rfl
      by_cases hs : sq <= n
      ·have u1 : decide (sq <= n) = true := decide_eq_true hs
       obtain rfl : v2 = vr := by have h := HVER.out; rwa [if_pos (.inl hs)] at h
       clear hs
       go_wp2
       go_ret
       exact ⟨rfl, HBA.out⟩
      ·have u1 : decide (sq <= n) = false := decide_eq_false hs
       by_cases ha : ra = 0
       ·obtain ⟨rfl, rfl⟩ : v2 = vr + 1 /\ rv = vr + 1 := by have h := HVER.out; rwa [if_neg (fun h9 => h9.elim hs (fun h8 => h8 ha))] at h
        subst ha
        clear hs
        go_wp2
        go_ret
        exact ⟨rfl, HBA.out⟩
       ·have u2 : (ra != 0) = true := by rw [bne_iff_ne]; exact ha
        obtain rfl : v2 = vr := by have h := HVER.out; rwa [if_pos (.inr ha)] at h
        clear hs ha
        go_wp2
        go_ret
        exact ⟨rfl, HBA.out⟩
end Go.Proofs.YtdkkkeoicekdgaaGreatDoor.Md

end
