/- The document's Like of models; few, alive; Do at every model and command. -/
import Derived.Deep.QuietTactic
import Derived.BigQuiet
import Derived.Test.YtdkkkeoicekdgaaGreatDoorZBMdy

section

namespace Go.Proofs.YtdkkkeoicekdgaaGreatDoor.Md
set_option maxHeartbeats 3200000
set_option maxRecDepth 100000
open Go.Lib (hid)
open Go.RowKit Go.Maps Go.WideShapes Go.WideMaps Go.Proofs.YtdkkkeoicekdgaaGreatDoor Go.Proofs.YtdkkkeoicekdgaaGreatDoor.Ca
theorem neqL (w : World) (a b c d : Int) : (binOp .neq 32 (.agg #[.int .i64 a, .int .i64 b, .int .i64 c, .int .i64 d]) (.agg #[.int .i64 a, .int .i64 b, .int .i64 c, .int .i64 d])).run Tryz.prog w = .ok (.bool false) w := by
 have hS : Tryz.prog.underlying 32 = some (.struct (Tryz.prog.fieldsOf 32)) := by kernel_rfl
 have hp : Tryz.prog.stoodInHeld 32 = false := by kernel_rfl
 have u3 := Tryz.underlying3
 have a3 := Tryz.isAgg3
 have z3 := Tryz.sizeOf3
 rw [run_neq_struct, show (10000 : Nat) = 9999 + 1 from rfl, run_equalIn_agg w 9999 32 _ _ hS hp]
 simp only [Program.fieldsOf, Tryz.underlying32]
 go_simp
theorem guardL : Tryz.prog.eqGuardType Tryz.prog.depth 32 = false := by kernel_rfl
theorem zcd (w : World) (m : Mdl) (a1 a2 b1 b2 : Option Addr) (c1 c2 d1 d2 : Nat) (h1 : SlE w (Old w) (.slice a1 m.es.length c1) m.es) (h2 : SlE w (Old w) (.slice a2 m.es.length c2) m.es) (g1 : SlL w (Old w) (.slice b1 m.cs.length d1) m.cs) (g2 : SlL w (Old w) (.slice b2 m.cs.length d2) m.cs) :
  Calls Tryz.prog 17 #[.agg (mdC m.vr (.slice a1 m.es.length c1) (.slice b1 m.cs.length d1)), .agg (mdC m.vr (.slice a2 m.es.length c2) (.slice b2 m.cs.length d2))] w fun e w' => e = .returned (.bool true) /\ Below w.heap.size w w' := by
 obtain ⟨vr, es, cs⟩ := m
 have hl := g1.len
 obtain ⟨L, HL⟩ : ∃ L, Hid (L = cs.length) := ⟨_, hid rfl⟩
 have hL2 : L <= 9223372036854775807 := by have := HL.out; simp only at hl; omega
 simp only at h1 h2 g1 g2 ⊢
 obtain ⟨W1, HW1⟩ : ∃ W, Hid (W = (w.alloc (.cells (mdC vr (.slice a1 es.length c1) (.slice b1 cs.length d1)) 25)).alloc (.cells (mdC vr (.slice a2 es.length c2) (.slice b2 cs.length d2)) 25)) := ⟨_, hid rfl⟩
 have HB1 : Hid (Below w.heap.size w W1) := hid (by rw [HW1.out]; exact z2w _ _ _)
 have HLE := hid (fun W (hb : Below w.heap.size w W) => like_any W a1 a2 c1 c2 es (h1.old hb) (h2.old hb))
 have H1 := hid (g1.old HB1.out)
 have H2 := hid (g2.old HB1.out)
 have HR1 : Hid (Row W1 w.heap.size 25 [.int .i64 vr, .slice a1 es.length c1, .slice b1 cs.length d1]) := hid (by rw [HW1.out]; exact (z01 w (mdC vr (.slice a1 es.length c1) (.slice b1 cs.length d1)) _).alloc _)
 have HR2 : Hid (Row W1 (w.heap.size + 1) 25 [.int .i64 vr, .slice a2 es.length c2, .slice b2 cs.length d2]) := hid (by
  rw [HW1.out]
  have h := z01 (w.alloc (.cells (mdC vr (.slice a1 es.length c1) (.slice b1 cs.length d1)) 25)) (mdC vr (.slice a2 es.length c2) (.slice b2 cs.length d2)) 25
  rwa [World.size_alloc] at h)
 obtain ⟨Le, HLe⟩ : ∃ L, Hid (L = es.length) := ⟨_, hid rfl⟩
 rw [<- HL.out] at H1 H2 HR1 HR2 HW1 ⊢
 rw [<- HLe.out] at HR1 HR2 HW1 HLE ⊢
 clear h1 h2 g1 g2 hl
 have r0 := HR1.out.cell (i := 0) rfl
 have r1 := HR1.out.cell (i := 1) rfl
 have r2 := HR1.out.cell (i := 2) rfl
 have s0 := HR2.out.cell (i := 0) rfl
 have s1 := HR2.out.cell (i := 1) rfl
 have s2 := HR2.out.cell (i := 2) rfl
 rw [HW1.out] at r0 r1 r2 s0 s1 s2
 go_enter Tryz.func17, Tryz.ntmps17
 go_wp2_with fail
 rw [<- HW1.out]
 clear r0 r1 r2 s0 s1 s2 HW1
 refine (HLE.out W1 HB1.out).mono ?_
 rintro e w2 ⟨rfl, hb2⟩
 have HB2 := hid (z00 HB1.out hb2)
 have HK1 := hid (H1.out.old hb2)
 have HK2 := hid (H2.out.old hb2)
 have HS1 := hid (HR1.out.below hb2)
 have HS2 := hid (HR2.out.below hb2)
 clear hb2 HLE
 have r2 := HS1.out.cell (i := 2) rfl
 go_wp2
 clear r2
 go_loopw [31] (fun i wr => ∃ k m : Nat, k <= L /\ i = .int .i64 k /\ wr = w2.drewN m) (fun i _ => L - (intOf i).toNat)
 case atStart => exact ⟨0, 0, by omega, rfl, rfl⟩
 case round =>
  obtain ⟨k, m, hk, rfl, rfl⟩ := hrel
  by_cases hlt : k < L
  ·obtain ⟨x, hx⟩ : ∃ x, cs[k]? = some x := ⟨_, List.getElem?_eq_getElem (by have := HL.out; omega)⟩
   obtain ⟨p1, o1, rfl, hb1, i1, i2, i3, i4⟩ := HK1.out.get hx
   obtain ⟨p2, o2, rfl, hb2, j1, j2, j3, j4⟩ := HK2.out.get hx
   have r2 := HS1.out.cell (i := 2) rfl
   have s2 := HS2.out.cell (i := 2) rfl
   have hne := neqL
   have hgd := guardL
   obtain ⟨x0, x1, x2, x3⟩ := x
   simp only at i1 i2 i3 i4 j1 j2 j3 j4
   clear hx
   go_wp2
   go_quiet (fail)
   go_wp2
   go_roundw
   case rel => exact ⟨k + 1, _, by omega, by go_num, rfl⟩
   case measure => simp [intOf]; omega
  ·go_wp2
   go_ret
   exact ⟨rfl, z09 HB2.out m⟩
theorem zb4 (w : World) : Calls Tryz.prog 16 #[] w fun e w' => e = .returned (.bool true) /\ Below w.heap.size w w' := by
 have HM := hid (fun W b c => z3j W ⟨1, 1, [⟨false, ⟨⟨#[]⟩, ⟨#[]⟩, ⟨#[]⟩⟩⟩]⟩ b c)
 simp only [List.length_singleton] at HM
 go_enter Tryz.func16, Tryz.ntmps16
 go_wp2_with fail
 refine (HM.out _ _ _).mono ?_
 rintro e w2 ⟨rfl, hb⟩
 have HB := hid (z00 (z04 _ _) hb)
 clear hb
 go_wp2
 go_ret
 exact ⟨by rfl, HB.out⟩
theorem do_any (w : World) (m : Mdl) (ae : Option Addr) (ce : Nat) (ac : Option Addr) (cc : Nat) (c : Cmd) (b : Option Addr) (capc : Nat) (hE : SlE w (Old w) (.slice ae m.es.length ce) m.es) (hC : SlL w (Old w) (.slice ac m.cs.length cc) m.cs) (hF : ∀ x, x ∈ m.es -> FitE x) (hV : EnvC w) (hH : SlH w (Old w) (.slice b c.ch.length capc) c.ch) (hFC : ∀ x, x ∈ c.ch -> FitE x.e) :
  Calls Tryz.prog 11 #[.agg (mdC m.vr (.slice ae m.es.length ce) (.slice ac m.cs.length cc)), .agg #[.int .i64 c.cl, .int .i64 c.sq, .slice b c.ch.length capc]] w (DoP m c w) := by
 by_cases hR : RgtM m
 ·cases hM : mayC c with
  | true => exact do_yes w m ae ce ac cc c b capc hE hC hF hV hR hM hH hFC
  | false => exact do_no w m ae ce ac cc c b capc hE hC hF hV (fun h => by rw [hM] at h; cases h.2)
 ·exact do_no w m ae ce ac cc c b capc hE hC hF hV (fun h => hR h.1)
end Go.Proofs.YtdkkkeoicekdgaaGreatDoor.Md

end

section

namespace Go.Proofs.YtdkkkeoicekdgaaGreatDoor.Md
open Go.RowKit Go.Maps Go.WideShapes Go.WideMaps Go.Proofs.YtdkkkeoicekdgaaGreatDoor Go.Proofs.YtdkkkeoicekdgaaGreatDoor.Ca
theorem two_box (u : World) (v : Int) (ve vc : Value) (r : Cli) :
  StoM ((u.alloc (.cells #[.int .i64 0, .slice none 0 0, .slice none 0 0] 25)).alloc (.cells #[.int .i64 0, .int .i64 0, .int .i64 0, .int .i64 0] 32)) u.heap.size (u.heap.size + 1) v ve vc r /\
  Row (putT (putM ((u.alloc (.cells #[.int .i64 0, .slice none 0 0, .slice none 0 0] 25)).alloc (.cells #[.int .i64 0, .int .i64 0, .int .i64 0, .int .i64 0] 32)) u.heap.size v ve vc) (u.heap.size + 1) r.id r.sq r.an r.vr) u.heap.size 25 [.int .i64 v, ve, vc] /\
  Row (putT (putM ((u.alloc (.cells #[.int .i64 0, .slice none 0 0, .slice none 0 0] 25)).alloc (.cells #[.int .i64 0, .int .i64 0, .int .i64 0, .int .i64 0] 32)) u.heap.size v ve vc) (u.heap.size + 1) r.id r.sq r.an r.vr) (u.heap.size + 1) 32 [.int .i64 r.id, .int .i64 r.sq, .int .i64 r.an, .int .i64 r.vr] /\
  Below u.heap.size u (putT (putM ((u.alloc (.cells #[.int .i64 0, .slice none 0 0, .slice none 0 0] 25)).alloc (.cells #[.int .i64 0, .int .i64 0, .int .i64 0, .int .i64 0] 32)) u.heap.size v ve vc) (u.heap.size + 1) r.id r.sq r.an r.vr) := by
 have h1 : Row ((u.alloc (.cells #[.int .i64 0, .slice none 0 0, .slice none 0 0] 25)).alloc (.cells #[.int .i64 0, .int .i64 0, .int .i64 0, .int .i64 0] 32)) u.heap.size 25 [.int .i64 0, .slice none 0 0, .slice none 0 0] := (z01 u #[.int .i64 0, .slice none 0 0, .slice none 0 0] _).alloc _
 have h2 : Row ((u.alloc (.cells #[.int .i64 0, .slice none 0 0, .slice none 0 0] 25)).alloc (.cells #[.int .i64 0, .int .i64 0, .int .i64 0, .int .i64 0] 32)) (u.heap.size + 1) 32 [.int .i64 0, .int .i64 0, .int .i64 0, .int .i64 0] := by
  have h := z01 (u.alloc (.cells #[.int .i64 0, .slice none 0 0, .slice none 0 0] 25)) #[.int .i64 0, .int .i64 0, .int .i64 0, .int .i64 0] 32
  rwa [World.size_alloc] at h
 have s := z8d h1 h2 (by omega) v ve vc r
 have b1 := z28 ((u.alloc (.cells #[.int .i64 0, .slice none 0 0, .slice none 0 0] 25)).alloc (.cells #[.int .i64 0, .int .i64 0, .int .i64 0, .int .i64 0] 32)) u.heap.size v ve vc
 have b2 := z0z (putM ((u.alloc (.cells #[.int .i64 0, .slice none 0 0, .slice none 0 0] 25)).alloc (.cells #[.int .i64 0, .int .i64 0, .int .i64 0, .int .i64 0] 32)) u.heap.size v ve vc) (u.heap.size + 1) r.id r.sq r.an r.vr
 refine ⟨s, ?_, ?_, s.bl u.heap.size (Nat.le_refl _) (by omega) u (z2w u _ _)⟩
 ·exact (z3f h1 v ve vc).keep (b2.block _ (by omega))
 ·exact z66 (h2.keep (b1.block _ (by omega))) r.id r.sq r.an r.vr
theorem doy_any (w : World) (m : Mdl) (ae : Option Addr) (ce : Nat) (ac : Option Addr) (cc : Nat) (c : Cmd) (b : Option Addr) (capc : Nat) (hE : SlE w (Old w) (.slice ae m.es.length ce) m.es) (hC : SlL w (Old w) (.slice ac m.cs.length cc) m.cs) (hV : EnvC w) (hH : SlH w (Old w) (.slice b c.ch.length capc) c.ch) (hFC : ∀ x, x ∈ c.ch -> FitE x.e) (hR : RgtM m) (hM : mayC c = true) :
  Calls Tryz.prog 11 #[.agg (mdC m.vr (.slice ae m.es.length ce) (.slice ac m.cs.length cc)), .agg #[.int .i64 c.cl, .int .i64 c.sq, .slice b c.ch.length capc]] w fun e w' => ∃ ae ce ac cc, e = .returned (.tuple #[.agg (mdC (doF m c).1.vr (.slice ae (doF m c).1.es.length ce) (.slice ac (doF m c).1.cs.length cc)), clV (doF m c).2, .int .i64 0]) /\ SlE w' (Old w') (.slice ae (doF m c).1.es.length ce) (doF m c).1.es /\ SlL w' (Old w') (.slice ac (doF m c).1.cs.length cc) (doF m c).1.cs /\ Below w.heap.size w w' := by
 refine (do_any w m ae ce ac cc c b capc hE hC (z6f (z0u hR.es)) hV hH hFC).mono ?_
 rintro e w' (⟨h, -⟩ | ⟨-, -, h⟩)
 ·exact absurd ⟨hR, hM⟩ h
 ·exact h
end Go.Proofs.YtdkkkeoicekdgaaGreatDoor.Md

end

section

namespace Go.Proofs.YtdkkkeoicekdgaaGreatDoor.Md
open Go.RowKit Go.Maps Go.WideShapes Go.WideMaps Go.Proofs.YtdkkkeoicekdgaaGreatDoor Go.Proofs.YtdkkkeoicekdgaaGreatDoor.Ca
structure TK (w : World) (X Y Z : Nat) (m : Mdl) (c : Cli) (ae : Option Addr) (ce : Nat) (ac : Option Addr) (cc : Nat) (W : World) : Prop where
 rm : Row W X 25 [.int .i64 m.vr, .slice ae m.es.length ce, .slice ac m.cs.length cc]
 rc : Row W Y 32 [.int .i64 c.id, .int .i64 c.sq, .int .i64 c.an, .int .i64 c.vr]
 sl : SlL W (fun b => b < w.heap.size) (.slice ac m.cs.length cc) m.cs
 below : Below w.heap.size w W
 rz : Row W Z 25 [.int .i64 0, .slice none 0 0, .slice none 0 0]
 hX : w.heap.size <= X
 hY : w.heap.size <= Y
 hZ : w.heap.size <= Z
theorem TK.step {w W W' : World} {X Y Z : Nat} {m : Mdl} {c : Cli} {ae : Option Addr} {ce : Nat} {ac : Option Addr} {cc : Nat} (h : TK w X Y Z m c ae ce ac cc W) (hb : Below W.heap.size W W') : TK w X Y Z m c ae ce ac cc W' :=
 ⟨h.rm.below hb, h.rc.below hb, Sl.keep h.sl (fun b hb2 => hb.block b (Nat.lt_of_lt_of_le hb2 h.below.size)) (fun _ h => h) (fun _ _ h => h), z00 h.below hb, h.rz.below hb, h.hX, h.hY, h.hZ⟩
theorem TK.fr {w W W' : World} {X Y Z : Nat} {m : Mdl} {c : Cli} {ae : Option Addr} {ce : Nat} {ac : Option Addr} {cc : Nat} {r : Option Nat} (h : TK w X Y Z m c ae ce ac cc W) (hg : W.grownBy W' r) (hr : ∀ g, r = some g -> w.heap.size <= g /\ g ≠ X /\ g ≠ Y /\ g ≠ Z) : TK w X Y Z m c ae ce ac cc W' :=
 ⟨h.rm.keep (hg.block X h.rm.lt (fun e => (hr X e.symm).2.1 rfl)), h.rc.keep (hg.block Y h.rc.lt (fun e => (hr Y e.symm).2.2.1 rfl)), Sl.keep h.sl (fun b hb2 => hg.block b (Nat.lt_of_lt_of_le hb2 h.below.size) (fun e => by have := (hr b e.symm).1; have hb3 : b < w.heap.size := hb2; omega)) (fun _ h => h) (fun _ _ h => h),
  ⟨hg.os.trans h.below.os, hg.tape.trans h.below.tape, hg.output.trans h.below.output, Nat.le_trans h.below.size hg.size, fun k hk => (hg.block k (Nat.lt_of_lt_of_le hk h.below.size) (fun e => by have := (hr k e.symm).1; omega)).trans (h.below.block k hk)⟩, h.rz.keep (hg.block Z h.rz.lt (fun e => (hr Z e.symm).2.2.2 rfl)), h.hX, h.hY, h.hZ⟩
end Go.Proofs.YtdkkkeoicekdgaaGreatDoor.Md

end
