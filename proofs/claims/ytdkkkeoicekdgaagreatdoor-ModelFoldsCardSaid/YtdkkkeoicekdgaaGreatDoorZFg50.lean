/- The document's Like of models; few, alive; Do at every model and command. -/
import Derived.Test.YtdkkkeoicekdgaaGreatDoorZFMdy

section

namespace Go.Proofs.YtdkkkeoicekdgaaGreatDoor.Md
set_option maxHeartbeats 3200000
set_option maxRecDepth 100000
open Go.Lib (hid)
open Go.RowKit Go.Maps Go.WideShapes Go.WideMaps Go.Proofs.YtdkkkeoicekdgaaGreatDoor Go.Proofs.YtdkkkeoicekdgaaGreatDoor.Ca
theorem neqL (w : World) (a b c d : Int) : (binOp .neq 32 (.agg #[.int .i64 a, .int .i64 b, .int .i64 c, .int .i64 d]) (.agg #[.int .i64 a, .int .i64 b, .int .i64 c, .int .i64 d])).run Tryz.prog w = .ok (.bool false) w := by
 have hS : Tryz.prog.underlying 32 = some (.struct (Tryz.prog.fieldsOf 32)) := by kernel_rfl
 have hp : Tryz.prog.stoodInHeld 32 = false := by kernel_rfl
 have u3 := Tryz.underlying3;have a3 := Tryz.isAgg3;have z3 := Tryz.sizeOf3;rw [run_neq_struct, show (10000 : Nat) = 9999 + 1 from rfl, run_equalIn_agg w 9999 32 _ _ hS hp];simp only [Program.fieldsOf, Tryz.underlying32]
 go_simp
theorem guardL : Tryz.prog.eqGuardType Tryz.prog.depth 32 = false := by kernel_rfl
theorem zaq (w : World) (m : Mdl) (a1 a2 b1 b2 : Option Addr) (c1 c2 d1 d2 : Nat) (h1 : SlE w (Old w) (.slice a1 m.es.length c1) m.es) (h2 : SlE w (Old w) (.slice a2 m.es.length c2) m.es) (g1 : SlL w (Old w) (.slice b1 m.cs.length d1) m.cs) (g2 : SlL w (Old w) (.slice b2 m.cs.length d2) m.cs) :
  Calls Tryz.prog 17 #[.agg (mdC m.vr (.slice a1 m.es.length c1) (.slice b1 m.cs.length d1)), .agg (mdC m.vr (.slice a2 m.es.length c2) (.slice b2 m.cs.length d2))] w fun e w' => e = .returned (.bool true) /\ Below w.heap.size w w' := by
 obtain ⟨vr, es, cs⟩ := m;have hl := g1.len;obtain ⟨L, HL⟩ := nmd (cs.length)
 have r : L <= 9223372036854775807 := by have := HL.out; simp only at hl; omega
 simp only at h1 h2 g1 g2 ⊢;obtain ⟨W1, a⟩ := nmd ((w.alloc (.cells (mdC vr (.slice a1 es.length c1) (.slice b1 cs.length d1)) 25)).alloc (.cells (mdC vr (.slice a2 es.length c2) (.slice b2 cs.length d2)) 25));have f : Hid (Below w.heap.size w W1) := hid (by rw [a.out]; exact z3p _ _ _);have g := hid (fun W (hb : Below w.heap.size w W) => like_any W a1 a2 c1 c2 es (h1.old hb) (h2.old hb));have H1 := hid (g1.old f.out);have H2 := hid (g2.old f.out);have c : Hid (Row W1 w.heap.size 25 [.int .i64 vr, .slice a1 es.length c1, .slice b1 cs.length d1]) := hid (by rw [a.out]; exact (z02 w (mdC vr (.slice a1 es.length c1) (.slice b1 cs.length d1)) _).alloc _)
 have d : Hid (Row W1 (w.heap.size + 1) 25 [.int .i64 vr, .slice a2 es.length c2, .slice b2 cs.length d2]) := hid (by
  rw [a.out];have h := z02 (w.alloc (.cells (mdC vr (.slice a1 es.length c1) (.slice b1 cs.length d1)) 25)) (mdC vr (.slice a2 es.length c2) (.slice b2 cs.length d2)) 25
  rwa [World.size_alloc] at h)
 obtain ⟨Le, l⟩ := nmd (es.length);rw [<- HL.out] at H1 H2 c d a ⊢;rw [<- l.out] at c d a g ⊢;clear h1 h2 g1 g2 hl;have r0 := c.out.c0;have r1 := c.out.c1;have r2 := c.out.c2;have s0 := d.out.c0;have s1 := d.out.c1;have s2 := d.out.c2;rw [a.out] at r0 r1 r2 s0 s1 s2
 go_enter Tryz.func17, Tryz.ntmps17
 go_wp2_with fail
 rw [<- a.out];clear r0 r1 r2 s0 s1 s2 a;refine (g.out W1 f.out).mono ?_;rintro e w2 ⟨rfl, b⟩;have n := hid (z00 f.out b);have o := hid (H1.out.old b);have p := hid (H2.out.old b);have j := hid (c.out.below b);have q := hid (d.out.below b);clear b g;have r2 := j.out.c2;go_wp2;clear r2
 go_loopw [31] (fun i wr => ∃ k m : Nat, k <= L /\ i = .int .i64 k /\ wr = w2.drewN m) (fun i _ => L - (intOf i).toNat)
 case atStart => exact ⟨0, 0, by omega, rfl, rfl⟩
 case round =>
  obtain ⟨k, m, hk, rfl, rfl⟩ := hrel
  by_cases hlt : k < L
  ·obtain ⟨x, hx⟩ : ∃ x, cs[k]? = some x := ⟨_, List.getElem?_eq_getElem (by have := HL.out; omega)⟩
   obtain ⟨p1, o1, rfl, s, i1, i2, i3, i4⟩ := o.out.get hx;obtain ⟨p2, o2, rfl, b, j1, j2, j3, j4⟩ := p.out.get hx;have r2 := j.out.c2;have s2 := q.out.c2;have t := neqL;have u := guardL;obtain ⟨x0, x1, x2, x3⟩ := x;simp only at i1 i2 i3 i4 j1 j2 j3 j4;clear hx;go_wp2
   go_quiet (fail)
   go_wp2;go_roundw
   case rel => exact ⟨k + 1, _, by omega, by go_num, rfl⟩
   case measure => simp [intOf]; omega
  ·go_wp2
   go_ret;exact ⟨rfl, z0f n.out m⟩
theorem zfq (w : World) : Calls Tryz.prog 16 #[] w fun e w' => e = .returned (.bool true) /\ Below w.heap.size w w' := by
 have HM := hid (fun W b c => zan W ⟨1, 1, [⟨false, ⟨⟨#[]⟩, ⟨#[]⟩, ⟨#[]⟩⟩⟩]⟩ b c);simp only [List.length_singleton] at HM
 go_enter Tryz.func16, Tryz.ntmps16
 go_wp2_with fail
 refine (HM.out _ _ _).mono ?_;rintro e w2 ⟨rfl, hb⟩;have HB := hid (z00 (z04 _ _) hb);clear hb;go_wp2;go_ret;exact ⟨by rfl, HB.out⟩
end Go.Proofs.YtdkkkeoicekdgaaGreatDoor.Md

end

section

namespace Go.Proofs.YtdkkkeoicekdgaaGreatDoor.Md
open Go.RowKit Go.Maps Go.WideShapes Go.WideMaps Go.Proofs.YtdkkkeoicekdgaaGreatDoor Go.Proofs.YtdkkkeoicekdgaaGreatDoor.Ca
theorem two_box (u : World) (v : Int) (ve vc : Value) (r : Cli) :
  StoM ((u.alloc (.cells #[.int .i64 0, .slice none 0 0, .slice none 0 0] 25)).alloc (.cells #[.int .i64 0, .int .i64 0, .int .i64 0, .int .i64 0] 32)) u.heap.size (u.heap.size + 1) v ve vc r /\
  Row (putT (putM ((u.alloc (.cells #[.int .i64 0, .slice none 0 0, .slice none 0 0] 25)).alloc (.cells #[.int .i64 0, .int .i64 0, .int .i64 0, .int .i64 0] 32)) u.heap.size v ve vc) (u.heap.size + 1) r.id r.sq r.an r.vr) u.heap.size 25 [.int .i64 v, ve, vc] /\
  Row (putT (putM ((u.alloc (.cells #[.int .i64 0, .slice none 0 0, .slice none 0 0] 25)).alloc (.cells #[.int .i64 0, .int .i64 0, .int .i64 0, .int .i64 0] 32)) u.heap.size v ve vc) (u.heap.size + 1) r.id r.sq r.an r.vr) (u.heap.size + 1) 32 [.int .i64 r.id, .int .i64 r.sq, .int .i64 r.an, .int .i64 r.vr] /\
  Below u.heap.size u (putT (putM ((u.alloc (.cells #[.int .i64 0, .slice none 0 0, .slice none 0 0] 25)).alloc (.cells #[.int .i64 0, .int .i64 0, .int .i64 0, .int .i64 0] 32)) u.heap.size v ve vc) (u.heap.size + 1) r.id r.sq r.an r.vr) := by
 have h1 : Row ((u.alloc (.cells #[.int .i64 0, .slice none 0 0, .slice none 0 0] 25)).alloc (.cells #[.int .i64 0, .int .i64 0, .int .i64 0, .int .i64 0] 32)) u.heap.size 25 [.int .i64 0, .slice none 0 0, .slice none 0 0] := (z02 u #[.int .i64 0, .slice none 0 0, .slice none 0 0] _).alloc _
 have h2 : Row ((u.alloc (.cells #[.int .i64 0, .slice none 0 0, .slice none 0 0] 25)).alloc (.cells #[.int .i64 0, .int .i64 0, .int .i64 0, .int .i64 0] 32)) (u.heap.size + 1) 32 [.int .i64 0, .int .i64 0, .int .i64 0, .int .i64 0] := by
  have h := z02 (u.alloc (.cells #[.int .i64 0, .slice none 0 0, .slice none 0 0] 25)) #[.int .i64 0, .int .i64 0, .int .i64 0, .int .i64 0] 32
  rwa [World.size_alloc] at h
 have s := z6r h1 h2 (by omega) v ve vc r;have b1 := z11 ((u.alloc (.cells #[.int .i64 0, .slice none 0 0, .slice none 0 0] 25)).alloc (.cells #[.int .i64 0, .int .i64 0, .int .i64 0, .int .i64 0] 32)) u.heap.size v ve vc;have b2 := z1d (putM ((u.alloc (.cells #[.int .i64 0, .slice none 0 0, .slice none 0 0] 25)).alloc (.cells #[.int .i64 0, .int .i64 0, .int .i64 0, .int .i64 0] 32)) u.heap.size v ve vc) (u.heap.size + 1) r.id r.sq r.an r.vr;refine ⟨s, ?_, ?_, s.bl u.heap.size (Nat.le_refl _) (by omega) u (z3p u _ _)⟩
 ·exact (z2i h1 v ve vc).keep (b2.block _ (by omega))
 ·exact z8u (h2.keep (b1.block _ (by omega))) r.id r.sq r.an r.vr
end Go.Proofs.YtdkkkeoicekdgaaGreatDoor.Md

end

section

namespace Go.Proofs.YtdkkkeoicekdgaaGreatDoor.Md
open Go.Lib (hid)
open Go.RowKit Go.Maps Go.WideShapes Go.WideMaps Go.Proofs.YtdkkkeoicekdgaaGreatDoor Go.Proofs.YtdkkkeoicekdgaaGreatDoor.Ca
def tolF (c : Cli) : Bool -> List Cli -> List Cli
 | put, [] => if put then [] else [c]
 | put, x :: r => if x.id = c.id then (if put then tolF c true r else c :: tolF c true r) else if put = false /\ c.id <= x.id then c :: x :: tolF c true r else x :: tolF c put r
theorem z8l {c : Cli} : ∀ {l : List Cli}, (∀ x, x ∈ l -> x.id ≠ c.id) -> tolF c true l = l
 | [], _ => rfl
 | x :: r, h => by
  rw [tolF, if_neg (h x (by simp)), if_neg (by simp), z8l (fun y hy => h y (by simp [hy]))]
theorem zfv {c : Cli} : ∀ {l : List Cli}, SrtC l -> tolF c false l = putL c l
 | [], _ => rfl
 | x :: r, h => by
  unfold SrtC at h
  rw [List.pairwise_cons] at h;rw [tolF, putL]
  by_cases h1 : x.id < c.id
  ·rw [if_neg (by omega), if_neg (by omega), if_pos h1, zfv h.2]
  ·rw [if_neg h1]
   by_cases h2 : x.id = c.id
   ·rw [if_pos h2, if_pos h2, z8l (fun y hy => by have := h.1 y hy; omega)]; rfl
   ·rw [if_neg h2, if_neg h2, if_pos ⟨rfl, by omega⟩, z8l (fun y hy => by have := h.1 y hy; omega)]
theorem tol_at {c : Cli} {put : Bool} {l : List Cli} {k : Nat} {x : Cli} (hx : l[k]? = some x) : tolF c put (l.drop k) = if x.id = c.id then (if put then tolF c true (l.drop (k + 1)) else c :: tolF c true (l.drop (k + 1))) else if put = false /\ c.id <= x.id then c :: x :: tolF c true (l.drop (k + 1)) else x :: tolF c put (l.drop (k + 1)) := by
 obtain ⟨h1, h2⟩ := List.getElem?_eq_some_iff.1 hx;rw [List.drop_eq_getElem_cons h1, h2, tolF]
theorem tol_end {c : Cli} {put : Bool} {l : List Cli} {k : Nat} (h : l.length <= k) : tolF c put (l.drop k) = if put then [] else [c] := by
 rw [List.drop_of_length_le h, tolF]
structure TK (w : World) (X Y Z : Nat) (m : Mdl) (c : Cli) (ae : Option Addr) (ce : Nat) (ac : Option Addr) (cc : Nat) (W : World) : Prop where
 rm : Row W X 25 [.int .i64 m.vr, .slice ae m.es.length ce, .slice ac m.cs.length cc]
 rc : Row W Y 32 [.int .i64 c.id, .int .i64 c.sq, .int .i64 c.an, .int .i64 c.vr]
 sl : SlL W (fun b => b < w.heap.size) (.slice ac m.cs.length cc) m.cs
 below : Below w.heap.size w W
 rz : Row W Z 25 [.int .i64 0, .slice none 0 0, .slice none 0 0]
 hX : w.heap.size <= X
 hY : w.heap.size <= Y
 hZ : w.heap.size <= Z
theorem TK.step {w W W' : World} {X Y Z : Nat} {m : Mdl} {c : Cli} {ae : Option Addr} {ce : Nat} {ac : Option Addr} {cc : Nat} (h : TK w X Y Z m c ae ce ac cc W) (hb : Below W.heap.size W W') : TK w X Y Z m c ae ce ac cc W' :=
 ⟨h.rm.below hb, h.rc.below hb, Sl.keep h.sl (fun b hb2 => hb.block b (Nat.lt_of_lt_of_le hb2 h.below.size)) (fun _ h => h) (fun _ _ h => h), z00 h.below hb, h.rz.below hb, h.hX, h.hY, h.hZ⟩
theorem TK.fr {w W W' : World} {X Y Z : Nat} {m : Mdl} {c : Cli} {ae : Option Addr} {ce : Nat} {ac : Option Addr} {cc : Nat} {r : Option Nat} (h : TK w X Y Z m c ae ce ac cc W) (hg : W.grownBy W' r) (hr : ∀ g, r = some g -> w.heap.size <= g /\ g ≠ X /\ g ≠ Y /\ g ≠ Z) : TK w X Y Z m c ae ce ac cc W' :=
 ⟨h.rm.keep (hg.block X h.rm.lt (fun e => (hr X e.symm).2.1 rfl)), h.rc.keep (hg.block Y h.rc.lt (fun e => (hr Y e.symm).2.2.1 rfl)), Sl.keep h.sl (fun b hb2 => hg.block b (Nat.lt_of_lt_of_le hb2 h.below.size) (fun e => by have := (hr b e.symm).1; have a : b < w.heap.size := hb2; omega)) (fun _ h => h) (fun _ _ h => h),
  ⟨hg.os.trans h.below.os, hg.tape.trans h.below.tape, hg.output.trans h.below.output, Nat.le_trans h.below.size hg.size, fun k hk => (hg.block k (Nat.lt_of_lt_of_le hk h.below.size) (fun e => by have := (hr k e.symm).1; omega)).trans (h.below.block k hk)⟩, h.rz.keep (hg.block Z h.rz.lt (fun e => (hr Z e.symm).2.2.2 rfl)), h.hX, h.hY, h.hZ⟩
theorem one_cl {W : World} {b : Nat} {t : TypeId} {y : Cli} (h : Row W b t [.int .i64 y.id, .int .i64 y.sq, .int .i64 y.an, .int .i64 y.vr]) : SlL W (Old W) (.slice (some ⟨b, 0, none⟩) 1 1) [y] :=
 ⟨_, _, rfl, Nat.le_refl _, by omega, fun _ => ⟨b, 0, rfl, h.lt, fun j x hj => by
  cases j with
  | zero =>
   obtain rfl : y = x := by simpa using hj
   exact ⟨_, rfl, rfl, fun i u hu => by have := h.cell hu; simpa using this⟩
  | succ j => simp at hj⟩⟩
theorem zbf {w W : World} {B : Nat} {X Y Z : Nat} {m : Mdl} {c : Cli} {ae : Option Addr} {ce : Nat} {ac : Option Addr} {cc : Nat} {v : Value} {out : List Cli} (hk : TK w X Y Z m c ae ce ac cc W) (ho : OwnL W B v out) (hB : w.heap.size <= B) (hXB : X < B) (hYB : Y < B) (hZB : Z < B) (hBW : B <= W.heap.size) (hl : out.length <= 1000) (y : Cli) :
  ∃ v' w', Hid ((Builtin.append_ #[23, 23] 23 #[v, .slice (some ⟨W.heap.size, 0, none⟩) 1 1]).run Tryz.prog (W.alloc (.cells (clC y) 32)) = .ok v' w') /\ Hid (OwnL w' B v' (out ++ [y])) /\ Hid (TK w X Y Z m c ae ce ac cc w') /\ W.heap.size + 1 <= w'.heap.size /\ Hid (∀ b, b < W.heap.size + 1 -> v.ownBlock ≠ some b -> w'.heap[b]? = (W.alloc (.cells (clC y) 32)).heap[b]?) := by
 have hb := z04 W (.cells (clC y) 32);obtain ⟨v', w', hr, h2, h3, -⟩ := z3a (W.alloc (.cells (clC y) 32)) 23 B v out (z0m ho hb) (some ⟨W.heap.size, 0, none⟩) 1 [y] (one_cl (z02 W (clC y) 32)) (by simp; omega) (by rw [World.size_alloc]; omega);refine ⟨v', w', hid hr, hid h2, hid ((hk.step hb).fr h3 (fun g hg => ?_)), by have := h3.size; rw [World.size_alloc] at this; exact this, hid (fun b hb2 hne => h3.block b (by rw [World.size_alloc]; exact hb2) (fun e => hne e.symm))⟩;have := (ho.lt g hg).1;exact ⟨by omega, by omega, by omega, by omega⟩
end Go.Proofs.YtdkkkeoicekdgaaGreatDoor.Md

end
