/- Package code's Right, at a value that a reading made. -/
import Derived.Laws.EntriesVeiled
import Derived.Test.YtdkkkeoicekdgaaGreatDoorZEg33

section

namespace Go.Proofs.YtdkkkeoicekdgaaGreatDoor.Co
set_option maxHeartbeats 1600000
set_option maxRecDepth 100000
open Go.Lib (hid)
open Go.RowKit
mutual
def nodes : Tree -> Nat
 | .num _ => 1
 | .text _ => 1
 | .list ts => 1 + z0s ts
def z0s : List Tree -> Nat
 | [] => 0
 | t :: ts => nodes t + z0s ts
end
mutual
def vDeep : Nat -> Nat -> Tree -> Nat
 | d, lev, .num _ => max d lev
 | d, lev, .text _ => max d lev
 | d, lev, .list ts => z28 (max d lev) (lev + 1) ts
def z28 : Nat -> Nat -> List Tree -> Nat
 | d, _, [] => d
 | d, lev, t :: ts => z28 (vDeep d lev t) lev ts
end
mutual
def Lev : Nat -> Tree -> Prop
 | lev, .num _ => lev <= 30
 | lev, .text _ => lev <= 30
 | lev, .list ts => lev <= 30 /\ LevL (lev + 1) ts
def LevL : Nat -> List Tree -> Prop
 | _, [] => True
 | lev, t :: ts => Lev lev t /\ LevL lev ts
end
abbrev z1j (cb db fb vb : Nat) : Value := .func (.func 133) #[] #[.pointer (some ⟨cb, 0, none⟩), .pointer (some ⟨db, 0, none⟩), .pointer (some ⟨fb, 0, none⟩), .pointer (some ⟨vb, 0, none⟩)]
structure VEnv (cb db fb vb : Nat) (count deep : Nat) (w : World) : Prop where
 cnt : w.heap[cb]? = some (.cells #[.int .i64 count] 3 (0, 0))
 dep : w.heap[db]? = some (.cells #[.int .i64 deep] 3 (0, 0))
 frm : w.heap[fb]? = some (.cells #[.bool true] 4 (0, 0))
 vis : w.heap[vb]? = some (.cells #[z1j cb db fb vb] 181 (0, 0))
 ne : cb ≠ db
theorem z7v {w : World} {S : Nat -> Prop} (t : Tree) (v : Value) (h : Rep w S t v) (W : World) : Calls Tryz.prog 134 #[v] W fun e w' => e = .returned (.bool true) /\ Below W.heap.size W w' := by
 cases t with
 | num n =>
  rw [Rep] at h; subst h
  go_enter Tryz.func134, Tryz.ntmps134
  go_wp2;go_ret;exact ⟨rfl, z03 _ _⟩
 | text bs =>
  rw [Rep] at h; subst h
  go_enter Tryz.func134, Tryz.ntmps134
  go_wp2;go_ret;exact ⟨rfl, z03 _ _⟩
 | list ts =>
  rw [Rep] at h;obtain ⟨L, xs, rfl, ho, -, -⟩ := h
  obtain ⟨a, n, cap, rfl⟩ : ∃ a n cap, L = .slice a n cap := by
   rcases ho.2 with ⟨rfl, -⟩ | ⟨g, cap, cur, rfl, -⟩ <;> exact ⟨_, _, _, rfl⟩
  clear ho
  go_enter Tryz.func134, Tryz.ntmps134
  go_wp2;go_ret;exact ⟨rfl, z03 _ _⟩
def z4c (t : Tree) : Prop := ∀ (cb db fb vb count deep level : Nat) (w : World) (v : Value), VEnv cb db fb vb count deep w -> Rep w (S24 w) t v -> Lev level t -> count + nodes t <= 4000 -> deep <= 30 ->
 Calls Tryz.prog 133 #[v, .int .i64 level, .pointer (some ⟨cb, 0, none⟩), .pointer (some ⟨db, 0, none⟩), .pointer (some ⟨fb, 0, none⟩), .pointer (some ⟨vb, 0, none⟩)] w fun e w' =>
  e = .returned (.tuple #[]) /\ VEnv cb db fb vb (count + nodes t) (vDeep deep level t) w' /\ Fr (fun k => k = cb ∨ k = db) w w'
def kids : Tree -> List Tree
 | .list ts => ts
 | _ => []
theorem z4f (t : Tree) : nodes t = 1 + z0s (kids t) := by cases t <;> rw [nodes] <;> simp [kids, z0s]
theorem zf3 (d lev : Nat) (t : Tree) : vDeep d lev t = z28 (max d lev) (lev + 1) (kids t) := by cases t <;> rw [vDeep] <;> simp [kids, z28]
theorem lev_kids {lev : Nat} {t : Tree} (h : Lev lev t) : lev <= 30 /\ LevL (lev + 1) (kids t) := by
 cases t <;> rw [Lev] at h
 ·exact ⟨h, by simp [kids, LevL]⟩
 ·exact ⟨h, by simp [kids, LevL]⟩
 ·exact h
theorem z8w {w : World} {t : Tree} {v : Value} (h : Rep w (S24 w) t v) : ∃ (kd n0 : Int) (b0 : ByteArray) (a : Option Addr) (cap : Nat) (xs : List Value), v = .agg #[.int .i64 kd, .int .i64 n0, .string b0, .slice a (kids t).length cap] /\
  w.ownsRow 0 88 4 (.slice a (kids t).length cap) (kids t).length xs /\ z0i w (S24 w) (kids t) xs := by
 cases t with
 | num n => rw [Rep] at h; exact ⟨_, _, _, _, _, [], h, World.ownsRow_nil _ _ _ _, by simp [kids, z0i]⟩
 | text bs => rw [Rep] at h; exact ⟨_, _, _, _, _, [], h, World.ownsRow_nil _ _ _ _, by simp [kids, z0i]⟩
 | list ts =>
  rw [Rep] at h;obtain ⟨L, xs, rfl, ho, -, hr⟩ := h
  obtain ⟨a, n, cap, rfl, hn⟩ : ∃ a n cap, L = .slice a n cap /\ n = ts.length := by
   rcases ho.2 with ⟨rfl, h0⟩ | ⟨g, cap, cur, rfl, -⟩
   ·exact ⟨_, _, _, rfl, h0.symm⟩
   ·exact ⟨_, _, _, rfl, rfl⟩
  subst hn;exact ⟨_, _, _, a, cap, xs, rfl, ho, hr⟩
theorem z1s : ∀ (a b : List Tree), z0s (a ++ b) = z0s a + z0s b
 | [], b => by rw [z0s]; simp
 | t :: a, b => by
  show z0s (t :: (a ++ b)) = _
  rw [z0s, z0s, z1s a b, Nat.add_assoc]
theorem z56 : ∀ (a b : List Tree) (d lev : Nat), z28 d lev (a ++ b) = z28 (z28 d lev a) lev b
 | [], b, d, lev => by rw [z28]; simp
 | t :: a, b, d, lev => by
  show z28 d lev (t :: (a ++ b)) = _
  rw [z28, z28, z56 a b]
theorem z8p {ts : List Tree} {k : Nat} (h : k < ts.length) : ts.take (k + 1) = ts.take k ++ [ts[k]] := List.take_succ_eq_append_getElem h
theorem z7a (ts : List Tree) (k : Nat) : z0s (ts.take k) <= z0s ts := by
 have := z1s (ts.take k) (ts.drop k);rw [List.take_append_drop] at this
 omega
theorem z79 (t : Tree) : 1 <= nodes t := by rw [z4f]; omega
theorem z1x : ∀ ts : List Tree, ts.length <= z0s ts
 | [] => by simp
 | t :: ts => by
  rw [z0s, List.length_cons];have := z79 t;have := z1x ts
  omega
theorem ze0 : ∀ {ts : List Tree} {lev : Nat}, LevL lev ts -> ∀ t, t ∈ ts -> Lev lev t
 | [], _, _, t, ht => by cases ht
 | u :: ts, lev, h, t, ht => by
  rw [LevL] at h
  rcases List.mem_cons.1 ht with rfl | ht
  ·exact h.1
  ·exact ze0 h.2 t ht
mutual
theorem zd6 : ∀ (t : Tree) (d lev : Nat), Lev lev t -> d <= 30 -> vDeep d lev t <= 30
 | .num _, d, lev, h, hd => by rw [Lev] at h; rw [vDeep]; omega
 | .text _, d, lev, h, hd => by rw [Lev] at h; rw [vDeep]; omega
 | .list ts, d, lev, h, hd => by rw [Lev] at h; rw [vDeep]; exact z6v ts _ _ h.2 (by omega)
theorem z6v : ∀ (ts : List Tree) (d lev : Nat), LevL lev ts -> d <= 30 -> z28 d lev ts <= 30
 | [], d, lev, h, hd => by rw [z28]; exact hd
 | t :: ts, d, lev, h, hd => by rw [LevL] at h; rw [z28]; exact z6v ts _ _ h.2 (zd6 t d lev h.1 hd)
end
theorem zau : ∀ {ts : List Tree} {lev : Nat} (k : Nat), LevL lev ts -> LevL lev (ts.take k)
 | _, _, 0, _ => by simp [LevL]
 | [], _, k + 1, _ => by simp [LevL]
 | t :: ts, lev, k + 1, h => by rw [LevL] at h; simp only [List.take_succ_cons]; rw [LevL]; exact ⟨h.1, zau k h.2⟩
theorem VEnv.alloc {cb db fb vb count deep : Nat} {w : World} (h : VEnv cb db fb vb count deep w) (o : Obj) : VEnv cb db fb vb count deep (w.alloc o) :=
 ⟨(Below.heap_alloc _ _ _ (z04 h.cnt)).trans h.cnt, (Below.heap_alloc _ _ _ (z04 h.dep)).trans h.dep, (Below.heap_alloc _ _ _ (z04 h.frm)).trans h.frm, (Below.heap_alloc _ _ _ (z04 h.vis)).trans h.vis, h.ne⟩
theorem VEnv.below {cb db fb vb count deep : Nat} {w w' : World} (h : VEnv cb db fb vb count deep w) (hb : Below w.heap.size w w') : VEnv cb db fb vb count deep w' :=
 ⟨(hb.block _ (z04 h.cnt)).trans h.cnt, (hb.block _ (z04 h.dep)).trans h.dep, (hb.block _ (z04 h.frm)).trans h.frm, (hb.block _ (z04 h.vis)).trans h.vis, h.ne⟩
theorem VEnv.same {cb db fb vb count deep : Nat} {w w' : World} (h : VEnv cb db fb vb count deep w) (hb : ∀ k : Nat, w'.heap[k]? = w.heap[k]?) : VEnv cb db fb vb count deep w' :=
 ⟨(hb _).trans h.cnt, (hb _).trans h.dep, (hb _).trans h.frm, (hb _).trans h.vis, h.ne⟩
theorem z38 {w : World} {k j : Nat} {cs ds : Array Value} {t u : TypeId} {f g : Nat × Nat} (h : w.heap[k]? = some (.cells cs t f)) (h' : w.heap[j]? = some (.cells ds u g)) (ht : t ≠ u) : k ≠ j := by
 rintro rfl;rw [h] at h'
 injection h' with h'
 injection h' with _ h'
 exact ht h'
theorem VEnv.set {cb db fb vb count deep : Nat} {w : World} (h : VEnv cb db fb vb count deep w) (c' d' : Nat) : VEnv cb db fb vb c' d' ((w.setCell ⟨cb, 0, none⟩ (.int .i64 c')).setCell ⟨db, 0, none⟩ (.int .i64 d')) := by
 have n1 := z38 h.frm h.cnt (by decide);have n2 := z38 h.frm h.dep (by decide);have n3 := z38 h.vis h.cnt (by decide);have n4 := z38 h.vis h.dep (by decide);refine ⟨?_, ?_, ?_, ?_, h.ne⟩
 ·rw [Below.heap_setCell _ _ _ _ h.ne]; exact z2j h.cnt 0 _
 ·exact z2j ((Below.heap_setCell _ _ _ _ h.ne.symm).trans h.dep) 0 _
 ·rw [Below.heap_setCell _ _ _ _ n2, Below.heap_setCell _ _ _ _ n1]; exact h.frm
 ·rw [Below.heap_setCell _ _ _ _ n4, Below.heap_setCell _ _ _ _ n3]; exact h.vis
theorem z55 {t : Tree} (ht : ∀ u, u ∈ kids t -> z4c u) : z4c t := by
 intro cb db fb vb count deep level w v env c hlev hcn hd;obtain ⟨aQ, o⟩ := lev_kids hlev;have ay := hid (fun W => z7v t v c W);obtain ⟨kd, n0, b0, a, q, xs, rfl, l, G⟩ := z8w c;have T := z4f t;have aR := z1x (kids t)
 have az : (kids t).length <= 4000 := by omega
 have aS := z04 env.cnt;have aT := z04 env.dep;have aU := z04 env.frm;have aV := z04 env.vis;have U := cell_of_heap env.cnt;have V := cell_of_heap env.dep;have aA := cell_of_heap env.frm;have aB : w.frozen? ⟨cb, 0, none⟩ = false := frozen_of_heap env.cnt 0;have aC : w.frozen? ⟨db, 0, none⟩ = false := frozen_of_heap env.dep 0;have aZ := env.ne;have X : (w.setCell ⟨cb, 0, none⟩ (.int .i64 ((count : Int) + 1))).cell? ⟨db, 0, none⟩ = some (.int .i64 deep) := (World.cell?_setCell_other w _ _ _ (fun e => by injection e; omega)).trans V
 have r : VEnv cb db fb vb (count + 1) (max deep level) ((w.setCell ⟨cb, 0, none⟩ (.int .i64 ((count : Int) + 1))).setCell ⟨db, 0, none⟩ (.int .i64 (max (deep : Int) (level : Int)))) := by
  have := env.set (count + 1) (max deep level);rw [show ((max deep level : Nat) : Int) = max (deep : Int) (level : Int) from by omega] at this;exact this
 have H : Fr (fun k => k = cb ∨ k = db) w ((w.setCell ⟨cb, 0, none⟩ (.int .i64 ((count : Int) + 1))).setCell ⟨db, 0, none⟩ (.int .i64 (max (deep : Int) (level : Int)))) :=
  ((Fr.refl _ w).setCell (p := ⟨cb, 0, none⟩) (.inr (.inl rfl)) _).setCell (p := ⟨db, 0, none⟩) (.inr (.inr rfl)) _
 have Y : K24 w ((w.setCell ⟨cb, 0, none⟩ (.int .i64 ((count : Int) + 1))).setCell ⟨db, 0, none⟩ (.int .i64 (max (deep : Int) (level : Int)))) := fun g d e => by
  rw [Below.heap_setCell _ _ _ _ (z38 e env.dep (by decide)), Below.heap_setCell _ _ _ _ (z38 e env.cnt (by decide))]; exact e
 have Z := cell_of_heap r.frm
 have I : ((w.setCell ⟨cb, 0, none⟩ (.int .i64 ((count : Int) + 1))).setCell ⟨db, 0, none⟩ (.int .i64 (max (deep : Int) (level : Int)))).heap.size = w.heap.size := by simp [World.setCell]
 have aD := hid r;have aE := hid H;have aa := hid Y;have aF := hid I;have HT := hid ht;have HW := hid l;have HA := hid G;have HN := hid T;have HL := hid o;clear ht l G env c hlev T r H Y I o aA
 go_enter Tryz.func133, Tryz.ntmps133
 go_wp2_with fail
 generalize hW : (w.setCell ⟨cb, 0, none⟩ (.int .i64 ((count : Int) + 1))).setCell ⟨db, 0, none⟩ (.int .i64 (max (deep : Int) (level : Int))) = W2 at *
 clear hW X U V aB aC Z;refine (ay.out _).mono ?_;rintro e w3 ⟨rfl, n⟩;have m := (aD.out.alloc _).below n;have af := n.size;simp only [World.size_alloc] at af;have J := aF.out
 have s : w3.heap[w.heap.size]? = some (.cells #[.int .i64 kd, .int .i64 n0, .string b0, .slice a (kids t).length q] 88 (0, 0)) := by
  rw [n.block _ (by simp; omega), <- J]; exact heap_alloc_new _ _
 have aW := cell_of_heap m.frm;have aX : w3.frozen? ⟨fb, 0, none⟩ = false := frozen_of_heap m.frm 0
 have bc : w3.cell? ⟨w.heap.size, 3, none⟩ = some (.slice a (kids t).length q) := by simp [World.cell?, s]
 have f := za8 m.frm;have L := m.same f
 have M : Fr (fun k => k = cb ∨ k = db) w (w3.setCell ⟨fb, 0, none⟩ (.bool true)) := by
  have h := (aE.out.alloc _).trans (Fr.of_below n);exact ⟨h.os, h.tape, h.output, by simpa [World.setCell] using h.size, fun k hk hx => (f k).trans (h.block k hk hx)⟩
 have ag : K24 w (w3.setCell ⟨fb, 0, none⟩ (.bool true)) := fun g d e => (f g).trans ((n.block g (by have := z04 (aa.out g d e); simp; omega)).trans ((aa.out.alloc _) g d e))
 have x := (f w.heap.size).trans s
 have ah : (w3.setCell ⟨fb, 0, none⟩ (.bool true)).cell? ⟨w.heap.size, 3, none⟩ = some (.slice a (kids t).length q) := by simp [World.cell?, x]
 have aG := hid L;have aH := hid M;have aI := hid ag;clear m L M ag s x f n J;go_wp2
 generalize hW4 : w3.setCell ⟨fb, 0, none⟩ (.bool true) = w4 at *
 clear hW4 ah
 go_loopw [23] (fun i wr => ∃ k C D : Nat, k <= (kids t).length /\ C <= 4000 /\ i = .int .i64 k /\ Hid (C = count + 1 + z0s ((kids t).take k)) /\ Hid (D = z28 (max deep level) (level + 1) ((kids t).take k)) /\ Hid (VEnv cb db fb vb C D wr) /\ Hid (Fr (fun k => k = cb ∨ k = db) w wr) /\ Hid (K24 w wr)) (fun i _ => (kids t).length - (intOf i).toNat)
 case atStart => exact ⟨0, count + 1, max deep level, Nat.zero_le _, by have := z79 t; omega, rfl, hid (by simp [z0s]), hid (by simp [z28]), aG, aH, aI⟩
 case round =>
  obtain ⟨k, C, D, hk, bd, rfl, HC, HD, E, F, K⟩ := hrel
  by_cases hlt : k < (kids t).length
  ·obtain ⟨c0, c1, c2, c3, x0, x1, x2, x3, c⟩ := z0i.get (kids t) xs k (kids t)[k] HA.out (List.getElem?_eq_getElem hlt)
   obtain ⟨g, rfl⟩ : ∃ g, a = some ⟨g, 0, none⟩ := by
    rcases HW.out.2 with ⟨-, h0⟩ | ⟨g, q, d, hv, -⟩
    ·omega
    ·injection hv with hv; exact ⟨g, hv⟩
   have l := HW.out;have j : wr.ownsRow 0 88 4 (.slice (some ⟨g, 0, none⟩) (kids t).length q) (kids t).length xs := z0d l (fun g' hg' => by obtain ⟨d, hc⟩ := own24 l g' hg'; exact (K.out g' d hc).trans hc.symm);have ar : wr.cell? ⟨g, k * 4, none⟩ = some c0 := z1k j x0;have au : wr.cell? ⟨g, k * 4 + 1, none⟩ = some c1 := z1k j x1;have aw : wr.cell? ⟨g, k * 4 + 2, none⟩ = some c2 := z1k j x2;have ax : wr.cell? ⟨g, k * 4 + 3, none⟩ = some c3 := z1k j x3;have y := c.k24 K.out;obtain ⟨aJ, n1, b1, a1, ai, aj, b⟩ := Rep.cells _ _ c
   injection b with b
   injection b with b
   injection b with h0 b
   injection b with h1 b
   injection b with h2 b
   injection b with h3 b
   subst h0 h1 h2 h3;have aY : wr.cell? ⟨vb, 0, none⟩ = some (z1j cb db fb vb) := cell_of_heap E.out.vis;have U : wr.cell? ⟨cb, 0, none⟩ = some (.int .i64 C) := cell_of_heap E.out.cnt;have aK := z04 E.out.cnt;have aM := z04 E.out.vis;have aN := hid y;have O := z7a (kids t) (k + 1);rw [z8p hlt, z1s] at O;simp only [z0s] at O
   have aq : D <= 30 := by rw [HD.out]; exact z6v _ _ _ (zau k HL.out) (by omega)
   have N : C + nodes (kids t)[k] <= 4000 := by rw [HC.out]; rw [HN.out] at hcn; omega
   clear x0 x1 x2 x3 c y b l j O
   go_wp2_with fail
   have z := HT.out (kids t)[k] (List.getElem_mem hlt) cb db fb vb C D (level + 1) (wr.alloc (.cells #[.int .i64 aJ, .int .i64 n1, .string b1, .slice a1 ai aj] 88)) _ (E.out.alloc _) (aN.out.k24 ((K24.refl _).alloc _)) (ze0 HL.out _ (List.getElem_mem hlt)) N aq;refine Calls.mono z ?_;clear z;rintro e w5 ⟨rfl, A, B⟩;have E5 := hid A;have F5 := hid ((F.out.alloc _).trans B)
   have K5 : Hid (K24 w w5) := hid (fun g' d e => (B.block g' (by have := z04 (K.out g' d e); simp; omega) (by
    have h1 := z38 (K.out g' d e) E.out.cnt (by decide);have h2 := z38 (K.out g' d e) E.out.dep (by decide)
    omega)).trans ((K.out.alloc _) g' d e))
   clear A B;go_wp2;go_roundw
   case rel => exact ⟨k + 1, C + nodes (kids t)[k], vDeep D (level + 1) (kids t)[k], by omega, N, by go_num, hid (by rw [HC.out, z8p hlt, z1s]; simp [z0s]; omega), hid (by rw [HD.out, z8p hlt, z56]; simp [z28]), E5, F5, K5⟩
   case measure => simp [intOf]; omega
  ·have R : (kids t).take k = kids t := List.take_of_length_le (by omega)
   have aO : Hid (C = count + nodes t) := hid (by rw [HC.out, R, HN.out]; omega);have aP : Hid (D = vDeep deep level t) := hid (by rw [HD.out, R, zf3]);clear R;go_wp2
   go_end0
   exact ⟨rfl, by rw [<- aO.out, <- aP.out]; exact E.out, F.out⟩
mutual
theorem zd5 : ∀ t : Tree, z4c t
 | .num n => z55 (fun u hu => by cases hu)
 | .text bs => z55 (fun u hu => by cases hu)
 | .list ts => z55 (z9y ts)
theorem z9y : ∀ ts : List Tree, ∀ t, t ∈ ts -> z4c t
 | [], t, ht => by cases ht
 | u :: ts, t, ht => by
  rcases List.mem_cons.1 ht with h' | h'
  ·rw [h']; exact zd5 u
  ·exact z9y ts t h'
end

set_option maxHeartbeats 1600000
set_option maxRecDepth 100000
theorem Fr.to_below {X : Nat -> Prop} {B : Nat} {w W w1 : World} (hW : Below B w W) (hB : B <= W.heap.size) (hf : Fr X W w1) (hX : ∀ k, k < B -> ¬ X k) : Below B w w1 :=
 hW.trans ⟨hf.os, hf.tape, hf.output, hf.size, fun k hk => hf.block k (by omega) (hX k hk)⟩
theorem z5i {w : World} {o : Obj} {k : Nat} (h : k = w.heap.size) : (w.alloc o).heap[k]? = some o := by subst h; exact heap_alloc_new _ _
theorem z2f {w : World} {o x : Obj} {k : Nat} (h : k < w.heap.size) (hx : w.heap[k]? = some x) : (w.alloc o).heap[k]? = some x := (Below.heap_alloc _ _ _ h).trans hx
theorem five_get (w : World) (o0 o1 o2 o3 o4 : Obj) :
  (((((w.alloc o0).alloc o1).alloc o2).alloc o3).alloc o4).heap[w.heap.size]? = some o0 /\ (((((w.alloc o0).alloc o1).alloc o2).alloc o3).alloc o4).heap[w.heap.size + 1]? = some o1 /\ (((((w.alloc o0).alloc o1).alloc o2).alloc o3).alloc o4).heap[w.heap.size + 1 + 1]? = some o2 /\
  (((((w.alloc o0).alloc o1).alloc o2).alloc o3).alloc o4).heap[w.heap.size + 1 + 1 + 1]? = some o3 /\ (((((w.alloc o0).alloc o1).alloc o2).alloc o3).alloc o4).heap[w.heap.size + 1 + 1 + 1 + 1]? = some o4 := by
 exact ⟨(z2f (by simp only [World.size_alloc]; omega) (z2f (by simp only [World.size_alloc]; omega) (z2f (by simp only [World.size_alloc]; omega) (z2f (by simp only [World.size_alloc]; omega) (z5i rfl))))), (z2f (by simp only [World.size_alloc]; omega) (z2f (by simp only [World.size_alloc]; omega) (z2f (by simp only [World.size_alloc]; omega) (z5i (by first | rfl | simp only [World.size_alloc]))))), (z2f (by simp only [World.size_alloc]; omega) (z2f (by simp only [World.size_alloc]; omega) (z5i (by first | rfl | simp only [World.size_alloc])))), (z2f (by simp only [World.size_alloc]; omega) (z5i (by first | rfl | simp only [World.size_alloc]))), (z5i (by first | rfl | simp only [World.size_alloc]))⟩
theorem four_get (w : World) (o0 o1 o2 o3 : Obj) :
  ((((w.alloc o0).alloc o1).alloc o2).alloc o3).heap[w.heap.size]? = some o0 /\ ((((w.alloc o0).alloc o1).alloc o2).alloc o3).heap[w.heap.size + 1]? = some o1 /\ ((((w.alloc o0).alloc o1).alloc o2).alloc o3).heap[w.heap.size + 1 + 1]? = some o2 /\
  ((((w.alloc o0).alloc o1).alloc o2).alloc o3).heap[w.heap.size + 1 + 1 + 1]? = some o3 := by
 exact ⟨(z2f (by simp only [World.size_alloc]; omega) (z2f (by simp only [World.size_alloc]; omega) (z2f (by simp only [World.size_alloc]; omega) (z5i (by first | rfl | simp only [World.size_alloc]))))), (z2f (by simp only [World.size_alloc]; omega) (z2f (by simp only [World.size_alloc]; omega) (z5i (by first | rfl | simp only [World.size_alloc])))), (z2f (by simp only [World.size_alloc]; omega) (z5i (by first | rfl | simp only [World.size_alloc]))), (z5i (by first | rfl | simp only [World.size_alloc]))⟩
theorem zfl (w : World) (o0 o1 o2 o3 : Obj) : Below w.heap.size w ((((w.alloc o0).alloc o1).alloc o2).alloc o3) :=
 (((z03 _ _).alloc (by simp) _).alloc (by simp; omega) _).alloc (by simp; omega) _
theorem zfn (w : World) (o0 o1 o2 o3 o4 : Obj) : Below w.heap.size w (((((w.alloc o0).alloc o1).alloc o2).alloc o3).alloc o4) :=
 ((((z03 _ _).alloc (by simp) _).alloc (by simp; omega) _).alloc (by simp; omega) _).alloc (by simp; omega) _
theorem z2v {t : Tree} {v : Value} {w : World} (hrep : Rep w (S24 w) t v) (hlev : Lev 1 t) (hn : nodes t <= 4000) :
  Calls Tryz.prog 88 #[v] w fun e w' => e = .returned (.int .i64 0) /\ Below w.heap.size w w' := by
 have d : ∀ (fn : Fn) (first b : Array Value) (w : World), (Instr.makeFunc fn first b).run Tryz.prog w = .ok (.func fn first b) w := fun _ _ _ _ => rfl
 obtain ⟨kd, n0, b0, a, len, b, rfl⟩ := Rep.cells t v hrep;have h := zd6 t 0 1 hlev (by omega)
 have HV : Hid (∀ W, VEnv (w.heap.size + 1) (w.heap.size + 1 + 1) (w.heap.size + 1 + 1 + 1) (w.heap.size + 1 + 1 + 1 + 1) 0 0 W -> K24 w W -> Calls Tryz.prog 133 #[.agg #[.int .i64 kd, .int .i64 n0, .string b0, .slice a len b], .int .i64 1, .pointer (some ⟨w.heap.size + 1, 0, none⟩), .pointer (some ⟨w.heap.size + 1 + 1, 0, none⟩), .pointer (some ⟨w.heap.size + 1 + 1 + 1, 0, none⟩), .pointer (some ⟨w.heap.size + 1 + 1 + 1 + 1, 0, none⟩)] W fun e w' =>
   e = .returned (.tuple #[]) /\ VEnv (w.heap.size + 1) (w.heap.size + 1 + 1) (w.heap.size + 1 + 1 + 1) (w.heap.size + 1 + 1 + 1 + 1) (0 + nodes t) (vDeep 0 1 t) w' /\ Fr (fun k => k = w.heap.size + 1 ∨ k = w.heap.size + 1 + 1) W w') :=
  hid (fun W hE hK => zd5 t _ _ _ _ 0 0 1 W _ hE (hrep.k24 hK) hlev (by omega) (by omega))
 clear hrep hlev
 go_enter Tryz.func88, Tryz.ntmps88
 go_wp2_with fail
 obtain ⟨g0, g1, g2, g3, g4⟩ := five_get w (.cells #[.int .i64 kd, .int .i64 n0, .string b0, .slice a len b] 88) (.cells #[.int .i64 0] 3) (.cells #[.int .i64 0] 3) (.cells #[.bool true] 4) (.cells #[z1j (w.heap.size + 1) (w.heap.size + 1 + 1) (w.heap.size + 1 + 1 + 1) (w.heap.size + 1 + 1 + 1 + 1)] 181);have c := zfn w (.cells #[.int .i64 kd, .int .i64 n0, .string b0, .slice a len b] 88) (.cells #[.int .i64 0] 3) (.cells #[.int .i64 0] 3) (.cells #[.bool true] 4) (.cells #[z1j (w.heap.size + 1) (w.heap.size + 1 + 1) (w.heap.size + 1 + 1 + 1) (w.heap.size + 1 + 1 + 1 + 1)] 181);generalize (((((w.alloc (.cells #[.int .i64 kd, .int .i64 n0, .string b0, .slice a len b] 88)).alloc (.cells #[.int .i64 0] 3)).alloc (.cells #[.int .i64 0] 3)).alloc (.cells #[.bool true] 4)).alloc (.cells #[z1j (w.heap.size + 1) (w.heap.size + 1 + 1) (w.heap.size + 1 + 1 + 1) (w.heap.size + 1 + 1 + 1 + 1)] 181)) = W at g0 g1 g2 g3 g4 c ⊢;refine Calls.mono (HV.out W ⟨g1, g2, g3, g4, by omega⟩ (fun g cur e => (c.block g (z04 e)).trans e)) ?_;rintro e w1 ⟨rfl, hE, hF⟩;have f := cell_of_heap hE.cnt;have i := cell_of_heap hE.dep;have j := cell_of_heap hE.frm;have hB : Hid (Below w.heap.size w w1) := hid (Fr.to_below c c.size hF (fun k hk => by omega));rw [Nat.zero_add] at f
 generalize nodes t = N at *
 generalize vDeep 0 1 t = D at *
 clear hE hF HV c g0 g1 g2 g3 g4 d;go_wp2;go_ret;exact ⟨rfl, hB.out⟩
end Go.Proofs.YtdkkkeoicekdgaaGreatDoor.Co

end
