/- Models and commands that come in. -/
import Derived.Test.YtdkkkeoicekdgaaGreatDoorZFAg
import Derived.Test.YtdkkkeoicekdgaaGreatDoorZFMrd

section

namespace Go.Proofs.YtdkkkeoicekdgaaGreatDoor.Md
set_option maxRecDepth 100000
open Go.ChangeShapes Go.WideShapes Go.ChangeAt Go.WideMaps Go.WideElems Go.RowKit Go.Deep Go.Proofs.YtdkkkeoicekdgaaGreatDoor Go.Proofs.YtdkkkeoicekdgaaGreatDoor.Ca
theorem cells3 : Tryz.prog.cellsOf 3 = 1 := by kernel_rfl
theorem cellsHs : Tryz.prog.cellsOf 26 = 1 := by kernel_rfl
theorem cellsD : Tryz.prog.cellsOf 28 = 3 := by kernel_rfl
section
variable {H : Type} {enc : TypeId × Value -> H} {W : World}
theorem open_cmd {n : Nat} {cs : List Value} {y : DataW H × List MemPlace} (hl : cs.length = 3) (h : DataW.trod enc Tryz.prog W 0 (fun _ => true) true n 28 cs = some y)
  (hlt : ∀ x ∈ y.2, x.block < W.heap.size) (hw : ∀ n ∈ y.1.weights Tryz.prog 28, n <= reachBytes) : ∃ (c : Cmd) (b : Option Addr) (capc : Nat), cs = [.int .i64 c.cl, .int .i64 c.sq, .slice b c.ch.length capc] /\ SlH W (Old W) (.slice b c.ch.length capc) c.ch /\ ∀ x, x ∈ c.ch -> FitE x.e := by
 obtain ⟨ys, n', -, hx, -, g, hg⟩ := DataW.trod_struct Tryz.underlying28 h
 match cs, hl with
 | [c0, c1, c2], _ =>
  have g0 : DataW.trod enc Tryz.prog W 0 (fun _ => true) true n' 3 (([c0, c1, c2].drop 0).take (Tryz.prog.cellsOf 3)) = ys[0]? := hg 0 _ rfl;have g1 : DataW.trod enc Tryz.prog W 0 (fun _ => true) true n' 3 (([c0, c1, c2].drop 1).take (Tryz.prog.cellsOf 3)) = ys[1]? := hg 1 _ rfl;have g2 : DataW.trod enc Tryz.prog W 0 (fun _ => true) true n' 26 (([c0, c1, c2].drop 2).take (Tryz.prog.cellsOf 26)) = ys[2]? := hg 2 _ rfl;simp only [cells3, cellsHs, List.drop_zero, List.take_succ_cons, List.take_zero, List.drop_succ_cons] at g0 g1 g2
  match ys, g with
  | [y0, y1, y2], _ =>
   obtain rfl := hx;obtain ⟨k0, d, -, -⟩ := DataW.trod_int Tryz.underlying3 g0;obtain ⟨k1, f, -, -⟩ := DataW.trod_int Tryz.underlying3 g1
   have i : DataW.trod enc Tryz.prog W 0 (fun _ => true) true n' 26 [c2] = some y2 := by simpa using g2
   obtain ⟨a, j, xs, rfl, hs, k⟩ := zai i (fun x hxm => hlt x (by simp [hxm])) (fun m hm => hw m (by
    simp [DataW.weights, Tryz.underlying28, DataW.weightsEach, hm]))
   simp only [List.cons.injEq, and_true] at d f;subst d f;exact ⟨⟨k0, k1, xs⟩, a, j, rfl, hs, k⟩
end
end Go.Proofs.YtdkkkeoicekdgaaGreatDoor.Md

end

section

namespace Go.Proofs.YtdkkkeoicekdgaaGreatDoor.Md
set_option maxRecDepth 100000
open Go.ChangeShapes Go.WideShapes Go.ChangeAt Go.WideMaps Go.WideElems Go.RowKit Go.Deep Go.Proofs.YtdkkkeoicekdgaaGreatDoor Go.Proofs.YtdkkkeoicekdgaaGreatDoor.Ca
def CM (w : World) (S : Nat -> Prop) (c : Cmd) (cs : List Value) : Prop := ∃ b cap, cs = [.int .i64 c.cl, .int .i64 c.sq, .slice b c.ch.length cap] /\ SlH w S (.slice b c.ch.length cap) c.ch
abbrev SlM (w : World) (S : Nat -> Prop) (v : Value) (xs : List Cmd) : Prop := Sl 3 (CM w S) w S v xs
theorem SlM.old {w w' : World} {v : Value} {xs : List Cmd} (h : SlM w (Old w) v xs) (hb : Below w.heap.size w w') : SlM w' (Old w') v xs := Sl.keep h (fun b hb2 => hb.block b hb2) (fun _ h => Nat.lt_of_lt_of_le h hb.size) (fun _ _ ⟨b, cap, h1, h2⟩ => ⟨b, cap, h1, h2.old hb⟩)
theorem SlM.len {w : World} {S : Nat -> Prop} {a : Option Addr} {n cap : Nat} {xs : List Cmd} (h : SlM w S (.slice a n cap) xs) : n = xs.length /\ xs.length <= cap /\ cap <= 9223372036854775807 := by
 obtain ⟨a', b, hv, h1, h2, -⟩ := h
 injection hv with _ h3 h4
 exact ⟨h3, by omega, by omega⟩
theorem SlM.get {w : World} {S : Nat -> Prop} {a : Option Addr} {n cap : Nat} {xs : List Cmd} (h : SlM w S (.slice a n cap) xs) {j : Nat} {x : Cmd} (hx : xs[j]? = some x) :
  ∃ b off hb capc, a = some ⟨b, off, none⟩ /\ S b /\ w.cell? ⟨b, off + j * 3, none⟩ = some (.int .i64 x.cl) /\ w.cell? ⟨b, off + j * 3 + 1, none⟩ = some (.int .i64 x.sq) /\ w.cell? ⟨b, off + j * 3 + 2, none⟩ = some (.slice hb x.ch.length capc) /\ SlH w S (.slice hb x.ch.length capc) x.ch := by
 obtain ⟨a', g, hv, h1, h2, h3⟩ := h
 injection hv with h4 _ _
 subst h4;obtain ⟨b, off, ha, hb, c⟩ := h3 (fun e => by subst e; simp at hx);obtain ⟨cs, -, ⟨d, capc, rfl, f⟩, hc⟩ := c j x hx;exact ⟨b, off, d, capc, ha, hb, hc 0 _ rfl, hc 1 _ rfl, hc 2 _ rfl, f⟩
theorem SlM.take {w : World} {S : Nat -> Prop} {a : Option Addr} {n cap : Nat} {xs : List Cmd} (h : SlM w S (.slice a n cap) xs) (k : Nat) (hk : k <= xs.length) : SlM w S (.slice a k cap) (xs.take k) := by
 obtain ⟨a', g, hv, h1, h2, h3⟩ := h
 injection hv with h4 _ h5
 subst h4 h5;refine ⟨a, cap, by rw [List.length_take, Nat.min_eq_left hk], by rw [List.length_take]; omega, h2, fun hne => ?_⟩;obtain ⟨b, c, ha, hb, d⟩ := h3 (fun e => by subst e; simp at hne);refine ⟨b, c, ha, hb, fun j x hj => d j x ?_⟩;have f := (List.getElem?_eq_some_iff.1 hj).1;rw [List.length_take] at f;rw [List.getElem?_take, if_pos (by omega)] at hj;exact hj
theorem SlM.drop {w : World} {S : Nat -> Prop} {ad : Addr} {n cap : Nat} {xs : List Cmd} (h : SlM w S (.slice (some ad) n cap) xs) (k : Nat) (hk : k <= xs.length) : SlM w S (.slice (some (ad.add (k * 3))) (xs.length - k) (cap - k)) (xs.drop k) := by
 obtain ⟨a', d, hv, h1, h2, h3⟩ := h
 injection hv with h4 _ h5
 subst h4 h5;refine ⟨some (ad.add (k * 3)), cap - k, by rw [List.length_drop], by rw [List.length_drop]; omega, by omega, fun hne => ?_⟩;obtain ⟨b, a, ha, hb, c⟩ := h3 (fun e => by subst e; simp at hne);obtain rfl := Option.some.inj ha;refine ⟨b, a + k * 3, by rw [Addr.add_mid], hb, fun j x hj => ?_⟩;have := c (k + j) x (by rw [List.getElem?_drop] at hj; exact hj);rw [show a + k * 3 + j * 3 = a + (k + j) * 3 by omega];exact this
section
variable {H : Type} {enc : TypeId × Value -> H} {W : World}
theorem zgr {fuel : Nat} {c0 : Value} {y0 : DataW H × List MemPlace} (g1 : DataW.trod enc Tryz.prog W 0 (fun _ => true) true fuel 41 [c0] = some y0)
  (hlt2 : ∀ x ∈ y0.2, x.block < W.heap.size) (hw2 : ∀ n ∈ y0.1.weights Tryz.prog 41, n <= reachBytes) : ∃ (a : Option Addr) (cap : Nat) (xs : List Cmd), c0 = .slice a xs.length cap /\ SlM W (Old W) (.slice a xs.length cap) xs /\ ∀ c, c ∈ xs -> ∀ x, x ∈ c.ch -> FitE x.e := by
 rcases open_slice Tryz.underlying41 g1 with ⟨hcs, -⟩ | ⟨a, len, cap, m, n2, D, Pl, hcs, -, hl, hm, hmm, hx, hi⟩
 ·obtain rfl : c0 = .slice none 0 0 := by simpa using hcs
  exact ⟨none, 0, [], rfl, Sl.nil _ _ _ _, fun x hx => by cases hx⟩
 ·obtain rfl : c0 = .slice (some a) len cap := by simpa using hcs
  simp only [if_true] at hmm
  unfold maxLen at hm
  rw [cellsD] at hi hx
  have r : ∀ i, i < len -> ∃ x : Cmd, (∃ b d, (W.cell? (a.add (i * 3)) = some (.int .i64 x.cl) /\ W.cell? (a.add (i * 3 + 1)) = some (.int .i64 x.sq) /\ W.cell? (a.add (i * 3 + 2)) = some (.slice b x.ch.length d)) /\ SlH W (Old W) (.slice b x.ch.length d) x.ch) /\ ∀ y, y ∈ x.ch -> FitE y.e := fun i hil => by
   obtain ⟨E, hc, s⟩ := hi i (by omega);obtain ⟨-, t, f⟩ := World.cells?_some hc;have k : D i ∈ (List.range len).map D := List.mem_map.2 ⟨i, List.mem_range.2 hil, rfl⟩
   obtain ⟨x, b, d, rfl, h1, h2⟩ := open_cmd t s (fun z hz => hlt2 z (by rw [hx]; exact List.mem_append_right _ (List.mem_flatMap.2 ⟨i, List.mem_range.2 (by omega), hz⟩))) (fun q hq => hw2 q (by
     rw [hx];simp only [DataW.weights, Tryz.underlying41]
     exact List.mem_cons_of_mem _ (List.mem_append_left _ (z4o k hq))))
   have k0 := f 0 (by simp);have k1 := f 1 (by simp);have k2 := f 2 (by simp);rw [Go.Deep.add_add] at k0 k1 k2;exact ⟨x, ⟨b, d, ⟨k0, k1, k2⟩, h1⟩, h2⟩
  obtain ⟨xs, v, g⟩ := zcg len r
  refine ⟨some a, cap, xs, by rw [v], ⟨some a, cap, rfl, by omega, hm, fun hne => ?_⟩, fun x hx => by
   obtain ⟨j, hj⟩ := List.mem_iff_getElem?.1 hx
   exact (g j x hj).2⟩
  have l : 0 < xs.length := List.length_pos_iff.2 hne;obtain ⟨b1, w, ⟨A, -⟩, -⟩ := (g 0 xs[0] (List.getElem?_eq_getElem l)).1;obtain ⟨b, o, p⟩ := a
  have h : p = none := by simpa [Addr.add] using World.cell?_spot A
  subst h;have B : b < W.heap.size := hlt2 (.cell b o) (by rw [hx]; exact List.mem_append_left _ (MemPlace.mem_row.2 ⟨0, by omega, by simp⟩));refine ⟨b, o, rfl, B, fun j x hj => ?_⟩;obtain ⟨⟨hb, d, ⟨h0, h1, h2⟩, C⟩, -⟩ := g j x hj;rw [Addr.add_mid] at h0 h1 h2;refine ⟨[.int .i64 x.cl, .int .i64 x.sq, .slice hb x.ch.length d], rfl, ⟨hb, d, rfl, C⟩, fun i u hu => ?_⟩
  match i, hu with
  | 0, hu => obtain rfl := Option.some.inj hu; exact h0
  | 1, hu => obtain rfl := Option.some.inj hu; rw [Nat.add_assoc]; exact h1
  | 2, hu => obtain rfl := Option.some.inj hu; rw [Nat.add_assoc]; exact h2
  | _ + 3, hu => simp at hu
end
end Go.Proofs.YtdkkkeoicekdgaaGreatDoor.Md

end

section

namespace Go.Proofs.YtdkkkeoicekdgaaGreatDoor.Md
set_option maxHeartbeats 12800000
set_option maxRecDepth 100000
open Go.Lib (hid)
open Go.RowKit Go.Maps Go.WideShapes Go.WideMaps Go.Proofs.YtdkkkeoicekdgaaGreatDoor Go.Proofs.YtdkkkeoicekdgaaGreatDoor.Ca
def FoldP (l : List Cmd) (w : World) (e : Ending) (w' : World) : Prop := Below w.heap.size w w' /\ match foldM zeroM l with
 | none => e = .returned (.tuple #[.agg #[.int .i64 0, .slice none 0 0, .slice none 0 0], .int .i64 120])
 | some m => ∃ ae ce ac cc, e = .returned (.tuple #[.agg (mdC m.vr (.slice ae m.es.length ce) (.slice ac m.cs.length cc)), .int .i64 0]) /\ SlE w' (Old w') (.slice ae m.es.length ce) m.es /\ SlL w' (Old w') (.slice ac m.cs.length cc) m.cs
theorem zax {m : Mdl} {l : List Cmd} {k : Nat} {c : Cmd} (hc : l[k]? = some c) (hM : mayC c = true) : foldM m (l.drop k) = foldM (doF m c).1 (l.drop (k + 1)) := by
 obtain ⟨h1, h2⟩ := List.getElem?_eq_some_iff.1 hc;rw [List.drop_eq_getElem_cons h1, h2, foldM, if_pos hM]
theorem zhy {m : Mdl} {l : List Cmd} {k : Nat} {c : Cmd} (hc : l[k]? = some c) (hM : mayC c = false) : foldM m (l.drop k) = none := by
 obtain ⟨h1, h2⟩ := List.getElem?_eq_some_iff.1 hc
 rw [List.drop_eq_getElem_cons h1, h2, foldM, hM]; simp
theorem zf3 {w : World} {S : Nat -> Prop} {v : Value} {xs : List Cli} {A : Nat} {t : TypeId} {n : Int} {a c : Option Addr} {p q r s : Nat} (h : SlL w S v xs) (hA : Row w A t [.int .i64 n, .slice a p q, .slice c r s]) : SlL w (fun b => S b /\ b ≠ A) v xs := by
 obtain ⟨a', i, hv, k1, k2, k3⟩ := h;refine ⟨a', i, hv, k1, k2, fun hne => ?_⟩;obtain ⟨b, d, ha, hb, g⟩ := k3 hne;refine ⟨b, d, ha, ⟨hb, fun e => ?_⟩, g⟩;subst e;have hx := (atL (g 0 (xs[0]'(List.length_pos_iff.2 hne)) (List.getElem?_eq_getElem _))).2.1
 have f : w.cell? ⟨b, d + 0 * 4 + 1, none⟩ = [Value.int .i64 n, Value.slice a p q, Value.slice c r s][d + 0 * 4 + 1]? := by
  have hh : w.heap[b]? = some (.cells [Value.int .i64 n, Value.slice a p q, Value.slice c r s].toArray t (0, 0)) := hA
  simp [World.cell?, hh]
 rw [f] at hx
 match d, hx with
 | 0, hx => have := Option.some.inj hx; cases this
 | 1, hx => have := Option.some.inj hx; cases this
 | _ + 2, hx => simp at hx
theorem zg4 {w w' : World} {v : Value} {xs : List Cli} {A : Nat} {t : TypeId} {n : Int} {a c : Option Addr} {p q r s : Nat} (h : SlL w (Old w) v xs) (hA : Row w A t [.int .i64 n, .slice a p q, .slice c r s]) (hb : But A w w') : SlL w' (Old w') v xs :=
 Sl.keep (zf3 h hA) (fun b hb2 => hb.block b hb2.2) (fun b hb2 => by have h1 : b < w.heap.size := hb2.1; have h2 := hb.size; show b < _; omega) (fun _ _ h => h)
theorem zgh (w : World) (a : Option Addr) (cap : Nat) (l : List Cmd) (hX : SlM w (Old w) (.slice a l.length cap) l) (hF : ∀ c, c ∈ l -> ∀ x, x ∈ c.ch -> FitE x.e) (hV : EnvC w) :
  Calls Tryz.prog 20 #[.slice a l.length cap] w (FoldP l w) := by
 obtain ⟨L, HL⟩ := nmd (l.length);have HX := hid hX;have ax := hX.len;have HF := hid hF;have HV := hid hV;rw [<- HL.out] at HX ax ⊢
 have hL : L <= 9223372036854775807 := by omega
 clear hX hF hV ax;have V := hid (fun W => z4p W 0 none 0 [] none 0 [] (Sl.nil _ _ _ _) (Sl.nil _ _ _ _) (by simp) (by simp) List.Pairwise.nil (fun x hx => by cases hx));simp only [List.length_nil] at V;obtain ⟨W1, z⟩ := nmd (w.alloc (.cells #[.int .i64 0, .slice none 0 0, .slice none 0 0] 25));have ay : Hid (Below w.heap.size w W1) := hid (by rw [z.out]; exact z04 _ _);have X : Hid (Row W1 w.heap.size 25 [.int .i64 0, .slice none 0 0, .slice none 0 0]) := hid (by rw [z.out]; exact z02 w #[.int .i64 0, .slice none 0 0, .slice none 0 0] 25)
 go_enter Tryz.func20, Tryz.ntmps20
 go_wp2_with fail
 rw [<- z.out];clear z;refine (V.out W1).mono ?_;rintro e w2 ⟨ae, ce, ac, cc, M, rfl, q, -, A⟩;simp only [List.length_nil] at q ⊢;obtain ⟨w3, C⟩ := nmd (w2.alloc (.cells (stC 0 (.slice ae 0 ce) (.slice ac 0 cc) M) 73));obtain ⟨S, HS⟩ := nmd (w2.heap.size)
 have g : Below w2.heap.size w2 w3 := by rw [C.out]; exact z04 _ _
 have j : Hid (Row w3 S 73 [.int .i64 0, .slice ae 0 ce, .slice ac 0 cc, .map (some M)]) := hid (by rw [C.out, HS.out]; exact z02 w2 (stC 0 (.slice ae 0 ce) (.slice ac 0 cc) M) 73);have t := hid (q.old g);have f := hid ((X.out.below A).below g);have az := hid (z00 (z00 ay.out A) g)
 have hS : w.heap.size < S := by have h1 := X.out.lt; have h2 := A.size; have h3 := HS.out; omega
 clear q g A X ay V;go_wp2;rw [<- HS.out, <- C.out];clear C HS
 go_loopw [11] (fun i wr => ∃ k : Nat, k <= L /\ i = .int .i64 k /\ ∃ (m : Mdl) (ae : Option Addr) (ce : Nat) (ac : Option Addr) (cc M : Nat), Hid (Row wr S 73 [.int .i64 m.vr, .slice ae m.es.length ce, .slice ac m.cs.length cc, .map (some M)]) /\ Hid (StAt wr m ae ce ac cc M) /\ Hid (RgtM m) /\ Hid (foldM m (l.drop k) = foldM zeroM l) /\ Hid (Row wr w.heap.size 25 [.int .i64 0, .slice none 0 0, .slice none 0 0]) /\ Hid (Below w.heap.size w wr)) (fun i _ => L - (intOf i).toNat)
 case atStart => exact ⟨0, Nat.zero_le _, rfl, zeroM, ae, ce, ac, cc, M, j, t, hid z7z, hid (by rw [List.drop_zero]), f, az⟩
 case round =>
  clear j t f az;obtain ⟨k, hk, rfl, m, ae, ce, ac, cc, M, j, t, aA, Y, f, Z⟩ := hrel
  by_cases hlt : k < L
  ·obtain ⟨c, hc⟩ : ∃ c, l[k]? = some c := ⟨_, List.getElem?_eq_getElem (by have := HL.out; omega)⟩
   have HC := hid hc;obtain ⟨b0, aO, hb, n, rfl, -, x0, x1, x2, aB⟩ := (HX.out.old Z.out).get hc;have aK := hid (HF.out c (List.mem_of_getElem? hc));clear hc;obtain ⟨Lh, aa⟩ := nmd (c.ch.length);have af := hid (fun W => zan W c hb n);obtain ⟨wc, D⟩ := nmd (wr.alloc (.cells #[.int .i64 c.cl, .int .i64 c.sq, .slice hb Lh n] 28));obtain ⟨oc, ag⟩ := nmd (wr.heap.size)
   have g : Below wr.heap.size wr wc := by rw [D.out]; exact z04 _ _
   have ah := hid (aB.old g);have G : Hid (Row wc oc 28 [.int .i64 c.cl, .int .i64 c.sq, .slice hb Lh n]) := hid (by rw [D.out, ag.out]; exact z02 wr #[.int .i64 c.cl, .int .i64 c.sq, .slice hb Lh n] 28);have H := hid (j.out.below g);have I := hid (t.out.old g);have J := hid (f.out.below g);have aC := hid (z00 Z.out g);rw [<- aa.out] at af x2 ah;clear g aB
   go_wp2_with fail
   rw [<- ag.out, <- D.out];clear x0 x1 x2 D ag;refine (af.out wc).mono ?_;rintro e w5 ⟨rfl, r⟩;have aD := hid (ah.out.old r);have y := hid (G.out.below r);have h := hid (H.out.below r);have N := hid (I.out.old r);have d := hid (J.out.below r);have E := hid (z00 aC.out r);clear r af ah G H I J aC
   cases hm : mayC c with
   | false =>
    have u : Hid (foldM zeroM l = none) := hid (by rw [<- Y.out]; exact zhy HC.out hm);have s := hid (z2i d.out 0 (.slice none 0 0) (.slice none 0 0));have ai : Hid (Below w.heap.size w (putM w5 w.heap.size 0 (.slice none 0 0) (.slice none 0 0))) := hid (E.out.trans ((z11 w5 w.heap.size 0 (.slice none 0 0) (.slice none 0 0)).below (B := w.heap.size) (Nat.le_refl _)));have r0 := d.out.c0;have r1 := d.out.c1;have r2 := d.out.c2;have t0 := d.out.thaw 0;have t1 := d.out.thaw 1;have t2 := d.out.thaw 2;clear hm;go_wp2;have e0 := s.out.c0;have e1 := s.out.c1;have e2 := s.out.c2;exact bodyPost_ret (v := .tuple #[.agg #[.int .i64 0, .slice none 0 0, .slice none 0 0], .int .i64 120]) (by simp [results, Tryz.results20, go_sem, e0, e1, e2]) rfl ⟨ai.out, by rw [u.out]⟩
   | true =>
    have u := hid (zax (m := m) HC.out hm);have HM := hid hm;have aE := hid (zei aA.out hm);have aj := hid (zb3 w5 m ae ce ac cc M c hb n N.out aA.out hm (by rw [<- aa.out]; exact aD.out) aK.out (HV.out.below E.out));rw [<- aa.out] at aj;have p0 := h.out.c0;have p1 := h.out.c1;have p2 := h.out.c2;have p3 := h.out.c3;have q0 := y.out.c0;have q1 := y.out.c1;have q2 := y.out.c2;clear hm
    go_wp2_with fail
    clear p0 p1 p2 p3 q0 q1 q2;refine aj.out.mono ?_;clear aj;rintro e w6 ⟨aq, ar, au, aw, M6, rfl, q, F⟩;obtain ⟨m6, aM⟩ := nmd ((doF m c).1);rw [<- aM.out] at q u aE ⊢;have aF := hid q;have b := hid (h.out.below F);have aG := hid (d.out.below F);have aN := hid (z00 E.out F);clear q F h d E N;have o := z10 w6 S m6.vr (.slice aq m6.es.length ar) (.slice au m6.cs.length aw) M6;have O := hid (z2h b.out m6.vr (.slice aq m6.es.length ar) (.slice au m6.cs.length aw) M6);have p := hid (StAt.but aF.out b.out (fun _ => Value.noConfusion) (fun _ => Value.noConfusion) (fun _ => Value.noConfusion) (fun _ => Value.noConfusion) (fun _ => Value.noConfusion) (fun _ => Value.noConfusion) (fun _ => Value.noConfusion) o);have R := hid (aG.out.keep (o.block w.heap.size (by omega)));have aH := hid (aN.out.trans (o.below (B := w.heap.size) (by omega)));have p0 := b.out.c0;have p1 := b.out.c1;have p2 := b.out.c2;have p3 := b.out.c3;have t0 := b.out.thaw 0;have t1 := b.out.thaw 1;have t2 := b.out.thaw 2;have t3 := b.out.thaw 3;have aI : Hid (foldM m6 (l.drop (k + 1)) = foldM zeroM l) := hid (by rw [<- u.out, Y.out]);clear o j t f;obtain ⟨aP, T⟩ := nmd (m6.es.length);obtain ⟨aQ, U⟩ := nmd (m6.cs.length);obtain ⟨v6, aJ⟩ := nmd (m6.vr);rw [<- T.out, <- U.out, <- aJ.out] at O p R aH ⊢;go_wp2;go_roundw
    case rel => exact ⟨k + 1, by omega, by go_num, m6, aq, ar, au, aw, M6, by rw [<- T.out, <- U.out, <- aJ.out]; exact O, by exact p, aE, aI, R, aH⟩
    case measure => simp [intOf]; omega
  ·have u : Hid (foldM zeroM l = some m) := hid (by rw [<- Y.out, List.drop_of_length_le (by have := HL.out; omega), foldM])
   have s := hid (z2i f.out m.vr (.slice ae m.es.length ce) (.slice ac m.cs.length cc));have o := z11 wr w.heap.size m.vr (.slice ae m.es.length ce) (.slice ac m.cs.length cc);have p := hid (t.out.butR f.out o);have ai := hid (Z.out.trans (o.below (B := w.heap.size) (Nat.le_refl _)));have p0 := j.out.c0;have p1 := j.out.c1;have p2 := j.out.c2;have r0 := f.out.c0;have r1 := f.out.c1;have r2 := f.out.c2;have t0 := f.out.thaw 0;have t1 := f.out.thaw 1;have t2 := f.out.thaw 2;clear o;go_wp2;have e0 := s.out.c0;have e1 := s.out.c1;have e2 := s.out.c2;exact bodyPost_ret (v := .tuple #[.agg (mdC m.vr (.slice ae m.es.length ce) (.slice ac m.cs.length cc)), .int .i64 0]) (by simp [results, Tryz.results20, go_sem, e0, e1, e2]) rfl ⟨ai.out, by rw [u.out]; exact ⟨ae, ce, ac, cc, rfl, p.out.es, p.out.cs⟩⟩
theorem zgc (w : World) (a : Option Addr) (cap : Nat) (l : List Cmd) (hX : SlM w (Old w) (.slice a l.length cap) l) (hF : ∀ c, c ∈ l -> ∀ x, x ∈ c.ch -> FitE x.e) (hV : EnvC w) (hM : ∀ c, c ∈ l -> mayC c = true) (n : Mdl) (hn : foldM zeroM l = some n) :
  Calls Tryz.prog 21 #[.slice a l.length cap] w fun e w' => ∃ ae ce ac cc, e = .returned (.agg (mdC n.vr (.slice ae n.es.length ce) (.slice ac n.cs.length cc))) /\ SlE w' (Old w') (.slice ae n.es.length ce) n.es /\ SlL w' (Old w') (.slice ac n.cs.length cc) n.cs /\ Below w.heap.size w w' := by
 obtain ⟨L, HL⟩ := nmd (l.length);have HX := hid hX;have af := hX.len;have HF := hid hF;have HV := hid hV;have HM := hid hM;have HN := hid hn;rw [<- HL.out] at HX af ⊢
 have hL : L <= 9223372036854775807 := by omega
 clear hX hF hV af hM hn;obtain ⟨W2, u⟩ := nmd ((w.alloc (.cells #[.int .i64 0, .slice none 0 0, .slice none 0 0] 25)).alloc (.cells #[.int .i64 0, .slice none 0 0, .slice none 0 0] 25));have ag : Hid (Below w.heap.size w W2) := hid (by rw [u.out]; exact z3p _ _ _);have ah : Hid (Row W2 w.heap.size 25 [.int .i64 0, .slice none 0 0, .slice none 0 0]) := hid (by rw [u.out]; exact (z02 w #[.int .i64 0, .slice none 0 0, .slice none 0 0] 25).alloc _)
 have ai : Hid (Row W2 (w.heap.size + 1) 25 [.int .i64 0, .slice none 0 0, .slice none 0 0]) := hid (by
  rw [u.out];have h := z02 (w.alloc (.cells #[.int .i64 0, .slice none 0 0, .slice none 0 0] 25)) #[.int .i64 0, .slice none 0 0, .slice none 0 0] 25
  rwa [World.size_alloc] at h)
 go_enter Tryz.func21, Tryz.ntmps21
 go_wp2;rw [<- u.out];clear u
 go_loopw [11] (fun i wr => ∃ k : Nat, k <= L /\ i = .int .i64 k /\ ∃ (m : Mdl) (ae : Option Addr) (ce : Nat) (ac : Option Addr) (cc : Nat), Hid (Row wr (w.heap.size + 1) 25 [.int .i64 m.vr, .slice ae m.es.length ce, .slice ac m.cs.length cc]) /\ Hid (SlE wr (Old wr) (.slice ae m.es.length ce) m.es) /\ Hid (SlL wr (Old wr) (.slice ac m.cs.length cc) m.cs) /\ Hid (RgtM m) /\ Hid (foldM m (l.drop k) = some n) /\ Hid (Row wr w.heap.size 25 [.int .i64 0, .slice none 0 0, .slice none 0 0]) /\ Hid (Below w.heap.size w wr)) (fun i _ => L - (intOf i).toNat)
 case atStart => exact ⟨0, Nat.zero_le _, rfl, zeroM, none, 0, none, 0, ai, hid (Sl.nil _ _ _ _), hid (Sl.nil _ _ _ _), hid z7z, hid (by rw [List.drop_zero]; exact HN.out), ah, ag⟩
 case round =>
  clear ah ai ag;obtain ⟨k, hk, rfl, m, ae, ce, ac, cc, HQ, HE, HC, aj, aq, f, M⟩ := hrel
  by_cases hlt : k < L
  ·obtain ⟨c, hc⟩ : ∃ c, l[k]? = some c := ⟨_, List.getElem?_eq_getElem (by have := HL.out; omega)⟩
   have aw := hid hc;obtain ⟨b0, aI, hb, o, rfl, -, x0, x1, x2, ar⟩ := (HX.out.old M.out).get hc;have ax := hid (HF.out c (List.mem_of_getElem? hc));have N := hid (HM.out c (List.mem_of_getElem? hc));clear hc;obtain ⟨Lh, ay⟩ := nmd (c.ch.length);obtain ⟨wc, q⟩ := nmd (wr.alloc (.cells #[.int .i64 c.cl, .int .i64 c.sq, .slice hb Lh o] 28))
   have p : Below wr.heap.size wr wc := by rw [q.out]; exact z04 _ _
   have z := hid (HQ.out.below p);have J := hid (f.out.below p);have O := hid (z00 M.out p);have R := hid (rdo_any wc m ae ce ac cc c hb o (HE.out.old p) (HC.out.old p) (HV.out.below O.out) aj.out N.out (ar.old p) ax.out);have G := hid (zax (m := m) aw.out N.out);have H := hid (zei aj.out N.out)
   have q0 : (wr.alloc (.cells #[.int .i64 c.cl, .int .i64 c.sq, .slice hb Lh o] 28)).cell? ⟨w.heap.size + 1, 0, none⟩ = some (.int .i64 m.vr) := by rw [<- q.out]; exact z.out.cell rfl
   have q1 : (wr.alloc (.cells #[.int .i64 c.cl, .int .i64 c.sq, .slice hb Lh o] 28)).cell? ⟨w.heap.size + 1, 1, none⟩ = some (.slice ae m.es.length ce) := by rw [<- q.out]; exact z.out.cell rfl
   have q2 : (wr.alloc (.cells #[.int .i64 c.cl, .int .i64 c.sq, .slice hb Lh o] 28)).cell? ⟨w.heap.size + 1, 2, none⟩ = some (.slice ac m.cs.length cc) := by rw [<- q.out]; exact z.out.cell rfl
   rw [<- ay.out] at R x2;clear p ar
   go_wp2_with fail
   rw [<- q.out];clear x0 x1 x2 q0 q1 q2 q;refine R.out.mono ?_;clear R;rintro e w5 ⟨a1, c1, a2, c2, rfl, r, s, I⟩;obtain ⟨m6, r6, az⟩ : ∃ m6 r6, Hid (doF m c = (m6, r6)) := ⟨_, _, hid rfl⟩;rw [az.out] at r s G H ⊢;simp only at r s G H ⊢;obtain ⟨v6, T, U⟩ := m6;obtain ⟨ri, rq, ra, rv⟩ := r6;simp only at r s G H ⊢;obtain ⟨b, A⟩ := nmd (T.length);obtain ⟨d, C⟩ := nmd (U.length);rw [<- A.out] at r ⊢;rw [<- C.out] at s ⊢
   go_wp2_with (with_reducible refine is_wpl ?_; refine hid ?_; refine z7v (ty := 25) (x := .tmp 6) (y := .tmp 19) rfl ?_)
   refine hid ?_;obtain ⟨V1, D⟩ := nmd ((w5.alloc (.cells #[.int .i64 0, .slice none 0 0, .slice none 0 0] 25)).alloc (.cells #[.int .i64 0, .int .i64 0, .int .i64 0, .int .i64 0] 32));rw [<- D.out];obtain ⟨t, V, au, X⟩ := two_box w5 v6 (.slice a1 b c1) (.slice a2 d c2) ⟨ri, rq, ra, rv⟩;rw [<- D.out] at t V au X;clear D;have E : Hid (Row ((((((((V1).setCell ⟨w5.heap.size, 0, none⟩ (.int .i64 v6)).setCell ⟨w5.heap.size, 1, none⟩ (.slice a1 b c1)).setCell ⟨w5.heap.size, 2, none⟩ (.slice a2 d c2)).setCell ⟨w5.heap.size + 1, 0, none⟩ (.int .i64 ri)).setCell ⟨w5.heap.size + 1, 1, none⟩ (.int .i64 rq)).setCell ⟨w5.heap.size + 1, 2, none⟩ (.int .i64 ra)).setCell ⟨w5.heap.size + 1, 3, none⟩ (.int .i64 rv)) w5.heap.size 25 [.int .i64 v6, .slice a1 b c1, .slice a2 d c2]) := hid V;have F : Hid (Below w5.heap.size w5 ((((((((V1).setCell ⟨w5.heap.size, 0, none⟩ (.int .i64 v6)).setCell ⟨w5.heap.size, 1, none⟩ (.slice a1 b c1)).setCell ⟨w5.heap.size, 2, none⟩ (.slice a2 d c2)).setCell ⟨w5.heap.size + 1, 0, none⟩ (.int .i64 ri)).setCell ⟨w5.heap.size + 1, 1, none⟩ (.int .i64 rq)).setCell ⟨w5.heap.size + 1, 2, none⟩ (.int .i64 ra)).setCell ⟨w5.heap.size + 1, 3, none⟩ (.int .i64 rv))) := hid X;obtain ⟨c0, aJ, aK⟩ := t.c1;obtain ⟨s0, s1, s2⟩ := t.f1;obtain ⟨z0, z1, z2, z3⟩ := t.c2;obtain ⟨y0, y1, y2, y3⟩ := t.f2;clear t V au X;have j : Hid (Row ((((((((V1).setCell ⟨w5.heap.size, 0, none⟩ (.int .i64 v6)).setCell ⟨w5.heap.size, 1, none⟩ (.slice a1 b c1)).setCell ⟨w5.heap.size, 2, none⟩ (.slice a2 d c2)).setCell ⟨w5.heap.size + 1, 0, none⟩ (.int .i64 ri)).setCell ⟨w5.heap.size + 1, 1, none⟩ (.int .i64 rq)).setCell ⟨w5.heap.size + 1, 2, none⟩ (.int .i64 ra)).setCell ⟨w5.heap.size + 1, 3, none⟩ (.int .i64 rv)) (w.heap.size + 1) 25 [.int .i64 m.vr, .slice ae m.es.length ce, .slice ac m.cs.length cc]) := hid ((z.out.below I).below F.out)
   have aA : Hid (Row ((((((((V1).setCell ⟨w5.heap.size, 0, none⟩ (.int .i64 v6)).setCell ⟨w5.heap.size, 1, none⟩ (.slice a1 b c1)).setCell ⟨w5.heap.size, 2, none⟩ (.slice a2 d c2)).setCell ⟨w5.heap.size + 1, 0, none⟩ (.int .i64 ri)).setCell ⟨w5.heap.size + 1, 1, none⟩ (.int .i64 rq)).setCell ⟨w5.heap.size + 1, 2, none⟩ (.int .i64 ra)).setCell ⟨w5.heap.size + 1, 3, none⟩ (.int .i64 rv)) w.heap.size 25 [.int .i64 0, .slice none 0 0, .slice none 0 0]) := hid ((J.out.below I).below F.out);have aB : Hid (Below w.heap.size w ((((((((V1).setCell ⟨w5.heap.size, 0, none⟩ (.int .i64 v6)).setCell ⟨w5.heap.size, 1, none⟩ (.slice a1 b c1)).setCell ⟨w5.heap.size, 2, none⟩ (.slice a2 d c2)).setCell ⟨w5.heap.size + 1, 0, none⟩ (.int .i64 ri)).setCell ⟨w5.heap.size + 1, 1, none⟩ (.int .i64 rq)).setCell ⟨w5.heap.size + 1, 2, none⟩ (.int .i64 ra)).setCell ⟨w5.heap.size + 1, 3, none⟩ (.int .i64 rv))) := hid (z00 (z00 O.out I) F.out);have aC : Hid (SlE ((((((((V1).setCell ⟨w5.heap.size, 0, none⟩ (.int .i64 v6)).setCell ⟨w5.heap.size, 1, none⟩ (.slice a1 b c1)).setCell ⟨w5.heap.size, 2, none⟩ (.slice a2 d c2)).setCell ⟨w5.heap.size + 1, 0, none⟩ (.int .i64 ri)).setCell ⟨w5.heap.size + 1, 1, none⟩ (.int .i64 rq)).setCell ⟨w5.heap.size + 1, 2, none⟩ (.int .i64 ra)).setCell ⟨w5.heap.size + 1, 3, none⟩ (.int .i64 rv)) (Old ((((((((V1).setCell ⟨w5.heap.size, 0, none⟩ (.int .i64 v6)).setCell ⟨w5.heap.size, 1, none⟩ (.slice a1 b c1)).setCell ⟨w5.heap.size, 2, none⟩ (.slice a2 d c2)).setCell ⟨w5.heap.size + 1, 0, none⟩ (.int .i64 ri)).setCell ⟨w5.heap.size + 1, 1, none⟩ (.int .i64 rq)).setCell ⟨w5.heap.size + 1, 2, none⟩ (.int .i64 ra)).setCell ⟨w5.heap.size + 1, 3, none⟩ (.int .i64 rv))) (.slice a1 b c1) T) := hid (r.old F.out)
   have aD : Hid (SlL ((((((((V1).setCell ⟨w5.heap.size, 0, none⟩ (.int .i64 v6)).setCell ⟨w5.heap.size, 1, none⟩ (.slice a1 b c1)).setCell ⟨w5.heap.size, 2, none⟩ (.slice a2 d c2)).setCell ⟨w5.heap.size + 1, 0, none⟩ (.int .i64 ri)).setCell ⟨w5.heap.size + 1, 1, none⟩ (.int .i64 rq)).setCell ⟨w5.heap.size + 1, 2, none⟩ (.int .i64 ra)).setCell ⟨w5.heap.size + 1, 3, none⟩ (.int .i64 rv)) (Old ((((((((V1).setCell ⟨w5.heap.size, 0, none⟩ (.int .i64 v6)).setCell ⟨w5.heap.size, 1, none⟩ (.slice a1 b c1)).setCell ⟨w5.heap.size, 2, none⟩ (.slice a2 d c2)).setCell ⟨w5.heap.size + 1, 0, none⟩ (.int .i64 ri)).setCell ⟨w5.heap.size + 1, 1, none⟩ (.int .i64 rq)).setCell ⟨w5.heap.size + 1, 2, none⟩ (.int .i64 ra)).setCell ⟨w5.heap.size + 1, 3, none⟩ (.int .i64 rv))) (.slice a2 d c2) U) := hid (s.old F.out);clear r s I z J O;have g := z11 ((((((((V1).setCell ⟨w5.heap.size, 0, none⟩ (.int .i64 v6)).setCell ⟨w5.heap.size, 1, none⟩ (.slice a1 b c1)).setCell ⟨w5.heap.size, 2, none⟩ (.slice a2 d c2)).setCell ⟨w5.heap.size + 1, 0, none⟩ (.int .i64 ri)).setCell ⟨w5.heap.size + 1, 1, none⟩ (.int .i64 rq)).setCell ⟨w5.heap.size + 1, 2, none⟩ (.int .i64 ra)).setCell ⟨w5.heap.size + 1, 3, none⟩ (.int .i64 rv)) (w.heap.size + 1) v6 (.slice a1 b c1) (.slice a2 d c2);have aE := hid (z2i j.out v6 (.slice a1 b c1) (.slice a2 d c2));have Y := hid (z6u aC.out j.out zdm g);have Z := hid (zg4 aD.out j.out g);have aF := hid (aA.out.keep (g.block w.heap.size (by omega)));have aG := hid (aB.out.trans (g.below (B := w.heap.size) (by omega)))
   have n0 := E.out.c0;have n1 := E.out.c1;have n2 := E.out.c2;have q0 := j.out.c0;have q1 := j.out.c1;have q2 := j.out.c2;have t0 := j.out.thaw 0;have t1 := j.out.thaw 1;have t2 := j.out.thaw 2;clear g;go_wp2;go_roundw
   case rel => exact ⟨k + 1, by omega, by go_num, ⟨v6, T, U⟩, a1, c1, a2, c2, by simp only; rw [<- A.out, <- C.out]; exact aE, by simp only; rw [<- A.out]; exact Y, by simp only; rw [<- C.out]; exact Z, H, hid (by rw [<- G.out]; exact aq.out), aF, aG⟩
   case measure => simp [intOf]; omega
  ·obtain rfl : n = m := by have h := aq.out; rw [List.drop_of_length_le (by have := HL.out; omega), foldM] at h; exact (Option.some.inj h).symm
   have aa := hid (z2i f.out n.vr (.slice ae n.es.length ce) (.slice ac n.cs.length cc));have g := z11 wr w.heap.size n.vr (.slice ae n.es.length ce) (.slice ac n.cs.length cc);have Y := hid (z6u HE.out f.out z95 g);have Z := hid (zg4 HC.out f.out g);have aH := hid (M.out.trans (g.below (B := w.heap.size) (Nat.le_refl _)));have p0 := HQ.out.c0;have p1 := HQ.out.c1;have p2 := HQ.out.c2;have r0 := f.out.c0;have r1 := f.out.c1;have r2 := f.out.c2;have t0 := f.out.thaw 0;have t1 := f.out.thaw 1;have t2 := f.out.thaw 2;clear g;go_wp2;have e0 := aa.out.c0;have e1 := aa.out.c1;have e2 := aa.out.c2;exact bodyPost_ret (v := .agg (mdC n.vr (.slice ae n.es.length ce) (.slice ac n.cs.length cc))) (by simp [results, Tryz.results21, go_sem, e0, e1, e2]) rfl ⟨ae, ce, ac, cc, rfl, Y.out, Z.out, aH.out⟩

set_option maxHeartbeats 12800000
set_option maxRecDepth 100000
theorem z7b : ∀ {l : List Cmd} {m n : Mdl}, foldM m l = some n -> ∀ c, c ∈ l -> mayC c = true
 | [], m, n, _, c, hc => by cases hc
 | d :: r, m, n, h, c, hc => by
  rw [foldM] at h
  split at h
  ·rename_i hd
   rcases List.mem_cons.1 hc with rfl | hc
   ·exact hd
   ·exact z7b h c hc
  ·cases h
theorem ze8 : ∀ {l : List Cmd} {m : Mdl}, foldM m l = none -> ∃ c, c ∈ l /\ mayC c = false
 | [], m, h => by rw [foldM] at h; cases h
 | d :: r, m, h => by
  rw [foldM] at h
  split at h
  ·obtain ⟨c, h1, h2⟩ := ze8 h
   exact ⟨c, by simp [h1], h2⟩
  ·rename_i hd
   exact ⟨d, by simp, by simpa using hd⟩
theorem zg6 (w : World) (a : Option Addr) (cap : Nat) (l : List Cmd) (hX : SlM w (Old w) (.slice a l.length cap) l) : Calls Tryz.prog 19 #[.slice a l.length cap] w fun e w' => e = .returned (.slice a (l.take 20).length cap) /\ w' = w := by
 have hl := hX.len;obtain ⟨n, HN⟩ := nmd ((l.take 20).length);have hn := HN.out;rw [List.length_take] at hn;rw [<- HN.out];obtain ⟨L, HL⟩ := nmd (l.length);rw [<- HL.out] at hn hl ⊢;clear hX
 by_cases h20 : 20 < L
 ·have h1 : (20 : Int) < L := by omega
  have h2 : (20 : Int) <= cap := by omega
  obtain rfl : n = 20 := by omega
  clear hn hl HN
  go_enter Tryz.func19, Tryz.ntmps19
  go_wp2;go_ret;exact ⟨rfl, rfl⟩
 ·have h1 : ¬ (20 : Int) < L := by omega
  obtain rfl : n = L := by omega
  clear hn hl HN
  go_enter Tryz.func19, Tryz.ntmps19
  go_wp2;go_ret;exact ⟨rfl, rfl⟩
theorem short_sl {w : World} {a : Option Addr} {cap : Nat} {l : List Cmd} (hX : SlM w (Old w) (.slice a l.length cap) l) : SlM w (Old w) (.slice a (l.take 20).length cap) (l.take 20) := by
 by_cases h : 20 <= l.length
 ·have h2 := hX.take 20 h
  rwa [show (l.take 20).length = 20 by rw [List.length_take]; omega]
 ·rw [List.take_of_length_le (by omega)]; exact hX
theorem zfe (w : World) (a : Option Addr) (cap : Nat) (l0 : List Cmd) (hX0 : SlM w (Old w) (.slice a l0.length cap) l0) (hF0 : ∀ c, c ∈ l0 -> ∀ x, x ∈ c.ch -> FitE x.e) (hV : EnvC w) :
  Calls Tryz.prog 4 #[.slice a l0.length cap] w fun e w' => e = .returned (.bool true) /\ Below w.heap.size w w' := by
 have D := hid (zg6 w a cap l0 hX0);have hX := short_sl hX0
 have hF : ∀ c, c ∈ l0.take 20 -> ∀ x, x ∈ c.ch -> FitE x.e := fun c hc => hF0 c (List.mem_of_mem_take hc)
 obtain ⟨L0, Y⟩ := nmd (l0.length);rw [<- Y.out] at D ⊢
 generalize l0.take 20 = l at *
 clear hX0 hF0 Y;have E := hid (zgh w a cap l hX hF hV);have F := hid (fun W (hb : Below w.heap.size w W) hM n hn => zgc W a cap l (hX.old hb) hF (hV.below hb) hM n hn);have Z := hid (fun W => zfq W);have HX := hid hX;have aa := hX.len;obtain ⟨L, HL⟩ := nmd (l.length);rw [<- HL.out] at HX aa D E F
 have hL : L <= 9223372036854775807 := by omega
 clear hX hF hV aa
 unfold FoldP at E
 go_enter Tryz.func4, Tryz.ntmps4
 go_wp2_with fail
 refine D.out.mono ?_;rintro e w1 ⟨rfl, rfl⟩;clear D
 go_wp2_with fail
 refine E.out.mono ?_;clear E;rintro e w2 ⟨G, s⟩
 cases hfm : foldM zeroM l with
 | none =>
  rw [hfm] at s;simp only at s;subst s;have af := hid (ze8 hfm);clear hfm F;obtain ⟨w3, b⟩ := nmd (w2.alloc (.cells #[.int .i64 0, .slice none 0 0, .slice none 0 0] 25));obtain ⟨N, HN⟩ := nmd (w2.heap.size)
  have p : Below w2.heap.size w2 w3 := by rw [b.out]; exact z04 _ _
  have y : Hid (Row w3 N 25 [.int .i64 0, .slice none 0 0, .slice none 0 0]) := hid (by rw [b.out, HN.out]; exact z02 w2 #[.int .i64 0, .slice none 0 0, .slice none 0 0] 25);have t := hid (z00 G p);clear p G;go_wp2;rw [<- HN.out, <- b.out];clear b HN
  go_loopw [16] (fun i wr => ∃ k : Nat, k <= L /\ i = .int .i64 k /\ Hid (∀ j c, j < k -> l[j]? = some c -> mayC c = true) /\ Hid (Below w3.heap.size w3 wr)) (fun i _ => L - (intOf i).toNat)
  case atStart => exact ⟨0, Nat.zero_le _, rfl, hid (fun j c h => by omega), hid (Below.refl _ _)⟩
  case round =>
   obtain ⟨k, hk, rfl, U, u⟩ := hrel
   by_cases hlt : k < L
   ·obtain ⟨c, hc⟩ : ∃ c, l[k]? = some c := ⟨_, List.getElem?_eq_getElem (by have := HL.out; omega)⟩
    have HC := hid hc;obtain ⟨b0, au, hb, f, rfl, -, x0, x1, x2, -⟩ := (HX.out.old (z00 t.out u.out)).get hc;clear hc;obtain ⟨Lh, V⟩ := nmd (c.ch.length);have g := hid (fun W => z7y W c hb f);obtain ⟨wc, q⟩ := nmd (wr.alloc (.cells #[.int .i64 c.cl, .int .i64 c.sq, .slice hb Lh f] 28));have z : Hid (Below w3.heap.size w3 wc) := hid (z00 u.out (by rw [q.out]; exact z04 _ _));rw [<- V.out] at g x2
    go_wp2_with fail
    rw [<- q.out];clear x0 x1 x2 q;refine (g.out wc).mono ?_;rintro e w5 ⟨rfl, A⟩;have H := hid (z00 z.out A);clear A g z
    cases hm : mayC c with
    | false =>
     clear hm
     go_wp2_with fail
     refine (Z.out w5).mono ?_;rintro e w6 ⟨rfl, ag⟩;have B := hid (z00 H.out ag);have X := hid (y.out.below B.out);clear ag;have n0 := X.out.c0;have n1 := X.out.c1;have n2 := X.out.c2
     go_wp2_with fail
     clear n0 n1 n2;have HC := zaq w6 zeroM none none none none 0 0 0 0 (Sl.nil _ _ _ _) (Sl.nil _ _ _ _) (Sl.nil _ _ _ _) (Sl.nil _ _ _ _);simp only [List.length_nil] at HC;refine HC.mono ?_;clear HC;rintro e w7 ⟨rfl, ah⟩;have C := hid (z00 t.out (z00 B.out ah));clear ah;go_wp2;go_ret;exact ⟨rfl, C.out⟩
    | true =>
     have ai : Hid (∀ j c, j < k + 1 -> l[j]? = some c -> mayC c = true) := hid (fun j d hj hd => by
      by_cases e : j = k
      ·subst e; rw [HC.out] at hd; cases hd; exact hm
      ·exact U.out j d (by omega) hd)
     clear hm;go_wp2;go_roundw
     case rel => exact ⟨k + 1, by omega, by go_num, ai, H⟩
     case measure => simp [intOf]; omega
   ·obtain ⟨c, h1, h2⟩ := af.out
    obtain ⟨j, hj⟩ := List.getElem?_of_mem h1;have h3 := U.out j c (by have := (List.getElem?_eq_some_iff.1 hj).1; have := HL.out; omega) hj;rw [h2] at h3
    cases h3
 | some m =>
  rw [hfm] at s;simp only at s;obtain ⟨ae, ce, ac, cc, rfl, I, J⟩ := s;have r := hid (fun W (hb : Below w1.heap.size w1 W) => F.out W hb (z7b hfm) m hfm);have aw := hid (z7b hfm);clear hfm F;obtain ⟨v, es, cs⟩ := m;simp only at I J r ⊢;obtain ⟨Le, M⟩ := nmd (es.length);obtain ⟨Lc, O⟩ := nmd (cs.length);rw [<- M.out] at I r ⊢;rw [<- O.out] at J r ⊢;obtain ⟨w3, b⟩ := nmd (w2.alloc (.cells #[.int .i64 v, .slice ae Le ce, .slice ac Lc cc] 25));obtain ⟨N, HN⟩ := nmd (w2.heap.size)
  have p : Below w2.heap.size w2 w3 := by rw [b.out]; exact z04 _ _
  have y : Hid (Row w3 N 25 [.int .i64 v, .slice ae Le ce, .slice ac Lc cc]) := hid (by rw [b.out, HN.out]; exact z02 w2 #[.int .i64 v, .slice ae Le ce, .slice ac Lc cc] 25);have t := hid (z00 G p);have ax := hid (I.old p);have ay := hid (J.old p);clear p G I J;go_wp2;rw [<- HN.out, <- b.out];clear b HN
  go_loopw [16] (fun i wr => ∃ k : Nat, k <= L /\ i = .int .i64 k /\ Hid (Below w3.heap.size w3 wr)) (fun i _ => L - (intOf i).toNat)
  case atStart => exact ⟨0, Nat.zero_le _, rfl, hid (Below.refl _ _)⟩
  case round =>
   obtain ⟨k, hk, rfl, u⟩ := hrel
   by_cases hlt : k < L
   ·obtain ⟨c, hc⟩ : ∃ c, l[k]? = some c := ⟨_, List.getElem?_eq_getElem (by have := HL.out; omega)⟩
    have az := hid (aw.out c (List.mem_of_getElem? hc));obtain ⟨b0, au, hb, f, rfl, -, x0, x1, x2, -⟩ := (HX.out.old (z00 t.out u.out)).get hc;clear hc;obtain ⟨Lh, V⟩ := nmd (c.ch.length);have g := hid (fun W => z7y W c hb f);obtain ⟨wc, q⟩ := nmd (wr.alloc (.cells #[.int .i64 c.cl, .int .i64 c.sq, .slice hb Lh f] 28));have z : Hid (Below w3.heap.size w3 wc) := hid (z00 u.out (by rw [q.out]; exact z04 _ _));rw [<- V.out] at g x2;rw [az.out] at g
    go_wp2_with fail
    rw [<- q.out];clear x0 x1 x2 q;refine (g.out wc).mono ?_;rintro e w5 ⟨rfl, A⟩;have H := hid (z00 z.out A);clear A g z;go_wp2;go_roundw
    case rel => exact ⟨k + 1, by omega, by go_num, H⟩
    case measure => simp [intOf]; omega
   ·go_wp2
    have R : Hid (∀ W, Below w3.heap.size w3 W -> W.cell? ⟨N, 0, none⟩ = some (.int .i64 v) /\ W.cell? ⟨N, 1, none⟩ = some (.slice ae Le ce) /\ W.cell? ⟨N, 2, none⟩ = some (.slice ac Lc cc)) := hid (fun W h => ⟨(y.out.below h).cell rfl, (y.out.below h).cell rfl, (y.out.below h).cell rfl⟩);have B := hid u.out.drew;refine wp_region_noPanic ?_;refine wp_region_held_drew (S := fun W => W.cell? ⟨N, 0, none⟩ = some (.int .i64 v) /\ W.cell? ⟨N, 1, none⟩ = some (.slice ae Le ce) /\ W.cell? ⟨N, 2, none⟩ = some (.slice ac Lc cc)) (by kernel_rfl) (R.out _ B.out) (fun hz => ?_)
    generalize wr.drew = w6 at *
    refine wR 0 { dst := some 34, op := Go.Op.call { callee := Go.Callee.value (Go.Operand.func 16), args := #[], argTypes := #[] }, type := 4, pos := "law.go:55", after := #[], guard := none } (fun K hK => ?_)
    go_simp
    refine (Z.out w6).mono ?_;rintro e w7 ⟨rfl, o⟩;have C := hid (z00 B.out o);clear o
    go_wp2_with fail
    refine hK.out _ _ ?_ (fun hz1 => ?_)
    ·exact R.out _ C.out
    clear hK K
    try simp only [Act.put, la, lb, lc]
    refine wT 1 { dst := some 35, op := Go.Op.move (Go.Operand.tmp 34), type := 4, pos := "law.go:55", after := #[{ on := 0, ground := Go.Ground.data }, { on := 0, ground := Go.Ground.chain }], guard := none } (v := ?_) (Or.inl ⟨by rfl, ?_⟩) ?_
    rotate_left
    ·(intro w hSw; (try dsimp only at hSw); go_simp) <;> with_reducible rfl
    simp only [Act.put, la, lb, lc];refine wT 2 { dst := some 36, op := Go.Op.move (Go.Operand.tmp 4), type := 30, pos := "law.go:55", after := #[{ on := 1, ground := Go.Ground.guard }], guard := some (1, true) } (v := ?_) (Or.inl ⟨by rfl, ?_⟩) ?_
    rotate_left
    ·(intro w hSw; (try dsimp only at hSw); go_simp) <;> with_reducible rfl
    simp only [Act.put, la, lb, lc];refine wT 3 { dst := some 37, op := Go.Op.binOp Go.BinOp.eql 30 (Go.Operand.tmp 36) (Go.Operand.const (Go.Value.int Go.IntKind.i64 0)) 30, type := 4, pos := "law.go:55", after := #[{ on := 2, ground := Go.Ground.data }, { on := 1, ground := Go.Ground.guard }], guard := some (1, true) } (v := ?_) (Or.inl ⟨by rfl, ?_⟩) ?_
    rotate_left
    ·(intro w hSw; (try dsimp only at hSw); go_simp) <;> with_reducible rfl
    simp only [Act.put, la, lb, lc];refine wT 4 { dst := some 38, op := Go.Op.pick (Go.Operand.tmp 35) (Go.Operand.tmp 37) (Go.Operand.const (Go.Value.bool false)), type := 4, pos := "law.go:55", after := #[{ on := 1, ground := Go.Ground.data }, { on := 3, ground := Go.Ground.data }], guard := none } (v := ?_) (Or.inl ⟨by rfl, ?_⟩) ?_
    rotate_left
    ·(intro w hSw; (try dsimp only at hSw); go_simp) <;> with_reducible rfl
    simp only [Act.put, la, lb, lc];refine wT 5 { dst := some 39, op := Go.Op.move (Go.Operand.tmp 38), type := 4, pos := "law.go:55", after := #[{ on := 4, ground := Go.Ground.data }, { on := 1, ground := Go.Ground.chain }], guard := none } (v := ?_) (Or.inl ⟨by rfl, ?_⟩) ?_
    rotate_left
    ·(intro w hSw; (try dsimp only at hSw); go_simp) <;> with_reducible rfl
    simp only [Act.put, la, lb, lc];refine wT 6 { dst := some 40, op := Go.Op.load 25 (Go.Operand.tmp 3), type := 25, pos := "law.go:55", after := #[{ on := 5, ground := Go.Ground.guard }], guard := some (5, true) } (v := ?_) (Or.inl ⟨by rfl, ?_⟩) ?_
    rotate_left
    ·(intro w hSw; (try dsimp only at hSw); go_simp) <;> with_reducible rfl
    simp only [Act.put, la, lb, lc];refine wT 7 { dst := some 41, op := Go.Op.move (Go.Operand.tmp 0), type := 41, pos := "law.go:55", after := #[{ on := 5, ground := Go.Ground.guard }], guard := some (5, true) } (v := ?_) (Or.inl ⟨by rfl, ?_⟩) ?_
    rotate_left
    ·(intro w hSw; (try dsimp only at hSw); go_simp) <;> with_reducible rfl
    simp only [Act.put, la, lb, lc];refine wR 8 { dst := some 42, op := Go.Op.call { callee := Go.Callee.value (Go.Operand.func 21), args := #[Go.Operand.tmp 41], argTypes := #[41] }, type := 25, pos := "law.go:55", after := #[{ on := 7, ground := Go.Ground.data }, { on := 5, ground := Go.Ground.chain }, { on := 5, ground := Go.Ground.guard }], guard := some (5, true) } (fun K hK => ?_)
    go_simp
    refine (r.out w7 (z00 t.out C.out)).mono ?_;rintro e w8 ⟨aA, aB, aC, aD, rfl, aj, aq, o⟩;have T := hid (z00 C.out o)
    go_wp2_with fail
    refine hK.out _ _ ?_ (fun hz2 => ?_)
    ·exact R.out _ T.out
    clear hK K
    try simp only [Act.put, la, lb, lc]
    have HC := zaq w8 ⟨v, es, cs⟩ ae aA ac aC ce aB cc aD (by simp only; rw [<- M.out]; exact ax.out.old T.out) (by simp only; rw [<- M.out]; exact aj) (by simp only; rw [<- O.out]; exact ay.out.old T.out) (by simp only; rw [<- O.out]; exact aq);simp only at HC;rw [<- M.out, <- O.out] at HC;clear aj aq o;refine wR 9 { dst := some 43, op := Go.Op.call { callee := Go.Callee.value (Go.Operand.func 17), args := #[Go.Operand.tmp 40, Go.Operand.tmp 42], argTypes := #[25, 25] }, type := 4, pos := "law.go:55", after := #[{ on := 6, ground := Go.Ground.data }, { on := 8, ground := Go.Ground.data }, { on := 8, ground := Go.Ground.chain }, { on := 5, ground := Go.Ground.guard }], guard := some (5, true) } (fun K hK => ?_)
    go_simp
    refine (HC).mono ?_;rintro e w9 ⟨rfl, o⟩;have ar := hid (z00 T.out o);clear o
    go_wp2_with fail
    refine hK.out _ _ ?_ (fun hz3 => ?_)
    ·exact R.out _ ar.out
    clear hK K
    try simp only [Act.put, la, lb, lc]
    refine wT 10 { dst := some 44, op := Go.Op.pick (Go.Operand.tmp 39) (Go.Operand.tmp 43) (Go.Operand.const (Go.Value.bool false)), type := 4, pos := "law.go:55", after := #[{ on := 5, ground := Go.Ground.data }, { on := 9, ground := Go.Ground.data }], guard := none } (v := ?_) (Or.inl ⟨by rfl, ?_⟩) ?_
    rotate_left
    ·(intro w hSw; (try dsimp only at hSw); go_simp) <;> with_reducible rfl
    simp only [Act.put, la, lb, lc];refine wT 11 { dst := some 2, op := Go.Op.assign (Go.Operand.tmp 44), type := 4, pos := "law.go:55", after := #[{ on := 10, ground := Go.Ground.data }, { on := 9, ground := Go.Ground.chain }, { on := 0, ground := Go.Ground.phase }, { on := 1, ground := Go.Ground.phase }, { on := 2, ground := Go.Ground.phase }, { on := 3, ground := Go.Ground.phase }, { on := 4, ground := Go.Ground.phase }, { on := 5, ground := Go.Ground.phase }, { on := 6, ground := Go.Ground.phase }, { on := 7, ground := Go.Ground.phase }, { on := 8, ground := Go.Ground.phase }, { on := 9, ground := Go.Ground.phase }, { on := 10, ground := Go.Ground.phase }], guard := none } (v := ?_) (Or.inl ⟨by rfl, ?_⟩) ?_
    rotate_left
    ·(intro w hSw; (try dsimp only at hSw); go_simp) <;> with_reducible rfl
    simp only [Act.put, la, lb, lc];refine wpAnyH_done (by kernel_rfl) ?_ _;refine NoPanic.normal ?_;go_wp2;go_ret;exact ⟨rfl, z00 t.out ar.out⟩
end Go.Proofs.YtdkkkeoicekdgaaGreatDoor.Md

end
