/- Package model: a result stored for a new client. -/
import Derived.Test.YtdkkkeoicekdgaaGreatDoorZEg47

namespace Go.Proofs.YtdkkkeoicekdgaaGreatDoor.Md
set_option maxHeartbeats 12800000
set_option maxRecDepth 100000
open Go.RowKit Go.Maps Go.WideShapes Go.WideMaps Go.Proofs.YtdkkkeoicekdgaaGreatDoor Go.Proofs.YtdkkkeoicekdgaaGreatDoor.Ca
theorem z93 {w : World} {g : Nat} {t : TypeId} {a b c d : Int} (h : Row w g t [.int .i64 a, .int .i64 b, .int .i64 c, .int .i64 d]) : SlL w (Old w) (.slice (some ⟨g, 0, none⟩) 1 1) [⟨a, b, c, d⟩] :=
 ⟨some ⟨g, 0, none⟩, 1, rfl, Nat.le_refl _, by omega, fun _ => ⟨g, 0, rfl, h.lt, fun j x hj => by
  cases j with
  | zero =>
   obtain rfl := Option.some.inj hj;refine ⟨[.int .i64 a, .int .i64 b, .int .i64 c, .int .i64 d], rfl, rfl, fun i u hu => ?_⟩;have := h.cell hu
   simpa using this
  | succ j => simp at hj⟩⟩
theorem SlL.zero {w : World} {S : Nat -> Prop} (a : Option Addr) (c : Nat) (hc : c <= 9223372036854775807) : SlL w S (.slice a 0 c) [] := ⟨a, c, rfl, Nat.zero_le _, hc, fun h => absurd rfl h⟩
theorem zdr {w : World} {A i : Nat} {u a b c d : Value} (h : w.cell? ⟨A + 1, 0, none⟩ = some a /\ w.cell? ⟨A + 1, 1, none⟩ = some b /\ w.cell? ⟨A + 1, 2, none⟩ = some c /\ w.cell? ⟨A + 1, 3, none⟩ = some d) :
  (w.setCell ⟨A, i, none⟩ u).cell? ⟨A + 1, 0, none⟩ = some a /\ (w.setCell ⟨A, i, none⟩ u).cell? ⟨A + 1, 1, none⟩ = some b /\ (w.setCell ⟨A, i, none⟩ u).cell? ⟨A + 1, 2, none⟩ = some c /\ (w.setCell ⟨A, i, none⟩ u).cell? ⟨A + 1, 3, none⟩ = some d := by
 have hb : (w.setCell ⟨A, i, none⟩ u).heap[A + 1]? = w.heap[A + 1]? := Below.heap_setCell _ _ _ _ (by simp);exact ⟨(World.cell?_of_block (a := ⟨A + 1, 0, none⟩) hb).trans h.1, (World.cell?_of_block (a := ⟨A + 1, 1, none⟩) hb).trans h.2.1, (World.cell?_of_block (a := ⟨A + 1, 2, none⟩) hb).trans h.2.2.1, (World.cell?_of_block (a := ⟨A + 1, 3, none⟩) hb).trans h.2.2.2⟩
theorem z4k {w : World} {B i n : Nat} {a : Option Addr} {cap p : Nat} {xs : List Cli} (h : SlL w (Old w) (.slice a n cap) xs) (hp : p <= xs.length) (hc : w.cell? ⟨B, i, none⟩ = some (.slice a p cap)) :
  ∃ a' c', w.cell? ⟨B, i, none⟩ = some (.slice a' (xs.take p).length c') /\ SlL w (Old w) (.slice a' (xs.take p).length c') (xs.take p) := by
 have hl : (xs.take p).length = p := by rw [List.length_take, Nat.min_eq_left hp]
 rw [hl]; exact ⟨a, cap, hc, h.take p hp⟩
theorem z8c {w : World} {B i n : Nat} {ad : Addr} {cap p : Nat} {xs : List Cli} (h : SlL w (Old w) (.slice (some ad) xs.length cap) xs) (hn : n = xs.length) (hp : p <= xs.length) (hc : w.cell? ⟨B, i, none⟩ = some (.slice (some (ad.add (p * 4))) (n - p) (cap - p))) :
  ∃ a' c', w.cell? ⟨B, i, none⟩ = some (.slice a' (xs.drop p).length c') /\ SlL w (Old w) (.slice a' (xs.drop p).length c') (xs.drop p) := by
 have hl : (xs.drop p).length = n - p := by rw [List.length_drop, hn]
 rw [hl]; exact ⟨_, _, hc, by rw [hn]; exact h.drop p hp⟩
theorem zat {w : World} {B i n p : Nat} {a : Option Addr} {xs : List Cli} (hn : n = xs.length) (hp : p = n) (hc : w.cell? ⟨B, i, none⟩ = some (.slice a 0 0)) :
  ∃ a' c', w.cell? ⟨B, i, none⟩ = some (.slice a' (xs.drop p).length c') /\ SlL w (Old w) (.slice a' (xs.drop p).length c') (xs.drop p) := by
 rw [List.drop_of_length_le (by omega)]; exact ⟨a, 0, hc, SlL.zero a 0 (by omega)⟩
theorem zg6 {w : World} {S : Nat -> Prop} {v : Value} {xs : List Cli} {A : Nat} {t : TypeId} {x0 x1 x2 x3 : Value} (h : SlL w S v xs) (hA : Row w A t [x0, x1, x2, x3]) (h1 : ∀ n, x1 ≠ .int .i64 n) (h2 : ∀ n, x2 ≠ .int .i64 n) (h3 : ∀ n, x3 ≠ .int .i64 n) : SlL w (fun b => S b /\ b ≠ A) v xs := by
 obtain ⟨a, g, hv, k1, k2, k3⟩ := h;refine ⟨a, g, hv, k1, k2, fun hne => ?_⟩;obtain ⟨b, c, ha, hb, f⟩ := k3 hne;refine ⟨b, c, ha, ⟨hb, fun e => ?_⟩, f⟩;subst e;have hx := (atL (f 0 (xs[0]'(List.length_pos_iff.2 hne)) (List.getElem?_eq_getElem _))).2.1
 have d : w.cell? ⟨b, c + 0 * 4 + 1, none⟩ = [x0, x1, x2, x3][c + 0 * 4 + 1]? := by
  have hh : w.heap[b]? = some (.cells [x0, x1, x2, x3].toArray t (0, 0)) := hA
  simp [World.cell?, hh]
 rw [d] at hx
 match c, hx with
 | 0, hx => exact h1 _ (Option.some.inj hx)
 | 1, hx => exact h2 _ (Option.some.inj hx)
 | 2, hx => exact h3 _ (Option.some.inj hx)
 | _ + 3, hx => simp at hx
theorem StAt.but {w w' : World} {m : Mdl} {ae ac : Option Addr} {ce cc M A : Nat} {t : TypeId} {x0 x1 x2 x3 : Value} (h : StAt w m ae ce ac cc M) (hA : Row w A t [x0, x1, x2, x3])
  (h0 : ∀ s, x0 ≠ .string s) (h1 : ∀ s, x1 ≠ .string s) (h2 : ∀ s, x2 ≠ .string s) (h3 : ∀ s, x3 ≠ .string s) (k1 : ∀ n, x1 ≠ .int .i64 n) (k2 : ∀ n, x2 ≠ .int .i64 n) (k3 : ∀ n, x3 ≠ .int .i64 n) (hb : But A w w') : StAt w' m ae ce ac cc M := by
 obtain ⟨n, D, a, hg⟩ := h.map;have he := z2t h.es hA (z7b h0 h1 h2 h3);have hc := zg6 h.cs hA k1 k2 k3;refine ⟨Sl.keep he (fun b hb2 => hb.block b hb2.2) (fun b hb2 => Nat.lt_of_lt_of_eq hb2.1 hb.size.symm) (fun _ _ h => h), Sl.keep hc (fun b hb2 => hb.block b hb2.2) (fun b hb2 => Nat.lt_of_lt_of_eq hb2.1 hb.size.symm) (fun _ _ h => h), h.nil, n, D, z1b a (hb.block _ (fun e => ?_)), hg⟩;subst e;obtain ⟨es, c, hh, -⟩ := a;have d : w.heap[M]? = some (.cells [x0, x1, x2, x3].toArray t (0, 0)) := hA;rw [d] at hh
 injection hh with hh; cases hh
theorem zbr (w : World) (m : Mdl) (ae : Option Addr) (ce : Nat) (ad : Addr) (cc M : Nat) (c : Cli) (hst : StAt w m ae ce (some ad) cc M) (hsr : SrtC m.cs) (hl : m.cs.length <= 16) (hle : m.es.length <= 1000) (hid : ∀ x, x ∈ m.cs -> 1 <= x.id /\ x.id <= 1073741824) (hci : 1 <= c.id /\ c.id <= 1073741824) (hun : ∀ x, x ∈ m.cs -> x.id ≠ c.id) :
  Calls Tryz.prog 83 #[.agg (stC m.vr (.slice ae m.es.length ce) (.slice (some ad) m.cs.length cc) M), clV c] w (z3h ⟨m.vr, m.es, putL c m.cs⟩ w) := by
 obtain ⟨v, es, cs⟩ := m;obtain ⟨ci, cq, ca, cv⟩ := c;simp only at hst hsr hl hle hid hci hun ⊢;have aP := Lib.hid hst.lt;obtain ⟨n0, D, ay, ag⟩ := hst.map;have aQ := Lib.hid ay;have bd := Lib.hid ag;have bf := Lib.hid hsr;have bg := Lib.hid hid;obtain ⟨Le, R⟩ := nmd (es.length);obtain ⟨Lc, a⟩ := nmd (cs.length)
 have bh : Lc <= 16 := by have := a.out; omega
 have bi : Le <= 1000 := by have := R.out; omega
 have aR : Hid (keyOf Tryz.prog 3 (.int .i64 ci) = some (kI ci)) := Lib.hid (keyOf_int_mk Tryz.underlying3 (wfI (by omega) (by omega)));have G := hst.cs.len;simp only at G;rw [<- R.out, <- a.out]
 have aZ : Lc <= cc := by have := a.out; omega
 have bc : cc <= 9223372036854775807 := G.2.2;obtain ⟨W1, u⟩ := nmd (((w.alloc (.cells (stC v (.slice ae Le ce) (.slice (some ad) Lc cc) M) 73)).alloc (.cells #[.int .i64 ci, .int .i64 cq, .int .i64 ca, .int .i64 cv] 32)).alloc (.cells #[.int .i64 0, .slice none 0 0, .slice none 0 0, .map none] 73));have aS : Hid (W1.heap.size = w.heap.size + 3) := Lib.hid (by rw [u.out]; simp);have E : Hid (Below w.heap.size w W1) := Lib.hid (by rw [u.out]; exact z4q w _ _ _);have T : Hid (Row W1 w.heap.size 73 [.int .i64 v, .slice ae Le ce, .slice (some ad) Lc cc, .map (some M)]) := Lib.hid (by rw [u.out]; exact ((z02 w (stC v (.slice ae Le ce) (.slice (some ad) Lc cc) M) _).alloc _).alloc _)
 have H : Hid (Row W1 (w.heap.size + 1) 32 [.int .i64 ci, .int .i64 cq, .int .i64 ca, .int .i64 cv]) := Lib.hid (by
  rw [u.out];have h := (z02 (w.alloc (.cells (stC v (.slice ae Le ce) (.slice (some ad) Lc cc) M) 73)) #[.int .i64 ci, .int .i64 cq, .int .i64 ca, .int .i64 cv] 32).alloc (.cells #[.int .i64 0, .slice none 0 0, .slice none 0 0, .map none] 73)
  rwa [World.size_alloc] at h)
 have aT : Hid (Row W1 (w.heap.size + 1 + 1) 73 [.int .i64 0, .slice none 0 0, .slice none 0 0, .map none]) := Lib.hid (by
  rw [u.out];have h := z02 ((w.alloc (.cells (stC v (.slice ae Le ce) (.slice (some ad) Lc cc) M) 73)).alloc (.cells #[.int .i64 ci, .int .i64 cq, .int .i64 ca, .int .i64 cv] 32)) #[.int .i64 0, .slice none 0 0, .slice none 0 0, .map none] 73
  simpa only [World.size_alloc] using h)
 have aU : Hid (OMm W1 M n0 D) := Lib.hid (z1b aQ.out (E.out.block _ aP.out.lt))
 have a2 : (((w.alloc (.cells (stC v (.slice ae Le ce) (.slice (some ad) Lc cc) M) 73)).alloc (.cells #[.int .i64 ci, .int .i64 cq, .int .i64 ca, .int .i64 cv] 32)).alloc (.cells #[.int .i64 0, .slice none 0 0, .slice none 0 0, .map none] 73)).cell? ⟨w.heap.size, 3, none⟩ = some (.map (some M)) := by rw [<- u.out]; exact T.out.cell rfl
 have b0 : (((w.alloc (.cells (stC v (.slice ae Le ce) (.slice (some ad) Lc cc) M) 73)).alloc (.cells #[.int .i64 ci, .int .i64 cq, .int .i64 ca, .int .i64 cv] 32)).alloc (.cells #[.int .i64 0, .slice none 0 0, .slice none 0 0, .map none] 73)).cell? ⟨w.heap.size + 1, 0, none⟩ = some (.int .i64 ci) := by rw [<- u.out]; exact H.out.cell rfl
 have az : Hid (OMm (((w.alloc (.cells (stC v (.slice ae Le ce) (.slice (some ad) Lc cc) M) 73)).alloc (.cells #[.int .i64 ci, .int .i64 cq, .int .i64 ca, .int .i64 cv] 32)).alloc (.cells #[.int .i64 0, .slice none 0 0, .slice none 0 0, .map none] 73)) M n0 D) := Lib.hid (by rw [<- u.out]; exact aU.out)
 have aA : Hid (Maps.has D (kI ci) = false) := Lib.hid (by
  cases hh : Maps.has D (kI ci) with
  | false => rfl
  | true =>
   obtain ⟨j, x, h1, h2, h3⟩ := (ag.has ci).1 hh
   exact absurd h3 (hun x (List.mem_of_getElem? h2)))
 have aV := Lib.hid hun;have U : Hid (∀ W, Below w.heap.size w W -> SlL W (Old W) (.slice (some ad) cs.length cc) cs) := Lib.hid (fun W h => hst.cs.old h)
 have o : Hid (∀ W, Below W1.heap.size W1 W -> (W.cell? ⟨w.heap.size + 1, 0, none⟩ = some (.int .i64 ci) /\ W.cell? ⟨w.heap.size + 1, 1, none⟩ = some (.int .i64 cq) /\ W.cell? ⟨w.heap.size + 1, 2, none⟩ = some (.int .i64 ca) /\ W.cell? ⟨w.heap.size + 1, 3, none⟩ = some (.int .i64 cv)) /\ W.cell? ⟨w.heap.size, 2, none⟩ = some (.slice (some ad) Lc cc) /\ W.frozen? ⟨w.heap.size, 2, none⟩ = false) := Lib.hid (fun W h =>
  ⟨⟨(H.out.below h).cell rfl, (H.out.below h).cell rfl, (H.out.below h).cell rfl, (H.out.below h).cell rfl⟩, (T.out.below h).cell rfl, (T.out.below h).thaw _⟩)
 have aB : Hid (∀ W a8 c8, Below w.heap.size w W -> OwnL W W1.heap.size (.slice a8 (Lc + 1) c8) (putL ⟨ci, cq, ca, cv⟩ cs) -> (putL ⟨ci, cq, ca, cv⟩ cs).length = Lc + 1 -> Calls Tryz.prog 39 #[.agg #[.int .i64 v, .slice ae Le ce, .slice a8 (Lc + 1) c8]] W (z3h ⟨v, es, putL ⟨ci, cq, ca, cv⟩ cs⟩ W)) := Lib.hid (fun W a8 c8 hb ho hpl => by
  have h := z4t W v ae ce es a8 c8 (putL ⟨ci, cq, ca, cv⟩ cs) (hst.es.old hb) (by rw [hpl]; exact OwnL.sl ho) hle (by omega) (zdg hsr) (fun x hx => by
   rcases z5d hx with rfl | hx
   ·exact ⟨by simp only; omega, by simp only; omega⟩
   ·have := hid x hx; omega)
  rw [hpl, <- R.out] at h
  exact h)
 clear hst hsr hl hle hid ay ag G hun
 go_enter Tryz.func83, Tryz.ntmps83
 go_wp2_with (at_lookup; refine wpList_lookup_own_ok_int _ rfl _ _ 71 rfl 3 3 .i64 lawI Tryz.underlying71 Tryz.underlying3 (zeroI _) M _ _ rfl az.out _ _ rfl aR.out ?_; intro cw hat hwc; rw [aA.out]; clear hat hwc)
 rw [<- u.out];clear a2 b0 az
 go_loopw [7] (fun v7 wr => ∃ p : Nat, p <= Lc /\ v7 = .int .i64 p /\ Hid (∀ (j : Nat) x, j < p -> cs[j]? = some x -> x.id < ci) /\ Hid (Below W1.heap.size W1 wr)) (fun v7 _ => Lc - (intOf v7).toNat)
 case atStart => exact ⟨0, Nat.zero_le _, rfl, Lib.hid (fun j x h => by omega), Lib.hid (Below.refl _ _)⟩
 case round =>
  obtain ⟨p, hp, rfl, V, F⟩ := hrel;obtain ⟨⟨q0, q1, q2, q3⟩, a3, -⟩ := o.out wr F.out;clear q1 q2 q3
  by_cases hlt : p < Lc
  focus
   obtain ⟨x, hx⟩ : ∃ x, cs[p]? = some x := ⟨_, List.getElem?_eq_getElem (by have := a.out; omega)⟩;obtain ⟨b, q, aC, hb, x0, -, -, -⟩ := (U.out wr (z00 E.out F.out)).get hx;obtain rfl := Option.some.inj aC;have ah := Lib.hid hx;obtain ⟨xi, xq, xa, xv⟩ := x;simp only at x0;clear hx hb aC
   by_cases hxl : xi < ci
   ·have aD : Hid (∀ (j : Nat) x, j < p + 1 -> cs[j]? = some x -> x.id < ci) := Lib.hid (fun j x hj hx => by
     rcases Nat.lt_or_eq_of_le (Nat.le_of_lt_succ hj) with h1 | rfl
     ·exact V.out j x h1 hx
     ·rw [ah.out] at hx; obtain rfl := Option.some.inj hx; exact hxl)
    go_wp2
    go_quiet (fail)
    have aE := Lib.hid (z0a F.out nq)
    generalize wr.drewN nq = W2 at *
    go_wp2;go_roundw
    case rel => exact ⟨p + 1, by omega, by go_num, aD, aE⟩
    case measure => simp [intOf]; omega
   have aW : Hid (ci < xi) := Lib.hid (by
    have := aV.out _ (List.mem_of_getElem? ah.out);simp only at this
    omega)
   have t : Hid (putL ⟨ci, cq, ca, cv⟩ cs = cs.take p ++ ⟨ci, cq, ca, cv⟩ :: cs.drop p) := Lib.hid (z5e (by have := a.out; omega) V.out (fun y hy => by rw [ah.out] at hy; obtain rfl := Option.some.inj hy; exact aW.out));have C : Hid ((putL ⟨ci, cq, ca, cv⟩ cs).length = Lc + 1) := Lib.hid (by rw [t.out]; have := a.out; simp; omega)
   have aF : (0 : Int) <= (p : Int) := by omega
   have aG : (p : Int) <= (Lc : Int) := by omega
   have aH : (p : Int) <= (cc : Int) := by omega
   go_wp2
   go_quiet (fail)
   have r := Lib.hid (z0a F.out nq)
   generalize wr.drewN nq = W2 at *
   have aX : ¬ cc = p := by omega
   clear x0;clear q0 a3;have I : Below W1.heap.size W1 W2.drew := r.out.drew;have J : Below W1.heap.size W1 (W2.alloc (.cells #[.int .i64 ci, .int .i64 cq, .int .i64 ca, .int .i64 cv] 32)).drew := (z00 r.out (z03 _ _)).drew;have n : Below W1.heap.size W1 ((W2.alloc (.cells #[.int .i64 ci, .int .i64 cq, .int .i64 ca, .int .i64 cv] 32)).alloc (.cells #[.slice (some ⟨b, q, none⟩) p cc, .slice (some ⟨W2.heap.size, 0, none⟩) 1 1, .slice (some ⟨b, q + p * 4, none⟩) (Lc - p) (cc - p)] 23)).drew := (z00 r.out (z3s _ _ _)).drew;obtain ⟨d, aI, -⟩ := o.out _ I;obtain ⟨f, aJ, -⟩ := o.out _ J;obtain ⟨ai, -, -⟩ := o.out _ n
   have L : Hid (z6b ((W2.alloc (.cells #[.int .i64 ci, .int .i64 cq, .int .i64 ca, .int .i64 cv] 32)).alloc (.cells #[.slice (some ⟨b, q, none⟩) p cc, .slice (some ⟨W2.heap.size, 0, none⟩) 1 1, .slice (some ⟨b, q + p * 4, none⟩) (Lc - p) (cc - p)] 23)).drew (W2.heap.size + 1) [cs.take p, [⟨ci, cq, ca, cv⟩], cs.drop p]) := Lib.hid (by
    have A := (U.out _ (z00 E.out n));have q1 := (z02 W2 #[.int .i64 ci, .int .i64 cq, .int .i64 ca, .int .i64 cv] 32).alloc (.cells #[.slice (some ⟨b, q, none⟩) p cc, .slice (some ⟨W2.heap.size, 0, none⟩) 1 1, .slice (some ⟨b, q + p * 4, none⟩) (Lc - p) (cc - p)] 23);have q2 := z02 (W2.alloc (.cells #[.int .i64 ci, .int .i64 cq, .int .i64 ca, .int .i64 cv] 32)) #[.slice (some ⟨b, q, none⟩) p cc, .slice (some ⟨W2.heap.size, 0, none⟩) 1 1, .slice (some ⟨b, q + p * 4, none⟩) (Lc - p) (cc - p)] 23;rw [World.size_alloc] at q2;refine ⟨by simp, fun k l hk => ?_⟩
    match k, hk with
    | 0, hk =>
     obtain rfl := Option.some.inj hk;exact z4k A (by have := a.out; omega) (q2.cell rfl)
    | 1, hk =>
     obtain rfl := Option.some.inj hk;exact ⟨some ⟨W2.heap.size, 0, none⟩, 1, q2.cell rfl, z93 q1⟩
    | 2, hk =>
     obtain rfl := Option.some.inj hk;exact z8c A a.out (by have := a.out; omega) (by rw [Addr.add_mid]; exact q2.cell rfl)
    | k + 3, hk => simp at hk)
   have HC : Hid (Calls Tryz.prog 129 #[.slice (some ⟨W2.heap.size + 1, 0, none⟩) 3 3] ((W2.alloc (.cells #[.int .i64 ci, .int .i64 cq, .int .i64 ca, .int .i64 cv] 32)).alloc (.cells #[.slice (some ⟨b, q, none⟩) p cc, .slice (some ⟨W2.heap.size, 0, none⟩) 1 1, .slice (some ⟨b, q + p * 4, none⟩) (Lc - p) (cc - p)] 23)).drew fun e w' => ∃ a8 c8, e = .returned (.slice a8 (Lc + 1) c8) /\ (w'.cell? ⟨w.heap.size + 1, 0, none⟩ = some (.int .i64 ci) /\ w'.cell? ⟨w.heap.size + 1, 1, none⟩ = some (.int .i64 cq) /\ w'.cell? ⟨w.heap.size + 1, 2, none⟩ = some (.int .i64 ca) /\ w'.cell? ⟨w.heap.size + 1, 3, none⟩ = some (.int .i64 cv)) /\ w'.cell? ⟨w.heap.size, 2, none⟩ = some (.slice (some ⟨b, q, none⟩) Lc cc) /\ w'.frozen? ⟨w.heap.size, 2, none⟩ = false /\ Hid (OwnL w' W1.heap.size (.slice a8 (Lc + 1) c8) (cs.take p ++ ⟨ci, cq, ca, cv⟩ :: cs.drop p)) /\ Hid (Below W1.heap.size W1 w')) := Lib.hid (by
    have h := z3p _ (W2.heap.size + 1) 3 [cs.take p, [⟨ci, cq, ca, cv⟩], cs.drop p] L.out (by simp) (by simp; omega) (by simp; have := a.out; omega)
    refine h.mono fun e w' hh => ?_
    obtain ⟨v8, he, g, hb⟩ := hh
    have N : [cs.take p, [(⟨ci, cq, ca, cv⟩ : Cli)], cs.drop p].flatten = cs.take p ++ ⟨ci, cq, ca, cv⟩ :: cs.drop p := by simp
    have i : (cs.take p ++ (⟨ci, cq, ca, cv⟩ : Cli) :: cs.drop p).length = Lc + 1 := by have := a.out; simp; omega
    rw [N] at g;obtain ⟨a8, c8, rfl, -⟩ := z0j g;have z := z00 n hb;obtain ⟨g1, g2, g3⟩ := o.out w' z;rw [i] at he;refine ⟨a8, c8, he, g1, g2, g3, Lib.hid ?_, Lib.hid z⟩;have h9 := z29 (B' := W1.heap.size) g (by have := n.size; exact this);rw [i] at h9
    have O : OwnL w' W1.heap.size (.slice a8 (Lc + 1) c8) (cs.take p ++ ⟨ci, cq, ca, cv⟩ :: cs.drop p) := by unfold OwnL; rw [i]; exact h9
    exact O)
  rotate_left
  have aj : Hid (p = Lc) := Lib.hid (by omega)
  by_cases hcp : cc = p
  focus
   have t : Hid (putL ⟨ci, cq, ca, cv⟩ cs = cs.take p ++ ⟨ci, cq, ca, cv⟩ :: cs.drop p) := Lib.hid (z5e (by have := a.out; omega) V.out (fun y hy => by have h9 := (List.getElem?_eq_some_iff.1 hy).1; have := a.out; have := aj.out; omega));have C : Hid ((putL ⟨ci, cq, ca, cv⟩ cs).length = Lc + 1) := Lib.hid (by rw [t.out]; have := a.out; simp; omega);subst hcp
   have aF : (0 : Int) <= (cc : Int) := by omega
   have aG : (cc : Int) <= (Lc : Int) := by omega
   have aH : (cc : Int) <= (cc : Int) := by omega
   go_wp2
   go_quiet (fail)
   have r := Lib.hid (z0a F.out nq)
   generalize wr.drewN nq = W2 at *
   clear q0 a3;have I : Below W1.heap.size W1 W2.drew := r.out.drew;have J : Below W1.heap.size W1 (W2.alloc (.cells #[.int .i64 ci, .int .i64 cq, .int .i64 ca, .int .i64 cv] 32)).drew := (z00 r.out (z03 _ _)).drew;have n : Below W1.heap.size W1 ((W2.alloc (.cells #[.int .i64 ci, .int .i64 cq, .int .i64 ca, .int .i64 cv] 32)).alloc (.cells #[.slice (some ad) cc cc, .slice (some ⟨W2.heap.size, 0, none⟩) 1 1, .slice (some ad) 0 0] 23)).drew := (z00 r.out (z3s _ _ _)).drew;obtain ⟨d, aI, -⟩ := o.out _ I;obtain ⟨f, aJ, -⟩ := o.out _ J;obtain ⟨ai, -, -⟩ := o.out _ n
   have L : Hid (z6b ((W2.alloc (.cells #[.int .i64 ci, .int .i64 cq, .int .i64 ca, .int .i64 cv] 32)).alloc (.cells #[.slice (some ad) cc cc, .slice (some ⟨W2.heap.size, 0, none⟩) 1 1, .slice (some ad) 0 0] 23)).drew (W2.heap.size + 1) [cs.take cc, [⟨ci, cq, ca, cv⟩], cs.drop cc]) := Lib.hid (by
    have A := (U.out _ (z00 E.out n));have q1 := (z02 W2 #[.int .i64 ci, .int .i64 cq, .int .i64 ca, .int .i64 cv] 32).alloc (.cells #[.slice (some ad) cc cc, .slice (some ⟨W2.heap.size, 0, none⟩) 1 1, .slice (some ad) 0 0] 23);have q2 := z02 (W2.alloc (.cells #[.int .i64 ci, .int .i64 cq, .int .i64 ca, .int .i64 cv] 32)) #[.slice (some ad) cc cc, .slice (some ⟨W2.heap.size, 0, none⟩) 1 1, .slice (some ad) 0 0] 23;rw [World.size_alloc] at q2;refine ⟨by simp, fun k l hk => ?_⟩
    match k, hk with
    | 0, hk =>
     obtain rfl := Option.some.inj hk;exact z4k A (by have := a.out; omega) (q2.cell rfl)
    | 1, hk =>
     obtain rfl := Option.some.inj hk;exact ⟨some ⟨W2.heap.size, 0, none⟩, 1, q2.cell rfl, z93 q1⟩
    | 2, hk =>
     obtain rfl := Option.some.inj hk;exact zat a.out aj.out (q2.cell rfl)
    | k + 3, hk => simp at hk)
   have HC : Hid (Calls Tryz.prog 129 #[.slice (some ⟨W2.heap.size + 1, 0, none⟩) 3 3] ((W2.alloc (.cells #[.int .i64 ci, .int .i64 cq, .int .i64 ca, .int .i64 cv] 32)).alloc (.cells #[.slice (some ad) cc cc, .slice (some ⟨W2.heap.size, 0, none⟩) 1 1, .slice (some ad) 0 0] 23)).drew fun e w' => ∃ a8 c8, e = .returned (.slice a8 (Lc + 1) c8) /\ (w'.cell? ⟨w.heap.size + 1, 0, none⟩ = some (.int .i64 ci) /\ w'.cell? ⟨w.heap.size + 1, 1, none⟩ = some (.int .i64 cq) /\ w'.cell? ⟨w.heap.size + 1, 2, none⟩ = some (.int .i64 ca) /\ w'.cell? ⟨w.heap.size + 1, 3, none⟩ = some (.int .i64 cv)) /\ w'.cell? ⟨w.heap.size, 2, none⟩ = some (.slice (some ad) Lc cc) /\ w'.frozen? ⟨w.heap.size, 2, none⟩ = false /\ Hid (OwnL w' W1.heap.size (.slice a8 (Lc + 1) c8) (cs.take cc ++ ⟨ci, cq, ca, cv⟩ :: cs.drop cc)) /\ Hid (Below W1.heap.size W1 w')) := Lib.hid (by
    have h := z3p _ (W2.heap.size + 1) 3 [cs.take cc, [⟨ci, cq, ca, cv⟩], cs.drop cc] L.out (by simp) (by simp; omega) (by simp; have := a.out; omega)
    refine h.mono fun e w' hh => ?_
    obtain ⟨v8, he, g, hb⟩ := hh
    have N : [cs.take cc, [(⟨ci, cq, ca, cv⟩ : Cli)], cs.drop cc].flatten = cs.take cc ++ ⟨ci, cq, ca, cv⟩ :: cs.drop cc := by simp
    have i : (cs.take cc ++ (⟨ci, cq, ca, cv⟩ : Cli) :: cs.drop cc).length = Lc + 1 := by have := a.out; simp; omega
    rw [N] at g;obtain ⟨a8, c8, rfl, -⟩ := z0j g;have z := z00 n hb;obtain ⟨g1, g2, g3⟩ := o.out w' z;rw [i] at he;refine ⟨a8, c8, he, g1, g2, g3, Lib.hid ?_, Lib.hid z⟩;have h9 := z29 (B' := W1.heap.size) g (by have := n.size; exact this);rw [i] at h9
    have O : OwnL w' W1.heap.size (.slice a8 (Lc + 1) c8) (cs.take cc ++ ⟨ci, cq, ca, cv⟩ :: cs.drop cc) := by unfold OwnL; rw [i]; exact h9
    exact O)
  rotate_left
  have aX : ¬ cc = p := hcp;clear hcp;have t : Hid (putL ⟨ci, cq, ca, cv⟩ cs = cs.take p ++ ⟨ci, cq, ca, cv⟩ :: cs.drop p) := Lib.hid (z5e (by have := a.out; omega) V.out (fun y hy => by have h9 := (List.getElem?_eq_some_iff.1 hy).1; have := a.out; have := aj.out; omega));have C : Hid ((putL ⟨ci, cq, ca, cv⟩ cs).length = Lc + 1) := Lib.hid (by rw [t.out]; have := a.out; simp; omega)
  have aF : (0 : Int) <= (p : Int) := by omega
  have aG : (p : Int) <= (Lc : Int) := by omega
  have aH : (p : Int) <= (cc : Int) := by omega
  go_wp2
  go_quiet (fail)
  have r := Lib.hid (z0a F.out nq)
  generalize wr.drewN nq = W2 at *
  clear q0 a3;have I : Below W1.heap.size W1 W2.drew := r.out.drew;have J : Below W1.heap.size W1 (W2.alloc (.cells #[.int .i64 ci, .int .i64 cq, .int .i64 ca, .int .i64 cv] 32)).drew := (z00 r.out (z03 _ _)).drew;have n : Below W1.heap.size W1 ((W2.alloc (.cells #[.int .i64 ci, .int .i64 cq, .int .i64 ca, .int .i64 cv] 32)).alloc (.cells #[.slice (some ad) p cc, .slice (some ⟨W2.heap.size, 0, none⟩) 1 1, .slice (some (ad.add (p * 4))) (Lc - p) (cc - p)] 23)).drew := (z00 r.out (z3s _ _ _)).drew;obtain ⟨d, aI, -⟩ := o.out _ I;obtain ⟨f, aJ, -⟩ := o.out _ J;obtain ⟨ai, -, -⟩ := o.out _ n
  have L : Hid (z6b ((W2.alloc (.cells #[.int .i64 ci, .int .i64 cq, .int .i64 ca, .int .i64 cv] 32)).alloc (.cells #[.slice (some ad) p cc, .slice (some ⟨W2.heap.size, 0, none⟩) 1 1, .slice (some (ad.add (p * 4))) (Lc - p) (cc - p)] 23)).drew (W2.heap.size + 1) [cs.take p, [⟨ci, cq, ca, cv⟩], cs.drop p]) := Lib.hid (by
   have A := (U.out _ (z00 E.out n));have q1 := (z02 W2 #[.int .i64 ci, .int .i64 cq, .int .i64 ca, .int .i64 cv] 32).alloc (.cells #[.slice (some ad) p cc, .slice (some ⟨W2.heap.size, 0, none⟩) 1 1, .slice (some (ad.add (p * 4))) (Lc - p) (cc - p)] 23);have q2 := z02 (W2.alloc (.cells #[.int .i64 ci, .int .i64 cq, .int .i64 ca, .int .i64 cv] 32)) #[.slice (some ad) p cc, .slice (some ⟨W2.heap.size, 0, none⟩) 1 1, .slice (some (ad.add (p * 4))) (Lc - p) (cc - p)] 23;rw [World.size_alloc] at q2;refine ⟨by simp, fun k l hk => ?_⟩
   match k, hk with
   | 0, hk =>
    obtain rfl := Option.some.inj hk;exact z4k A (by have := a.out; omega) (q2.cell rfl)
   | 1, hk =>
    obtain rfl := Option.some.inj hk;exact ⟨some ⟨W2.heap.size, 0, none⟩, 1, q2.cell rfl, z93 q1⟩
   | 2, hk =>
    obtain rfl := Option.some.inj hk;exact z8c A a.out (by have := a.out; omega) (q2.cell rfl)
   | k + 3, hk => simp at hk)
  have HC : Hid (Calls Tryz.prog 129 #[.slice (some ⟨W2.heap.size + 1, 0, none⟩) 3 3] ((W2.alloc (.cells #[.int .i64 ci, .int .i64 cq, .int .i64 ca, .int .i64 cv] 32)).alloc (.cells #[.slice (some ad) p cc, .slice (some ⟨W2.heap.size, 0, none⟩) 1 1, .slice (some (ad.add (p * 4))) (Lc - p) (cc - p)] 23)).drew fun e w' => ∃ a8 c8, e = .returned (.slice a8 (Lc + 1) c8) /\ (w'.cell? ⟨w.heap.size + 1, 0, none⟩ = some (.int .i64 ci) /\ w'.cell? ⟨w.heap.size + 1, 1, none⟩ = some (.int .i64 cq) /\ w'.cell? ⟨w.heap.size + 1, 2, none⟩ = some (.int .i64 ca) /\ w'.cell? ⟨w.heap.size + 1, 3, none⟩ = some (.int .i64 cv)) /\ w'.cell? ⟨w.heap.size, 2, none⟩ = some (.slice (some ad) Lc cc) /\ w'.frozen? ⟨w.heap.size, 2, none⟩ = false /\ Hid (OwnL w' W1.heap.size (.slice a8 (Lc + 1) c8) (cs.take p ++ ⟨ci, cq, ca, cv⟩ :: cs.drop p)) /\ Hid (Below W1.heap.size W1 w')) := Lib.hid (by
   have h := z3p _ (W2.heap.size + 1) 3 [cs.take p, [⟨ci, cq, ca, cv⟩], cs.drop p] L.out (by simp) (by simp; omega) (by simp; have := a.out; omega)
   refine h.mono fun e w' hh => ?_
   obtain ⟨v8, he, g, hb⟩ := hh
   have N : [cs.take p, [(⟨ci, cq, ca, cv⟩ : Cli)], cs.drop p].flatten = cs.take p ++ ⟨ci, cq, ca, cv⟩ :: cs.drop p := by simp
   have i : (cs.take p ++ (⟨ci, cq, ca, cv⟩ : Cli) :: cs.drop p).length = Lc + 1 := by have := a.out; simp; omega
   rw [N] at g;obtain ⟨a8, c8, rfl, -⟩ := z0j g;have z := z00 n hb;obtain ⟨g1, g2, g3⟩ := o.out w' z;rw [i] at he;refine ⟨a8, c8, he, g1, g2, g3, Lib.hid ?_, Lib.hid z⟩;have h9 := z29 (B' := W1.heap.size) g (by have := n.size; exact this);rw [i] at h9
   have O : OwnL w' W1.heap.size (.slice a8 (Lc + 1) c8) (cs.take p ++ ⟨ci, cq, ca, cv⟩ :: cs.drop p) := by unfold OwnL; rw [i]; exact h9
   exact O)
  all_goals
   go_wp2_with fail
   refine wp_region_noPanic ?_;refine wp_region_held_drew (S := fun W => W.cell? ⟨w.heap.size + 1, 0, none⟩ = some (.int .i64 ci) /\ W.cell? ⟨w.heap.size + 1, 1, none⟩ = some (.int .i64 cq) /\ W.cell? ⟨w.heap.size + 1, 2, none⟩ = some (.int .i64 ca) /\ W.cell? ⟨w.heap.size + 1, 3, none⟩ = some (.int .i64 cv)) (by kernel_rfl) ?_ (fun hz0 => ?_)
   ·exact d
   refine wT 0 { dst := some 50, op := Go.Op.fieldAddr 73 (Go.Operand.tmp 2) 0, type := 0, pos := "state.go:75", after := #[], guard := none } (v := ?_) (Or.inl ⟨by rfl, ?_⟩) ?_
   rotate_left
   ·(intro w hSw; (try dsimp only at hSw); go_simp) <;> with_reducible rfl
   simp only [Act.put, la, lb, lc];refine wT 1 { dst := some 51, op := Go.Op.fieldAddr 25 (Go.Operand.tmp 50) 2, type := 0, pos := "state.go:75", after := #[{ on := 0, ground := Go.Ground.data }], guard := none } (v := ?_) (Or.inl ⟨by rfl, ?_⟩) ?_
   rotate_left
   ·(intro w hSw; (try dsimp only at hSw); go_simp) <;> with_reducible rfl
   simp only [Act.put, la, lb, lc];refine wT 3 { dst := some 53, op := Go.Op.move (Go.Operand.tmp 7), type := 3, pos := "state.go:75", after := #[], guard := none } (v := ?_) (Or.inl ⟨by rfl, ?_⟩) ?_
   rotate_left
   ·(intro w hSw; (try dsimp only at hSw); go_simp) <;> with_reducible rfl
   simp only [Act.put, la, lb, lc];refine wT 5 { dst := some 55, op := Go.Op.load 32 (Go.Operand.tmp 3), type := 32, pos := "state.go:75", after := #[], guard := none } (v := ?_) (Or.inl ⟨by rfl, ?_⟩) ?_
   rotate_left
   ·(intro w hSw; (try dsimp only at hSw); go_simp) <;> with_reducible rfl
   simp only [Act.put, la, lb, lc];refine wT 7 { dst := some 57, op := Go.Op.fieldAddr 73 (Go.Operand.tmp 2) 0, type := 0, pos := "state.go:75", after := #[], guard := none } (v := ?_) (Or.inl ⟨by rfl, ?_⟩) ?_
   rotate_left
   ·(intro w hSw; (try dsimp only at hSw); go_simp) <;> with_reducible rfl
   simp only [Act.put, la, lb, lc];refine wT 8 { dst := some 58, op := Go.Op.fieldAddr 25 (Go.Operand.tmp 57) 2, type := 0, pos := "state.go:75", after := #[{ on := 7, ground := Go.Ground.data }], guard := none } (v := ?_) (Or.inl ⟨by rfl, ?_⟩) ?_
   rotate_left
   ·(intro w hSw; (try dsimp only at hSw); go_simp) <;> with_reducible rfl
   simp only [Act.put, la, lb, lc];refine wT 10 { dst := some 60, op := Go.Op.move (Go.Operand.tmp 7), type := 3, pos := "state.go:75", after := #[], guard := none } (v := ?_) (Or.inl ⟨by rfl, ?_⟩) ?_
   rotate_left
   ·(intro w hSw; (try dsimp only at hSw); go_simp) <;> with_reducible rfl
   simp only [Act.put, la, lb, lc];refine wA [2, 6, 9] ?_;refine cR { dst := some 52, op := Go.Op.load 23 (Go.Operand.tmp 51), type := 23, pos := "state.go:75", after := #[{ on := 1, ground := Go.Ground.data }], guard := none } (fun K hK => ?_) ?_
   focus
    go_simp
    refine hK.out _ _ ?_ (fun hz1 => ?_)
    ·(try dsimp only) <;> (first | exact d | exact f)
    clear hK K hz0
    try simp only [Act.put, la, lb, lc]
    refine wT 4 { dst := some 54, op := Go.Op.slice 23 (Go.Operand.tmp 52) none (some (Go.Operand.tmp 53)) none, type := 23, pos := "state.go:75", after := #[{ on := 2, ground := Go.Ground.data }, { on := 3, ground := Go.Ground.data }], guard := none } (v := ?_) (Or.inl ⟨by rfl, ?_⟩) ?_
    rotate_left
    ·(intro w hSw; (try dsimp only at hSw); go_simp) <;> with_reducible rfl
    simp only [Act.put, la, lb, lc];refine wA [6, 9] ?_;refine cR { dst := some 56, op := Go.Op.buildSlice 23 1 #[(0, Go.Operand.tmp 55)], type := 23, pos := "state.go:75", after := #[{ on := 5, ground := Go.Ground.data }], guard := none } (fun K hK => ?_) ?_
    focus
     go_simp
     refine hK.out _ _ ?_ (fun hz2 => ?_)
     ·(try dsimp only) <;> (first | exact d | exact f)
     clear hK K hz1
     try simp only [Act.put, la, lb, lc]
     refine wR 9 { dst := some 59, op := Go.Op.load 23 (Go.Operand.tmp 58), type := 23, pos := "state.go:75", after := #[{ on := 8, ground := Go.Ground.data }], guard := none } (fun K hK => ?_)
     go_simp
     refine hK.out _ _ ?_ (fun hz3 => ?_)
     ·(try dsimp only) <;> (first | exact d | exact f)
     clear hK K hz2
     try simp only [Act.put, la, lb, lc]
     refine wT 11 { dst := some 61, op := Go.Op.slice 23 (Go.Operand.tmp 59) (some (Go.Operand.tmp 60)) none none, type := 23, pos := "state.go:75", after := #[{ on := 9, ground := Go.Ground.data }, { on := 10, ground := Go.Ground.data }], guard := none } (v := ?_) (Or.inl ⟨by rfl, ?_⟩) ?_
     rotate_left
     ·(intro w hSw; (try dsimp only at hSw); go_simp) <;> with_reducible rfl
     simp only [Act.put, la, lb, lc]
    rotate_left
    refine cR { dst := some 59, op := Go.Op.load 23 (Go.Operand.tmp 58), type := 23, pos := "state.go:75", after := #[{ on := 8, ground := Go.Ground.data }], guard := none } (fun K hK => ?_) AllReadyH.nil
    go_simp
    refine hK.out _ _ ?_ (fun hz2 => ?_)
    ·(try dsimp only) <;> (first | exact d | exact f)
    clear hK K hz1
    try simp only [Act.put, la, lb, lc]
    refine wT 11 { dst := some 61, op := Go.Op.slice 23 (Go.Operand.tmp 59) (some (Go.Operand.tmp 60)) none none, type := 23, pos := "state.go:75", after := #[{ on := 9, ground := Go.Ground.data }, { on := 10, ground := Go.Ground.data }], guard := none } (v := ?_) (Or.inl ⟨by rfl, ?_⟩) ?_
    rotate_left
    ·(intro w hSw; (try dsimp only at hSw); go_simp) <;> with_reducible rfl
    simp only [Act.put, la, lb, lc];refine wR 6 { dst := some 56, op := Go.Op.buildSlice 23 1 #[(0, Go.Operand.tmp 55)], type := 23, pos := "state.go:75", after := #[{ on := 5, ground := Go.Ground.data }], guard := none } (fun K hK => ?_)
    go_simp
    refine hK.out _ _ ?_ (fun hz3 => ?_)
    ·(try dsimp only) <;> (first | exact d | exact f)
    clear hK K hz2
    try simp only [Act.put, la, lb, lc]
   rotate_left 2
   refine cR { dst := some 56, op := Go.Op.buildSlice 23 1 #[(0, Go.Operand.tmp 55)], type := 23, pos := "state.go:75", after := #[{ on := 5, ground := Go.Ground.data }], guard := none } (fun K hK => ?_) ?_
   focus
    go_simp
    refine hK.out _ _ ?_ (fun hz1 => ?_)
    ·(try dsimp only) <;> (first | exact d | exact f)
    clear hK K hz0
    try simp only [Act.put, la, lb, lc]
    refine wA [2, 9] ?_;refine cR { dst := some 52, op := Go.Op.load 23 (Go.Operand.tmp 51), type := 23, pos := "state.go:75", after := #[{ on := 1, ground := Go.Ground.data }], guard := none } (fun K hK => ?_) ?_
    focus
     go_simp
     refine hK.out _ _ ?_ (fun hz2 => ?_)
     ·(try dsimp only) <;> (first | exact d | exact f)
     clear hK K hz1
     try simp only [Act.put, la, lb, lc]
     refine wT 4 { dst := some 54, op := Go.Op.slice 23 (Go.Operand.tmp 52) none (some (Go.Operand.tmp 53)) none, type := 23, pos := "state.go:75", after := #[{ on := 2, ground := Go.Ground.data }, { on := 3, ground := Go.Ground.data }], guard := none } (v := ?_) (Or.inl ⟨by rfl, ?_⟩) ?_
     rotate_left
     ·(intro w hSw; (try dsimp only at hSw); go_simp) <;> with_reducible rfl
     simp only [Act.put, la, lb, lc];refine wR 9 { dst := some 59, op := Go.Op.load 23 (Go.Operand.tmp 58), type := 23, pos := "state.go:75", after := #[{ on := 8, ground := Go.Ground.data }], guard := none } (fun K hK => ?_)
     go_simp
     refine hK.out _ _ ?_ (fun hz3 => ?_)
     ·(try dsimp only) <;> (first | exact d | exact f)
     clear hK K hz2
     try simp only [Act.put, la, lb, lc]
     refine wT 11 { dst := some 61, op := Go.Op.slice 23 (Go.Operand.tmp 59) (some (Go.Operand.tmp 60)) none none, type := 23, pos := "state.go:75", after := #[{ on := 9, ground := Go.Ground.data }, { on := 10, ground := Go.Ground.data }], guard := none } (v := ?_) (Or.inl ⟨by rfl, ?_⟩) ?_
     rotate_left
     ·(intro w hSw; (try dsimp only at hSw); go_simp) <;> with_reducible rfl
     simp only [Act.put, la, lb, lc]
    rotate_left
    refine cR { dst := some 59, op := Go.Op.load 23 (Go.Operand.tmp 58), type := 23, pos := "state.go:75", after := #[{ on := 8, ground := Go.Ground.data }], guard := none } (fun K hK => ?_) AllReadyH.nil
    go_simp
    refine hK.out _ _ ?_ (fun hz2 => ?_)
    ·(try dsimp only) <;> (first | exact d | exact f)
    clear hK K hz1
    try simp only [Act.put, la, lb, lc]
    refine wT 11 { dst := some 61, op := Go.Op.slice 23 (Go.Operand.tmp 59) (some (Go.Operand.tmp 60)) none none, type := 23, pos := "state.go:75", after := #[{ on := 9, ground := Go.Ground.data }, { on := 10, ground := Go.Ground.data }], guard := none } (v := ?_) (Or.inl ⟨by rfl, ?_⟩) ?_
    rotate_left
    ·(intro w hSw; (try dsimp only at hSw); go_simp) <;> with_reducible rfl
    simp only [Act.put, la, lb, lc];refine wR 2 { dst := some 52, op := Go.Op.load 23 (Go.Operand.tmp 51), type := 23, pos := "state.go:75", after := #[{ on := 1, ground := Go.Ground.data }], guard := none } (fun K hK => ?_)
    go_simp
    refine hK.out _ _ ?_ (fun hz3 => ?_)
    ·(try dsimp only) <;> (first | exact d | exact f)
    clear hK K hz2
    try simp only [Act.put, la, lb, lc]
    refine wT 4 { dst := some 54, op := Go.Op.slice 23 (Go.Operand.tmp 52) none (some (Go.Operand.tmp 53)) none, type := 23, pos := "state.go:75", after := #[{ on := 2, ground := Go.Ground.data }, { on := 3, ground := Go.Ground.data }], guard := none } (v := ?_) (Or.inl ⟨by rfl, ?_⟩) ?_
    rotate_left
    ·(intro w hSw; (try dsimp only at hSw); go_simp) <;> with_reducible rfl
    simp only [Act.put, la, lb, lc]
   rotate_left 2
   refine cR { dst := some 59, op := Go.Op.load 23 (Go.Operand.tmp 58), type := 23, pos := "state.go:75", after := #[{ on := 8, ground := Go.Ground.data }], guard := none } (fun K hK => ?_) AllReadyH.nil
   go_simp
   refine hK.out _ _ ?_ (fun hz1 => ?_)
   ·(try dsimp only) <;> (first | exact d | exact f)
   clear hK K hz0
   try simp only [Act.put, la, lb, lc]
   refine wT 11 { dst := some 61, op := Go.Op.slice 23 (Go.Operand.tmp 59) (some (Go.Operand.tmp 60)) none none, type := 23, pos := "state.go:75", after := #[{ on := 9, ground := Go.Ground.data }, { on := 10, ground := Go.Ground.data }], guard := none } (v := ?_) (Or.inl ⟨by rfl, ?_⟩) ?_
   rotate_left
   ·(intro w hSw; (try dsimp only at hSw); go_simp) <;> with_reducible rfl
   simp only [Act.put, la, lb, lc];refine wA [2, 6] ?_;refine cR { dst := some 52, op := Go.Op.load 23 (Go.Operand.tmp 51), type := 23, pos := "state.go:75", after := #[{ on := 1, ground := Go.Ground.data }], guard := none } (fun K hK => ?_) ?_
   focus
    go_simp
    refine hK.out _ _ ?_ (fun hz2 => ?_)
    ·(try dsimp only) <;> (first | exact d | exact f)
    clear hK K hz1
    try simp only [Act.put, la, lb, lc]
    refine wT 4 { dst := some 54, op := Go.Op.slice 23 (Go.Operand.tmp 52) none (some (Go.Operand.tmp 53)) none, type := 23, pos := "state.go:75", after := #[{ on := 2, ground := Go.Ground.data }, { on := 3, ground := Go.Ground.data }], guard := none } (v := ?_) (Or.inl ⟨by rfl, ?_⟩) ?_
    rotate_left
    ·(intro w hSw; (try dsimp only at hSw); go_simp) <;> with_reducible rfl
    simp only [Act.put, la, lb, lc];refine wR 6 { dst := some 56, op := Go.Op.buildSlice 23 1 #[(0, Go.Operand.tmp 55)], type := 23, pos := "state.go:75", after := #[{ on := 5, ground := Go.Ground.data }], guard := none } (fun K hK => ?_)
    go_simp
    refine hK.out _ _ ?_ (fun hz3 => ?_)
    ·(try dsimp only) <;> (first | exact d | exact f)
    clear hK K hz2
    try simp only [Act.put, la, lb, lc]
   rotate_left
   refine cR { dst := some 56, op := Go.Op.buildSlice 23 1 #[(0, Go.Operand.tmp 55)], type := 23, pos := "state.go:75", after := #[{ on := 5, ground := Go.Ground.data }], guard := none } (fun K hK => ?_) AllReadyH.nil
   go_simp
   refine hK.out _ _ ?_ (fun hz2 => ?_)
   ·(try dsimp only) <;> (first | exact d | exact f)
   clear hK K hz1
   try simp only [Act.put, la, lb, lc]
   refine wR 2 { dst := some 52, op := Go.Op.load 23 (Go.Operand.tmp 51), type := 23, pos := "state.go:75", after := #[{ on := 1, ground := Go.Ground.data }], guard := none } (fun K hK => ?_)
   go_simp
   refine hK.out _ _ ?_ (fun hz3 => ?_)
   ·(try dsimp only) <;> (first | exact d | exact f)
   clear hK K hz2
   try simp only [Act.put, la, lb, lc]
   refine wT 4 { dst := some 54, op := Go.Op.slice 23 (Go.Operand.tmp 52) none (some (Go.Operand.tmp 53)) none, type := 23, pos := "state.go:75", after := #[{ on := 2, ground := Go.Ground.data }, { on := 3, ground := Go.Ground.data }], guard := none } (v := ?_) (Or.inl ⟨by rfl, ?_⟩) ?_
   rotate_left
   ·(intro w hSw; (try dsimp only at hSw); go_simp) <;> with_reducible rfl
   simp only [Act.put, la, lb, lc]
   all_goals
    refine wR 12 { dst := some 62, op := Go.Op.buildSlice 206 3 #[(0, Go.Operand.tmp 54), (1, Go.Operand.tmp 56), (2, Go.Operand.tmp 61)], type := 206, pos := "state.go:75", after := #[{ on := 4, ground := Go.Ground.data }, { on := 6, ground := Go.Ground.data }, { on := 11, ground := Go.Ground.data }], guard := none } (fun K hK => ?_)
    go_simp
    refine hK.out _ _ ?_ (fun hz4 => ?_)
    ·(try dsimp only) <;> exact ai
    clear hK K hz3
    try simp only [Act.put, la, lb, lc]
    refine wR 13 { dst := some 63, op := Go.Op.call { callee := Go.Callee.value (Go.Operand.func 129), args := #[Go.Operand.tmp 62], argTypes := #[206] }, type := 23, pos := "state.go:75", after := #[{ on := 12, ground := Go.Ground.data }], guard := none } (fun K hK => ?_)
    go_simp
    refine HC.out.mono ?_;rintro e w4 ⟨a8, c8, rfl, aK, bj, bm, aY, aq⟩
    go_wp2_with fail
    refine hK.out _ _ ?_ (fun hz5 => ?_)
    ·(try dsimp only) <;> exact aK
    clear hK K hz4
    try simp only [Act.put, la, lb, lc]
    refine wT 14 { dst := some 64, op := Go.Op.fieldAddr 73 (Go.Operand.tmp 2) 0, type := 0, pos := "state.go:75", after := #[{ on := 0, ground := Go.Ground.phase }, { on := 1, ground := Go.Ground.phase }, { on := 2, ground := Go.Ground.phase }, { on := 3, ground := Go.Ground.phase }, { on := 4, ground := Go.Ground.phase }, { on := 5, ground := Go.Ground.phase }, { on := 6, ground := Go.Ground.phase }, { on := 7, ground := Go.Ground.phase }, { on := 8, ground := Go.Ground.phase }, { on := 9, ground := Go.Ground.phase }, { on := 10, ground := Go.Ground.phase }, { on := 11, ground := Go.Ground.phase }, { on := 12, ground := Go.Ground.phase }, { on := 13, ground := Go.Ground.phase }], guard := none } (v := ?_) (Or.inl ⟨by rfl, ?_⟩) ?_
    rotate_left
    ·(intro w hSw; (try dsimp only at hSw); go_simp) <;> with_reducible rfl
    simp only [Act.put, la, lb, lc];refine wT 15 { dst := some 65, op := Go.Op.fieldAddr 25 (Go.Operand.tmp 64) 2, type := 0, pos := "state.go:75", after := #[{ on := 14, ground := Go.Ground.data }, { on := 0, ground := Go.Ground.phase }, { on := 1, ground := Go.Ground.phase }, { on := 2, ground := Go.Ground.phase }, { on := 3, ground := Go.Ground.phase }, { on := 4, ground := Go.Ground.phase }, { on := 5, ground := Go.Ground.phase }, { on := 6, ground := Go.Ground.phase }, { on := 7, ground := Go.Ground.phase }, { on := 8, ground := Go.Ground.phase }, { on := 9, ground := Go.Ground.phase }, { on := 10, ground := Go.Ground.phase }, { on := 11, ground := Go.Ground.phase }, { on := 12, ground := Go.Ground.phase }, { on := 13, ground := Go.Ground.phase }], guard := none } (v := ?_) (Or.inl ⟨by rfl, ?_⟩) ?_
    rotate_left
    ·(intro w hSw; (try dsimp only at hSw); go_simp) <;> with_reducible rfl
    simp only [Act.put, la, lb, lc];refine wR 16 { dst := none, op := Go.Op.store 23 (Go.Operand.tmp 65) (Go.Operand.tmp 63), type := 0, pos := "state.go:75", after := #[{ on := 15, ground := Go.Ground.data }, { on := 13, ground := Go.Ground.data }, { on := 13, ground := Go.Ground.chain }, { on := 0, ground := Go.Ground.phase }, { on := 1, ground := Go.Ground.phase }, { on := 2, ground := Go.Ground.phase }, { on := 3, ground := Go.Ground.phase }, { on := 4, ground := Go.Ground.phase }, { on := 5, ground := Go.Ground.phase }, { on := 6, ground := Go.Ground.phase }, { on := 7, ground := Go.Ground.phase }, { on := 8, ground := Go.Ground.phase }, { on := 9, ground := Go.Ground.phase }, { on := 10, ground := Go.Ground.phase }, { on := 11, ground := Go.Ground.phase }, { on := 12, ground := Go.Ground.phase }, { on := 13, ground := Go.Ground.phase }], guard := none } (fun K hK => ?_)
    go_simp
    refine hK.out _ _ ?_ (fun hz6 => ?_)
    ·(try dsimp only) <;> exact zdr aK
    clear hK K hz5
    try simp only [Act.put, la, lb, lc]
    refine wpAnyH_done (by kernel_rfl) ?_ _;refine NoPanic.normal ?_;have X : But w.heap.size w4 (w4.setCell ⟨w.heap.size, 2, none⟩ (.slice a8 (Lc + 1) c8)) := (But.refl _ _).set _ _;have Y := (T.out.below aq.out).set 2 (.slice a8 (Lc + 1) c8);have aM := Lib.hid ((aT.out.below aq.out).keep (X.block (w.heap.size + 1 + 1) (by omega)));have y0 := Y.c0;have y1 := Y.c1;have y2 := Y.c2;have ar : Hid (Below w.heap.size w (w4.setCell ⟨w.heap.size, 2, none⟩ (.slice a8 (Lc + 1) c8))) := Lib.hid ((z00 E.out aq.out).trans (X.below (B := w.heap.size) (by omega)));have aN := Lib.hid (aB.out _ a8 c8 ar.out (by have h9 := aY.out; rw [<- t.out] at h9; exact z24 h9 X (by have := aS.out; omega)) C.out);clear X Y
    generalize w4.setCell ⟨w.heap.size, 2, none⟩ (.slice a8 (Lc + 1) c8) = w5 at *
    go_wp2_with fail
    refine aN.out.mono ?_;rintro e w6 ⟨a6, c6, a7, c7, M7, rfl, aa, af, au⟩;have s := aM.out.below au;have aw : (⟨v, es, putL ⟨ci, cq, ca, cv⟩ cs⟩ : Mdl).es.length = Le := R.out.symm;have ax : (⟨v, es, putL ⟨ci, cq, ca, cv⟩ cs⟩ : Mdl).cs.length = Lc + 1 := C.out;rw [aw, ax];have t0 := s.thaw 0;have t1 := s.thaw 1;have t2 := s.thaw 2;have t3 := s.thaw 3;have e0 := s.c0;have e1 := s.c1;have e2 := s.c2;have e3 := s.c3;have RP := z3k s v (.slice a6 Le c6) (.slice a7 (Lc + 1) c7) M7;have f0 := RP.c0;have f1 := RP.c1;have f2 := RP.c2;have f3 := RP.c3
    have aO : Hid (z3h ⟨v, es, putL ⟨ci, cq, ca, cv⟩ cs⟩ w (.returned (.agg (stC v (.slice a6 Le c6) (.slice a7 (Lc + 1) c7) M7))) (putS w6 (w.heap.size + 1 + 1) v (.slice a6 Le c6) (.slice a7 (Lc + 1) c7) M7)) := Lib.hid (by
     have Z := z14 w6 (w.heap.size + 1 + 1) v (.slice a6 Le c6) (.slice a7 (Lc + 1) c7) M7
     exact ⟨a6, c6, a7, c7, M7, by rw [aw, ax], aa.but s (fun _ => Value.noConfusion) (fun _ => Value.noConfusion) (fun _ => Value.noConfusion) (fun _ => Value.noConfusion) (fun _ => Value.noConfusion) (fun _ => Value.noConfusion) (fun _ => Value.noConfusion) Z, Sl.keep af (fun b hb => Z.block b (by have h1 := hb.1; have h2 := aM.out.lt; omega)) (fun b hb => ⟨Nat.le_trans ar.out.size hb.1, Nat.lt_of_lt_of_eq hb.2 Z.size.symm⟩) (fun _ _ h => h), (z00 ar.out au).trans (Z.below (B := w.heap.size) (by omega))⟩)
    clear s RP aa af au aw ax y0 y1 y2 aN;go_wp2;exact bodyPost_ret (v := .agg (stC v (.slice a6 Le c6) (.slice a7 (Lc + 1) c7) M7)) (by simp [results, Tryz.results83, go_sem, f0, f1, f2, f3]) rfl aO.out
end Go.Proofs.YtdkkkeoicekdgaaGreatDoor.Md
