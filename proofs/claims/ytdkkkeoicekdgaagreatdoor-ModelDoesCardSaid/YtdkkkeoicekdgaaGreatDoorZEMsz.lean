/- Package model: a result stored where no client is. -/
import Derived.Test.YtdkkkeoicekdgaaGreatDoorZEMsn

namespace Go.Proofs.YtdkkkeoicekdgaaGreatDoor.Md
set_option maxHeartbeats 12800000
set_option maxRecDepth 100000
open Go.RowKit Go.Maps Go.WideShapes Go.WideMaps Go.Proofs.YtdkkkeoicekdgaaGreatDoor Go.Proofs.YtdkkkeoicekdgaaGreatDoor.Ca
theorem zbq (w : World) (m : Mdl) (ae : Option Addr) (ce : Nat) (ac : Option Addr) (cc M : Nat) (c : Cli) (hst : StAt w m ae ce ac cc M) (hsr : SrtC m.cs) (hl : m.cs.length <= 16) (hle : m.es.length <= 1000) (hid : ∀ x, x ∈ m.cs -> 1 <= x.id /\ x.id <= 1073741824) (hci : 1 <= c.id /\ c.id <= 1073741824) (hun : ∀ x, x ∈ m.cs -> x.id ≠ c.id) (hnone : ac = none) :
  Calls Tryz.prog 83 #[.agg (stC m.vr (.slice ae m.es.length ce) (.slice ac m.cs.length cc) M), clV c] w (z3h ⟨m.vr, m.es, putL c m.cs⟩ w) := by
 obtain ⟨v, es, cs⟩ := m;obtain ⟨ci, cq, ca, cv⟩ := c;simp only at hst hsr hl hle hid hci hun ⊢;have ay := Lib.hid hst.lt;obtain ⟨n0, D, Y, L⟩ := hst.map;have az := Lib.hid Y;have aR := Lib.hid L;have aS := Lib.hid hsr;have aT := Lib.hid hid;obtain ⟨Le, u⟩ := nmd (es.length);obtain ⟨Lc, f⟩ := nmd (cs.length)
 have aU : Lc <= 16 := by have := f.out; omega
 have aV : Le <= 1000 := by have := u.out; omega
 have aA : Hid (keyOf Tryz.prog 3 (.int .i64 ci) = some (kI ci)) := Lib.hid (keyOf_int_mk Tryz.underlying3 (wfI (by omega) (by omega)));have n := hst.cs.len;simp only at n;rw [<- u.out, <- f.out]
 have aP : Lc <= cc := by have := f.out; omega
 have aQ : cc <= 9223372036854775807 := n.2.2;obtain ⟨W1, i⟩ := nmd (((w.alloc (.cells (stC v (.slice ae Le ce) (.slice ac Lc cc) M) 73)).alloc (.cells #[.int .i64 ci, .int .i64 cq, .int .i64 ca, .int .i64 cv] 32)).alloc (.cells #[.int .i64 0, .slice none 0 0, .slice none 0 0, .map none] 73));have aB : Hid (W1.heap.size = w.heap.size + 3) := Lib.hid (by rw [i.out]; simp);have N : Hid (Below w.heap.size w W1) := Lib.hid (by rw [i.out]; exact z4q w _ _ _);have z : Hid (Row W1 w.heap.size 73 [.int .i64 v, .slice ae Le ce, .slice ac Lc cc, .map (some M)]) := Lib.hid (by rw [i.out]; exact ((z02 w (stC v (.slice ae Le ce) (.slice ac Lc cc) M) _).alloc _).alloc _)
 have o : Hid (Row W1 (w.heap.size + 1) 32 [.int .i64 ci, .int .i64 cq, .int .i64 ca, .int .i64 cv]) := Lib.hid (by
  rw [i.out];have h := (z02 (w.alloc (.cells (stC v (.slice ae Le ce) (.slice ac Lc cc) M) 73)) #[.int .i64 ci, .int .i64 cq, .int .i64 ca, .int .i64 cv] 32).alloc (.cells #[.int .i64 0, .slice none 0 0, .slice none 0 0, .map none] 73)
  rwa [World.size_alloc] at h)
 have aC : Hid (Row W1 (w.heap.size + 1 + 1) 73 [.int .i64 0, .slice none 0 0, .slice none 0 0, .map none]) := Lib.hid (by
  rw [i.out];have h := z02 ((w.alloc (.cells (stC v (.slice ae Le ce) (.slice ac Lc cc) M) 73)).alloc (.cells #[.int .i64 ci, .int .i64 cq, .int .i64 ca, .int .i64 cv] 32)) #[.int .i64 0, .slice none 0 0, .slice none 0 0, .map none] 73
  simpa only [World.size_alloc] using h)
 have aD : Hid (OMm W1 M n0 D) := Lib.hid (z1b az.out (N.out.block _ ay.out.lt))
 have a2 : (((w.alloc (.cells (stC v (.slice ae Le ce) (.slice ac Lc cc) M) 73)).alloc (.cells #[.int .i64 ci, .int .i64 cq, .int .i64 ca, .int .i64 cv] 32)).alloc (.cells #[.int .i64 0, .slice none 0 0, .slice none 0 0, .map none] 73)).cell? ⟨w.heap.size, 3, none⟩ = some (.map (some M)) := by rw [<- i.out]; exact z.out.cell rfl
 have b0 : (((w.alloc (.cells (stC v (.slice ae Le ce) (.slice ac Lc cc) M) 73)).alloc (.cells #[.int .i64 ci, .int .i64 cq, .int .i64 ca, .int .i64 cv] 32)).alloc (.cells #[.int .i64 0, .slice none 0 0, .slice none 0 0, .map none] 73)).cell? ⟨w.heap.size + 1, 0, none⟩ = some (.int .i64 ci) := by rw [<- i.out]; exact o.out.cell rfl
 have Z : Hid (OMm (((w.alloc (.cells (stC v (.slice ae Le ce) (.slice ac Lc cc) M) 73)).alloc (.cells #[.int .i64 ci, .int .i64 cq, .int .i64 ca, .int .i64 cv] 32)).alloc (.cells #[.int .i64 0, .slice none 0 0, .slice none 0 0, .map none] 73)) M n0 D) := Lib.hid (by rw [<- i.out]; exact aD.out)
 have aa : Hid (Maps.has D (kI ci) = false) := Lib.hid (by
  cases hh : Maps.has D (kI ci) with
  | false => rfl
  | true =>
   obtain ⟨j, x, h1, h2, h3⟩ := (L.has ci).1 hh
   exact absurd h3 (hun x (List.mem_of_getElem? h2)))
 have aW := Lib.hid hun;subst hnone;obtain rfl : cc = 0 := hst.nil rfl
 have af : Lc = 0 := by
  have h9 : cs = [] := by
   cases cs with
   | nil => rfl
   | cons y r => obtain ⟨b, aX, ha, -⟩ := hst.cs.get (j := 0) rfl; cases ha
  rw [f.out, h9]; rfl
 have ag := Lib.hid af;clear af;have aE : Hid (∀ W, Below w.heap.size w W -> SlL W (Old W) (.slice none cs.length 0) cs) := Lib.hid (fun W h => hst.cs.old h)
 have q : Hid (∀ W, Below W1.heap.size W1 W -> (W.cell? ⟨w.heap.size + 1, 0, none⟩ = some (.int .i64 ci) /\ W.cell? ⟨w.heap.size + 1, 1, none⟩ = some (.int .i64 cq) /\ W.cell? ⟨w.heap.size + 1, 2, none⟩ = some (.int .i64 ca) /\ W.cell? ⟨w.heap.size + 1, 3, none⟩ = some (.int .i64 cv)) /\ W.cell? ⟨w.heap.size, 2, none⟩ = some (.slice none Lc 0) /\ W.frozen? ⟨w.heap.size, 2, none⟩ = false) := Lib.hid (fun W h =>
  ⟨⟨(o.out.below h).cell rfl, (o.out.below h).cell rfl, (o.out.below h).cell rfl, (o.out.below h).cell rfl⟩, (z.out.below h).cell rfl, (z.out.below h).thaw _⟩)
 have ah : Hid (∀ W a8 c8, Below w.heap.size w W -> OwnL W W1.heap.size (.slice a8 (Lc + 1) c8) (putL ⟨ci, cq, ca, cv⟩ cs) -> (putL ⟨ci, cq, ca, cv⟩ cs).length = Lc + 1 -> Calls Tryz.prog 39 #[.agg #[.int .i64 v, .slice ae Le ce, .slice a8 (Lc + 1) c8]] W (z3h ⟨v, es, putL ⟨ci, cq, ca, cv⟩ cs⟩ W)) := Lib.hid (fun W a8 c8 hb ho hpl => by
  have h := z4t W v ae ce es a8 c8 (putL ⟨ci, cq, ca, cv⟩ cs) (hst.es.old hb) (by rw [hpl]; exact OwnL.sl ho) hle (by omega) (zdg hsr) (fun x hx => by
   rcases z5d hx with rfl | hx
   ·exact ⟨by simp only; omega, by simp only; omega⟩
   ·have := hid x hx; omega)
  rw [hpl, <- u.out] at h
  exact h)
 clear hst hsr hl hle hid Y L n hun
 go_enter Tryz.func83, Tryz.ntmps83
 go_wp2_with (at_lookup; refine wpList_lookup_own_ok_int _ rfl _ _ 71 rfl 3 3 .i64 lawI Tryz.underlying71 Tryz.underlying3 (zeroI _) M _ _ rfl Z.out _ _ rfl aA.out ?_; intro cw hat hwc; rw [aa.out]; clear hat hwc)
 rw [<- i.out];clear a2 b0 Z
 go_loopw [7] (fun v7 wr => ∃ p : Nat, p <= Lc /\ v7 = .int .i64 p /\ Hid (∀ (j : Nat) x, j < p -> cs[j]? = some x -> x.id < ci) /\ Hid (Below W1.heap.size W1 wr)) (fun v7 _ => Lc - (intOf v7).toNat)
 case atStart => exact ⟨0, Nat.zero_le _, rfl, Lib.hid (fun j x h => by omega), Lib.hid (Below.refl _ _)⟩
 case round =>
  obtain ⟨p, hp, rfl, aF, ai⟩ := hrel;obtain ⟨⟨q0, q1, q2, q3⟩, a3, -⟩ := q.out wr ai.out;clear q1 q2 q3
  by_cases hlt : p < Lc
  ·exact absurd hlt (by have := ag.out; omega)
  ·have aj : Hid (p = Lc) := Lib.hid (by omega)
   obtain rfl : p = 0 := by have := ag.out; omega
   have G : Hid (putL ⟨ci, cq, ca, cv⟩ cs = cs.take 0 ++ ⟨ci, cq, ca, cv⟩ :: cs.drop 0) := Lib.hid (z5e (by have := f.out; omega) aF.out (fun y hy => by have h9 := (List.getElem?_eq_some_iff.1 hy).1; have := f.out; have := aj.out; omega));have H : Hid ((putL ⟨ci, cq, ca, cv⟩ cs).length = Lc + 1) := Lib.hid (by rw [G.out]; have := f.out; simp; omega)
   have aY : ((0 : Nat) : Int) <= ((0 : Nat) : Int) := by omega
   have aZ : ((0 : Nat) : Int) <= (Lc : Int) := by omega
   have bc : ((0 : Nat) : Int) <= (0 : Int) := by omega
   go_wp2
   go_quiet (fail)
   have O := Lib.hid (z0a ai.out nq)
   generalize wr.drewN nq = W2 at *
   clear q0 a3;have aG : Below W1.heap.size W1 W2.drew := O.out.drew;have aH : Below W1.heap.size W1 (W2.alloc (.cells #[.int .i64 ci, .int .i64 cq, .int .i64 ca, .int .i64 cv] 32)).drew := (z00 O.out (z03 _ _)).drew;have A : Below W1.heap.size W1 ((W2.alloc (.cells #[.int .i64 ci, .int .i64 cq, .int .i64 ca, .int .i64 cv] 32)).alloc (.cells #[.slice none 0 0, .slice (some ⟨W2.heap.size, 0, none⟩) 1 1, .slice none 0 0] 23)).drew := (z00 O.out (z3s _ _ _)).drew;obtain ⟨a, bd, -⟩ := q.out _ aG;obtain ⟨d, bf, -⟩ := q.out _ aH;obtain ⟨aI, -, -⟩ := q.out _ A
   have aJ : Hid (z6b ((W2.alloc (.cells #[.int .i64 ci, .int .i64 cq, .int .i64 ca, .int .i64 cv] 32)).alloc (.cells #[.slice none 0 0, .slice (some ⟨W2.heap.size, 0, none⟩) 1 1, .slice none 0 0] 23)).drew (W2.heap.size + 1) [cs.take 0, [⟨ci, cq, ca, cv⟩], cs.drop 0]) := Lib.hid (by
    have aK := (aE.out _ (z00 N.out A));have q1 := (z02 W2 #[.int .i64 ci, .int .i64 cq, .int .i64 ca, .int .i64 cv] 32).alloc (.cells #[.slice none 0 0, .slice (some ⟨W2.heap.size, 0, none⟩) 1 1, .slice none 0 0] 23);have q2 := z02 (W2.alloc (.cells #[.int .i64 ci, .int .i64 cq, .int .i64 ca, .int .i64 cv] 32)) #[.slice none 0 0, .slice (some ⟨W2.heap.size, 0, none⟩) 1 1, .slice none 0 0] 23;rw [World.size_alloc] at q2;refine ⟨by simp, fun k l hk => ?_⟩
    match k, hk with
    | 0, hk =>
     obtain rfl := Option.some.inj hk;exact z4k aK (by have := f.out; omega) (q2.cell rfl)
    | 1, hk =>
     obtain rfl := Option.some.inj hk;exact ⟨some ⟨W2.heap.size, 0, none⟩, 1, q2.cell rfl, z93 q1⟩
    | 2, hk =>
     obtain rfl := Option.some.inj hk;exact zat f.out aj.out (q2.cell rfl)
    | k + 3, hk => simp at hk)
   have HC : Hid (Calls Tryz.prog 129 #[.slice (some ⟨W2.heap.size + 1, 0, none⟩) 3 3] ((W2.alloc (.cells #[.int .i64 ci, .int .i64 cq, .int .i64 ca, .int .i64 cv] 32)).alloc (.cells #[.slice none 0 0, .slice (some ⟨W2.heap.size, 0, none⟩) 1 1, .slice none 0 0] 23)).drew fun e w' => ∃ a8 c8, e = .returned (.slice a8 (Lc + 1) c8) /\ (w'.cell? ⟨w.heap.size + 1, 0, none⟩ = some (.int .i64 ci) /\ w'.cell? ⟨w.heap.size + 1, 1, none⟩ = some (.int .i64 cq) /\ w'.cell? ⟨w.heap.size + 1, 2, none⟩ = some (.int .i64 ca) /\ w'.cell? ⟨w.heap.size + 1, 3, none⟩ = some (.int .i64 cv)) /\ w'.cell? ⟨w.heap.size, 2, none⟩ = some (.slice none Lc 0) /\ w'.frozen? ⟨w.heap.size, 2, none⟩ = false /\ Hid (OwnL w' W1.heap.size (.slice a8 (Lc + 1) c8) (cs.take 0 ++ ⟨ci, cq, ca, cv⟩ :: cs.drop 0)) /\ Hid (Below W1.heap.size W1 w')) := Lib.hid (by
    have h := z3p _ (W2.heap.size + 1) 3 [cs.take 0, [⟨ci, cq, ca, cv⟩], cs.drop 0] aJ.out (by simp) (by simp) (by simp; have := f.out; omega)
    refine h.mono fun e w' hh => ?_
    obtain ⟨v8, he, s, hb⟩ := hh
    have aM : [cs.take 0, [(⟨ci, cq, ca, cv⟩ : Cli)], cs.drop 0].flatten = cs.take 0 ++ ⟨ci, cq, ca, cv⟩ :: cs.drop 0 := by simp
    have t : (cs.take 0 ++ (⟨ci, cq, ca, cv⟩ : Cli) :: cs.drop 0).length = Lc + 1 := by have := f.out; simp; omega
    rw [aM] at s;obtain ⟨a8, c8, rfl, -⟩ := z0j s;have aq := z00 A hb;obtain ⟨g1, g2, g3⟩ := q.out w' aq;rw [t] at he;refine ⟨a8, c8, he, g1, g2, g3, Lib.hid ?_, Lib.hid aq⟩;have h9 := z29 (B' := W1.heap.size) s (by have := A.size; exact this);rw [t] at h9
    have aN : OwnL w' W1.heap.size (.slice a8 (Lc + 1) c8) (cs.take 0 ++ ⟨ci, cq, ca, cv⟩ :: cs.drop 0) := by unfold OwnL; rw [t]; exact h9
    exact aN)
   go_wp2_with fail
   refine wp_region_noPanic ?_;refine wp_region_held_drew (S := fun W => W.cell? ⟨w.heap.size + 1, 0, none⟩ = some (.int .i64 ci) /\ W.cell? ⟨w.heap.size + 1, 1, none⟩ = some (.int .i64 cq) /\ W.cell? ⟨w.heap.size + 1, 2, none⟩ = some (.int .i64 ca) /\ W.cell? ⟨w.heap.size + 1, 3, none⟩ = some (.int .i64 cv)) (by kernel_rfl) ?_ (fun hz0 => ?_)
   ·exact a
   refine wT 0 { dst := some 50, op := Go.Op.fieldAddr 73 (Go.Operand.tmp 2) 0, type := 0, pos := "state.go:75", after := #[], guard := none } (v := ?_) (Or.inl ⟨by rfl, ?_⟩) ?_
   rotate_left
   ·(intro w hSw; (try dsimp only at hSw); go_simp) <;> with_reducible rfl
   simp only [Act.put, la, lb, lc];refine wT 1 { dst := some 51, op := Go.Op.fieldAddr 25 (Go.Operand.tmp 50) 2, type := 0, pos := "state.go:75", after := #[{ on := 0, ground := Go.Ground.data }], guard := none } (v := ?_) (Or.inl ⟨by rfl, ?_⟩) ?_
   rotate_left
   ·(intro w hSw; (try dsimp only at hSw); go_simp) <;> with_reducible rfl
   simp only [Act.put, la, lb, lc];refine wT 3 { dst := some 53, op := Go.Op.move (Go.Operand.tmp 7), type := 3, pos := "state.go:75", after := #[], guard := none } (v := ?_) (Or.inl ⟨by rfl, ?_⟩) ?_
   rotate_left
   ·(intro w hSw; (try dsimp only at hSw); go_simp) <;> with_reducible rfl
   simp only [Act.put, la, lb, lc];refine wT 5 { dst := some 55, op := Go.Op.load 32 (Go.Operand.tmp 3), type := 32, pos := "state.go:75", after := #[], guard := none } (v := ?_) (Or.inl ⟨by rfl, ?_⟩) ?_
   rotate_left
   ·(intro w hSw; (try dsimp only at hSw); go_simp) <;> with_reducible rfl
   simp only [Act.put, la, lb, lc];refine wT 7 { dst := some 57, op := Go.Op.fieldAddr 73 (Go.Operand.tmp 2) 0, type := 0, pos := "state.go:75", after := #[], guard := none } (v := ?_) (Or.inl ⟨by rfl, ?_⟩) ?_
   rotate_left
   ·(intro w hSw; (try dsimp only at hSw); go_simp) <;> with_reducible rfl
   simp only [Act.put, la, lb, lc];refine wT 8 { dst := some 58, op := Go.Op.fieldAddr 25 (Go.Operand.tmp 57) 2, type := 0, pos := "state.go:75", after := #[{ on := 7, ground := Go.Ground.data }], guard := none } (v := ?_) (Or.inl ⟨by rfl, ?_⟩) ?_
   rotate_left
   ·(intro w hSw; (try dsimp only at hSw); go_simp) <;> with_reducible rfl
   simp only [Act.put, la, lb, lc];refine wT 10 { dst := some 60, op := Go.Op.move (Go.Operand.tmp 7), type := 3, pos := "state.go:75", after := #[], guard := none } (v := ?_) (Or.inl ⟨by rfl, ?_⟩) ?_
   rotate_left
   ·(intro w hSw; (try dsimp only at hSw); go_simp) <;> with_reducible rfl
   simp only [Act.put, la, lb, lc];refine wA [2, 6, 9] ?_;refine cR { dst := some 52, op := Go.Op.load 23 (Go.Operand.tmp 51), type := 23, pos := "state.go:75", after := #[{ on := 1, ground := Go.Ground.data }], guard := none } (fun K hK => ?_) ?_
   focus
    go_simp
    refine hK.out _ _ ?_ (fun hz1 => ?_)
    ·(try dsimp only) <;> (first | exact a | exact d)
    clear hK K hz0
    try simp only [Act.put, la, lb, lc]
    refine wT 4 { dst := some 54, op := Go.Op.slice 23 (Go.Operand.tmp 52) none (some (Go.Operand.tmp 53)) none, type := 23, pos := "state.go:75", after := #[{ on := 2, ground := Go.Ground.data }, { on := 3, ground := Go.Ground.data }], guard := none } (v := ?_) (Or.inl ⟨by rfl, ?_⟩) ?_
    rotate_left
    ·(intro w hSw; (try dsimp only at hSw); go_simp) <;> with_reducible rfl
    simp only [Act.put, la, lb, lc];refine wA [6, 9] ?_;refine cR { dst := some 56, op := Go.Op.buildSlice 23 1 #[(0, Go.Operand.tmp 55)], type := 23, pos := "state.go:75", after := #[{ on := 5, ground := Go.Ground.data }], guard := none } (fun K hK => ?_) ?_
    focus
     go_simp
     refine hK.out _ _ ?_ (fun hz2 => ?_)
     ·(try dsimp only) <;> (first | exact a | exact d)
     clear hK K hz1
     try simp only [Act.put, la, lb, lc]
     refine wR 9 { dst := some 59, op := Go.Op.load 23 (Go.Operand.tmp 58), type := 23, pos := "state.go:75", after := #[{ on := 8, ground := Go.Ground.data }], guard := none } (fun K hK => ?_)
     go_simp
     refine hK.out _ _ ?_ (fun hz3 => ?_)
     ·(try dsimp only) <;> (first | exact a | exact d)
     clear hK K hz2
     try simp only [Act.put, la, lb, lc]
     refine wT 11 { dst := some 61, op := Go.Op.slice 23 (Go.Operand.tmp 59) (some (Go.Operand.tmp 60)) none none, type := 23, pos := "state.go:75", after := #[{ on := 9, ground := Go.Ground.data }, { on := 10, ground := Go.Ground.data }], guard := none } (v := ?_) (Or.inl ⟨by rfl, ?_⟩) ?_
     rotate_left
     ·(intro w hSw; (try dsimp only at hSw); go_simp) <;> with_reducible rfl
     simp only [Act.put, la, lb, lc]
    rotate_left
    refine cR { dst := some 59, op := Go.Op.load 23 (Go.Operand.tmp 58), type := 23, pos := "state.go:75", after := #[{ on := 8, ground := Go.Ground.data }], guard := none } (fun K hK => ?_) AllReadyH.nil
    go_simp
    refine hK.out _ _ ?_ (fun hz2 => ?_)
    ·(try dsimp only) <;> (first | exact a | exact d)
    clear hK K hz1
    try simp only [Act.put, la, lb, lc]
    refine wT 11 { dst := some 61, op := Go.Op.slice 23 (Go.Operand.tmp 59) (some (Go.Operand.tmp 60)) none none, type := 23, pos := "state.go:75", after := #[{ on := 9, ground := Go.Ground.data }, { on := 10, ground := Go.Ground.data }], guard := none } (v := ?_) (Or.inl ⟨by rfl, ?_⟩) ?_
    rotate_left
    ·(intro w hSw; (try dsimp only at hSw); go_simp) <;> with_reducible rfl
    simp only [Act.put, la, lb, lc];refine wR 6 { dst := some 56, op := Go.Op.buildSlice 23 1 #[(0, Go.Operand.tmp 55)], type := 23, pos := "state.go:75", after := #[{ on := 5, ground := Go.Ground.data }], guard := none } (fun K hK => ?_)
    go_simp
    refine hK.out _ _ ?_ (fun hz3 => ?_)
    ·(try dsimp only) <;> (first | exact a | exact d)
    clear hK K hz2
    try simp only [Act.put, la, lb, lc]
   rotate_left 2
   refine cR { dst := some 56, op := Go.Op.buildSlice 23 1 #[(0, Go.Operand.tmp 55)], type := 23, pos := "state.go:75", after := #[{ on := 5, ground := Go.Ground.data }], guard := none } (fun K hK => ?_) ?_
   focus
    go_simp
    refine hK.out _ _ ?_ (fun hz1 => ?_)
    ·(try dsimp only) <;> (first | exact a | exact d)
    clear hK K hz0
    try simp only [Act.put, la, lb, lc]
    refine wA [2, 9] ?_;refine cR { dst := some 52, op := Go.Op.load 23 (Go.Operand.tmp 51), type := 23, pos := "state.go:75", after := #[{ on := 1, ground := Go.Ground.data }], guard := none } (fun K hK => ?_) ?_
    focus
     go_simp
     refine hK.out _ _ ?_ (fun hz2 => ?_)
     ·(try dsimp only) <;> (first | exact a | exact d)
     clear hK K hz1
     try simp only [Act.put, la, lb, lc]
     refine wT 4 { dst := some 54, op := Go.Op.slice 23 (Go.Operand.tmp 52) none (some (Go.Operand.tmp 53)) none, type := 23, pos := "state.go:75", after := #[{ on := 2, ground := Go.Ground.data }, { on := 3, ground := Go.Ground.data }], guard := none } (v := ?_) (Or.inl ⟨by rfl, ?_⟩) ?_
     rotate_left
     ·(intro w hSw; (try dsimp only at hSw); go_simp) <;> with_reducible rfl
     simp only [Act.put, la, lb, lc];refine wR 9 { dst := some 59, op := Go.Op.load 23 (Go.Operand.tmp 58), type := 23, pos := "state.go:75", after := #[{ on := 8, ground := Go.Ground.data }], guard := none } (fun K hK => ?_)
     go_simp
     refine hK.out _ _ ?_ (fun hz3 => ?_)
     ·(try dsimp only) <;> (first | exact a | exact d)
     clear hK K hz2
     try simp only [Act.put, la, lb, lc]
     refine wT 11 { dst := some 61, op := Go.Op.slice 23 (Go.Operand.tmp 59) (some (Go.Operand.tmp 60)) none none, type := 23, pos := "state.go:75", after := #[{ on := 9, ground := Go.Ground.data }, { on := 10, ground := Go.Ground.data }], guard := none } (v := ?_) (Or.inl ⟨by rfl, ?_⟩) ?_
     rotate_left
     ·(intro w hSw; (try dsimp only at hSw); go_simp) <;> with_reducible rfl
     simp only [Act.put, la, lb, lc]
    rotate_left
    refine cR { dst := some 59, op := Go.Op.load 23 (Go.Operand.tmp 58), type := 23, pos := "state.go:75", after := #[{ on := 8, ground := Go.Ground.data }], guard := none } (fun K hK => ?_) AllReadyH.nil
    go_simp
    refine hK.out _ _ ?_ (fun hz2 => ?_)
    ·(try dsimp only) <;> (first | exact a | exact d)
    clear hK K hz1
    try simp only [Act.put, la, lb, lc]
    refine wT 11 { dst := some 61, op := Go.Op.slice 23 (Go.Operand.tmp 59) (some (Go.Operand.tmp 60)) none none, type := 23, pos := "state.go:75", after := #[{ on := 9, ground := Go.Ground.data }, { on := 10, ground := Go.Ground.data }], guard := none } (v := ?_) (Or.inl ⟨by rfl, ?_⟩) ?_
    rotate_left
    ·(intro w hSw; (try dsimp only at hSw); go_simp) <;> with_reducible rfl
    simp only [Act.put, la, lb, lc];refine wR 2 { dst := some 52, op := Go.Op.load 23 (Go.Operand.tmp 51), type := 23, pos := "state.go:75", after := #[{ on := 1, ground := Go.Ground.data }], guard := none } (fun K hK => ?_)
    go_simp
    refine hK.out _ _ ?_ (fun hz3 => ?_)
    ·(try dsimp only) <;> (first | exact a | exact d)
    clear hK K hz2
    try simp only [Act.put, la, lb, lc]
    refine wT 4 { dst := some 54, op := Go.Op.slice 23 (Go.Operand.tmp 52) none (some (Go.Operand.tmp 53)) none, type := 23, pos := "state.go:75", after := #[{ on := 2, ground := Go.Ground.data }, { on := 3, ground := Go.Ground.data }], guard := none } (v := ?_) (Or.inl ⟨by rfl, ?_⟩) ?_
    rotate_left
    ·(intro w hSw; (try dsimp only at hSw); go_simp) <;> with_reducible rfl
    simp only [Act.put, la, lb, lc]
   rotate_left 2
   refine cR { dst := some 59, op := Go.Op.load 23 (Go.Operand.tmp 58), type := 23, pos := "state.go:75", after := #[{ on := 8, ground := Go.Ground.data }], guard := none } (fun K hK => ?_) AllReadyH.nil
   go_simp
   refine hK.out _ _ ?_ (fun hz1 => ?_)
   ·(try dsimp only) <;> (first | exact a | exact d)
   clear hK K hz0
   try simp only [Act.put, la, lb, lc]
   refine wT 11 { dst := some 61, op := Go.Op.slice 23 (Go.Operand.tmp 59) (some (Go.Operand.tmp 60)) none none, type := 23, pos := "state.go:75", after := #[{ on := 9, ground := Go.Ground.data }, { on := 10, ground := Go.Ground.data }], guard := none } (v := ?_) (Or.inl ⟨by rfl, ?_⟩) ?_
   rotate_left
   ·(intro w hSw; (try dsimp only at hSw); go_simp) <;> with_reducible rfl
   simp only [Act.put, la, lb, lc];refine wA [2, 6] ?_;refine cR { dst := some 52, op := Go.Op.load 23 (Go.Operand.tmp 51), type := 23, pos := "state.go:75", after := #[{ on := 1, ground := Go.Ground.data }], guard := none } (fun K hK => ?_) ?_
   focus
    go_simp
    refine hK.out _ _ ?_ (fun hz2 => ?_)
    ·(try dsimp only) <;> (first | exact a | exact d)
    clear hK K hz1
    try simp only [Act.put, la, lb, lc]
    refine wT 4 { dst := some 54, op := Go.Op.slice 23 (Go.Operand.tmp 52) none (some (Go.Operand.tmp 53)) none, type := 23, pos := "state.go:75", after := #[{ on := 2, ground := Go.Ground.data }, { on := 3, ground := Go.Ground.data }], guard := none } (v := ?_) (Or.inl ⟨by rfl, ?_⟩) ?_
    rotate_left
    ·(intro w hSw; (try dsimp only at hSw); go_simp) <;> with_reducible rfl
    simp only [Act.put, la, lb, lc];refine wR 6 { dst := some 56, op := Go.Op.buildSlice 23 1 #[(0, Go.Operand.tmp 55)], type := 23, pos := "state.go:75", after := #[{ on := 5, ground := Go.Ground.data }], guard := none } (fun K hK => ?_)
    go_simp
    refine hK.out _ _ ?_ (fun hz3 => ?_)
    ·(try dsimp only) <;> (first | exact a | exact d)
    clear hK K hz2
    try simp only [Act.put, la, lb, lc]
   rotate_left
   refine cR { dst := some 56, op := Go.Op.buildSlice 23 1 #[(0, Go.Operand.tmp 55)], type := 23, pos := "state.go:75", after := #[{ on := 5, ground := Go.Ground.data }], guard := none } (fun K hK => ?_) AllReadyH.nil
   go_simp
   refine hK.out _ _ ?_ (fun hz2 => ?_)
   ·(try dsimp only) <;> (first | exact a | exact d)
   clear hK K hz1
   try simp only [Act.put, la, lb, lc]
   refine wR 2 { dst := some 52, op := Go.Op.load 23 (Go.Operand.tmp 51), type := 23, pos := "state.go:75", after := #[{ on := 1, ground := Go.Ground.data }], guard := none } (fun K hK => ?_)
   go_simp
   refine hK.out _ _ ?_ (fun hz3 => ?_)
   ·(try dsimp only) <;> (first | exact a | exact d)
   clear hK K hz2
   try simp only [Act.put, la, lb, lc]
   refine wT 4 { dst := some 54, op := Go.Op.slice 23 (Go.Operand.tmp 52) none (some (Go.Operand.tmp 53)) none, type := 23, pos := "state.go:75", after := #[{ on := 2, ground := Go.Ground.data }, { on := 3, ground := Go.Ground.data }], guard := none } (v := ?_) (Or.inl ⟨by rfl, ?_⟩) ?_
   rotate_left
   ·(intro w hSw; (try dsimp only at hSw); go_simp) <;> with_reducible rfl
   simp only [Act.put, la, lb, lc]
   all_goals
    refine wR 12 { dst := some 62, op := Go.Op.buildSlice 206 3 #[(0, Go.Operand.tmp 54), (1, Go.Operand.tmp 56), (2, Go.Operand.tmp 61)], type := 206, pos := "state.go:75", after := #[{ on := 4, ground := Go.Ground.data }, { on := 6, ground := Go.Ground.data }, { on := 11, ground := Go.Ground.data }], guard := none } (fun K hK => ?_)
    go_simp
    refine hK.out _ _ ?_ (fun hz4 => ?_)
    ·(try dsimp only) <;> exact aI
    clear hK K hz3
    try simp only [Act.put, la, lb, lc]
    refine wR 13 { dst := some 63, op := Go.Op.call { callee := Go.Callee.value (Go.Operand.func 129), args := #[Go.Operand.tmp 62], argTypes := #[206] }, type := 23, pos := "state.go:75", after := #[{ on := 12, ground := Go.Ground.data }], guard := none } (fun K hK => ?_)
    go_simp
    refine HC.out.mono ?_;rintro e w4 ⟨a8, c8, rfl, ar, bg, bh, aO, R⟩
    go_wp2_with fail
    refine hK.out _ _ ?_ (fun hz5 => ?_)
    ·(try dsimp only) <;> exact ar
    clear hK K hz4
    try simp only [Act.put, la, lb, lc]
    refine wT 14 { dst := some 64, op := Go.Op.fieldAddr 73 (Go.Operand.tmp 2) 0, type := 0, pos := "state.go:75", after := #[{ on := 0, ground := Go.Ground.phase }, { on := 1, ground := Go.Ground.phase }, { on := 2, ground := Go.Ground.phase }, { on := 3, ground := Go.Ground.phase }, { on := 4, ground := Go.Ground.phase }, { on := 5, ground := Go.Ground.phase }, { on := 6, ground := Go.Ground.phase }, { on := 7, ground := Go.Ground.phase }, { on := 8, ground := Go.Ground.phase }, { on := 9, ground := Go.Ground.phase }, { on := 10, ground := Go.Ground.phase }, { on := 11, ground := Go.Ground.phase }, { on := 12, ground := Go.Ground.phase }, { on := 13, ground := Go.Ground.phase }], guard := none } (v := ?_) (Or.inl ⟨by rfl, ?_⟩) ?_
    rotate_left
    ·(intro w hSw; (try dsimp only at hSw); go_simp) <;> with_reducible rfl
    simp only [Act.put, la, lb, lc];refine wT 15 { dst := some 65, op := Go.Op.fieldAddr 25 (Go.Operand.tmp 64) 2, type := 0, pos := "state.go:75", after := #[{ on := 14, ground := Go.Ground.data }, { on := 0, ground := Go.Ground.phase }, { on := 1, ground := Go.Ground.phase }, { on := 2, ground := Go.Ground.phase }, { on := 3, ground := Go.Ground.phase }, { on := 4, ground := Go.Ground.phase }, { on := 5, ground := Go.Ground.phase }, { on := 6, ground := Go.Ground.phase }, { on := 7, ground := Go.Ground.phase }, { on := 8, ground := Go.Ground.phase }, { on := 9, ground := Go.Ground.phase }, { on := 10, ground := Go.Ground.phase }, { on := 11, ground := Go.Ground.phase }, { on := 12, ground := Go.Ground.phase }, { on := 13, ground := Go.Ground.phase }], guard := none } (v := ?_) (Or.inl ⟨by rfl, ?_⟩) ?_
    rotate_left
    ·(intro w hSw; (try dsimp only at hSw); go_simp) <;> with_reducible rfl
    simp only [Act.put, la, lb, lc];refine wR 16 { dst := none, op := Go.Op.store 23 (Go.Operand.tmp 65) (Go.Operand.tmp 63), type := 0, pos := "state.go:75", after := #[{ on := 15, ground := Go.Ground.data }, { on := 13, ground := Go.Ground.data }, { on := 13, ground := Go.Ground.chain }, { on := 0, ground := Go.Ground.phase }, { on := 1, ground := Go.Ground.phase }, { on := 2, ground := Go.Ground.phase }, { on := 3, ground := Go.Ground.phase }, { on := 4, ground := Go.Ground.phase }, { on := 5, ground := Go.Ground.phase }, { on := 6, ground := Go.Ground.phase }, { on := 7, ground := Go.Ground.phase }, { on := 8, ground := Go.Ground.phase }, { on := 9, ground := Go.Ground.phase }, { on := 10, ground := Go.Ground.phase }, { on := 11, ground := Go.Ground.phase }, { on := 12, ground := Go.Ground.phase }, { on := 13, ground := Go.Ground.phase }], guard := none } (fun K hK => ?_)
    go_simp
    refine hK.out _ _ ?_ (fun hz6 => ?_)
    ·(try dsimp only) <;> exact zdr ar
    clear hK K hz5
    try simp only [Act.put, la, lb, lc]
    refine wpAnyH_done (by kernel_rfl) ?_ _;refine NoPanic.normal ?_;have C : But w.heap.size w4 (w4.setCell ⟨w.heap.size, 2, none⟩ (.slice a8 (Lc + 1) c8)) := (But.refl _ _).set _ _;have E := (z.out.below R.out).set 2 (.slice a8 (Lc + 1) c8);have au := Lib.hid ((aC.out.below R.out).keep (C.block (w.heap.size + 1 + 1) (by omega)));have y0 := E.c0;have y1 := E.c1;have y2 := E.c2;have T : Hid (Below w.heap.size w (w4.setCell ⟨w.heap.size, 2, none⟩ (.slice a8 (Lc + 1) c8))) := Lib.hid ((z00 N.out R.out).trans (C.below (B := w.heap.size) (by omega)));have aw := Lib.hid (ah.out _ a8 c8 T.out (by have h9 := aO.out; rw [<- G.out] at h9; exact z24 h9 C (by have := aB.out; omega)) H.out);clear C E
    generalize w4.setCell ⟨w.heap.size, 2, none⟩ (.slice a8 (Lc + 1) c8) = w5 at *
    go_wp2_with fail
    refine aw.out.mono ?_;rintro e w6 ⟨a6, c6, a7, c7, M7, rfl, I, J, U⟩;have g := au.out.below U;have V : (⟨v, es, putL ⟨ci, cq, ca, cv⟩ cs⟩ : Mdl).es.length = Le := u.out.symm;have X : (⟨v, es, putL ⟨ci, cq, ca, cv⟩ cs⟩ : Mdl).cs.length = Lc + 1 := H.out;rw [V, X];have t0 := g.thaw 0;have t1 := g.thaw 1;have t2 := g.thaw 2;have t3 := g.thaw 3;have e0 := g.c0;have e1 := g.c1;have e2 := g.c2;have e3 := g.c3;have RP := z3k g v (.slice a6 Le c6) (.slice a7 (Lc + 1) c7) M7;have f0 := RP.c0;have f1 := RP.c1;have f2 := RP.c2;have f3 := RP.c3
    have ax : Hid (z3h ⟨v, es, putL ⟨ci, cq, ca, cv⟩ cs⟩ w (.returned (.agg (stC v (.slice a6 Le c6) (.slice a7 (Lc + 1) c7) M7))) (putS w6 (w.heap.size + 1 + 1) v (.slice a6 Le c6) (.slice a7 (Lc + 1) c7) M7)) := Lib.hid (by
     have F := z14 w6 (w.heap.size + 1 + 1) v (.slice a6 Le c6) (.slice a7 (Lc + 1) c7) M7
     exact ⟨a6, c6, a7, c7, M7, by rw [V, X], I.but g (fun _ => Value.noConfusion) (fun _ => Value.noConfusion) (fun _ => Value.noConfusion) (fun _ => Value.noConfusion) (fun _ => Value.noConfusion) (fun _ => Value.noConfusion) (fun _ => Value.noConfusion) F, Sl.keep J (fun b hb => F.block b (by have h1 := hb.1; have h2 := au.out.lt; omega)) (fun b hb => ⟨Nat.le_trans T.out.size hb.1, Nat.lt_of_lt_of_eq hb.2 F.size.symm⟩) (fun _ _ h => h), (z00 T.out U).trans (F.below (B := w.heap.size) (by omega))⟩)
    clear g RP I J U V X y0 y1 y2 aw;go_wp2;exact bodyPost_ret (v := .agg (stC v (.slice a6 Le c6) (.slice a7 (Lc + 1) c7) M7)) (by simp [results, Tryz.results83, go_sem, f0, f1, f2, f3]) rfl ax.out
end Go.Proofs.YtdkkkeoicekdgaaGreatDoor.Md
