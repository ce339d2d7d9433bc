/- Package model: which commands and clients may be. -/
import Derived.Test.YtdkkkeoicekdgaaGreatDoorZEMex

section

namespace Go.Proofs.YtdkkkeoicekdgaaGreatDoor.Md
open Go.Lib (hid)
open Go.RowKit Go.Maps Go.WideShapes Go.WideMaps Go.Proofs.YtdkkkeoicekdgaaGreatDoor Go.Proofs.YtdkkkeoicekdgaaGreatDoor.Ca
def Says (b : Bool) (w : World) (e : Ending) (w' : World) : Prop := e = .returned (.bool b) /\ w' = w
theorem z3o (n : Int) (w : World) : Calls Tryz.prog 45 #[.int .i64 n] w (Says (cntB n) w) := by
 by_cases h1 : 1 <= n
 ·by_cases h2 : n <= 1073741824
  ·have HC : Hid (Says (cntB n) w (.returned (.bool true)) w) := hid ⟨by simp [cntB, h1, h2], rfl⟩
   go_enter Tryz.func45, Tryz.ntmps45
   go_wp2;go_ret;exact HC.out
  ·have HC : Hid (Says (cntB n) w (.returned (.bool false)) w) := hid ⟨by simp [cntB, h1, h2], rfl⟩
   go_enter Tryz.func45, Tryz.ntmps45
   go_wp2;go_ret;exact HC.out
 ·have HC : Hid (Says (cntB n) w (.returned (.bool false)) w) := hid ⟨by simp [cntB, h1], rfl⟩
  go_enter Tryz.func45, Tryz.ntmps45
  go_wp2;go_ret;exact HC.out
theorem z5j (w : World) (c : Cmd) (b : Option Addr) (cap : Nat) : Calls Tryz.prog 14 #[.agg #[.int .i64 c.cl, .int .i64 c.sq, .slice b c.ch.length cap]] w fun e w' => e = .returned (.bool (mayC c)) /\ Below w.heap.size w w' := by
 have HM : Hid (mayC c = (cntB c.cl && cntB c.sq && decide (1 <= c.ch.length) && decide (c.ch.length <= 20))) := hid rfl;have a := hid (z3o c.cl);have d := hid (z3o c.sq);obtain ⟨p, HP⟩ := nmd (cntB c.cl);obtain ⟨q, HQ⟩ := nmd (cntB c.sq);rw [<- HP.out, <- HQ.out] at HM;rw [<- HP.out] at a;rw [<- HQ.out] at d;clear HP HQ;obtain ⟨cl, sq, ch⟩ := c;simp only at HM a d ⊢
 generalize ch.length = L at *
 generalize mayC ⟨cl, sq, ch⟩ = m at *
 have R := z02 w #[.int .i64 cl, .int .i64 sq, .slice b L cap] 28;have c0 := R.c0;have c1 := R.c1;have c2 := R.c2;have HB := hid (z03 w (.cells #[.int .i64 cl, .int .i64 sq, .slice b L cap] 28));clear R
 go_enter Tryz.func14, Tryz.ntmps14
 go_wp2_with fail
 refine (a.out _).mono ?_;rintro e w1 ⟨rfl, rfl⟩;clear a
 cases p with
 | false =>
  go_wp2;go_ret;exact ⟨by rw [HM.out]; rfl, HB.out⟩
 | true =>
  go_wp2_with fail
  refine (d.out _).mono ?_;rintro e w1 ⟨rfl, rfl⟩;clear d
  cases q with
  | false =>
   go_wp2;go_ret;exact ⟨by rw [HM.out]; rfl, HB.out⟩
  | true =>
   by_cases h1 : (1 : Int) <= L
   ·by_cases h2 : (L : Int) <= 20
    ·have HE : Hid (m = true) := hid (by rw [HM.out]; simp; omega)
     clear HM;go_wp2;go_ret;exact ⟨by rw [HE.out]; rfl, HB.out⟩
    ·have HE : Hid (m = false) := hid (by rw [HM.out]; simp; omega)
     clear HM;go_wp2;go_ret;exact ⟨by rw [HE.out]; first | rfl | exact congrArg (fun b => Ending.returned (Value.bool b)) (show decide ((L : Int) <= 20) = false from decide_eq_false (by omega)), HB.out⟩
   ·have HE : Hid (m = false) := hid (by rw [HM.out]; simp; omega)
    clear HM;go_wp2;go_ret;exact ⟨by rw [HE.out]; first | rfl | exact congrArg (fun b => Ending.returned (Value.bool b)) (show decide ((1 : Int) <= L) = false from decide_eq_false (by omega)), HB.out⟩
theorem rcli_any (w : World) (c : Cli) (v : Int) : Calls Tryz.prog 84 #[clV c, .int .i64 v] w fun e w' => e = .returned (.bool (cliB v c)) /\ Below w.heap.size w w' := by
 have HM : Hid (cliB v c = (cntB c.id && cntB c.sq && decide (0 <= c.an) && decide (c.an <= 255) && decide (0 <= c.vr) && decide (c.vr <= v))) := hid rfl;have a := hid (z3o c.id);have d := hid (z3o c.sq);obtain ⟨p, HP⟩ := nmd (cntB c.id);obtain ⟨q, HQ⟩ := nmd (cntB c.sq);rw [<- HP.out, <- HQ.out] at HM;rw [<- HP.out] at a;rw [<- HQ.out] at d;clear HP HQ;obtain ⟨cl, sq, an, vr⟩ := c;simp only at HM a d ⊢
 generalize cliB v ⟨cl, sq, an, vr⟩ = m at *
 have R := z02 w #[.int .i64 cl, .int .i64 sq, .int .i64 an, .int .i64 vr] 32;have c0 := R.c0;have c1 := R.c1;have c2 := R.c2;have c3 := R.c3;have HB := hid (z03 w (.cells #[.int .i64 cl, .int .i64 sq, .int .i64 an, .int .i64 vr] 32));clear R
 go_enter Tryz.func84, Tryz.ntmps84
 go_wp2_with fail
 refine (a.out _).mono ?_;rintro e w1 ⟨rfl, rfl⟩;clear a
 cases p with
 | false =>
  go_wp2;go_ret;exact ⟨by rw [HM.out]; rfl, HB.out⟩
 | true =>
  go_wp2_with fail
  refine (d.out _).mono ?_;rintro e w1 ⟨rfl, rfl⟩;clear d
  cases q with
  | false =>
   go_wp2;go_ret;exact ⟨by rw [HM.out]; rfl, HB.out⟩
  | true =>
   by_cases h0 : 0 <= an
   ·by_cases h1 : an <= 255
    ·by_cases h2 : 0 <= vr
     ·by_cases h3 : vr <= v
      ·have HE : Hid (m = true) := hid (by rw [HM.out]; simp; omega)
       clear HM;go_wp2;go_ret;exact ⟨by rw [HE.out]; rfl, HB.out⟩
      ·have HE : Hid (m = false) := hid (by rw [HM.out]; simp; omega)
       clear HM;go_wp2;go_ret;exact ⟨by rw [HE.out]; first | rfl | exact congrArg (fun b => Ending.returned (Value.bool b)) (show decide (vr <= v) = false from decide_eq_false (by omega)), HB.out⟩
     ·have HE : Hid (m = false) := hid (by rw [HM.out]; simp; omega)
      clear HM;go_wp2;go_ret;exact ⟨by rw [HE.out]; first | rfl | exact congrArg (fun b => Ending.returned (Value.bool b)) (show decide (0 <= vr) = false from decide_eq_false (by omega)), HB.out⟩
    ·have HE : Hid (m = false) := hid (by rw [HM.out]; simp; omega)
     clear HM;go_wp2;go_ret;exact ⟨by rw [HE.out]; first | rfl | exact congrArg (fun b => Ending.returned (Value.bool b)) (show decide (an <= 255) = false from decide_eq_false (by omega)), HB.out⟩
   ·have HE : Hid (m = false) := hid (by rw [HM.out]; simp; omega)
    clear HM;go_wp2;go_ret;exact ⟨by rw [HE.out]; first | rfl | exact congrArg (fun b => Ending.returned (Value.bool b)) (show decide (0 <= an) = false from decide_eq_false (by omega)), HB.out⟩
end Go.Proofs.YtdkkkeoicekdgaaGreatDoor.Md

end

section

namespace Go.Proofs.YtdkkkeoicekdgaaGreatDoor.Md
set_option maxHeartbeats 6400000
set_option maxRecDepth 100000
open Go.RowKit Go.Maps Go.WideShapes Go.WideMaps Go.Proofs.YtdkkkeoicekdgaaGreatDoor Go.Proofs.YtdkkkeoicekdgaaGreatDoor.Ca
theorem zbt : ∀ {l : List Cli}, (∀ (j : Nat) x y, l[j]? = some x -> l[j + 1]? = some y -> x.id < y.id) -> SrtC l
 | [], _ => List.Pairwise.nil
 | [x], _ => List.pairwise_singleton _ _
 | x :: y :: r, h => by
  have h2 := zbt (l := y :: r) (fun j a b ha hb => h (j + 1) a b (by simpa using ha) (by simpa using hb));have h0 := h 0 x y rfl rfl
  unfold SrtC at h2 ⊢
  refine List.pairwise_cons.2 ⟨fun z hz => ?_, h2⟩
  rcases List.mem_cons.1 hz with rfl | hz
  ·exact h0
  ·have := (List.pairwise_cons.1 h2).1 z hz; omega
def RcP (v : Int) (cs : List Cli) (w : World) (e : Ending) (w' : World) : Prop := ∃ r : Bool, e = .returned (.bool r) /\ (r = true ↔ RgtC v cs) /\ Below w.heap.size w w'
theorem zgf {v : Int} {cs : List Cli} {w w' : World} (h : ¬ RgtC v cs) (hb : Below w.heap.size w w') : RcP v cs w (.returned (.bool false)) w' := ⟨false, rfl, ⟨fun h9 => Bool.noConfusion h9, fun h9 => absurd h9 h⟩, hb⟩
theorem zgg (w : World) (a : Option Addr) (cap : Nat) (cs : List Cli) (v : Int) (hC : SlL w (Old w) (.slice a cs.length cap) cs) : Calls Tryz.prog 41 #[.slice a cs.length cap, .int .i64 v] w (RcP v cs w) := by
 by_cases hlen : 16 < cs.length
 ·have HR : Hid (RcP v cs w (.returned (.bool false)) w) := Lib.hid (zgf (fun h => by have := h.len; omega) (Below.refl _ _))
  have h1 : (16 : Int) < cs.length := by omega
  clear hlen hC
  generalize cs.length = L at *
  go_enter Tryz.func41, Tryz.ntmps41
  go_wp2;go_ret;exact HR.out
 ·have h1 : ¬ (16 : Int) < cs.length := by omega
  have O : Hid ((∀ (j : Nat) x, cs[j]? = some x -> cliB v x = true) -> (∀ (j : Nat) x y, cs[j]? = some x -> cs[j + 1]? = some y -> x.id < y.id) -> RgtC v cs) := Lib.hid (fun ha ho => ⟨by omega, fun x hx => by obtain ⟨j, hj⟩ := List.mem_iff_getElem?.1 hx; exact ha j x hj, zbt ho⟩);have HX := Lib.hid hC;obtain ⟨L, HL⟩ := nmd (cs.length)
  have U : L <= 16 := by have := HL.out; omega
  rw [<- HL.out] at HX h1 ⊢;clear hC hlen
  go_enter Tryz.func41, Tryz.ntmps41
  go_wp2
  go_loopw [12] (fun i wr => ∃ k : Nat, k <= L /\ i = .int .i64 k /\ Hid (Below w.heap.size w wr) /\ Hid (∀ (j : Nat) x, j < k -> cs[j]? = some x -> cliB v x = true) /\ Hid (∀ (j : Nat) x y, j + 1 < k -> cs[j]? = some x -> cs[j + 1]? = some y -> x.id < y.id)) (fun i _ => L - (intOf i).toNat)
  case atStart => exact ⟨0, by omega, rfl, Lib.hid (Below.refl _ _), Lib.hid (fun j x h => by omega), Lib.hid (fun j x y h => by omega)⟩
  case round =>
   obtain ⟨k, hk, rfl, HB, HA, HO⟩ := hrel
   by_cases hlt : k < L
   ·obtain ⟨x, hx⟩ : ∃ x, cs[k]? = some x := ⟨_, List.getElem?_eq_getElem (by have := HL.out; omega)⟩
    have J := Lib.hid (HX.out.old HB.out);obtain ⟨b, M, rfl, N, x0, x1, x2, x3⟩ := SlL.get J.out hx;have o := Lib.hid hx;have r := Lib.hid (z00 HB.out (z03 wr (.cells (clC x) 32)))
    have A : Hid (cliB v x = true -> ∀ (j : Nat) y, j < k + 1 -> cs[j]? = some y -> cliB v y = true) := Lib.hid (fun hm j y hj hy => by
     rcases Nat.lt_or_eq_of_le (Nat.le_of_lt_succ hj) with h1 | rfl
     ·exact HA.out j y h1 hy
     ·rw [o.out] at hy
      obtain rfl := Option.some.inj hy
      exact hm)
    have B : Hid (cliB v x = false -> ¬ RgtC v cs) := Lib.hid (fun hm h => by have := h.ok x (List.mem_of_getElem? o.out); rw [hm] at this; cases this);have R := z02 wr (clC x) 32
    have n : b < (wr.alloc (.cells (clC x) 32)).heap.size := by rw [World.size_alloc]; have : b < wr.heap.size := N; omega
    have s : wr.heap.size < (wr.alloc (.cells (clC x) 32)).heap.size := by rw [World.size_alloc]; omega
    have f := Lib.hid (fun W => rcli_any W x v);have c := Lib.hid R
    cases hm : cliB v x with
    | false =>
     rw [hm] at f;have g := Lib.hid (B.out hm);obtain ⟨xi, xq, xa, xv⟩ := x;simp only at x0 x1 x2 x3 f r n s c;clear hm R hx B A o;go_wp2
     generalize wr.alloc (.cells #[.int .i64 xi, .int .i64 xq, .int .i64 xa, .int .i64 xv] 32) = W1 at *
     have HD : Hid (∀ W, Below W1.heap.size W1 W -> W.cell? ⟨wr.heap.size, 0, none⟩ = some (.int .i64 xi) /\ W.cell? ⟨wr.heap.size, 1, none⟩ = some (.int .i64 xq) /\ W.cell? ⟨wr.heap.size, 2, none⟩ = some (.int .i64 xa) /\ W.cell? ⟨wr.heap.size, 3, none⟩ = some (.int .i64 xv)) := Lib.hid (fun W h => ⟨(c.out.below h).cell rfl, (c.out.below h).cell rfl, (c.out.below h).cell rfl, (c.out.below h).cell rfl⟩);have l := HD.out _ (Below.refl W1.heap.size W1).drew;clear x0 x1 x2 x3;refine wp_region_held_drew (S := fun W => W.cell? ⟨wr.heap.size, 0, none⟩ = some (.int .i64 xi) /\ W.cell? ⟨wr.heap.size, 1, none⟩ = some (.int .i64 xq) /\ W.cell? ⟨wr.heap.size, 2, none⟩ = some (.int .i64 xa) /\ W.cell? ⟨wr.heap.size, 3, none⟩ = some (.int .i64 xv)) (by kernel_rfl) l (fun hz0 => ?_);refine wT 0 { dst := some 17, op := Go.Op.load 32 (Go.Operand.tmp 6), type := 32, pos := "model.go:73", after := #[], guard := none } (v := ?_) (Or.inl ⟨by rfl, ?_⟩) ?_
     rotate_left
     ·(intro w hSw; (try dsimp only at hSw); go_simp) <;> with_reducible rfl
     simp only [Act.put, la, lb, lc];refine wT 1 { dst := some 18, op := Go.Op.move (Go.Operand.tmp 1), type := 3, pos := "model.go:73", after := #[], guard := none } (v := ?_) (Or.inl ⟨by rfl, ?_⟩) ?_
     rotate_left
     ·(intro w hSw; (try dsimp only at hSw); go_simp) <;> with_reducible rfl
     simp only [Act.put, la, lb, lc];refine wR 2 { dst := some 19, op := Go.Op.call { callee := Go.Callee.value (Go.Operand.func 84), args := #[Go.Operand.tmp 17, Go.Operand.tmp 18], argTypes := #[32, 3] }, type := 4, pos := "model.go:73", after := #[{ on := 0, ground := Go.Ground.data }, { on := 1, ground := Go.Ground.data }], guard := none } (fun K hK => ?_)
     go_simp
     refine (f.out _).mono ?_;rintro e w2 ⟨rfl, d⟩;have m : Hid (Below W1.heap.size W1 w2) := Lib.hid (z00 (Below.refl W1.heap.size W1).drew d);have t := HD.out _ m.out;clear d l
     go_wp2_with fail
     refine hK.out _ _ ?_ (fun hz1 => ?_)
     ·exact t
     clear hK K hz0
     try simp only [Act.put, la, lb, lc]
     refine wT 3 { dst := some 20, op := Go.Op.unOp Go.UnOp.not 4 (Go.Operand.tmp 19), type := 4, pos := "model.go:73", after := #[{ on := 2, ground := Go.Ground.data }], guard := none } (v := ?_) (Or.inl ⟨by rfl, ?_⟩) ?_
     rotate_left
     ·(intro w hSw; (try dsimp only at hSw); go_simp) <;> with_reducible rfl
     simp only [Act.put, la, lb, lc];refine wT 4 { dst := some 21, op := Go.Op.move (Go.Operand.tmp 20), type := 4, pos := "model.go:73", after := #[{ on := 3, ground := Go.Ground.data }, { on := 2, ground := Go.Ground.chain }], guard := none } (v := ?_) (Or.inl ⟨by rfl, ?_⟩) ?_
     rotate_left
     ·(intro w hSw; (try dsimp only at hSw); go_simp) <;> with_reducible rfl
     simp only [Act.put, la, lb, lc];refine wS 5 22 ?_;simp only [Act.put, la, lb, lc];refine wS 6 23 ?_;simp only [Act.put, la, lb, lc];refine wS 7 24 ?_;simp only [Act.put, la, lb, lc];refine wS 8 25 ?_;simp only [Act.put, la, lb, lc];refine wS 9 26 ?_;simp only [Act.put, la, lb, lc];refine wS 10 27 ?_;simp only [Act.put, la, lb, lc];refine wS 11 28 ?_;simp only [Act.put, la, lb, lc];refine wS 12 29 ?_;simp only [Act.put, la, lb, lc];refine wS 13 30 ?_;simp only [Act.put, la, lb, lc];refine wS 14 31 ?_;simp only [Act.put, la, lb, lc];refine wS 15 32 ?_;simp only [Act.put, la, lb, lc];refine wS 16 33 ?_;simp only [Act.put, la, lb, lc];refine wS 17 34 ?_;simp only [Act.put, la, lb, lc];refine wT 18 { dst := some 35, op := Go.Op.pick (Go.Operand.tmp 21) (Go.Operand.const (Go.Value.bool true)) (Go.Operand.tmp 34), type := 4, pos := "model.go:73", after := #[{ on := 4, ground := Go.Ground.data }, { on := 17, ground := Go.Ground.data }], guard := none } (v := ?_) (Or.inl ⟨by rfl, ?_⟩) ?_
     rotate_left
     ·(intro w hSw; (try dsimp only at hSw); go_simp) <;> with_reducible rfl
     simp only [Act.put, la, lb, lc];refine wpAnyH_done (by kernel_rfl) ?_ _;go_wp2;go_ret;exact zgf g.out (z00 r.out m.out)
    | true =>
     rw [hm] at f;have E := Lib.hid (A.out hm)
     by_cases hk0 : 0 < k
     ·obtain ⟨p, hp⟩ : ∃ p, cs[k - 1]? = some p := ⟨_, List.getElem?_eq_getElem (by have := HL.out; omega)⟩
      have C : Hid (cs[k - 1 + 1]? = some x) := Lib.hid (by rw [show k - 1 + 1 = k by omega]; exact o.out);obtain ⟨b', T, F, -, p0, -⟩ := SlL.get J.out hp
      injection F with F
      injection F with hb1 d
      subst hb1 d;have HP := Lib.hid hp;obtain ⟨q, HQ⟩ := nmd (k - 1);rw [<- HQ.out] at p0 HP C;have q1 : IntKind.i64.wrap ((k : Int) - 1) = (k : Int) - 1 := IntWalk.i64_in _ (by omega)
      have q2 : ((k : Int) - 1).toNat = q := by have := HQ.out; omega
      have q3 : (0 : Int) <= (k : Int) - 1 := by omega
      have V : (1 : Int) <= (k : Int) := by omega
      have q4 : (k : Int) - 1 < (L : Int) := by omega
      have G : Hid (p.id < x.id -> ∀ (j : Nat) y z, j + 1 < k + 1 -> cs[j]? = some y -> cs[j + 1]? = some z -> y.id < z.id) := Lib.hid (fun h j y z hj hy hz => by
       by_cases hjk : j + 1 < k
       ·exact HO.out j y z hjk hy hz
       ·obtain rfl : j = q := by have := HQ.out; omega
        rw [HP.out] at hy; rw [C.out] at hz
        obtain rfl := Option.some.inj hy;obtain rfl := Option.some.inj hz
        exact h)
      have H : Hid (¬ p.id < x.id -> ¬ RgtC v cs) := Lib.hid (fun h hr => h (za2 hr.srt HP.out C.out (by omega)));have I := (Below.cell (z03 wr (.cells (clC x) 32)) (p := ⟨b, _, none⟩) N).trans p0;obtain ⟨xi, xq, xa, xv⟩ := x;obtain ⟨pi, pq, pa, pv⟩ := p;simp only at x0 x1 x2 x3 p0 I f r n s c G H
      by_cases hid : pi < xi
      focus
       have u := Lib.hid (G.out hid)
      rotate_left
      have g := Lib.hid (H.out hid)
      rotate_left
      all_goals
       clear hm R hx B A o HP C hp G H;go_wp2
       generalize wr.alloc (.cells #[.int .i64 xi, .int .i64 xq, .int .i64 xa, .int .i64 xv] 32) = W1 at *
       have HD : Hid (∀ W, Below W1.heap.size W1 W -> W.cell? ⟨wr.heap.size, 0, none⟩ = some (.int .i64 xi) /\ W.cell? ⟨wr.heap.size, 1, none⟩ = some (.int .i64 xq) /\ W.cell? ⟨wr.heap.size, 2, none⟩ = some (.int .i64 xa) /\ W.cell? ⟨wr.heap.size, 3, none⟩ = some (.int .i64 xv) /\ W.cell? ⟨b, M + q * 4, none⟩ = some (.int .i64 pi)) := Lib.hid (fun W h => ⟨(c.out.below h).cell rfl, (c.out.below h).cell rfl, (c.out.below h).cell rfl, (c.out.below h).cell rfl, (h.cell n).trans I⟩);have l := HD.out _ (Below.refl W1.heap.size W1).drew;clear x0 x1 x2 x3 p0 I;refine wp_region_held_drew (S := fun W => W.cell? ⟨wr.heap.size, 0, none⟩ = some (.int .i64 xi) /\ W.cell? ⟨wr.heap.size, 1, none⟩ = some (.int .i64 xq) /\ W.cell? ⟨wr.heap.size, 2, none⟩ = some (.int .i64 xa) /\ W.cell? ⟨wr.heap.size, 3, none⟩ = some (.int .i64 xv) /\ W.cell? ⟨b, M + q * 4, none⟩ = some (.int .i64 pi)) (by kernel_rfl) l (fun hz0 => ?_);refine wT 0 { dst := some 17, op := Go.Op.load 32 (Go.Operand.tmp 6), type := 32, pos := "model.go:73", after := #[], guard := none } (v := ?_) (Or.inl ⟨by rfl, ?_⟩) ?_
       rotate_left
       ·(intro w hSw; (try dsimp only at hSw); go_simp) <;> with_reducible rfl
       simp only [Act.put, la, lb, lc];refine wT 1 { dst := some 18, op := Go.Op.move (Go.Operand.tmp 1), type := 3, pos := "model.go:73", after := #[], guard := none } (v := ?_) (Or.inl ⟨by rfl, ?_⟩) ?_
       rotate_left
       ·(intro w hSw; (try dsimp only at hSw); go_simp) <;> with_reducible rfl
       simp only [Act.put, la, lb, lc];refine wR 2 { dst := some 19, op := Go.Op.call { callee := Go.Callee.value (Go.Operand.func 84), args := #[Go.Operand.tmp 17, Go.Operand.tmp 18], argTypes := #[32, 3] }, type := 4, pos := "model.go:73", after := #[{ on := 0, ground := Go.Ground.data }, { on := 1, ground := Go.Ground.data }], guard := none } (fun K hK => ?_)
       go_simp
       refine (f.out _).mono ?_;rintro e w2 ⟨rfl, d⟩;have m : Hid (Below W1.heap.size W1 w2) := Lib.hid (z00 (Below.refl W1.heap.size W1).drew d);have t := HD.out _ m.out;clear d l
       go_wp2_with fail
       refine hK.out _ _ ?_ (fun hz1 => ?_)
       ·exact t
       clear hK K hz0
       try simp only [Act.put, la, lb, lc]
       refine wT 3 { dst := some 20, op := Go.Op.unOp Go.UnOp.not 4 (Go.Operand.tmp 19), type := 4, pos := "model.go:73", after := #[{ on := 2, ground := Go.Ground.data }], guard := none } (v := ?_) (Or.inl ⟨by rfl, ?_⟩) ?_
       rotate_left
       ·(intro w hSw; (try dsimp only at hSw); go_simp) <;> with_reducible rfl
       simp only [Act.put, la, lb, lc];refine wT 4 { dst := some 21, op := Go.Op.move (Go.Operand.tmp 20), type := 4, pos := "model.go:73", after := #[{ on := 3, ground := Go.Ground.data }, { on := 2, ground := Go.Ground.chain }], guard := none } (v := ?_) (Or.inl ⟨by rfl, ?_⟩) ?_
       rotate_left
       ·(intro w hSw; (try dsimp only at hSw); go_simp) <;> with_reducible rfl
       simp only [Act.put, la, lb, lc];refine wT 5 { dst := some 22, op := Go.Op.move (Go.Operand.tmp 5), type := 3, pos := "model.go:73", after := #[{ on := 4, ground := Go.Ground.guard }], guard := some (4, false) } (v := ?_) (Or.inl ⟨by rfl, ?_⟩) ?_
       rotate_left
       ·(intro w hSw; (try dsimp only at hSw); go_simp) <;> with_reducible rfl
       simp only [Act.put, la, lb, lc];refine wT 6 { dst := some 23, op := Go.Op.binOp Go.BinOp.gtr 3 (Go.Operand.tmp 22) (Go.Operand.const (Go.Value.int Go.IntKind.i64 0)) 3, type := 4, pos := "model.go:73", after := #[{ on := 5, ground := Go.Ground.data }, { on := 4, ground := Go.Ground.guard }], guard := some (4, false) } (v := ?_) (Or.inl ⟨by rfl, ?_⟩) ?_
       rotate_left
       ·(intro w hSw; (try dsimp only at hSw); go_simp) <;> with_reducible rfl
       simp only [Act.put, la, lb, lc];refine wT 7 { dst := some 24, op := Go.Op.move (Go.Operand.tmp 23), type := 4, pos := "model.go:73", after := #[{ on := 6, ground := Go.Ground.data }, { on := 4, ground := Go.Ground.chain }, { on := 4, ground := Go.Ground.guard }], guard := some (4, false) } (v := ?_) (Or.inl ⟨by rfl, ?_⟩) ?_
       rotate_left
       ·(intro w hSw; (try dsimp only at hSw); go_simp) <;> with_reducible rfl
       simp only [Act.put, la, lb, lc];refine wT 8 { dst := some 25, op := Go.Op.move (Go.Operand.tmp 0), type := 23, pos := "model.go:73", after := #[{ on := 7, ground := Go.Ground.guard }], guard := some (7, true) } (v := ?_) (Or.inl ⟨by rfl, ?_⟩) ?_
       rotate_left
       ·(intro w hSw; (try dsimp only at hSw); go_simp) <;> with_reducible rfl
       simp only [Act.put, la, lb, lc];refine wT 9 { dst := some 26, op := Go.Op.move (Go.Operand.tmp 5), type := 3, pos := "model.go:73", after := #[{ on := 7, ground := Go.Ground.guard }], guard := some (7, true) } (v := ?_) (Or.inl ⟨by rfl, ?_⟩) ?_
       rotate_left
       ·(intro w hSw; (try dsimp only at hSw); go_simp) <;> with_reducible rfl
       simp only [Act.put, la, lb, lc];refine wT 10 { dst := some 27, op := Go.Op.binOp Go.BinOp.sub 3 (Go.Operand.tmp 26) (Go.Operand.const (Go.Value.int Go.IntKind.i64 1)) 3, type := 3, pos := "model.go:73", after := #[{ on := 9, ground := Go.Ground.data }, { on := 7, ground := Go.Ground.guard }], guard := some (7, true) } (v := ?_) (Or.inl ⟨by rfl, ?_⟩) ?_
       rotate_left
       ·(intro w hSw; (try dsimp only at hSw); go_simp) <;> with_reducible rfl
       simp only [Act.put, la, lb, lc];refine wT 11 { dst := some 28, op := Go.Op.indexAddr 23 (Go.Operand.tmp 25) (Go.Operand.tmp 27), type := 0, pos := "model.go:73", after := #[{ on := 8, ground := Go.Ground.data }, { on := 10, ground := Go.Ground.data }, { on := 7, ground := Go.Ground.guard }], guard := some (7, true) } (v := ?_) (Or.inl ⟨by rfl, ?_⟩) ?_
       rotate_left
       ·(intro w hSw; (try dsimp only at hSw); go_simp) <;> with_reducible rfl
       simp only [Act.put, la, lb, lc];refine wT 12 { dst := some 29, op := Go.Op.fieldAddr 32 (Go.Operand.tmp 28) 0, type := 0, pos := "model.go:73", after := #[{ on := 11, ground := Go.Ground.data }, { on := 7, ground := Go.Ground.guard }], guard := some (7, true) } (v := ?_) (Or.inl ⟨by rfl, ?_⟩) ?_
       rotate_left
       ·(intro w hSw; (try dsimp only at hSw); go_simp) <;> with_reducible rfl
       simp only [Act.put, la, lb, lc];refine wT 13 { dst := some 30, op := Go.Op.load 3 (Go.Operand.tmp 29), type := 3, pos := "model.go:73", after := #[{ on := 12, ground := Go.Ground.data }, { on := 7, ground := Go.Ground.guard }], guard := some (7, true) } (v := ?_) (Or.inl ⟨by rfl, ?_⟩) ?_
       rotate_left
       ·(intro w hSw; (try dsimp only at hSw); go_simp) <;> with_reducible rfl
       simp only [Act.put, la, lb, lc];refine wT 14 { dst := some 31, op := Go.Op.fieldAddr 32 (Go.Operand.tmp 6) 0, type := 0, pos := "model.go:73", after := #[{ on := 7, ground := Go.Ground.guard }], guard := some (7, true) } (v := ?_) (Or.inl ⟨by rfl, ?_⟩) ?_
       rotate_left
       ·(intro w hSw; (try dsimp only at hSw); go_simp) <;> with_reducible rfl
       simp only [Act.put, la, lb, lc];refine wT 15 { dst := some 32, op := Go.Op.load 3 (Go.Operand.tmp 31), type := 3, pos := "model.go:73", after := #[{ on := 14, ground := Go.Ground.data }, { on := 7, ground := Go.Ground.guard }], guard := some (7, true) } (v := ?_) (Or.inl ⟨by rfl, ?_⟩) ?_
       rotate_left
       ·(intro w hSw; (try dsimp only at hSw); go_simp) <;> with_reducible rfl
       simp only [Act.put, la, lb, lc];refine wT 16 { dst := some 33, op := Go.Op.binOp Go.BinOp.geq 3 (Go.Operand.tmp 30) (Go.Operand.tmp 32) 3, type := 4, pos := "model.go:73", after := #[{ on := 13, ground := Go.Ground.data }, { on := 15, ground := Go.Ground.data }, { on := 7, ground := Go.Ground.guard }], guard := some (7, true) } (v := ?_) (Or.inl ⟨by rfl, ?_⟩) ?_
       rotate_left
       ·(intro w hSw; (try dsimp only at hSw); go_simp) <;> with_reducible rfl
       simp only [Act.put, la, lb, lc];refine wT 17 { dst := some 34, op := Go.Op.pick (Go.Operand.tmp 24) (Go.Operand.tmp 33) (Go.Operand.const (Go.Value.bool false)), type := 4, pos := "model.go:73", after := #[{ on := 7, ground := Go.Ground.data }, { on := 16, ground := Go.Ground.data }, { on := 4, ground := Go.Ground.guard }], guard := some (4, false) } (v := ?_) (Or.inl ⟨by rfl, ?_⟩) ?_
       rotate_left
       ·(intro w hSw; (try dsimp only at hSw); go_simp) <;> with_reducible rfl
       simp only [Act.put, la, lb, lc];refine wT 18 { dst := some 35, op := Go.Op.pick (Go.Operand.tmp 21) (Go.Operand.const (Go.Value.bool true)) (Go.Operand.tmp 34), type := 4, pos := "model.go:73", after := #[{ on := 4, ground := Go.Ground.data }, { on := 17, ground := Go.Ground.data }], guard := none } (v := ?_) (Or.inl ⟨by rfl, ?_⟩) ?_
       rotate_left
       ·(intro w hSw; (try dsimp only at hSw); go_simp) <;> with_reducible rfl
       simp only [Act.put, la, lb, lc];refine wpAnyH_done (by kernel_rfl) ?_ _;have D := Lib.hid (z00 r.out m.out);go_wp2
      ·go_roundw
       case rel => exact ⟨k + 1, by omega, by go_num, D, E, u⟩
       case measure => simp [intOf]; omega
      ·go_ret
       exact zgf g.out D.out
     ·have X : decide (0 < k) = false := decide_eq_false hk0
      have u : Hid (∀ (j : Nat) y z, j + 1 < k + 1 -> cs[j]? = some y -> cs[j + 1]? = some z -> y.id < z.id) := Lib.hid (fun j y z hj => by omega);obtain ⟨xi, xq, xa, xv⟩ := x;simp only at x0 x1 x2 x3 f r n s c;clear hm R hx B A o;go_wp2
      generalize wr.alloc (.cells #[.int .i64 xi, .int .i64 xq, .int .i64 xa, .int .i64 xv] 32) = W1 at *
      have HD : Hid (∀ W, Below W1.heap.size W1 W -> W.cell? ⟨wr.heap.size, 0, none⟩ = some (.int .i64 xi) /\ W.cell? ⟨wr.heap.size, 1, none⟩ = some (.int .i64 xq) /\ W.cell? ⟨wr.heap.size, 2, none⟩ = some (.int .i64 xa) /\ W.cell? ⟨wr.heap.size, 3, none⟩ = some (.int .i64 xv)) := Lib.hid (fun W h => ⟨(c.out.below h).cell rfl, (c.out.below h).cell rfl, (c.out.below h).cell rfl, (c.out.below h).cell rfl⟩);have l := HD.out _ (Below.refl W1.heap.size W1).drew;clear x0 x1 x2 x3;refine wp_region_held_drew (S := fun W => W.cell? ⟨wr.heap.size, 0, none⟩ = some (.int .i64 xi) /\ W.cell? ⟨wr.heap.size, 1, none⟩ = some (.int .i64 xq) /\ W.cell? ⟨wr.heap.size, 2, none⟩ = some (.int .i64 xa) /\ W.cell? ⟨wr.heap.size, 3, none⟩ = some (.int .i64 xv)) (by kernel_rfl) l (fun hz0 => ?_);refine wT 0 { dst := some 17, op := Go.Op.load 32 (Go.Operand.tmp 6), type := 32, pos := "model.go:73", after := #[], guard := none } (v := ?_) (Or.inl ⟨by rfl, ?_⟩) ?_
      rotate_left
      ·(intro w hSw; (try dsimp only at hSw); go_simp) <;> with_reducible rfl
      simp only [Act.put, la, lb, lc];refine wT 1 { dst := some 18, op := Go.Op.move (Go.Operand.tmp 1), type := 3, pos := "model.go:73", after := #[], guard := none } (v := ?_) (Or.inl ⟨by rfl, ?_⟩) ?_
      rotate_left
      ·(intro w hSw; (try dsimp only at hSw); go_simp) <;> with_reducible rfl
      simp only [Act.put, la, lb, lc];refine wR 2 { dst := some 19, op := Go.Op.call { callee := Go.Callee.value (Go.Operand.func 84), args := #[Go.Operand.tmp 17, Go.Operand.tmp 18], argTypes := #[32, 3] }, type := 4, pos := "model.go:73", after := #[{ on := 0, ground := Go.Ground.data }, { on := 1, ground := Go.Ground.data }], guard := none } (fun K hK => ?_)
      go_simp
      refine (f.out _).mono ?_;rintro e w2 ⟨rfl, d⟩;have m : Hid (Below W1.heap.size W1 w2) := Lib.hid (z00 (Below.refl W1.heap.size W1).drew d);have t := HD.out _ m.out;clear d l
      go_wp2_with fail
      refine hK.out _ _ ?_ (fun hz1 => ?_)
      ·exact t
      clear hK K hz0
      try simp only [Act.put, la, lb, lc]
      refine wT 3 { dst := some 20, op := Go.Op.unOp Go.UnOp.not 4 (Go.Operand.tmp 19), type := 4, pos := "model.go:73", after := #[{ on := 2, ground := Go.Ground.data }], guard := none } (v := ?_) (Or.inl ⟨by rfl, ?_⟩) ?_
      rotate_left
      ·(intro w hSw; (try dsimp only at hSw); go_simp) <;> with_reducible rfl
      simp only [Act.put, la, lb, lc];refine wT 4 { dst := some 21, op := Go.Op.move (Go.Operand.tmp 20), type := 4, pos := "model.go:73", after := #[{ on := 3, ground := Go.Ground.data }, { on := 2, ground := Go.Ground.chain }], guard := none } (v := ?_) (Or.inl ⟨by rfl, ?_⟩) ?_
      rotate_left
      ·(intro w hSw; (try dsimp only at hSw); go_simp) <;> with_reducible rfl
      simp only [Act.put, la, lb, lc];refine wT 5 { dst := some 22, op := Go.Op.move (Go.Operand.tmp 5), type := 3, pos := "model.go:73", after := #[{ on := 4, ground := Go.Ground.guard }], guard := some (4, false) } (v := ?_) (Or.inl ⟨by rfl, ?_⟩) ?_
      rotate_left
      ·(intro w hSw; (try dsimp only at hSw); go_simp) <;> with_reducible rfl
      simp only [Act.put, la, lb, lc];refine wT 6 { dst := some 23, op := Go.Op.binOp Go.BinOp.gtr 3 (Go.Operand.tmp 22) (Go.Operand.const (Go.Value.int Go.IntKind.i64 0)) 3, type := 4, pos := "model.go:73", after := #[{ on := 5, ground := Go.Ground.data }, { on := 4, ground := Go.Ground.guard }], guard := some (4, false) } (v := ?_) (Or.inl ⟨by rfl, ?_⟩) ?_
      rotate_left
      ·(intro w hSw; (try dsimp only at hSw); go_simp) <;> with_reducible rfl
      simp only [Act.put, la, lb, lc];refine wT 7 { dst := some 24, op := Go.Op.move (Go.Operand.tmp 23), type := 4, pos := "model.go:73", after := #[{ on := 6, ground := Go.Ground.data }, { on := 4, ground := Go.Ground.chain }, { on := 4, ground := Go.Ground.guard }], guard := some (4, false) } (v := ?_) (Or.inl ⟨by rfl, ?_⟩) ?_
      rotate_left
      ·(intro w hSw; (try dsimp only at hSw); go_simp) <;> with_reducible rfl
      simp only [Act.put, la, lb, lc];refine wS 8 25 ?_;simp only [Act.put, la, lb, lc];refine wS 9 26 ?_;simp only [Act.put, la, lb, lc];refine wS 10 27 ?_;simp only [Act.put, la, lb, lc];refine wS 11 28 ?_;simp only [Act.put, la, lb, lc];refine wS 12 29 ?_;simp only [Act.put, la, lb, lc];refine wS 13 30 ?_;simp only [Act.put, la, lb, lc];refine wS 14 31 ?_;simp only [Act.put, la, lb, lc];refine wS 15 32 ?_;simp only [Act.put, la, lb, lc];refine wS 16 33 ?_;simp only [Act.put, la, lb, lc];refine wT 17 { dst := some 34, op := Go.Op.pick (Go.Operand.tmp 24) (Go.Operand.tmp 33) (Go.Operand.const (Go.Value.bool false)), type := 4, pos := "model.go:73", after := #[{ on := 7, ground := Go.Ground.data }, { on := 16, ground := Go.Ground.data }, { on := 4, ground := Go.Ground.guard }], guard := some (4, false) } (v := ?_) (Or.inl ⟨by rfl, ?_⟩) ?_
      rotate_left
      ·(intro w hSw; (try dsimp only at hSw); go_simp) <;> with_reducible rfl
      simp only [Act.put, la, lb, lc];refine wT 18 { dst := some 35, op := Go.Op.pick (Go.Operand.tmp 21) (Go.Operand.const (Go.Value.bool true)) (Go.Operand.tmp 34), type := 4, pos := "model.go:73", after := #[{ on := 4, ground := Go.Ground.data }, { on := 17, ground := Go.Ground.data }], guard := none } (v := ?_) (Or.inl ⟨by rfl, ?_⟩) ?_
      rotate_left
      ·(intro w hSw; (try dsimp only at hSw); go_simp) <;> with_reducible rfl
      simp only [Act.put, la, lb, lc];refine wpAnyH_done (by kernel_rfl) ?_ _;have D := Lib.hid (z00 r.out m.out);go_wp2;go_roundw
      case rel => exact ⟨k + 1, by omega, by go_num, D, E, u⟩
      case measure => simp [intOf]; omega
   ·obtain rfl : k = L := by omega
    have g : Hid (RcP v cs w (.returned (.bool true)) wr) := Lib.hid ⟨true, rfl, ⟨fun _ => O.out (fun j y hy => HA.out j y (by have := (List.getElem?_eq_some_iff.1 hy).1; have := HL.out; omega) hy) (fun j y z hy hz => HO.out j y z (by have := (List.getElem?_eq_some_iff.1 hz).1; have := HL.out; omega) hy hz), fun _ => rfl⟩, HB.out⟩;go_wp2;go_ret;exact g.out
end Go.Proofs.YtdkkkeoicekdgaaGreatDoor.Md

end

section

namespace Go.Proofs.YtdkkkeoicekdgaaGreatDoor.Md
set_option maxHeartbeats 6400000
set_option maxRecDepth 100000
open Go.Lib (hid)
open Go.RowKit Go.Maps Go.WideShapes Go.WideMaps Go.Proofs.YtdkkkeoicekdgaaGreatDoor Go.Proofs.YtdkkkeoicekdgaaGreatDoor.Ca
def RmP (m : Mdl) (w : World) (e : Ending) (w' : World) : Prop := ∃ r : Bool, e = .returned (.bool r) /\ (r = true ↔ RgtM m) /\ Below w.heap.size w w'
theorem z2u {m : Mdl} {w w' : World} (h : ¬ RgtM m) (hb : Below w.heap.size w w') : RmP m w (.returned (.bool false)) w' := ⟨false, rfl, ⟨fun h9 => Bool.noConfusion h9, fun h9 => absurd h9 h⟩, hb⟩
theorem z5u (w : World) (m : Mdl) (ae : Option Addr) (ce : Nat) (ac : Option Addr) (cc : Nat) (hE : SlE w (Old w) (.slice ae m.es.length ce) m.es) (hC : SlL w (Old w) (.slice ac m.cs.length cc) m.cs) (hF : ∀ x, x ∈ m.es -> FitE x) (hV : EnvC w) :
  Calls Tryz.prog 12 #[.agg (mdC m.vr (.slice ae m.es.length ce) (.slice ac m.cs.length cc))] w (RmP m w) := by
 obtain ⟨v, es, cs⟩ := m;simp only at hE hC hF ⊢;have n := hid (fun W (h : Below w.heap.size w W) => zgg W ac cc cs v (hC.old h));have g := hid (fun W (h : Below w.heap.size w W) => zbf W ae ce es (hE.old h) hF (hV.below h));have o : Hid (0 <= v -> v <= 1073741824 -> RgtC v cs -> (z0m es).2 = 0 -> RgtM ⟨v, es, cs⟩) := hid (fun a b c d => ⟨a, b, c, d⟩);have B : Hid (v < 0 -> ¬ RgtM ⟨v, es, cs⟩) := hid (fun h hr => by have := hr.lo; simp only at this; omega);have C : Hid (1073741824 < v -> ¬ RgtM ⟨v, es, cs⟩) := hid (fun h hr => by have := hr.hi; simp only at this; omega);have D : Hid (¬ RgtC v cs -> ¬ RgtM ⟨v, es, cs⟩) := hid (fun h hr => h hr.cs);have p : Hid ((z0m es).2 ≠ 0 -> ¬ RgtM ⟨v, es, cs⟩) := hid (fun h hr => h hr.es);obtain ⟨Le, i⟩ := nmd (es.length);obtain ⟨Lc, j⟩ := nmd (cs.length);obtain ⟨qs, q⟩ := nmd ((⟨(z0m es).1.toArray⟩ : ByteArray));obtain ⟨qe, s⟩ := nmd ((z0m es).2);rw [<- i.out, <- s.out] at g;rw [<- q.out] at g;rw [<- j.out] at n;rw [<- i.out, <- j.out];rw [<- s.out] at p o;clear hE hC hF hV q i j;have R := z02 w (mdC v (.slice ae Le ce) (.slice ac Lc cc)) 25;have c0 := R.c0;have c1 := R.c1;have c2 := R.c2;have f := hid (z03 w (.cells (mdC v (.slice ae Le ce) (.slice ac Lc cc)) 25));have HR := hid R;clear R
 go_enter Tryz.func12, Tryz.ntmps12
 by_cases h0 : v < 0
 ·have HF := hid (z2u (B.out h0) f.out)
  go_wp2;go_ret;exact HF.out
 ·by_cases h1 : 1073741824 < v
  ·have HF := hid (z2u (C.out h1) f.out)
   go_wp2;go_ret;exact HF.out
  ·have t : 0 <= v := by omega
   have u : v <= 1073741824 := by omega
   have HV := hid (And.intro t u);clear t u
   go_wp2_with fail
   refine (n.out _ f.out).mono ?_;rintro e w2 ⟨r, rfl, hr, k⟩;have y := hid hr;have l := hid (z00 f.out k);have RR := HR.out.below k;clear c0 c1 c2 hr k;have d1 := RR.c1;clear RR
   cases r with
   | false =>
    have HF := hid (z2u (D.out (fun h => by have := y.out.2 h; cases this)) l.out);go_wp2;go_ret;exact HF.out
   | true =>
    have E := hid (g.out w2 l.out)
    go_wp2_with fail
    refine E.out.mono ?_;rintro e w3 ⟨rfl, z⟩;have A := hid (z00 l.out z);clear z d1
    by_cases hq : qe = 0
    ·have HF : Hid (RmP ⟨v, es, cs⟩ w (.returned (.bool true)) w3) := hid ⟨true, rfl, ⟨fun _ => o.out HV.out.1 HV.out.2 (y.out.1 (by first | rfl | trivial)) hq, fun _ => rfl⟩, A.out⟩
     have F : (qe == 0) = true := by rw [beq_iff_eq]; exact hq
     clear hq;go_wp2;go_ret;exact HF.out
    ·have HF := hid (z2u (p.out hq) A.out)
     have F : (qe == 0) = false := by rw [beq_eq_false_iff_ne]; exact hq
     clear hq;go_wp2;go_ret;exact HF.out

theorem z5l (n : Int) (w : World) : Calls Tryz.prog 43 #[.int .i64 n] w (Says (cntB n) w) := by
 by_cases h1 : 1 <= n
 ·by_cases h2 : n <= 1073741824
  ·have HC : Hid (Says (cntB n) w (.returned (.bool true)) w) := hid ⟨by simp [cntB, h1, h2], rfl⟩
   go_enter Tryz.func43, Tryz.ntmps43
   go_wp2;go_ret;exact HC.out
  ·have HC : Hid (Says (cntB n) w (.returned (.bool false)) w) := hid ⟨by simp [cntB, h1, h2], rfl⟩
   go_enter Tryz.func43, Tryz.ntmps43
   go_wp2;go_ret;exact HC.out
 ·have HC : Hid (Says (cntB n) w (.returned (.bool false)) w) := hid ⟨by simp [cntB, h1], rfl⟩
  go_enter Tryz.func43, Tryz.ntmps43
  go_wp2;go_ret;exact HC.out
theorem zf9 (w : World) (c : Cmd) (b : Option Addr) (cap : Nat) : Calls Tryz.prog 15 #[.agg #[.int .i64 c.cl, .int .i64 c.sq, .slice b c.ch.length cap]] w fun e w' => e = .returned (.bool (mayC c)) /\ Below w.heap.size w w' := by
 have HM : Hid (mayC c = (cntB c.cl && cntB c.sq && decide (1 <= c.ch.length) && decide (c.ch.length <= 20))) := hid rfl;have a := hid (z5l c.cl);have d := hid (z5l c.sq);obtain ⟨p, HP⟩ := nmd (cntB c.cl);obtain ⟨q, HQ⟩ := nmd (cntB c.sq);rw [<- HP.out, <- HQ.out] at HM;rw [<- HP.out] at a;rw [<- HQ.out] at d;clear HP HQ;obtain ⟨cl, sq, ch⟩ := c;simp only at HM a d ⊢
 generalize ch.length = L at *
 generalize mayC ⟨cl, sq, ch⟩ = m at *
 have R := z02 w #[.int .i64 cl, .int .i64 sq, .slice b L cap] 28;have c0 := R.c0;have c1 := R.c1;have c2 := R.c2;have HB := hid (z03 w (.cells #[.int .i64 cl, .int .i64 sq, .slice b L cap] 28));clear R
 go_enter Tryz.func15, Tryz.ntmps15
 go_wp2_with fail
 refine (a.out _).mono ?_;rintro e w1 ⟨rfl, rfl⟩;clear a
 cases p with
 | false =>
  go_wp2;go_ret;exact ⟨by rw [HM.out]; rfl, HB.out⟩
 | true =>
  go_wp2_with fail
  refine (d.out _).mono ?_;rintro e w1 ⟨rfl, rfl⟩;clear d
  cases q with
  | false =>
   go_wp2;go_ret;exact ⟨by rw [HM.out]; rfl, HB.out⟩
  | true =>
   by_cases h1 : (0 : Int) < L
   ·by_cases h2 : (L : Int) <= 20
    ·have HE : Hid (m = true) := hid (by rw [HM.out]; simp; omega)
     clear HM;go_wp2;go_ret;exact ⟨by rw [HE.out]; rfl, HB.out⟩
    ·have HE : Hid (m = false) := hid (by rw [HM.out]; simp; omega)
     clear HM;go_wp2;go_ret;exact ⟨by rw [HE.out]; first | rfl | exact congrArg (fun b => Ending.returned (Value.bool b)) (show decide ((L : Int) <= 20) = false from decide_eq_false (by omega)), HB.out⟩
   ·have HE : Hid (m = false) := hid (by rw [HM.out]; simp; omega)
    clear HM;go_wp2;go_ret;exact ⟨by rw [HE.out]; first | rfl | exact congrArg (fun b => Ending.returned (Value.bool b)) (show decide ((0 : Int) < L) = false from decide_eq_false (by omega)), HB.out⟩
end Go.Proofs.YtdkkkeoicekdgaaGreatDoor.Md

end
