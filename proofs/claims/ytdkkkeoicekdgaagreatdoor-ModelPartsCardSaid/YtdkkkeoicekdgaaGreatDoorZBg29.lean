/- Package model: which commands and clients may be. -/
import Derived.Test.YtdkkkeoicekdgaaGreatDoorZBMex

section

namespace Go.Proofs.YtdkkkeoicekdgaaGreatDoor.Md
open Go.Lib (hid)
open Go.RowKit Go.Maps Go.WideShapes Go.WideMaps Go.Proofs.YtdkkkeoicekdgaaGreatDoor Go.Proofs.YtdkkkeoicekdgaaGreatDoor.Ca
def Says (b : Bool) (w : World) (e : Ending) (w' : World) : Prop := e = .returned (.bool b) /\ w' = w
theorem z2c (n : Int) (w : World) : Calls Tryz.prog 45 #[.int .i64 n] w (Says (cntB n) w) := by
 by_cases h1 : 1 <= n
 ·by_cases h2 : n <= 1073741824
  ·have HC : Hid (Says (cntB n) w (.returned (.bool true)) w) := hid ⟨by simp [cntB, h1, h2], rfl⟩
   go_enter Tryz.func45, Tryz.ntmps45
   go_wp2
   go_ret
   exact HC.out
  ·have HC : Hid (Says (cntB n) w (.returned (.bool false)) w) := hid ⟨by simp [cntB, h1, h2], rfl⟩
   go_enter Tryz.func45, Tryz.ntmps45
   go_wp2
   go_ret
   exact HC.out
 ·have HC : Hid (Says (cntB n) w (.returned (.bool false)) w) := hid ⟨by simp [cntB, h1], rfl⟩
  go_enter Tryz.func45, Tryz.ntmps45
  go_wp2
  go_ret
  exact HC.out
theorem z3j (w : World) (c : Cmd) (b : Option Addr) (cap : Nat) : Calls Tryz.prog 14 #[.agg #[.int .i64 c.cl, .int .i64 c.sq, .slice b c.ch.length cap]] w fun e w' => e = .returned (.bool (mayC c)) /\ Below w.heap.size w w' := by
 have HM : Hid (mayC c = (cntB c.cl && cntB c.sq && decide (1 <= c.ch.length) && decide (c.ch.length <= 20))) := hid rfl
 have HC1 := hid (z2c c.cl)
 have HC2 := hid (z2c c.sq)
 obtain ⟨p, HP⟩ : ∃ p, Hid (p = cntB c.cl) := ⟨_, hid rfl⟩
 obtain ⟨q, HQ⟩ : ∃ p, Hid (p = cntB c.sq) := ⟨_, hid rfl⟩
 rw [<- HP.out, <- HQ.out] at HM
 rw [<- HP.out] at HC1
 rw [<- HQ.out] at HC2
 clear HP HQ
 obtain ⟨cl, sq, ch⟩ := c
 simp only at HM HC1 HC2 ⊢
 generalize ch.length = L at *
 generalize mayC ⟨cl, sq, ch⟩ = m at *
 have R := z01 w #[.int .i64 cl, .int .i64 sq, .slice b L cap] 28
 have c0 := R.cell (i := 0) rfl
 have c1 := R.cell (i := 1) rfl
 have c2 := R.cell (i := 2) rfl
 have HB := hid (z04 w (.cells #[.int .i64 cl, .int .i64 sq, .slice b L cap] 28))
 clear R
 go_enter Tryz.func14, Tryz.ntmps14
 go_wp2_with fail
 refine (HC1.out _).mono ?_
 rintro e w1 ⟨rfl, rfl⟩
 clear HC1
 cases p with
 | false =>
  go_wp2
  go_ret
  exact ⟨by rw [HM.out]; rfl, HB.out⟩
 | true =>
  go_wp2_with fail
  refine (HC2.out _).mono ?_
  rintro e w1 ⟨rfl, rfl⟩
  clear HC2
  cases q with
  | false =>
   go_wp2
   go_ret
   exact ⟨by rw [HM.out]; rfl, HB.out⟩
  | true =>
   by_cases h1 : (1 : Int) <= L
   ·by_cases h2 : (L : Int) <= 20
    ·have HE : Hid (m = true) := hid (by rw [HM.out]; simp; omega)
     clear HM
     go_wp2
     go_ret
     exact ⟨by rw [HE.out]; rfl, HB.out⟩
    ·have HE : Hid (m = false) := hid (by rw [HM.out]; simp; omega)
     clear HM
     go_wp2
     go_ret
     exact ⟨by rw [HE.out]; first | rfl | exact congrArg (fun b => Ending.returned (Value.bool b)) (show decide ((L : Int) <= 20) = false from decide_eq_false (by omega)), HB.out⟩
   ·have HE : Hid (m = false) := hid (by rw [HM.out]; simp; omega)
    clear HM
    go_wp2
    go_ret
    exact ⟨by rw [HE.out]; first | rfl | exact congrArg (fun b => Ending.returned (Value.bool b)) (show decide ((1 : Int) <= L) = false from decide_eq_false (by omega)), HB.out⟩
theorem rcli_any (w : World) (c : Cli) (v : Int) : Calls Tryz.prog 84 #[clV c, .int .i64 v] w fun e w' => e = .returned (.bool (cliB v c)) /\ Below w.heap.size w w' := by
 have HM : Hid (cliB v c = (cntB c.id && cntB c.sq && decide (0 <= c.an) && decide (c.an <= 255) && decide (0 <= c.vr) && decide (c.vr <= v))) := hid rfl
 have HC1 := hid (z2c c.id)
 have HC2 := hid (z2c c.sq)
 obtain ⟨p, HP⟩ : ∃ p, Hid (p = cntB c.id) := ⟨_, hid rfl⟩
 obtain ⟨q, HQ⟩ : ∃ p, Hid (p = cntB c.sq) := ⟨_, hid rfl⟩
 rw [<- HP.out, <- HQ.out] at HM
 rw [<- HP.out] at HC1
 rw [<- HQ.out] at HC2
 clear HP HQ
 obtain ⟨cl, sq, an, vr⟩ := c
 simp only at HM HC1 HC2 ⊢
 generalize cliB v ⟨cl, sq, an, vr⟩ = m at *
 have R := z01 w #[.int .i64 cl, .int .i64 sq, .int .i64 an, .int .i64 vr] 32
 have c0 := R.cell (i := 0) rfl
 have c1 := R.cell (i := 1) rfl
 have c2 := R.cell (i := 2) rfl
 have c3 := R.cell (i := 3) rfl
 have HB := hid (z04 w (.cells #[.int .i64 cl, .int .i64 sq, .int .i64 an, .int .i64 vr] 32))
 clear R
 go_enter Tryz.func84, Tryz.ntmps84
 go_wp2_with fail
 refine (HC1.out _).mono ?_
 rintro e w1 ⟨rfl, rfl⟩
 clear HC1
 cases p with
 | false =>
  go_wp2
  go_ret
  exact ⟨by rw [HM.out]; rfl, HB.out⟩
 | true =>
  go_wp2_with fail
  refine (HC2.out _).mono ?_
  rintro e w1 ⟨rfl, rfl⟩
  clear HC2
  cases q with
  | false =>
   go_wp2
   go_ret
   exact ⟨by rw [HM.out]; rfl, HB.out⟩
  | true =>
   by_cases h0 : 0 <= an
   ·by_cases h1 : an <= 255
    ·by_cases h2 : 0 <= vr
     ·by_cases h3 : vr <= v
      ·have HE : Hid (m = true) := hid (by rw [HM.out]; simp; omega)
       clear HM
       go_wp2
       go_ret
       exact ⟨by rw [HE.out]; rfl, HB.out⟩
      ·have HE : Hid (m = false) := hid (by rw [HM.out]; simp; omega)
       clear HM
       go_wp2
       go_ret
       exact ⟨by rw [HE.out]; first | rfl | exact congrArg (fun b => Ending.returned (Value.bool b)) (show decide (vr <= v) = false from decide_eq_false (by omega)), HB.out⟩
     ·have HE : Hid (m = false) := hid (by rw [HM.out]; simp; omega)
      clear HM
      go_wp2
      go_ret
      exact ⟨by rw [HE.out]; first | rfl | exact congrArg (fun b => Ending.returned (Value.bool b)) (show decide (0 <= vr) = false from decide_eq_false (by omega)), HB.out⟩
    ·have HE : Hid (m = false) := hid (by rw [HM.out]; simp; omega)
     clear HM
     go_wp2
     go_ret
     exact ⟨by rw [HE.out]; first | rfl | exact congrArg (fun b => Ending.returned (Value.bool b)) (show decide (an <= 255) = false from decide_eq_false (by omega)), HB.out⟩
   ·have HE : Hid (m = false) := hid (by rw [HM.out]; simp; omega)
    clear HM
    go_wp2
    go_ret
    exact ⟨by rw [HE.out]; first | rfl | exact congrArg (fun b => Ending.returned (Value.bool b)) (show decide (0 <= an) = false from decide_eq_false (by omega)), HB.out⟩
end Go.Proofs.YtdkkkeoicekdgaaGreatDoor.Md

end

section

namespace Go.Proofs.YtdkkkeoicekdgaaGreatDoor.Md
set_option maxHeartbeats 6400000
set_option maxRecDepth 100000
open Go.RowKit Go.Maps Go.WideShapes Go.WideMaps Go.Proofs.YtdkkkeoicekdgaaGreatDoor Go.Proofs.YtdkkkeoicekdgaaGreatDoor.Ca
theorem zbe : ∀ {l : List Cli}, (∀ (j : Nat) x y, l[j]? = some x -> l[j + 1]? = some y -> x.id < y.id) -> SrtC l
 | [], _ => List.Pairwise.nil
 | [x], _ => List.pairwise_singleton _ _
 | x :: y :: r, h => by
  have h2 := zbe (l := y :: r) (fun j a b ha hb => h (j + 1) a b (by simpa using ha) (by simpa using hb))
  have h0 := h 0 x y rfl rfl
  unfold SrtC at h2 ⊢
  refine List.pairwise_cons.2 ⟨fun z hz => ?_, h2⟩
  rcases List.mem_cons.1 hz with rfl | hz
  ·exact h0
  ·have := (List.pairwise_cons.1 h2).1 z hz; omega
def RcP (v : Int) (cs : List Cli) (w : World) (e : Ending) (w' : World) : Prop := ∃ r : Bool, e = .returned (.bool r) /\ (r = true ↔ RgtC v cs) /\ Below w.heap.size w w'
theorem zbq {v : Int} {cs : List Cli} {w w' : World} (h : ¬ RgtC v cs) (hb : Below w.heap.size w w') : RcP v cs w (.returned (.bool false)) w' := ⟨false, rfl, ⟨fun h9 => Bool.noConfusion h9, fun h9 => absurd h9 h⟩, hb⟩
theorem zbr (w : World) (a : Option Addr) (cap : Nat) (cs : List Cli) (v : Int) (hC : SlL w (Old w) (.slice a cs.length cap) cs) : Calls Tryz.prog 41 #[.slice a cs.length cap, .int .i64 v] w (RcP v cs w) := by
 by_cases hlen : 16 < cs.length
 ·have HR : Hid (RcP v cs w (.returned (.bool false)) w) := Lib.hid (zbq (fun h => by have := h.len; omega) (Below.refl _ _))
  have h1 : (16 : Int) < cs.length := by omega
  clear hlen hC
  generalize cs.length = L at *
  go_enter Tryz.func41, Tryz.ntmps41
  go_wp2
  go_ret
  exact HR.out
 ·have h1 : ¬ (16 : Int) < cs.length := by omega
  have HRO : Hid ((∀ (j : Nat) x, cs[j]? = some x -> cliB v x = true) -> (∀ (j : Nat) x y, cs[j]? = some x -> cs[j + 1]? = some y -> x.id < y.id) -> RgtC v cs) := Lib.hid (fun ha ho => ⟨by omega, fun x hx => by obtain ⟨j, hj⟩ := List.mem_iff_getElem?.1 hx; exact ha j x hj, zbe ho⟩)
  have HX := Lib.hid hC
  obtain ⟨L, HL⟩ : ∃ L, Hid (L = cs.length) := ⟨_, Lib.hid rfl⟩
  have hL2 : L <= 16 := by have := HL.out; omega
  rw [<- HL.out] at HX h1 ⊢
  clear hC hlen
  go_enter Tryz.func41, Tryz.ntmps41
  go_wp2
  go_loopw [12] (fun i wr => ∃ k : Nat, k <= L /\ i = .int .i64 k /\ Hid (Below w.heap.size w wr) /\ Hid (∀ (j : Nat) x, j < k -> cs[j]? = some x -> cliB v x = true) /\ Hid (∀ (j : Nat) x y, j + 1 < k -> cs[j]? = some x -> cs[j + 1]? = some y -> x.id < y.id)) (fun i _ => L - (intOf i).toNat)
  case atStart => exact ⟨0, by omega, rfl, Lib.hid (Below.refl _ _), Lib.hid (fun j x h => by omega), Lib.hid (fun j x y h => by omega)⟩
  case round =>
   obtain ⟨k, hk, rfl, HB, HA, HO⟩ := hrel
   by_cases hlt : k < L
   ·obtain ⟨x, hx⟩ : ∃ x, cs[k]? = some x := ⟨_, List.getElem?_eq_getElem (by have := HL.out; omega)⟩
    have HXr := Lib.hid (HX.out.old HB.out)
    obtain ⟨b, off, rfl, hbo, x0, x1, x2, x3⟩ := SlL.get HXr.out hx
    have HXK := Lib.hid hx
    have HBN := Lib.hid (z00 HB.out (z04 wr (.cells (clC x) 32)))
    have HAN : Hid (cliB v x = true -> ∀ (j : Nat) y, j < k + 1 -> cs[j]? = some y -> cliB v y = true) := Lib.hid (fun hm j y hj hy => by
     rcases Nat.lt_or_eq_of_le (Nat.le_of_lt_succ hj) with h1 | rfl
     ·exact HA.out j y h1 hy
     ·rw [HXK.out] at hy
      obtain rfl := Option.some.inj hy
      exact hm)
    have HNO : Hid (cliB v x = false -> ¬ RgtC v cs) := Lib.hid (fun hm h => by have := h.ok x (List.mem_of_getElem? HXK.out); rw [hm] at this; cases this)
    have R := z01 wr (clC x) 32
    have hbo2 : b < (wr.alloc (.cells (clC x) 32)).heap.size := by rw [World.size_alloc]; have : b < wr.heap.size := hbo; omega
    have hwo2 : wr.heap.size < (wr.alloc (.cells (clC x) 32)).heap.size := by rw [World.size_alloc]; omega
    have HRC := Lib.hid (fun W => rcli_any W x v)
    have HRX := Lib.hid R
    cases hm : cliB v x with
    | false =>
     rw [hm] at HRC
     have HFIN := Lib.hid (HNO.out hm)
     obtain ⟨xi, xq, xa, xv⟩ := x
     simp only at x0 x1 x2 x3 HRC HBN hbo2 hwo2 HRX
     clear hm R hx HNO HAN HXK
     go_wp2
     generalize wr.alloc (.cells #[.int .i64 xi, .int .i64 xq, .int .i64 xa, .int .i64 xv] 32) = W1 at *
     have HD : Hid (∀ W, Below W1.heap.size W1 W -> W.cell? ⟨wr.heap.size, 0, none⟩ = some (.int .i64 xi) /\ W.cell? ⟨wr.heap.size, 1, none⟩ = some (.int .i64 xq) /\ W.cell? ⟨wr.heap.size, 2, none⟩ = some (.int .i64 xa) /\ W.cell? ⟨wr.heap.size, 3, none⟩ = some (.int .i64 xv)) := Lib.hid (fun W h => ⟨(HRX.out.below h).cell rfl, (HRX.out.below h).cell rfl, (HRX.out.below h).cell rfl, (HRX.out.below h).cell rfl⟩)
     have hd0 := HD.out _ (Below.refl W1.heap.size W1).drew
     clear x0 x1 x2 x3
     refine wp_region_held_drew (S := fun W => W.cell? ⟨wr.heap.size, 0, none⟩ = some (.int .i64 xi) /\ W.cell? ⟨wr.heap.size, 1, none⟩ = some (.int .i64 xq) /\ W.cell? ⟨wr.heap.size, 2, none⟩ = some (.int .i64 xa) /\ W.cell? ⟨wr.heap.size, 3, none⟩ = some (.int .i64 xv)) (by kernel_rfl) hd0 (fun hz0 => ?_)
     refine wpAnyH_take (i := 0) (oi := { dst := some 17, op := .load 32 (.tmp 6), type := 32, pos := "model.go:73", after := #[], guard := none }) (v := ?_) rfl (by kernel_rfl) (by kernel_rfl) (by kernel_rfl) (fun _ _ _ h => h) (Or.inl ⟨by rfl, ?_⟩) (by assumption) ?_
     rotate_left
     ·(intro w hSw; (try dsimp only at hSw); go_simp) <;> with_reducible rfl
     simp only [Act.put, List.setIfInBounds_toArray, List.set_cons_zero, List.set_cons_succ]
     refine wpAnyH_take (i := 1) (oi := { dst := some 18, op := .move (.tmp 1), type := 3, pos := "model.go:73", after := #[], guard := none }) (v := ?_) rfl (by kernel_rfl) (by kernel_rfl) (by kernel_rfl) (fun _ _ _ h => h) (Or.inl ⟨by rfl, ?_⟩) (by assumption) ?_
     rotate_left
     ·(intro w hSw; (try dsimp only at hSw); go_simp) <;> with_reducible rfl
     simp only [Act.put, List.setIfInBounds_toArray, List.set_cons_zero, List.set_cons_succ]
     refine wpAnyH_ready (rs := [2]) (by kernel_rfl) (by simp) ?_
     refine AllReadyH.cons (o := { dst := some 19, op := .call { callee := .value (.func 84), args := #[.tmp 17, .tmp 18], argTypes := #[32, 3] }, type := 4, pos := "model.go:73", after := #[{ on := 0, ground := .data }, { on := 1, ground := .data }], guard := none }) rfl (fun K hK => ?_) AllReadyH.nil
     go_simp
     refine (HRC.out _).mono ?_
     rintro e w2 ⟨rfl, hb2⟩
     have HB2 : Hid (Below W1.heap.size W1 w2) := Lib.hid (z00 (Below.refl W1.heap.size W1).drew hb2)
     have hd1 := HD.out _ HB2.out
     clear hb2 hd0
     go_wp2_with fail
     refine hK.out _ _ ?_ (fun hz1 => ?_)
     ·exact hd1
     clear hK K hz0
     try simp only [Act.put, List.setIfInBounds_toArray, List.set_cons_zero, List.set_cons_succ]
     refine wpAnyH_take (i := 3) (oi := { dst := some 20, op := .unOp .not 4 (.tmp 19), type := 4, pos := "model.go:73", after := #[{ on := 2, ground := .data }], guard := none }) (v := ?_) rfl (by kernel_rfl) (by kernel_rfl) (by kernel_rfl) (fun _ _ _ h => h) (Or.inl ⟨by rfl, ?_⟩) (by assumption) ?_
     rotate_left
     ·(intro w hSw; (try dsimp only at hSw); go_simp) <;> with_reducible rfl
     simp only [Act.put, List.setIfInBounds_toArray, List.set_cons_zero, List.set_cons_succ]
     refine wpAnyH_take (i := 4) (oi := { dst := some 21, op := .move (.tmp 20), type := 4, pos := "model.go:73", after := #[{ on := 3, ground := .data }, { on := 2, ground := .chain }], guard := none }) (v := ?_) rfl (by kernel_rfl) (by kernel_rfl) (by kernel_rfl) (fun _ _ _ h => h) (Or.inl ⟨by rfl, ?_⟩) (by assumption) ?_
     rotate_left
     ·(intro w hSw; (try dsimp only at hSw); go_simp) <;> with_reducible rfl
     simp only [Act.put, List.setIfInBounds_toArray, List.set_cons_zero, List.set_cons_succ]
     refine z06 (i := 5) (d := 22) (by kernel_rfl) (by kernel_rfl) (by kernel_rfl) (by kernel_rfl) (fun _ _ _ h => h) (by assumption) ?_
     simp only [Act.put, List.setIfInBounds_toArray, List.set_cons_zero, List.set_cons_succ]
     refine z06 (i := 6) (d := 23) (by kernel_rfl) (by kernel_rfl) (by kernel_rfl) (by kernel_rfl) (fun _ _ _ h => h) (by assumption) ?_
     simp only [Act.put, List.setIfInBounds_toArray, List.set_cons_zero, List.set_cons_succ]
     refine z06 (i := 7) (d := 24) (by kernel_rfl) (by kernel_rfl) (by kernel_rfl) (by kernel_rfl) (fun _ _ _ h => h) (by assumption) ?_
     simp only [Act.put, List.setIfInBounds_toArray, List.set_cons_zero, List.set_cons_succ]
     refine z06 (i := 8) (d := 25) (by kernel_rfl) (by kernel_rfl) (by kernel_rfl) (by kernel_rfl) (fun _ _ _ h => h) (by assumption) ?_
     simp only [Act.put, List.setIfInBounds_toArray, List.set_cons_zero, List.set_cons_succ]
     refine z06 (i := 9) (d := 26) (by kernel_rfl) (by kernel_rfl) (by kernel_rfl) (by kernel_rfl) (fun _ _ _ h => h) (by assumption) ?_
     simp only [Act.put, List.setIfInBounds_toArray, List.set_cons_zero, List.set_cons_succ]
     refine z06 (i := 10) (d := 27) (by kernel_rfl) (by kernel_rfl) (by kernel_rfl) (by kernel_rfl) (fun _ _ _ h => h) (by assumption) ?_
     simp only [Act.put, List.setIfInBounds_toArray, List.set_cons_zero, List.set_cons_succ]
     refine z06 (i := 11) (d := 28) (by kernel_rfl) (by kernel_rfl) (by kernel_rfl) (by kernel_rfl) (fun _ _ _ h => h) (by assumption) ?_
     simp only [Act.put, List.setIfInBounds_toArray, List.set_cons_zero, List.set_cons_succ]
     refine z06 (i := 12) (d := 29) (by kernel_rfl) (by kernel_rfl) (by kernel_rfl) (by kernel_rfl) (fun _ _ _ h => h) (by assumption) ?_
     simp only [Act.put, List.setIfInBounds_toArray, List.set_cons_zero, List.set_cons_succ]
     refine z06 (i := 13) (d := 30) (by kernel_rfl) (by kernel_rfl) (by kernel_rfl) (by kernel_rfl) (fun _ _ _ h => h) (by assumption) ?_
     simp only [Act.put, List.setIfInBounds_toArray, List.set_cons_zero, List.set_cons_succ]
     refine z06 (i := 14) (d := 31) (by kernel_rfl) (by kernel_rfl) (by kernel_rfl) (by kernel_rfl) (fun _ _ _ h => h) (by assumption) ?_
     simp only [Act.put, List.setIfInBounds_toArray, List.set_cons_zero, List.set_cons_succ]
     refine z06 (i := 15) (d := 32) (by kernel_rfl) (by kernel_rfl) (by kernel_rfl) (by kernel_rfl) (fun _ _ _ h => h) (by assumption) ?_
     simp only [Act.put, List.setIfInBounds_toArray, List.set_cons_zero, List.set_cons_succ]
     refine z06 (i := 16) (d := 33) (by kernel_rfl) (by kernel_rfl) (by kernel_rfl) (by kernel_rfl) (fun _ _ _ h => h) (by assumption) ?_
     simp only [Act.put, List.setIfInBounds_toArray, List.set_cons_zero, List.set_cons_succ]
     refine z06 (i := 17) (d := 34) (by kernel_rfl) (by kernel_rfl) (by kernel_rfl) (by kernel_rfl) (fun _ _ _ h => h) (by assumption) ?_
     simp only [Act.put, List.setIfInBounds_toArray, List.set_cons_zero, List.set_cons_succ]
     refine wpAnyH_take (i := 18) (oi := { dst := some 35, op := .pick (.tmp 21) (.const (.bool true)) (.tmp 34), type := 4, pos := "model.go:73", after := #[{ on := 4, ground := .data }, { on := 17, ground := .data }], guard := none }) (v := ?_) rfl (by kernel_rfl) (by kernel_rfl) (by kernel_rfl) (fun _ _ _ h => h) (Or.inl ⟨by rfl, ?_⟩) (by assumption) ?_
     rotate_left
     ·(intro w hSw; (try dsimp only at hSw); go_simp) <;> with_reducible rfl
     simp only [Act.put, List.setIfInBounds_toArray, List.set_cons_zero, List.set_cons_succ]
     refine wpAnyH_done (by kernel_rfl) ?_ _
     go_wp2
     go_ret
     exact zbq HFIN.out (z00 HBN.out HB2.out)
    | true =>
     rw [hm] at HRC
     have HAN2 := Lib.hid (HAN.out hm)
     by_cases hk0 : 0 < k
     ·obtain ⟨p, hp⟩ : ∃ p, cs[k - 1]? = some p := ⟨_, List.getElem?_eq_getElem (by have := HL.out; omega)⟩
      have HPK : Hid (cs[k - 1 + 1]? = some x) := Lib.hid (by rw [show k - 1 + 1 = k by omega]; exact HXK.out)
      obtain ⟨b', off', hbb, -, p0, -⟩ := SlL.get HXr.out hp
      injection hbb with hbb
      injection hbb with hb1 hb2
      subst hb1 hb2
      have HP := Lib.hid hp
      obtain ⟨q, HQ⟩ : ∃ q, Hid (q = k - 1) := ⟨_, Lib.hid rfl⟩
      rw [<- HQ.out] at p0 HP HPK
      have q1 : IntKind.i64.wrap ((k : Int) - 1) = (k : Int) - 1 := IntWalk.i64_in _ (by omega)
      have q2 : ((k : Int) - 1).toNat = q := by have := HQ.out; omega
      have q3 : (0 : Int) <= (k : Int) - 1 := by omega
      have q3b : (1 : Int) <= (k : Int) := by omega
      have q4 : (k : Int) - 1 < (L : Int) := by omega
      have HGO : Hid (p.id < x.id -> ∀ (j : Nat) y z, j + 1 < k + 1 -> cs[j]? = some y -> cs[j + 1]? = some z -> y.id < z.id) := Lib.hid (fun h j y z hj hy hz => by
       by_cases hjk : j + 1 < k
       ·exact HO.out j y z hjk hy hz
       ·obtain rfl : j = q := by have := HQ.out; omega
        rw [HP.out] at hy; rw [HPK.out] at hz
        obtain rfl := Option.some.inj hy
        obtain rfl := Option.some.inj hz
        exact h)
      have HLO : Hid (¬ p.id < x.id -> ¬ RgtC v cs) := Lib.hid (fun h hr => h (z96 hr.srt HP.out HPK.out (by omega)))
      have hp0 := (Below.cell (z04 wr (.cells (clC x) 32)) (p := ⟨b, _, none⟩) hbo).trans p0
      obtain ⟨xi, xq, xa, xv⟩ := x
      obtain ⟨pi, pq, pa, pv⟩ := p
      simp only at x0 x1 x2 x3 p0 hp0 HRC HBN hbo2 hwo2 HRX HGO HLO
      by_cases hid : pi < xi
      ·have HGO2 := Lib.hid (HGO.out hid)
       clear hm R hx HNO HAN HXK HP HPK hp HGO HLO
       go_wp2
       generalize wr.alloc (.cells #[.int .i64 xi, .int .i64 xq, .int .i64 xa, .int .i64 xv] 32) = W1 at *
       have HD : Hid (∀ W, Below W1.heap.size W1 W -> W.cell? ⟨wr.heap.size, 0, none⟩ = some (.int .i64 xi) /\ W.cell? ⟨wr.heap.size, 1, none⟩ = some (.int .i64 xq) /\ W.cell? ⟨wr.heap.size, 2, none⟩ = some (.int .i64 xa) /\ W.cell? ⟨wr.heap.size, 3, none⟩ = some (.int .i64 xv) /\ W.cell? ⟨b, off + q * 4, none⟩ = some (.int .i64 pi)) := Lib.hid (fun W h => ⟨(HRX.out.below h).cell rfl, (HRX.out.below h).cell rfl, (HRX.out.below h).cell rfl, (HRX.out.below h).cell rfl, (h.cell hbo2).trans hp0⟩)
       have hd0 := HD.out _ (Below.refl W1.heap.size W1).drew
       clear x0 x1 x2 x3 p0 hp0
       refine wp_region_held_drew (S := fun W => W.cell? ⟨wr.heap.size, 0, none⟩ = some (.int .i64 xi) /\ W.cell? ⟨wr.heap.size, 1, none⟩ = some (.int .i64 xq) /\ W.cell? ⟨wr.heap.size, 2, none⟩ = some (.int .i64 xa) /\ W.cell? ⟨wr.heap.size, 3, none⟩ = some (.int .i64 xv) /\ W.cell? ⟨b, off + q * 4, none⟩ = some (.int .i64 pi)) (by kernel_rfl) hd0 (fun hz0 => ?_)
       refine wpAnyH_take (i := 0) (oi := { dst := some 17, op := .load 32 (.tmp 6), type := 32, pos := "model.go:73", after := #[], guard := none }) (v := ?_) rfl (by kernel_rfl) (by kernel_rfl) (by kernel_rfl) (fun _ _ _ h => h) (Or.inl ⟨by rfl, ?_⟩) (by assumption) ?_
       rotate_left
       ·(intro w hSw; (try dsimp only at hSw); go_simp) <;> with_reducible rfl
       simp only [Act.put, List.setIfInBounds_toArray, List.set_cons_zero, List.set_cons_succ]
       refine wpAnyH_take (i := 1) (oi := { dst := some 18, op := .move (.tmp 1), type := 3, pos := "model.go:73", after := #[], guard := none }) (v := ?_) rfl (by kernel_rfl) (by kernel_rfl) (by kernel_rfl) (fun _ _ _ h => h) (Or.inl ⟨by rfl, ?_⟩) (by assumption) ?_
       rotate_left
       ·(intro w hSw; (try dsimp only at hSw); go_simp) <;> with_reducible rfl
       simp only [Act.put, List.setIfInBounds_toArray, List.set_cons_zero, List.set_cons_succ]
       refine wpAnyH_ready (rs := [2]) (by kernel_rfl) (by simp) ?_
       refine AllReadyH.cons (o := { dst := some 19, op := .call { callee := .value (.func 84), args := #[.tmp 17, .tmp 18], argTypes := #[32, 3] }, type := 4, pos := "model.go:73", after := #[{ on := 0, ground := .data }, { on := 1, ground := .data }], guard := none }) rfl (fun K hK => ?_) AllReadyH.nil
       go_simp
       refine (HRC.out _).mono ?_
       rintro e w2 ⟨rfl, hb2⟩
       have HB2 : Hid (Below W1.heap.size W1 w2) := Lib.hid (z00 (Below.refl W1.heap.size W1).drew hb2)
       have hd1 := HD.out _ HB2.out
       clear hb2 hd0
       go_wp2_with fail
       refine hK.out _ _ ?_ (fun hz1 => ?_)
       ·exact hd1
       clear hK K hz0
       try simp only [Act.put, List.setIfInBounds_toArray, List.set_cons_zero, List.set_cons_succ]
       refine wpAnyH_take (i := 3) (oi := { dst := some 20, op := .unOp .not 4 (.tmp 19), type := 4, pos := "model.go:73", after := #[{ on := 2, ground := .data }], guard := none }) (v := ?_) rfl (by kernel_rfl) (by kernel_rfl) (by kernel_rfl) (fun _ _ _ h => h) (Or.inl ⟨by rfl, ?_⟩) (by assumption) ?_
       rotate_left
       ·(intro w hSw; (try dsimp only at hSw); go_simp) <;> with_reducible rfl
       simp only [Act.put, List.setIfInBounds_toArray, List.set_cons_zero, List.set_cons_succ]
       refine wpAnyH_take (i := 4) (oi := { dst := some 21, op := .move (.tmp 20), type := 4, pos := "model.go:73", after := #[{ on := 3, ground := .data }, { on := 2, ground := .chain }], guard := none }) (v := ?_) rfl (by kernel_rfl) (by kernel_rfl) (by kernel_rfl) (fun _ _ _ h => h) (Or.inl ⟨by rfl, ?_⟩) (by assumption) ?_
       rotate_left
       ·(intro w hSw; (try dsimp only at hSw); go_simp) <;> with_reducible rfl
       simp only [Act.put, List.setIfInBounds_toArray, List.set_cons_zero, List.set_cons_succ]
       refine wpAnyH_take (i := 5) (oi := { dst := some 22, op := .move (.tmp 5), type := 3, pos := "model.go:73", after := #[{ on := 4, ground := .guard }], guard := some (4, false) }) (v := ?_) rfl (by kernel_rfl) (by kernel_rfl) (by kernel_rfl) (fun _ _ _ h => h) (Or.inl ⟨by rfl, ?_⟩) (by assumption) ?_
       rotate_left
       ·(intro w hSw; (try dsimp only at hSw); go_simp) <;> with_reducible rfl
       simp only [Act.put, List.setIfInBounds_toArray, List.set_cons_zero, List.set_cons_succ]
       refine wpAnyH_take (i := 6) (oi := { dst := some 23, op := .binOp .gtr 3 (.tmp 22) (.const (.int .i64 0)) 3, type := 4, pos := "model.go:73", after := #[{ on := 5, ground := .data }, { on := 4, ground := .guard }], guard := some (4, false) }) (v := ?_) rfl (by kernel_rfl) (by kernel_rfl) (by kernel_rfl) (fun _ _ _ h => h) (Or.inl ⟨by rfl, ?_⟩) (by assumption) ?_
       rotate_left
       ·(intro w hSw; (try dsimp only at hSw); go_simp) <;> with_reducible rfl
       simp only [Act.put, List.setIfInBounds_toArray, List.set_cons_zero, List.set_cons_succ]
       refine wpAnyH_take (i := 7) (oi := { dst := some 24, op := .move (.tmp 23), type := 4, pos := "model.go:73", after := #[{ on := 6, ground := .data }, { on := 4, ground := .chain }, { on := 4, ground := .guard }], guard := some (4, false) }) (v := ?_) rfl (by kernel_rfl) (by kernel_rfl) (by kernel_rfl) (fun _ _ _ h => h) (Or.inl ⟨by rfl, ?_⟩) (by assumption) ?_
       rotate_left
       ·(intro w hSw; (try dsimp only at hSw); go_simp) <;> with_reducible rfl
       simp only [Act.put, List.setIfInBounds_toArray, List.set_cons_zero, List.set_cons_succ]
       refine wpAnyH_take (i := 8) (oi := { dst := some 25, op := .move (.tmp 0), type := 23, pos := "model.go:73", after := #[{ on := 7, ground := .guard }], guard := some (7, true) }) (v := ?_) rfl (by kernel_rfl) (by kernel_rfl) (by kernel_rfl) (fun _ _ _ h => h) (Or.inl ⟨by rfl, ?_⟩) (by assumption) ?_
       rotate_left
       ·(intro w hSw; (try dsimp only at hSw); go_simp) <;> with_reducible rfl
       simp only [Act.put, List.setIfInBounds_toArray, List.set_cons_zero, List.set_cons_succ]
       refine wpAnyH_take (i := 9) (oi := { dst := some 26, op := .move (.tmp 5), type := 3, pos := "model.go:73", after := #[{ on := 7, ground := .guard }], guard := some (7, true) }) (v := ?_) rfl (by kernel_rfl) (by kernel_rfl) (by kernel_rfl) (fun _ _ _ h => h) (Or.inl ⟨by rfl, ?_⟩) (by assumption) ?_
       rotate_left
       ·(intro w hSw; (try dsimp only at hSw); go_simp) <;> with_reducible rfl
       simp only [Act.put, List.setIfInBounds_toArray, List.set_cons_zero, List.set_cons_succ]
       refine wpAnyH_take (i := 10) (oi := { dst := some 27, op := .binOp .sub 3 (.tmp 26) (.const (.int .i64 1)) 3, type := 3, pos := "model.go:73", after := #[{ on := 9, ground := .data }, { on := 7, ground := .guard }], guard := some (7, true) }) (v := ?_) rfl (by kernel_rfl) (by kernel_rfl) (by kernel_rfl) (fun _ _ _ h => h) (Or.inl ⟨by rfl, ?_⟩) (by assumption) ?_
       rotate_left
       ·(intro w hSw; (try dsimp only at hSw); go_simp) <;> with_reducible rfl
       simp only [Act.put, List.setIfInBounds_toArray, List.set_cons_zero, List.set_cons_succ]
       refine wpAnyH_take (i := 11) (oi := { dst := some 28, op := .indexAddr 23 (.tmp 25) (.tmp 27), type := 0, pos := "model.go:73", after := #[{ on := 8, ground := .data }, { on := 10, ground := .data }, { on := 7, ground := .guard }], guard := some (7, true) }) (v := ?_) rfl (by kernel_rfl) (by kernel_rfl) (by kernel_rfl) (fun _ _ _ h => h) (Or.inl ⟨by rfl, ?_⟩) (by assumption) ?_
       rotate_left
       ·(intro w hSw; (try dsimp only at hSw); go_simp) <;> with_reducible rfl
       simp only [Act.put, List.setIfInBounds_toArray, List.set_cons_zero, List.set_cons_succ]
       refine wpAnyH_take (i := 12) (oi := { dst := some 29, op := .fieldAddr 32 (.tmp 28) 0, type := 0, pos := "model.go:73", after := #[{ on := 11, ground := .data }, { on := 7, ground := .guard }], guard := some (7, true) }) (v := ?_) rfl (by kernel_rfl) (by kernel_rfl) (by kernel_rfl) (fun _ _ _ h => h) (Or.inl ⟨by rfl, ?_⟩) (by assumption) ?_
       rotate_left
       ·(intro w hSw; (try dsimp only at hSw); go_simp) <;> with_reducible rfl
       simp only [Act.put, List.setIfInBounds_toArray, List.set_cons_zero, List.set_cons_succ]
       refine wpAnyH_take (i := 13) (oi := { dst := some 30, op := .load 3 (.tmp 29), type := 3, pos := "model.go:73", after := #[{ on := 12, ground := .data }, { on := 7, ground := .guard }], guard := some (7, true) }) (v := ?_) rfl (by kernel_rfl) (by kernel_rfl) (by kernel_rfl) (fun _ _ _ h => h) (Or.inl ⟨by rfl, ?_⟩) (by assumption) ?_
       rotate_left
       ·(intro w hSw; (try dsimp only at hSw); go_simp) <;> with_reducible rfl
       simp only [Act.put, List.setIfInBounds_toArray, List.set_cons_zero, List.set_cons_succ]
       refine wpAnyH_take (i := 14) (oi := { dst := some 31, op := .fieldAddr 32 (.tmp 6) 0, type := 0, pos := "model.go:73", after := #[{ on := 7, ground := .guard }], guard := some (7, true) }) (v := ?_) rfl (by kernel_rfl) (by kernel_rfl) (by kernel_rfl) (fun _ _ _ h => h) (Or.inl ⟨by rfl, ?_⟩) (by assumption) ?_
       rotate_left
       ·(intro w hSw; (try dsimp only at hSw); go_simp) <;> with_reducible rfl
       simp only [Act.put, List.setIfInBounds_toArray, List.set_cons_zero, List.set_cons_succ]
       refine wpAnyH_take (i := 15) (oi := { dst := some 32, op := .load 3 (.tmp 31), type := 3, pos := "model.go:73", after := #[{ on := 14, ground := .data }, { on := 7, ground := .guard }], guard := some (7, true) }) (v := ?_) rfl (by kernel_rfl) (by kernel_rfl) (by kernel_rfl) (fun _ _ _ h => h) (Or.inl ⟨by rfl, ?_⟩) (by assumption) ?_
       rotate_left
       ·(intro w hSw; (try dsimp only at hSw); go_simp) <;> with_reducible rfl
       simp only [Act.put, List.setIfInBounds_toArray, List.set_cons_zero, List.set_cons_succ]
       refine wpAnyH_take (i := 16) (oi := { dst := some 33, op := .binOp .geq 3 (.tmp 30) (.tmp 32) 3, type := 4, pos := "model.go:73", after := #[{ on := 13, ground := .data }, { on := 15, ground := .data }, { on := 7, ground := .guard }], guard := some (7, true) }) (v := ?_) rfl (by kernel_rfl) (by kernel_rfl) (by kernel_rfl) (fun _ _ _ h => h) (Or.inl ⟨by rfl, ?_⟩) (by assumption) ?_
       rotate_left
       ·(intro w hSw; (try dsimp only at hSw); go_simp) <;> with_reducible rfl
       simp only [Act.put, List.setIfInBounds_toArray, List.set_cons_zero, List.set_cons_succ]
       refine wpAnyH_take (i := 17) (oi := { dst := some 34, op := .pick (.tmp 24) (.tmp 33) (.const (.bool false)), type := 4, pos := "model.go:73", after := #[{ on := 7, ground := .data }, { on := 16, ground := .data }, { on := 4, ground := .guard }], guard := some (4, false) }) (v := ?_) rfl (by kernel_rfl) (by kernel_rfl) (by kernel_rfl) (fun _ _ _ h => h) (Or.inl ⟨by rfl, ?_⟩) (by assumption) ?_
       rotate_left
       ·(intro w hSw; (try dsimp only at hSw); go_simp) <;> with_reducible rfl
       simp only [Act.put, List.setIfInBounds_toArray, List.set_cons_zero, List.set_cons_succ]
       refine wpAnyH_take (i := 18) (oi := { dst := some 35, op := .pick (.tmp 21) (.const (.bool true)) (.tmp 34), type := 4, pos := "model.go:73", after := #[{ on := 4, ground := .data }, { on := 17, ground := .data }], guard := none }) (v := ?_) rfl (by kernel_rfl) (by kernel_rfl) (by kernel_rfl) (fun _ _ _ h => h) (Or.inl ⟨by rfl, ?_⟩) (by assumption) ?_
       rotate_left
       ·(intro w hSw; (try dsimp only at hSw); go_simp) <;> with_reducible rfl
       simp only [Act.put, List.setIfInBounds_toArray, List.set_cons_zero, List.set_cons_succ]
       refine wpAnyH_done (by kernel_rfl) ?_ _
       have HB3 := Lib.hid (z00 HBN.out HB2.out)
       go_wp2
       go_roundw
       case rel => exact ⟨k + 1, by omega, by go_num, HB3, HAN2, HGO2⟩
       case measure => simp [intOf]; omega
      ·have HFIN := Lib.hid (HLO.out hid)
       clear hm R hx HNO HAN HXK HP HPK hp HGO HLO
       go_wp2
       generalize wr.alloc (.cells #[.int .i64 xi, .int .i64 xq, .int .i64 xa, .int .i64 xv] 32) = W1 at *
       have HD : Hid (∀ W, Below W1.heap.size W1 W -> W.cell? ⟨wr.heap.size, 0, none⟩ = some (.int .i64 xi) /\ W.cell? ⟨wr.heap.size, 1, none⟩ = some (.int .i64 xq) /\ W.cell? ⟨wr.heap.size, 2, none⟩ = some (.int .i64 xa) /\ W.cell? ⟨wr.heap.size, 3, none⟩ = some (.int .i64 xv) /\ W.cell? ⟨b, off + q * 4, none⟩ = some (.int .i64 pi)) := Lib.hid (fun W h => ⟨(HRX.out.below h).cell rfl, (HRX.out.below h).cell rfl, (HRX.out.below h).cell rfl, (HRX.out.below h).cell rfl, (h.cell hbo2).trans hp0⟩)
       have hd0 := HD.out _ (Below.refl W1.heap.size W1).drew
       clear x0 x1 x2 x3 p0 hp0
       refine wp_region_held_drew (S := fun W => W.cell? ⟨wr.heap.size, 0, none⟩ = some (.int .i64 xi) /\ W.cell? ⟨wr.heap.size, 1, none⟩ = some (.int .i64 xq) /\ W.cell? ⟨wr.heap.size, 2, none⟩ = some (.int .i64 xa) /\ W.cell? ⟨wr.heap.size, 3, none⟩ = some (.int .i64 xv) /\ W.cell? ⟨b, off + q * 4, none⟩ = some (.int .i64 pi)) (by kernel_rfl) hd0 (fun hz0 => ?_)
       refine wpAnyH_take (i := 0) (oi := { dst := some 17, op := .load 32 (.tmp 6), type := 32, pos := "model.go:73", after := #[], guard := none }) (v := ?_) rfl (by kernel_rfl) (by kernel_rfl) (by kernel_rfl) (fun _ _ _ h => h) (Or.inl ⟨by rfl, ?_⟩) (by assumption) ?_
       rotate_left
       ·(intro w hSw; (try dsimp only at hSw); go_simp) <;> with_reducible rfl
       simp only [Act.put, List.setIfInBounds_toArray, List.set_cons_zero, List.set_cons_succ]
       refine wpAnyH_take (i := 1) (oi := { dst := some 18, op := .move (.tmp 1), type := 3, pos := "model.go:73", after := #[], guard := none }) (v := ?_) rfl (by kernel_rfl) (by kernel_rfl) (by kernel_rfl) (fun _ _ _ h => h) (Or.inl ⟨by rfl, ?_⟩) (by assumption) ?_
       rotate_left
       ·(intro w hSw; (try dsimp only at hSw); go_simp) <;> with_reducible rfl
       simp only [Act.put, List.setIfInBounds_toArray, List.set_cons_zero, List.set_cons_succ]
       refine wpAnyH_ready (rs := [2]) (by kernel_rfl) (by simp) ?_
       refine AllReadyH.cons (o := { dst := some 19, op := .call { callee := .value (.func 84), args := #[.tmp 17, .tmp 18], argTypes := #[32, 3] }, type := 4, pos := "model.go:73", after := #[{ on := 0, ground := .data }, { on := 1, ground := .data }], guard := none }) rfl (fun K hK => ?_) AllReadyH.nil
       go_simp
       refine (HRC.out _).mono ?_
       rintro e w2 ⟨rfl, hb2⟩
       have HB2 : Hid (Below W1.heap.size W1 w2) := Lib.hid (z00 (Below.refl W1.heap.size W1).drew hb2)
       have hd1 := HD.out _ HB2.out
       clear hb2 hd0
       go_wp2_with fail
       refine hK.out _ _ ?_ (fun hz1 => ?_)
       ·exact hd1
       clear hK K hz0
       try simp only [Act.put, List.setIfInBounds_toArray, List.set_cons_zero, List.set_cons_succ]
       refine wpAnyH_take (i := 3) (oi := { dst := some 20, op := .unOp .not 4 (.tmp 19), type := 4, pos := "model.go:73", after := #[{ on := 2, ground := .data }], guard := none }) (v := ?_) rfl (by kernel_rfl) (by kernel_rfl) (by kernel_rfl) (fun _ _ _ h => h) (Or.inl ⟨by rfl, ?_⟩) (by assumption) ?_
       rotate_left
       ·(intro w hSw; (try dsimp only at hSw); go_simp) <;> with_reducible rfl
       simp only [Act.put, List.setIfInBounds_toArray, List.set_cons_zero, List.set_cons_succ]
       refine wpAnyH_take (i := 4) (oi := { dst := some 21, op := .move (.tmp 20), type := 4, pos := "model.go:73", after := #[{ on := 3, ground := .data }, { on := 2, ground := .chain }], guard := none }) (v := ?_) rfl (by kernel_rfl) (by kernel_rfl) (by kernel_rfl) (fun _ _ _ h => h) (Or.inl ⟨by rfl, ?_⟩) (by assumption) ?_
       rotate_left
       ·(intro w hSw; (try dsimp only at hSw); go_simp) <;> with_reducible rfl
       simp only [Act.put, List.setIfInBounds_toArray, List.set_cons_zero, List.set_cons_succ]
       refine wpAnyH_take (i := 5) (oi := { dst := some 22, op := .move (.tmp 5), type := 3, pos := "model.go:73", after := #[{ on := 4, ground := .guard }], guard := some (4, false) }) (v := ?_) rfl (by kernel_rfl) (by kernel_rfl) (by kernel_rfl) (fun _ _ _ h => h) (Or.inl ⟨by rfl, ?_⟩) (by assumption) ?_
       rotate_left
       ·(intro w hSw; (try dsimp only at hSw); go_simp) <;> with_reducible rfl
       simp only [Act.put, List.setIfInBounds_toArray, List.set_cons_zero, List.set_cons_succ]
       refine wpAnyH_take (i := 6) (oi := { dst := some 23, op := .binOp .gtr 3 (.tmp 22) (.const (.int .i64 0)) 3, type := 4, pos := "model.go:73", after := #[{ on := 5, ground := .data }, { on := 4, ground := .guard }], guard := some (4, false) }) (v := ?_) rfl (by kernel_rfl) (by kernel_rfl) (by kernel_rfl) (fun _ _ _ h => h) (Or.inl ⟨by rfl, ?_⟩) (by assumption) ?_
       rotate_left
       ·(intro w hSw; (try dsimp only at hSw); go_simp) <;> with_reducible rfl
       simp only [Act.put, List.setIfInBounds_toArray, List.set_cons_zero, List.set_cons_succ]
       refine wpAnyH_take (i := 7) (oi := { dst := some 24, op := .move (.tmp 23), type := 4, pos := "model.go:73", after := #[{ on := 6, ground := .data }, { on := 4, ground := .chain }, { on := 4, ground := .guard }], guard := some (4, false) }) (v := ?_) rfl (by kernel_rfl) (by kernel_rfl) (by kernel_rfl) (fun _ _ _ h => h) (Or.inl ⟨by rfl, ?_⟩) (by assumption) ?_
       rotate_left
       ·(intro w hSw; (try dsimp only at hSw); go_simp) <;> with_reducible rfl
       simp only [Act.put, List.setIfInBounds_toArray, List.set_cons_zero, List.set_cons_succ]
       refine wpAnyH_take (i := 8) (oi := { dst := some 25, op := .move (.tmp 0), type := 23, pos := "model.go:73", after := #[{ on := 7, ground := .guard }], guard := some (7, true) }) (v := ?_) rfl (by kernel_rfl) (by kernel_rfl) (by kernel_rfl) (fun _ _ _ h => h) (Or.inl ⟨by rfl, ?_⟩) (by assumption) ?_
       rotate_left
       ·(intro w hSw; (try dsimp only at hSw); go_simp) <;> with_reducible rfl
       simp only [Act.put, List.setIfInBounds_toArray, List.set_cons_zero, List.set_cons_succ]
       refine wpAnyH_take (i := 9) (oi := { dst := some 26, op := .move (.tmp 5), type := 3, pos := "model.go:73", after := #[{ on := 7, ground := .guard }], guard := some (7, true) }) (v := ?_) rfl (by kernel_rfl) (by kernel_rfl) (by kernel_rfl) (fun _ _ _ h => h) (Or.inl ⟨by rfl, ?_⟩) (by assumption) ?_
       rotate_left
       ·(intro w hSw; (try dsimp only at hSw); go_simp) <;> with_reducible rfl
       simp only [Act.put, List.setIfInBounds_toArray, List.set_cons_zero, List.set_cons_succ]
       refine wpAnyH_take (i := 10) (oi := { dst := some 27, op := .binOp .sub 3 (.tmp 26) (.const (.int .i64 1)) 3, type := 3, pos := "model.go:73", after := #[{ on := 9, ground := .data }, { on := 7, ground := .guard }], guard := some (7, true) }) (v := ?_) rfl (by kernel_rfl) (by kernel_rfl) (by kernel_rfl) (fun _ _ _ h => h) (Or.inl ⟨by rfl, ?_⟩) (by assumption) ?_
       rotate_left
       ·(intro w hSw; (try dsimp only at hSw); go_simp) <;> with_reducible rfl
       simp only [Act.put, List.setIfInBounds_toArray, List.set_cons_zero, List.set_cons_succ]
       refine wpAnyH_take (i := 11) (oi := { dst := some 28, op := .indexAddr 23 (.tmp 25) (.tmp 27), type := 0, pos := "model.go:73", after := #[{ on := 8, ground := .data }, { on := 10, ground := .data }, { on := 7, ground := .guard }], guard := some (7, true) }) (v := ?_) rfl (by kernel_rfl) (by kernel_rfl) (by kernel_rfl) (fun _ _ _ h => h) (Or.inl ⟨by rfl, ?_⟩) (by assumption) ?_
       rotate_left
       ·(intro w hSw; (try dsimp only at hSw); go_simp) <;> with_reducible rfl
       simp only [Act.put, List.setIfInBounds_toArray, List.set_cons_zero, List.set_cons_succ]
       refine wpAnyH_take (i := 12) (oi := { dst := some 29, op := .fieldAddr 32 (.tmp 28) 0, type := 0, pos := "model.go:73", after := #[{ on := 11, ground := .data }, { on := 7, ground := .guard }], guard := some (7, true) }) (v := ?_) rfl (by kernel_rfl) (by kernel_rfl) (by kernel_rfl) (fun _ _ _ h => h) (Or.inl ⟨by rfl, ?_⟩) (by assumption) ?_
       rotate_left
       ·(intro w hSw; (try dsimp only at hSw); go_simp) <;> with_reducible rfl
       simp only [Act.put, List.setIfInBounds_toArray, List.set_cons_zero, List.set_cons_succ]
       refine wpAnyH_take (i := 13) (oi := { dst := some 30, op := .load 3 (.tmp 29), type := 3, pos := "model.go:73", after := #[{ on := 12, ground := .data }, { on := 7, ground := .guard }], guard := some (7, true) }) (v := ?_) rfl (by kernel_rfl) (by kernel_rfl) (by kernel_rfl) (fun _ _ _ h => h) (Or.inl ⟨by rfl, ?_⟩) (by assumption) ?_
       rotate_left
       ·(intro w hSw; (try dsimp only at hSw); go_simp) <;> with_reducible rfl
       simp only [Act.put, List.setIfInBounds_toArray, List.set_cons_zero, List.set_cons_succ]
       refine wpAnyH_take (i := 14) (oi := { dst := some 31, op := .fieldAddr 32 (.tmp 6) 0, type := 0, pos := "model.go:73", after := #[{ on := 7, ground := .guard }], guard := some (7, true) }) (v := ?_) rfl (by kernel_rfl) (by kernel_rfl) (by kernel_rfl) (fun _ _ _ h => h) (Or.inl ⟨by rfl, ?_⟩) (by assumption) ?_
       rotate_left
       ·(intro w hSw; (try dsimp only at hSw); go_simp) <;> with_reducible rfl
       simp only [Act.put, List.setIfInBounds_toArray, List.set_cons_zero, List.set_cons_succ]
       refine wpAnyH_take (i := 15) (oi := { dst := some 32, op := .load 3 (.tmp 31), type := 3, pos := "model.go:73", after := #[{ on := 14, ground := .data }, { on := 7, ground := .guard }], guard := some (7, true) }) (v := ?_) rfl (by kernel_rfl) (by kernel_rfl) (by kernel_rfl) (fun _ _ _ h => h) (Or.inl ⟨by rfl, ?_⟩) (by assumption) ?_
       rotate_left
       ·(intro w hSw; (try dsimp only at hSw); go_simp) <;> with_reducible rfl
       simp only [Act.put, List.setIfInBounds_toArray, List.set_cons_zero, List.set_cons_succ]
       refine wpAnyH_take (i := 16) (oi := { dst := some 33, op := .binOp .geq 3 (.tmp 30) (.tmp 32) 3, type := 4, pos := "model.go:73", after := #[{ on := 13, ground := .data }, { on := 15, ground := .data }, { on := 7, ground := .guard }], guard := some (7, true) }) (v := ?_) rfl (by kernel_rfl) (by kernel_rfl) (by kernel_rfl) (fun _ _ _ h => h) (Or.inl ⟨by rfl, ?_⟩) (by assumption) ?_
       rotate_left
       ·(intro w hSw; (try dsimp only at hSw); go_simp) <;> with_reducible rfl
       simp only [Act.put, List.setIfInBounds_toArray, List.set_cons_zero, List.set_cons_succ]
       refine wpAnyH_take (i := 17) (oi := { dst := some 34, op := .pick (.tmp 24) (.tmp 33) (.const (.bool false)), type := 4, pos := "model.go:73", after := #[{ on := 7, ground := .data }, { on := 16, ground := .data }, { on := 4, ground := .guard }], guard := some (4, false) }) (v := ?_) rfl (by kernel_rfl) (by kernel_rfl) (by kernel_rfl) (fun _ _ _ h => h) (Or.inl ⟨by rfl, ?_⟩) (by assumption) ?_
       rotate_left
       ·(intro w hSw; (try dsimp only at hSw); go_simp) <;> with_reducible rfl
       simp only [Act.put, List.setIfInBounds_toArray, List.set_cons_zero, List.set_cons_succ]
       refine wpAnyH_take (i := 18) (oi := { dst := some 35, op := .pick (.tmp 21) (.const (.bool true)) (.tmp 34), type := 4, pos := "model.go:73", after := #[{ on := 4, ground := .data }, { on := 17, ground := .data }], guard := none }) (v := ?_) rfl (by kernel_rfl) (by kernel_rfl) (by kernel_rfl) (fun _ _ _ h => h) (Or.inl ⟨by rfl, ?_⟩) (by assumption) ?_
       rotate_left
       ·(intro w hSw; (try dsimp only at hSw); go_simp) <;> with_reducible rfl
       simp only [Act.put, List.setIfInBounds_toArray, List.set_cons_zero, List.set_cons_succ]
       refine wpAnyH_done (by kernel_rfl) ?_ _
       go_wp2
       go_ret
       exact zbq HFIN.out (z00 HBN.out HB2.out)
     ·have hgt : decide (0 < k) = false := decide_eq_false hk0
      have HGO2 : Hid (∀ (j : Nat) y z, j + 1 < k + 1 -> cs[j]? = some y -> cs[j + 1]? = some z -> y.id < z.id) := Lib.hid (fun j y z hj => by omega)
      obtain ⟨xi, xq, xa, xv⟩ := x
      simp only at x0 x1 x2 x3 HRC HBN hbo2 hwo2 HRX
      clear hm R hx HNO HAN HXK
      go_wp2
      generalize wr.alloc (.cells #[.int .i64 xi, .int .i64 xq, .int .i64 xa, .int .i64 xv] 32) = W1 at *
      have HD : Hid (∀ W, Below W1.heap.size W1 W -> W.cell? ⟨wr.heap.size, 0, none⟩ = some (.int .i64 xi) /\ W.cell? ⟨wr.heap.size, 1, none⟩ = some (.int .i64 xq) /\ W.cell? ⟨wr.heap.size, 2, none⟩ = some (.int .i64 xa) /\ W.cell? ⟨wr.heap.size, 3, none⟩ = some (.int .i64 xv)) := Lib.hid (fun W h => ⟨(HRX.out.below h).cell rfl, (HRX.out.below h).cell rfl, (HRX.out.below h).cell rfl, (HRX.out.below h).cell rfl⟩)
      have hd0 := HD.out _ (Below.refl W1.heap.size W1).drew
      clear x0 x1 x2 x3
      refine wp_region_held_drew (S := fun W => W.cell? ⟨wr.heap.size, 0, none⟩ = some (.int .i64 xi) /\ W.cell? ⟨wr.heap.size, 1, none⟩ = some (.int .i64 xq) /\ W.cell? ⟨wr.heap.size, 2, none⟩ = some (.int .i64 xa) /\ W.cell? ⟨wr.heap.size, 3, none⟩ = some (.int .i64 xv)) (by kernel_rfl) hd0 (fun hz0 => ?_)
      refine wpAnyH_take (i := 0) (oi := { dst := some 17, op := .load 32 (.tmp 6), type := 32, pos := "model.go:73", after := #[], guard := none }) (v := ?_) rfl (by kernel_rfl) (by kernel_rfl) (by kernel_rfl) (fun _ _ _ h => h) (Or.inl ⟨by rfl, ?_⟩) (by assumption) ?_
      rotate_left
      ·(intro w hSw; (try dsimp only at hSw); go_simp) <;> with_reducible rfl
      simp only [Act.put, List.setIfInBounds_toArray, List.set_cons_zero, List.set_cons_succ]
      refine wpAnyH_take (i := 1) (oi := { dst := some 18, op := .move (.tmp 1), type := 3, pos := "model.go:73", after := #[], guard := none }) (v := ?_) rfl (by kernel_rfl) (by kernel_rfl) (by kernel_rfl) (fun _ _ _ h => h) (Or.inl ⟨by rfl, ?_⟩) (by assumption) ?_
      rotate_left
      ·(intro w hSw; (try dsimp only at hSw); go_simp) <;> with_reducible rfl
      simp only [Act.put, List.setIfInBounds_toArray, List.set_cons_zero, List.set_cons_succ]
      refine wpAnyH_ready (rs := [2]) (by kernel_rfl) (by simp) ?_
      refine AllReadyH.cons (o := { dst := some 19, op := .call { callee := .value (.func 84), args := #[.tmp 17, .tmp 18], argTypes := #[32, 3] }, type := 4, pos := "model.go:73", after := #[{ on := 0, ground := .data }, { on := 1, ground := .data }], guard := none }) rfl (fun K hK => ?_) AllReadyH.nil
      go_simp
      refine (HRC.out _).mono ?_
      rintro e w2 ⟨rfl, hb2⟩
      have HB2 : Hid (Below W1.heap.size W1 w2) := Lib.hid (z00 (Below.refl W1.heap.size W1).drew hb2)
      have hd1 := HD.out _ HB2.out
      clear hb2 hd0
      go_wp2_with fail
      refine hK.out _ _ ?_ (fun hz1 => ?_)
      ·exact hd1
      clear hK K hz0
      try simp only [Act.put, List.setIfInBounds_toArray, List.set_cons_zero, List.set_cons_succ]
      refine wpAnyH_take (i := 3) (oi := { dst := some 20, op := .unOp .not 4 (.tmp 19), type := 4, pos := "model.go:73", after := #[{ on := 2, ground := .data }], guard := none }) (v := ?_) rfl (by kernel_rfl) (by kernel_rfl) (by kernel_rfl) (fun _ _ _ h => h) (Or.inl ⟨by rfl, ?_⟩) (by assumption) ?_
      rotate_left
      ·(intro w hSw; (try dsimp only at hSw); go_simp) <;> with_reducible rfl
      simp only [Act.put, List.setIfInBounds_toArray, List.set_cons_zero, List.set_cons_succ]
      refine wpAnyH_take (i := 4) (oi := { dst := some 21, op := .move (.tmp 20), type := 4, pos := "model.go:73", after := #[{ on := 3, ground := .data }, { on := 2, ground := .chain }], guard := none }) (v := ?_) rfl (by kernel_rfl) (by kernel_rfl) (by kernel_rfl) (fun _ _ _ h => h) (Or.inl ⟨by rfl, ?_⟩) (by assumption) ?_
      rotate_left
      ·(intro w hSw; (try dsimp only at hSw); go_simp) <;> with_reducible rfl
      simp only [Act.put, List.setIfInBounds_toArray, List.set_cons_zero, List.set_cons_succ]
      refine wpAnyH_take (i := 5) (oi := { dst := some 22, op := .move (.tmp 5), type := 3, pos := "model.go:73", after := #[{ on := 4, ground := .guard }], guard := some (4, false) }) (v := ?_) rfl (by kernel_rfl) (by kernel_rfl) (by kernel_rfl) (fun _ _ _ h => h) (Or.inl ⟨by rfl, ?_⟩) (by assumption) ?_
      rotate_left
      ·(intro w hSw; (try dsimp only at hSw); go_simp) <;> with_reducible rfl
      simp only [Act.put, List.setIfInBounds_toArray, List.set_cons_zero, List.set_cons_succ]
      refine wpAnyH_take (i := 6) (oi := { dst := some 23, op := .binOp .gtr 3 (.tmp 22) (.const (.int .i64 0)) 3, type := 4, pos := "model.go:73", after := #[{ on := 5, ground := .data }, { on := 4, ground := .guard }], guard := some (4, false) }) (v := ?_) rfl (by kernel_rfl) (by kernel_rfl) (by kernel_rfl) (fun _ _ _ h => h) (Or.inl ⟨by rfl, ?_⟩) (by assumption) ?_
      rotate_left
      ·(intro w hSw; (try dsimp only at hSw); go_simp) <;> with_reducible rfl
      simp only [Act.put, List.setIfInBounds_toArray, List.set_cons_zero, List.set_cons_succ]
      refine wpAnyH_take (i := 7) (oi := { dst := some 24, op := .move (.tmp 23), type := 4, pos := "model.go:73", after := #[{ on := 6, ground := .data }, { on := 4, ground := .chain }, { on := 4, ground := .guard }], guard := some (4, false) }) (v := ?_) rfl (by kernel_rfl) (by kernel_rfl) (by kernel_rfl) (fun _ _ _ h => h) (Or.inl ⟨by rfl, ?_⟩) (by assumption) ?_
      rotate_left
      ·(intro w hSw; (try dsimp only at hSw); go_simp) <;> with_reducible rfl
      simp only [Act.put, List.setIfInBounds_toArray, List.set_cons_zero, List.set_cons_succ]
      refine z06 (i := 8) (d := 25) (by kernel_rfl) (by kernel_rfl) (by kernel_rfl) (by kernel_rfl) (fun _ _ _ h => h) (by assumption) ?_
      simp only [Act.put, List.setIfInBounds_toArray, List.set_cons_zero, List.set_cons_succ]
      refine z06 (i := 9) (d := 26) (by kernel_rfl) (by kernel_rfl) (by kernel_rfl) (by kernel_rfl) (fun _ _ _ h => h) (by assumption) ?_
      simp only [Act.put, List.setIfInBounds_toArray, List.set_cons_zero, List.set_cons_succ]
      refine z06 (i := 10) (d := 27) (by kernel_rfl) (by kernel_rfl) (by kernel_rfl) (by kernel_rfl) (fun _ _ _ h => h) (by assumption) ?_
      simp only [Act.put, List.setIfInBounds_toArray, List.set_cons_zero, List.set_cons_succ]
      refine z06 (i := 11) (d := 28) (by kernel_rfl) (by kernel_rfl) (by kernel_rfl) (by kernel_rfl) (fun _ _ _ h => h) (by assumption) ?_
      simp only [Act.put, List.setIfInBounds_toArray, List.set_cons_zero, List.set_cons_succ]
      refine z06 (i := 12) (d := 29) (by kernel_rfl) (by kernel_rfl) (by kernel_rfl) (by kernel_rfl) (fun _ _ _ h => h) (by assumption) ?_
      simp only [Act.put, List.setIfInBounds_toArray, List.set_cons_zero, List.set_cons_succ]
      refine z06 (i := 13) (d := 30) (by kernel_rfl) (by kernel_rfl) (by kernel_rfl) (by kernel_rfl) (fun _ _ _ h => h) (by assumption) ?_
      simp only [Act.put, List.setIfInBounds_toArray, List.set_cons_zero, List.set_cons_succ]
      refine z06 (i := 14) (d := 31) (by kernel_rfl) (by kernel_rfl) (by kernel_rfl) (by kernel_rfl) (fun _ _ _ h => h) (by assumption) ?_
      simp only [Act.put, List.setIfInBounds_toArray, List.set_cons_zero, List.set_cons_succ]
      refine z06 (i := 15) (d := 32) (by kernel_rfl) (by kernel_rfl) (by kernel_rfl) (by kernel_rfl) (fun _ _ _ h => h) (by assumption) ?_
      simp only [Act.put, List.setIfInBounds_toArray, List.set_cons_zero, List.set_cons_succ]
      refine z06 (i := 16) (d := 33) (by kernel_rfl) (by kernel_rfl) (by kernel_rfl) (by kernel_rfl) (fun _ _ _ h => h) (by assumption) ?_
      simp only [Act.put, List.setIfInBounds_toArray, List.set_cons_zero, List.set_cons_succ]
      refine wpAnyH_take (i := 17) (oi := { dst := some 34, op := .pick (.tmp 24) (.tmp 33) (.const (.bool false)), type := 4, pos := "model.go:73", after := #[{ on := 7, ground := .data }, { on := 16, ground := .data }, { on := 4, ground := .guard }], guard := some (4, false) }) (v := ?_) rfl (by kernel_rfl) (by kernel_rfl) (by kernel_rfl) (fun _ _ _ h => h) (Or.inl ⟨by rfl, ?_⟩) (by assumption) ?_
      rotate_left
      ·(intro w hSw; (try dsimp only at hSw); go_simp) <;> with_reducible rfl
      simp only [Act.put, List.setIfInBounds_toArray, List.set_cons_zero, List.set_cons_succ]
      refine wpAnyH_take (i := 18) (oi := { dst := some 35, op := .pick (.tmp 21) (.const (.bool true)) (.tmp 34), type := 4, pos := "model.go:73", after := #[{ on := 4, ground := .data }, { on := 17, ground := .data }], guard := none }) (v := ?_) rfl (by kernel_rfl) (by kernel_rfl) (by kernel_rfl) (fun _ _ _ h => h) (Or.inl ⟨by rfl, ?_⟩) (by assumption) ?_
      rotate_left
      ·(intro w hSw; (try dsimp only at hSw); go_simp) <;> with_reducible rfl
      simp only [Act.put, List.setIfInBounds_toArray, List.set_cons_zero, List.set_cons_succ]
      refine wpAnyH_done (by kernel_rfl) ?_ _
      have HB3 := Lib.hid (z00 HBN.out HB2.out)
      go_wp2
      go_roundw
      case rel => exact ⟨k + 1, by omega, by go_num, HB3, HAN2, HGO2⟩
      case measure => simp [intOf]; omega
   ·obtain rfl : k = L := by omega
    have HFIN : Hid (RcP v cs w (.returned (.bool true)) wr) := Lib.hid ⟨true, rfl, ⟨fun _ => HRO.out (fun j y hy => HA.out j y (by have := (List.getElem?_eq_some_iff.1 hy).1; have := HL.out; omega) hy) (fun j y z hy hz => HO.out j y z (by have := (List.getElem?_eq_some_iff.1 hz).1; have := HL.out; omega) hy hz), fun _ => rfl⟩, HB.out⟩
    go_wp2
    go_ret
    exact HFIN.out
end Go.Proofs.YtdkkkeoicekdgaaGreatDoor.Md

end

section

namespace Go.Proofs.YtdkkkeoicekdgaaGreatDoor.Md
set_option maxHeartbeats 6400000
set_option maxRecDepth 100000
open Go.Lib (hid)
open Go.RowKit Go.Maps Go.WideShapes Go.WideMaps Go.Proofs.YtdkkkeoicekdgaaGreatDoor Go.Proofs.YtdkkkeoicekdgaaGreatDoor.Ca
def RmP (m : Mdl) (w : World) (e : Ending) (w' : World) : Prop := ∃ r : Bool, e = .returned (.bool r) /\ (r = true ↔ RgtM m) /\ Below w.heap.size w w'
theorem z99 {m : Mdl} {w w' : World} (h : ¬ RgtM m) (hb : Below w.heap.size w w') : RmP m w (.returned (.bool false)) w' := ⟨false, rfl, ⟨fun h9 => Bool.noConfusion h9, fun h9 => absurd h9 h⟩, hb⟩
theorem z5i (w : World) (m : Mdl) (ae : Option Addr) (ce : Nat) (ac : Option Addr) (cc : Nat) (hE : SlE w (Old w) (.slice ae m.es.length ce) m.es) (hC : SlL w (Old w) (.slice ac m.cs.length cc) m.cs) (hF : ∀ x, x ∈ m.es -> FitE x) (hV : EnvC w) :
  Calls Tryz.prog 12 #[.agg (mdC m.vr (.slice ae m.es.length ce) (.slice ac m.cs.length cc))] w (RmP m w) := by
 obtain ⟨v, es, cs⟩ := m
 simp only at hE hC hF ⊢
 have HCL := hid (fun W (h : Below w.heap.size w W) => zbr W ac cc cs v (hC.old h))
 have HBY := hid (fun W (h : Below w.heap.size w W) => z84 W ae ce es (hE.old h) hF (hV.below h))
 have HOK : Hid (0 <= v -> v <= 1073741824 -> RgtC v cs -> (z0n es).2 = 0 -> RgtM ⟨v, es, cs⟩) := hid (fun a b c d => ⟨a, b, c, d⟩)
 have HLO : Hid (v < 0 -> ¬ RgtM ⟨v, es, cs⟩) := hid (fun h hr => by have := hr.lo; simp only at this; omega)
 have HHI : Hid (1073741824 < v -> ¬ RgtM ⟨v, es, cs⟩) := hid (fun h hr => by have := hr.hi; simp only at this; omega)
 have HNC : Hid (¬ RgtC v cs -> ¬ RgtM ⟨v, es, cs⟩) := hid (fun h hr => h hr.cs)
 have HNE : Hid ((z0n es).2 ≠ 0 -> ¬ RgtM ⟨v, es, cs⟩) := hid (fun h hr => h hr.es)
 obtain ⟨Le, HLe⟩ : ∃ L, Hid (L = es.length) := ⟨_, hid rfl⟩
 obtain ⟨Lc, HLc⟩ : ∃ L, Hid (L = cs.length) := ⟨_, hid rfl⟩
 obtain ⟨qs, HQS⟩ : ∃ q, Hid (q = (⟨(z0n es).1.toArray⟩ : ByteArray)) := ⟨_, hid rfl⟩
 obtain ⟨qe, HQE⟩ : ∃ q, Hid (q = (z0n es).2) := ⟨_, hid rfl⟩
 rw [<- HLe.out, <- HQE.out] at HBY
 rw [<- HQS.out] at HBY
 rw [<- HLc.out] at HCL
 rw [<- HLe.out, <- HLc.out]
 rw [<- HQE.out] at HNE HOK
 clear hE hC hF hV HQS HLe HLc
 have R := z01 w (mdC v (.slice ae Le ce) (.slice ac Lc cc)) 25
 have c0 := R.cell (i := 0) rfl
 have c1 := R.cell (i := 1) rfl
 have c2 := R.cell (i := 2) rfl
 have HB1 := hid (z04 w (.cells (mdC v (.slice ae Le ce) (.slice ac Lc cc)) 25))
 have HR := hid R
 clear R
 go_enter Tryz.func12, Tryz.ntmps12
 by_cases h0 : v < 0
 ·have HF := hid (z99 (HLO.out h0) HB1.out)
  go_wp2
  go_ret
  exact HF.out
 ·by_cases h1 : 1073741824 < v
  ·have HF := hid (z99 (HHI.out h1) HB1.out)
   go_wp2
   go_ret
   exact HF.out
  ·have hv0 : 0 <= v := by omega
   have hv1 : v <= 1073741824 := by omega
   have HV := hid (And.intro hv0 hv1)
   clear hv0 hv1
   go_wp2_with fail
   refine (HCL.out _ HB1.out).mono ?_
   rintro e w2 ⟨r, rfl, hr, hb2⟩
   have HRC := hid hr
   have HB2 := hid (z00 HB1.out hb2)
   have RR := HR.out.below hb2
   clear c0 c1 c2 hr hb2
   have d1 := RR.cell (i := 1) rfl
   clear RR
   cases r with
   | false =>
    have HF := hid (z99 (HNC.out (fun h => by have := HRC.out.2 h; cases this)) HB2.out)
    go_wp2
    go_ret
    exact HF.out
   | true =>
    have HBC := hid (HBY.out w2 HB2.out)
    go_wp2_with fail
    refine HBC.out.mono ?_
    rintro e w3 ⟨rfl, hb3⟩
    have HB3 := hid (z00 HB2.out hb3)
    clear hb3 d1
    by_cases hq : qe = 0
    ·have HF : Hid (RmP ⟨v, es, cs⟩ w (.returned (.bool true)) w3) := hid ⟨true, rfl, ⟨fun _ => HOK.out HV.out.1 HV.out.2 (HRC.out.1 (by first | rfl | trivial)) hq, fun _ => rfl⟩, HB3.out⟩
     have hqb : (qe == 0) = true := by rw [beq_iff_eq]; exact hq
     clear hq
     go_wp2
     go_ret
     exact HF.out
    ·have HF := hid (z99 (HNE.out hq) HB3.out)
     have hqb : (qe == 0) = false := by rw [beq_eq_false_iff_ne]; exact hq
     clear hq
     go_wp2
     go_ret
     exact HF.out
end Go.Proofs.YtdkkkeoicekdgaaGreatDoor.Md

end

section

namespace Go.Proofs.YtdkkkeoicekdgaaGreatDoor.Md
open Go.RowKit Go.Maps Go.WideShapes Go.WideMaps Go.Proofs.YtdkkkeoicekdgaaGreatDoor Go.Proofs.YtdkkkeoicekdgaaGreatDoor.Ca
end Go.Proofs.YtdkkkeoicekdgaaGreatDoor.Md

end
