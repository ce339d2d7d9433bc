/- Package model: which commands and clients may be. -/
import Derived.Test.YtdkkkeoicekdgaaGreatDoorZAMex

namespace Go.Proofs.YtdkkkeoicekdgaaGreatDoor.Md
open Go.Lib (hid)
open Go.RowKit Go.Maps Go.WideShapes Go.WideMaps Go.Proofs.YtdkkkeoicekdgaaGreatDoor Go.Proofs.YtdkkkeoicekdgaaGreatDoor.Ca
def Says (b : Bool) (w : World) (e : Ending) (w' : World) : Prop := e = .returned (.bool b) /\ w' = w
theorem z2c (n : Int) (w : World) : Calls Tryz.prog 45 #[.int .i64 n] w (Says (cntB n) w) := by
 by_cases h1 : 1 <= n
 ·by_cases h2 : n <= 1073741824
  ·have HC : Hid (Says (cntB n) w (.returned (.bool true)) w) := hid ⟨by simp [cntB, h1, h2], rfl⟩
   go_enter Tryz.func45, Tryz.ntmps45
   go_wp2
   go_ret
   exact HC.out
  ·have HC : Hid (Says (cntB n) w (.returned (.bool false)) w) := hid ⟨by simp [cntB, h1, h2], rfl⟩
   go_enter Tryz.func45, Tryz.ntmps45
   go_wp2
   go_ret
   exact HC.out
 ·have HC : Hid (Says (cntB n) w (.returned (.bool false)) w) := hid ⟨by simp [cntB, h1], rfl⟩
  go_enter Tryz.func45, Tryz.ntmps45
  go_wp2
  go_ret
  exact HC.out
theorem z3h (w : World) (c : Cmd) (b : Option Addr) (cap : Nat) : Calls Tryz.prog 14 #[.agg #[.int .i64 c.cl, .int .i64 c.sq, .slice b c.ch.length cap]] w fun e w' => e = .returned (.bool (mayC c)) /\ Below w.heap.size w w' := by
 have HM : Hid (mayC c = (cntB c.cl && cntB c.sq && decide (1 <= c.ch.length) && decide (c.ch.length <= 20))) := hid rfl
 have HC1 := hid (z2c c.cl)
 have HC2 := hid (z2c c.sq)
 obtain ⟨p, HP⟩ : ∃ p, Hid (p = cntB c.cl) := ⟨_, hid rfl⟩
 obtain ⟨q, HQ⟩ : ∃ p, Hid (p = cntB c.sq) := ⟨_, hid rfl⟩
 rw [<- HP.out, <- HQ.out] at HM
 rw [<- HP.out] at HC1
 rw [<- HQ.out] at HC2
 clear HP HQ
 obtain ⟨cl, sq, ch⟩ := c
 simp only at HM HC1 HC2 ⊢
 generalize ch.length = L at *
 generalize mayC ⟨cl, sq, ch⟩ = m at *
 have R := z02 w #[.int .i64 cl, .int .i64 sq, .slice b L cap] 28
 have c0 := R.cell (i := 0) rfl
 have c1 := R.cell (i := 1) rfl
 have c2 := R.cell (i := 2) rfl
 have HB := hid (z04 w (.cells #[.int .i64 cl, .int .i64 sq, .slice b L cap] 28))
 clear R
 go_enter Tryz.func14, Tryz.ntmps14
 go_wp2_with fail
 refine (HC1.out _).mono ?_
 rintro e w1 ⟨rfl, rfl⟩
 clear HC1
 cases p with
 | false =>
  go_wp2
  go_ret
  exact ⟨by rw [HM.out]; rfl, HB.out⟩
 | true =>
  go_wp2_with fail
  refine (HC2.out _).mono ?_
  rintro e w1 ⟨rfl, rfl⟩
  clear HC2
  cases q with
  | false =>
   go_wp2
   go_ret
   exact ⟨by rw [HM.out]; rfl, HB.out⟩
  | true =>
   by_cases h1 : (1 : Int) <= L
   ·by_cases h2 : (L : Int) <= 20
    ·have HE : Hid (m = true) := hid (by rw [HM.out]; simp; omega)
     clear HM
     go_wp2
     go_ret
     exact ⟨by rw [HE.out]; rfl, HB.out⟩
    ·have HE : Hid (m = false) := hid (by rw [HM.out]; simp; omega)
     clear HM
     go_wp2
     go_ret
     exact ⟨by rw [HE.out]; first | rfl | exact congrArg (fun b => Ending.returned (Value.bool b)) (show decide ((L : Int) <= 20) = false from decide_eq_false (by omega)), HB.out⟩
   ·have HE : Hid (m = false) := hid (by rw [HM.out]; simp; omega)
    clear HM
    go_wp2
    go_ret
    exact ⟨by rw [HE.out]; first | rfl | exact congrArg (fun b => Ending.returned (Value.bool b)) (show decide ((1 : Int) <= L) = false from decide_eq_false (by omega)), HB.out⟩
theorem rcli_any (w : World) (c : Cli) (v : Int) : Calls Tryz.prog 84 #[clV c, .int .i64 v] w fun e w' => e = .returned (.bool (cliB v c)) /\ Below w.heap.size w w' := by
 have HM : Hid (cliB v c = (cntB c.id && cntB c.sq && decide (0 <= c.an) && decide (c.an <= 255) && decide (0 <= c.vr) && decide (c.vr <= v))) := hid rfl
 have HC1 := hid (z2c c.id)
 have HC2 := hid (z2c c.sq)
 obtain ⟨p, HP⟩ : ∃ p, Hid (p = cntB c.id) := ⟨_, hid rfl⟩
 obtain ⟨q, HQ⟩ : ∃ p, Hid (p = cntB c.sq) := ⟨_, hid rfl⟩
 rw [<- HP.out, <- HQ.out] at HM
 rw [<- HP.out] at HC1
 rw [<- HQ.out] at HC2
 clear HP HQ
 obtain ⟨cl, sq, an, vr⟩ := c
 simp only at HM HC1 HC2 ⊢
 generalize cliB v ⟨cl, sq, an, vr⟩ = m at *
 have R := z02 w #[.int .i64 cl, .int .i64 sq, .int .i64 an, .int .i64 vr] 32
 have c0 := R.cell (i := 0) rfl
 have c1 := R.cell (i := 1) rfl
 have c2 := R.cell (i := 2) rfl
 have c3 := R.cell (i := 3) rfl
 have HB := hid (z04 w (.cells #[.int .i64 cl, .int .i64 sq, .int .i64 an, .int .i64 vr] 32))
 clear R
 go_enter Tryz.func84, Tryz.ntmps84
 go_wp2_with fail
 refine (HC1.out _).mono ?_
 rintro e w1 ⟨rfl, rfl⟩
 clear HC1
 cases p with
 | false =>
  go_wp2
  go_ret
  exact ⟨by rw [HM.out]; rfl, HB.out⟩
 | true =>
  go_wp2_with fail
  refine (HC2.out _).mono ?_
  rintro e w1 ⟨rfl, rfl⟩
  clear HC2
  cases q with
  | false =>
   go_wp2
   go_ret
   exact ⟨by rw [HM.out]; rfl, HB.out⟩
  | true =>
   by_cases h0 : 0 <= an
   ·by_cases h1 : an <= 255
    ·by_cases h2 : 0 <= vr
     ·by_cases h3 : vr <= v
      ·have HE : Hid (m = true) := hid (by rw [HM.out]; simp; omega)
       clear HM
       go_wp2
       go_ret
       exact ⟨by rw [HE.out]; rfl, HB.out⟩
      ·have HE : Hid (m = false) := hid (by rw [HM.out]; simp; omega)
       clear HM
       go_wp2
       go_ret
       exact ⟨by rw [HE.out]; first | rfl | exact congrArg (fun b => Ending.returned (Value.bool b)) (show decide (vr <= v) = false from decide_eq_false (by omega)), HB.out⟩
     ·have HE : Hid (m = false) := hid (by rw [HM.out]; simp; omega)
      clear HM
      go_wp2
      go_ret
      exact ⟨by rw [HE.out]; first | rfl | exact congrArg (fun b => Ending.returned (Value.bool b)) (show decide (0 <= vr) = false from decide_eq_false (by omega)), HB.out⟩
    ·have HE : Hid (m = false) := hid (by rw [HM.out]; simp; omega)
     clear HM
     go_wp2
     go_ret
     exact ⟨by rw [HE.out]; first | rfl | exact congrArg (fun b => Ending.returned (Value.bool b)) (show decide (an <= 255) = false from decide_eq_false (by omega)), HB.out⟩
   ·have HE : Hid (m = false) := hid (by rw [HM.out]; simp; omega)
    clear HM
    go_wp2
    go_ret
    exact ⟨by rw [HE.out]; first | rfl | exact congrArg (fun b => Ending.returned (Value.bool b)) (show decide (0 <= an) = false from decide_eq_false (by omega)), HB.out⟩
end Go.Proofs.YtdkkkeoicekdgaaGreatDoor.Md
