/- Package model: which commands and clients may be. -/
import Derived.Test.YtdkkkeoicekdgaaGreatDoorZFMex

section

namespace Go.Proofs.YtdkkkeoicekdgaaGreatDoor.Md
open Go.Lib (hid)
open Go.RowKit Go.Maps Go.WideShapes Go.WideMaps Go.Proofs.YtdkkkeoicekdgaaGreatDoor Go.Proofs.YtdkkkeoicekdgaaGreatDoor.Ca
def Says (b : Bool) (w : World) (e : Ending) (w' : World) : Prop := e = .returned (.bool b) /\ w' = w
theorem z7f (n : Int) (w : World) : Calls Tryz.prog 45 #[.int .i64 n] w (Says (cntB n) w) := by
 by_cases h1 : 1 <= n
 ·by_cases h2 : n <= 1073741824
  ·have HC : Hid (Says (cntB n) w (.returned (.bool true)) w) := hid ⟨by simp [cntB, h1, h2], rfl⟩
   go_enter Tryz.func45, Tryz.ntmps45
   go_wp2;go_ret;exact HC.out
  ·have HC : Hid (Says (cntB n) w (.returned (.bool false)) w) := hid ⟨by simp [cntB, h1, h2], rfl⟩
   go_enter Tryz.func45, Tryz.ntmps45
   go_wp2;go_ret;exact HC.out
 ·have HC : Hid (Says (cntB n) w (.returned (.bool false)) w) := hid ⟨by simp [cntB, h1], rfl⟩
  go_enter Tryz.func45, Tryz.ntmps45
  go_wp2;go_ret;exact HC.out
theorem zan (w : World) (c : Cmd) (b : Option Addr) (cap : Nat) : Calls Tryz.prog 14 #[.agg #[.int .i64 c.cl, .int .i64 c.sq, .slice b c.ch.length cap]] w fun e w' => e = .returned (.bool (mayC c)) /\ Below w.heap.size w w' := by
 have HM : Hid (mayC c = (cntB c.cl && cntB c.sq && decide (1 <= c.ch.length) && decide (c.ch.length <= 20))) := hid rfl;have a := hid (z7f c.cl);have d := hid (z7f c.sq);obtain ⟨p, HP⟩ := nmd (cntB c.cl);obtain ⟨q, HQ⟩ := nmd (cntB c.sq);rw [<- HP.out, <- HQ.out] at HM;rw [<- HP.out] at a;rw [<- HQ.out] at d;clear HP HQ;obtain ⟨cl, sq, ch⟩ := c;simp only at HM a d ⊢
 generalize ch.length = L at *
 generalize mayC ⟨cl, sq, ch⟩ = m at *
 have R := z02 w #[.int .i64 cl, .int .i64 sq, .slice b L cap] 28;have c0 := R.c0;have c1 := R.c1;have c2 := R.c2;have HB := hid (z04 w (.cells #[.int .i64 cl, .int .i64 sq, .slice b L cap] 28));clear R
 go_enter Tryz.func14, Tryz.ntmps14
 go_wp2_with fail
 refine (a.out _).mono ?_;rintro e w1 ⟨rfl, rfl⟩;clear a
 cases p with
 | false =>
  go_wp2;go_ret;exact ⟨by rw [HM.out]; rfl, HB.out⟩
 | true =>
  go_wp2_with fail
  refine (d.out _).mono ?_;rintro e w1 ⟨rfl, rfl⟩;clear d
  cases q with
  | false =>
   go_wp2;go_ret;exact ⟨by rw [HM.out]; rfl, HB.out⟩
  | true =>
   by_cases h1 : (1 : Int) <= L
   ·by_cases h2 : (L : Int) <= 20
    ·have HE : Hid (m = true) := hid (by rw [HM.out]; simp; omega)
     clear HM;go_wp2;go_ret;exact ⟨by rw [HE.out]; rfl, HB.out⟩
    ·have HE : Hid (m = false) := hid (by rw [HM.out]; simp; omega)
     clear HM;go_wp2;go_ret;exact ⟨by rw [HE.out]; first | rfl | exact congrArg (fun b => Ending.returned (Value.bool b)) (show decide ((L : Int) <= 20) = false from decide_eq_false (by omega)), HB.out⟩
   ·have HE : Hid (m = false) := hid (by rw [HM.out]; simp; omega)
    clear HM;go_wp2;go_ret;exact ⟨by rw [HE.out]; first | rfl | exact congrArg (fun b => Ending.returned (Value.bool b)) (show decide ((1 : Int) <= L) = false from decide_eq_false (by omega)), HB.out⟩
end Go.Proofs.YtdkkkeoicekdgaaGreatDoor.Md

end

section

namespace Go.Proofs.YtdkkkeoicekdgaaGreatDoor.Md
open Go.RowKit Go.Maps Go.WideShapes Go.WideMaps Go.Proofs.YtdkkkeoicekdgaaGreatDoor Go.Proofs.YtdkkkeoicekdgaaGreatDoor.Ca

end Go.Proofs.YtdkkkeoicekdgaaGreatDoor.Md

end

section

namespace Go.Proofs.YtdkkkeoicekdgaaGreatDoor.Md
open Go.Lib (hid)
open Go.RowKit Go.Maps Go.WideShapes Go.WideMaps Go.Proofs.YtdkkkeoicekdgaaGreatDoor Go.Proofs.YtdkkkeoicekdgaaGreatDoor.Ca
theorem zb9 (n : Int) (w : World) : Calls Tryz.prog 43 #[.int .i64 n] w (Says (cntB n) w) := by
 by_cases h1 : 1 <= n
 ·by_cases h2 : n <= 1073741824
  ·have HC : Hid (Says (cntB n) w (.returned (.bool true)) w) := hid ⟨by simp [cntB, h1, h2], rfl⟩
   go_enter Tryz.func43, Tryz.ntmps43
   go_wp2;go_ret;exact HC.out
  ·have HC : Hid (Says (cntB n) w (.returned (.bool false)) w) := hid ⟨by simp [cntB, h1, h2], rfl⟩
   go_enter Tryz.func43, Tryz.ntmps43
   go_wp2;go_ret;exact HC.out
 ·have HC : Hid (Says (cntB n) w (.returned (.bool false)) w) := hid ⟨by simp [cntB, h1], rfl⟩
  go_enter Tryz.func43, Tryz.ntmps43
  go_wp2;go_ret;exact HC.out
theorem z7y (w : World) (c : Cmd) (b : Option Addr) (cap : Nat) : Calls Tryz.prog 15 #[.agg #[.int .i64 c.cl, .int .i64 c.sq, .slice b c.ch.length cap]] w fun e w' => e = .returned (.bool (mayC c)) /\ Below w.heap.size w w' := by
 have HM : Hid (mayC c = (cntB c.cl && cntB c.sq && decide (1 <= c.ch.length) && decide (c.ch.length <= 20))) := hid rfl;have a := hid (zb9 c.cl);have d := hid (zb9 c.sq);obtain ⟨p, HP⟩ := nmd (cntB c.cl);obtain ⟨q, HQ⟩ := nmd (cntB c.sq);rw [<- HP.out, <- HQ.out] at HM;rw [<- HP.out] at a;rw [<- HQ.out] at d;clear HP HQ;obtain ⟨cl, sq, ch⟩ := c;simp only at HM a d ⊢
 generalize ch.length = L at *
 generalize mayC ⟨cl, sq, ch⟩ = m at *
 have R := z02 w #[.int .i64 cl, .int .i64 sq, .slice b L cap] 28;have c0 := R.c0;have c1 := R.c1;have c2 := R.c2;have HB := hid (z04 w (.cells #[.int .i64 cl, .int .i64 sq, .slice b L cap] 28));clear R
 go_enter Tryz.func15, Tryz.ntmps15
 go_wp2_with fail
 refine (a.out _).mono ?_;rintro e w1 ⟨rfl, rfl⟩;clear a
 cases p with
 | false =>
  go_wp2;go_ret;exact ⟨by rw [HM.out]; rfl, HB.out⟩
 | true =>
  go_wp2_with fail
  refine (d.out _).mono ?_;rintro e w1 ⟨rfl, rfl⟩;clear d
  cases q with
  | false =>
   go_wp2;go_ret;exact ⟨by rw [HM.out]; rfl, HB.out⟩
  | true =>
   by_cases h1 : (0 : Int) < L
   ·by_cases h2 : (L : Int) <= 20
    ·have HE : Hid (m = true) := hid (by rw [HM.out]; simp; omega)
     clear HM;go_wp2;go_ret;exact ⟨by rw [HE.out]; rfl, HB.out⟩
    ·have HE : Hid (m = false) := hid (by rw [HM.out]; simp; omega)
     clear HM;go_wp2;go_ret;exact ⟨by rw [HE.out]; first | rfl | exact congrArg (fun b => Ending.returned (Value.bool b)) (show decide ((L : Int) <= 20) = false from decide_eq_false (by omega)), HB.out⟩
   ·have HE : Hid (m = false) := hid (by rw [HM.out]; simp; omega)
    clear HM;go_wp2;go_ret;exact ⟨by rw [HE.out]; first | rfl | exact congrArg (fun b => Ending.returned (Value.bool b)) (show decide ((0 : Int) < L) = false from decide_eq_false (by omega)), HB.out⟩
end Go.Proofs.YtdkkkeoicekdgaaGreatDoor.Md

end
