/- The document's: which models are valid. -/
import Derived.Test.YtdkkkeoicekdgaaGreatDoorZEg43
import Derived.Test.YtdkkkeoicekdgaaGreatDoorZERy

namespace Go.Proofs.YtdkkkeoicekdgaaGreatDoor.Md
set_option maxHeartbeats 6400000
set_option maxRecDepth 100000
open Go.RowKit Go.Maps Go.WideShapes Go.WideMaps Go.Proofs.YtdkkkeoicekdgaaGreatDoor Go.Proofs.YtdkkkeoicekdgaaGreatDoor.Ca
theorem zc0 (w : World) (m : Mdl) (ae : Option Addr) (ce : Nat) (ac : Option Addr) (cc : Nat) (hE : SlE w (Old w) (.slice ae m.es.length ce) m.es) (hC : SlL w (Old w) (.slice ac m.cs.length cc) m.cs) (hF : ∀ x, x ∈ m.es -> FitE x) (hV : EnvC w) (hl : m.cs.length <= 100000) :
  Calls Tryz.prog 13 #[.agg (mdC m.vr (.slice ae m.es.length ce) (.slice ac m.cs.length cc))] w (RmP m w) := by
 obtain ⟨v, es, cs⟩ := m;simp only at hE hC hF hl ⊢;have HX := Lib.hid hC;have C := Lib.hid (fun W (h : Below w.heap.size w W) => z87 W ae ce es (hE.old h) hF (hV.below h));have D : Hid (0 <= v -> v <= 1073741824 -> cs.length <= 16 -> (∀ (j : Nat) x, cs[j]? = some x -> cliB v x = true) -> (∀ (j : Nat) x y, cs[j]? = some x -> cs[j + 1]? = some y -> x.id < y.id) -> (z0m es).2 = 0 -> RgtM ⟨v, es, cs⟩) := Lib.hid (fun a b l ha ho d => ⟨a, b, ⟨l, fun x hx => by obtain ⟨j, hj⟩ := List.mem_iff_getElem?.1 hx; exact ha j x hj, zbt ho⟩, d⟩);have af : Hid (¬ 0 <= v -> ¬ RgtM ⟨v, es, cs⟩) := Lib.hid (fun h hr => h hr.lo);have ag : Hid (¬ v <= 1073741824 -> ¬ RgtM ⟨v, es, cs⟩) := Lib.hid (fun h hr => h hr.hi);have O : Hid (¬ cs.length <= 16 -> ¬ RgtM ⟨v, es, cs⟩) := Lib.hid (fun h hr => h hr.cs.len);have ah : Hid (∀ (k : Nat) x, cs[k]? = some x -> cliB v x = false -> ¬ RgtM ⟨v, es, cs⟩) := Lib.hid (fun k x hx hm hr => by have := hr.cs.ok x (List.mem_of_getElem? hx); simp only at this; rw [hm] at this; cases this);have ai : Hid (∀ (k : Nat) x y, cs[k]? = some x -> cs[k + 1]? = some y -> ¬ x.id < y.id -> ¬ RgtM ⟨v, es, cs⟩) := Lib.hid (fun k x y hx hy h hr => h (za2 hr.cs.srt hx hy (by omega)));have T : Hid (¬ (z0m es).2 = 0 -> ¬ RgtM ⟨v, es, cs⟩) := Lib.hid (fun h hr => h hr.es);obtain ⟨Le, E⟩ := nmd (es.length);obtain ⟨L, HL⟩ := nmd (cs.length);obtain ⟨qs, U⟩ := nmd ((⟨(z0m es).1.toArray⟩ : ByteArray));obtain ⟨qe, V⟩ := nmd ((z0m es).2)
 have az : L <= 100000 := by have := HL.out; omega
 rw [<- E.out, <- V.out] at C;rw [<- U.out] at C;rw [<- HL.out] at HX O D;rw [<- E.out, <- HL.out];rw [<- V.out] at T D;clear hE hC hF hV U E hl;obtain ⟨W1, F⟩ := nmd (w.alloc (.cells (mdC v (.slice ae Le ce) (.slice ac L cc)) 25));have aj : Hid (Below w.heap.size w W1) := Lib.hid (by rw [F.out]; exact z03 w _);have G : Hid (Row W1 w.heap.size 25 [.int .i64 v, .slice ae Le ce, .slice ac L cc]) := Lib.hid (by rw [F.out]; exact z02 w (mdC v (.slice ae Le ce) (.slice ac L cc)) _);have R := z02 w (mdC v (.slice ae Le ce) (.slice ac L cc)) 25;have c2 := R.c2;clear R
 go_enter Tryz.func13, Tryz.ntmps13
 go_wp2;rw [<- show W1 = w.alloc (.cells #[.int .i64 v, .slice ae Le ce, .slice ac L cc] 25) from F.out];clear c2
 go_loopw [10] (fun i wr => ∃ k : Nat, k <= L /\ i = .int .i64 k /\ Hid (Below W1.heap.size W1 wr) /\ Hid (∀ (j : Nat) x, j < k -> cs[j]? = some x -> cliB v x = true) /\ Hid (∀ (j : Nat) x y, j + 1 < k -> cs[j]? = some x -> cs[j + 1]? = some y -> x.id < y.id)) (fun i _ => L - (intOf i).toNat)
 case atStart => exact ⟨0, by omega, rfl, Lib.hid (Below.refl _ _), Lib.hid (fun j x h => by omega), Lib.hid (fun j x y h => by omega)⟩
 case round =>
  obtain ⟨k, hk, rfl, HB, HA, HO⟩ := hrel;have s := Lib.hid (z00 aj.out HB.out);have RM := G.out.below HB.out;have c0 := RM.c0;have c1 := RM.c1;have c2 := RM.c2;clear RM
  by_cases hlt : k < L
  ·obtain ⟨x, hx⟩ : ∃ x, cs[k]? = some x := ⟨_, List.getElem?_eq_getElem (by have := HL.out; omega)⟩
   have X := Lib.hid (HX.out.old s.out);obtain ⟨b, aA, rfl, Y, x0, x1, x2, x3⟩ := SlL.get X.out hx;have g := Lib.hid hx;have c := Lib.hid (z00 s.out (z03 wr (.cells (clC x) 32)));have t := Lib.hid (z00 HB.out (z03 wr (.cells (clC x) 32)))
   have H : Hid (cliB v x = true -> ∀ (j : Nat) y, j < k + 1 -> cs[j]? = some y -> cliB v y = true) := Lib.hid (fun hm j y hj hy => by
    rcases Nat.lt_or_eq_of_le (Nat.le_of_lt_succ hj) with h1 | rfl
    ·exact HA.out j y h1 hy
    ·rw [g.out] at hy
     obtain rfl := Option.some.inj hy
     exact hm)
   have f := Lib.hid (ah.out k x hx)
   have Z : b < (wr.alloc (.cells (clC x) 32)).heap.size := by rw [World.size_alloc]; have : b < wr.heap.size := Y; omega
   have R := z02 wr (clC x) 32;have d0 := R.c0;have d1 := R.c1;have d2 := R.c2;have d3 := R.c3;have I := G.out.below t.out;have e0 := I.c0;have e2 := I.c2;clear R I;have HM : Hid (cliB v x = (cntB x.id && cntB x.sq && decide (0 <= x.an) && decide (x.an <= 255) && decide (0 <= x.vr) && decide (x.vr <= v))) := Lib.hid rfl;have u := Lib.hid (z5l x.id);have A := Lib.hid (z5l x.sq);obtain ⟨p, HP⟩ := nmd (cntB x.id);obtain ⟨q, HQ⟩ := nmd (cntB x.sq);rw [<- HP.out, <- HQ.out] at HM;rw [<- HP.out] at u;rw [<- HQ.out] at A;clear HP HQ;obtain ⟨m, aa⟩ := nmd (cliB v x);rw [<- aa.out] at HM f H;clear aa hx;obtain ⟨xi, xq, xa, xv⟩ := x;simp only at x0 x1 x2 x3 d0 d1 d2 d3 e0 e2 HM u A c t Z
   go_wp2_with fail
   refine (u.out _).mono ?_;rintro e w1 ⟨rfl, rfl⟩;clear u
   cases p with
   | false =>
    have HF := Lib.hid (z2u (f.out (by rw [HM.out]; rfl)) c.out);go_wp2;go_ret;exact HF.out
   | true =>
    go_wp2_with fail
    refine (A.out _).mono ?_;rintro e w1 ⟨rfl, rfl⟩;clear A
    cases q with
    | false =>
     have HF := Lib.hid (z2u (f.out (by rw [HM.out]; rfl)) c.out);go_wp2;go_ret;exact HF.out
    | true =>
     by_cases h0 : xa < 0
     ·have HF := Lib.hid (z2u (f.out (by rw [HM.out]; simp; omega)) c.out)
      go_wp2;go_ret;exact HF.out
     ·by_cases h1 : 255 < xa
      ·have HF := Lib.hid (z2u (f.out (by rw [HM.out]; simp; omega)) c.out)
       go_wp2;go_ret;exact HF.out
      ·by_cases h2 : xv < 0
       ·have HF := Lib.hid (z2u (f.out (by rw [HM.out]; simp; omega)) c.out)
        go_wp2;go_ret;exact HF.out
       ·by_cases h3 : v < xv
        ·have HF := Lib.hid (z2u (f.out (by rw [HM.out]; simp; omega)) c.out)
         go_wp2;go_ret;exact HF.out
        ·have B := Lib.hid (H.out (by rw [HM.out]; simp; omega))
         clear HM f H
         by_cases hk0 : 0 < k
         ·obtain ⟨p, hp⟩ : ∃ p, cs[k - 1]? = some p := ⟨_, List.getElem?_eq_getElem (by have := HL.out; omega)⟩
          have n : Hid (cs[k - 1 + 1]? = some ⟨xi, xq, xa, xv⟩) := Lib.hid (by rw [show k - 1 + 1 = k by omega]; exact g.out);obtain ⟨b', ay, J, -, p0, -⟩ := SlL.get X.out hp
          injection J with J
          injection J with hb1 hb2
          subst hb1 hb2;have HP := Lib.hid hp;obtain ⟨q, HQ⟩ := nmd (k - 1);rw [<- HQ.out] at p0 HP n;have q1 : IntKind.i64.wrap ((k : Int) - 1) = (k : Int) - 1 := IntWalk.i64_in _ (by omega)
          have q2 : ((k : Int) - 1).toNat = q := by have := HQ.out; omega
          have q3 : (0 : Int) <= (k : Int) - 1 := by omega
          have aB : (1 : Int) <= (k : Int) := by omega
          have q4 : (k : Int) - 1 < (L : Int) := by omega
          have aC := (Below.cell (z03 wr (.cells #[.int .i64 xi, .int .i64 xq, .int .i64 xa, .int .i64 xv] 32)) (p := ⟨b, _, none⟩) Y).trans p0
          by_cases hid : p.id < xi
          ·have o : Hid (∀ (j : Nat) y z, j + 1 < k + 1 -> cs[j]? = some y -> cs[j + 1]? = some z -> y.id < z.id) := Lib.hid (fun j y z hj hy hz => by
            by_cases hjk : j + 1 < k
            ·exact HO.out j y z hjk hy hz
            ·obtain rfl : j = q := by have := HQ.out; omega
             rw [HP.out] at hy; rw [n.out] at hz
             obtain rfl := Option.some.inj hy;obtain rfl := Option.some.inj hz
             exact hid)
           clear g HP n hp x0 x1 x2 x3 c0 c1 c2;go_wp2
           go_quiet (fail)
           have M := Lib.hid (z0a t.out nq);go_wp2;go_roundw
           case rel => exact ⟨k + 1, by omega, by go_num, M, B, o⟩
           case measure => simp [intOf]; omega
          ·have aq := Lib.hid (ai.out q _ _ HP.out n.out (by first | exact hid | (show xi <= p.id; omega)))
           clear g HP n hp x0 x1 x2 x3 c0 c1 c2;go_wp2
           go_quiet (fail)
           have HF := Lib.hid (z2u aq.out (z0a c.out nq));go_wp2;go_ret;exact HF.out
         ·have aD : decide (0 < k) = false := decide_eq_false hk0
          have o : Hid (∀ (j : Nat) y z, j + 1 < k + 1 -> cs[j]? = some y -> cs[j + 1]? = some z -> y.id < z.id) := Lib.hid (fun j y z hj => by omega);clear g x0 x1 x2 x3 c0 c1 c2;go_wp2
          go_quiet (fail)
          have M := Lib.hid (z0a t.out nq);go_wp2;go_roundw
          case rel => exact ⟨k + 1, by omega, by go_num, M, B, o⟩
          case measure => simp [intOf]; omega
  ·obtain rfl : k = L := by omega
   have ar : Hid (∀ (j : Nat) y, cs[j]? = some y -> cliB v y = true) := Lib.hid (fun j y hy => HA.out j y (by have := (List.getElem?_eq_some_iff.1 hy).1; have := HL.out; omega) hy);have au : Hid (∀ (j : Nat) y z, cs[j]? = some y -> cs[j + 1]? = some z -> y.id < z.id) := Lib.hid (fun j y z hy hz => HO.out j y z (by have := (List.getElem?_eq_some_iff.1 hz).1; have := HL.out; omega) hy hz);have aw := Lib.hid (C.out wr s.out)
   go_wp2_with fail
   refine aw.out.mono ?_;rintro e w3 ⟨rfl, N⟩;have r := Lib.hid (z00 s.out N);have RM := G.out.below (z00 HB.out N);clear c0 c1 c2;have c0 := RM.c0;have c2 := RM.c2;clear N RM
   by_cases hv0 : 0 <= v
   ·by_cases hv1 : v <= 1073741824
    ·by_cases hl16 : (k : Int) <= 16
     ·by_cases hq : qe = 0
      ·have HF : Hid (RmP ⟨v, es, cs⟩ w (.returned (.bool true)) w3) := Lib.hid ⟨true, rfl, ⟨fun _ => D.out hv0 hv1 (by omega) ar.out au.out hq, fun _ => rfl⟩, r.out⟩
       have ax : (qe == 0) = true := by rw [beq_iff_eq]; exact hq
       clear hq;go_wp2;go_ret;exact HF.out
      ·have HF := Lib.hid (z2u (T.out hq) r.out)
       have ax : (qe == 0) = false := by rw [beq_eq_false_iff_ne]; exact hq
       clear hq;go_wp2;go_ret;exact HF.out
     ·have HF := Lib.hid (z2u (O.out (by omega)) r.out)
      have aE : decide ((k : Int) <= 16) = false := decide_eq_false hl16;go_wp2;go_ret;exact HF.out
    ·have HF := Lib.hid (z2u (ag.out (by omega)) r.out)
     go_wp2;go_ret;exact HF.out
   ·have HF := Lib.hid (z2u (af.out (by omega)) r.out)
    go_wp2;go_ret;exact HF.out
end Go.Proofs.YtdkkkeoicekdgaaGreatDoor.Md
