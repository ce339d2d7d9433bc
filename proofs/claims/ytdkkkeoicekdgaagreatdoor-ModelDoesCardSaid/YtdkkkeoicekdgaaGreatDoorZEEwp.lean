/- The document's one: a change that puts. -/
import Derived.Test.YtdkkkeoicekdgaaGreatDoorZEg51

namespace Go.Proofs.YtdkkkeoicekdgaaGreatDoor.Ca
set_option maxHeartbeats 12800000
set_option maxRecDepth 100000
open Go.Lib (hid)
open Go.RowKit Go.Proofs.YtdkkkeoicekdgaaGreatDoor
theorem one_p (w : World) (a : Option Addr) (cap : Nat) (l : List Ent) (c : Chg) (hX : SlE w (Old w) (.slice a l.length cap) l) (hr : Rgt l) (hF : FitE c.e) (hE : EnvC w) (hd : c.drop = false) (hm : mayB c.e = true) :
  Calls Tryz.prog 87 #[.slice a l.length cap, chV c] w (z18 (oneC l c) w) := by
 have t := z03 w (.cells (chC c) 83);have K0 : Hid (OK1 w w.heap.size c l a cap (w.alloc (.cells (chC c) 83))) := hid ⟨z02 w (chC c) 83, Sl.keep hX (fun b E => t.block b E) (fun _ h => h) (fun _ _ h => h), t, Nat.le_refl _⟩;have r0 := z02 w (chC c) 83;have d0 := r0.c0;have d1 := r0.c1;have d2 := r0.c2;have d3 := r0.c3;have aj := hid t;have V := hid hr;have X := hr.len;have H := hid (zdm (l := l) hd hm);have I := hid (zgt (l := l) hd hm);have HM := hid (zci c.e (w.alloc (.cells (chC c) 83)) (hE.below t) hF);rw [hm] at HM;have F := hid (fun W (hb : Below (w.alloc (.cells (chC c) 83)).heap.size (w.alloc (.cells (chC c) 83)) W) => at_any W a cap l c.e.loc c.e.key ((hX.old t).old hb));obtain ⟨L, HL⟩ := nmd (l.length);rw [<- HL.out] at F X ⊢;clear hX hr hF hE t r0 hm;obtain ⟨cd, xl, xk, xp⟩ := c;simp only at d0 d1 d2 d3 aj F HM K0 hd H I;subst hd
 go_enter Tryz.func87, Tryz.ntmps87
 go_wp2_with fail
 refine HM.out.mono ?_;rintro e w1 ⟨rfl, J⟩;have K1 := hid (K0.out.step J);have Y := hid (F.out w1 J);have b0 := K1.out.row.c0;have b1 := K1.out.row.c1;have b2 := K1.out.row.c2;have b3 := K1.out.row.c3;clear J d0 d1 d2 d3 F HM K0
 go_wp2_with fail
 refine Y.out.mono ?_;rintro e w2 ⟨i0, rfl, hi, E⟩;have K2 := hid (K1.out.step E);have aq := hid (atIs (x := ⟨xl, xk, xp⟩) V.out.srt (AtP.yes V.out.srt hi));clear E b0 b1 b2 b3 Y hi K1;have b0 := K2.out.row.c0;have Z : Hid (Own (w2.alloc (.cells #[] 81)) w2.heap.size (.slice (some ⟨w2.heap.size, 0, none⟩) 0 0) []) := hid (World.ownsRow_made w2 #[] 0 (Nat.le_refl _) (Nat.zero_le _) (by simp));have K3 := hid (K2.out.step (z03 w2 (.cells #[] 81)))
 have aa : w2.heap.size <= (w2.alloc (.cells #[] 81)).heap.size := by rw [World.size_alloc]; omega
 have u : w.heap.size < w2.heap.size := K2.out.row.lt;have z : w.heap.size <= w2.heap.size := K2.out.below.size;obtain ⟨B, af⟩ := nmd (w2.heap.size);rw [<- af.out] at Z aa u z;have KC := K3.out.row;have e0 := KC.c0;have e1 := KC.c1;have e2 := KC.c2;have e3 := KC.c3;clear KC;go_wp2;rw [<- af.out]
 generalize w2.alloc (.cells #[] 81) = w3 at *
 clear e0 e1 e2 e3 b0
 go_loopw [7, 8, 49] (fun v pu i wr => ∃ k : Nat, k <= L /\ i = .int .i64 k /\ ∃ (out : List Ent) (b : Bool), pu = .bool b /\ out.length <= 2 * k /\ Hid (Own wr B v out) /\ Hid (out ++ restF ⟨xl, xk, xp⟩ i0 b (l.drop k) k = putC ⟨xl, xk, xp⟩ l) /\ Hid (OK1 w w.heap.size ⟨false, xl, xk, xp⟩ l a cap wr) /\ Hid (B <= wr.heap.size)) (fun _ _ i _ => L - (intOf i).toNat)
 case atStart => exact ⟨0, Nat.zero_le _, rfl, [], false, rfl, by simp, Z, hid (by rw [List.nil_append, List.drop_zero]; exact z84 aq.out), K3, hid aa⟩
 case round =>
  obtain ⟨k, hk, rfl, out, b, rfl, aC, HO, o, HK, ag⟩ := hrel
  by_cases hlt : k < L
  ·obtain ⟨y, hy⟩ : ∃ y, l[k]? = some y := ⟨_, List.getElem?_eq_getElem (by have := HL.out; omega)⟩
   obtain ⟨g, ar, rfl, -, y0, y1, y2⟩ := HK.out.sl.get hy;have HY := hid hy;have M := z03 wr (.cells (enC y) 81);have K5 := hid (HK.out.step M);have A := hid (z0n HO.out M);have R5 := z02 wr (enC y) 81;have G := hid R5;have f0 := R5.c0;have f1 := R5.c1;have f2 := R5.c2;have c0 := K5.out.row.c0;have c1 := K5.out.row.c1;have c2 := K5.out.row.c2;have c3 := K5.out.row.c3
   have C : B <= (wr.alloc (.cells (enC y) 81)).heap.size := by rw [World.size_alloc]; have := ag.out; omega
   have au : wr.heap.size < (wr.alloc (.cells (enC y) 81)).heap.size := by rw [World.size_alloc]; omega
   have aw : ∀ g9, (wr.alloc (.cells (enC y) 81)).heap.size <= g9 -> True := fun _ _ => trivial
   have ah : ∀ v : Value, Own wr B v out -> v.ownBlock ≠ some wr.heap.size := fun v ho e => by have := (ho.lt _ e).2; omega
   have ai := hid (ah _ HO.out);clear hy M R5 aw ah
   by_cases hki : (k : Int) = i0
   ·have m : Hid (out ++ restF ⟨xl, xk, xp⟩ i0 b (l.drop (k + 1)) (k + 1) = putC ⟨xl, xk, xp⟩ l) := hid (by rw [<- zac HY.out hki]; exact o.out)
    have ax : ((k : Int) == i0) = true := by rw [beq_iff_eq]; exact hki
    have aD := hid hki;clear hki;obtain ⟨yl, yk, yp⟩ := y;simp only at y0 y1 y2 f0 f1 f2 K5 A C;go_wp2;go_roundw
    case rel => exact ⟨k + 1, by omega, by go_num, out, b, rfl, by omega, A, m, K5, hid C⟩
    case measure => simp [intOf]; omega
   ·have ax : ((k : Int) == i0) = false := by rw [beq_eq_false_iff_ne]; exact hki
    cases b with
    | true =>
     have m : Hid ((out ++ [y]) ++ restF ⟨xl, xk, xp⟩ i0 true (l.drop (k + 1)) (k + 1) = putC ⟨xl, xk, xp⟩ l) := hid (by rw [List.append_assoc, List.singleton_append, <- z8u HY.out hki (.inl rfl)]; exact o.out);obtain ⟨v7, w7, n, p, K7, N, -⟩ := z63 K5.out A.out z u C (by omega) y;clear hki o;obtain ⟨yl, yk, yp⟩ := y;simp only [World.size_alloc] at y0 y1 y2 f0 f1 f2 n p m
     go_wp2_with (at_builtin; refine z0x ?_)
     refine hid ?_;refine Lib.wpList_append_run _ rfl (.tmp 70) (.tmp 72) 22 22 rfl _ (.slice (some ⟨_, 0, none⟩) 1 1) ?hs ?hx _ _ n.out ?_
     case hs => rfl
     case hx => rfl
     go_wp2;go_roundw
     case rel => exact ⟨k + 1, by omega, by go_num, _, true, rfl, by rw [List.length_append, List.length_singleton]; omega, p, m, K7, hid (by omega)⟩
     case measure => simp [intOf]; omega
    | false =>
     have q := hid (zbi ⟨xl, xk, xp⟩ y (wr.alloc (.cells (enC y) 81)))
     cases hah : ahB ⟨xl, xk, xp⟩ y with
     | true =>
      have m : Hid ((out ++ [⟨xl, xk, xp⟩] ++ [y]) ++ restF ⟨xl, xk, xp⟩ i0 true (l.drop (k + 1)) (k + 1) = putC ⟨xl, xk, xp⟩ l) := hid (by rw [List.append_assoc, List.append_assoc, List.singleton_append, List.singleton_append, <- zgd HY.out hki hah]; exact o.out);rw [hah] at q;clear hki o hah;have r := hid (fun w6 (hb : Below (wr.alloc (.cells (enC y) 81)).heap.size (wr.alloc (.cells (enC y) 81)) w6) => z63 (K5.out.step hb) (z0n A.out hb) z u (Nat.le_trans C hb.size) (by omega) (⟨xl, xk, xp⟩ : Ent));have O := hid (fun w7 (v7 : Value) (k7 : Hid (OK1 w w.heap.size ⟨false, xl, xk, xp⟩ l (some ⟨g, ar, none⟩) cap w7)) (o7 : Hid (Own w7 B v7 (out ++ [⟨xl, xk, xp⟩]))) (h7 : B <= w7.heap.size) => z63 k7.out o7.out z u h7 (by rw [List.length_append, List.length_singleton]; omega) y);obtain ⟨yl, yk, yp⟩ := y;simp only at y0 y1 y2 f0 f1 f2 q r m O G ai
      go_wp2_with fail
      refine q.out.mono ?_;rintro e w6 ⟨rfl, f⟩;obtain ⟨v7, w7, n, p, K7, N, ay⟩ := r.out w6 f;have K6 := hid (K5.out.step f);have c1 := K6.out.row.c1;have c2 := K6.out.row.c2;have c3 := K6.out.row.c3;have aE : wr.heap.size < w6.heap.size := Nat.lt_of_lt_of_le au f.size;have R7 : Row w7 wr.heap.size 81 [.string yl, .string yk, .string yp] := ((G.out.below f).alloc (.cells #[.string xl, .string xk, .string xp] 81)).keep (ay.out wr.heap.size (by omega) ai.out);have g0 := R7.c0;have g1 := R7.c1;have g2 := R7.c2
      have R : B <= w7.heap.size := by have := f.size; omega
      obtain ⟨v8, w8, az, aA, K8, aF, -⟩ := O.out w7 v7 K7 p R;clear f R7 q r O f0 f1 f2 c0
      go_wp2_with (at_builtin; refine z0x ?_)
      refine hid ?_;refine Lib.wpList_append_run _ rfl (.tmp 65) (.tmp 68) 22 22 rfl _ (.slice (some ⟨_, 0, none⟩) 1 1) ?hs ?hx _ _ n.out ?_
      case hs => rfl
      case hx => rfl
      go_wp2_with (at_builtin; refine z0x ?_)
      refine hid ?_;refine Lib.wpList_append_run _ rfl (.tmp 70) (.tmp 72) 22 22 rfl _ (.slice (some ⟨_, 0, none⟩) 1 1) ?hs ?hx _ _ az.out ?_
      case hs => rfl
      case hx => rfl
      go_wp2;go_roundw
      case rel => exact ⟨k + 1, by omega, by go_num, _, true, rfl, by simp only [List.length_append, List.length_singleton]; omega, aA, m, K8, hid (by omega)⟩
      case measure => simp [intOf]; omega
     | false =>
      have m : Hid ((out ++ [y]) ++ restF ⟨xl, xk, xp⟩ i0 false (l.drop (k + 1)) (k + 1) = putC ⟨xl, xk, xp⟩ l) := hid (by rw [List.append_assoc, List.singleton_append, <- z8u HY.out hki (.inr hah)]; exact o.out);rw [hah] at q;clear hki o hah;have r := hid (fun w6 (hb : Below (wr.alloc (.cells (enC y) 81)).heap.size (wr.alloc (.cells (enC y) 81)) w6) => z63 (K5.out.step hb) (z0n A.out hb) z u (Nat.le_trans C hb.size) (by omega) y);obtain ⟨yl, yk, yp⟩ := y;simp only at y0 y1 y2 f0 f1 f2 q r m G
      go_wp2_with fail
      refine q.out.mono ?_;rintro e w6 ⟨rfl, f⟩;obtain ⟨v7, w7, n, p, K7, N, -⟩ := r.out w6 f;have R6 := G.out.below f;have g0 := R6.c0;have g1 := R6.c1;have g2 := R6.c2
      have R : B <= w7.heap.size := by have := f.size; omega
      clear f R6 q r f0 f1 f2 c0 c1 c2 c3
      go_wp2_with (at_builtin; refine z0x ?_)
      refine hid ?_;refine Lib.wpList_append_run _ rfl (.tmp 70) (.tmp 72) 22 22 rfl _ (.slice (some ⟨_, 0, none⟩) 1 1) ?hs ?hx _ _ n.out ?_
      case hs => rfl
      case hx => rfl
      go_wp2;go_roundw
      case rel => exact ⟨k + 1, by omega, by go_num, _, false, rfl, by rw [List.length_append, List.length_singleton]; omega, p, m, K7, hid R⟩
      case measure => simp [intOf]; omega
  ·have s := zdc (x := ⟨xl, xk, xp⟩) (at_ := i0) (put := b) (l := l) (k := k) (by have := HL.out; omega)
   cases b with
   | true =>
    have j : Hid (out = putC ⟨xl, xk, xp⟩ l) := hid (by have := o.out; rw [s] at this; simpa using this);obtain ⟨a9, c9, T, aB, -⟩ := z0j HO.out;subst T;have D := hid HO.out.sl;obtain ⟨n9, d⟩ := nmd (out.length);rw [<- d.out] at D;clear s
    by_cases hn : 200 < n9
    ·have U : (200 : Int) < n9 := by omega
     have HA := hid (H.out (by rw [<- j.out, <- d.out]; exact hn));clear hn;rw [<- d.out];go_wp2
     go_ret2
     exact z18.no HA.out HK.out.below
    ·have U : ¬ (200 : Int) < n9 := by omega
     have HA := hid (I.out (by rw [<- j.out, <- d.out]; exact hn));clear hn;rw [<- d.out];go_wp2
     go_ret2
     rw [d.out];exact z18.yes (by rw [HA.out, j.out]) (by rw [<- d.out]; exact D.out) HK.out.below
   | false =>
    have j : Hid (out ++ [⟨xl, xk, xp⟩] = putC ⟨xl, xk, xp⟩ l) := hid (by have := o.out; rw [s] at this; simpa using this);obtain ⟨v7, w7, n, p, K7, N, -⟩ := z63 HK.out HO.out z u ag.out (by omega) (⟨xl, xk, xp⟩ : Ent);obtain ⟨a9, c9, T, aB, -⟩ := z0j p.out;subst T;have D := hid p.out.sl;obtain ⟨n9, d⟩ := nmd ((out ++ [⟨xl, xk, xp⟩] : List Ent).length);rw [<- d.out] at D n;have c1 := HK.out.row.c1;have c2 := HK.out.row.c2;have c3 := HK.out.row.c3;clear s
    by_cases hn : 200 < n9
    ·have U : (200 : Int) < n9 := by omega
     have HA := hid (H.out (by rw [<- j.out, <- d.out]; exact hn));clear hn
     go_wp2_with (at_builtin; refine z0x ?_)
     refine hid ?_;refine Lib.wpList_append_run _ rfl (.tmp 77) (.tmp 80) 22 22 rfl _ (.slice (some ⟨_, 0, none⟩) 1 1) ?hs ?hx _ _ n.out ?_
     case hs => rfl
     case hx => rfl
     go_wp2
     go_ret2
     exact z18.no HA.out K7.out.below
    ·have U : ¬ (200 : Int) < n9 := by omega
     have HA := hid (I.out (by rw [<- j.out, <- d.out]; exact hn));clear hn
     go_wp2_with (at_builtin; refine z0x ?_)
     refine hid ?_;refine Lib.wpList_append_run _ rfl (.tmp 77) (.tmp 80) 22 22 rfl _ (.slice (some ⟨_, 0, none⟩) 1 1) ?hs ?hx _ _ n.out ?_
     case hs => rfl
     case hx => rfl
     go_wp2
     go_ret2
     rw [d.out];exact z18.yes (by rw [HA.out, j.out]) (by rw [<- d.out]; exact D.out) K7.out.below
theorem rone_any (w : World) (a : Option Addr) (cap : Nat) (l : List Ent) (c : Chg) (hX : SlE w (Old w) (.slice a l.length cap) l) (hr : Rgt l) (hF : FitE c.e) (hE : EnvC w) :
  Calls Tryz.prog 87 #[.slice a l.length cap, chV c] w (z18 (oneC l c) w) := by
 cases hd : c.drop with
 | true =>
  by_cases hp : c.e.pat = ⟨#[]⟩
  ·exact one_d w a cap l c hX hr hF hE hd hp
  ·exact one_a w a cap l c hX hr hF hE hd hp
 | false =>
  cases hm : mayB c.e with
  | true => exact one_p w a cap l c hX hr hF hE hd hm
  | false => exact one_b w a cap l c hX hr hF hE hd hm
end Go.Proofs.YtdkkkeoicekdgaaGreatDoor.Ca
