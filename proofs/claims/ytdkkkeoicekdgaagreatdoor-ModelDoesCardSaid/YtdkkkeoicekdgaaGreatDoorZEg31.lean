/- Package catalog: a list's search, place, find. -/
import Derived.Lib.Overlaps
import Derived.Test.YtdkkkeoicekdgaaGreatDoorZEg5

section

namespace Go.Proofs.YtdkkkeoicekdgaaGreatDoor.Ca
set_option maxHeartbeats 6400000
set_option maxRecDepth 100000
open Go.Lib (hid)
open Go.RowKit Go.Proofs.YtdkkkeoicekdgaaGreatDoor
theorem zf7 (w : World) (a : Option Addr) (cap : Nat) (xs : List Ent) (x : Ent) (hX : SlE w (Old w) (.slice a xs.length cap) xs) (hs : Srt xs) (hl1 : xs.length <= 1000000) :
  Calls Tryz.prog 252 #[.slice a xs.length cap, enV x, cmpFn] w fun e w' => e = .returned (.tuple #[.int .i64 (posE x xs : Nat), .bool (fndE x xs)]) /\ Below w.heap.size w w' := by
 have HX := hid hX;have G := hid hs;have o := z8z x xs;obtain ⟨L, HL⟩ := nmd (xs.length);obtain ⟨p, HP⟩ := nmd (posE x xs);obtain ⟨fb, t⟩ := nmd (fndE x xs);rw [<- HL.out, <- HP.out] at o;rw [<- HL.out] at HX hl1 ⊢;rw [<- HP.out, <- t.out];have s := z02 w (enC x) 81;have k : Hid (Row (w.alloc (.cells (enC x) 81)) w.heap.size 81 [.string x.loc, .string x.key, .string x.pat]) := hid s;have u := hid (z03 w (.cells (enC x) 81))
 have O : w.heap.size < (w.alloc (.cells (enC x) 81)).heap.size := by simp
 have D := hid (HX.out.old u.out);clear hX hs s
 go_enter Tryz.func252, Tryz.ntmps252
 go_wp2
 generalize hW1 : w.alloc (.cells (enC x) 81) = W1 at *
 clear hW1
 go_loopw [9, 10] (fun l h wr => ∃ lo hi : Nat, lo <= p /\ p <= hi /\ hi <= L /\ l = .int .i64 lo /\ h = .int .i64 hi /\ Hid (Below W1.heap.size W1 wr)) (fun l h _ => (intOf h).toNat - (intOf l).toNat)
 case atStart => exact ⟨0, L, by omega, o, by omega, rfl, rfl, hid (Below.refl _ _)⟩
 case round =>
  obtain ⟨lo, hi, h1, h2, h3, rfl, rfl, HB⟩ := hrel
  by_cases hlt : lo < hi
  ·obtain ⟨m, hm⟩ : ∃ m : Nat, m = (lo + hi) / 2 := ⟨_, rfl⟩
   have R : ((lo : Int) + (hi : Int)) / 2 = (m : Int) := by omega
   have H : m < hi := by omega
   have T : lo <= m := by omega
   have I : (m : Int) < (L : Int) := by omega
   have U : (m : Int).toNat = m := by omega
   clear hm;obtain ⟨y, hy⟩ : ∃ y, xs[m]? = some y := ⟨_, List.getElem?_eq_getElem (by have := HL.out; omega)⟩;have v := hid (D.out.old HB.out);have f := hid (k.out.below HB.out);obtain ⟨b, d, rfl, g, y0, y1, y2⟩ := v.out.get hy;have b0 := f.out.c0;have b1 := f.out.c1;have b2 := f.out.c2;have i : w.heap.size < wr.heap.size := f.out.lt;have HC := hid (fun W => z4y y x W);have j := hid (zcy y x);have n := hid (cmpE_0 y x);have HY := hid hy;obtain ⟨c, z⟩ := nmd (cmpE y x);rw [<- z.out] at HC j n;obtain ⟨xl, xk, xp⟩ := x;obtain ⟨yl, yk, yp⟩ := y;simp only at b0 b1 b2 y0 y1 y2 HC j n k f
   have HD : Hid (∀ W, Hid (Below wr.heap.size wr W) -> (W.cell? ⟨w.heap.size, 0, none⟩ = some (.string xl) /\ W.cell? ⟨w.heap.size, 1, none⟩ = some (.string xk) /\ W.cell? ⟨w.heap.size, 2, none⟩ = some (.string xp) /\ W.cell? ⟨b, d + m * 3, none⟩ = some (.string yl) /\ W.cell? ⟨b, d + m * 3 + 1, none⟩ = some (.string yk) /\ W.cell? ⟨b, d + m * 3 + 2, none⟩ = some (.string yp))) := hid (fun W h =>
    ⟨(h.out.cell (p := ⟨w.heap.size, 0, none⟩) i).trans b0, (h.out.cell (p := ⟨w.heap.size, 1, none⟩) i).trans b1, (h.out.cell (p := ⟨w.heap.size, 2, none⟩) i).trans b2, (h.out.cell (p := ⟨b, _, none⟩) g).trans y0, (h.out.cell (p := ⟨b, _, none⟩) g).trans y1, (h.out.cell (p := ⟨b, _, none⟩) g).trans y2⟩)
   have r : Hid (∀ W, Hid (Below wr.heap.size wr W) -> Calls Tryz.prog 155 #[.agg #[.string yl, .string yk, .string yp], .agg #[.string xl, .string xk, .string xp]] W fun e w' => e = .returned (.int .i64 c) /\ (w'.cell? ⟨w.heap.size, 0, none⟩ = some (.string xl) /\ w'.cell? ⟨w.heap.size, 1, none⟩ = some (.string xk) /\ w'.cell? ⟨w.heap.size, 2, none⟩ = some (.string xp) /\ w'.cell? ⟨b, d + m * 3, none⟩ = some (.string yl) /\ w'.cell? ⟨b, d + m * 3 + 1, none⟩ = some (.string yk) /\ w'.cell? ⟨b, d + m * 3 + 2, none⟩ = some (.string yp)) /\ Hid (Below wr.heap.size wr w')) :=
    hid (fun W h => (HC.out W).mono fun e w' ⟨he, hb⟩ => ⟨he, HD.out w' (hid (z00 h.out hb)), hid (z00 h.out hb)⟩)
   have A : Hid (Below wr.heap.size wr wr.drew) := hid (Below.refl _ _).drew;have dd := HD.out _ A;clear y0 y1 y2 b0 b1 b2 hy
   cases hah : ahB ⟨yl, yk, yp⟩ ⟨xl, xk, xp⟩ with
   | true =>
    have J : c < 0 := by have h1 := j.out; rw [hah] at h1; exact of_decide_eq_true h1
    have E : m < p := by have := z98 G.out HY.out hah; have := HP.out; omega
    clear hah;go_wp2
    go_region_held3 (fun W => W.cell? ⟨w.heap.size, 0, none⟩ = some (.string xl) /\ W.cell? ⟨w.heap.size, 1, none⟩ = some (.string xk) /\ W.cell? ⟨w.heap.size, 2, none⟩ = some (.string xp) /\ W.cell? ⟨b, d + m * 3, none⟩ = some (.string yl) /\ W.cell? ⟨b, d + m * 3 + 1, none⟩ = some (.string yk) /\ W.cell? ⟨b, d + m * 3 + 2, none⟩ = some (.string yp)) (first | go_keep | assumption)
     (first | (go_at_call 155; refine (r.out _ ?_).mono ?_; assumption; rintro e U1 ⟨rfl, F, q⟩) | fail)
    have B := hid (z00 HB.out q.out);go_wp2;go_roundw
    case rel => exact ⟨m + 1, hi, by omega, h2, h3, by go_num, rfl, B⟩
    case measure => simp [intOf]; omega
   | false =>
    have J : ¬ c < 0 := by have h1 := j.out; rw [hah] at h1; exact of_decide_eq_false h1
    have N : 0 <= c := by omega
    have E : p <= m := by have := z7e HY.out hah; have := HP.out; omega
    clear hah;go_wp2
    go_region_held3 (fun W => W.cell? ⟨w.heap.size, 0, none⟩ = some (.string xl) /\ W.cell? ⟨w.heap.size, 1, none⟩ = some (.string xk) /\ W.cell? ⟨w.heap.size, 2, none⟩ = some (.string xp) /\ W.cell? ⟨b, d + m * 3, none⟩ = some (.string yl) /\ W.cell? ⟨b, d + m * 3 + 1, none⟩ = some (.string yk) /\ W.cell? ⟨b, d + m * 3 + 2, none⟩ = some (.string yp)) (first | go_keep | assumption)
     (first | (go_at_call 155; refine (r.out _ ?_).mono ?_; assumption; rintro e U1 ⟨rfl, F, q⟩) | fail)
    have B := hid (z00 HB.out q.out);go_wp2;go_roundw
    case rel => exact ⟨lo, m, h1, E, by omega, rfl, rfl, B⟩
    case measure => simp [intOf]; omega
  ·obtain rfl : lo = hi := by omega
   obtain rfl : p = lo := by omega
   by_cases hn : p < L
   ·obtain ⟨m, hm⟩ : ∃ m : Nat, Hid (m = p) := ⟨_, hid rfl⟩
    have I : (m : Int) < (L : Int) := by have := hm.out; omega
    have H : m < L := by have := hm.out; omega
    rw [<- hm.out];obtain ⟨y, hy⟩ : ∃ y, xs[m]? = some y := ⟨_, List.getElem?_eq_getElem (by have := HL.out; omega)⟩;have v := hid (D.out.old HB.out);have f := hid (k.out.below HB.out);obtain ⟨b, d, rfl, g, y0, y1, y2⟩ := v.out.get hy;have b0 := f.out.c0;have b1 := f.out.c1;have b2 := f.out.c2;have i : w.heap.size < wr.heap.size := f.out.lt;have HC := hid (fun W => z4y y x W);have j := hid (zcy y x);have n := hid (cmpE_0 y x);have HY := hid hy;obtain ⟨c, z⟩ := nmd (cmpE y x);rw [<- z.out] at HC j n;obtain ⟨xl, xk, xp⟩ := x;obtain ⟨yl, yk, yp⟩ := y;simp only at b0 b1 b2 y0 y1 y2 HC j n k f
    have HD : Hid (∀ W, Hid (Below wr.heap.size wr W) -> (W.cell? ⟨w.heap.size, 0, none⟩ = some (.string xl) /\ W.cell? ⟨w.heap.size, 1, none⟩ = some (.string xk) /\ W.cell? ⟨w.heap.size, 2, none⟩ = some (.string xp) /\ W.cell? ⟨b, d + m * 3, none⟩ = some (.string yl) /\ W.cell? ⟨b, d + m * 3 + 1, none⟩ = some (.string yk) /\ W.cell? ⟨b, d + m * 3 + 2, none⟩ = some (.string yp))) := hid (fun W h =>
     ⟨(h.out.cell (p := ⟨w.heap.size, 0, none⟩) i).trans b0, (h.out.cell (p := ⟨w.heap.size, 1, none⟩) i).trans b1, (h.out.cell (p := ⟨w.heap.size, 2, none⟩) i).trans b2, (h.out.cell (p := ⟨b, _, none⟩) g).trans y0, (h.out.cell (p := ⟨b, _, none⟩) g).trans y1, (h.out.cell (p := ⟨b, _, none⟩) g).trans y2⟩)
    have r : Hid (∀ W, Hid (Below wr.heap.size wr W) -> Calls Tryz.prog 155 #[.agg #[.string yl, .string yk, .string yp], .agg #[.string xl, .string xk, .string xp]] W fun e w' => e = .returned (.int .i64 c) /\ (w'.cell? ⟨w.heap.size, 0, none⟩ = some (.string xl) /\ w'.cell? ⟨w.heap.size, 1, none⟩ = some (.string xk) /\ w'.cell? ⟨w.heap.size, 2, none⟩ = some (.string xp) /\ w'.cell? ⟨b, d + m * 3, none⟩ = some (.string yl) /\ w'.cell? ⟨b, d + m * 3 + 1, none⟩ = some (.string yk) /\ w'.cell? ⟨b, d + m * 3 + 2, none⟩ = some (.string yp)) /\ Hid (Below wr.heap.size wr w')) :=
     hid (fun W h => (HC.out W).mono fun e w' ⟨he, hb⟩ => ⟨he, HD.out w' (hid (z00 h.out hb)), hid (z00 h.out hb)⟩)
    have A : Hid (Below wr.heap.size wr wr.drew) := hid (Below.refl _ _).drew;have dd := HD.out _ A;clear y0 y1 y2 b0 b1 b2 hy
    have C : Hid (fb = (c == 0)) := hid (by
     rw [t.out]; unfold fndE; rw [<- HP.out, <- hm.out, HY.out]; exact n.out.symm)
    clear hn h1 h2 hlt o;go_wp2
    go_region_held3 (fun W => W.cell? ⟨w.heap.size, 0, none⟩ = some (.string xl) /\ W.cell? ⟨w.heap.size, 1, none⟩ = some (.string xk) /\ W.cell? ⟨w.heap.size, 2, none⟩ = some (.string xp) /\ W.cell? ⟨b, d + m * 3, none⟩ = some (.string yl) /\ W.cell? ⟨b, d + m * 3 + 1, none⟩ = some (.string yk) /\ W.cell? ⟨b, d + m * 3 + 2, none⟩ = some (.string yp)) (first | go_keep | assumption)
     (first | (go_at_call 155; refine (r.out _ ?_).mono ?_; assumption; rintro e U1 ⟨rfl, F, q⟩) | fail)
    go_wp2
    go_ret2
    exact ⟨by rw [C.out, <- hm.out]; rfl, z00 u.out (z00 HB.out q.out)⟩
   ·have C : Hid (fb = false) := hid (by rw [t.out]; unfold fndE; rw [<- HP.out, List.getElem?_eq_none (by have := HL.out; omega)])
    have M : p = L := by omega
    have V : ¬ (p : Int) < (L : Int) := by omega
    have X : decide (p < L) = false := decide_eq_false hn;clear hlt hn h1 h2 h3 M;go_wp2
    go_quiet (fail)
    go_wp2
    go_ret2
    exact ⟨by rw [C.out]; rfl, z00 u.out (z0a HB.out _)⟩
theorem zah (w : World) (S : Nat) (a : Option Addr) (cap : Nat) (xs : List Ent) (x : Ent) (hS : Row w S 172 [.slice a xs.length cap, cmpFn]) (hX : SlE w (Old w) (.slice a xs.length cap) xs) (hs : Srt xs) (hl1 : xs.length <= 1000000) :
  Calls Tryz.prog 224 #[.pointer (some ⟨S, 0, none⟩), enV x] w fun e w' => e = .returned (.tuple #[.int .i64 (posE x xs : Nat), .bool (fndE x xs)]) /\ Below w.heap.size w w' := by
 have b := z03 w (.cells (enC x) 81);have r0 := z02 w (enC x) 81;have rS := hS.below b;have f := hid b;have d0 := r0.c0;have d1 := r0.c1;have d2 := r0.c2;have s0 := rS.c0;have s1 := rS.c1;have HC := hid (fun W (hb : Below (w.alloc (.cells (enC x) 81)).heap.size (w.alloc (.cells (enC x) 81)) W) => zf7 W a cap xs x ((hX.old b).old hb) hs hl1);obtain ⟨p, HP⟩ := nmd (posE x xs);obtain ⟨fb, g⟩ := nmd (fndE x xs);rw [<- HP.out, <- g.out] at HC ⊢;have c : w.heap.size < (w.alloc (.cells (enC x) 81)).heap.size := r0.lt;have d : S < (w.alloc (.cells (enC x) 81)).heap.size := rS.lt;clear hX hs hl1 hS b r0 rS
 generalize xs.length = L at *
 obtain ⟨xl, xk, xp⟩ := x;simp only at d0 d1 d2 s0 s1 f HC c d
 go_enter Tryz.func224, Tryz.ntmps224
 go_wp2
 generalize w.alloc (.cells #[.string xl, .string xk, .string xp] 81) = W1 at *
 have HD : Hid (∀ W, Hid (Below W1.heap.size W1 W) -> (W.cell? ⟨w.heap.size, 0, none⟩ = some (.string xl) /\ W.cell? ⟨w.heap.size, 1, none⟩ = some (.string xk) /\ W.cell? ⟨w.heap.size, 2, none⟩ = some (.string xp) /\ W.cell? ⟨S, 0, none⟩ = some (.slice a L cap) /\ W.cell? ⟨S, 1, none⟩ = some cmpFn)) := hid (fun W h => ⟨(h.out.cell c).trans d0, (h.out.cell c).trans d1, (h.out.cell c).trans d2, (h.out.cell d).trans s0, (h.out.cell d).trans s1⟩);have i : Hid (∀ W, Hid (Below W1.heap.size W1 W) -> Calls Tryz.prog 252 #[.slice a L cap, .agg #[.string xl, .string xk, .string xp], cmpFn] W fun e w' => e = .returned (.tuple #[.int .i64 p, .bool fb]) /\ (w'.cell? ⟨w.heap.size, 0, none⟩ = some (.string xl) /\ w'.cell? ⟨w.heap.size, 1, none⟩ = some (.string xk) /\ w'.cell? ⟨w.heap.size, 2, none⟩ = some (.string xp) /\ w'.cell? ⟨S, 0, none⟩ = some (.slice a L cap) /\ w'.cell? ⟨S, 1, none⟩ = some cmpFn) /\ Hid (Below W1.heap.size W1 w')) := hid (fun W h => (HC.out W h.out).mono fun e w' ⟨he, hb⟩ => ⟨he, HD.out w' (hid (z00 h.out hb)), hid (z00 h.out hb)⟩);have j : Hid (Below W1.heap.size W1 W1.drew) := hid (Below.refl _ _).drew;have dd := HD.out _ j;clear d0 d1 d2 s0 s1 HC
 go_region_held3 (fun W => W.cell? ⟨w.heap.size, 0, none⟩ = some (.string xl) /\ W.cell? ⟨w.heap.size, 1, none⟩ = some (.string xk) /\ W.cell? ⟨w.heap.size, 2, none⟩ = some (.string xp) /\ W.cell? ⟨S, 0, none⟩ = some (.slice a L cap) /\ W.cell? ⟨S, 1, none⟩ = some cmpFn) (first | go_keep | assumption)
  (first | (go_at_call 252; refine (i.out _ ?_).mono ?_; assumption; rintro e U1 ⟨rfl, l, k⟩) | fail)
 all_goals go_wp2
 all_goals go_ret2
 all_goals exact ⟨rfl, z00 f.out k.out⟩

set_option maxHeartbeats 1600000
abbrev noE : Ent := ⟨⟨#[]⟩, ⟨#[]⟩, ⟨#[]⟩⟩
def setA (cur : Array Value) : Nat -> List Value -> Array Value
 | _, [] => cur
 | o, v :: r => setA (cur.setIfInBounds o v) (o + 1) r
theorem z0y : ∀ (vs : List Value) (o : Nat) (cur : Array Value), (setA cur o vs).size = cur.size
 | [], _, _ => rfl
 | v :: r, o, cur => by rw [setA, z0y r, Array.size_setIfInBounds]
theorem z1o : ∀ (vs : List Value) (o : Nat) (cur : Array Value), o + vs.length <= cur.size -> (setA cur o vs).toList = cur.toList.take o ++ vs ++ cur.toList.drop (o + vs.length)
 | [], o, cur, _ => by rw [setA]; simp
 | v :: r, o, cur, h => by
  simp only [List.length_cons] at h;rw [setA, z1o r (o + 1) _ (by rw [Array.size_setIfInBounds]; omega), Array.toList_setIfInBounds]
  have hl : o < cur.toList.length := by simp; omega
  have h1 : (cur.toList.set o v).take (o + 1) = cur.toList.take o ++ [v] := by
   rw [List.take_add_one, List.take_set_of_le (Nat.le_refl _)]
   congr 1
   rw [List.getElem?_set_self hl]; rfl
  have h2 : (cur.toList.set o v).drop (o + 1 + r.length) = cur.toList.drop (o + (r.length + 1)) := by
   rw [List.drop_set_of_lt (by omega)]; congr 1; omega
  rw [h1, h2, List.length_cons]
  simp
theorem z0v (g : Nat) : ∀ (vs : List Value) (o : Nat) (w : World) (cur : Array Value) (e : TypeId) (z : Nat × Nat), w.heap[g]? = some (.cells cur e z) -> (w.setCells g o vs).heap[g]? = some (.cells (setA cur o vs) e z)
 | [], _, _, _, _, _, h => h
 | v :: r, o, w, cur, e, z, h => by
  rw [World.setCells, setA];refine z0v g r (o + 1) _ _ e z ?_
  simp [World.setCell, Array.getElem?_modify, h]
theorem ze7 {w w' : World} {row : Option Nat} (h : w.grownBy w' row) : Fr (fun k => row = some k) w w' := ⟨h.os, h.tape, h.output, h.size, fun k hk hx => h.block k hk (fun e => hx e.symm)⟩
theorem z1p {P : Program} (w : World) (dT sT ty elem : TypeId) (K b o dLen dCap : Nat) (a : Addr) (sLen sCap : Nat) (cs : List Value)
  (hu : P.underlying dT = some (.slice elem)) (hs : (P.info? elem).map (·.size) = some K) (hn : cs.length = Nat.min sLen dLen * K)
  (hsrc : ∀ j v, cs[j]? = some v -> w.cell? (a.add j) = some v) (hc : ∀ j, j < cs.length -> (w.cell? ⟨b, o + j, none⟩).isSome = true) (hf : ∀ j, j < cs.length -> w.frozen? ⟨b, o + j, none⟩ = false) (h1 : ∀ v ∈ cs, v.oneCell' = true) :
  (Builtin.copy_ #[dT, sT] ty #[.slice (some ⟨b, o, none⟩) dLen dCap, .slice (some a) sLen sCap]).run P w = .ok (goInt (Nat.min sLen dLen)) (w.setCells b o cs) := by
 cases hq : P.info? elem with
 | none => simp [hq] at hs
 | some i =>
  have hi : i.size = K := by simpa [hq] using hs
  subst hi;have hl := run_firstCells_some (P := P) w i.size (Nat.min sLen dLen) a sLen sCap cs hn hsrc;have c := run_storeCells_cells (P := P) b o cs 0 w (by simpa using hc) (by simpa using hf) h1;simp only [Nat.add_zero] at c
  simp [Builtin.copy_, run_underlying hu, Builtin.lenOf, sizeOf, typeInfo, hq, hl, c]
theorem z3y {w : World} {base g cap : Nat} {n : Nat} {xs : List Ent} (h : Own w base (.slice (some ⟨g, 0, none⟩) n cap) xs) : ∃ cur, w.heap[g]? = some (.cells cur 81 (0, 0)) /\ cur.size = cap * 3 /\ cur.toList.take (xs.length * 3) = flat xs /\ base <= g /\ n = xs.length /\ xs.length <= cap /\ cap <= maxLen := by
 rcases h.2 with ⟨h0, -⟩ | ⟨g', cap', cur, hv, hb, hh, hc, hm, hs, ht⟩
 ·cases h0
 ·injection hv with hv1 hv2 hv3
  obtain rfl : g = g' := by injection hv1 with h; injection h
  subst hv3;exact ⟨cur, hh, hs, ht, hb, hv2, hc, hm⟩
theorem z33 {w : World} {base g cap : Nat} {xs : List Ent} {cur : Array Value} (hh : w.heap[g]? = some (.cells cur 81 (0, 0))) (hs : cur.size = cap * 3) (ht : cur.toList.take (xs.length * 3) = flat xs) (hb : base <= g) (hc : xs.length <= cap) (hm : cap <= maxLen) :
  Own w base (.slice (some ⟨g, 0, none⟩) xs.length cap) xs := ⟨z0q xs, .inr ⟨g, cap, cur, rfl, hb, hh, hc, hm, hs, ht⟩⟩
theorem z1m {w : World} {g : Nat} {cur : Array Value} {e : TypeId} {z : Nat × Nat} (h : w.heap[g]? = some (.cells cur e z)) (i : Nat) : w.cell? ⟨g, i, none⟩ = cur[i]? := by
 simp [World.cell?, h]
theorem z1l {w : World} {g : Nat} {cur : Array Value} {e : TypeId} (h : w.heap[g]? = some (.cells cur e (0, 0))) (i : Nat) : w.frozen? ⟨g, i, none⟩ = false := by
 simp [World.frozen?, h]
theorem z3a (w : World) (ty : TypeId) (base : Nat) (v : Value) (xs : List Ent) (hown : Own w base v xs) (a : Option Addr) (c : Nat) (ys : List Ent) (hin : SlE w (Old w) (.slice a ys.length c) ys) (h63 : xs.length + ys.length <= 1000000) (hbase : base <= w.heap.size) :
  ∃ v' w', (Builtin.append_ #[22, 22] ty #[v, .slice a ys.length c]).run Tryz.prog w = .ok v' w' /\ Own w' base v' (xs ++ ys) /\ w.grownBy w' v.ownBlock /\ (v'.ownBlock = v.ownBlock ∨ v'.ownBlock = some w.heap.size) := by
 obtain ⟨i0, hi, d, f, h⟩ := info_parts ze6
 cases a with
 | none =>
  have hy : ys = [] := by
   cases ys with
   | nil => rfl
   | cons y r => obtain ⟨b, i, ha, -⟩ := hin.get (j := 0) rfl; cases ha
  subst hy;refine ⟨v, w, ?_, by simpa [Own] using hown, World.grownBy.refl w _, .inl rfl⟩
  rcases hown.2 with ⟨rfl, h0⟩ | ⟨g, cap, cur, rfl, _, _, hnc, _⟩
  ·simp [Builtin.append_, run_underlying Tryz.underlying22, sizeOf, typeInfo, hi, Builtin.lenOf, Builtin.firstCells]
  ·simp [Builtin.append_, run_underlying Tryz.underlying22, sizeOf, typeInfo, hi, Builtin.lenOf, Builtin.firstCells, hnc, storeCells]
 | some ad =>
  obtain ⟨v', w', hr, h2, h3, -, h5⟩ := run_append_own_at (P := Tryz.prog) w base 22 ty 81 i0 _ 3 48 Tryz.underlying22 hi d f h rfl (by decide) v xs.length (flat xs) hown ad ys.length c (flat ys) (z0q ys) hin.cells z2l (by unfold maxLen; omega) (by omega) hbase;exact ⟨v', w', hr, by unfold Own; rw [z1c, List.length_append]; exact h2, h3, h5⟩
def zj7 (xs : List Ent) (w : World) (e : Ending) (w' : World) : Prop := ∃ v, e = .returned v /\ Own w' w.heap.size v xs /\ Below w.heap.size w w'
theorem zbd (w : World) (a : Option Addr) (cap : Nat) (xs : List Ent) (hX : SlE w (Old w) (.slice a xs.length cap) xs) (hl : xs.length <= 1000) :
  Calls Tryz.prog 79 #[.slice a xs.length cap] w (zj7 xs w) := by
 have g : ∀ (w : World) (a : Option Addr) (n c n' c' : Nat), (binOp .eql 22 (.slice a n c) (.slice none n' c')).run Tryz.prog w = .ok (.bool a.isNone) w := fun w a n c n' c' => Lib.run_eql_slice_nil w _ _ a n c n' c' Tryz.underlying22
 cases a with
 | none =>
  have hy : xs = [] := by
   cases xs with
   | nil => rfl
   | cons y r => obtain ⟨b, h, ha, -⟩ := hX.get (j := 0) rfl; cases ha
  subst hy;clear hX
  go_enter Tryz.func79, Tryz.ntmps79
  go_wp2;go_ret;exact ⟨_, rfl, World.ownsRow_nil _ _ _ _, Below.refl _ _⟩
 | some ad =>
  obtain ⟨v', w', hr, f, d, -⟩ := z3a (w.alloc (.cells #[] 81)) 22 w.heap.size (.slice (some ⟨w.heap.size, 0, none⟩) 0 0) [] (World.ownsRow_made w #[] 0 (Nat.le_refl _) (Nat.zero_le _) (by simp)) (some ad) cap xs (hX.old (z03 _ _)) (by simp; omega) (by simp);have HO : Hid (Own w' w.heap.size v' xs) := hid (by simpa using f);have HB : Hid (Below w.heap.size w w') := hid ((z03 w _).grown d (by simp) (by intro k hk; simp [Value.ownBlock] at hk; omega));have HR := hid hr;clear hr f d hX
  go_enter Tryz.func79, Tryz.ntmps79
  go_wp2_with (at_builtin; refine Lib.wpList_append_run _ rfl _ _ _ _ rfl _ _ rfl rfl _ _ HR.out ?_)
  go_ret;exact ⟨v', rfl, HO.out, HB.out⟩
end Go.Proofs.YtdkkkeoicekdgaaGreatDoor.Ca

end
