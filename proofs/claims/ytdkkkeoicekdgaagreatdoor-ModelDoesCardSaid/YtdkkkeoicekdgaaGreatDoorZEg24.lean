/- An entry as a value, by package catalog. -/
import Derived.Test.YtdkkkeoicekdgaaGreatDoorZEg49

section

namespace Go.Proofs.YtdkkkeoicekdgaaGreatDoor.Ca
set_option maxHeartbeats 6400000
set_option maxRecDepth 100000
open Go.Lib (hid)
open Go.RowKit Go.Proofs.YtdkkkeoicekdgaaGreatDoor
theorem str_eta (s : BA) : (⟨s.data.toList.toArray⟩ : BA) = s := by cases s; simp
abbrev txts (x : Ent) : List BA := [x.loc, x.key, x.pat]
abbrev txT (s : BA) : Co.Tree := .text s.data.toList
theorem txt_take {x : Ent} {k : Nat} {s : BA} (h : (txts x)[k]? = some s) : ((txts x).take (k + 1)).map txT = ((txts x).take k).map txT ++ [txT s] := by
 obtain ⟨a, rfl⟩ := List.getElem?_eq_some_iff.1 h
 rw [List.take_succ_eq_append_getElem a, List.map_append]; rfl
theorem txt_cell {x : Ent} {k : Nat} {s : BA} (h : (txts x)[k]? = some s) : [Value.string x.loc, Value.string x.key, Value.string x.pat][k]? = some (Value.string s) := by
 have : ((txts x).map Value.string)[k]? = some (Value.string s) := by rw [List.getElem?_map, h]; rfl
 exact this
theorem z8v (w : World) (S : Nat -> Prop) (s : BA) : Co.Rep w S (txT s) (txV s) := by
 rw [Co.Rep, str_eta]
abbrev zV : Array Value := #[.int .i64 0, .int .i64 0, .string ⟨#[]⟩, .slice none 0 0]
theorem zfx (x : Ent) (w : World) : Calls Tryz.prog 85 #[enV x] w fun e w' => NewVal (entT x) w e w' := by
 obtain ⟨i0, hi, B, C, D⟩ := info_parts infoV;have u : Hid (∀ k s, (txts x)[k]? = some s -> ((txts x).take (k + 1)).map txT = ((txts x).take k).map txT ++ [txT s]) := hid (fun k s h => txt_take h);have n : Hid (∀ k s, (txts x)[k]? = some s -> [Value.string x.loc, Value.string x.key, Value.string x.pat][k]? = some (Value.string s)) := hid (fun k s h => txt_cell h);have y : Hid (entT x = .list (((txts x).take 3).map txT)) := hid rfl;have o : Hid ((txts x).length = 3) := hid rfl;obtain ⟨xl, xk, xp⟩ := x;simp only at n;obtain ⟨f, E⟩ := nmd (txts ⟨xl, xk, xp⟩);rw [<- E.out] at u n y o;have R0 := z02 w #[.string xl, .string xk, .string xp] 81;have c0 := R0.c0;have c1 := R0.c1;have c2 := R0.c2;have hz := z02 (w.alloc (.cells #[.string xl, .string xk, .string xp] 81)) zV 88;rw [World.size_alloc] at hz;obtain ⟨W, l⟩ := nmd ((w.alloc (.cells #[.string xl, .string xk, .string xp] 81)).alloc (.cells zV 88));rw [<- l.out] at hz
 have p : W.heap.size = w.heap.size + 1 + 1 := by rw [l.out, World.size_alloc, World.size_alloc]
 have F : Hid (Below w.heap.size w W) := hid (by rw [l.out]; exact z00 (z03 _ _) (z03 _ _));have G : Hid (BI (w.heap.size + 1 + 1) (w.heap.size + 1 + 1 + 1 + 1) w ((W.alloc (.cells (lsC (.slice none 0 0)) 88)).alloc (.cells #[.string xl, .string xk, .string xp] 9)) (.slice none 0 0) ((f.take 0).map txT) []) := hid ⟨(Below.heap_alloc _ _ _ (by rw [World.size_alloc, p]; omega)).trans (by rw [<- p]; exact heap_alloc_new _ _), World.ownsRow_nil _ _ _ _, by rw [List.take_zero, List.map_nil, Co.z0i], z00 F.out (z00 (z03 _ _) (z03 _ _)), by omega, by omega⟩;have q := z02 (W.alloc (.cells (lsC (.slice none 0 0)) 88)) #[.string xl, .string xk, .string xp] 9;rw [World.size_alloc, p] at q;have H := hid q;have I := hid ((hz.alloc (.cells (lsC (.slice none 0 0)) 88)).alloc (.cells #[.string xl, .string xk, .string xp] 9));clear R0 hz q
 go_enter Tryz.func85, Tryz.ntmps85
 go_wp2;rw [<- l.out]
 generalize (W.alloc (.cells (lsC (.slice none 0 0)) 88)).alloc (.cells #[.string xl, .string xk, .string xp] 9) = W4 at *
 clear c0 c1 c2
 go_loopw [15] (fun i wr => ∃ (k : Nat) (L : Value) (vs : List Value), k <= 3 /\ i = .int .i64 k /\ Hid (BI (w.heap.size + 1 + 1) (w.heap.size + 1 + 1 + 1 + 1) w wr L ((f.take k).map txT) vs) /\ Hid (Row wr (w.heap.size + 1 + 1 + 1) 9 [.string xl, .string xk, .string xp]) /\ Hid (Row wr (w.heap.size + 1) 88 zV.toList)) (fun i _ => 3 - (intOf i).toNat)
 case atStart => exact ⟨0, _, _, by omega, rfl, G, H, I⟩
 case round =>
  obtain ⟨k, L, vs, hk, rfl, HI, r, t⟩ := hrel
  have m : ((f.take k).map txT).length = k := by rw [List.length_map, List.length_take, o.out]; omega
  have z := hid m;have b := HI.out.blk;have U := Co.z04 b;obtain ⟨aL, cL, hL⟩ := HI.out.slice;rw [m] at hL;subst hL
  have l3 : wr.cell? ⟨w.heap.size + 1 + 1, 3, none⟩ = some (.slice aL k cL) := by simp [World.cell?, b]
  by_cases hlt : k < 3
  ·obtain ⟨s, hs⟩ : ∃ s, f[k]? = some s := ⟨_, List.getElem?_eq_getElem (by rw [o.out]; exact hlt)⟩
   have s0 := r.out.cell (n.out k s hs);have J := hid (u.out k s hs);have M := hid t.out.lt;have A := hid r.out.lt;clear hs m b
   go_wp2_with (at_builtin; refine z0x ?_)
   refine hid ?_;refine wpList_append_lies _ rfl (.tmp 20) (.tmp 23) 86 rfl (w.heap.size + 1 + 1 + 1 + 1) 88 i0 _ 4 56 Tryz.underlying86 hi B C D rfl (by omega) (.slice aL k cL) k vs ?hs ?ho ⟨wr.heap.size, 0, none⟩ 1 1 [.int .i64 2, .int .i64 0, .string s, .slice none 0 0] ?hx rfl (z7m _ _ _ _ _ _ rfl) (by simp [Value.oneCell']) (by omega) (by unfold maxLen; omega) (by omega) (by rw [World.size_alloc]; have := A.out; omega) (wr.heap.size + 1) (by simp) ?_
   case hs => rfl
   case hx => rfl
   case ho =>
    have h9 := HI.out.own;rw [z.out] at h9;exact h9.alloc _
   intro g c w3 hown hgrow hl hlt3;have s3 := BI.blk3 HI.out (Below.refl _ _) hgrow
   have z3 : w3.cell? ⟨w.heap.size + 1 + 1, 3, none⟩ = some (.slice aL k cL) := by simp [World.cell?, s3]
   have f3 := Co.frozen_of_heap s3 3;have N := hid (BI.step HI.out z.out (Below.refl _ _) (z8v _ _ s) hown hgrow rfl hl)
   have d : ∀ j, j < wr.heap.size -> j < w.heap.size + 1 + 1 + 1 + 1 -> j ≠ w.heap.size + 1 + 1 -> (w3.setCell ⟨w.heap.size + 1 + 1, 3, none⟩ (.slice (some ⟨g, 0, none⟩) (k + 1) c)).heap[j]? = wr.heap[j]? := fun j h1 h2 h3 => (Below.heap_setCell _ _ _ _ h3).trans ((hgrow.block j (by rw [World.size_alloc]; omega) (fun e => by have := (HI.out.own.lt j e.symm).1; omega)).trans (Below.heap_alloc _ _ _ h1))
   have O := hid (r.out.keep (d _ A.out (by omega) (by omega)));have R := hid (t.out.keep (d _ M.out (by omega) (by omega)));clear hown hgrow hl s3 d;go_wp2;go_roundw
   case rel => exact ⟨k + 1, _, _, by omega, by go_num, hid (by rw [J.out]; exact N.out), O, R⟩
   case measure => simp [intOf]; omega
  ·obtain rfl : k = 3 := by omega
   have hR := t.out;have z0 := hR.c0;have z1 := hR.c1;have z2 := hR.c2;have z3 := hR.c3;have r0 := hR.thaw 0;have r1 := hR.thaw 1;have r2 := hR.thaw 2;have r3 := hR.thaw 3
   have l0 : wr.cell? ⟨w.heap.size + 1 + 1, 0, none⟩ = some (.int .i64 3) := by simp [World.cell?, b]
   have l1 : wr.cell? ⟨w.heap.size + 1 + 1, 1, none⟩ = some (.int .i64 0) := by simp [World.cell?, b]
   have l2 : wr.cell? ⟨w.heap.size + 1 + 1, 2, none⟩ = some (.string ⟨#[]⟩) := by simp [World.cell?, b]
   have HP := hid (Co.zhl hR (.int .i64 3) (.int .i64 0) (.string ⟨#[]⟩) (.slice aL 3 cL));have a := hid (Co.But.put4 (w.heap.size + 1) wr (.int .i64 3) (.int .i64 0) (.string ⟨#[]⟩) (.slice aL 3 cL));clear hR b m;go_wp2
   generalize (((wr.setCell ⟨w.heap.size + 1, 0, none⟩ (.int .i64 3)).setCell ⟨w.heap.size + 1, 1, none⟩ (.int .i64 0)).setCell ⟨w.heap.size + 1, 2, none⟩ (.string ⟨#[]⟩)).setCell ⟨w.heap.size + 1, 3, none⟩ (.slice aL 3 cL) = w9 at *
   have hP := HP.out;have T := HI.out.below;refine bodyPost_ret (v := .agg #[.int .i64 3, .int .i64 0, .string ⟨#[]⟩, .slice aL 3 cL]) (by simp [results, Tryz.results85, go_sem, World.cell?, hP]) rfl ⟨_, _, _, _, rfl, ?_, ?_⟩
   ·rw [y.out]
    exact Co.Rep.keep (fun g hg => a.out.block g (by omega)) (fun g hg => ⟨by omega, by rw [a.out.size]; exact hg.2⟩) _ _ HI.out.new
   ·exact T.trans ⟨a.out.os, a.out.tape, a.out.output, Nat.le_of_eq a.out.size.symm, fun j hj => a.out.block j (by omega)⟩

set_option maxHeartbeats 40000000
set_option maxRecDepth 100000
theorem SlE.blw {w w' : World} {B : Nat} {v : Value} {xs : List Ent} (h : SlE w (fun b => b < B) v xs) (hb : Below B w w') : SlE w' (fun b => b < B) v xs := Sl.keep h (fun b hb2 => hb.block b hb2) (fun _ h => h) (fun _ _ h => h)
theorem zi7 (w : World) (x : Ent) : Hid (Row (w.alloc (.cells (enC x) 81)) w.heap.size 81 [.string x.loc, .string x.key, .string x.pat]) /\ Hid (Below w.heap.size w (w.alloc (.cells (enC x) 81))) := ⟨hid (z02 w (enC x) 81), hid (z03 _ _)⟩
theorem zbf (w : World) (a : Option Addr) (cap : Nat) (xs : List Ent) (hX : SlE w (Old w) (.slice a xs.length cap) xs) (hF : ∀ x, x ∈ xs -> FitE x) (hE : EnvC w) :
  Calls Tryz.prog 42 #[.slice a xs.length cap] w fun e w' => e = .returned (.tuple #[.string ⟨(z0m xs).1.toArray⟩, .int .i64 (z0m xs).2]) /\ Below w.heap.size w w' := by
 have HR := hid (z2v w a cap xs hX hF hE);have B := z5a xs;have C := hX.len;obtain ⟨q, HQ⟩ := nmd (z0o xs);rw [<- HQ.out] at HR B
 by_cases h0 : q = 0
 ·have u : Hid (z0o xs = 0) := hid (by rw [<- HQ.out]; exact h0)
  have D : Hid (Rgt xs) := hid (z22.1 u.out);have E : Hid (z0m xs = Co.putF (catT xs)) := hid (by unfold z0m; rw [u.out, if_neg (by simp)]);subst h0;obtain ⟨i0, hi, F, G, H⟩ := info_parts infoV;have v : Hid (SlE w (fun b => b < w.heap.size) (.slice a xs.length cap) xs) := hid hX;have I : Hid (∀ x, x ∈ xs -> FitE x) := hid hF;have J := hid (fun W (hb : Below w.heap.size w W) => (hE.below hb).env);have o : xs.length <= 200 := D.out.len;obtain ⟨M, HM⟩ := nmd (xs.length);rw [<- HM.out] at HR v o;rw [<- HM.out, E.out];clear hX hF hE C
  go_enter Tryz.func42, Tryz.ntmps42
  go_wp2_with fail
  refine HR.out.mono ?_;rintro e w1 ⟨rfl, j⟩;have Y := hid j;have HS : Hid (BI w1.heap.size (w1.heap.size + 1) w (w1.alloc (.cells (lsC (.slice none 0 0)) 88)) (.slice none 0 0) ((xs.take 0).map entT) []) := hid (BI.start w w1 j);clear j;go_wp2
  generalize w1.alloc (.cells #[.int .i64 3, .int .i64 0, .string ⟨#[]⟩, .slice none 0 0] 88) = W0 at *
  go_loopw [16] (fun i wr => ∃ (k : Nat) (L : Value) (vs : List Value), k <= M /\ i = .int .i64 k /\ Hid (BI w1.heap.size (w1.heap.size + 1) w wr L ((xs.take k).map entT) vs)) (fun i _ => M - (intOf i).toNat)
  case atStart => exact ⟨0, _, _, by omega, rfl, HS⟩
  case round =>
   clear HS;obtain ⟨k, L, vs, hk, rfl, HI⟩ := hrel
   have y : ((xs.take k).map entT).length = k := by rw [List.length_map, List.length_take, <- HM.out]; omega
   by_cases hlt : k < M
   ·obtain ⟨x, hx⟩ : ∃ x, xs[k]? = some x := ⟨_, List.getElem?_eq_getElem (by have := HM.out; omega)⟩
    obtain ⟨b, Z, rfl, aa, h0, h1, h2⟩ := (v.out.blw HI.out.below).get hx;have N := hid (zdv hx);have p := hid y;obtain ⟨Q3, m⟩ := zi7 wr x;have HV := hid (fun W => zfx x W);have f := HI.out.blk;have h := (m.out.block _ (Co.z04 f)).trans f;clear hx y;obtain ⟨xl, xk, xp⟩ := x;simp only at h0 h1 h2 Q3 m h;have c0 := Q3.out.c0;have c1 := Q3.out.c1;have c2 := Q3.out.c2
    have l3 : (wr.alloc (.cells #[.string xl, .string xk, .string xp] 81)).cell? ⟨w1.heap.size, 3, none⟩ = some L := by simp [World.cell?, h]
    have af := Co.z04 h;obtain ⟨aL, cL, hL⟩ := HI.out.slice;rw [p.out] at hL;subst hL
    have O : Hid (Calls Tryz.prog 85 #[.agg #[.string xl, .string xk, .string xp]] (wr.alloc (.cells #[.string xl, .string xk, .string xp] 81)).drew fun e w2 => ∃ (kd n0 : Int) (b0 : BA) (a0 : Option Addr) (l0 l : Nat), e = .returned (.agg #[.int .i64 kd, .int .i64 n0, .string b0, .slice a0 l0 l]) /\
      w2.cell? ⟨w1.heap.size, 3, none⟩ = some (.slice aL k cL) /\ w1.heap.size < w2.heap.size /\ Hid (Below wr.heap.size wr w2) /\ Hid (Co.Rep w2 (fun g => wr.heap.size <= g /\ g < w2.heap.size) (entT ⟨xl, xk, xp⟩) (.agg #[.int .i64 kd, .int .i64 n0, .string b0, .slice a0 l0 l]))) := hid ((HV.out _).mono (by
     rintro e w2 ⟨d0, d1, d2, d3, rfl, n, R⟩;obtain ⟨kd, n0, b0, a0, l0, l, d⟩ := Co.Rep.cells _ _ n
     injection d with d
     injection d with d
     injection d with e0 d
     injection d with e1 d
     injection d with e2 d
     injection d with e3 d
     subst e0 e1 e2 e3;have r : Below wr.heap.size wr w2 := m.out.drew.trans (R.mono m.out.size);refine ⟨kd, n0, b0, a0, l0, l, rfl, ?_, ?_, hid r, hid ?_⟩
     ·have h9 := (r.block _ (Co.z04 HI.out.blk)).trans HI.out.blk
      simp [World.cell?, h9]
     ·exact Nat.lt_of_lt_of_le (Co.z04 HI.out.blk) r.size
     ·exact Co.Rep.keep (fun _ _ => rfl) (fun g hg => ⟨Nat.le_trans m.out.size hg.1, hg.2⟩) _ _ n))
    clear f h
    go_wp2_with fail
    have HH := hid (And.intro (Co.z04 HI.out.blk) HI.out.below);clear HV h0 h1 h2
    go_region_law ((first
     | (go_simp; go_at_call 85; refine O.out.mono ?_; rintro e w2 ⟨kd, n0, b0, a0, l0, l, rfl, l5, l6, s, T⟩)
     | (refine step_append_lies _ (by rfl) _ _ _ (by rfl) (w1.heap.size + 1) 88 i0 _ 4 56 Tryz.underlying86 hi F G H rfl (by omega) (.slice aL k cL) k vs (by rfl) (((by have h9 := (HI.out.call s.out).own; rw [p.out] at h9; exact h9 : w2.ownsRow (w1.heap.size + 1) 88 4 (.slice aL k cL) k vs)).alloc _) ⟨w2.heap.size, 0, none⟩ 1 1 [.int .i64 kd, .int .i64 n0, .string b0, .slice a0 l0 l] (by rfl) (by rfl) (z7m _ _ _ _ _ _ rfl) (by simp [Value.oneCell']) (by omega) (by unfold maxLen; omega) (by omega) (by simp; omega) (w2.heap.size + 1) (by simp) ?_; intro g c w3 hown hgrow hl hlt3; have s3 := BI.blk3 HI.out s.out hgrow; have z3 : w3.cell? ⟨w1.heap.size, 3, none⟩ = some (.slice aL k cL) := (by simp [World.cell?, s3]); have f3 := Co.frozen_of_heap s3 3; have U := hid (BI.step HI.out p.out s.out T.out hown hgrow rfl hl); clear hown hgrow hl s3)))
    all_goals
     go_wp2;go_roundw
     case rel => exact ⟨k + 1, _, _, by omega, by go_num, hid (by rw [N.out]; exact U.out)⟩
     case measure => simp [intOf]; omega
   ·have z : xs.take k = xs := List.take_of_length_le (by have := HM.out; omega)
    have hB := HI.out;rw [z] at hB;have f := hB.blk;obtain ⟨aL, cL, hL⟩ := hB.slice;rw [List.length_map, <- HM.out] at hL;subst hL;have t := hB.tree;rw [show Co.Tree.list (xs.map entT) = catT xs from rfl] at t;have HP := hid (Co.putS_any t (ok_cat xs) (tx_cat (fun e he => I.out e he)) (zh8 xs) (by rw [zao]; have := HM.out; omega) (J.out _ hB.below).tab);have V := hid hB.below;clear t
    have c0 : wr.cell? ⟨w1.heap.size, 0, none⟩ = some (.int .i64 3) := by simp [World.cell?, f]
    have c1 : wr.cell? ⟨w1.heap.size, 1, none⟩ = some (.int .i64 0) := by simp [World.cell?, f]
    have c2 : wr.cell? ⟨w1.heap.size, 2, none⟩ = some (.string ⟨#[]⟩) := by simp [World.cell?, f]
    have c3 : wr.cell? ⟨w1.heap.size, 3, none⟩ = some (.slice aL M cL) := by simp [World.cell?, f]
    clear hB f z
    go_wp2_with fail
    refine HP.out.mono ?_;rintro e w5 ⟨rfl, A⟩;have X := hid (z00 V.out A);clear A;go_wp2
    go_ret2
    exact ⟨rfl, X.out⟩
 ·have HA : Hid (z0m xs = ([], (z0o xs : Int))) := hid (by unfold z0m; rw [if_pos (by rw [<- HQ.out]; exact h0)])
  have ag : ((q : Int) != 0) = true := by rw [bne_iff_ne]; omega
  rw [HA.out];clear hX hF hE h0
  generalize xs.length = L at *
  go_enter Tryz.func42, Tryz.ntmps42
  go_wp2_with fail
  refine HR.out.mono ?_;rintro e w1 ⟨rfl, j⟩;have HB := hid j;clear j;go_wp2
  go_ret2
  exact ⟨by rw [HQ.out]; rfl, HB.out⟩
end Go.Proofs.YtdkkkeoicekdgaaGreatDoor.Ca

end
