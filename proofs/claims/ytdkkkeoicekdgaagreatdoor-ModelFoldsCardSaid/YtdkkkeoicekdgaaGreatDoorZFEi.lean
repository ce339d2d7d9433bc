/- slices.Insert of one entry. -/
import Derived.Lib.SlBytesConst
import Derived.Test.YtdkkkeoicekdgaaGreatDoorZFg9

namespace Go.Proofs.YtdkkkeoicekdgaaGreatDoor.Ca
set_option maxHeartbeats 4000000
set_option maxRecDepth 100000
open Go.Lib (hid)
open Go.RowKit Go.Proofs.YtdkkkeoicekdgaaGreatDoor
theorem z9v {P : Program} (w : World) {o : Oper} {a : Act} {K : Act -> World -> Prop} {Q : Exit -> Act -> World -> Prop} (d s : Operand) (t t' : TypeId)
  (ho : o.op = .call { callee := .builtin .copy, args := #[d, s], argTypes := #[t, t'] }) (v u : Value) (hd : a.eval d = v) (hs : a.eval s = u) {v' : Value} {w' : World}
  (hr : (Builtin.copy_ #[t, t'] o.type #[v, u]).run P w = .ok v' w') (h : K (a.put o.dst v') w') : o.wp P a w K Q := by
 unfold Oper.wp execOp
 simp only [ho, resolve, invoke, builtin, Sem.run_bind, Sem.run_pure, Result.andThen_ok, List.map_toArray, List.map_cons, List.map_nil, hd, hs, hr];exact h
theorem z3o {P : Program} (w : World) {ops : Array Oper} {rest : List Oper} {o : Oper} {a : Act} {Q : Exit -> Act -> World -> Prop} (hgd : o.guard = none) (d s : Operand) (t t' : TypeId)
  (ho : o.op = .call { callee := .builtin .copy, args := #[d, s], argTypes := #[t, t'] }) (v u : Value) (hd : a.eval d = v) (hs : a.eval s = u) {v' : Value} {w' : World}
  (hr : (Builtin.copy_ #[t, t'] o.type #[v, u]).run P w = .ok v' w') (h : wpList P ops Q rest (a.put o.dst v') w') : wpList P ops Q (o :: rest) a w :=
 wpList_plain hgd fun _ hK => z9v w d s t t' ho v u hd hs hr (hK _ _ h)
theorem z4k {P : Program} {ops : Array Oper} {o : Oper} {a : Act} {w : World} {K : Act -> World -> Prop} {Q : Exit -> Act -> World -> Prop} {E : Prop}
  (hg : o.guard = none) (d x : Operand) (dT sT : TypeId) (hop : o.op = Op.call { callee := Callee.builtin Builtin.copy, args := #[d, x], argTypes := #[dT, sT] })
  (v u : Value) (hd : a.eval d = v) (hx : a.eval x = u) {v' : Value} {w' : World} (hr : (Builtin.copy_ #[dT, sT] o.type #[v, u]).run P w = .ok v' w') (hK : K (a.put o.dst v') w') :
  if Region.wanted o (yielded ops a.tmps) = true then Oper.wp P o a w K Q else E := by
 have hw : Region.wanted o (yielded ops a.tmps) = true := by simp [Region.wanted, hg]
 rw [if_pos hw]
 unfold Oper.wp
 simp [execOp, hop, resolve, invoke, builtin, hd, hx, hr, Result.andThen]
 exact hK
def z5x (base : Nat) (v : Value) (ys : List Ent) (w : World) (e : Ending) (w' : World) : Prop := ∃ v', e = .returned v' /\ Own w' base v' ys /\ w.grownBy w' v.ownBlock
abbrev insF (xs : List Ent) (p : Nat) (x : Ent) : List Ent := xs.take p ++ x :: xs.drop p
theorem one_sl {w : World} {gv : Nat} {x : Ent} (h : Row w gv 81 [.string x.loc, .string x.key, .string x.pat]) : SlE w (Old w) (.slice (some ⟨gv, 0, none⟩) 1 1) [x] :=
 ⟨_, _, rfl, Nat.le_refl _, by simp, fun _ => ⟨gv, 0, rfl, h.lt, fun j y hj => by
  cases j with
  | zero =>
   obtain rfl : x = y := by simpa using hj
   exact ⟨_, rfl, rfl, fun i u hu => by have := h.cell hu; simpa using this⟩
  | succ j => simp at hj⟩⟩
theorem zff (w : World) (base : Nat) (a : Option Addr) (cap : Nat) (xs : List Ent) (x : Ent) (gv : Nat) (hown : Own w base (.slice a xs.length cap) xs) (hbase : base <= w.heap.size) (hl : xs.length <= 1000) (hx : Row w gv 81 [.string x.loc, .string x.key, .string x.pat]) :
  Calls Tryz.prog 225 #[.slice a xs.length cap, .int .i64 xs.length, .slice (some ⟨gv, 0, none⟩) 1 1] w (z5x base (.slice a xs.length cap) (xs ++ [x]) w) := by
 obtain ⟨v', w', hr, ho, hg, -⟩ := z39 w 22 base _ xs hown (some ⟨gv, 0, none⟩) 1 [x] (one_sl hx) (by simp; omega) hbase;have d := hown.sl.len;have HR := hid hr;have HO := hid ho;have HG := hid hg
 have c : a = none -> xs.length = 0 := fun h => by
  cases xs with
  | nil => rfl
  | cons y r => obtain ⟨b, f, ha, -⟩ := hown.sl.get (j := 0) rfl; rw [h] at ha; cases ha
 simp only [List.length_singleton] at HR;clear hr ho hg hown hx hbase
 generalize hL : xs.length = L at *
 have HL := hid hL;clear hL
 cases a with
 | none =>
  obtain rfl := c rfl
  go_enter Tryz.func225, Tryz.ntmps225
  go_wp2_with (at_builtin; refine Lib.wpList_append_run _ rfl _ _ _ _ rfl _ _ rfl rfl _ _ HR.out ?_)
  go_ret;exact ⟨v', rfl, HO.out, HG.out⟩
 | some ad =>
  go_enter Tryz.func225, Tryz.ntmps225
  go_wp2_with (at_builtin; refine Lib.wpList_append_run _ rfl _ _ _ _ rfl _ _ rfl rfl _ _ HR.out ?_)
  all_goals go_ret
  all_goals exact ⟨v', rfl, HO.out, HG.out⟩
theorem zcj (w : World) (base g cap : Nat) (xs : List Ent) (x : Ent) (p gv off : Nat) (hoff : Hid (off = 0)) (hown : Own w base (.slice (some ⟨g, off, none⟩) xs.length cap) xs) (hl : xs.length <= 1000) (hp : p < xs.length) (hroom : xs.length + 1 <= cap) (hx : Row w gv 81 [.string x.loc, .string x.key, .string x.pat]) (hne : gv ≠ g) :
  Calls Tryz.prog 225 #[.slice (some ⟨g, off, none⟩) xs.length cap, .int .i64 p, .slice (some ⟨gv, 0, none⟩) 1 1] w (z5x base (.slice (some ⟨g, off, none⟩) xs.length cap) (insF xs p x) w) := by
 have h0 := hoff.out;have c := hown;rw [h0] at c;obtain ⟨a, hh, hs, ht, hb, -, hc, hm⟩ := z3w c
 unfold maxLen at hm
 have G := z0p xs;have z := z42 xs p;have A := z43 xs p
 have H : a.toList.length = cap * 3 := by simpa using hs
 have hD : (flat (xs.drop p)).length = (xs.length - p) * 3 := by rw [z0p, List.length_drop]
 have hT : (flat (xs.take p)).length = p * 3 := by rw [z0p, List.length_take, Nat.min_eq_left (by omega)]
 have t : (Tryz.prog.info? 81).map (·.size) = some 3 := by
  obtain ⟨i0, I, h0, h1, h2⟩ := info_parts ze1
  rw [I]; simp [h1]
 have J : ∀ lb cb, (callFunc 253 #[.slice (some ⟨gv, 0, none⟩) 1 1, .slice (some ⟨g, off + (p + 1) * 3, none⟩) lb cb]).run Tryz.prog w = .ok (.value (.bool false)) w := fun lb cb => by
  rw [run_callFunc_extern Tryz.func253 (by kernel_rfl) (by kernel_rfl) (by kernel_rfl) (e := Extern.SlicesOverlaps.overlaps #[22, 22] #[4]) (by kernel_rfl),
   Lib.run_overlaps_apart w 22 4 81 Tryz.underlying22 3 Tryz.sizeOf81 ⟨gv, 0, none⟩ ⟨g, off + (p + 1) * 3, none⟩ 1 1 lb cb hne 81 81 3 a.size (by simp [World.shape?, Row] at hx ⊢; simp [hx]) (by simp [World.shape?, hh]) (by omega) (hx.thaw 0) (hx.thaw 3)]
  rfl
 have m : ∀ j u, (flat xs)[j]? = some u -> w.cell? ⟨g, off + j, none⟩ = some u := fun j u hu => by
  have := hown.sl.cells j u hu
  rwa [Addr.add_lit] at this
 have f : ∀ j, j < cap * 3 -> (w.cell? ⟨g, off + j, none⟩).isSome = true := fun j hj => by
  rw [h0, Nat.zero_add, z1m hh, Array.getElem?_eq_getElem (by omega)]; rfl
 have n : ∀ j, w.frozen? ⟨g, off + j, none⟩ = false := fun j => z1l hh _
 have r : ∀ ty dc sc, (Builtin.copy_ #[22, 22] ty #[.slice (some ⟨g, off + (p + 1) * 3, none⟩) (xs.length - p) dc, .slice (some ⟨g, off + p * 3, none⟩) (xs.length + 1 - p) sc]).run Tryz.prog w.drew = .ok (goInt ((xs.length - p : Nat) : Int)) (w.drew.setCells g (off + (p + 1) * 3) (flat (xs.drop p))) := fun ty dc sc => by
  have b : Nat.min (xs.length + 1 - p) (xs.length - p) = xs.length - p := by simp only [Nat.min_def]; split <;> omega
  have h := z1p w.drew 22 22 ty 81 3 g (off + (p + 1) * 3) (xs.length - p) dc ⟨g, off + p * 3, none⟩ (xs.length + 1 - p) sc (flat (xs.drop p)) Tryz.underlying22 t (by rw [hD, b])
   (fun j v hj => by
    rw [Addr.add_lit, Nat.add_assoc]
    exact m (p * 3 + j) v (by rw [A, List.getElem?_drop] at hj; exact hj))
   (fun j hj => by rw [Nat.add_assoc]; exact f _ (by omega)) (fun j hj => by rw [Nat.add_assoc]; exact n _) z2m
  rw [b] at h;exact h
 obtain ⟨W1, d⟩ : ∃ W1, W1 = w.drew.setCells g (off + (p + 1) * 3) (flat (xs.drop p)) := ⟨_, rfl⟩
 have o : W1.heap[g]? = some (.cells (setA a ((p + 1) * 3) (flat (xs.drop p))) 81 (0, 0)) := by
  rw [d, h0, Nat.zero_add];exact z0v g _ _ w.drew a 81 (0, 0) hh
 have B : ∀ j u, (flat [x])[j]? = some u -> W1.cell? ⟨gv, j, none⟩ = some u := fun j u hu => by
  rw [d, World.cell?_setCells_out g _ _ _ _ (fun h _ => absurd h hne)];have := hx.cell (i := j) (v := u) hu;exact this
 have C : ∀ (W : World), (∀ x, W.cell? x = W1.cell? x) -> (∀ x, W.frozen? x = W1.frozen? x) -> ∀ ty dc, (Builtin.copy_ #[22, 22] ty #[.slice (some ⟨g, off + p * 3, none⟩) (xs.length + 1 - p) dc, .slice (some ⟨gv, 0, none⟩) 1 1]).run Tryz.prog W = .ok (goInt 1) (W.setCells g (off + p * 3) (flat [x])) := fun W hWc hWf ty dc => by
  have b : Nat.min 1 (xs.length + 1 - p) = 1 := by simp only [Nat.min_def]; split <;> omega
  have h := z1p W 22 22 ty 81 3 g (off + p * 3) (xs.length + 1 - p) dc ⟨gv, 0, none⟩ 1 1 (flat [x]) Tryz.underlying22 t (by rw [b]; rfl)
   (fun j v hj => by rw [Addr.add_lit, hWc, Nat.zero_add]; exact B j v hj)
   (fun j hj => by
    have N : j < 3 := hj
    rw [hWc, h0, Nat.zero_add, z1m o, Array.getElem?_eq_getElem (by rw [z0y]; omega)]; rfl)
   (fun j hj => by rw [hWf]; exact z1l o _) z2m
  rw [b] at h;exact h
 rw [<- d] at r
 have D : Hid (∀ W, W.heap = (W1.setCells g (off + p * 3) (flat [x])).heap -> W.os = w.os -> W.tape = w.tape -> W.output = w.output -> Own W base (.slice (some ⟨g, off, none⟩) (xs.length + 1) cap) (insF xs p x) /\ w.grownBy W (some g)) := hid (fun W hWh ho1 ho2 ho3 => by
  have s : (insF xs p x).length = xs.length + 1 := by
   rw [List.length_append, List.length_cons, List.length_take, List.length_drop]; omega
  have M : W.heap[g]? = some (.cells (setA (setA a ((p + 1) * 3) (flat (xs.drop p))) (p * 3) (flat [x])) 81 (0, 0)) := by
   rw [hWh, h0, Nat.zero_add];exact z0v g _ _ W1 _ 81 (0, 0) o
  refine ⟨?_, ⟨ho1, ho2, ho3, ?_, fun k hk hne2 => ?_⟩⟩
  ·rw [h0, <- s]
   refine z32 M (by rw [z0y, z0y]; exact hs) ?_ hb (by omega) (by unfold maxLen; exact hm);have q : (flat [x]).length = 3 := rfl;have e1 : (setA a ((p + 1) * 3) (flat (xs.drop p))).toList = a.toList.take ((p + 1) * 3) ++ flat (xs.drop p) ++ a.toList.drop ((p + 1) * 3 + (flat (xs.drop p)).length) := z1o _ _ _ (by rw [hD]; omega);rw [z1o _ _ _ (by rw [z0y, q]; omega), e1, q, s]
   have E : a.toList.take (p * 3) = flat (xs.take p) := by
    rw [z, <- ht, List.take_take, Nat.min_eq_left (by omega)]
   have e2 : (a.toList.take ((p + 1) * 3) ++ flat (xs.drop p) ++ a.toList.drop ((p + 1) * 3 + (flat (xs.drop p)).length)).take (p * 3) = flat (xs.take p) := by
    rw [List.append_assoc, List.take_append_of_le_length (by rw [List.length_take]; omega), List.take_take, Nat.min_eq_left (by omega), E]
   have e3 : (a.toList.take ((p + 1) * 3) ++ flat (xs.drop p) ++ a.toList.drop ((p + 1) * 3 + (flat (xs.drop p)).length)).drop (p * 3 + 3) = flat (xs.drop p) ++ a.toList.drop ((p + 1) * 3 + (flat (xs.drop p)).length) := by
    rw [List.append_assoc, List.drop_append_of_le_length (by rw [List.length_take]; omega), List.drop_eq_nil_of_le (by rw [List.length_take]; omega), List.nil_append]
   rw [e2, e3, z1b]
   have e4 : flat (x :: xs.drop p) = flat [x] ++ flat (xs.drop p) := by rw [show x :: xs.drop p = [x] ++ xs.drop p from rfl, z1b]
   rw [e4, <- List.append_assoc, List.take_append_of_le_length (by simp only [List.length_append, hT, hD, q]; omega), List.append_assoc];exact List.take_of_length_le (by simp only [List.length_append, hT, hD, q]; omega)
  ·rw [hWh, (z0d g _ _ W1).size, d, (z0d g _ _ w.drew).size]
   exact Nat.le_refl _
  ·rw [hWh, (z0d g _ _ W1).block k (fun e => hne2 (by rw [e])), d, (z0d g _ _ w.drew).block k (fun e => hne2 (by rw [e]))]
   rfl)
 have l : W1.os = w.os /\ W1.tape = w.tape /\ W1.output = w.output := by
  have h := z0d g (flat (xs.drop p)) (off + (p + 1) * 3) w.drew
  rw [d]; exact ⟨h.os, h.tape, h.output⟩
 have F : Hid (∀ W : World, (W.os = W1.os /\ W.tape = W1.tape /\ W.output = W1.output) -> (W.setCells g (off + p * 3) (flat [x])).os = w.os /\ (W.setCells g (off + p * 3) (flat [x])).tape = w.tape /\ (W.setCells g (off + p * 3) (flat [x])).output = w.output) := hid (fun W hW => by
  have h := z0d g (flat [x]) (off + p * 3) W
  exact ⟨h.os.trans (hW.1.trans l.1), h.tape.trans (hW.2.1.trans l.2.1), h.output.trans (hW.2.2.trans l.2.2)⟩)
 have O : ¬ ((p : Int) = (xs.length : Int)) := by omega
 have R : IntKind.i64.wrap ((p : Int) + 1) = (p : Int) + 1 := by rw [IntKind.wrap_i64]; omega
 have T : (0 : Int) <= (p : Int) + 1 := by omega
 have U : p <= xs.length := by omega
 have V : ((p : Int) + 1).toNat = p + 1 := by omega
 have X : ¬ (cap = p + 1) := by omega
 have Y : (p : Int) <= (xs.length : Int) + 1 := by omega
 have Z : ¬ (cap = p) := by omega
 have aa : (p : Int) <= (xs.length : Int) := by omega
 have af : (xs.length : Int) + 1 <= (cap : Int) := by omega
 have ag : (p : Int) + 1 <= (xs.length : Int) + 1 := by omega
 have ah := hid o;clear hh hs ht hb G z A H hD hT t m f n d B l o hown c hx hne h0 hc
 generalize xs.length = L at *
 go_enter Tryz.func225, Tryz.ntmps225
 go_wp2_with (simp only [J])
 go_region_law (refine z4k rfl _ _ 22 22 rfl _ _ (by simp [Act.eval, Act.put]) (by simp [Act.eval, Act.put]) (r _ _ _) ?_)
 go_wp2_with (refine z3o _ rfl _ _ 22 22 rfl _ _ rfl rfl (C _ (fun _ => rfl) (fun _ => rfl) _ _) ?_)
 go_ret;have y := F.out W1 ⟨rfl, rfl, rfl⟩;exact ⟨_, rfl, D.out _ rfl y.1 y.2.1 y.2.2⟩
theorem zau (g : Nat) : ∀ (vs : List Value) (o : Nat) (W W' : World), W.heap = W'.heap -> (W.setCells g o vs).heap = (W'.setCells g o vs).heap
 | [], _, _, _, h => h
 | v :: r, o, W, W', h => by
  rw [World.setCells, World.setCells];exact zau g r (o + 1) _ _ (by simp [World.setCell, h])
theorem z4j (z : Array Value) (n : Nat) : (Builtin.zeroCells z n).size = n * z.size := by simp [Builtin.zeroCells]
theorem zck (w : World) (base g cap : Nat) (xs : List Ent) (x : Ent) (p gv off : Nat) (hoff : Hid (off = 0)) (hown : Own w base (.slice (some ⟨g, off, none⟩) xs.length cap) xs) (hbase : base <= w.heap.size) (hl : xs.length <= 1000) (hp : p < xs.length) (hroom : cap < xs.length + 1) (hx : Row w gv 81 [.string x.loc, .string x.key, .string x.pat]) :
  Calls Tryz.prog 225 #[.slice (some ⟨g, off, none⟩) xs.length cap, .int .i64 p, .slice (some ⟨gv, 0, none⟩) 1 1] w (z5x base (.slice (some ⟨g, off, none⟩) xs.length cap) (insF xs p x) w) := by
 have h0 := hoff.out;have f := hown;rw [h0] at f;obtain ⟨az, hh, hs, ht, hb, -, hc, hm⟩ := z3w f
 unfold maxLen at hm
 obtain ⟨i0, A, I, B, C⟩ := info_parts ze1;have ai := z0p xs;have J := z42 xs p;have M := z43 xs p
 have hD : (flat (xs.drop p)).length = (xs.length - p) * 3 := by rw [z0p, List.length_drop]
 have hT : (flat (xs.take p)).length = p * 3 := by rw [z0p, List.length_take, Nat.min_eq_left (by omega)]
 have D : (Tryz.prog.info? 81).map (·.size) = some 3 := by rw [A]; simp [B]
 have l : ∀ j u, (flat xs)[j]? = some u -> w.cell? ⟨g, off + j, none⟩ = some u := fun j u hu => by
  have := hown.sl.cells j u hu
  rwa [Addr.add_lit] at this
 have N : g < w.heap.size := (Array.getElem?_eq_some_iff.1 hh).1;have O : gv < w.heap.size := hx.lt
 have R : (xs.length : Int) + 1 - (p : Int) = ((xs.length + 1 - p : Nat) : Int) := by omega
 have E : p + (xs.length + 1 - p) = xs.length + 1 := by omega
 have y : (Builtin.firstCells i0.size p (.slice (some ⟨g, off, none⟩) p cap)).run Tryz.prog w.drew = .ok (flat (xs.take p)).toArray w.drew := by
  rw [B]
  exact run_firstCells_some w.drew 3 p ⟨g, off, none⟩ p cap (flat (xs.take p)) hT (fun j v hj => by
   rw [Addr.add_lit];rw [J, List.getElem?_take] at hj
   split at hj
   ·exact l j v hj
   ·cases hj)
 have r : ∀ ty, (Builtin.append_ #[22, 3] ty #[.slice (some ⟨g, off, none⟩) p cap, .int .i64 ((xs.length : Int) + 1 - (p : Int))]).run Tryz.prog w =
   .ok (.slice (some ⟨w.heap.size, 0, none⟩) (xs.length + 1) (grownCap w (xs.length + 1) cap 81)) (w.drew.alloc (.cells ((flat (xs.take p)).toArray ++ Builtin.zeroCells (Value.agg #[.string ByteArray.empty, .string ByteArray.empty, .string ByteArray.empty]).cells (xs.length + 1 - p) ++ Builtin.zeroCells (Value.agg #[.string ByteArray.empty, .string ByteArray.empty, .string ByteArray.empty]).cells (grownCap w (xs.length + 1) cap 81 - (xs.length + 1))) 81)) := fun ty => by
  have h := Lib.run_append_grow_zeros w 22 3 ty 81 i0 _ .i64 .i64 Tryz.underlying22 Tryz.underlying3 A I (some ⟨g, off, none⟩) p cap (flat (xs.take p)) y (xs.length + 1 - p) (by omega) (by omega) (by omega) (by omega) (by rw [C]; omega) (by rw [C, E]; exact growslice_fits hroom (by omega));rw [E] at h;rw [R];exact h
 obtain ⟨G, hG⟩ : ∃ G, G = grownCap w (xs.length + 1) cap 81 := ⟨_, rfl⟩;obtain ⟨b, m⟩ : ∃ b : Array Value, b = (flat (xs.take p)).toArray ++ Builtin.zeroCells (Value.agg #[.string ByteArray.empty, .string ByteArray.empty, .string ByteArray.empty]).cells (xs.length + 1 - p) ++ Builtin.zeroCells (Value.agg #[.string ByteArray.empty, .string ByteArray.empty, .string ByteArray.empty]).cells (G - (xs.length + 1)) := ⟨_, rfl⟩;rw [<- hG] at r;rw [<- m] at r
 have aA : xs.length + 1 <= G := by rw [hG]; exact grownCap_ge w _ _ _
 have T : G <= 9223372036854775807 := by
  have := grownCap_le_maxLen w (xs.length + 1) cap 81 (by unfold maxLen; omega);rw [<- hG] at this
  unfold maxLen at this
  omega
 have U : (Value.agg #[Value.string ByteArray.empty, .string ByteArray.empty, .string ByteArray.empty]).cells.size = 3 := rfl
 have F : b.size = G * 3 := by
  rw [m, Array.size_append, Array.size_append, z4j, z4j, U, List.size_toArray, hT]
  omega
 have V : b.toList.take (p * 3) = flat (xs.take p) := by
  rw [m, Array.toList_append, Array.toList_append, List.append_assoc, List.take_append_of_le_length (by simp [hT]), List.take_of_length_le (by simp [hT])]
 obtain ⟨W1, o⟩ : ∃ W1, W1 = w.drew.alloc (.cells b 81) := ⟨_, rfl⟩;rw [<- o] at r
 have s : W1.heap[w.heap.size]? = some (.cells b 81 (0, 0)) := by rw [o]; exact heap_alloc_new w.drew _
 have c : ∀ k, k < w.heap.size -> W1.heap[k]? = w.heap[k]? := fun k hk => by rw [o]; exact Below.heap_alloc w.drew _ _ hk
 have X : ∀ j v, w.cell? ⟨g, j, none⟩ = some v -> W1.cell? ⟨g, j, none⟩ = some v := fun j v h => (World.cell?_of_block (a := ⟨g, j, none⟩) (c g N)).trans h
 have Y : ∀ j v, w.cell? ⟨gv, j, none⟩ = some v -> W1.cell? ⟨gv, j, none⟩ = some v := fun j v h => (World.cell?_of_block (a := ⟨gv, j, none⟩) (c gv O)).trans h
 have Z : ∀ (W : World), (∀ x, W.cell? x = W1.cell? x) -> (∀ x, W.frozen? x = W1.frozen? x) -> ∀ ty dc, (Builtin.copy_ #[22, 22] ty #[.slice (some ⟨w.heap.size, p * 3, none⟩) (xs.length + 1 - p) dc, .slice (some ⟨gv, 0, none⟩) 1 1]).run Tryz.prog W = .ok (goInt 1) (W.setCells w.heap.size (p * 3) (flat [x])) := fun W hWc hWf ty dc => by
  have d : Nat.min 1 (xs.length + 1 - p) = 1 := by simp only [Nat.min_def]; split <;> omega
  have h := z1p W 22 22 ty 81 3 w.heap.size (p * 3) (xs.length + 1 - p) dc ⟨gv, 0, none⟩ 1 1 (flat [x]) Tryz.underlying22 D (by rw [d]; rfl)
   (fun j v hj => by rw [Addr.add_lit, hWc, Nat.zero_add]; exact Y j v (hx.cell (i := j) (v := v) hj))
   (fun j hj => by
    have aB : j < 3 := hj
    rw [hWc, z1m s, Array.getElem?_eq_getElem (by omega)]; rfl)
   (fun j hj => by rw [hWf]; exact z1l s _) z2m
  rw [d] at h;exact h
 have t : (W1.setCells w.heap.size (p * 3) (flat [x])).heap[w.heap.size]? = some (.cells (setA b (p * 3) (flat [x])) 81 (0, 0)) := z0v _ _ _ W1 b 81 (0, 0) s
 have aa : g ≠ w.heap.size := by omega
 have af : ∀ (W : World), (∀ q, W.cell? q = (W1.setCells w.heap.size (p * 3) (flat [x])).cell? q) -> (∀ q, W.frozen? q = (W1.setCells w.heap.size (p * 3) (flat [x])).frozen? q) -> ∀ ty dc sc, (Builtin.copy_ #[22, 22] ty #[.slice (some ⟨w.heap.size, (p + 1) * 3, none⟩) (xs.length - p) dc, .slice (some ⟨g, off + p * 3, none⟩) (xs.length - p) sc]).run Tryz.prog W = .ok (goInt ((xs.length - p : Nat) : Int)) (W.setCells w.heap.size ((p + 1) * 3) (flat (xs.drop p))) := fun W hWc hWf ty dc sc => by
  have d : Nat.min (xs.length - p) (xs.length - p) = xs.length - p := Nat.min_self _
  have h := z1p W 22 22 ty 81 3 w.heap.size ((p + 1) * 3) (xs.length - p) dc ⟨g, off + p * 3, none⟩ (xs.length - p) sc (flat (xs.drop p)) Tryz.underlying22 D (by rw [d, hD])
   (fun j v hj => by
    rw [Addr.add_lit, hWc, World.cell?_setCells_out _ _ _ _ _ (fun h _ => absurd h aa), Nat.add_assoc]
    exact X _ v (l (p * 3 + j) v (by rw [M, List.getElem?_drop] at hj; exact hj)))
   (fun j hj => by rw [hWc, z1m t, Array.getElem?_eq_getElem (by rw [z0y]; omega)]; rfl)
   (fun j hj => by rw [hWf]; exact z1l t _) z2m
  rw [d] at h;exact h
 have ag : Hid (∀ W : World, W.heap = ((W1.setCells w.heap.size (p * 3) (flat [x])).setCells w.heap.size ((p + 1) * 3) (flat (xs.drop p))).heap -> W.os = w.os -> W.tape = w.tape -> W.output = w.output -> Own W base (.slice (some ⟨w.heap.size, 0, none⟩) (xs.length + 1) G) (insF xs p x) /\ w.grownBy W (some g)) := hid (fun W hWh ho1 ho2 ho3 => by
  have z : (insF xs p x).length = xs.length + 1 := by
   rw [List.length_append, List.length_cons, List.length_take, List.length_drop]; omega
  have aj : W.heap[w.heap.size]? = some (.cells (setA (setA b (p * 3) (flat [x])) ((p + 1) * 3) (flat (xs.drop p))) 81 (0, 0)) := by
   rw [hWh];exact z0v _ _ _ _ _ 81 (0, 0) t
  have n : (flat [x]).length = 3 := rfl;refine ⟨?_, ⟨ho1, ho2, ho3, ?_, fun k hk hne2 => ?_⟩⟩
  ·rw [<- z]
   refine z32 aj (by rw [z0y, z0y]; exact F) ?_ hbase (by omega) (by unfold maxLen; exact T)
   have aC : b.toList.length = G * 3 := by simpa using F
   have e1 : (setA b (p * 3) (flat [x])).toList = b.toList.take (p * 3) ++ flat [x] ++ b.toList.drop (p * 3 + (flat [x]).length) := z1o _ _ _ (by rw [n]; omega);rw [z1o _ _ _ (by rw [z0y, hD]; omega), e1, n, z, V]
   have e2 : (flat (xs.take p) ++ flat [x] ++ b.toList.drop (p * 3 + 3)).take ((p + 1) * 3) = flat (xs.take p) ++ flat [x] := by
    rw [List.take_append_of_le_length (by simp only [List.length_append, hT, n]; omega), List.take_of_length_le (by simp only [List.length_append, hT, n]; omega)]
   have e4 : flat (insF xs p x) = flat (xs.take p) ++ flat [x] ++ flat (xs.drop p) := by
    rw [z1b, show x :: xs.drop p = [x] ++ xs.drop p from rfl, z1b, List.append_assoc]
   rw [e2, e4, List.take_append_of_le_length (by simp only [List.length_append, hT, hD, n]; omega)];exact List.take_of_length_le (by simp only [List.length_append, hT, hD, n]; omega)
  ·rw [hWh, (z0d _ _ _ _).size, (z0d _ _ _ _).size, o]
   simp
  ·rw [hWh, (z0d _ _ _ _).block k (by omega), (z0d _ _ _ _).block k (by omega)]
   exact c k hk)
 have ah : Hid (∀ W : World, (W.os = w.os /\ W.tape = w.tape /\ W.output = w.output) -> (W.setCells w.heap.size ((p + 1) * 3) (flat (xs.drop p))).os = w.os /\ (W.setCells w.heap.size ((p + 1) * 3) (flat (xs.drop p))).tape = w.tape /\ (W.setCells w.heap.size ((p + 1) * 3) (flat (xs.drop p))).output = w.output) := hid (fun W hW => by
  have h := z0d w.heap.size (flat (xs.drop p)) ((p + 1) * 3) W
  exact ⟨h.os.trans hW.1, h.tape.trans hW.2.1, h.output.trans hW.2.2⟩)
 have aq : Hid (∀ W W' : World, W.heap = W'.heap -> (W.setCells w.heap.size ((p + 1) * 3) (flat (xs.drop p))).heap = (W'.setCells w.heap.size ((p + 1) * 3) (flat (xs.drop p))).heap) := hid (fun W W' h => zau _ _ _ W W' h)
 have aD : ¬ ((p : Int) = (xs.length : Int)) := by omega
 have aE : (cap : Int) < (xs.length : Int) + 1 := by omega
 have aF : IntKind.i64.wrap ((p : Int) + 1) = (p : Int) + 1 := by rw [IntKind.wrap_i64]; omega
 have aG : (0 : Int) <= (p : Int) + 1 := by omega
 have aH : p <= xs.length := by omega
 have aI : ((p : Int) + 1).toNat = p + 1 := by omega
 have aJ : ¬ (G = p) := by omega
 have ay : ¬ (G = p + 1) := by omega
 have aK : ¬ (cap = p) := by omega
 have aM : (p : Int) <= (xs.length : Int) + 1 := by omega
 have aN : (p : Int) <= (xs.length : Int) := by omega
 have aO : (p : Int) + 1 <= (xs.length : Int) + 1 := by omega
 have aP : (p : Int) <= (cap : Int) := by omega
 have aQ : (xs.length : Int) + 1 <= (G : Int) := by omega
 subst o
 have ar : ∀ q, ((w.alloc (.cells b 81)).drew).cell? q = (w.drew.alloc (.cells b 81)).cell? q := fun q => rfl
 have au : ∀ q, ((w.alloc (.cells b 81)).drew).frozen? q = (w.drew.alloc (.cells b 81)).frozen? q := fun q => rfl
 have aw : ∀ q, (((w.alloc (.cells b 81)).drew.setCells w.heap.size (p * 3) (flat [x])).drew).cell? q = ((w.drew.alloc (.cells b 81)).setCells w.heap.size (p * 3) (flat [x])).cell? q := fun q => rfl
 have ax : ∀ q, (((w.alloc (.cells b 81)).drew.setCells w.heap.size (p * 3) (flat [x])).drew).frozen? q = ((w.drew.alloc (.cells b 81)).setCells w.heap.size (p * 3) (flat [x])).frozen? q := fun q => rfl
 clear hh hs ht hb ai J M hD hT D l N O R E y hG m F V U s t c X Y aa hown f hx h0 A I B C
 generalize xs.length = L at *
 go_enter Tryz.func225, Tryz.ntmps225
 go_wp2_with (first
  | (at_builtin; refine Lib.wpList_append_run _ rfl _ _ _ _ rfl _ _ rfl rfl _ _ (r _) ?_)
  | (refine z3o _ rfl _ _ 22 22 rfl _ _ rfl rfl (Z _ ar au _ _) ?_))
 go_region_law (refine z4k rfl _ _ 22 22 rfl (.slice (some ⟨w.heap.size, (p + 1) * 3, none⟩) (L - p) (G - (p + 1))) (.slice (some ⟨g, off + p * 3, none⟩) (L - p) (cap - p)) (by simp [Act.eval, Act.put]) (by simp [Act.eval, Act.put]) (af _ aw ax 3 (G - (p + 1)) (cap - p)) ?_)
 go_wp2;go_ret;have H := ah.out ((w.alloc (.cells b 81)).drew.setCells w.heap.size (p * 3) (flat [x])).drew ⟨rfl, rfl, rfl⟩;exact ⟨_, rfl, ag.out _ (aq.out ((w.alloc (.cells b 81)).drew.setCells w.heap.size (p * 3) (flat [x])).drew _ rfl) H.1 H.2.1 H.2.2⟩
theorem zfg (w : World) (base : Nat) (v : Value) (xs : List Ent) (x : Ent) (p gv : Nat) (hown : Own w base v xs) (hbase : base <= w.heap.size) (hl : xs.length <= 1000) (hp : p <= xs.length) (hx : Row w gv 81 [.string x.loc, .string x.key, .string x.pat]) (hne : v.ownBlock ≠ some gv) :
  Calls Tryz.prog 225 #[v, .int .i64 p, .slice (some ⟨gv, 0, none⟩) 1 1] w (z5x base v (insF xs p x) w) := by
 obtain ⟨a, b, rfl, hc, -, hg⟩ := z0i hown
 rcases Nat.lt_or_eq_of_le hp with h | rfl
 ·obtain ⟨g, rfl⟩ := hg (by omega)
  by_cases hr : xs.length + 1 <= b
  ·exact zcj w base g b xs x p gv 0 (hid rfl) hown hl h hr hx (fun e => hne (by rw [e]; rfl))
  ·exact zck w base g b xs x p gv 0 (hid rfl) hown hbase hl h (by omega) hx
 ·have h := zff w base a b xs x gv hown hbase hl hx
  rw [show insF xs xs.length x = xs ++ [x] by show xs.take xs.length ++ x :: xs.drop xs.length = _; rw [List.take_length, List.drop_length]];exact h
end Go.Proofs.YtdkkkeoicekdgaaGreatDoor.Ca
