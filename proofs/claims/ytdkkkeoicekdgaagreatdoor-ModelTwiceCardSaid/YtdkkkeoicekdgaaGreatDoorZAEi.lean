/- slices.Insert of one entry. -/
import Derived.Deep.RegionLaw
import Derived.Lib.SlBytesConst
import Derived.Lib.AppendZerosOnto
import Derived.Laws.NewBlocks
import Derived.Test.YtdkkkeoicekdgaaGreatDoorZAg3

namespace Go.Proofs.YtdkkkeoicekdgaaGreatDoor.Ca
set_option maxHeartbeats 4000000
set_option maxRecDepth 100000
open Go.Lib (hid)
open Go.RowKit Go.Proofs.YtdkkkeoicekdgaaGreatDoor
theorem z6t {P : Program} (w : World) {o : Oper} {a : Act} {K : Act -> World -> Prop} {Q : Exit -> Act -> World -> Prop} (d s : Operand) (t t' : TypeId)
  (ho : o.op = .call { callee := .builtin .copy, args := #[d, s], argTypes := #[t, t'] }) (v u : Value) (hd : a.eval d = v) (hs : a.eval s = u) {v' : Value} {w' : World}
  (hr : (Builtin.copy_ #[t, t'] o.type #[v, u]).run P w = .ok v' w') (h : K (a.put o.dst v') w') : o.wp P a w K Q := by
 unfold Oper.wp execOp
 simp only [ho, resolve, invoke, builtin, Sem.run_bind, Sem.run_pure, Result.andThen_ok, List.map_toArray, List.map_cons, List.map_nil, hd, hs, hr]
 exact h
theorem z2g {P : Program} (w : World) {ops : Array Oper} {rest : List Oper} {o : Oper} {a : Act} {Q : Exit -> Act -> World -> Prop} (hgd : o.guard = none) (d s : Operand) (t t' : TypeId)
  (ho : o.op = .call { callee := .builtin .copy, args := #[d, s], argTypes := #[t, t'] }) (v u : Value) (hd : a.eval d = v) (hs : a.eval s = u) {v' : Value} {w' : World}
  (hr : (Builtin.copy_ #[t, t'] o.type #[v, u]).run P w = .ok v' w') (h : wpList P ops Q rest (a.put o.dst v') w') : wpList P ops Q (o :: rest) a w :=
 wpList_plain hgd fun _ hK => z6t w d s t t' ho v u hd hs hr (hK _ _ h)
theorem z2r {P : Program} {ops : Array Oper} {o : Oper} {a : Act} {w : World} {K : Act -> World -> Prop} {Q : Exit -> Act -> World -> Prop} {E : Prop}
  (hg : o.guard = none) (d x : Operand) (dT sT : TypeId) (hop : o.op = Op.call { callee := Callee.builtin Builtin.copy, args := #[d, x], argTypes := #[dT, sT] })
  (v u : Value) (hd : a.eval d = v) (hx : a.eval x = u) {v' : Value} {w' : World} (hr : (Builtin.copy_ #[dT, sT] o.type #[v, u]).run P w = .ok v' w') (hK : K (a.put o.dst v') w') :
  if Region.wanted o (yielded ops a.tmps) = true then Oper.wp P o a w K Q else E := by
 have hw : Region.wanted o (yielded ops a.tmps) = true := by simp [Region.wanted, hg]
 rw [if_pos hw]
 unfold Oper.wp
 simp [execOp, hop, resolve, invoke, builtin, hd, hx, hr, Result.andThen]
 exact hK
def z40 (base : Nat) (v : Value) (ys : List Ent) (w : World) (e : Ending) (w' : World) : Prop := ∃ v', e = .returned v' /\ Own w' base v' ys /\ w.grownBy w' v.ownBlock
abbrev insF (xs : List Ent) (p : Nat) (x : Ent) : List Ent := xs.take p ++ x :: xs.drop p
theorem one_sl {w : World} {gv : Nat} {x : Ent} (h : Row w gv 81 [.string x.loc, .string x.key, .string x.pat]) : SlE w (Old w) (.slice (some ⟨gv, 0, none⟩) 1 1) [x] :=
 ⟨_, _, rfl, Nat.le_refl _, by simp, fun _ => ⟨gv, 0, rfl, h.lt, fun j y hj => by
  cases j with
  | zero =>
   obtain rfl : x = y := by simpa using hj
   exact ⟨_, rfl, rfl, fun i u hu => by have := h.cell hu; simpa using this⟩
  | succ j => simp at hj⟩⟩
theorem zam (w : World) (base : Nat) (a : Option Addr) (cap : Nat) (xs : List Ent) (x : Ent) (gv : Nat) (hown : Own w base (.slice a xs.length cap) xs) (hbase : base <= w.heap.size) (hl : xs.length <= 1000) (hx : Row w gv 81 [.string x.loc, .string x.key, .string x.pat]) :
  Calls Tryz.prog 225 #[.slice a xs.length cap, .int .i64 xs.length, .slice (some ⟨gv, 0, none⟩) 1 1] w (z40 base (.slice a xs.length cap) (xs ++ [x]) w) := by
 obtain ⟨v', w', hr, ho, hg, -⟩ := z2s w 22 base _ xs hown (some ⟨gv, 0, none⟩) 1 [x] (one_sl hx) (by simp; omega) hbase
 have hlc := hown.sl.len
 have HR := hid hr
 have HO := hid ho
 have HG := hid hg
 have hnil : a = none -> xs.length = 0 := fun h => by
  cases xs with
  | nil => rfl
  | cons y r => obtain ⟨b, off, ha, -⟩ := hown.sl.get (j := 0) rfl; rw [h] at ha; cases ha
 simp only [List.length_singleton] at HR
 clear hr ho hg hown hx hbase
 generalize hL : xs.length = L at *
 have HL := hid hL
 clear hL
 cases a with
 | none =>
  obtain rfl := hnil rfl
  go_enter Tryz.func225, Tryz.ntmps225
  go_wp2_with (at_builtin; refine Lib.wpList_append_run _ rfl _ _ _ _ rfl _ _ rfl rfl _ _ HR.out ?_)
  go_ret
  exact ⟨v', rfl, HO.out, HG.out⟩
 | some ad =>
  go_enter Tryz.func225, Tryz.ntmps225
  go_wp2_with (at_builtin; refine Lib.wpList_append_run _ rfl _ _ _ _ rfl _ _ rfl rfl _ _ HR.out ?_)
  all_goals go_ret
  all_goals exact ⟨v', rfl, HO.out, HG.out⟩
theorem z8k (w : World) (base g cap : Nat) (xs : List Ent) (x : Ent) (p gv off : Nat) (hoff : Hid (off = 0)) (hown : Own w base (.slice (some ⟨g, off, none⟩) xs.length cap) xs) (hl : xs.length <= 1000) (hp : p < xs.length) (hroom : xs.length + 1 <= cap) (hx : Row w gv 81 [.string x.loc, .string x.key, .string x.pat]) (hne : gv ≠ g) :
  Calls Tryz.prog 225 #[.slice (some ⟨g, off, none⟩) xs.length cap, .int .i64 p, .slice (some ⟨gv, 0, none⟩) 1 1] w (z40 base (.slice (some ⟨g, off, none⟩) xs.length cap) (insF xs p x) w) := by
 have h0 := hoff.out
 have hown0 := hown
 rw [h0] at hown0
 obtain ⟨cur, hh, hs, ht, hb, -, hc, hm⟩ := z2i hown0
 unfold maxLen at hm
 have hfl := z0d xs
 have htk := z2j xs p
 have hdr := z2k xs p
 have hcl : cur.toList.length = cap * 3 := by simpa using hs
 have hD : (flat (xs.drop p)).length = (xs.length - p) * 3 := by rw [z0d, List.length_drop]
 have hT : (flat (xs.take p)).length = p * 3 := by rw [z0d, List.length_take, Nat.min_eq_left (by omega)]
 have hsz : (Tryz.prog.info? 81).map (·.size) = some 3 := by
  obtain ⟨i0, hi0, h0, h1, h2⟩ := info_parts z9m
  rw [hi0]; simp [h1]
 have hov : ∀ lb cb, (callFunc 253 #[.slice (some ⟨gv, 0, none⟩) 1 1, .slice (some ⟨g, off + (p + 1) * 3, none⟩) lb cb]).run Tryz.prog w = .ok (.value (.bool false)) w := fun lb cb => by
  rw [run_callFunc_extern Tryz.func253 (by kernel_rfl) (by kernel_rfl) (by kernel_rfl) (e := Extern.SlicesOverlaps.overlaps #[22, 22] #[4]) (by kernel_rfl),
   Lib.run_overlaps_apart w 22 4 81 Tryz.underlying22 3 Tryz.sizeOf81 ⟨gv, 0, none⟩ ⟨g, off + (p + 1) * 3, none⟩ 1 1 lb cb hne 81 81 3 cur.size (by simp [World.shape?, Row] at hx ⊢; simp [hx]) (by simp [World.shape?, hh]) (by omega) (hx.thaw 0) (hx.thaw 3)]
  rfl
 have hcell : ∀ j u, (flat xs)[j]? = some u -> w.cell? ⟨g, off + j, none⟩ = some u := fun j u hu => by
  have := hown.sl.cells j u hu
  rwa [Addr.add_lit] at this
 have hthere : ∀ j, j < cap * 3 -> (w.cell? ⟨g, off + j, none⟩).isSome = true := fun j hj => by
  rw [h0, Nat.zero_add, z13 hh, Array.getElem?_eq_getElem (by omega)]; rfl
 have hthaw : ∀ j, w.frozen? ⟨g, off + j, none⟩ = false := fun j => z12 hh _
 have hcp1 : ∀ ty dc sc, (Builtin.copy_ #[22, 22] ty #[.slice (some ⟨g, off + (p + 1) * 3, none⟩) (xs.length - p) dc, .slice (some ⟨g, off + p * 3, none⟩) (xs.length + 1 - p) sc]).run Tryz.prog w.drew = .ok (goInt ((xs.length - p : Nat) : Int)) (w.drew.setCells g (off + (p + 1) * 3) (flat (xs.drop p))) := fun ty dc sc => by
  have hmin : Nat.min (xs.length + 1 - p) (xs.length - p) = xs.length - p := by simp only [Nat.min_def]; split <;> omega
  have h := z16 w.drew 22 22 ty 81 3 g (off + (p + 1) * 3) (xs.length - p) dc ⟨g, off + p * 3, none⟩ (xs.length + 1 - p) sc (flat (xs.drop p)) Tryz.underlying22 hsz (by rw [hD, hmin])
   (fun j v hj => by
    rw [Addr.add_lit, Nat.add_assoc]
    exact hcell (p * 3 + j) v (by rw [hdr, List.getElem?_drop] at hj; exact hj))
   (fun j hj => by rw [Nat.add_assoc]; exact hthere _ (by omega)) (fun j hj => by rw [Nat.add_assoc]; exact hthaw _) z1k
  rw [hmin] at h
  exact h
 obtain ⟨W1, hW1⟩ : ∃ W1, W1 = w.drew.setCells g (off + (p + 1) * 3) (flat (xs.drop p)) := ⟨_, rfl⟩
 have hh1 : W1.heap[g]? = some (.cells (setA cur ((p + 1) * 3) (flat (xs.drop p))) 81 (0, 0)) := by
  rw [hW1, h0, Nat.zero_add]
  exact z0h g _ _ w.drew cur 81 (0, 0) hh
 have hxv : ∀ j u, (flat [x])[j]? = some u -> W1.cell? ⟨gv, j, none⟩ = some u := fun j u hu => by
  rw [hW1, World.cell?_setCells_out g _ _ _ _ (fun h _ => absurd h hne)]
  have := hx.cell (i := j) (v := u) hu
  exact this
 have hcp2 : ∀ (W : World), (∀ x, W.cell? x = W1.cell? x) -> (∀ x, W.frozen? x = W1.frozen? x) -> ∀ ty dc, (Builtin.copy_ #[22, 22] ty #[.slice (some ⟨g, off + p * 3, none⟩) (xs.length + 1 - p) dc, .slice (some ⟨gv, 0, none⟩) 1 1]).run Tryz.prog W = .ok (goInt 1) (W.setCells g (off + p * 3) (flat [x])) := fun W hWc hWf ty dc => by
  have hmin : Nat.min 1 (xs.length + 1 - p) = 1 := by simp only [Nat.min_def]; split <;> omega
  have h := z16 W 22 22 ty 81 3 g (off + p * 3) (xs.length + 1 - p) dc ⟨gv, 0, none⟩ 1 1 (flat [x]) Tryz.underlying22 hsz (by rw [hmin]; rfl)
   (fun j v hj => by rw [Addr.add_lit, hWc, Nat.zero_add]; exact hxv j v hj)
   (fun j hj => by
    have hj3 : j < 3 := hj
    rw [hWc, h0, Nat.zero_add, z13 hh1, Array.getElem?_eq_getElem (by rw [z0j]; omega)]; rfl)
   (fun j hj => by rw [hWf]; exact z12 hh1 _) z1k
  rw [hmin] at h
  exact h
 rw [<- hW1] at hcp1
 have HFIN : Hid (∀ W, W.heap = (W1.setCells g (off + p * 3) (flat [x])).heap -> W.os = w.os -> W.tape = w.tape -> W.output = w.output -> Own W base (.slice (some ⟨g, off, none⟩) (xs.length + 1) cap) (insF xs p x) /\ w.grownBy W (some g)) := hid (fun W hWh ho1 ho2 ho3 => by
  have hlen : (insF xs p x).length = xs.length + 1 := by
   rw [List.length_append, List.length_cons, List.length_take, List.length_drop]; omega
  have hh2 : W.heap[g]? = some (.cells (setA (setA cur ((p + 1) * 3) (flat (xs.drop p))) (p * 3) (flat [x])) 81 (0, 0)) := by
   rw [hWh, h0, Nat.zero_add]
   exact z0h g _ _ W1 _ 81 (0, 0) hh1
  refine ⟨?_, ⟨ho1, ho2, ho3, ?_, fun k hk hne2 => ?_⟩⟩
  ·rw [h0, <- hlen]
   refine z1s hh2 (by rw [z0j, z0j]; exact hs) ?_ hb (by omega) (by unfold maxLen; exact hm)
   have hfx : (flat [x]).length = 3 := rfl
   have e1 : (setA cur ((p + 1) * 3) (flat (xs.drop p))).toList = cur.toList.take ((p + 1) * 3) ++ flat (xs.drop p) ++ cur.toList.drop ((p + 1) * 3 + (flat (xs.drop p)).length) := z15 _ _ _ (by rw [hD]; omega)
   rw [z15 _ _ _ (by rw [z0j, hfx]; omega), e1, hfx, hlen]
   have hcut : cur.toList.take (p * 3) = flat (xs.take p) := by
    rw [htk, <- ht, List.take_take, Nat.min_eq_left (by omega)]
   have e2 : (cur.toList.take ((p + 1) * 3) ++ flat (xs.drop p) ++ cur.toList.drop ((p + 1) * 3 + (flat (xs.drop p)).length)).take (p * 3) = flat (xs.take p) := by
    rw [List.append_assoc, List.take_append_of_le_length (by rw [List.length_take]; omega), List.take_take, Nat.min_eq_left (by omega), hcut]
   have e3 : (cur.toList.take ((p + 1) * 3) ++ flat (xs.drop p) ++ cur.toList.drop ((p + 1) * 3 + (flat (xs.drop p)).length)).drop (p * 3 + 3) = flat (xs.drop p) ++ cur.toList.drop ((p + 1) * 3 + (flat (xs.drop p)).length) := by
    rw [List.append_assoc, List.drop_append_of_le_length (by rw [List.length_take]; omega), List.drop_eq_nil_of_le (by rw [List.length_take]; omega), List.nil_append]
   rw [e2, e3, z0s]
   have e4 : flat (x :: xs.drop p) = flat [x] ++ flat (xs.drop p) := by rw [show x :: xs.drop p = [x] ++ xs.drop p from rfl, z0s]
   rw [e4, <- List.append_assoc, List.take_append_of_le_length (by simp only [List.length_append, hT, hD, hfx]; omega), List.append_assoc]
   exact List.take_of_length_le (by simp only [List.length_append, hT, hD, hfx]; omega)
  ·rw [hWh, (z06 g _ _ W1).size, hW1, (z06 g _ _ w.drew).size]
   exact Nat.le_refl _
  ·rw [hWh, (z06 g _ _ W1).block k (fun e => hne2 (by rw [e])), hW1, (z06 g _ _ w.drew).block k (fun e => hne2 (by rw [e]))]
   rfl)
 have hW1o : W1.os = w.os /\ W1.tape = w.tape /\ W1.output = w.output := by
  have h := z06 g (flat (xs.drop p)) (off + (p + 1) * 3) w.drew
  rw [hW1]; exact ⟨h.os, h.tape, h.output⟩
 have HOTH : Hid (∀ W : World, (W.os = W1.os /\ W.tape = W1.tape /\ W.output = W1.output) -> (W.setCells g (off + p * 3) (flat [x])).os = w.os /\ (W.setCells g (off + p * 3) (flat [x])).tape = w.tape /\ (W.setCells g (off + p * 3) (flat [x])).output = w.output) := hid (fun W hW => by
  have h := z06 g (flat [x]) (off + p * 3) W
  exact ⟨h.os.trans (hW.1.trans hW1o.1), h.tape.trans (hW.2.1.trans hW1o.2.1), h.output.trans (hW.2.2.trans hW1o.2.2)⟩)
 have hz2 : ¬ ((p : Int) = (xs.length : Int)) := by omega
 have hw1 : IntKind.i64.wrap ((p : Int) + 1) = (p : Int) + 1 := by rw [IntKind.wrap_i64]; omega
 have hb1 : (0 : Int) <= (p : Int) + 1 := by omega
 have hin : p <= xs.length := by omega
 have htn : ((p : Int) + 1).toNat = p + 1 := by omega
 have hb2 : ¬ (cap = p + 1) := by omega
 have hb3 : (p : Int) <= (xs.length : Int) + 1 := by omega
 have hb4 : ¬ (cap = p) := by omega
 have hb5 : (p : Int) <= (xs.length : Int) := by omega
 have hb6 : (xs.length : Int) + 1 <= (cap : Int) := by omega
 have hb7 : (p : Int) + 1 <= (xs.length : Int) + 1 := by omega
 have HH1 := hid hh1
 clear hh hs ht hb hfl htk hdr hcl hD hT hsz hcell hthere hthaw hW1 hxv hW1o hh1 hown hown0 hx hne h0 hc
 generalize xs.length = L at *
 go_enter Tryz.func225, Tryz.ntmps225
 go_wp2_with (simp only [hov])
 go_region_law (refine z2r rfl _ _ 22 22 rfl _ _ (by simp [Act.eval, Act.put]) (by simp [Act.eval, Act.put]) (hcp1 _ _ _) ?_)
 go_wp2_with (refine z2g _ rfl _ _ 22 22 rfl _ _ rfl rfl (hcp2 _ (fun _ => rfl) (fun _ => rfl) _ _) ?_)
 go_ret
 have HO3 := HOTH.out W1 ⟨rfl, rfl, rfl⟩
 exact ⟨_, rfl, HFIN.out _ rfl HO3.1 HO3.2.1 HO3.2.2⟩
theorem z7n (g : Nat) : ∀ (vs : List Value) (o : Nat) (W W' : World), W.heap = W'.heap -> (W.setCells g o vs).heap = (W'.setCells g o vs).heap
 | [], _, _, _, h => h
 | v :: r, o, W, W', h => by
  rw [World.setCells, World.setCells]
  exact z7n g r (o + 1) _ _ (by simp [World.setCell, h])
theorem z2q (z : Array Value) (n : Nat) : (Builtin.zeroCells z n).size = n * z.size := by simp [Builtin.zeroCells]
theorem z8l (w : World) (base g cap : Nat) (xs : List Ent) (x : Ent) (p gv off : Nat) (hoff : Hid (off = 0)) (hown : Own w base (.slice (some ⟨g, off, none⟩) xs.length cap) xs) (hbase : base <= w.heap.size) (hl : xs.length <= 1000) (hp : p < xs.length) (hroom : cap < xs.length + 1) (hx : Row w gv 81 [.string x.loc, .string x.key, .string x.pat]) :
  Calls Tryz.prog 225 #[.slice (some ⟨g, off, none⟩) xs.length cap, .int .i64 p, .slice (some ⟨gv, 0, none⟩) 1 1] w (z40 base (.slice (some ⟨g, off, none⟩) xs.length cap) (insF xs p x) w) := by
 have h0 := hoff.out
 have hown0 := hown
 rw [h0] at hown0
 obtain ⟨cur, hh, hs, ht, hb, -, hc, hm⟩ := z2i hown0
 unfold maxLen at hm
 obtain ⟨i0, hi0, hz0, hzs, hzb⟩ := info_parts z9m
 have hfl := z0d xs
 have htk := z2j xs p
 have hdr := z2k xs p
 have hD : (flat (xs.drop p)).length = (xs.length - p) * 3 := by rw [z0d, List.length_drop]
 have hT : (flat (xs.take p)).length = p * 3 := by rw [z0d, List.length_take, Nat.min_eq_left (by omega)]
 have hsz : (Tryz.prog.info? 81).map (·.size) = some 3 := by rw [hi0]; simp [hzs]
 have hcell : ∀ j u, (flat xs)[j]? = some u -> w.cell? ⟨g, off + j, none⟩ = some u := fun j u hu => by
  have := hown.sl.cells j u hu
  rwa [Addr.add_lit] at this
 have hgw : g < w.heap.size := (Array.getElem?_eq_some_iff.1 hh).1
 have hvw : gv < w.heap.size := hx.lt
 have hkk : (xs.length : Int) + 1 - (p : Int) = ((xs.length + 1 - p : Nat) : Int) := by omega
 have hik : p + (xs.length + 1 - p) = xs.length + 1 := by omega
 have hold : (Builtin.firstCells i0.size p (.slice (some ⟨g, off, none⟩) p cap)).run Tryz.prog w.drew = .ok (flat (xs.take p)).toArray w.drew := by
  rw [hzs]
  exact run_firstCells_some w.drew 3 p ⟨g, off, none⟩ p cap (flat (xs.take p)) hT (fun j v hj => by
   rw [Addr.add_lit]
   rw [htk, List.getElem?_take] at hj
   split at hj
   ·exact hcell j v hj
   ·cases hj)
 have hrz : ∀ ty, (Builtin.append_ #[22, 3] ty #[.slice (some ⟨g, off, none⟩) p cap, .int .i64 ((xs.length : Int) + 1 - (p : Int))]).run Tryz.prog w =
   .ok (.slice (some ⟨w.heap.size, 0, none⟩) (xs.length + 1) (grownCap w (xs.length + 1) cap 81)) (w.drew.alloc (.cells ((flat (xs.take p)).toArray ++ Builtin.zeroCells (Value.agg #[.string ByteArray.empty, .string ByteArray.empty, .string ByteArray.empty]).cells (xs.length + 1 - p) ++ Builtin.zeroCells (Value.agg #[.string ByteArray.empty, .string ByteArray.empty, .string ByteArray.empty]).cells (grownCap w (xs.length + 1) cap 81 - (xs.length + 1))) 81)) := fun ty => by
  have h := Lib.run_append_grow_zeros w 22 3 ty 81 i0 _ .i64 .i64 Tryz.underlying22 Tryz.underlying3 hi0 hz0 (some ⟨g, off, none⟩) p cap (flat (xs.take p)) hold (xs.length + 1 - p) (by omega) (by omega) (by omega) (by omega) (by rw [hzb]; omega) (by rw [hzb, hik]; exact growslice_fits hroom (by omega))
  rw [hik] at h
  rw [hkk]
  exact h
 obtain ⟨G, hG⟩ : ∃ G, G = grownCap w (xs.length + 1) cap 81 := ⟨_, rfl⟩
 obtain ⟨ROW, hROW⟩ : ∃ ROW : Array Value, ROW = (flat (xs.take p)).toArray ++ Builtin.zeroCells (Value.agg #[.string ByteArray.empty, .string ByteArray.empty, .string ByteArray.empty]).cells (xs.length + 1 - p) ++ Builtin.zeroCells (Value.agg #[.string ByteArray.empty, .string ByteArray.empty, .string ByteArray.empty]).cells (G - (xs.length + 1)) := ⟨_, rfl⟩
 rw [<- hG] at hrz
 rw [<- hROW] at hrz
 have hGn : xs.length + 1 <= G := by rw [hG]; exact grownCap_ge w _ _ _
 have hG63 : G <= 9223372036854775807 := by
  have := grownCap_le_maxLen w (xs.length + 1) cap 81 (by unfold maxLen; omega)
  rw [<- hG] at this
  unfold maxLen at this
  omega
 have hz3 : (Value.agg #[Value.string ByteArray.empty, .string ByteArray.empty, .string ByteArray.empty]).cells.size = 3 := rfl
 have hRl : ROW.size = G * 3 := by
  rw [hROW, Array.size_append, Array.size_append, z2q, z2q, hz3, List.size_toArray, hT]
  omega
 have hRt : ROW.toList.take (p * 3) = flat (xs.take p) := by
  rw [hROW, Array.toList_append, Array.toList_append, List.append_assoc, List.take_append_of_le_length (by simp [hT]), List.take_of_length_le (by simp [hT])]
 obtain ⟨W1, hW1⟩ : ∃ W1, W1 = w.drew.alloc (.cells ROW 81) := ⟨_, rfl⟩
 rw [<- hW1] at hrz
 have hh1 : W1.heap[w.heap.size]? = some (.cells ROW 81 (0, 0)) := by rw [hW1]; exact heap_alloc_new w.drew _
 have hbut1 : ∀ k, k < w.heap.size -> W1.heap[k]? = w.heap[k]? := fun k hk => by rw [hW1]; exact Below.heap_alloc w.drew _ _ hk
 have hOb : ∀ j v, w.cell? ⟨g, j, none⟩ = some v -> W1.cell? ⟨g, j, none⟩ = some v := fun j v h => (World.cell?_of_block (a := ⟨g, j, none⟩) (hbut1 g hgw)).trans h
 have hOv : ∀ j v, w.cell? ⟨gv, j, none⟩ = some v -> W1.cell? ⟨gv, j, none⟩ = some v := fun j v h => (World.cell?_of_block (a := ⟨gv, j, none⟩) (hbut1 gv hvw)).trans h
 have hcpA : ∀ (W : World), (∀ x, W.cell? x = W1.cell? x) -> (∀ x, W.frozen? x = W1.frozen? x) -> ∀ ty dc, (Builtin.copy_ #[22, 22] ty #[.slice (some ⟨w.heap.size, p * 3, none⟩) (xs.length + 1 - p) dc, .slice (some ⟨gv, 0, none⟩) 1 1]).run Tryz.prog W = .ok (goInt 1) (W.setCells w.heap.size (p * 3) (flat [x])) := fun W hWc hWf ty dc => by
  have hmin : Nat.min 1 (xs.length + 1 - p) = 1 := by simp only [Nat.min_def]; split <;> omega
  have h := z16 W 22 22 ty 81 3 w.heap.size (p * 3) (xs.length + 1 - p) dc ⟨gv, 0, none⟩ 1 1 (flat [x]) Tryz.underlying22 hsz (by rw [hmin]; rfl)
   (fun j v hj => by rw [Addr.add_lit, hWc, Nat.zero_add]; exact hOv j v (hx.cell (i := j) (v := v) hj))
   (fun j hj => by
    have hj3 : j < 3 := hj
    rw [hWc, z13 hh1, Array.getElem?_eq_getElem (by omega)]; rfl)
   (fun j hj => by rw [hWf]; exact z12 hh1 _) z1k
  rw [hmin] at h
  exact h
 have hh2 : (W1.setCells w.heap.size (p * 3) (flat [x])).heap[w.heap.size]? = some (.cells (setA ROW (p * 3) (flat [x])) 81 (0, 0)) := z0h _ _ _ W1 ROW 81 (0, 0) hh1
 have hgN : g ≠ w.heap.size := by omega
 have hcpB : ∀ (W : World), (∀ q, W.cell? q = (W1.setCells w.heap.size (p * 3) (flat [x])).cell? q) -> (∀ q, W.frozen? q = (W1.setCells w.heap.size (p * 3) (flat [x])).frozen? q) -> ∀ ty dc sc, (Builtin.copy_ #[22, 22] ty #[.slice (some ⟨w.heap.size, (p + 1) * 3, none⟩) (xs.length - p) dc, .slice (some ⟨g, off + p * 3, none⟩) (xs.length - p) sc]).run Tryz.prog W = .ok (goInt ((xs.length - p : Nat) : Int)) (W.setCells w.heap.size ((p + 1) * 3) (flat (xs.drop p))) := fun W hWc hWf ty dc sc => by
  have hmin : Nat.min (xs.length - p) (xs.length - p) = xs.length - p := Nat.min_self _
  have h := z16 W 22 22 ty 81 3 w.heap.size ((p + 1) * 3) (xs.length - p) dc ⟨g, off + p * 3, none⟩ (xs.length - p) sc (flat (xs.drop p)) Tryz.underlying22 hsz (by rw [hmin, hD])
   (fun j v hj => by
    rw [Addr.add_lit, hWc, World.cell?_setCells_out _ _ _ _ _ (fun h _ => absurd h hgN), Nat.add_assoc]
    exact hOb _ v (hcell (p * 3 + j) v (by rw [hdr, List.getElem?_drop] at hj; exact hj)))
   (fun j hj => by rw [hWc, z13 hh2, Array.getElem?_eq_getElem (by rw [z0j]; omega)]; rfl)
   (fun j hj => by rw [hWf]; exact z12 hh2 _) z1k
  rw [hmin] at h
  exact h
 have HFIN : Hid (∀ W : World, W.heap = ((W1.setCells w.heap.size (p * 3) (flat [x])).setCells w.heap.size ((p + 1) * 3) (flat (xs.drop p))).heap -> W.os = w.os -> W.tape = w.tape -> W.output = w.output -> Own W base (.slice (some ⟨w.heap.size, 0, none⟩) (xs.length + 1) G) (insF xs p x) /\ w.grownBy W (some g)) := hid (fun W hWh ho1 ho2 ho3 => by
  have hlen : (insF xs p x).length = xs.length + 1 := by
   rw [List.length_append, List.length_cons, List.length_take, List.length_drop]; omega
  have hh3 : W.heap[w.heap.size]? = some (.cells (setA (setA ROW (p * 3) (flat [x])) ((p + 1) * 3) (flat (xs.drop p))) 81 (0, 0)) := by
   rw [hWh]
   exact z0h _ _ _ _ _ 81 (0, 0) hh2
  have hfx : (flat [x]).length = 3 := rfl
  refine ⟨?_, ⟨ho1, ho2, ho3, ?_, fun k hk hne2 => ?_⟩⟩
  ·rw [<- hlen]
   refine z1s hh3 (by rw [z0j, z0j]; exact hRl) ?_ hbase (by omega) (by unfold maxLen; exact hG63)
   have hRL : ROW.toList.length = G * 3 := by simpa using hRl
   have e1 : (setA ROW (p * 3) (flat [x])).toList = ROW.toList.take (p * 3) ++ flat [x] ++ ROW.toList.drop (p * 3 + (flat [x]).length) := z15 _ _ _ (by rw [hfx]; omega)
   rw [z15 _ _ _ (by rw [z0j, hD]; omega), e1, hfx, hlen, hRt]
   have e2 : (flat (xs.take p) ++ flat [x] ++ ROW.toList.drop (p * 3 + 3)).take ((p + 1) * 3) = flat (xs.take p) ++ flat [x] := by
    rw [List.take_append_of_le_length (by simp only [List.length_append, hT, hfx]; omega), List.take_of_length_le (by simp only [List.length_append, hT, hfx]; omega)]
   have e4 : flat (insF xs p x) = flat (xs.take p) ++ flat [x] ++ flat (xs.drop p) := by
    rw [z0s, show x :: xs.drop p = [x] ++ xs.drop p from rfl, z0s, List.append_assoc]
   rw [e2, e4, List.take_append_of_le_length (by simp only [List.length_append, hT, hD, hfx]; omega)]
   exact List.take_of_length_le (by simp only [List.length_append, hT, hD, hfx]; omega)
  ·rw [hWh, (z06 _ _ _ _).size, (z06 _ _ _ _).size, hW1]
   simp
  ·rw [hWh, (z06 _ _ _ _).block k (by omega), (z06 _ _ _ _).block k (by omega)]
   exact hbut1 k hk)
 have HOTH : Hid (∀ W : World, (W.os = w.os /\ W.tape = w.tape /\ W.output = w.output) -> (W.setCells w.heap.size ((p + 1) * 3) (flat (xs.drop p))).os = w.os /\ (W.setCells w.heap.size ((p + 1) * 3) (flat (xs.drop p))).tape = w.tape /\ (W.setCells w.heap.size ((p + 1) * 3) (flat (xs.drop p))).output = w.output) := hid (fun W hW => by
  have h := z06 w.heap.size (flat (xs.drop p)) ((p + 1) * 3) W
  exact ⟨h.os.trans hW.1, h.tape.trans hW.2.1, h.output.trans hW.2.2⟩)
 have HHP : Hid (∀ W W' : World, W.heap = W'.heap -> (W.setCells w.heap.size ((p + 1) * 3) (flat (xs.drop p))).heap = (W'.setCells w.heap.size ((p + 1) * 3) (flat (xs.drop p))).heap) := hid (fun W W' h => z7n _ _ _ W W' h)
 have hz2 : ¬ ((p : Int) = (xs.length : Int)) := by omega
 have hz4 : (cap : Int) < (xs.length : Int) + 1 := by omega
 have hw1 : IntKind.i64.wrap ((p : Int) + 1) = (p : Int) + 1 := by rw [IntKind.wrap_i64]; omega
 have hb1 : (0 : Int) <= (p : Int) + 1 := by omega
 have hin : p <= xs.length := by omega
 have htn : ((p : Int) + 1).toNat = p + 1 := by omega
 have hGi : ¬ (G = p) := by omega
 have hGim : ¬ (G = p + 1) := by omega
 have hci : ¬ (cap = p) := by omega
 have hb3 : (p : Int) <= (xs.length : Int) + 1 := by omega
 have hb5 : (p : Int) <= (xs.length : Int) := by omega
 have hb7 : (p : Int) + 1 <= (xs.length : Int) + 1 := by omega
 have hb8 : (p : Int) <= (cap : Int) := by omega
 have hb9 : (xs.length : Int) + 1 <= (G : Int) := by omega
 subst hW1
 have hE1 : ∀ q, ((w.alloc (.cells ROW 81)).drew).cell? q = (w.drew.alloc (.cells ROW 81)).cell? q := fun q => rfl
 have hE2 : ∀ q, ((w.alloc (.cells ROW 81)).drew).frozen? q = (w.drew.alloc (.cells ROW 81)).frozen? q := fun q => rfl
 have hF1 : ∀ q, (((w.alloc (.cells ROW 81)).drew.setCells w.heap.size (p * 3) (flat [x])).drew).cell? q = ((w.drew.alloc (.cells ROW 81)).setCells w.heap.size (p * 3) (flat [x])).cell? q := fun q => rfl
 have hF2 : ∀ q, (((w.alloc (.cells ROW 81)).drew.setCells w.heap.size (p * 3) (flat [x])).drew).frozen? q = ((w.drew.alloc (.cells ROW 81)).setCells w.heap.size (p * 3) (flat [x])).frozen? q := fun q => rfl
 clear hh hs ht hb hfl htk hdr hD hT hsz hcell hgw hvw hkk hik hold hG hROW hRl hRt hz3 hh1 hh2 hbut1 hOb hOv hgN hown hown0 hx h0 hi0 hz0 hzs hzb
 generalize xs.length = L at *
 go_enter Tryz.func225, Tryz.ntmps225
 go_wp2_with (first
  | (at_builtin; refine Lib.wpList_append_run _ rfl _ _ _ _ rfl _ _ rfl rfl _ _ (hrz _) ?_)
  | (refine z2g _ rfl _ _ 22 22 rfl _ _ rfl rfl (hcpA _ hE1 hE2 _ _) ?_))
 go_region_law (refine z2r rfl _ _ 22 22 rfl (.slice (some ⟨w.heap.size, (p + 1) * 3, none⟩) (L - p) (G - (p + 1))) (.slice (some ⟨g, off + p * 3, none⟩) (L - p) (cap - p)) (by simp [Act.eval, Act.put]) (by simp [Act.eval, Act.put]) (hcpB _ hF1 hF2 3 (G - (p + 1)) (cap - p)) ?_)
 go_wp2
 go_ret
 have HO3 := HOTH.out ((w.alloc (.cells ROW 81)).drew.setCells w.heap.size (p * 3) (flat [x])).drew ⟨rfl, rfl, rfl⟩
 exact ⟨_, rfl, HFIN.out _ (HHP.out ((w.alloc (.cells ROW 81)).drew.setCells w.heap.size (p * 3) (flat [x])).drew _ rfl) HO3.1 HO3.2.1 HO3.2.2⟩
theorem zan (w : World) (base : Nat) (v : Value) (xs : List Ent) (x : Ent) (p gv : Nat) (hown : Own w base v xs) (hbase : base <= w.heap.size) (hl : xs.length <= 1000) (hp : p <= xs.length) (hx : Row w gv 81 [.string x.loc, .string x.key, .string x.pat]) (hne : v.ownBlock ≠ some gv) :
  Calls Tryz.prog 225 #[v, .int .i64 p, .slice (some ⟨gv, 0, none⟩) 1 1] w (z40 base v (insF xs p x) w) := by
 obtain ⟨a, cap, rfl, hc, -, hg⟩ := z0g hown
 rcases Nat.lt_or_eq_of_le hp with h | rfl
 ·obtain ⟨g, rfl⟩ := hg (by omega)
  by_cases hr : xs.length + 1 <= cap
  ·exact z8k w base g cap xs x p gv 0 (hid rfl) hown hl h hr hx (fun e => hne (by rw [e]; rfl))
  ·exact z8l w base g cap xs x p gv 0 (hid rfl) hown hbase hl h (by omega) hx
 ·have h := zam w base a cap xs x gv hown hbase hl hx
  rw [show insF xs xs.length x = xs ++ [x] by show xs.take xs.length ++ x :: xs.drop xs.length = _; rw [List.take_length, List.drop_length]]
  exact h
end Go.Proofs.YtdkkkeoicekdgaaGreatDoor.Ca
