/- slices.Delete of one entry. -/
import Derived.StillTailTactics
import Derived.Test.YtdkkkeoicekdgaaGreatDoorZEEi

section

namespace Go.Proofs.YtdkkkeoicekdgaaGreatDoor.Ca
set_option maxHeartbeats 4000000
set_option maxRecDepth 100000
open Go.Lib (hid)
open Go.RowKit Go.Proofs.YtdkkkeoicekdgaaGreatDoor
theorem z8t (w : World) (ty : TypeId) (b o n c : Nat) (hn : n = 1) (hc : ∀ j, j < 3 -> (w.cell? ⟨b, o + j, none⟩).isSome = true) (hf : ∀ j, j < 3 -> w.frozen? ⟨b, o + j, none⟩ = false) :
  (Builtin.clear_ #[22] ty #[.slice (some ⟨b, o, none⟩) n c]).run Tryz.prog w = .ok (.tuple #[]) (w.setCells b o (flat [noE])) := by
 subst hn;have a := run_storeCells_cells (P := Tryz.prog) b o (flat [noE]) 0 w (fun j hj => by have := hc j hj; simpa using this) (fun j hj => by have := hf j hj; simpa using this) z2l;simp only [Nat.add_zero] at a
 have d : (Builtin.zeroCells (Value.agg #[.string ⟨#[]⟩, .string ⟨#[]⟩, .string ⟨#[]⟩]).cells 1).toList = flat [noE] := by kernel_rfl
 have hz := Tryz.zeroValue81
 simp [Builtin.clear_, run_underlying Tryz.underlying22, hz, d, a]
theorem zij (w : World) (base g cap : Nat) (xs : List Ent) (p off : Nat) (hoff : Hid (off = 0)) (hown : Own w base (.slice (some ⟨g, off, none⟩) xs.length cap) xs) (hl : xs.length <= 1000) (hp : p < xs.length) :
  Calls Tryz.prog 251 #[.slice (some ⟨g, off, none⟩) xs.length cap, .int .i64 p, .int .i64 ((p : Int) + 1)] w (z65 base (.slice (some ⟨g, off, none⟩) xs.length cap) (xs.take p ++ xs.drop (p + 1)) w) := by
 have h0 := hoff.out;have b := hown;rw [h0] at b;obtain ⟨a, hh, hs, ht, hb, -, hc, hm⟩ := z3y b
 unfold maxLen at hm
 obtain ⟨i0, y, z, B, C⟩ := info_parts ze6;have D := z0q xs;have o := z44 xs p;have q := z45 xs (p + 1)
 have E : a.toList.length = cap * 3 := by simpa using hs
 have hD : (flat (xs.drop (p + 1))).length = (xs.length - (p + 1)) * 3 := by rw [z0q, List.length_drop]
 have hT : (flat (xs.take p)).length = p * 3 := by rw [z0q, List.length_take, Nat.min_eq_left (by omega)]
 have d : ∀ j u, (flat xs)[j]? = some u -> w.cell? ⟨g, off + j, none⟩ = some u := fun j u hu => by
  have := hown.sl.cells j u hu
  rwa [Addr.add_lit] at this
 obtain ⟨A, hA, r⟩ : ∃ A : Addr, (if cap = p + 1 then some (⟨g, off, none⟩ : Addr) else some ⟨g, off + (p + 1) * 3, none⟩) = some A /\ Hid (∀ t u, (flat (xs.drop (p + 1)))[t]? = some u -> w.drew.cell? (A.add t) = some u) := by
  by_cases h : cap = p + 1
  ·refine ⟨⟨g, off, none⟩, by simp [h], hid fun t u hu => ?_⟩
   have := (List.getElem?_eq_some_iff.1 hu).1
   omega
  ·refine ⟨⟨g, off + (p + 1) * 3, none⟩, by simp [h], hid fun t u hu => ?_⟩
   rw [Addr.add_lit, Nat.add_assoc];exact d ((p + 1) * 3 + t) u (by rw [q, List.getElem?_drop] at hu; exact hu)
 have s1 : Hid ((flat (xs.drop (p + 1))).length = (xs.length - (p + 1)) * 3) := hid hD;have s2 : Hid (∀ u ∈ flat (xs.drop (p + 1)), u.oneCell' = true) := hid z2l
 have s3 : Hid (∀ t, t < (flat (xs.drop (p + 1))).length -> (w.drew.cell? ⟨g, off + p * 3 + t, none⟩).isSome = true /\ w.drew.frozen? ⟨g, off + p * 3 + t, none⟩ = false) := hid fun t ht2 => by
  rw [h0, Nat.zero_add];refine ⟨?_, z1l (w := w.drew) hh _⟩
  rw [z1m (w := w.drew) hh, Array.getElem?_eq_getElem (by omega)]; rfl
 obtain ⟨W1, c⟩ : ∃ W1, W1 = w.drew.setCells g (off + p * 3) (flat (xs.drop (p + 1))) := ⟨_, rfl⟩
 have i : W1.heap[g]? = some (.cells (setA a (p * 3) (flat (xs.drop (p + 1)))) 81 (0, 0)) := by
  rw [c, h0, Nat.zero_add];exact z0v g _ _ w.drew a 81 (0, 0) hh
 have H : ∀ ty, (Builtin.clear_ #[22] ty #[.slice (some ⟨g, off + (p + (xs.length - (p + 1))) * 3, none⟩) (xs.length - (p + (xs.length - (p + 1)))) (cap - (p + (xs.length - (p + 1))))]).run Tryz.prog W1 = .ok (.tuple #[]) (W1.setCells g (off + (p + (xs.length - (p + 1))) * 3) (flat [noE])) := fun ty =>
  z8t W1 ty g _ _ _ (by omega) (fun j hj => by rw [h0, Nat.zero_add, z1m i, Array.getElem?_eq_getElem (by rw [z0y]; omega)]; rfl) (fun j hj => z1l i _)
 have hW : Hid (W1 = w.drew.setCells g (off + p * 3) (flat (xs.drop (p + 1)))) := hid c
 have s : Hid (∀ W : World, W.heap = (W1.setCells g (off + (p + (xs.length - (p + 1))) * 3) (flat [noE])).heap -> W.os = w.os -> W.tape = w.tape -> W.output = w.output -> Own W base (.slice (some ⟨g, off, none⟩) (p + (xs.length - (p + 1))) cap) (xs.take p ++ xs.drop (p + 1)) /\ w.grownBy W (some g)) := hid (fun W hWh ho1 ho2 ho3 => by
  have l : (xs.take p ++ xs.drop (p + 1)).length = p + (xs.length - (p + 1)) := by
   rw [List.length_append, List.length_take, List.length_drop]; omega
  have F : W.heap[g]? = some (.cells (setA (setA a (p * 3) (flat (xs.drop (p + 1)))) ((p + (xs.length - (p + 1))) * 3) (flat [noE])) 81 (0, 0)) := by
   rw [hWh, h0, Nat.zero_add];exact z0v _ _ _ _ _ 81 (0, 0) i
  have v : (flat [noE]).length = 3 := rfl;refine ⟨?_, ⟨ho1, ho2, ho3, ?_, fun k hk hne2 => ?_⟩⟩
  ·rw [h0, <- l]
   refine z33 F (by rw [z0y, z0y]; exact hs) ?_ hb (by omega) (by unfold maxLen; exact hm);have e1 : (setA a (p * 3) (flat (xs.drop (p + 1)))).toList = a.toList.take (p * 3) ++ flat (xs.drop (p + 1)) ++ a.toList.drop (p * 3 + (flat (xs.drop (p + 1))).length) := z1o _ _ _ (by rw [hD]; omega)
   have x : a.toList.take (p * 3) = flat (xs.take p) := by
    rw [o, <- ht, List.take_take, Nat.min_eq_left (by omega)]
   rw [z1o _ _ _ (by rw [z0y, v]; omega), e1, v, l, x]
   have G : (flat (xs.take p) ++ flat (xs.drop (p + 1))).length = (p + (xs.length - (p + 1))) * 3 := by rw [List.length_append, hT, hD]; omega
   rw [List.append_assoc, List.take_append_of_le_length (by rw [List.length_take, List.length_append, G, List.length_drop]; omega), List.take_take, Nat.min_self, List.take_append_of_le_length (by omega), List.take_of_length_le (by omega), z1c]
  ·rw [hWh, (z0e _ _ _ _).size, c, (z0e _ _ _ _).size]
   exact Nat.le_refl _
  ·rw [hWh, (z0e g _ _ W1).block k (fun e => hne2 (by rw [e])), c, (z0e g _ _ w.drew).block k (fun e => hne2 (by rw [e]))]
   rfl)
 have m : W1.os = w.os /\ W1.tape = w.tape /\ W1.output = w.output := by
  have h := z0e g (flat (xs.drop (p + 1))) (off + p * 3) w.drew
  rw [c]; exact ⟨h.os, h.tape, h.output⟩
 have f : Hid (Hid (W1.os = w.os /\ W1.tape = w.tape /\ W1.output = w.output)) := hid (hid m)
 have I : p <= cap := by omega
 have J : (0 : Int) <= (p : Int) + 1 := by omega
 have M : ((p : Int) + 1).toNat = p + 1 := by omega
 have N : (p : Int) + 1 <= (xs.length : Int) := by omega
 have O : (p : Int) <= (p : Int) + 1 := by omega
 have R : ¬ ((p : Int) = (p : Int) + 1) := by omega
 have T : p + 1 <= cap := by omega
 have U : ¬ cap = p := by omega
 have V : ¬ cap = p + (xs.length - (p + 1)) := by omega
 have X : (xs.length : Int) <= (cap : Int) := by omega
 have Y : p + (xs.length - (p + 1)) <= xs.length := by omega
 clear hh hs ht hb D o q E hD hT d i hown b h0 c z C m
 generalize xs.length = L at *
 go_enter Tryz.func251, Tryz.ntmps251
 go_wp2_with fail
 go_region_law (refine step_append_room rfl (.tmp 22) (.tmp 25) 22 rfl 81 i0 3 Tryz.underlying22 y B g off p cap (by simp [Act.eval, Act.put]) A (L - (p + 1)) (cap - (p + 1)) (flat (xs.drop (p + 1))) (by simp [Act.eval, Act.put]) s1.out r.out s2.out (by omega) s3.out ?_; rw [<- hW.out])
 go_wp2;go_ret;have n := z0e g (flat [noE]) (off + (p + (L - (p + 1))) * 3) W1;exact ⟨_, rfl, s.out _ rfl (n.os.trans f.out.out.1) (n.tape.trans f.out.out.2.1) (n.output.trans f.out.out.2.2)⟩
theorem zfo (w : World) (base : Nat) (v : Value) (xs : List Ent) (p : Nat) (hown : Own w base v xs) (hl : xs.length <= 1000) (hp : p < xs.length) :
  Calls Tryz.prog 251 #[v, .int .i64 p, .int .i64 ((p : Int) + 1)] w (z65 base v (xs.take p ++ xs.drop (p + 1)) w) := by
 obtain ⟨a, b, rfl, hc, -, hg⟩ := z0j hown;obtain ⟨g, rfl⟩ := hg (by omega);exact zij w base g b xs p 0 (hid rfl) hown hl hp

set_option maxHeartbeats 6400000
set_option maxRecDepth 100000
structure SoL (B S : Nat) (w : World) (xs : List Ent) (v : Value) : Prop where
 row : Row w S 172 [v, cmpFn]
 own : Own w B v xs
 lt : B <= S
theorem SoL.ne {B S : Nat} {w : World} {xs : List Ent} {v : Value} (h : SoL B S w xs v) : v.ownBlock ≠ some S := fun e => by
 rcases h.own.2 with ⟨rfl, -⟩ | ⟨g, cap, cur, rfl, -, hh, -⟩
 ·cases e
 ·obtain rfl : g = S := Option.some.inj e
  have := h.row
  unfold Row at this
  rw [hh] at this
  injection this with h1
  injection h1 with _ h2
  cases h2
theorem SoL.below {B S : Nat} {w w' : World} {xs : List Ent} {v : Value} (h : SoL B S w xs v) (hb : Below w.heap.size w w') : SoL B S w' xs v := ⟨h.row.below hb, z0n h.own hb, h.lt⟩
theorem SoL.slice {B S : Nat} {w : World} {xs : List Ent} {v : Value} (h : SoL B S w xs v) : ∃ a cap, v = .slice a xs.length cap /\ xs.length <= cap /\ cap <= 9223372036854775807 /\ (0 < xs.length -> ∃ g, a = some ⟨g, 0, none⟩) := z0j h.own
theorem block_ne {w : World} {g b : Nat} {cur : Array Value} {e t : TypeId} {cs : List Value} {z : Nat × Nat} (hg : w.heap[g]? = some (.cells cur e z)) (hb : Row w b t cs) (hne : e ≠ t) : g ≠ b := fun h => by
 subst h
 unfold Row at hb
 rw [hg] at hb
 injection hb with h1
 injection h1 with _ h2
 exact hne h2
theorem set_eq (xs : List Ent) (p : Nat) (x : Ent) (hp : p < xs.length) : xs.set p x = xs.take p ++ x :: xs.drop (p + 1) := by rw [List.set_eq_take_append_cons_drop, if_pos hp]
theorem own_set {w : World} {B g cap p : Nat} {xs : List Ent} {x : Ent} (h : Own w B (.slice (some ⟨g, 0, none⟩) xs.length cap) xs) (hp : p < xs.length) :
  Own (w.setCells g (p * 3) (flat [x])) B (.slice (some ⟨g, 0, none⟩) xs.length cap) (xs.set p x) := by
 obtain ⟨c, hh, hs, ht, hb, -, hc, hm⟩ := z3y h
 have f : c.toList.length = cap * 3 := by simpa using hs
 have d := z0v g (flat [x]) (p * 3) w c 81 (0, 0) hh;have b : (xs.set p x).length = xs.length := List.length_set;have a : (flat [x]).length = 3 := rfl
 have key : Own (w.setCells g (p * 3) (flat [x])) B (.slice (some ⟨g, 0, none⟩) (xs.set p x).length cap) (xs.set p x) := by
  refine z33 d (by rw [z0y]; exact hs) ?_ hb (by omega) hm;rw [z1o _ _ _ (by rw [a]; omega), b, set_eq xs p x hp, z1c, show x :: xs.drop (p + 1) = [x] ++ xs.drop (p + 1) from rfl, z1c, z44, z45, <- ht, a];rw [List.take_take, Nat.min_eq_left (by omega), List.drop_take, List.append_assoc, List.take_append, List.take_append, List.length_take, Nat.min_eq_left (by omega), a];rw [List.take_take, Nat.min_eq_right (by omega), List.take_of_length_le (l := flat [x]) (by rw [a]; omega), show (p + 1) * 3 = p * 3 + 3 by omega, show xs.length * 3 - p * 3 - 3 = xs.length * 3 - (p * 3 + 3) by omega]
 rw [b] at key;exact key
def z6t (B S : Nat) (xs' : List Ent) (w : World) (e : Ending) (r : Value) (w' : World) : Prop := e = .returned r /\ ∃ v', SoL B S w' xs' v' /\ Below B w w'
theorem zec {B : Nat} {X : Nat -> Prop} {w w' : World} (h : Fr X w w') (hB : B <= w.heap.size) (hX : ∀ k, X k -> B <= k) : Below B w w' :=
 ⟨h.os, h.tape, h.output, h.size, fun k hk => h.block k (by omega) (fun hx => by have := hX k hx; omega)⟩
structure IK (B S : Nat) (v : Value) (xs : List Ent) (x : Ent) (bx gb : Nat) (w : World) (W : World) : Prop where
 so : SoL B S W xs v
 rb : Row W gb 81 [.string x.loc, .string x.key, .string x.pat]
 rx : Row W bx 81 [.string x.loc, .string x.key, .string x.pat]
 below : Below w.heap.size w W
 hB : B <= w.heap.size
 old : ∀ g, v.ownBlock = some g -> g < w.heap.size
 hbx : w.heap.size <= bx
 hgb : w.heap.size <= gb
theorem IK.insert {B S : Nat} {v : Value} {xs : List Ent} {x : Ent} {bx gb : Nat} {w W : World} {p : Nat} (h : IK B S v xs x bx gb w W) (hp : p <= xs.length) (hl : xs.length <= 1000) :
  Calls Tryz.prog 225 #[v, .int .i64 p, .slice (some ⟨gb, 0, none⟩) 1 1] W fun e w' => ∃ a' c', e = .returned (.slice a' (xs.length + 1) c') /\ (w'.cell? ⟨bx, 0, none⟩ = some (.string x.loc) /\ w'.cell? ⟨bx, 1, none⟩ = some (.string x.key) /\ w'.cell? ⟨bx, 2, none⟩ = some (.string x.pat)) /\ w'.cell? ⟨S, 0, none⟩ = some v /\ w'.frozen? ⟨S, 0, none⟩ = false /\ bx ≠ S /\
   Hid (SoL B S (w'.setCell ⟨S, 0, none⟩ (.slice a' (xs.length + 1) c')) (insF xs p x) (.slice a' (xs.length + 1) c') /\ Below B w (w'.setCell ⟨S, 0, none⟩ (.slice a' (xs.length + 1) c'))) := by
 refine (zfj W B v xs x p gb h.so.own (by have := h.below.size; have := h.hB; omega) hl hp h.rb (fun e => by have := h.old gb e; have := h.hgb; omega)).mono fun e w' hh => ?_
 obtain ⟨v', he, ho, hg⟩ := hh
 have c : (insF xs p x).length = xs.length + 1 := by rw [List.length_append, List.length_cons, List.length_take, List.length_drop]; omega
 obtain ⟨a', c', hv, -⟩ := z0j ho;rw [c] at hv;subst hv;have a : Row w' S 172 [v, cmpFn] := h.so.row.keep (hg.block S h.so.row.lt (fun e => h.so.ne e.symm));have b : Row w' bx 81 [.string x.loc, .string x.key, .string x.pat] := h.rx.keep (hg.block bx h.rx.lt (fun e => by have := h.old bx e.symm; have := h.hbx; omega))
 have d : bx ≠ S := fun e => by
  subst e;have h1 := h.rx;have h2 := h.so.row
  unfold Row at h1 h2
  rw [h1] at h2
  injection h2 with h3
  injection h3 with _ h4
  cases h4
 refine ⟨a', c', he, ⟨b.cell rfl, b.cell rfl, b.cell rfl⟩, a.cell rfl, a.thaw 0, d, hid ⟨⟨a.set 0 _, ?_, h.so.lt⟩, ?_⟩⟩
 ·refine z0d ho (fun g hgg => ?_)
  have f : g ≠ S := fun e => by
   subst e
   rcases ho.2 with ⟨h0, -⟩ | ⟨g', cap, cur, hv, -, hh, -⟩
   ·rw [h0] at hgg; cases hgg
   ·rw [hv] at hgg
    obtain rfl : g' = g := Option.some.inj hgg
    unfold Row at a
    rw [hh] at a
    injection a with h1
    injection h1 with _ h2
    cases h2
  exact Below.heap_setCell _ _ _ _ f
 ·have h1 : Below B W w' := zec (ze7 hg) (by have := h.below.size; have := h.hB; omega) (fun k hk => (h.so.own.lt k hk).1)
  have h2 : Below B w' (w'.setCell ⟨S, 0, none⟩ (.slice a' (xs.length + 1) c')) := ((But.refl S w').set 0 _).below h.so.lt;exact ((h.below.mono h.hB).trans h1).trans h2
theorem put_any (w : World) (B S : Nat) (xs : List Ent) (x : Ent) (v : Value) (hS : SoL B S w xs v) (hs : Srt xs) (hl : xs.length <= 200) (hB : B <= w.heap.size) :
  Calls Tryz.prog 193 #[.pointer (some ⟨S, 0, none⟩), enV x] w fun e w' => z6t B S (putC x xs) w e (.tuple #[]) w' := by
 have s := z03 w (.cells (enC x) 81);have q := hS.below s;have r0 := z02 w (enC x) 81;obtain ⟨a, c, rfl, aq, Y, hg⟩ := hS.slice;have r := hid (zah (w.alloc (.cells (enC x) 81)) S a c xs x q.row q.own.sl hs (by omega));have d0 := r0.c0;have d1 := r0.c1;have d2 := r0.c2;have E := hid s;have HS := hid q;have HR := hid r0;obtain ⟨fb, A⟩ := nmd (fndE x xs);obtain ⟨p, HP⟩ := nmd (posE x xs)
 have H : p <= xs.length := by have := z8z x xs; have := HP.out; omega
 rw [<- HP.out, <- A.out] at r;have au := hid hs
 cases fb with
 | true =>
  obtain ⟨y, hy, hf⟩ := zcs hs A.out.symm;have l : Hid (putC x xs = xs.set p x) := hid (by rw [put_old hs A.out.symm, HP.out])
  have aw : p < xs.length := by have := (List.getElem?_eq_some_iff.1 hy).1; have := HP.out; omega
  obtain ⟨g, rfl⟩ := hg (by omega)
  have ax : (p : Int) < (xs.length : Int) := by omega
  have ay := (hS.own.lt g rfl).2;clear hS q s r0 hs hy hf
  generalize hLL : xs.length = L at *
  have F := hid hLL;clear hLL;obtain ⟨xl, xk, xp⟩ := x;simp only at d0 d1 d2 E r HS HR l
  go_enter Tryz.func193, Tryz.ntmps193
  go_wp2_with fail
  refine r.out.mono ?_;rintro e w1 ⟨rfl, k⟩;have Z := hid (z00 E.out k);have m := hid (HS.out.below k);have f := hid (HR.out.below k)
  have t : Own w1 B (.slice (some ⟨g, 0, none⟩) xs.length c) xs := by have := m.out.own; rw [<- F.out] at this; exact this
  obtain ⟨az, hh, aa, ht, I, -, hc, hm⟩ := z3y t
  have J : S ≠ g := fun e => (block_ne hh m.out.row (by decide)) e.symm
  have ar : w.heap.size ≠ g := by omega
  have c0 : w1.drew.cell? ⟨S, 0, none⟩ = some (.slice (some ⟨g, 0, none⟩) L c) := m.out.row.c0;have e0 : w1.drew.cell? ⟨w.heap.size, 0, none⟩ = some (.string xl) := f.out.c0;have e1 : w1.drew.cell? ⟨w.heap.size, 1, none⟩ = some (.string xk) := f.out.c1;have e2 : w1.drew.cell? ⟨w.heap.size, 2, none⟩ = some (.string xp) := f.out.c2;have af : Hid (w1.drew.there g (p * 3) 3) := hid (fun j hj => ⟨by rw [z1m (w := w1.drew) hh, Array.getElem?_eq_getElem (by omega)]; rfl, z1l (w := w1.drew) hh _⟩)
  have M : (Tryz.prog.info? 81).map (·.size) = some 3 := by kernel_rfl
  have ag := hid (own_set (p := p) (x := ⟨xl, xk, xp⟩) t (by have := F.out; omega));have N : But g w1 (w1.setCells g (p * 3) (flat [⟨xl, xk, xp⟩])) := z0e _ _ _ _;have u := hid N;have ah : Hid (B <= g) := hid I
  have n : Hid (∀ W : World, W.heap = (w1.setCells g (p * 3) (flat [⟨xl, xk, xp⟩])).heap -> W.os = w1.os -> W.tape = w1.tape -> W.output = w1.output -> z6t B S (putC ⟨xl, xk, xp⟩ xs) w (.returned (.tuple #[])) (.tuple #[]) W) := hid (fun W h1 h2 h3 h4 => by
   have b : Same (w1.setCells g (p * 3) (flat [⟨xl, xk, xp⟩])) W := ⟨h2.trans u.out.os.symm, h3.trans u.out.tape.symm, h4.trans u.out.output.symm, h1⟩;refine ⟨rfl, .slice (some ⟨g, 0, none⟩) L c, ⟨b.row (u.out.row m.out.row J), ?_, m.out.lt⟩, ?_⟩
   ·have h5 := z0n ag.out (b.below)
    rw [l.out, <- F.out];exact h5
   ·exact ((Z.out.mono hB).trans (u.out.below ah.out)).trans b.below)
  clear hh aa ht t N I hc hm;go_wp2
  go_still_tail 7, (by kernel_rfl)
  change wpList _ _ _ _ _ w1.drew
  refine wpList_store_mid rfl 81 _ _ rfl g (p * 3) #[.string xl, .string xk, .string xp] rfl rfl af.out M (all_oneCell_toArray (cs := [.string xl, .string xk, .string xp]) (z2l (xs := [⟨xl, xk, xp⟩]))) ?_;go_wp2
  go_end0
  exact n.out _ rfl rfl rfl rfl
 | false =>
  have l : Hid (putC x xs = insF xs p x) := hid (by rw [put_new hs A.out.symm, HP.out])
  have D : ∀ g, (Value.slice a xs.length c).ownBlock = some g -> g < w.heap.size := fun g h => (hS.own.lt g h).2
  clear hs
  have C : Hid (∀ w1 W, Below (w.alloc (.cells (enC x) 81)).heap.size (w.alloc (.cells (enC x) 81)) w1 -> W.heap = (w1.alloc (.cells (enC x) 81)).heap -> W.os = w1.os -> W.tape = w1.tape -> W.output = w1.output -> IK B S (.slice a xs.length c) xs x w.heap.size w1.heap.size w W) := hid (fun w1 W hb h1 h2 h3 h4 => by
   have b : Same (w1.alloc (.cells (enC x) 81)) W := ⟨h2, h3, h4, h1⟩;have hw : Below w.heap.size w w1 := z00 s hb
   exact ⟨((q.below hb).below (z03 w1 (.cells (enC x) 81))).below b.below, b.row (z02 w1 (enC x) 81), b.row ((r0.below hb).alloc _), z00 (z00 hw (z03 w1 _)) b.below, hB, D, Nat.le_refl _, hw.size⟩)
  have n : Hid (∀ (w3 : World) a3 c3, Hid (SoL B S (w3.setCell ⟨S, 0, none⟩ (.slice a3 (xs.length + 1) c3)) (insF xs p x) (.slice a3 (xs.length + 1) c3) /\ Below B w (w3.setCell ⟨S, 0, none⟩ (.slice a3 (xs.length + 1) c3))) -> z6t B S (putC x xs) w (.returned (.tuple #[])) (.tuple #[]) (w3.setCell ⟨S, 0, none⟩ (.slice a3 (xs.length + 1) c3))) := hid (fun w3 a3 c3 h => ⟨rfl, _, by rw [l.out]; exact h.out.1, h.out.2⟩);have HC : Hid (∀ (W : World) (w1 : World), IK B S (.slice a xs.length c) xs x w.heap.size w1.heap.size w W -> _) := hid (fun W w1 h => h.insert (p := p) H (by omega));clear hS q s r0 D hg
  generalize hLL : xs.length = L at *
  clear hLL;obtain ⟨xl, xk, xp⟩ := x;simp only at d0 d1 d2 E r HS HR l C HC n
  go_enter Tryz.func193, Tryz.ntmps193
  go_wp2_with fail
  refine r.out.mono ?_;rintro e w1 ⟨rfl, k⟩;have m := hid (HS.out.below k);have f := hid (HR.out.below k);have c0 : w1.drew.cell? ⟨S, 0, none⟩ = some (.slice a L c) := m.out.row.c0;have c1 : (w1.drew.alloc (.cells #[.string xl, .string xk, .string xp] 81)).cell? ⟨S, 0, none⟩ = some (.slice a L c) := (m.out.below (z03 w1 _)).row.c0;have c2 : (w1.alloc (.cells #[.string xl, .string xk, .string xp] 81)).drew.cell? ⟨S, 0, none⟩ = some (.slice a L c) := c1;have e0 : w1.drew.cell? ⟨w.heap.size, 0, none⟩ = some (.string xl) := f.out.c0;have e1 : w1.drew.cell? ⟨w.heap.size, 1, none⟩ = some (.string xk) := f.out.c1;have e2 : w1.drew.cell? ⟨w.heap.size, 2, none⟩ = some (.string xp) := f.out.c2
  have ab : (w1.drew.alloc (.cells #[.string xl, .string xk, .string xp] 81)).cell? ⟨w.heap.size, 0, none⟩ = some (.string xl) /\ (w1.drew.alloc (.cells #[.string xl, .string xk, .string xp] 81)).cell? ⟨w.heap.size, 1, none⟩ = some (.string xk) /\ (w1.drew.alloc (.cells #[.string xl, .string xk, .string xp] 81)).cell? ⟨w.heap.size, 2, none⟩ = some (.string xp) :=
   ⟨(f.out.alloc _).cell rfl, (f.out.alloc _).cell rfl, (f.out.alloc _).cell rfl⟩
  have O := C.out w1 (w1.drew.alloc (.cells #[.string xl, .string xk, .string xp] 81)) k rfl rfl rfl rfl;have R := C.out w1 (w1.alloc (.cells #[.string xl, .string xk, .string xp] 81)).drew k rfl rfl rfl rfl;have T := hid O;have U := hid R;clear O R
  have V : Hid (∀ W : World, Hid (IK B S (.slice a L c) xs ⟨xl, xk, xp⟩ w.heap.size w1.heap.size w W) -> Calls Tryz.prog 225 #[.slice a L c, .int .i64 p, .slice (some ⟨w1.heap.size, 0, none⟩) 1 1] W fun e w' => ∃ a' c', e = .returned (.slice a' (L + 1) c') /\ (w'.cell? ⟨w.heap.size, 0, none⟩ = some (.string xl) /\ w'.cell? ⟨w.heap.size, 1, none⟩ = some (.string xk) /\ w'.cell? ⟨w.heap.size, 2, none⟩ = some (.string xp)) /\ w'.cell? ⟨S, 0, none⟩ = some (.slice a L c) /\ w'.frozen? ⟨S, 0, none⟩ = false /\ w.heap.size ≠ S /\
   Hid (SoL B S (w'.setCell ⟨S, 0, none⟩ (.slice a' (L + 1) c')) (insF xs p ⟨xl, xk, xp⟩) (.slice a' (L + 1) c') /\ Below B w (w'.setCell ⟨S, 0, none⟩ (.slice a' (L + 1) c')))) := hid (fun W h => HC.out W w1 h.out)
  have X := hid (fun w3 a3 c3 => n.out w3 a3 c3);clear k C r d0 d1 d2 HC n;go_wp2;refine wp_region_held_drew (S := fun W => W.cell? ⟨w.heap.size, 0, none⟩ = some (.string xl) /\ W.cell? ⟨w.heap.size, 1, none⟩ = some (.string xk) /\ W.cell? ⟨w.heap.size, 2, none⟩ = some (.string xp)) (by kernel_rfl) ⟨e0, e1, e2⟩ (fun hq0 => ?_);refine wpAnyH_take (i := 0) (oi := { dst := some 20, op := .move (.tmp 0), type := 196, pos := "sorted.go:37", after := #[], guard := none }) (v := ?_) rfl (by kernel_rfl) (by kernel_rfl) (by kernel_rfl) (fun _ _ _ h => h) (Or.inl ⟨by rfl, ?_⟩) (by assumption) ?_
  rotate_left
  ·(intro w hSw; (try dsimp only at hSw); go_simp) <;> with_reducible rfl
  simp only [Act.put, List.setIfInBounds_toArray, List.set_cons_zero, List.set_cons_succ];refine wpAnyH_take (i := 1) (oi := { dst := some 21, op := .move (.tmp 0), type := 196, pos := "sorted.go:37", after := #[], guard := none }) (v := ?_) rfl (by kernel_rfl) (by kernel_rfl) (by kernel_rfl) (fun _ _ _ h => h) (Or.inl ⟨by rfl, ?_⟩) (by assumption) ?_
  rotate_left
  ·(intro w hSw; (try dsimp only at hSw); go_simp) <;> with_reducible rfl
  simp only [Act.put, List.setIfInBounds_toArray, List.set_cons_zero, List.set_cons_succ];refine wpAnyH_take (i := 2) (oi := { dst := some 22, op := .nilCheck (.tmp 21), type := 0, pos := "sorted.go:37", after := #[{ on := 1, ground := .data }], guard := none }) (v := ?_) rfl (by kernel_rfl) (by kernel_rfl) (by kernel_rfl) (fun _ _ _ h => h) (Or.inl ⟨by rfl, ?_⟩) (by assumption) ?_
  rotate_left
  ·(intro w hSw; (try dsimp only at hSw); go_simp) <;> with_reducible rfl
  simp only [Act.put, List.setIfInBounds_toArray, List.set_cons_zero, List.set_cons_succ];refine wpAnyH_take (i := 3) (oi := { dst := some 23, op := .fieldAddr 172 (.tmp 22) 0, type := 0, pos := "sorted.go:37", after := #[{ on := 2, ground := .data }], guard := none }) (v := ?_) rfl (by kernel_rfl) (by kernel_rfl) (by kernel_rfl) (fun _ _ _ h => h) (Or.inl ⟨by rfl, ?_⟩) (by assumption) ?_
  rotate_left
  ·(intro w hSw; (try dsimp only at hSw); go_simp) <;> with_reducible rfl
  simp only [Act.put, List.setIfInBounds_toArray, List.set_cons_zero, List.set_cons_succ];refine wpAnyH_take (i := 5) (oi := { dst := some 25, op := .move (.tmp 4), type := 3, pos := "sorted.go:37", after := #[], guard := none }) (v := ?_) rfl (by kernel_rfl) (by kernel_rfl) (by kernel_rfl) (fun _ _ _ h => h) (Or.inl ⟨by rfl, ?_⟩) (by assumption) ?_
  rotate_left
  ·(intro w hSw; (try dsimp only at hSw); go_simp) <;> with_reducible rfl
  simp only [Act.put, List.setIfInBounds_toArray, List.set_cons_zero, List.set_cons_succ];refine wpAnyH_take (i := 6) (oi := { dst := some 26, op := .load 81 (.tmp 3), type := 81, pos := "sorted.go:37", after := #[], guard := none }) (v := ?_) rfl (by kernel_rfl) (by kernel_rfl) (by kernel_rfl) (fun _ _ _ h => h) (Or.inl ⟨by rfl, ?_⟩) (by assumption) ?_
  rotate_left
  ·(intro w hSw; (try dsimp only at hSw); go_simp) <;> with_reducible rfl
  simp only [Act.put, List.setIfInBounds_toArray, List.set_cons_zero, List.set_cons_succ];refine wpAnyH_ready (rs := [4, 7]) (by kernel_rfl) (by simp) ?_;refine AllReadyH.cons (o := { dst := some 24, op := .load 22 (.tmp 23), type := 22, pos := "sorted.go:37", after := #[{ on := 3, ground := .data }], guard := none }) rfl (fun K hK => ?_) ?_
  ·skip
   go_simp
   refine hK.out _ _ ?_ (fun hp1 => ?_)
   ·(try dsimp only) <;> (first | assumption | exact d | go_keep)
   clear hK K
   try simp only [Act.put, List.setIfInBounds_toArray, List.set_cons_zero, List.set_cons_succ]
   refine wpAnyH_ready (rs := [7]) (by kernel_rfl) (by simp) ?_;refine AllReadyH.cons (o := { dst := some 27, op := .buildSlice 22 1 #[(0, .tmp 26)], type := 22, pos := "sorted.go:37", after := #[{ on := 6, ground := .data }], guard := none }) rfl (fun K hK => ?_) AllReadyH.nil
   go_simp
   refine hK.out _ _ ?_ (fun hp2 => ?_)
   ·(try dsimp only) <;> exact ab
   clear hK K
   try simp only [Act.put, List.setIfInBounds_toArray, List.set_cons_zero, List.set_cons_succ]
   refine wpAnyH_ready (rs := [8]) (by kernel_rfl) (by simp) ?_;refine AllReadyH.cons (o := { dst := some 28, op := .call { callee := .value (.func 225), args := #[.tmp 24, .tmp 25, .tmp 27], argTypes := #[22, 3, 22] }, type := 22, pos := "sorted.go:37", after := #[{ on := 4, ground := .data }, { on := 5, ground := .data }, { on := 7, ground := .data }], guard := none }) rfl (fun K hK => ?_) AllReadyH.nil
   go_simp
   refine (V.out _ ?_).mono ?_
   ·first | exact T | exact U
   rintro e w3 ⟨a3, c3, rfl, d, ai, aj, z, G⟩
   go_wp2_with fail
   refine hK.out _ _ ?_ (fun hp3 => ?_)
   ·(try dsimp only) <;> exact d
   clear hK K
   try simp only [Act.put, List.setIfInBounds_toArray, List.set_cons_zero, List.set_cons_succ]
   refine wpAnyH_take (i := 9) (oi := { dst := some 29, op := .nilCheck (.tmp 20), type := 0, pos := "sorted.go:37", after := #[{ on := 0, ground := .data }, { on := 0, ground := .phase }, { on := 1, ground := .phase }, { on := 2, ground := .phase }, { on := 3, ground := .phase }, { on := 4, ground := .phase }, { on := 5, ground := .phase }, { on := 6, ground := .phase }, { on := 7, ground := .phase }, { on := 8, ground := .phase }], guard := none }) (v := ?_) rfl (by kernel_rfl) (by kernel_rfl) (by kernel_rfl) (fun _ _ _ h => h) (Or.inl ⟨by rfl, ?_⟩) (by assumption) ?_
   rotate_left
   ·(intro w hSw; (try dsimp only at hSw); go_simp) <;> with_reducible rfl
   simp only [Act.put, List.setIfInBounds_toArray, List.set_cons_zero, List.set_cons_succ];refine wpAnyH_take (i := 10) (oi := { dst := some 30, op := .fieldAddr 172 (.tmp 29) 0, type := 0, pos := "sorted.go:37", after := #[{ on := 9, ground := .data }, { on := 0, ground := .phase }, { on := 1, ground := .phase }, { on := 2, ground := .phase }, { on := 3, ground := .phase }, { on := 4, ground := .phase }, { on := 5, ground := .phase }, { on := 6, ground := .phase }, { on := 7, ground := .phase }, { on := 8, ground := .phase }], guard := none }) (v := ?_) rfl (by kernel_rfl) (by kernel_rfl) (by kernel_rfl) (fun _ _ _ h => h) (Or.inl ⟨by rfl, ?_⟩) (by assumption) ?_
   rotate_left
   ·(intro w hSw; (try dsimp only at hSw); go_simp) <;> with_reducible rfl
   simp only [Act.put, List.setIfInBounds_toArray, List.set_cons_zero, List.set_cons_succ];refine wpAnyH_ready (rs := [11]) (by kernel_rfl) (by simp) ?_;refine AllReadyH.cons (o := { dst := none, op := .store 22 (.tmp 30) (.tmp 28), type := 0, pos := "sorted.go:37", after := #[{ on := 10, ground := .data }, { on := 8, ground := .data }, { on := 8, ground := .chain }, { on := 0, ground := .phase }, { on := 1, ground := .phase }, { on := 2, ground := .phase }, { on := 3, ground := .phase }, { on := 4, ground := .phase }, { on := 5, ground := .phase }, { on := 6, ground := .phase }, { on := 7, ground := .phase }, { on := 8, ground := .phase }], guard := none }) rfl (fun K hK => ?_) AllReadyH.nil
   go_simp
   refine hK.out _ _ ?_ (fun hp4 => ?_)
   ·(try dsimp only) <;> (refine ⟨?_, ?_, ?_⟩ <;> (rw [World.cell?_setCell_far _ _ _ _ (by exact z.symm)]; first | exact d.1 | exact d.2.1 | exact d.2.2))
   clear hK K
   try simp only [Act.put, List.setIfInBounds_toArray, List.set_cons_zero, List.set_cons_succ]
   refine wpAnyH_done (by kernel_rfl) ?_ _;go_wp2
   go_end0
   exact X.out _ _ _ G
  refine AllReadyH.cons (o := { dst := some 27, op := .buildSlice 22 1 #[(0, .tmp 26)], type := 22, pos := "sorted.go:37", after := #[{ on := 6, ground := .data }], guard := none }) rfl (fun K hK => ?_) AllReadyH.nil
  go_simp
  refine hK.out _ _ ?_ (fun hp5 => ?_)
  ·(try dsimp only) <;> exact ab
  clear hK K
  try simp only [Act.put, List.setIfInBounds_toArray, List.set_cons_zero, List.set_cons_succ]
  refine wpAnyH_ready (rs := [4]) (by kernel_rfl) (by simp) ?_;refine AllReadyH.cons (o := { dst := some 24, op := .load 22 (.tmp 23), type := 22, pos := "sorted.go:37", after := #[{ on := 3, ground := .data }], guard := none }) rfl (fun K hK => ?_) AllReadyH.nil
  go_simp
  refine hK.out _ _ ?_ (fun hp6 => ?_)
  ·(try dsimp only) <;> (first | assumption | exact d | go_keep)
  clear hK K
  try simp only [Act.put, List.setIfInBounds_toArray, List.set_cons_zero, List.set_cons_succ]
  refine wpAnyH_ready (rs := [8]) (by kernel_rfl) (by simp) ?_;refine AllReadyH.cons (o := { dst := some 28, op := .call { callee := .value (.func 225), args := #[.tmp 24, .tmp 25, .tmp 27], argTypes := #[22, 3, 22] }, type := 22, pos := "sorted.go:37", after := #[{ on := 4, ground := .data }, { on := 5, ground := .data }, { on := 7, ground := .data }], guard := none }) rfl (fun K hK => ?_) AllReadyH.nil
  go_simp
  refine (V.out _ ?_).mono ?_
  ·first | exact T | exact U
  rintro e w3 ⟨a3, c3, rfl, d, ai, aj, z, G⟩
  go_wp2_with fail
  refine hK.out _ _ ?_ (fun hp7 => ?_)
  ·(try dsimp only) <;> exact d
  clear hK K
  try simp only [Act.put, List.setIfInBounds_toArray, List.set_cons_zero, List.set_cons_succ]
  refine wpAnyH_take (i := 9) (oi := { dst := some 29, op := .nilCheck (.tmp 20), type := 0, pos := "sorted.go:37", after := #[{ on := 0, ground := .data }, { on := 0, ground := .phase }, { on := 1, ground := .phase }, { on := 2, ground := .phase }, { on := 3, ground := .phase }, { on := 4, ground := .phase }, { on := 5, ground := .phase }, { on := 6, ground := .phase }, { on := 7, ground := .phase }, { on := 8, ground := .phase }], guard := none }) (v := ?_) rfl (by kernel_rfl) (by kernel_rfl) (by kernel_rfl) (fun _ _ _ h => h) (Or.inl ⟨by rfl, ?_⟩) (by assumption) ?_
  rotate_left
  ·(intro w hSw; (try dsimp only at hSw); go_simp) <;> with_reducible rfl
  simp only [Act.put, List.setIfInBounds_toArray, List.set_cons_zero, List.set_cons_succ];refine wpAnyH_take (i := 10) (oi := { dst := some 30, op := .fieldAddr 172 (.tmp 29) 0, type := 0, pos := "sorted.go:37", after := #[{ on := 9, ground := .data }, { on := 0, ground := .phase }, { on := 1, ground := .phase }, { on := 2, ground := .phase }, { on := 3, ground := .phase }, { on := 4, ground := .phase }, { on := 5, ground := .phase }, { on := 6, ground := .phase }, { on := 7, ground := .phase }, { on := 8, ground := .phase }], guard := none }) (v := ?_) rfl (by kernel_rfl) (by kernel_rfl) (by kernel_rfl) (fun _ _ _ h => h) (Or.inl ⟨by rfl, ?_⟩) (by assumption) ?_
  rotate_left
  ·(intro w hSw; (try dsimp only at hSw); go_simp) <;> with_reducible rfl
  simp only [Act.put, List.setIfInBounds_toArray, List.set_cons_zero, List.set_cons_succ];refine wpAnyH_ready (rs := [11]) (by kernel_rfl) (by simp) ?_;refine AllReadyH.cons (o := { dst := none, op := .store 22 (.tmp 30) (.tmp 28), type := 0, pos := "sorted.go:37", after := #[{ on := 10, ground := .data }, { on := 8, ground := .data }, { on := 8, ground := .chain }, { on := 0, ground := .phase }, { on := 1, ground := .phase }, { on := 2, ground := .phase }, { on := 3, ground := .phase }, { on := 4, ground := .phase }, { on := 5, ground := .phase }, { on := 6, ground := .phase }, { on := 7, ground := .phase }, { on := 8, ground := .phase }], guard := none }) rfl (fun K hK => ?_) AllReadyH.nil
  go_simp
  refine hK.out _ _ ?_ (fun hp8 => ?_)
  ·(try dsimp only) <;> (refine ⟨?_, ?_, ?_⟩ <;> (rw [World.cell?_setCell_far _ _ _ _ (by exact z.symm)]; first | exact d.1 | exact d.2.1 | exact d.2.2))
  clear hK K
  try simp only [Act.put, List.setIfInBounds_toArray, List.set_cons_zero, List.set_cons_succ]
  refine wpAnyH_done (by kernel_rfl) ?_ _;go_wp2
  go_end0
  exact X.out _ _ _ G
end Go.Proofs.YtdkkkeoicekdgaaGreatDoor.Ca

end
