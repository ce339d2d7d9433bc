/- slices.Delete of one entry. -/
import Derived.StillTailTactics
import Derived.RegionTactic
import Derived.Test.YtdkkkeoicekdgaaGreatDoorZAEi

section

namespace Go.Proofs.YtdkkkeoicekdgaaGreatDoor.Ca
set_option maxHeartbeats 4000000
set_option maxRecDepth 100000
open Go.Lib (hid)
open Go.RowKit Go.Proofs.YtdkkkeoicekdgaaGreatDoor
theorem z62 (w : World) (ty : TypeId) (b o n c : Nat) (hn : n = 1) (hc : ∀ j, j < 3 -> (w.cell? ⟨b, o + j, none⟩).isSome = true) (hf : ∀ j, j < 3 -> w.frozen? ⟨b, o + j, none⟩ = false) :
  (Builtin.clear_ #[22] ty #[.slice (some ⟨b, o, none⟩) n c]).run Tryz.prog w = .ok (.tuple #[]) (w.setCells b o (flat [noE])) := by
 subst hn
 have hst := run_storeCells_cells (P := Tryz.prog) b o (flat [noE]) 0 w (fun j hj => by have := hc j hj; simpa using this) (fun j hj => by have := hf j hj; simpa using this) z1k
 simp only [Nat.add_zero] at hst
 have hzc : (Builtin.zeroCells (Value.agg #[.string ⟨#[]⟩, .string ⟨#[]⟩, .string ⟨#[]⟩]).cells 1).toList = flat [noE] := by kernel_rfl
 have hz := Tryz.zeroValue81
 simp [Builtin.clear_, run_underlying Tryz.underlying22, hz, hzc, hst]
theorem zd2 (w : World) (base g cap : Nat) (xs : List Ent) (p off : Nat) (hoff : Hid (off = 0)) (hown : Own w base (.slice (some ⟨g, off, none⟩) xs.length cap) xs) (hl : xs.length <= 1000) (hp : p < xs.length) :
  Calls Tryz.prog 251 #[.slice (some ⟨g, off, none⟩) xs.length cap, .int .i64 p, .int .i64 ((p : Int) + 1)] w (z40 base (.slice (some ⟨g, off, none⟩) xs.length cap) (xs.take p ++ xs.drop (p + 1)) w) := by
 have h0 := hoff.out
 have hown0 := hown
 rw [h0] at hown0
 obtain ⟨cur, hh, hs, ht, hb, -, hc, hm⟩ := z2i hown0
 unfold maxLen at hm
 obtain ⟨i0, hi0, hz0, hzs, hzb⟩ := info_parts z9m
 have hfl := z0d xs
 have htk := z2j xs p
 have hdr := z2k xs (p + 1)
 have hcl : cur.toList.length = cap * 3 := by simpa using hs
 have hD : (flat (xs.drop (p + 1))).length = (xs.length - (p + 1)) * 3 := by rw [z0d, List.length_drop]
 have hT : (flat (xs.take p)).length = p * 3 := by rw [z0d, List.length_take, Nat.min_eq_left (by omega)]
 have hcell : ∀ j u, (flat xs)[j]? = some u -> w.cell? ⟨g, off + j, none⟩ = some u := fun j u hu => by
  have := hown.sl.cells j u hu
  rwa [Addr.add_lit] at this
 obtain ⟨A, hA, hsrc⟩ : ∃ A : Addr, (if cap = p + 1 then some (⟨g, off, none⟩ : Addr) else some ⟨g, off + (p + 1) * 3, none⟩) = some A /\ Hid (∀ t u, (flat (xs.drop (p + 1)))[t]? = some u -> w.drew.cell? (A.add t) = some u) := by
  by_cases h : cap = p + 1
  ·refine ⟨⟨g, off, none⟩, by simp [h], hid fun t u hu => ?_⟩
   have := (List.getElem?_eq_some_iff.1 hu).1
   omega
  ·refine ⟨⟨g, off + (p + 1) * 3, none⟩, by simp [h], hid fun t u hu => ?_⟩
   rw [Addr.add_lit, Nat.add_assoc]
   exact hcell ((p + 1) * 3 + t) u (by rw [hdr, List.getElem?_drop] at hu; exact hu)
 have s1 : Hid ((flat (xs.drop (p + 1))).length = (xs.length - (p + 1)) * 3) := hid hD
 have s2 : Hid (∀ u ∈ flat (xs.drop (p + 1)), u.oneCell' = true) := hid z1k
 have s3 : Hid (∀ t, t < (flat (xs.drop (p + 1))).length -> (w.drew.cell? ⟨g, off + p * 3 + t, none⟩).isSome = true /\ w.drew.frozen? ⟨g, off + p * 3 + t, none⟩ = false) := hid fun t ht2 => by
  rw [h0, Nat.zero_add]
  refine ⟨?_, z12 (w := w.drew) hh _⟩
  rw [z13 (w := w.drew) hh, Array.getElem?_eq_getElem (by omega)]; rfl
 obtain ⟨W1, hW1⟩ : ∃ W1, W1 = w.drew.setCells g (off + p * 3) (flat (xs.drop (p + 1))) := ⟨_, rfl⟩
 have hh1 : W1.heap[g]? = some (.cells (setA cur (p * 3) (flat (xs.drop (p + 1)))) 81 (0, 0)) := by
  rw [hW1, h0, Nat.zero_add]
  exact z0h g _ _ w.drew cur 81 (0, 0) hh
 have hcle : ∀ ty, (Builtin.clear_ #[22] ty #[.slice (some ⟨g, off + (p + (xs.length - (p + 1))) * 3, none⟩) (xs.length - (p + (xs.length - (p + 1)))) (cap - (p + (xs.length - (p + 1))))]).run Tryz.prog W1 = .ok (.tuple #[]) (W1.setCells g (off + (p + (xs.length - (p + 1))) * 3) (flat [noE])) := fun ty =>
  z62 W1 ty g _ _ _ (by omega) (fun j hj => by rw [h0, Nat.zero_add, z13 hh1, Array.getElem?_eq_getElem (by rw [z0j]; omega)]; rfl) (fun j hj => z12 hh1 _)
 have hW : Hid (W1 = w.drew.setCells g (off + p * 3) (flat (xs.drop (p + 1)))) := hid hW1
 have HFIN : Hid (∀ W : World, W.heap = (W1.setCells g (off + (p + (xs.length - (p + 1))) * 3) (flat [noE])).heap -> W.os = w.os -> W.tape = w.tape -> W.output = w.output -> Own W base (.slice (some ⟨g, off, none⟩) (p + (xs.length - (p + 1))) cap) (xs.take p ++ xs.drop (p + 1)) /\ w.grownBy W (some g)) := hid (fun W hWh ho1 ho2 ho3 => by
  have hlen : (xs.take p ++ xs.drop (p + 1)).length = p + (xs.length - (p + 1)) := by
   rw [List.length_append, List.length_take, List.length_drop]; omega
  have hh3 : W.heap[g]? = some (.cells (setA (setA cur (p * 3) (flat (xs.drop (p + 1)))) ((p + (xs.length - (p + 1))) * 3) (flat [noE])) 81 (0, 0)) := by
   rw [hWh, h0, Nat.zero_add]
   exact z0h _ _ _ _ _ 81 (0, 0) hh1
  have hfx : (flat [noE]).length = 3 := rfl
  refine ⟨?_, ⟨ho1, ho2, ho3, ?_, fun k hk hne2 => ?_⟩⟩
  ·rw [h0, <- hlen]
   refine z1s hh3 (by rw [z0j, z0j]; exact hs) ?_ hb (by omega) (by unfold maxLen; exact hm)
   have e1 : (setA cur (p * 3) (flat (xs.drop (p + 1)))).toList = cur.toList.take (p * 3) ++ flat (xs.drop (p + 1)) ++ cur.toList.drop (p * 3 + (flat (xs.drop (p + 1))).length) := z15 _ _ _ (by rw [hD]; omega)
   have hcut : cur.toList.take (p * 3) = flat (xs.take p) := by
    rw [htk, <- ht, List.take_take, Nat.min_eq_left (by omega)]
   rw [z15 _ _ _ (by rw [z0j, hfx]; omega), e1, hfx, hlen, hcut]
   have hll : (flat (xs.take p) ++ flat (xs.drop (p + 1))).length = (p + (xs.length - (p + 1))) * 3 := by rw [List.length_append, hT, hD]; omega
   rw [List.append_assoc, List.take_append_of_le_length (by rw [List.length_take, List.length_append, hll, List.length_drop]; omega), List.take_take, Nat.min_self, List.take_append_of_le_length (by omega), List.take_of_length_le (by omega), z0s]
  ·rw [hWh, (z06 _ _ _ _).size, hW1, (z06 _ _ _ _).size]
   exact Nat.le_refl _
  ·rw [hWh, (z06 g _ _ W1).block k (fun e => hne2 (by rw [e])), hW1, (z06 g _ _ w.drew).block k (fun e => hne2 (by rw [e]))]
   rfl)
 have hW1o : W1.os = w.os /\ W1.tape = w.tape /\ W1.output = w.output := by
  have h := z06 g (flat (xs.drop (p + 1))) (off + p * 3) w.drew
  rw [hW1]; exact ⟨h.os, h.tape, h.output⟩
 have HOTH : Hid (Hid (W1.os = w.os /\ W1.tape = w.tape /\ W1.output = w.output)) := hid (hid hW1o)
 have hpc : p <= cap := by omega
 have hp1 : (0 : Int) <= (p : Int) + 1 := by omega
 have hp2 : ((p : Int) + 1).toNat = p + 1 := by omega
 have hp3 : (p : Int) + 1 <= (xs.length : Int) := by omega
 have hp4 : (p : Int) <= (p : Int) + 1 := by omega
 have hne : ¬ ((p : Int) = (p : Int) + 1) := by omega
 have hjc : p + 1 <= cap := by omega
 have hcp : ¬ cap = p := by omega
 have hcq : ¬ cap = p + (xs.length - (p + 1)) := by omega
 have hlc : (xs.length : Int) <= (cap : Int) := by omega
 have hlq : p + (xs.length - (p + 1)) <= xs.length := by omega
 clear hh hs ht hb hfl htk hdr hcl hD hT hcell hh1 hown hown0 h0 hW1 hz0 hzb hW1o
 generalize xs.length = L at *
 go_enter Tryz.func251, Tryz.ntmps251
 go_wp2_with fail
 go_region_law (refine step_append_room rfl (.tmp 22) (.tmp 25) 22 rfl 81 i0 3 Tryz.underlying22 hi0 hzs g off p cap (by simp [Act.eval, Act.put]) A (L - (p + 1)) (cap - (p + 1)) (flat (xs.drop (p + 1))) (by simp [Act.eval, Act.put]) s1.out hsrc.out s2.out (by omega) s3.out ?_; rw [<- hW.out])
 go_wp2
 go_ret
 have hb9 := z06 g (flat [noE]) (off + (p + (L - (p + 1))) * 3) W1
 exact ⟨_, rfl, HFIN.out _ rfl (hb9.os.trans HOTH.out.out.1) (hb9.tape.trans HOTH.out.out.2.1) (hb9.output.trans HOTH.out.out.2.2)⟩
theorem zat (w : World) (base : Nat) (v : Value) (xs : List Ent) (p : Nat) (hown : Own w base v xs) (hl : xs.length <= 1000) (hp : p < xs.length) :
  Calls Tryz.prog 251 #[v, .int .i64 p, .int .i64 ((p : Int) + 1)] w (z40 base v (xs.take p ++ xs.drop (p + 1)) w) := by
 obtain ⟨a, cap, rfl, hc, -, hg⟩ := z0g hown
 obtain ⟨g, rfl⟩ := hg (by omega)
 exact zd2 w base g cap xs p 0 (hid rfl) hown hl hp
end Go.Proofs.YtdkkkeoicekdgaaGreatDoor.Ca

end

section

namespace Go.Proofs.YtdkkkeoicekdgaaGreatDoor.Ca
set_option maxHeartbeats 6400000
set_option maxRecDepth 100000
open Go.Lib (hid)
open Go.RowKit Go.Proofs.YtdkkkeoicekdgaaGreatDoor
structure SoL (B S : Nat) (w : World) (xs : List Ent) (v : Value) : Prop where
 row : Row w S 172 [v, cmpFn]
 own : Own w B v xs
 lt : B <= S
theorem SoL.ne {B S : Nat} {w : World} {xs : List Ent} {v : Value} (h : SoL B S w xs v) : v.ownBlock ≠ some S := fun e => by
 rcases h.own.2 with ⟨rfl, -⟩ | ⟨g, cap, cur, rfl, -, hh, -⟩
 ·cases e
 ·obtain rfl : g = S := Option.some.inj e
  have := h.row
  unfold Row at this
  rw [hh] at this
  injection this with h1
  injection h1 with _ h2
  cases h2
theorem SoL.below {B S : Nat} {w w' : World} {xs : List Ent} {v : Value} (h : SoL B S w xs v) (hb : Below w.heap.size w w') : SoL B S w' xs v := ⟨h.row.below hb, z17 h.own hb, h.lt⟩
theorem SoL.slice {B S : Nat} {w : World} {xs : List Ent} {v : Value} (h : SoL B S w xs v) : ∃ a cap, v = .slice a xs.length cap /\ xs.length <= cap /\ cap <= 9223372036854775807 /\ (0 < xs.length -> ∃ g, a = some ⟨g, 0, none⟩) := z0g h.own
theorem block_ne {w : World} {g b : Nat} {cur : Array Value} {e t : TypeId} {cs : List Value} {z : Nat × Nat} (hg : w.heap[g]? = some (.cells cur e z)) (hb : Row w b t cs) (hne : e ≠ t) : g ≠ b := fun h => by
 subst h
 unfold Row at hb
 rw [hg] at hb
 injection hb with h1
 injection h1 with _ h2
 exact hne h2
theorem set_eq (xs : List Ent) (p : Nat) (x : Ent) (hp : p < xs.length) : xs.set p x = xs.take p ++ x :: xs.drop (p + 1) := by rw [List.set_eq_take_append_cons_drop, if_pos hp]
theorem own_set {w : World} {B g cap p : Nat} {xs : List Ent} {x : Ent} (h : Own w B (.slice (some ⟨g, 0, none⟩) xs.length cap) xs) (hp : p < xs.length) :
  Own (w.setCells g (p * 3) (flat [x])) B (.slice (some ⟨g, 0, none⟩) xs.length cap) (xs.set p x) := by
 obtain ⟨cur, hh, hs, ht, hb, -, hc, hm⟩ := z2i h
 have hcl : cur.toList.length = cap * 3 := by simpa using hs
 have hh2 := z0h g (flat [x]) (p * 3) w cur 81 (0, 0) hh
 have hlen : (xs.set p x).length = xs.length := List.length_set
 have hfx : (flat [x]).length = 3 := rfl
 have key : Own (w.setCells g (p * 3) (flat [x])) B (.slice (some ⟨g, 0, none⟩) (xs.set p x).length cap) (xs.set p x) := by
  refine z1s hh2 (by rw [z0j]; exact hs) ?_ hb (by omega) hm
  rw [z15 _ _ _ (by rw [hfx]; omega), hlen, set_eq xs p x hp, z0s, show x :: xs.drop (p + 1) = [x] ++ xs.drop (p + 1) from rfl, z0s, z2j, z2k, <- ht, hfx]
  rw [List.take_take, Nat.min_eq_left (by omega), List.drop_take, List.append_assoc, List.take_append, List.take_append, List.length_take, Nat.min_eq_left (by omega), hfx]
  rw [List.take_take, Nat.min_eq_right (by omega), List.take_of_length_le (l := flat [x]) (by rw [hfx]; omega), show (p + 1) * 3 = p * 3 + 3 by omega, show xs.length * 3 - p * 3 - 3 = xs.length * 3 - (p * 3 + 3) by omega]
 rw [hlen] at key
 exact key
def z4m (B S : Nat) (xs' : List Ent) (w : World) (e : Ending) (r : Value) (w' : World) : Prop := e = .returned r /\ ∃ v', SoL B S w' xs' v' /\ Below B w w'
theorem z9s {B : Nat} {X : Nat -> Prop} {w w' : World} (h : Fr X w w') (hB : B <= w.heap.size) (hX : ∀ k, X k -> B <= k) : Below B w w' :=
 ⟨h.os, h.tape, h.output, h.size, fun k hk => h.block k (by omega) (fun hx => by have := hX k hx; omega)⟩
structure IK (B S : Nat) (v : Value) (xs : List Ent) (x : Ent) (bx gb : Nat) (w : World) (W : World) : Prop where
 so : SoL B S W xs v
 rb : Row W gb 81 [.string x.loc, .string x.key, .string x.pat]
 rx : Row W bx 81 [.string x.loc, .string x.key, .string x.pat]
 below : Below w.heap.size w W
 hB : B <= w.heap.size
 old : ∀ g, v.ownBlock = some g -> g < w.heap.size
 hbx : w.heap.size <= bx
 hgb : w.heap.size <= gb
theorem IK.insert {B S : Nat} {v : Value} {xs : List Ent} {x : Ent} {bx gb : Nat} {w W : World} {p : Nat} (h : IK B S v xs x bx gb w W) (hp : p <= xs.length) (hl : xs.length <= 1000) :
  Calls Tryz.prog 225 #[v, .int .i64 p, .slice (some ⟨gb, 0, none⟩) 1 1] W fun e w' => ∃ a' c', e = .returned (.slice a' (xs.length + 1) c') /\ (w'.cell? ⟨bx, 0, none⟩ = some (.string x.loc) /\ w'.cell? ⟨bx, 1, none⟩ = some (.string x.key) /\ w'.cell? ⟨bx, 2, none⟩ = some (.string x.pat)) /\ w'.cell? ⟨S, 0, none⟩ = some v /\ w'.frozen? ⟨S, 0, none⟩ = false /\ bx ≠ S /\
   Hid (SoL B S (w'.setCell ⟨S, 0, none⟩ (.slice a' (xs.length + 1) c')) (insF xs p x) (.slice a' (xs.length + 1) c') /\ Below B w (w'.setCell ⟨S, 0, none⟩ (.slice a' (xs.length + 1) c'))) := by
 refine (zan W B v xs x p gb h.so.own (by have := h.below.size; have := h.hB; omega) hl hp h.rb (fun e => by have := h.old gb e; have := h.hgb; omega)).mono fun e w' hh => ?_
 obtain ⟨v', he, ho, hg⟩ := hh
 have hlen : (insF xs p x).length = xs.length + 1 := by rw [List.length_append, List.length_cons, List.length_take, List.length_drop]; omega
 obtain ⟨a', c', hv, -⟩ := z0g ho
 rw [hlen] at hv
 subst hv
 have hS' : Row w' S 172 [v, cmpFn] := h.so.row.keep (hg.block S h.so.row.lt (fun e => h.so.ne e.symm))
 have hx' : Row w' bx 81 [.string x.loc, .string x.key, .string x.pat] := h.rx.keep (hg.block bx h.rx.lt (fun e => by have := h.old bx e.symm; have := h.hbx; omega))
 have hbS : bx ≠ S := fun e => by
  subst e
  have h1 := h.rx
  have h2 := h.so.row
  unfold Row at h1 h2
  rw [h1] at h2
  injection h2 with h3
  injection h3 with _ h4
  cases h4
 refine ⟨a', c', he, ⟨hx'.cell rfl, hx'.cell rfl, hx'.cell rfl⟩, hS'.cell rfl, hS'.thaw 0, hbS, hid ⟨⟨hS'.set 0 _, ?_, h.so.lt⟩, ?_⟩⟩
 ·refine z0e ho (fun g hgg => ?_)
  have hne : g ≠ S := fun e => by
   subst e
   rcases ho.2 with ⟨h0, -⟩ | ⟨g', cap, cur, hv, -, hh, -⟩
   ·rw [h0] at hgg; cases hgg
   ·rw [hv] at hgg
    obtain rfl : g' = g := Option.some.inj hgg
    unfold Row at hS'
    rw [hh] at hS'
    injection hS' with h1
    injection h1 with _ h2
    cases h2
  exact Below.heap_setCell _ _ _ _ hne
 ·have h1 : Below B W w' := z9s (z9n hg) (by have := h.below.size; have := h.hB; omega) (fun k hk => (h.so.own.lt k hk).1)
  have h2 : Below B w' (w'.setCell ⟨S, 0, none⟩ (.slice a' (xs.length + 1) c')) := ((But.refl S w').set 0 _).below h.so.lt
  exact ((h.below.mono h.hB).trans h1).trans h2
theorem put_any (w : World) (B S : Nat) (xs : List Ent) (x : Ent) (v : Value) (hS : SoL B S w xs v) (hs : Srt xs) (hl : xs.length <= 200) (hB : B <= w.heap.size) :
  Calls Tryz.prog 193 #[.pointer (some ⟨S, 0, none⟩), enV x] w fun e w' => z4m B S (putC x xs) w e (.tuple #[]) w' := by
 have hb0 := z04 w (.cells (enC x) 81)
 have HS0 := hS.below hb0
 have r0 := z02 w (enC x) 81
 obtain ⟨a, cap, rfl, hcap, hcap2, hg⟩ := hS.slice
 have HPL := hid (z7b (w.alloc (.cells (enC x) 81)) S a cap xs x HS0.row HS0.own.sl hs (by omega))
 have d0 := r0.cell (i := 0) rfl
 have d1 := r0.cell (i := 1) rfl
 have d2 := r0.cell (i := 2) rfl
 have HB0 := hid hb0
 have HS := hid HS0
 have HR := hid r0
 obtain ⟨fb, HFB⟩ : ∃ p, Hid (p = fndE x xs) := ⟨_, hid rfl⟩
 obtain ⟨p, HP⟩ : ∃ p, Hid (p = posE x xs) := ⟨_, hid rfl⟩
 have hple : p <= xs.length := by have := z66 x xs; have := HP.out; omega
 rw [<- HP.out, <- HFB.out] at HPL
 have HSR := hid hs
 cases fb with
 | true =>
  obtain ⟨y, hy, hf⟩ := z8p hs HFB.out.symm
  have HPUT : Hid (putC x xs = xs.set p x) := hid (by rw [put_old hs HFB.out.symm, HP.out])
  have hpl : p < xs.length := by have := (List.getElem?_eq_some_iff.1 hy).1; have := HP.out; omega
  obtain ⟨g, rfl⟩ := hg (by omega)
  have hpL : (p : Int) < (xs.length : Int) := by omega
  have hgw := (hS.own.lt g rfl).2
  clear hS HS0 hb0 r0 hs hy hf
  generalize hLL : xs.length = L at *
  have HLL := hid hLL
  clear hLL
  obtain ⟨xl, xk, xp⟩ := x
  simp only at d0 d1 d2 HB0 HPL HS HR HPUT
  go_enter Tryz.func193, Tryz.ntmps193
  go_wp2_with fail
  refine HPL.out.mono ?_
  rintro e w1 ⟨rfl, hb1⟩
  have HB1 := hid (z00 HB0.out hb1)
  have HS1 := hid (HS.out.below hb1)
  have HR1 := hid (HR.out.below hb1)
  have hown : Own w1 B (.slice (some ⟨g, 0, none⟩) xs.length cap) xs := by have := HS1.out.own; rw [<- HLL.out] at this; exact this
  obtain ⟨cur, hh, hsz, ht, hBg, -, hc, hm⟩ := z2i hown
  have hSne : S ≠ g := fun e => (block_ne hh HS1.out.row (by decide)) e.symm
  have hXne : w.heap.size ≠ g := by omega
  have c0 : w1.drew.cell? ⟨S, 0, none⟩ = some (.slice (some ⟨g, 0, none⟩) L cap) := HS1.out.row.cell (i := 0) rfl
  have e0 : w1.drew.cell? ⟨w.heap.size, 0, none⟩ = some (.string xl) := HR1.out.cell (i := 0) rfl
  have e1 : w1.drew.cell? ⟨w.heap.size, 1, none⟩ = some (.string xk) := HR1.out.cell (i := 1) rfl
  have e2 : w1.drew.cell? ⟨w.heap.size, 2, none⟩ = some (.string xp) := HR1.out.cell (i := 2) rfl
  have HTH : Hid (w1.drew.there g (p * 3) 3) := hid (fun j hj => ⟨by rw [z13 (w := w1.drew) hh, Array.getElem?_eq_getElem (by omega)]; rfl, z12 (w := w1.drew) hh _⟩)
  have hi38 : (Tryz.prog.info? 81).map (·.size) = some 3 := by kernel_rfl
  have HO2 := hid (own_set (p := p) (x := ⟨xl, xk, xp⟩) hown (by have := HLL.out; omega))
  have hbt : But g w1 (w1.setCells g (p * 3) (flat [⟨xl, xk, xp⟩])) := z06 _ _ _ _
  have HBT := hid hbt
  have HBG : Hid (B <= g) := hid hBg
  have HFIN : Hid (∀ W : World, W.heap = (w1.setCells g (p * 3) (flat [⟨xl, xk, xp⟩])).heap -> W.os = w1.os -> W.tape = w1.tape -> W.output = w1.output -> z4m B S (putC ⟨xl, xk, xp⟩ xs) w (.returned (.tuple #[])) (.tuple #[]) W) := hid (fun W h1 h2 h3 h4 => by
   have hsame : Same (w1.setCells g (p * 3) (flat [⟨xl, xk, xp⟩])) W := ⟨h2.trans HBT.out.os.symm, h3.trans HBT.out.tape.symm, h4.trans HBT.out.output.symm, h1⟩
   refine ⟨rfl, .slice (some ⟨g, 0, none⟩) L cap, ⟨hsame.row (HBT.out.row HS1.out.row hSne), ?_, HS1.out.lt⟩, ?_⟩
   ·have h5 := z17 HO2.out (hsame.below)
    rw [HPUT.out, <- HLL.out]
    exact h5
   ·exact ((HB1.out.mono hB).trans (HBT.out.below HBG.out)).trans hsame.below)
  clear hh hsz ht hown hbt hBg hc hm
  go_wp2
  go_still_tail 7, (by kernel_rfl)
  change wpList _ _ _ _ _ w1.drew
  refine wpList_store_mid rfl 81 _ _ rfl g (p * 3) #[.string xl, .string xk, .string xp] rfl rfl HTH.out hi38 (all_oneCell_toArray (cs := [.string xl, .string xk, .string xp]) (z1k (xs := [⟨xl, xk, xp⟩]))) ?_
  go_wp2
  go_end0
  exact HFIN.out _ rfl rfl rfl rfl
 | false =>
  have HPUT : Hid (putC x xs = insF xs p x) := hid (by rw [put_new hs HFB.out.symm, HP.out])
  have hold : ∀ g, (Value.slice a xs.length cap).ownBlock = some g -> g < w.heap.size := fun g h => (hS.own.lt g h).2
  clear hs
  have HIK : Hid (∀ w1 W, Below (w.alloc (.cells (enC x) 81)).heap.size (w.alloc (.cells (enC x) 81)) w1 -> W.heap = (w1.alloc (.cells (enC x) 81)).heap -> W.os = w1.os -> W.tape = w1.tape -> W.output = w1.output -> IK B S (.slice a xs.length cap) xs x w.heap.size w1.heap.size w W) := hid (fun w1 W hb h1 h2 h3 h4 => by
   have hsame : Same (w1.alloc (.cells (enC x) 81)) W := ⟨h2, h3, h4, h1⟩
   have hw : Below w.heap.size w w1 := z00 hb0 hb
   exact ⟨((HS0.below hb).below (z04 w1 (.cells (enC x) 81))).below hsame.below, hsame.row (z02 w1 (enC x) 81), hsame.row ((r0.below hb).alloc _), z00 (z00 hw (z04 w1 _)) hsame.below, hB, hold, Nat.le_refl _, hw.size⟩)
  have HFIN : Hid (∀ (w3 : World) a3 c3, Hid (SoL B S (w3.setCell ⟨S, 0, none⟩ (.slice a3 (xs.length + 1) c3)) (insF xs p x) (.slice a3 (xs.length + 1) c3) /\ Below B w (w3.setCell ⟨S, 0, none⟩ (.slice a3 (xs.length + 1) c3))) -> z4m B S (putC x xs) w (.returned (.tuple #[])) (.tuple #[]) (w3.setCell ⟨S, 0, none⟩ (.slice a3 (xs.length + 1) c3))) := hid (fun w3 a3 c3 h => ⟨rfl, _, by rw [HPUT.out]; exact h.out.1, h.out.2⟩)
  have HC : Hid (∀ (W : World) (w1 : World), IK B S (.slice a xs.length cap) xs x w.heap.size w1.heap.size w W -> _) := hid (fun W w1 h => h.insert (p := p) hple (by omega))
  clear hS HS0 hb0 r0 hold hg
  generalize hLL : xs.length = L at *
  clear hLL
  obtain ⟨xl, xk, xp⟩ := x
  simp only at d0 d1 d2 HB0 HPL HS HR HPUT HIK HC HFIN
  go_enter Tryz.func193, Tryz.ntmps193
  go_wp2_with fail
  refine HPL.out.mono ?_
  rintro e w1 ⟨rfl, hb1⟩
  have HS1 := hid (HS.out.below hb1)
  have HR1 := hid (HR.out.below hb1)
  have c0 : w1.drew.cell? ⟨S, 0, none⟩ = some (.slice a L cap) := HS1.out.row.cell (i := 0) rfl
  have c1 : (w1.drew.alloc (.cells #[.string xl, .string xk, .string xp] 81)).cell? ⟨S, 0, none⟩ = some (.slice a L cap) := (HS1.out.below (z04 w1 _)).row.cell (i := 0) rfl
  have c2 : (w1.alloc (.cells #[.string xl, .string xk, .string xp] 81)).drew.cell? ⟨S, 0, none⟩ = some (.slice a L cap) := c1
  have e0 : w1.drew.cell? ⟨w.heap.size, 0, none⟩ = some (.string xl) := HR1.out.cell (i := 0) rfl
  have e1 : w1.drew.cell? ⟨w.heap.size, 1, none⟩ = some (.string xk) := HR1.out.cell (i := 1) rfl
  have e2 : w1.drew.cell? ⟨w.heap.size, 2, none⟩ = some (.string xp) := HR1.out.cell (i := 2) rfl
  have ab : (w1.drew.alloc (.cells #[.string xl, .string xk, .string xp] 81)).cell? ⟨w.heap.size, 0, none⟩ = some (.string xl) /\ (w1.drew.alloc (.cells #[.string xl, .string xk, .string xp] 81)).cell? ⟨w.heap.size, 1, none⟩ = some (.string xk) /\ (w1.drew.alloc (.cells #[.string xl, .string xk, .string xp] 81)).cell? ⟨w.heap.size, 2, none⟩ = some (.string xp) :=
   ⟨(HR1.out.alloc _).cell rfl, (HR1.out.alloc _).cell rfl, (HR1.out.alloc _).cell rfl⟩
  have HQ1 := HIK.out w1 (w1.drew.alloc (.cells #[.string xl, .string xk, .string xp] 81)) hb1 rfl rfl rfl rfl
  have HQ2 := HIK.out w1 (w1.alloc (.cells #[.string xl, .string xk, .string xp] 81)).drew hb1 rfl rfl rfl rfl
  have HQA := hid HQ1
  have HQB := hid HQ2
  clear HQ1 HQ2
  have HCC : Hid (∀ W : World, Hid (IK B S (.slice a L cap) xs ⟨xl, xk, xp⟩ w.heap.size w1.heap.size w W) -> Calls Tryz.prog 225 #[.slice a L cap, .int .i64 p, .slice (some ⟨w1.heap.size, 0, none⟩) 1 1] W fun e w' => ∃ a' c', e = .returned (.slice a' (L + 1) c') /\ (w'.cell? ⟨w.heap.size, 0, none⟩ = some (.string xl) /\ w'.cell? ⟨w.heap.size, 1, none⟩ = some (.string xk) /\ w'.cell? ⟨w.heap.size, 2, none⟩ = some (.string xp)) /\ w'.cell? ⟨S, 0, none⟩ = some (.slice a L cap) /\ w'.frozen? ⟨S, 0, none⟩ = false /\ w.heap.size ≠ S /\
   Hid (SoL B S (w'.setCell ⟨S, 0, none⟩ (.slice a' (L + 1) c')) (insF xs p ⟨xl, xk, xp⟩) (.slice a' (L + 1) c') /\ Below B w (w'.setCell ⟨S, 0, none⟩ (.slice a' (L + 1) c')))) := hid (fun W h => HC.out W w1 h.out)
  have HFF := hid (fun w3 a3 c3 => HFIN.out w3 a3 c3)
  clear hb1 HIK HPL d0 d1 d2 HC HFIN
  go_wp2
  refine wp_region_held_drew (S := fun W => W.cell? ⟨w.heap.size, 0, none⟩ = some (.string xl) /\ W.cell? ⟨w.heap.size, 1, none⟩ = some (.string xk) /\ W.cell? ⟨w.heap.size, 2, none⟩ = some (.string xp)) (by kernel_rfl) ⟨e0, e1, e2⟩ (fun hq0 => ?_)
  refine wpAnyH_take (i := 0) (oi := { dst := some 20, op := .move (.tmp 0), type := 196, pos := "sorted.go:37", after := #[], guard := none }) (v := ?_) rfl (by kernel_rfl) (by kernel_rfl) (by kernel_rfl) (fun _ _ _ h => h) (Or.inl ⟨by rfl, ?_⟩) (by assumption) ?_
  rotate_left
  ·(intro w hSw; (try dsimp only at hSw); go_simp) <;> with_reducible rfl
  simp only [Act.put, List.setIfInBounds_toArray, List.set_cons_zero, List.set_cons_succ]
  refine wpAnyH_take (i := 1) (oi := { dst := some 21, op := .move (.tmp 0), type := 196, pos := "sorted.go:37", after := #[], guard := none }) (v := ?_) rfl (by kernel_rfl) (by kernel_rfl) (by kernel_rfl) (fun _ _ _ h => h) (Or.inl ⟨by rfl, ?_⟩) (by assumption) ?_
  rotate_left
  ·(intro w hSw; (try dsimp only at hSw); go_simp) <;> with_reducible rfl
  simp only [Act.put, List.setIfInBounds_toArray, List.set_cons_zero, List.set_cons_succ]
  refine wpAnyH_take (i := 2) (oi := { dst := some 22, op := .nilCheck (.tmp 21), type := 0, pos := "sorted.go:37", after := #[{ on := 1, ground := .data }], guard := none }) (v := ?_) rfl (by kernel_rfl) (by kernel_rfl) (by kernel_rfl) (fun _ _ _ h => h) (Or.inl ⟨by rfl, ?_⟩) (by assumption) ?_
  rotate_left
  ·(intro w hSw; (try dsimp only at hSw); go_simp) <;> with_reducible rfl
  simp only [Act.put, List.setIfInBounds_toArray, List.set_cons_zero, List.set_cons_succ]
  refine wpAnyH_take (i := 3) (oi := { dst := some 23, op := .fieldAddr 172 (.tmp 22) 0, type := 0, pos := "sorted.go:37", after := #[{ on := 2, ground := .data }], guard := none }) (v := ?_) rfl (by kernel_rfl) (by kernel_rfl) (by kernel_rfl) (fun _ _ _ h => h) (Or.inl ⟨by rfl, ?_⟩) (by assumption) ?_
  rotate_left
  ·(intro w hSw; (try dsimp only at hSw); go_simp) <;> with_reducible rfl
  simp only [Act.put, List.setIfInBounds_toArray, List.set_cons_zero, List.set_cons_succ]
  refine wpAnyH_take (i := 5) (oi := { dst := some 25, op := .move (.tmp 4), type := 3, pos := "sorted.go:37", after := #[], guard := none }) (v := ?_) rfl (by kernel_rfl) (by kernel_rfl) (by kernel_rfl) (fun _ _ _ h => h) (Or.inl ⟨by rfl, ?_⟩) (by assumption) ?_
  rotate_left
  ·(intro w hSw; (try dsimp only at hSw); go_simp) <;> with_reducible rfl
  simp only [Act.put, List.setIfInBounds_toArray, List.set_cons_zero, List.set_cons_succ]
  refine wpAnyH_take (i := 6) (oi := { dst := some 26, op := .load 81 (.tmp 3), type := 81, pos := "sorted.go:37", after := #[], guard := none }) (v := ?_) rfl (by kernel_rfl) (by kernel_rfl) (by kernel_rfl) (fun _ _ _ h => h) (Or.inl ⟨by rfl, ?_⟩) (by assumption) ?_
  rotate_left
  ·(intro w hSw; (try dsimp only at hSw); go_simp) <;> with_reducible rfl
  simp only [Act.put, List.setIfInBounds_toArray, List.set_cons_zero, List.set_cons_succ]
  refine wpAnyH_ready (rs := [4, 7]) (by kernel_rfl) (by simp) ?_
  refine AllReadyH.cons (o := { dst := some 24, op := .load 22 (.tmp 23), type := 22, pos := "sorted.go:37", after := #[{ on := 3, ground := .data }], guard := none }) rfl (fun K hK => ?_) ?_
  ·skip
   go_simp
   refine hK.out _ _ ?_ (fun hp1 => ?_)
   ·(try dsimp only) <;> (first | assumption | exact hq9 | go_keep)
   clear hK K
   try simp only [Act.put, List.setIfInBounds_toArray, List.set_cons_zero, List.set_cons_succ]
   refine wpAnyH_ready (rs := [7]) (by kernel_rfl) (by simp) ?_
   refine AllReadyH.cons (o := { dst := some 27, op := .buildSlice 22 1 #[(0, .tmp 26)], type := 22, pos := "sorted.go:37", after := #[{ on := 6, ground := .data }], guard := none }) rfl (fun K hK => ?_) AllReadyH.nil
   go_simp
   refine hK.out _ _ ?_ (fun hp2 => ?_)
   ·(try dsimp only) <;> exact ab
   clear hK K
   try simp only [Act.put, List.setIfInBounds_toArray, List.set_cons_zero, List.set_cons_succ]
   refine wpAnyH_ready (rs := [8]) (by kernel_rfl) (by simp) ?_
   refine AllReadyH.cons (o := { dst := some 28, op := .call { callee := .value (.func 225), args := #[.tmp 24, .tmp 25, .tmp 27], argTypes := #[22, 3, 22] }, type := 22, pos := "sorted.go:37", after := #[{ on := 4, ground := .data }, { on := 5, ground := .data }, { on := 7, ground := .data }], guard := none }) rfl (fun K hK => ?_) AllReadyH.nil
   go_simp
   refine (HCC.out _ ?_).mono ?_
   ·first | exact HQA | exact HQB
   rintro e w3 ⟨a3, c3, rfl, hq9, hs0, hf0, hne9, HE9⟩
   go_wp2_with fail
   refine hK.out _ _ ?_ (fun hp3 => ?_)
   ·(try dsimp only) <;> exact hq9
   clear hK K
   try simp only [Act.put, List.setIfInBounds_toArray, List.set_cons_zero, List.set_cons_succ]
   refine wpAnyH_take (i := 9) (oi := { dst := some 29, op := .nilCheck (.tmp 20), type := 0, pos := "sorted.go:37", after := #[{ on := 0, ground := .data }, { on := 0, ground := .phase }, { on := 1, ground := .phase }, { on := 2, ground := .phase }, { on := 3, ground := .phase }, { on := 4, ground := .phase }, { on := 5, ground := .phase }, { on := 6, ground := .phase }, { on := 7, ground := .phase }, { on := 8, ground := .phase }], guard := none }) (v := ?_) rfl (by kernel_rfl) (by kernel_rfl) (by kernel_rfl) (fun _ _ _ h => h) (Or.inl ⟨by rfl, ?_⟩) (by assumption) ?_
   rotate_left
   ·(intro w hSw; (try dsimp only at hSw); go_simp) <;> with_reducible rfl
   simp only [Act.put, List.setIfInBounds_toArray, List.set_cons_zero, List.set_cons_succ]
   refine wpAnyH_take (i := 10) (oi := { dst := some 30, op := .fieldAddr 172 (.tmp 29) 0, type := 0, pos := "sorted.go:37", after := #[{ on := 9, ground := .data }, { on := 0, ground := .phase }, { on := 1, ground := .phase }, { on := 2, ground := .phase }, { on := 3, ground := .phase }, { on := 4, ground := .phase }, { on := 5, ground := .phase }, { on := 6, ground := .phase }, { on := 7, ground := .phase }, { on := 8, ground := .phase }], guard := none }) (v := ?_) rfl (by kernel_rfl) (by kernel_rfl) (by kernel_rfl) (fun _ _ _ h => h) (Or.inl ⟨by rfl, ?_⟩) (by assumption) ?_
   rotate_left
   ·(intro w hSw; (try dsimp only at hSw); go_simp) <;> with_reducible rfl
   simp only [Act.put, List.setIfInBounds_toArray, List.set_cons_zero, List.set_cons_succ]
   refine wpAnyH_ready (rs := [11]) (by kernel_rfl) (by simp) ?_
   refine AllReadyH.cons (o := { dst := none, op := .store 22 (.tmp 30) (.tmp 28), type := 0, pos := "sorted.go:37", after := #[{ on := 10, ground := .data }, { on := 8, ground := .data }, { on := 8, ground := .chain }, { on := 0, ground := .phase }, { on := 1, ground := .phase }, { on := 2, ground := .phase }, { on := 3, ground := .phase }, { on := 4, ground := .phase }, { on := 5, ground := .phase }, { on := 6, ground := .phase }, { on := 7, ground := .phase }, { on := 8, ground := .phase }], guard := none }) rfl (fun K hK => ?_) AllReadyH.nil
   go_simp
   refine hK.out _ _ ?_ (fun hp4 => ?_)
   ·(try dsimp only) <;> (refine ⟨?_, ?_, ?_⟩ <;> (rw [World.cell?_setCell_far _ _ _ _ (by exact hne9.symm)]; first | exact hq9.1 | exact hq9.2.1 | exact hq9.2.2))
   clear hK K
   try simp only [Act.put, List.setIfInBounds_toArray, List.set_cons_zero, List.set_cons_succ]
   refine wpAnyH_done (by kernel_rfl) ?_ _
   go_wp2
   go_end0
   exact HFF.out _ _ _ HE9
  refine AllReadyH.cons (o := { dst := some 27, op := .buildSlice 22 1 #[(0, .tmp 26)], type := 22, pos := "sorted.go:37", after := #[{ on := 6, ground := .data }], guard := none }) rfl (fun K hK => ?_) AllReadyH.nil
  go_simp
  refine hK.out _ _ ?_ (fun hp5 => ?_)
  ·(try dsimp only) <;> exact ab
  clear hK K
  try simp only [Act.put, List.setIfInBounds_toArray, List.set_cons_zero, List.set_cons_succ]
  refine wpAnyH_ready (rs := [4]) (by kernel_rfl) (by simp) ?_
  refine AllReadyH.cons (o := { dst := some 24, op := .load 22 (.tmp 23), type := 22, pos := "sorted.go:37", after := #[{ on := 3, ground := .data }], guard := none }) rfl (fun K hK => ?_) AllReadyH.nil
  go_simp
  refine hK.out _ _ ?_ (fun hp6 => ?_)
  ·(try dsimp only) <;> (first | assumption | exact hq9 | go_keep)
  clear hK K
  try simp only [Act.put, List.setIfInBounds_toArray, List.set_cons_zero, List.set_cons_succ]
  refine wpAnyH_ready (rs := [8]) (by kernel_rfl) (by simp) ?_
  refine AllReadyH.cons (o := { dst := some 28, op := .call { callee := .value (.func 225), args := #[.tmp 24, .tmp 25, .tmp 27], argTypes := #[22, 3, 22] }, type := 22, pos := "sorted.go:37", after := #[{ on := 4, ground := .data }, { on := 5, ground := .data }, { on := 7, ground := .data }], guard := none }) rfl (fun K hK => ?_) AllReadyH.nil
  go_simp
  refine (HCC.out _ ?_).mono ?_
  ·first | exact HQA | exact HQB
  rintro e w3 ⟨a3, c3, rfl, hq9, hs0, hf0, hne9, HE9⟩
  go_wp2_with fail
  refine hK.out _ _ ?_ (fun hp7 => ?_)
  ·(try dsimp only) <;> exact hq9
  clear hK K
  try simp only [Act.put, List.setIfInBounds_toArray, List.set_cons_zero, List.set_cons_succ]
  refine wpAnyH_take (i := 9) (oi := { dst := some 29, op := .nilCheck (.tmp 20), type := 0, pos := "sorted.go:37", after := #[{ on := 0, ground := .data }, { on := 0, ground := .phase }, { on := 1, ground := .phase }, { on := 2, ground := .phase }, { on := 3, ground := .phase }, { on := 4, ground := .phase }, { on := 5, ground := .phase }, { on := 6, ground := .phase }, { on := 7, ground := .phase }, { on := 8, ground := .phase }], guard := none }) (v := ?_) rfl (by kernel_rfl) (by kernel_rfl) (by kernel_rfl) (fun _ _ _ h => h) (Or.inl ⟨by rfl, ?_⟩) (by assumption) ?_
  rotate_left
  ·(intro w hSw; (try dsimp only at hSw); go_simp) <;> with_reducible rfl
  simp only [Act.put, List.setIfInBounds_toArray, List.set_cons_zero, List.set_cons_succ]
  refine wpAnyH_take (i := 10) (oi := { dst := some 30, op := .fieldAddr 172 (.tmp 29) 0, type := 0, pos := "sorted.go:37", after := #[{ on := 9, ground := .data }, { on := 0, ground := .phase }, { on := 1, ground := .phase }, { on := 2, ground := .phase }, { on := 3, ground := .phase }, { on := 4, ground := .phase }, { on := 5, ground := .phase }, { on := 6, ground := .phase }, { on := 7, ground := .phase }, { on := 8, ground := .phase }], guard := none }) (v := ?_) rfl (by kernel_rfl) (by kernel_rfl) (by kernel_rfl) (fun _ _ _ h => h) (Or.inl ⟨by rfl, ?_⟩) (by assumption) ?_
  rotate_left
  ·(intro w hSw; (try dsimp only at hSw); go_simp) <;> with_reducible rfl
  simp only [Act.put, List.setIfInBounds_toArray, List.set_cons_zero, List.set_cons_succ]
  refine wpAnyH_ready (rs := [11]) (by kernel_rfl) (by simp) ?_
  refine AllReadyH.cons (o := { dst := none, op := .store 22 (.tmp 30) (.tmp 28), type := 0, pos := "sorted.go:37", after := #[{ on := 10, ground := .data }, { on := 8, ground := .data }, { on := 8, ground := .chain }, { on := 0, ground := .phase }, { on := 1, ground := .phase }, { on := 2, ground := .phase }, { on := 3, ground := .phase }, { on := 4, ground := .phase }, { on := 5, ground := .phase }, { on := 6, ground := .phase }, { on := 7, ground := .phase }, { on := 8, ground := .phase }], guard := none }) rfl (fun K hK => ?_) AllReadyH.nil
  go_simp
  refine hK.out _ _ ?_ (fun hp8 => ?_)
  ·(try dsimp only) <;> (refine ⟨?_, ?_, ?_⟩ <;> (rw [World.cell?_setCell_far _ _ _ _ (by exact hne9.symm)]; first | exact hq9.1 | exact hq9.2.1 | exact hq9.2.2))
  clear hK K
  try simp only [Act.put, List.setIfInBounds_toArray, List.set_cons_zero, List.set_cons_succ]
  refine wpAnyH_done (by kernel_rfl) ?_ _
  go_wp2
  go_end0
  exact HFF.out _ _ _ HE9
end Go.Proofs.YtdkkkeoicekdgaaGreatDoor.Ca

end

section

namespace Go.Proofs.YtdkkkeoicekdgaaGreatDoor.Ca
set_option maxHeartbeats 6400000
set_option maxRecDepth 100000
open Go.Lib (hid)
open Go.RowKit Go.Proofs.YtdkkkeoicekdgaaGreatDoor
theorem SoL.stored {B S : Nat} {w W w' : World} {xs ys : List Ent} {v : Value} {a' : Option Addr} {n c' : Nat} (h : SoL B S W xs v) (hB : B <= W.heap.size) (hb : Below B w W) (ho : Own w' B (.slice a' n c') ys) (hg : W.grownBy w' v.ownBlock) :
  w'.cell? ⟨S, 0, none⟩ = some v /\ w'.frozen? ⟨S, 0, none⟩ = false /\ SoL B S (w'.setCell ⟨S, 0, none⟩ (.slice a' n c')) ys (.slice a' n c') /\ Below B w (w'.setCell ⟨S, 0, none⟩ (.slice a' n c')) := by
 have hS' : Row w' S 172 [v, cmpFn] := h.row.keep (hg.block S h.row.lt (fun e => h.ne e.symm))
 refine ⟨hS'.cell rfl, hS'.thaw 0, ⟨hS'.set 0 _, ?_, h.lt⟩, ?_⟩
 ·refine z0e ho (fun g hgg => ?_)
  have hne : g ≠ S := fun e => by
   subst e
   rcases ho.2 with ⟨h0, -⟩ | ⟨g', cap, cur, hv, -, hh, -⟩
   ·rw [h0] at hgg; cases hgg
   ·rw [hv] at hgg
    obtain rfl : g' = g := Option.some.inj hgg
    unfold Row at hS'
    rw [hh] at hS'
    injection hS' with h1
    injection h1 with _ h2
    cases h2
  exact Below.heap_setCell _ _ _ _ hne
 ·have h1 : Below B W w' := z9s (z9n hg) hB (fun k hk => (h.own.lt k hk).1)
  have h2 : Below B w' (w'.setCell ⟨S, 0, none⟩ (.slice a' n c')) := ((But.refl S w').set 0 _).below h.lt
  exact (hb.trans h1).trans h2
theorem zcx (w : World) (B S : Nat) (xs : List Ent) (x : Ent) (v : Value) (hS : SoL B S w xs v) (hs : Srt xs) (hl : xs.length <= 200) (hB : B <= w.heap.size) :
  Calls Tryz.prog 223 #[.pointer (some ⟨S, 0, none⟩), enV x] w fun e w' => z4m B S (dropC x.loc x.key xs) w e (.bool (fndE x xs)) w' := by
 have hb0 := z04 w (.cells (enC x) 81)
 have HS0 := hS.below hb0
 have r0 := z02 w (enC x) 81
 obtain ⟨a, cap, rfl, hcap, hcap2, hg⟩ := hS.slice
 have HPL := hid (z7b (w.alloc (.cells (enC x) 81)) S a cap xs x HS0.row HS0.own.sl hs (by omega))
 have d0 := r0.cell (i := 0) rfl
 have d1 := r0.cell (i := 1) rfl
 have d2 := r0.cell (i := 2) rfl
 have HB0 := hid hb0
 have HS := hid HS0
 obtain ⟨fb, HFB⟩ : ∃ p, Hid (p = fndE x xs) := ⟨_, hid rfl⟩
 obtain ⟨p, HP⟩ : ∃ p, Hid (p = posE x xs) := ⟨_, hid rfl⟩
 rw [<- HP.out, <- HFB.out] at HPL
 rw [<- HFB.out]
 cases fb with
 | true =>
  obtain ⟨y, hy, -⟩ := z8p hs HFB.out.symm
  have hpl : p < xs.length := by have := (List.getElem?_eq_some_iff.1 hy).1; have := HP.out; omega
  have HD : Hid (dropC x.loc x.key xs = xs.take p ++ xs.drop (p + 1)) := hid (by rw [z6i hs HFB.out.symm, HP.out])
  have HDL : Hid (∀ w1, Below (w.alloc (.cells (enC x) 81)).heap.size (w.alloc (.cells (enC x) 81)) w1 -> Calls Tryz.prog 251 #[.slice a xs.length cap, .int .i64 p, .int .i64 ((p : Int) + 1)] w1 fun e w' => ∃ a' n c', e = .returned (.slice a' n c') /\ w'.cell? ⟨S, 0, none⟩ = some (.slice a xs.length cap) /\ w'.frozen? ⟨S, 0, none⟩ = false /\ Hid (SoL B S (w'.setCell ⟨S, 0, none⟩ (.slice a' n c')) (dropC x.loc x.key xs) (.slice a' n c') /\ Below B w (w'.setCell ⟨S, 0, none⟩ (.slice a' n c')))) := hid (fun w1 hb => by
   have h1 := HS0.below hb
   refine (zat w1 B _ xs p h1.own (by omega) hpl).mono fun e w' hh => ?_
   obtain ⟨v', he, ho, hg'⟩ := hh
   obtain ⟨a', c', hv, -⟩ := z0g ho
   subst hv
   have hw1 : Below w.heap.size w w1 := z00 hb0 hb
   obtain ⟨k1, k2, k3, k4⟩ := h1.stored (w := w) (by have := hw1.size; omega) (hw1.mono hB) ho hg'
   exact ⟨a', _, c', he, k1, k2, hid ⟨by rw [HD.out]; exact k3, k4⟩⟩)
  clear hS HS0 hb0 r0 hs hy hg HD
  generalize hLL : xs.length = L at *
  clear hLL
  obtain ⟨xl, xk, xp⟩ := x
  simp only at d0 d1 d2 HB0 HPL HS HDL
  go_enter Tryz.func223, Tryz.ntmps223
  go_wp2_with fail
  refine HPL.out.mono ?_
  rintro e w1 ⟨rfl, hb1⟩
  have HS1 := hid (HS.out.below hb1)
  have HD1 := hid (HDL.out w1 hb1)
  have c0 : w1.cell? ⟨S, 0, none⟩ = some (.slice a L cap) := HS1.out.row.cell (i := 0) rfl
  clear hb1 HDL HPL d0 d1 d2
  go_wp2_with fail
  refine HD1.out.mono ?_
  rintro e w2 ⟨a2, n2, c2, rfl, hc2, hf2, hE2⟩
  go_wp2
  go_ret
  exact ⟨rfl, _, hE2.out⟩
 | false =>
  have HD : Hid (dropC x.loc x.key xs = xs) := hid (z54 (zcu hs HFB.out.symm))
  clear hS HS0 hb0 r0 hs hg
  generalize hLL : xs.length = L at *
  clear hLL
  obtain ⟨xl, xk, xp⟩ := x
  simp only at d0 d1 d2 HB0 HPL HS HD
  go_enter Tryz.func223, Tryz.ntmps223
  go_wp2_with fail
  refine HPL.out.mono ?_
  rintro e w1 ⟨rfl, hb1⟩
  have HS1 := hid (HS.out.below hb1)
  have HB1 := hid ((z00 HB0.out hb1).mono hB)
  go_wp2
  go_ret
  exact ⟨rfl, _, by rw [HD.out]; exact HS1.out, HB1.out⟩
theorem not_emp {s : BA} (h : s ≠ ⟨#[]⟩) : s.toList.isEmpty = false := by
 rw [ByteArray.toList_eq]
 cases hl : s.data.toList with
 | nil => exact absurd (ByteArray.ext (Array.toList_inj.1 (by rw [hl]))) h
 | cons => rfl
theorem fnd_iff {xs : List Ent} {x : Ent} (hs : Srt xs) : fndE x xs = (findC xs x.loc x.key).isSome := by
 cases h : fndE x xs with
 | true => obtain ⟨y, -, hy⟩ := z8p hs h; rw [hy]; rfl
 | false => rw [zcu hs h]; rfl
def OneP (B S : Nat) (r : Ans) (w : World) (e : Ending) (w' : World) : Prop := Below B w w' /\ match r with
 | .ok l => e = .returned (.int .i64 0) /\ ∃ v', SoL B S w' l v'
 | .error k => e = .returned (.int .i64 k)
def dropA (l : List Ent) (x : Ent) : Ans := if x.pat ≠ ⟨#[]⟩ then .error 110 else if (findC l x.loc x.key).isNone then .error 60 else .ok (dropC x.loc x.key l)
theorem drop_any (w : World) (B S : Nat) (xs : List Ent) (x : Ent) (v : Value) (hS : SoL B S w xs v) (hs : Srt xs) (hl : xs.length <= 200) (hB : B <= w.heap.size) :
  Calls Tryz.prog 192 #[.pointer (some ⟨S, 0, none⟩), enV x] w (OneP B S (dropA xs x) w) := by
 have hb0 := z04 w (.cells (enC x) 81)
 have r0 := z02 w (enC x) 81
 have d0 := r0.cell (i := 0) rfl
 have d1 := r0.cell (i := 1) rfl
 have d2 := r0.cell (i := 2) rfl
 have HB0 := hid hb0
 have HDR := hid (zcx (w.alloc (.cells (enC x) 81)) B S xs x v (hS.below hb0) hs hl (by rw [World.size_alloc]; omega))
 have HFI := hid (fnd_iff (x := x) hs)
 obtain ⟨fb, HFB⟩ : ∃ p, Hid (p = fndE x xs) := ⟨_, hid rfl⟩
 rw [<- HFB.out] at HDR HFI
 have HBB : Hid (B <= w.heap.size) := hid hB
 by_cases hp : x.pat = ⟨#[]⟩
 ·cases fb with
  | true =>
   have HA : Hid (dropA xs x = .ok (dropC x.loc x.key xs)) := hid (by
    unfold dropA
    rw [if_neg (by simpa using hp), if_neg (by rw [Option.isNone_iff_eq_none]; intro h; have := HFI.out; rw [h] at this; cases this)])
   clear hS hs hl hb0 r0
   obtain ⟨xl, xk, xp⟩ := x
   simp only at d0 d1 d2 HB0 HDR hp HA
   subst hp
   go_enter Tryz.func192, Tryz.ntmps192
   go_wp2_with fail
   refine HDR.out.mono ?_
   rintro e w1 ⟨rfl, v1, hs1, hb1⟩
   have HS1 := hid hs1
   have HB1 := hid hb1
   clear hs1 hb1
   go_wp2
   go_ret
   refine ⟨(HB0.out.mono HBB.out).trans HB1.out, ?_⟩
   rw [HA.out]
   exact ⟨rfl, v1, HS1.out⟩
  | false =>
   have HA : Hid (dropA xs x = .error 60) := hid (by
    unfold dropA
    rw [if_neg (by simpa using hp), if_pos (by rw [Option.isNone_iff_eq_none]; have := HFI.out; cases h : findC xs x.loc x.key with | none => rfl | some y => rw [h] at this; cases this)])
   clear hS hs hl hb0 r0
   obtain ⟨xl, xk, xp⟩ := x
   simp only at d0 d1 d2 HB0 HDR hp HA
   subst hp
   go_enter Tryz.func192, Tryz.ntmps192
   go_wp2_with fail
   refine HDR.out.mono ?_
   rintro e w1 ⟨rfl, v1, hs1, hb1⟩
   have HB1 := hid hb1
   clear hs1 hb1
   go_wp2
   go_ret
   refine ⟨(HB0.out.mono HBB.out).trans HB1.out, ?_⟩
   rw [HA.out]
   rfl
 ·have HA : Hid (dropA xs x = .error 110) := hid (by unfold dropA; rw [if_pos hp])
  have hpe := not_emp hp
  clear hS hs hl hb0 r0 hp HDR
  obtain ⟨xl, xk, xp⟩ := x
  simp only at d0 d1 d2 HB0 hpe HA
  go_enter Tryz.func192, Tryz.ntmps192
  go_wp2
  go_ret
  refine ⟨HB0.out.mono HBB.out, ?_⟩
  rw [HA.out]
  rfl
abbrev chV (c : Chg) : Value := .agg #[.bool c.drop, .string c.e.loc, .string c.e.key, .string c.e.pat]
abbrev chC (c : Chg) : Array Value := #[.bool c.drop, .string c.e.loc, .string c.e.key, .string c.e.pat]
theorem one_drop {l : List Ent} {c : Chg} (h : c.drop = true) : oneC l c = dropA l c.e := by unfold oneC dropA; rw [if_pos h]
theorem one_bad {l : List Ent} {c : Chg} (h : c.drop = false) (hm : mayB c.e = false) : oneC l c = .error 110 := by unfold oneC; rw [if_neg (by rw [h]; simp), if_pos hm]
theorem one_long {l : List Ent} {c : Chg} (h : c.drop = false) (hm : mayB c.e = true) (hl : 200 < (putC c.e l).length) : oneC l c = .error 2 := by unfold oneC; rw [if_neg (by rw [h]; simp), if_neg (by rw [hm]; simp), if_pos hl]
theorem one_put {l : List Ent} {c : Chg} (h : c.drop = false) (hm : mayB c.e = true) (hl : ¬ 200 < (putC c.e l).length) : oneC l c = .ok (putC c.e l) := by unfold oneC; rw [if_neg (by rw [h]; simp), if_neg (by rw [hm]; simp), if_neg hl]
theorem z6m (w : World) (B S : Nat) (xs : List Ent) (c : Chg) (v : Value) (hS : SoL B S w xs v) (hs : Srt xs) (hl : xs.length <= 200) (hB : B <= w.heap.size) (hF : FitE c.e) (hE : EnvC w) :
  Calls Tryz.prog 162 #[.pointer (some ⟨S, 0, none⟩), chV c] w (OneP B S (oneC xs c) w) := by
 have hb0 := z04 w (.cells (chC c) 83)
 have r0 := z02 w (chC c) 83
 have d0 := r0.cell (i := 0) rfl
 have d1 := r0.cell (i := 1) rfl
 have d2 := r0.cell (i := 2) rfl
 have d3 := r0.cell (i := 3) rfl
 have HB0 := hid (hb0.mono hB)
 have HSZ : Hid (B <= (w.alloc (.cells (chC c) 83)).heap.size) := hid (by rw [World.size_alloc]; omega)
 cases hd : c.drop with
 | true =>
  have HA := hid (one_drop (l := xs) hd)
  have HDR := hid (drop_any (w.alloc (.cells (chC c) 83)) B S xs c.e v (hS.below hb0) hs hl HSZ.out)
  clear hS hs hl hb0 r0 hF hE hB HSZ
  obtain ⟨cd, xl, xk, xp⟩ := c
  simp only at d0 d1 d2 d3 HB0 HDR HA hd
  subst hd
  go_enter Tryz.func162, Tryz.ntmps162
  go_wp2_with fail
  refine HDR.out.mono ?_
  rintro e w1 ⟨hb1, hr⟩
  have HB1 := hid (HB0.out.trans hb1)
  rw [<- HA.out] at hr
  cases ho : oneC xs ⟨true, xl, xk, xp⟩ with
  | ok l =>
   rw [ho] at hr
   obtain ⟨rfl, hv⟩ := hr
   have HV := hid hv
   have HO := hid ho
   clear hv ho hb1
   go_wp2
   go_ret
   refine ⟨HB1.out, ?_⟩
   rw [HO.out]
   exact ⟨rfl, HV.out⟩
  | error k =>
   rw [ho] at hr
   obtain rfl : e = .returned (.int .i64 k) := hr
   have HO := hid ho
   clear ho hb1
   go_wp2
   go_ret
   refine ⟨HB1.out, ?_⟩
   rw [HO.out]
   rfl
 | false =>
  have HW := hid (z6r c.e (w.alloc (.cells (chC c) 83)) (hE.below hb0) hF)
  have HS1 := hid (hS.below hb0)
  have HSR := hid hs
  have HRR := hid r0
  cases hm : mayB c.e with
  | false =>
   have HA := hid (one_bad (l := xs) hd hm)
   rw [hm] at HW
   clear hS hs hb0 r0 hF hE hm
   obtain ⟨cd, xl, xk, xp⟩ := c
   simp only at d0 d1 d2 d3 HB0 HW HA hd HSZ HS1 HRR
   subst hd
   go_enter Tryz.func162, Tryz.ntmps162
   go_wp2_with fail
   refine HW.out.mono ?_
   rintro e w1 ⟨rfl, hb1⟩
   have HB1 := hid (HB0.out.trans (hb1.mono HSZ.out))
   clear hb1
   go_wp2
   go_ret
   refine ⟨HB1.out, ?_⟩
   rw [HA.out]
   rfl
  | true =>
   rw [hm] at HW
   have HAL := hid (one_long (l := xs) hd hm)
   have HAO := hid (one_put (l := xs) hd hm)
   clear hS hs hb0 r0 hF hE hm
   obtain ⟨cd, xl, xk, xp⟩ := c
   simp only at d0 d1 d2 d3 HB0 HW HAL HAO hd HSZ HS1 HRR
   subst hd
   go_enter Tryz.func162, Tryz.ntmps162
   go_wp2_with fail
   refine HW.out.mono ?_
   rintro e w1 ⟨rfl, hb1⟩
   have HB1 := hid (HB0.out.trans (hb1.mono HSZ.out))
   have R1 := HRR.out.below hb1
   have e1 := R1.cell (i := 1) rfl
   have e2 := R1.cell (i := 2) rfl
   have e3 := R1.cell (i := 3) rfl
   have HP := hid (put_any w1 B S xs ⟨xl, xk, xp⟩ v (HS1.out.below hb1) HSR.out hl (by have := hb1.size; have := HSZ.out; omega))
   clear hb1 R1 HW
   go_wp2_with fail
   refine HP.out.mono ?_
   rintro e w2 ⟨rfl, v2, hs2, hb2⟩
   have HB2 := hid (HB1.out.trans hb2)
   obtain ⟨a2, cap2, rfl, -, hc2, -⟩ := hs2.slice
   have HS2 := hid hs2
   have c0 := hs2.row.cell (i := 0) rfl
   clear hb2 hs2 HP
   obtain ⟨n2, HN2⟩ : ∃ n, Hid (n = (putC ⟨xl, xk, xp⟩ xs).length) := ⟨_, hid rfl⟩
   rw [<- HN2.out] at c0 HS2 HAL HAO
   by_cases hn : 200 < n2
   ·have hn2 : (200 : Int) < n2 := by omega
    have HA := hid (HAL.out hn)
    clear hn
    go_wp2
    go_ret
    refine ⟨HB2.out, ?_⟩
    rw [HA.out]
    rfl
   ·have hn2 : ¬ (200 : Int) < n2 := by omega
    have HA := hid (HAO.out hn)
    clear hn
    go_wp2
    go_ret
    refine ⟨HB2.out, ?_⟩
    rw [HA.out]
    exact ⟨rfl, _, HS2.out⟩
end Go.Proofs.YtdkkkeoicekdgaaGreatDoor.Ca

end

section

namespace Go.Proofs.YtdkkkeoicekdgaaGreatDoor.Ca
set_option maxHeartbeats 6400000
set_option maxRecDepth 100000
open Go.Lib (hid)
open Go.RowKit Go.Proofs.YtdkkkeoicekdgaaGreatDoor
def CH (c : Chg) (cs : List Value) : Prop := cs = [.bool c.drop, .string c.e.loc, .string c.e.key, .string c.e.pat]
abbrev SlH (w : World) (S : Nat -> Prop) (v : Value) (xs : List Chg) : Prop := Sl 4 CH w S v xs
theorem SlH.old {w w' : World} {v : Value} {xs : List Chg} (h : SlH w (Old w) v xs) (hb : Below w.heap.size w w') : SlH w' (Old w') v xs := Sl.keep h (fun b hb2 => hb.block b hb2) (fun _ h => Nat.lt_of_lt_of_le h hb.size) (fun _ _ h => h)
theorem SlH.lt {w w' : World} {B : Nat} {v : Value} {xs : List Chg} (h : SlH w (fun b => b < B) v xs) (hb : Below B w w') : SlH w' (fun b => b < B) v xs := Sl.keep h (fun b hb2 => hb.block b hb2) (fun _ h => h) (fun _ _ h => h)
theorem SlH.len {w : World} {S : Nat -> Prop} {a : Option Addr} {n cap : Nat} {xs : List Chg} (h : SlH w S (.slice a n cap) xs) : n = xs.length /\ xs.length <= cap /\ cap <= 9223372036854775807 := by
 obtain ⟨a', cap', hv, h1, h2, -⟩ := h
 injection hv with _ h3 h4
 exact ⟨h3, by omega, by omega⟩
theorem SlH.get {w : World} {S : Nat -> Prop} {a : Option Addr} {n cap : Nat} {xs : List Chg} (h : SlH w S (.slice a n cap) xs) {j : Nat} {x : Chg} (hx : xs[j]? = some x) :
  ∃ b off, a = some ⟨b, off, none⟩ /\ S b /\ w.cell? ⟨b, off + j * 4, none⟩ = some (.bool x.drop) /\ w.cell? ⟨b, off + j * 4 + 1, none⟩ = some (.string x.e.loc) /\ w.cell? ⟨b, off + j * 4 + 2, none⟩ = some (.string x.e.key) /\ w.cell? ⟨b, off + j * 4 + 3, none⟩ = some (.string x.e.pat) := by
 obtain ⟨a', cap', hv, h1, h2, h3⟩ := h
 injection hv with h4 _ _
 subst h4
 obtain ⟨b, off, ha, hb, hat⟩ := h3 (fun e => by subst e; simp at hx)
 obtain ⟨cs, -, hc, hcc⟩ := hat j x hx
 unfold CH at hc
 subst hc
 exact ⟨b, off, ha, hb, hcc 0 _ rfl, hcc 1 _ rfl, hcc 2 _ rfl, hcc 3 _ rfl⟩
def z3o (r : Ans) (w : World) (e : Ending) (w' : World) : Prop := Below w.heap.size w w' /\ match r with
 | .ok l => ∃ a c, e = .returned (.tuple #[.slice a l.length c, .int .i64 0]) /\ SlE w' (Old w') (.slice a l.length c) l
 | .error k => e = .returned (.tuple #[.slice none 0 0, .int .i64 k])
theorem z3o.no {r : Ans} {w w' : World} {k : Nat} (h : r = .error k) (hb : Below w.heap.size w w') : z3o r w (.returned (.tuple #[.slice none 0 0, .int .i64 k])) w' := ⟨hb, by rw [h]⟩
theorem z3o.yes {r : Ans} {w w' : World} {l : List Ent} {a : Option Addr} {c : Nat} (h : r = .ok l) (hs : SlE w' (Old w') (.slice a l.length c) l) (hb : Below w.heap.size w w') : z3o r w (.returned (.tuple #[.slice a l.length c, .int .i64 0])) w' := ⟨hb, by rw [h]; exact ⟨a, c, rfl, hs⟩⟩
theorem zb0 {l : List Ent} {cs : List Chg} (h : z0m l ≠ 0) : z18 l cs = .error (z0m l) := by unfold z18; rw [if_pos h]
theorem z8x {l : List Ent} {cs : List Chg} (h : z0m l = 0) (h2 : 20 < cs.length) : z18 l cs = .error 2 := by unfold z18; rw [if_neg (by simpa using h), if_pos h2]
theorem zdl {l : List Ent} {cs : List Chg} (h : z0m l = 0) (h2 : ¬ 20 < cs.length) : z18 l cs = foldC l cs := by unfold z18; rw [if_neg (by simpa using h), if_neg h2]
theorem z77 (l : List Ent) : z0m l <= 110 := by
 unfold z0m
 split
 ·omega
 ·split <;> omega
theorem zdk (w : World) (a : Option Addr) (cap : Nat) (xs : List Ent) (b : Option Addr) (capc : Nat) (cs : List Chg) (hX : SlE w (Old w) (.slice a xs.length cap) xs) (hC : SlH w (Old w) (.slice b cs.length capc) cs) (hF : ∀ x, x ∈ xs -> FitE x) (hFC : ∀ c, c ∈ cs -> FitE c.e) (hE : EnvC w) :
  Calls Tryz.prog 128 #[.slice a xs.length cap, .slice b cs.length capc] w (z3o (z18 xs cs) w) := by
 have HR := hid (z1l w a cap xs hX hF hE)
 have hle := z77 xs
 have hcl := hC.len
 obtain ⟨q, HQ⟩ : ∃ q, Hid (q = z0m xs) := ⟨_, hid rfl⟩
 rw [<- HQ.out] at HR hle
 by_cases h0 : q = 0
 ·have HQ0 : Hid (z0m xs = 0) := hid (by rw [<- HQ.out]; exact h0)
  have HRG : Hid (Rgt xs) := hid (z1q.1 HQ0.out)
  subst h0
  by_cases h20 : 20 < cs.length
  ·have HA := hid (z8x (cs := cs) HQ0.out h20)
   have h20' : (20 : Int) < cs.length := by omega
   clear hX hC hF hFC hE h20
   generalize xs.length = L at *
   generalize cs.length = M at *
   go_enter Tryz.func128, Tryz.ntmps128
   go_wp2_with fail
   refine HR.out.mono ?_
   rintro e w1 ⟨rfl, hb1⟩
   have HB := hid hb1
   clear hb1
   go_wp2
   go_ret2
   exact z3o.no HA.out HB.out
  ·have HA := hid (zdl HQ0.out h20)
   have h20' : ¬ (20 : Int) < cs.length := by omega
   have HCL : Hid (∀ w1, Below w.heap.size w w1 -> Calls Tryz.prog 79 #[.slice a xs.length cap] w1 (zdo xs w1)) := hid (fun w1 hb => z7y w1 a cap xs (hX.old hb) (by have := HRG.out.len; omega))
   have HCS : Hid (SlH w (fun k => k < w.heap.size) (.slice b cs.length capc) cs) := hid hC
   have HFC := hid hFC
   have HE := hid hE
   obtain ⟨M, HM⟩ : ∃ M, Hid (M = cs.length) := ⟨_, hid rfl⟩
   rw [<- HM.out] at h20' h20 HCS hcl
   have h20n : M <= 20 := by omega
   obtain ⟨L, HL⟩ : ∃ L, Hid (L = xs.length) := ⟨_, hid rfl⟩
   rw [<- HL.out] at HR HCL
   rw [<- HM.out, <- HL.out]
   clear hX hC hF hFC hE h20
   go_enter Tryz.func128, Tryz.ntmps128
   go_wp2_with fail
   refine HR.out.mono ?_
   rintro e w1 ⟨rfl, hb1⟩
   have HB1 := hid hb1
   have HC1 := hid (HCL.out w1 hb1)
   clear hb1 HR HCL
   go_wp2_with fail
   refine HC1.out.mono ?_
   rintro e w2 ⟨v2, rfl, ho2, hb2⟩
   obtain ⟨a2, c2, hv2, hc2, -, -⟩ := z0g ho2
   rw [<- HL.out] at hv2
   subst hv2
   have HO2 := hid ho2
   have HB2 := hid (z00 HB1.out hb2)
   have HW1 : Hid (w.heap.size <= w1.heap.size) := hid HB1.out.size
   have HLI := hid (z5o a2 L c2 w2)
   clear ho2 hb2 HC1 HB1
   go_wp2_with fail
   refine HLI.out.mono ?_
   rintro e w3 ⟨rfl, hb3⟩
   have HB3 := hid (z00 HB2.out hb3)
   have HSO : Hid (SoL w.heap.size w3.heap.size (w3.alloc (.cells #[.slice a2 L c2, cmpFn] 172)) xs (.slice a2 L c2)) := hid ⟨z02 w3 #[.slice a2 L c2, cmpFn] 172, by
    have h1 := z17 (z17 HO2.out hb3) (z04 w3 (.cells #[.slice a2 L c2, cmpFn] 172))
    exact ⟨h1.1, h1.2.imp id (fun ⟨g, cap, cur, hv, hg, hr⟩ => ⟨g, cap, cur, hv, Nat.le_trans HW1.out hg, hr⟩)⟩, HB3.out.size⟩
   have HBS := hid (z00 HB3.out (z04 w3 (.cells #[.slice a2 L c2, cmpFn] 172)))
   clear hb3 HLI HB2 HO2
   obtain ⟨S, HS⟩ : ∃ S, Hid (S = w3.heap.size) := ⟨_, hid rfl⟩
   go_wp2
   rw [<- HS.out] at HSO ⊢
   generalize w3.alloc (.cells #[.slice a2 L c2, cmpFn] 172) = w4 at *
   go_loopw [24] (fun i wr => ∃ k : Nat, k <= M /\ i = .int .i64 k /\ ∃ l v, Hid (SoL w.heap.size S wr l v) /\ Hid (Rgt l) /\ Hid (foldC l (cs.drop k) = foldC xs cs) /\ Hid (Below w.heap.size w wr)) (fun i _ => M - (intOf i).toNat)
   case atStart => exact ⟨0, Nat.zero_le _, rfl, xs, _, HSO, HRG, hid (by rw [List.drop_zero]), HBS⟩
   case round =>
    obtain ⟨k, hk, rfl, l, v, HSr, HRr, HFr, HBr⟩ := hrel
    by_cases hlt : k < M
    ·obtain ⟨c, hc⟩ : ∃ c, cs[k]? = some c := ⟨_, List.getElem?_eq_getElem (by have := HM.out; omega)⟩
     obtain ⟨b2, off2, rfl, -, x0, x1, x2, x3⟩ := (HCS.out.lt HBr.out).get hc
     have hdr : cs.drop k = c :: cs.drop (k + 1) := by
      obtain ⟨h1, h2⟩ := List.getElem?_eq_some_iff.1 hc
      rw [List.drop_eq_getElem_cons h1, h2]
     have HST : Hid (foldC l (cs.drop k) = match oneC l c with | .ok l' => foldC l' (cs.drop (k + 1)) | .error k => .error k) := hid (by rw [hdr, foldC]; cases oneC l c <;> rfl)
     have hb5 := z04 wr (.cells (chC c) 83)
     have HB5 := hid (z00 HBr.out hb5)
     have HONE := hid (z6m (wr.alloc (.cells (chC c) 83)) w.heap.size S l c v (HSr.out.below hb5) HRr.out.srt HRr.out.len (HB5.out.size) (HFC.out c (List.mem_of_getElem? hc)) (HE.out.below HB5.out))
     have R5 := z02 wr (chC c) 83
     have d0 := R5.cell (i := 0) rfl
     have d1 := R5.cell (i := 1) rfl
     have d2 := R5.cell (i := 2) rfl
     have d3 := R5.cell (i := 3) rfl
     clear hc hdr hb5 R5
     obtain ⟨cd, xl, xk, xp⟩ := c
     simp only at x0 x1 x2 x3 d0 d1 d2 d3 HB5 HONE
     cases ho : oneC l ⟨cd, xl, xk, xp⟩ with
     | ok l' =>
      have HRN := hid (z7g HRr.out ho)
      have HFN : Hid (foldC l' (cs.drop (k + 1)) = foldC xs cs) := hid (by rw [<- HFr.out, HST.out, ho])
      rw [ho] at HONE
      clear ho HST
      go_wp2_with fail
      refine HONE.out.mono ?_
      rintro e w6 ⟨hb6, rfl, v6, hs6⟩
      have HS6 := hid hs6
      have HB6 := hid (HB5.out.trans hb6)
      clear hb6 hs6
      go_wp2
      go_roundw
      case rel => exact ⟨k + 1, by omega, by go_num, l', v6, HS6, HRN, HFN, HB6⟩
      case measure => simp [intOf]; omega
     | error q =>
      have HFN : Hid (z18 xs cs = .error q) := hid (by rw [HA.out, <- HFr.out, HST.out, ho])
      have hq : q ≠ 0 := by
       intro h; subst h
       unfold oneC at ho
       split at ho
       ·split at ho
        ·cases ho
        ·split at ho <;> cases ho
       ·split at ho
        ·cases ho
        ·split at ho <;> cases ho
      have hqb : ((q : Int) != 0) = true := by rw [bne_iff_ne]; omega
      rw [ho] at HONE
      clear ho HST hq
      go_wp2_with fail
      refine HONE.out.mono ?_
      rintro e w6 ⟨hb6, rfl⟩
      have HB6 := hid (HB5.out.trans hb6)
      clear hb6
      go_wp2
      go_ret2
      exact z3o.no HFN.out HB6.out
    ·have HFN : Hid (z18 xs cs = .ok l) := hid (by rw [HA.out, <- HFr.out, List.drop_of_length_le (by have := HM.out; omega), foldC])
     obtain ⟨a9, c9, rfl, -⟩ := HSr.out.slice
     have z0 := HSr.out.row.cell (i := 0) rfl
     have HSL := hid HSr.out.own.sl
     obtain ⟨n9, HN9⟩ : ∃ n, Hid (n = l.length) := ⟨_, hid rfl⟩
     rw [<- HN9.out] at z0
     go_wp2
     go_ret2
     rw [HN9.out]
     exact z3o.yes HFN.out HSL.out HBr.out
 ·have HA := hid (zb0 (l := xs) (cs := cs) (by rw [<- HQ.out]; exact h0))
  have hqb : ((q : Int) != 0) = true := by rw [bne_iff_ne]; omega
  clear hX hC hF hFC hE h0
  generalize xs.length = L at *
  generalize cs.length = M at *
  go_enter Tryz.func128, Tryz.ntmps128
  go_wp2_with fail
  refine HR.out.mono ?_
  rintro e w1 ⟨rfl, hb1⟩
  have HB := hid hb1
  clear hb1
  go_wp2
  go_ret2
  exact z3o.no (by rw [HA.out, HQ.out]) HB.out
end Go.Proofs.YtdkkkeoicekdgaaGreatDoor.Ca

end

section

namespace Go.Proofs.YtdkkkeoicekdgaaGreatDoor.Ca
open Go.RowKit Go.Proofs.YtdkkkeoicekdgaaGreatDoor
def AtIs (x : Ent) (at_ : Int) (l : List Ent) (i : Nat) : Prop := ∀ (j : Nat) y, l[j]? = some y -> (((i + j : Nat) : Int) = at_ ↔ sameB x.loc x.key y = true)
theorem AtIs.tail {x y : Ent} {at_ : Int} {r : List Ent} {i : Nat} (h : AtIs x at_ (y :: r) i) : AtIs x at_ r (i + 1) := fun j z hz => by
 have := h (j + 1) z (by simpa using hz)
 rwa [show i + (j + 1) = i + 1 + j by omega] at this
structure OK1 (w : World) (X : Nat) (c : Chg) (l : List Ent) (a : Option Addr) (cap : Nat) (W : World) : Prop where
 row : Row W X 83 [.bool c.drop, .string c.e.loc, .string c.e.key, .string c.e.pat]
 sl : SlE W (fun b => b < w.heap.size) (.slice a l.length cap) l
 below : Below w.heap.size w W
 hX : w.heap.size <= X
theorem OK1.step {w W W' : World} {X : Nat} {c : Chg} {l : List Ent} {a : Option Addr} {cap : Nat} (h : OK1 w X c l a cap W) (hb : Below W.heap.size W W') : OK1 w X c l a cap W' :=
 ⟨h.row.below hb, Sl.keep h.sl (fun b hb2 => hb.block b (Nat.lt_of_lt_of_le hb2 h.below.size)) (fun _ h => h) (fun _ _ h => h), z00 h.below hb, h.hX⟩
theorem OK1.fr {w W W' : World} {X : Nat} {c : Chg} {l : List Ent} {a : Option Addr} {cap : Nat} {r : Option Nat} (h : OK1 w X c l a cap W) (hg : W.grownBy W' r) (hr : ∀ g, r = some g -> w.heap.size <= g /\ g ≠ X) : OK1 w X c l a cap W' :=
 ⟨h.row.keep (hg.block X h.row.lt (fun e => (hr X e.symm).2 rfl)), Sl.keep h.sl (fun b hb2 => hg.block b (Nat.lt_of_lt_of_le hb2 h.below.size) (fun e => by have := (hr b e.symm).1; have hb3 : b < w.heap.size := hb2; omega)) (fun _ h => h) (fun _ _ h => h),
  ⟨hg.os.trans h.below.os, hg.tape.trans h.below.tape, hg.output.trans h.below.output, Nat.le_trans h.below.size hg.size, fun k hk => (hg.block k (Nat.lt_of_lt_of_le hk h.below.size) (fun e => by have := (hr k e.symm).1; omega)).trans (h.below.block k hk)⟩, h.hX⟩
theorem OK1.old {w W : World} {X : Nat} {c : Chg} {l : List Ent} {a : Option Addr} {cap : Nat} (h : OK1 w X c l a cap W) : SlE W (Old W) (.slice a l.length cap) l := Sl.keep h.sl (fun _ _ => rfl) (fun _ hb => Nat.lt_of_lt_of_le hb h.below.size) (fun _ _ h => h)
theorem zbb {p : Prop} (h : Hid p) : p := h.out
end Go.Proofs.YtdkkkeoicekdgaaGreatDoor.Ca

end
