/- slices.Delete of one entry. -/
import Derived.StillTailTactics
import Derived.RegionTactic
import Derived.Test.YtdkkkeoicekdgaaGreatDoorZBEi

section

namespace Go.Proofs.YtdkkkeoicekdgaaGreatDoor.Ca
set_option maxHeartbeats 4000000
set_option maxRecDepth 100000
open Go.Lib (hid)
open Go.RowKit Go.Proofs.YtdkkkeoicekdgaaGreatDoor
theorem z64 (w : World) (ty : TypeId) (b o n c : Nat) (hn : n = 1) (hc : ∀ j, j < 3 -> (w.cell? ⟨b, o + j, none⟩).isSome = true) (hf : ∀ j, j < 3 -> w.frozen? ⟨b, o + j, none⟩ = false) :
  (Builtin.clear_ #[22] ty #[.slice (some ⟨b, o, none⟩) n c]).run Tryz.prog w = .ok (.tuple #[]) (w.setCells b o (flat [noE])) := by
 subst hn
 have hst := run_storeCells_cells (P := Tryz.prog) b o (flat [noE]) 0 w (fun j hj => by have := hc j hj; simpa using this) (fun j hj => by have := hf j hj; simpa using this) z1j
 simp only [Nat.add_zero] at hst
 have hzc : (Builtin.zeroCells (Value.agg #[.string ⟨#[]⟩, .string ⟨#[]⟩, .string ⟨#[]⟩]).cells 1).toList = flat [noE] := by kernel_rfl
 have hz := Tryz.zeroValue81
 simp [Builtin.clear_, run_underlying Tryz.underlying22, hz, hzc, hst]
theorem zd4 (w : World) (base g cap : Nat) (xs : List Ent) (p off : Nat) (hoff : Hid (off = 0)) (hown : Own w base (.slice (some ⟨g, off, none⟩) xs.length cap) xs) (hl : xs.length <= 1000) (hp : p < xs.length) :
  Calls Tryz.prog 251 #[.slice (some ⟨g, off, none⟩) xs.length cap, .int .i64 p, .int .i64 ((p : Int) + 1)] w (z40 base (.slice (some ⟨g, off, none⟩) xs.length cap) (xs.take p ++ xs.drop (p + 1)) w) := by
 have h0 := hoff.out
 have hown0 := hown
 rw [h0] at hown0
 obtain ⟨cur, hh, hs, ht, hb, -, hc, hm⟩ := z2j hown0
 unfold maxLen at hm
 obtain ⟨i0, hi0, hz0, hzs, hzb⟩ := info_parts z9q
 have hfl := z0d xs
 have htk := z2k xs p
 have hdr := z2l xs (p + 1)
 have hcl : cur.toList.length = cap * 3 := by simpa using hs
 have hD : (flat (xs.drop (p + 1))).length = (xs.length - (p + 1)) * 3 := by rw [z0d, List.length_drop]
 have hT : (flat (xs.take p)).length = p * 3 := by rw [z0d, List.length_take, Nat.min_eq_left (by omega)]
 have hcell : ∀ j u, (flat xs)[j]? = some u -> w.cell? ⟨g, off + j, none⟩ = some u := fun j u hu => by
  have := hown.sl.cells j u hu
  rwa [Addr.add_lit] at this
 obtain ⟨A, hA, hsrc⟩ : ∃ A : Addr, (if cap = p + 1 then some (⟨g, off, none⟩ : Addr) else some ⟨g, off + (p + 1) * 3, none⟩) = some A /\ Hid (∀ t u, (flat (xs.drop (p + 1)))[t]? = some u -> w.drew.cell? (A.add t) = some u) := by
  by_cases h : cap = p + 1
  ·refine ⟨⟨g, off, none⟩, by simp [h], hid fun t u hu => ?_⟩
   have := (List.getElem?_eq_some_iff.1 hu).1
   omega
  ·refine ⟨⟨g, off + (p + 1) * 3, none⟩, by simp [h], hid fun t u hu => ?_⟩
   rw [Addr.add_lit, Nat.add_assoc]
   exact hcell ((p + 1) * 3 + t) u (by rw [hdr, List.getElem?_drop] at hu; exact hu)
 have s1 : Hid ((flat (xs.drop (p + 1))).length = (xs.length - (p + 1)) * 3) := hid hD
 have s2 : Hid (∀ u ∈ flat (xs.drop (p + 1)), u.oneCell' = true) := hid z1j
 have s3 : Hid (∀ t, t < (flat (xs.drop (p + 1))).length -> (w.drew.cell? ⟨g, off + p * 3 + t, none⟩).isSome = true /\ w.drew.frozen? ⟨g, off + p * 3 + t, none⟩ = false) := hid fun t ht2 => by
  rw [h0, Nat.zero_add]
  refine ⟨?_, z11 (w := w.drew) hh _⟩
  rw [z12 (w := w.drew) hh, Array.getElem?_eq_getElem (by omega)]; rfl
 obtain ⟨W1, hW1⟩ : ∃ W1, W1 = w.drew.setCells g (off + p * 3) (flat (xs.drop (p + 1))) := ⟨_, rfl⟩
 have hh1 : W1.heap[g]? = some (.cells (setA cur (p * 3) (flat (xs.drop (p + 1)))) 81 (0, 0)) := by
  rw [hW1, h0, Nat.zero_add]
  exact z0h g _ _ w.drew cur 81 (0, 0) hh
 have hcle : ∀ ty, (Builtin.clear_ #[22] ty #[.slice (some ⟨g, off + (p + (xs.length - (p + 1))) * 3, none⟩) (xs.length - (p + (xs.length - (p + 1)))) (cap - (p + (xs.length - (p + 1))))]).run Tryz.prog W1 = .ok (.tuple #[]) (W1.setCells g (off + (p + (xs.length - (p + 1))) * 3) (flat [noE])) := fun ty =>
  z64 W1 ty g _ _ _ (by omega) (fun j hj => by rw [h0, Nat.zero_add, z12 hh1, Array.getElem?_eq_getElem (by rw [z0j]; omega)]; rfl) (fun j hj => z11 hh1 _)
 have hW : Hid (W1 = w.drew.setCells g (off + p * 3) (flat (xs.drop (p + 1)))) := hid hW1
 have HFIN : Hid (∀ W : World, W.heap = (W1.setCells g (off + (p + (xs.length - (p + 1))) * 3) (flat [noE])).heap -> W.os = w.os -> W.tape = w.tape -> W.output = w.output -> Own W base (.slice (some ⟨g, off, none⟩) (p + (xs.length - (p + 1))) cap) (xs.take p ++ xs.drop (p + 1)) /\ w.grownBy W (some g)) := hid (fun W hWh ho1 ho2 ho3 => by
  have hlen : (xs.take p ++ xs.drop (p + 1)).length = p + (xs.length - (p + 1)) := by
   rw [List.length_append, List.length_take, List.length_drop]; omega
  have hh3 : W.heap[g]? = some (.cells (setA (setA cur (p * 3) (flat (xs.drop (p + 1)))) ((p + (xs.length - (p + 1))) * 3) (flat [noE])) 81 (0, 0)) := by
   rw [hWh, h0, Nat.zero_add]
   exact z0h _ _ _ _ _ 81 (0, 0) hh1
  have hfx : (flat [noE]).length = 3 := rfl
  refine ⟨?_, ⟨ho1, ho2, ho3, ?_, fun k hk hne2 => ?_⟩⟩
  ·rw [h0, <- hlen]
   refine z1r hh3 (by rw [z0j, z0j]; exact hs) ?_ hb (by omega) (by unfold maxLen; exact hm)
   have e1 : (setA cur (p * 3) (flat (xs.drop (p + 1)))).toList = cur.toList.take (p * 3) ++ flat (xs.drop (p + 1)) ++ cur.toList.drop (p * 3 + (flat (xs.drop (p + 1))).length) := z14 _ _ _ (by rw [hD]; omega)
   have hcut : cur.toList.take (p * 3) = flat (xs.take p) := by
    rw [htk, <- ht, List.take_take, Nat.min_eq_left (by omega)]
   rw [z14 _ _ _ (by rw [z0j, hfx]; omega), e1, hfx, hlen, hcut]
   have hll : (flat (xs.take p) ++ flat (xs.drop (p + 1))).length = (p + (xs.length - (p + 1))) * 3 := by rw [List.length_append, hT, hD]; omega
   rw [List.append_assoc, List.take_append_of_le_length (by rw [List.length_take, List.length_append, hll, List.length_drop]; omega), List.take_take, Nat.min_self, List.take_append_of_le_length (by omega), List.take_of_length_le (by omega), z0r]
  ·rw [hWh, (z05 _ _ _ _).size, hW1, (z05 _ _ _ _).size]
   exact Nat.le_refl _
  ·rw [hWh, (z05 g _ _ W1).block k (fun e => hne2 (by rw [e])), hW1, (z05 g _ _ w.drew).block k (fun e => hne2 (by rw [e]))]
   rfl)
 have hW1o : W1.os = w.os /\ W1.tape = w.tape /\ W1.output = w.output := by
  have h := z05 g (flat (xs.drop (p + 1))) (off + p * 3) w.drew
  rw [hW1]; exact ⟨h.os, h.tape, h.output⟩
 have HOTH : Hid (Hid (W1.os = w.os /\ W1.tape = w.tape /\ W1.output = w.output)) := hid (hid hW1o)
 have hpc : p <= cap := by omega
 have hp1 : (0 : Int) <= (p : Int) + 1 := by omega
 have hp2 : ((p : Int) + 1).toNat = p + 1 := by omega
 have hp3 : (p : Int) + 1 <= (xs.length : Int) := by omega
 have hp4 : (p : Int) <= (p : Int) + 1 := by omega
 have hne : ¬ ((p : Int) = (p : Int) + 1) := by omega
 have hjc : p + 1 <= cap := by omega
 have hcp : ¬ cap = p := by omega
 have hcq : ¬ cap = p + (xs.length - (p + 1)) := by omega
 have hlc : (xs.length : Int) <= (cap : Int) := by omega
 have hlq : p + (xs.length - (p + 1)) <= xs.length := by omega
 clear hh hs ht hb hfl htk hdr hcl hD hT hcell hh1 hown hown0 h0 hW1 hz0 hzb hW1o
 generalize xs.length = L at *
 go_enter Tryz.func251, Tryz.ntmps251
 go_wp2_with fail
 go_region_law (refine step_append_room rfl (.tmp 22) (.tmp 25) 22 rfl 81 i0 3 Tryz.underlying22 hi0 hzs g off p cap (by simp [Act.eval, Act.put]) A (L - (p + 1)) (cap - (p + 1)) (flat (xs.drop (p + 1))) (by simp [Act.eval, Act.put]) s1.out hsrc.out s2.out (by omega) s3.out ?_; rw [<- hW.out])
 go_wp2
 go_ret
 have hb9 := z05 g (flat [noE]) (off + (p + (L - (p + 1))) * 3) W1
 exact ⟨_, rfl, HFIN.out _ rfl (hb9.os.trans HOTH.out.out.1) (hb9.tape.trans HOTH.out.out.2.1) (hb9.output.trans HOTH.out.out.2.2)⟩
theorem zaw (w : World) (base : Nat) (v : Value) (xs : List Ent) (p : Nat) (hown : Own w base v xs) (hl : xs.length <= 1000) (hp : p < xs.length) :
  Calls Tryz.prog 251 #[v, .int .i64 p, .int .i64 ((p : Int) + 1)] w (z40 base v (xs.take p ++ xs.drop (p + 1)) w) := by
 obtain ⟨a, cap, rfl, hc, -, hg⟩ := z0g hown
 obtain ⟨g, rfl⟩ := hg (by omega)
 exact zd4 w base g cap xs p 0 (hid rfl) hown hl hp
end Go.Proofs.YtdkkkeoicekdgaaGreatDoor.Ca

end

section

namespace Go.Proofs.YtdkkkeoicekdgaaGreatDoor.Ca
set_option maxHeartbeats 6400000
set_option maxRecDepth 100000
open Go.Lib (hid)
open Go.RowKit Go.Proofs.YtdkkkeoicekdgaaGreatDoor
structure SoL (B S : Nat) (w : World) (xs : List Ent) (v : Value) : Prop where
 row : Row w S 172 [v, cmpFn]
 own : Own w B v xs
 lt : B <= S
theorem SoL.ne {B S : Nat} {w : World} {xs : List Ent} {v : Value} (h : SoL B S w xs v) : v.ownBlock ≠ some S := fun e => by
 rcases h.own.2 with ⟨rfl, -⟩ | ⟨g, cap, cur, rfl, -, hh, -⟩
 ·cases e
 ·obtain rfl : g = S := Option.some.inj e
  have := h.row
  unfold Row at this
  rw [hh] at this
  injection this with h1
  injection h1 with _ h2
  cases h2
theorem SoL.below {B S : Nat} {w w' : World} {xs : List Ent} {v : Value} (h : SoL B S w xs v) (hb : Below w.heap.size w w') : SoL B S w' xs v := ⟨h.row.below hb, z17 h.own hb, h.lt⟩
theorem SoL.slice {B S : Nat} {w : World} {xs : List Ent} {v : Value} (h : SoL B S w xs v) : ∃ a cap, v = .slice a xs.length cap /\ xs.length <= cap /\ cap <= 9223372036854775807 /\ (0 < xs.length -> ∃ g, a = some ⟨g, 0, none⟩) := z0g h.own
theorem block_ne {w : World} {g b : Nat} {cur : Array Value} {e t : TypeId} {cs : List Value} {z : Nat × Nat} (hg : w.heap[g]? = some (.cells cur e z)) (hb : Row w b t cs) (hne : e ≠ t) : g ≠ b := fun h => by
 subst h
 unfold Row at hb
 rw [hg] at hb
 injection hb with h1
 injection h1 with _ h2
 exact hne h2
theorem set_eq (xs : List Ent) (p : Nat) (x : Ent) (hp : p < xs.length) : xs.set p x = xs.take p ++ x :: xs.drop (p + 1) := by rw [List.set_eq_take_append_cons_drop, if_pos hp]
theorem own_set {w : World} {B g cap p : Nat} {xs : List Ent} {x : Ent} (h : Own w B (.slice (some ⟨g, 0, none⟩) xs.length cap) xs) (hp : p < xs.length) :
  Own (w.setCells g (p * 3) (flat [x])) B (.slice (some ⟨g, 0, none⟩) xs.length cap) (xs.set p x) := by
 obtain ⟨cur, hh, hs, ht, hb, -, hc, hm⟩ := z2j h
 have hcl : cur.toList.length = cap * 3 := by simpa using hs
 have hh2 := z0h g (flat [x]) (p * 3) w cur 81 (0, 0) hh
 have hlen : (xs.set p x).length = xs.length := List.length_set
 have hfx : (flat [x]).length = 3 := rfl
 have key : Own (w.setCells g (p * 3) (flat [x])) B (.slice (some ⟨g, 0, none⟩) (xs.set p x).length cap) (xs.set p x) := by
  refine z1r hh2 (by rw [z0j]; exact hs) ?_ hb (by omega) hm
  rw [z14 _ _ _ (by rw [hfx]; omega), hlen, set_eq xs p x hp, z0r, show x :: xs.drop (p + 1) = [x] ++ xs.drop (p + 1) from rfl, z0r, z2k, z2l, <- ht, hfx]
  rw [List.take_take, Nat.min_eq_left (by omega), List.drop_take, List.append_assoc, List.take_append, List.take_append, List.length_take, Nat.min_eq_left (by omega), hfx]
  rw [List.take_take, Nat.min_eq_right (by omega), List.take_of_length_le (l := flat [x]) (by rw [hfx]; omega), show (p + 1) * 3 = p * 3 + 3 by omega, show xs.length * 3 - p * 3 - 3 = xs.length * 3 - (p * 3 + 3) by omega]
 rw [hlen] at key
 exact key
def z4n (B S : Nat) (xs' : List Ent) (w : World) (e : Ending) (r : Value) (w' : World) : Prop := e = .returned r /\ ∃ v', SoL B S w' xs' v' /\ Below B w w'
theorem z9w {B : Nat} {X : Nat -> Prop} {w w' : World} (h : Fr X w w') (hB : B <= w.heap.size) (hX : ∀ k, X k -> B <= k) : Below B w w' :=
 ⟨h.os, h.tape, h.output, h.size, fun k hk => h.block k (by omega) (fun hx => by have := hX k hx; omega)⟩
structure IK (B S : Nat) (v : Value) (xs : List Ent) (x : Ent) (bx gb : Nat) (w : World) (W : World) : Prop where
 so : SoL B S W xs v
 rb : Row W gb 81 [.string x.loc, .string x.key, .string x.pat]
 rx : Row W bx 81 [.string x.loc, .string x.key, .string x.pat]
 below : Below w.heap.size w W
 hB : B <= w.heap.size
 old : ∀ g, v.ownBlock = some g -> g < w.heap.size
 hbx : w.heap.size <= bx
 hgb : w.heap.size <= gb
theorem IK.insert {B S : Nat} {v : Value} {xs : List Ent} {x : Ent} {bx gb : Nat} {w W : World} {p : Nat} (h : IK B S v xs x bx gb w W) (hp : p <= xs.length) (hl : xs.length <= 1000) :
  Calls Tryz.prog 225 #[v, .int .i64 p, .slice (some ⟨gb, 0, none⟩) 1 1] W fun e w' => ∃ a' c', e = .returned (.slice a' (xs.length + 1) c') /\ (w'.cell? ⟨bx, 0, none⟩ = some (.string x.loc) /\ w'.cell? ⟨bx, 1, none⟩ = some (.string x.key) /\ w'.cell? ⟨bx, 2, none⟩ = some (.string x.pat)) /\ w'.cell? ⟨S, 0, none⟩ = some v /\ w'.frozen? ⟨S, 0, none⟩ = false /\ bx ≠ S /\
   Hid (SoL B S (w'.setCell ⟨S, 0, none⟩ (.slice a' (xs.length + 1) c')) (insF xs p x) (.slice a' (xs.length + 1) c') /\ Below B w (w'.setCell ⟨S, 0, none⟩ (.slice a' (xs.length + 1) c'))) := by
 refine (zar W B v xs x p gb h.so.own (by have := h.below.size; have := h.hB; omega) hl hp h.rb (fun e => by have := h.old gb e; have := h.hgb; omega)).mono fun e w' hh => ?_
 obtain ⟨v', he, ho, hg⟩ := hh
 have hlen : (insF xs p x).length = xs.length + 1 := by rw [List.length_append, List.length_cons, List.length_take, List.length_drop]; omega
 obtain ⟨a', c', hv, -⟩ := z0g ho
 rw [hlen] at hv
 subst hv
 have hS' : Row w' S 172 [v, cmpFn] := h.so.row.keep (hg.block S h.so.row.lt (fun e => h.so.ne e.symm))
 have hx' : Row w' bx 81 [.string x.loc, .string x.key, .string x.pat] := h.rx.keep (hg.block bx h.rx.lt (fun e => by have := h.old bx e.symm; have := h.hbx; omega))
 have hbS : bx ≠ S := fun e => by
  subst e
  have h1 := h.rx
  have h2 := h.so.row
  unfold Row at h1 h2
  rw [h1] at h2
  injection h2 with h3
  injection h3 with _ h4
  cases h4
 refine ⟨a', c', he, ⟨hx'.cell rfl, hx'.cell rfl, hx'.cell rfl⟩, hS'.cell rfl, hS'.thaw 0, hbS, hid ⟨⟨hS'.set 0 _, ?_, h.so.lt⟩, ?_⟩⟩
 ·refine z0f ho (fun g hgg => ?_)
  have hne : g ≠ S := fun e => by
   subst e
   rcases ho.2 with ⟨h0, -⟩ | ⟨g', cap, cur, hv, -, hh, -⟩
   ·rw [h0] at hgg; cases hgg
   ·rw [hv] at hgg
    obtain rfl : g' = g := Option.some.inj hgg
    unfold Row at hS'
    rw [hh] at hS'
    injection hS' with h1
    injection h1 with _ h2
    cases h2
  exact Below.heap_setCell _ _ _ _ hne
 ·have h1 : Below B W w' := z9w (z9r hg) (by have := h.below.size; have := h.hB; omega) (fun k hk => (h.so.own.lt k hk).1)
  have h2 : Below B w' (w'.setCell ⟨S, 0, none⟩ (.slice a' (xs.length + 1) c')) := ((But.refl S w').set 0 _).below h.so.lt
  exact ((h.below.mono h.hB).trans h1).trans h2
theorem put_any (w : World) (B S : Nat) (xs : List Ent) (x : Ent) (v : Value) (hS : SoL B S w xs v) (hs : Srt xs) (hl : xs.length <= 200) (hB : B <= w.heap.size) :
  Calls Tryz.prog 193 #[.pointer (some ⟨S, 0, none⟩), enV x] w fun e w' => z4n B S (putC x xs) w e (.tuple #[]) w' := by
 have hb0 := z04 w (.cells (enC x) 81)
 have HS0 := hS.below hb0
 have r0 := z01 w (enC x) 81
 obtain ⟨a, cap, rfl, hcap, hcap2, hg⟩ := hS.slice
 have HPL := hid (z7a (w.alloc (.cells (enC x) 81)) S a cap xs x HS0.row HS0.own.sl hs (by omega))
 have d0 := r0.cell (i := 0) rfl
 have d1 := r0.cell (i := 1) rfl
 have d2 := r0.cell (i := 2) rfl
 have HB0 := hid hb0
 have HS := hid HS0
 have HR := hid r0
 obtain ⟨fb, HFB⟩ : ∃ p, Hid (p = fndE x xs) := ⟨_, hid rfl⟩
 obtain ⟨p, HP⟩ : ∃ p, Hid (p = posE x xs) := ⟨_, hid rfl⟩
 have hple : p <= xs.length := by have := z67 x xs; have := HP.out; omega
 rw [<- HP.out, <- HFB.out] at HPL
 have HSR := hid hs
 cases fb with
 | true =>
  obtain ⟨y, hy, hf⟩ := z8s hs HFB.out.symm
  have HPUT : Hid (putC x xs = xs.set p x) := hid (by rw [put_old hs HFB.out.symm, HP.out])
  have hpl : p < xs.length := by have := (List.getElem?_eq_some_iff.1 hy).1; have := HP.out; omega
  obtain ⟨g, rfl⟩ := hg (by omega)
  have hpL : (p : Int) < (xs.length : Int) := by omega
  have hgw := (hS.own.lt g rfl).2
  clear hS HS0 hb0 r0 hs hy hf
  generalize hLL : xs.length = L at *
  have HLL := hid hLL
  clear hLL
  obtain ⟨xl, xk, xp⟩ := x
  simp only at d0 d1 d2 HB0 HPL HS HR HPUT
  go_enter Tryz.func193, Tryz.ntmps193
  go_wp2_with fail
  refine HPL.out.mono ?_
  rintro e w1 ⟨rfl, hb1⟩
  have HB1 := hid (z00 HB0.out hb1)
  have HS1 := hid (HS.out.below hb1)
  have HR1 := hid (HR.out.below hb1)
  have hown : Own w1 B (.slice (some ⟨g, 0, none⟩) xs.length cap) xs := by have := HS1.out.own; rw [<- HLL.out] at this; exact this
  obtain ⟨cur, hh, hsz, ht, hBg, -, hc, hm⟩ := z2j hown
  have hSne : S ≠ g := fun e => (block_ne hh HS1.out.row (by decide)) e.symm
  have hXne : w.heap.size ≠ g := by omega
  have c0 : w1.drew.cell? ⟨S, 0, none⟩ = some (.slice (some ⟨g, 0, none⟩) L cap) := HS1.out.row.cell (i := 0) rfl
  have e0 : w1.drew.cell? ⟨w.heap.size, 0, none⟩ = some (.string xl) := HR1.out.cell (i := 0) rfl
  have e1 : w1.drew.cell? ⟨w.heap.size, 1, none⟩ = some (.string xk) := HR1.out.cell (i := 1) rfl
  have e2 : w1.drew.cell? ⟨w.heap.size, 2, none⟩ = some (.string xp) := HR1.out.cell (i := 2) rfl
  have HTH : Hid (w1.drew.there g (p * 3) 3) := hid (fun j hj => ⟨by rw [z12 (w := w1.drew) hh, Array.getElem?_eq_getElem (by omega)]; rfl, z11 (w := w1.drew) hh _⟩)
  have hi38 : (Tryz.prog.info? 81).map (·.size) = some 3 := by kernel_rfl
  have HO2 := hid (own_set (p := p) (x := ⟨xl, xk, xp⟩) hown (by have := HLL.out; omega))
  have hbt : But g w1 (w1.setCells g (p * 3) (flat [⟨xl, xk, xp⟩])) := z05 _ _ _ _
  have HBT := hid hbt
  have HBG : Hid (B <= g) := hid hBg
  have HFIN : Hid (∀ W : World, W.heap = (w1.setCells g (p * 3) (flat [⟨xl, xk, xp⟩])).heap -> W.os = w1.os -> W.tape = w1.tape -> W.output = w1.output -> z4n B S (putC ⟨xl, xk, xp⟩ xs) w (.returned (.tuple #[])) (.tuple #[]) W) := hid (fun W h1 h2 h3 h4 => by
   have hsame : Same (w1.setCells g (p * 3) (flat [⟨xl, xk, xp⟩])) W := ⟨h2.trans HBT.out.os.symm, h3.trans HBT.out.tape.symm, h4.trans HBT.out.output.symm, h1⟩
   refine ⟨rfl, .slice (some ⟨g, 0, none⟩) L cap, ⟨hsame.row (HBT.out.row HS1.out.row hSne), ?_, HS1.out.lt⟩, ?_⟩
   ·have h5 := z17 HO2.out (hsame.below)
    rw [HPUT.out, <- HLL.out]
    exact h5
   ·exact ((HB1.out.mono hB).trans (HBT.out.below HBG.out)).trans hsame.below)
  clear hh hsz ht hown hbt hBg hc hm
  go_wp2
  go_still_tail 7, (by kernel_rfl)
  change wpList _ _ _ _ _ w1.drew
  refine wpList_store_mid rfl 81 _ _ rfl g (p * 3) #[.string xl, .string xk, .string xp] rfl rfl HTH.out hi38 (all_oneCell_toArray (cs := [.string xl, .string xk, .string xp]) (z1j (xs := [⟨xl, xk, xp⟩]))) ?_
  go_wp2
  go_end0
  exact HFIN.out _ rfl rfl rfl rfl
 | false =>
  have HPUT : Hid (putC x xs = insF xs p x) := hid (by rw [put_new hs HFB.out.symm, HP.out])
  have hold : ∀ g, (Value.slice a xs.length cap).ownBlock = some g -> g < w.heap.size := fun g h => (hS.own.lt g h).2
  clear hs
  have HIK : Hid (∀ w1 W, Below (w.alloc (.cells (enC x) 81)).heap.size (w.alloc (.cells (enC x) 81)) w1 -> W.heap = (w1.alloc (.cells (enC x) 81)).heap -> W.os = w1.os -> W.tape = w1.tape -> W.output = w1.output -> IK B S (.slice a xs.length cap) xs x w.heap.size w1.heap.size w W) := hid (fun w1 W hb h1 h2 h3 h4 => by
   have hsame : Same (w1.alloc (.cells (enC x) 81)) W := ⟨h2, h3, h4, h1⟩
   have hw : Below w.heap.size w w1 := z00 hb0 hb
   exact ⟨((HS0.below hb).below (z04 w1 (.cells (enC x) 81))).below hsame.below, hsame.row (z01 w1 (enC x) 81), hsame.row ((r0.below hb).alloc _), z00 (z00 hw (z04 w1 _)) hsame.below, hB, hold, Nat.le_refl _, hw.size⟩)
  have HFIN : Hid (∀ (w3 : World) a3 c3, Hid (SoL B S (w3.setCell ⟨S, 0, none⟩ (.slice a3 (xs.length + 1) c3)) (insF xs p x) (.slice a3 (xs.length + 1) c3) /\ Below B w (w3.setCell ⟨S, 0, none⟩ (.slice a3 (xs.length + 1) c3))) -> z4n B S (putC x xs) w (.returned (.tuple #[])) (.tuple #[]) (w3.setCell ⟨S, 0, none⟩ (.slice a3 (xs.length + 1) c3))) := hid (fun w3 a3 c3 h => ⟨rfl, _, by rw [HPUT.out]; exact h.out.1, h.out.2⟩)
  have HC : Hid (∀ (W : World) (w1 : World), IK B S (.slice a xs.length cap) xs x w.heap.size w1.heap.size w W -> _) := hid (fun W w1 h => h.insert (p := p) hple (by omega))
  clear hS HS0 hb0 r0 hold hg
  generalize hLL : xs.length = L at *
  clear hLL
  obtain ⟨xl, xk, xp⟩ := x
  simp only at d0 d1 d2 HB0 HPL HS HR HPUT HIK HC HFIN
  go_enter Tryz.func193, Tryz.ntmps193
  go_wp2_with fail
  refine HPL.out.mono ?_
  rintro e w1 ⟨rfl, hb1⟩
  have HS1 := hid (HS.out.below hb1)
  have HR1 := hid (HR.out.below hb1)
  have c0 : w1.drew.cell? ⟨S, 0, none⟩ = some (.slice a L cap) := HS1.out.row.cell (i := 0) rfl
  have c1 : (w1.drew.alloc (.cells #[.string xl, .string xk, .string xp] 81)).cell? ⟨S, 0, none⟩ = some (.slice a L cap) := (HS1.out.below (z04 w1 _)).row.cell (i := 0) rfl
  have c2 : (w1.alloc (.cells #[.string xl, .string xk, .string xp] 81)).drew.cell? ⟨S, 0, none⟩ = some (.slice a L cap) := c1
  have e0 : w1.drew.cell? ⟨w.heap.size, 0, none⟩ = some (.string xl) := HR1.out.cell (i := 0) rfl
  have e1 : w1.drew.cell? ⟨w.heap.size, 1, none⟩ = some (.string xk) := HR1.out.cell (i := 1) rfl
  have e2 : w1.drew.cell? ⟨w.heap.size, 2, none⟩ = some (.string xp) := HR1.out.cell (i := 2) rfl
  have ab : (w1.drew.alloc (.cells #[.string xl, .string xk, .string xp] 81)).cell? ⟨w.heap.size, 0, none⟩ = some (.string xl) /\ (w1.drew.alloc (.cells #[.string xl, .string xk, .string xp] 81)).cell? ⟨w.heap.size, 1, none⟩ = some (.string xk) /\ (w1.drew.alloc (.cells #[.string xl, .string xk, .string xp] 81)).cell? ⟨w.heap.size, 2, none⟩ = some (.string xp) :=
   ⟨(HR1.out.alloc _).cell rfl, (HR1.out.alloc _).cell rfl, (HR1.out.alloc _).cell rfl⟩
  have HQ1 := HIK.out w1 (w1.drew.alloc (.cells #[.string xl, .string xk, .string xp] 81)) hb1 rfl rfl rfl rfl
  have HQ2 := HIK.out w1 (w1.alloc (.cells #[.string xl, .string xk, .string xp] 81)).drew hb1 rfl rfl rfl rfl
  have HQA := hid HQ1
  have HQB := hid HQ2
  clear HQ1 HQ2
  have HCC : Hid (∀ W : World, Hid (IK B S (.slice a L cap) xs ⟨xl, xk, xp⟩ w.heap.size w1.heap.size w W) -> Calls Tryz.prog 225 #[.slice a L cap, .int .i64 p, .slice (some ⟨w1.heap.size, 0, none⟩) 1 1] W fun e w' => ∃ a' c', e = .returned (.slice a' (L + 1) c') /\ (w'.cell? ⟨w.heap.size, 0, none⟩ = some (.string xl) /\ w'.cell? ⟨w.heap.size, 1, none⟩ = some (.string xk) /\ w'.cell? ⟨w.heap.size, 2, none⟩ = some (.string xp)) /\ w'.cell? ⟨S, 0, none⟩ = some (.slice a L cap) /\ w'.frozen? ⟨S, 0, none⟩ = false /\ w.heap.size ≠ S /\
   Hid (SoL B S (w'.setCell ⟨S, 0, none⟩ (.slice a' (L + 1) c')) (insF xs p ⟨xl, xk, xp⟩) (.slice a' (L + 1) c') /\ Below B w (w'.setCell ⟨S, 0, none⟩ (.slice a' (L + 1) c')))) := hid (fun W h => HC.out W w1 h.out)
  have HFF := hid (fun w3 a3 c3 => HFIN.out w3 a3 c3)
  clear hb1 HIK HPL d0 d1 d2 HC HFIN
  go_wp2
  refine wp_region_held_drew (S := fun W => W.cell? ⟨w.heap.size, 0, none⟩ = some (.string xl) /\ W.cell? ⟨w.heap.size, 1, none⟩ = some (.string xk) /\ W.cell? ⟨w.heap.size, 2, none⟩ = some (.string xp)) (by kernel_rfl) ⟨e0, e1, e2⟩ (fun hq0 => ?_)
  refine wpAnyH_take (i := 0) (oi := { dst := some 20, op := .move (.tmp 0), type := 196, pos := "sorted.go:37", after := #[], guard := none }) (v := ?_) rfl (by kernel_rfl) (by kernel_rfl) (by kernel_rfl) (fun _ _ _ h => h) (Or.inl ⟨by rfl, ?_⟩) (by assumption) ?_
  rotate_left
  ·(intro w hSw; (try dsimp only at hSw); go_simp) <;> with_reducible rfl
  simp only [Act.put, List.setIfInBounds_toArray, List.set_cons_zero, List.set_cons_succ]
  refine wpAnyH_take (i := 1) (oi := { dst := some 21, op := .move (.tmp 0), type := 196, pos := "sorted.go:37", after := #[], guard := none }) (v := ?_) rfl (by kernel_rfl) (by kernel_rfl) (by kernel_rfl) (fun _ _ _ h => h) (Or.inl ⟨by rfl, ?_⟩) (by assumption) ?_
  rotate_left
  ·(intro w hSw; (try dsimp only at hSw); go_simp) <;> with_reducible rfl
  simp only [Act.put, List.setIfInBounds_toArray, List.set_cons_zero, List.set_cons_succ]
  refine wpAnyH_take (i := 2) (oi := { dst := some 22, op := .nilCheck (.tmp 21), type := 0, pos := "sorted.go:37", after := #[{ on := 1, ground := .data }], guard := none }) (v := ?_) rfl (by kernel_rfl) (by kernel_rfl) (by kernel_rfl) (fun _ _ _ h => h) (Or.inl ⟨by rfl, ?_⟩) (by assumption) ?_
  rotate_left
  ·(intro w hSw; (try dsimp only at hSw); go_simp) <;> with_reducible rfl
  simp only [Act.put, List.setIfInBounds_toArray, List.set_cons_zero, List.set_cons_succ]
  refine wpAnyH_take (i := 3) (oi := { dst := some 23, op := .fieldAddr 172 (.tmp 22) 0, type := 0, pos := "sorted.go:37", after := #[{ on := 2, ground := .data }], guard := none }) (v := ?_) rfl (by kernel_rfl) (by kernel_rfl) (by kernel_rfl) (fun _ _ _ h => h) (Or.inl ⟨by rfl, ?_⟩) (by assumption) ?_
  rotate_left
  ·(intro w hSw; (try dsimp only at hSw); go_simp) <;> with_reducible rfl
  simp only [Act.put, List.setIfInBounds_toArray, List.set_cons_zero, List.set_cons_succ]
  refine wpAnyH_take (i := 5) (oi := { dst := some 25, op := .move (.tmp 4), type := 3, pos := "sorted.go:37", after := #[], guard := none }) (v := ?_) rfl (by kernel_rfl) (by kernel_rfl) (by kernel_rfl) (fun _ _ _ h => h) (Or.inl ⟨by rfl, ?_⟩) (by assumption) ?_
  rotate_left
  ·(intro w hSw; (try dsimp only at hSw); go_simp) <;> with_reducible rfl
  simp only [Act.put, List.setIfInBounds_toArray, List.set_cons_zero, List.set_cons_succ]
  refine wpAnyH_take (i := 6) (oi := { dst := some 26, op := .load 81 (.tmp 3), type := 81, pos := "sorted.go:37", after := #[], guard := none }) (v := ?_) rfl (by kernel_rfl) (by kernel_rfl) (by kernel_rfl) (fun _ _ _ h => h) (Or.inl ⟨by rfl, ?_⟩) (by assumption) ?_
  rotate_left
  ·(intro w hSw; (try dsimp only at hSw); go_simp) <;> with_reducible rfl
  simp only [Act.put, List.setIfInBounds_toArray, List.set_cons_zero, List.set_cons_succ]
  refine wpAnyH_ready (rs := [4, 7]) (by kernel_rfl) (by simp) ?_
  refine AllReadyH.cons (o := { dst := some 24, op := .load 22 (.tmp 23), type := 22, pos := "sorted.go:37", after := #[{ on := 3, ground := .data }], guard := none }) rfl (fun K hK => ?_) ?_
  ·skip
   go_simp
   refine hK.out _ _ ?_ (fun hp1 => ?_)
   ·(try dsimp only) <;> (first | assumption | exact hq9 | go_keep)
   clear hK K
   try simp only [Act.put, List.setIfInBounds_toArray, List.set_cons_zero, List.set_cons_succ]
   refine wpAnyH_ready (rs := [7]) (by kernel_rfl) (by simp) ?_
   refine AllReadyH.cons (o := { dst := some 27, op := .buildSlice 22 1 #[(0, .tmp 26)], type := 22, pos := "sorted.go:37", after := #[{ on := 6, ground := .data }], guard := none }) rfl (fun K hK => ?_) AllReadyH.nil
   go_simp
   refine hK.out _ _ ?_ (fun hp2 => ?_)
   ·(try dsimp only) <;> exact ab
   clear hK K
   try simp only [Act.put, List.setIfInBounds_toArray, List.set_cons_zero, List.set_cons_succ]
   refine wpAnyH_ready (rs := [8]) (by kernel_rfl) (by simp) ?_
   refine AllReadyH.cons (o := { dst := some 28, op := .call { callee := .value (.func 225), args := #[.tmp 24, .tmp 25, .tmp 27], argTypes := #[22, 3, 22] }, type := 22, pos := "sorted.go:37", after := #[{ on := 4, ground := .data }, { on := 5, ground := .data }, { on := 7, ground := .data }], guard := none }) rfl (fun K hK => ?_) AllReadyH.nil
   go_simp
   refine (HCC.out _ ?_).mono ?_
   ·first | exact HQA | exact HQB
   rintro e w3 ⟨a3, c3, rfl, hq9, hs0, hf0, hne9, HE9⟩
   go_wp2_with fail
   refine hK.out _ _ ?_ (fun hp3 => ?_)
   ·(try dsimp only) <;> exact hq9
   clear hK K
   try simp only [Act.put, List.setIfInBounds_toArray, List.set_cons_zero, List.set_cons_succ]
   refine wpAnyH_take (i := 9) (oi := { dst := some 29, op := .nilCheck (.tmp 20), type := 0, pos := "sorted.go:37", after := #[{ on := 0, ground := .data }, { on := 0, ground := .phase }, { on := 1, ground := .phase }, { on := 2, ground := .phase }, { on := 3, ground := .phase }, { on := 4, ground := .phase }, { on := 5, ground := .phase }, { on := 6, ground := .phase }, { on := 7, ground := .phase }, { on := 8, ground := .phase }], guard := none }) (v := ?_) rfl (by kernel_rfl) (by kernel_rfl) (by kernel_rfl) (fun _ _ _ h => h) (Or.inl ⟨by rfl, ?_⟩) (by assumption) ?_
   rotate_left
   ·(intro w hSw; (try dsimp only at hSw); go_simp) <;> with_reducible rfl
   simp only [Act.put, List.setIfInBounds_toArray, List.set_cons_zero, List.set_cons_succ]
   refine wpAnyH_take (i := 10) (oi := { dst := some 30, op := .fieldAddr 172 (.tmp 29) 0, type := 0, pos := "sorted.go:37", after := #[{ on := 9, ground := .data }, { on := 0, ground := .phase }, { on := 1, ground := .phase }, { on := 2, ground := .phase }, { on := 3, ground := .phase }, { on := 4, ground := .phase }, { on := 5, ground := .phase }, { on := 6, ground := .phase }, { on := 7, ground := .phase }, { on := 8, ground := .phase }], guard := none }) (v := ?_) rfl (by kernel_rfl) (by kernel_rfl) (by kernel_rfl) (fun _ _ _ h => h) (Or.inl ⟨by rfl, ?_⟩) (by assumption) ?_
   rotate_left
   ·(intro w hSw; (try dsimp only at hSw); go_simp) <;> with_reducible rfl
   simp only [Act.put, List.setIfInBounds_toArray, List.set_cons_zero, List.set_cons_succ]
   refine wpAnyH_ready (rs := [11]) (by kernel_rfl) (by simp) ?_
   refine AllReadyH.cons (o := { dst := none, op := .store 22 (.tmp 30) (.tmp 28), type := 0, pos := "sorted.go:37", after := #[{ on := 10, ground := .data }, { on := 8, ground := .data }, { on := 8, ground := .chain }, { on := 0, ground := .phase }, { on := 1, ground := .phase }, { on := 2, ground := .phase }, { on := 3, ground := .phase }, { on := 4, ground := .phase }, { on := 5, ground := .phase }, { on := 6, ground := .phase }, { on := 7, ground := .phase }, { on := 8, ground := .phase }], guard := none }) rfl (fun K hK => ?_) AllReadyH.nil
   go_simp
   refine hK.out _ _ ?_ (fun hp4 => ?_)
   ·(try dsimp only) <;> (refine ⟨?_, ?_, ?_⟩ <;> (rw [World.cell?_setCell_far _ _ _ _ (by exact hne9.symm)]; first | exact hq9.1 | exact hq9.2.1 | exact hq9.2.2))
   clear hK K
   try simp only [Act.put, List.setIfInBounds_toArray, List.set_cons_zero, List.set_cons_succ]
   refine wpAnyH_done (by kernel_rfl) ?_ _
   go_wp2
   go_end0
   exact HFF.out _ _ _ HE9
  refine AllReadyH.cons (o := { dst := some 27, op := .buildSlice 22 1 #[(0, .tmp 26)], type := 22, pos := "sorted.go:37", after := #[{ on := 6, ground := .data }], guard := none }) rfl (fun K hK => ?_) AllReadyH.nil
  go_simp
  refine hK.out _ _ ?_ (fun hp5 => ?_)
  ·(try dsimp only) <;> exact ab
  clear hK K
  try simp only [Act.put, List.setIfInBounds_toArray, List.set_cons_zero, List.set_cons_succ]
  refine wpAnyH_ready (rs := [4]) (by kernel_rfl) (by simp) ?_
  refine AllReadyH.cons (o := { dst := some 24, op := .load 22 (.tmp 23), type := 22, pos := "sorted.go:37", after := #[{ on := 3, ground := .data }], guard := none }) rfl (fun K hK => ?_) AllReadyH.nil
  go_simp
  refine hK.out _ _ ?_ (fun hp6 => ?_)
  ·(try dsimp only) <;> (first | assumption | exact hq9 | go_keep)
  clear hK K
  try simp only [Act.put, List.setIfInBounds_toArray, List.set_cons_zero, List.set_cons_succ]
  refine wpAnyH_ready (rs := [8]) (by kernel_rfl) (by simp) ?_
  refine AllReadyH.cons (o := { dst := some 28, op := .call { callee := .value (.func 225), args := #[.tmp 24, .tmp 25, .tmp 27], argTypes := #[22, 3, 22] }, type := 22, pos := "sorted.go:37", after := #[{ on := 4, ground := .data }, { on := 5, ground := .data }, { on := 7, ground := .data }], guard := none }) rfl (fun K hK => ?_) AllReadyH.nil
  go_simp
  refine (HCC.out _ ?_).mono ?_
  ·first | exact HQA | exact HQB
  rintro e w3 ⟨a3, c3, rfl, hq9, hs0, hf0, hne9, HE9⟩
  go_wp2_with fail
  refine hK.out _ _ ?_ (fun hp7 => ?_)
  ·(try dsimp only) <;> exact hq9
  clear hK K
  try simp only [Act.put, List.setIfInBounds_toArray, List.set_cons_zero, List.set_cons_succ]
  refine wpAnyH_take (i := 9) (oi := { dst := some 29, op := .nilCheck (.tmp 20), type := 0, pos := "sorted.go:37", after := #[{ on := 0, ground := .data }, { on := 0, ground := .phase }, { on := 1, ground := .phase }, { on := 2, ground := .phase }, { on := 3, ground := .phase }, { on := 4, ground := .phase }, { on := 5, ground := .phase }, { on := 6, ground := .phase }, { on := 7, ground := .phase }, { on := 8, ground := .phase }], guard := none }) (v := ?_) rfl (by kernel_rfl) (by kernel_rfl) (by kernel_rfl) (fun _ _ _ h => h) (Or.inl ⟨by rfl, ?_⟩) (by assumption) ?_
  rotate_left
  ·(intro w hSw; (try dsimp only at hSw); go_simp) <;> with_reducible rfl
  simp only [Act.put, List.setIfInBounds_toArray, List.set_cons_zero, List.set_cons_succ]
  refine wpAnyH_take (i := 10) (oi := { dst := some 30, op := .fieldAddr 172 (.tmp 29) 0, type := 0, pos := "sorted.go:37", after := #[{ on := 9, ground := .data }, { on := 0, ground := .phase }, { on := 1, ground := .phase }, { on := 2, ground := .phase }, { on := 3, ground := .phase }, { on := 4, ground := .phase }, { on := 5, ground := .phase }, { on := 6, ground := .phase }, { on := 7, ground := .phase }, { on := 8, ground := .phase }], guard := none }) (v := ?_) rfl (by kernel_rfl) (by kernel_rfl) (by kernel_rfl) (fun _ _ _ h => h) (Or.inl ⟨by rfl, ?_⟩) (by assumption) ?_
  rotate_left
  ·(intro w hSw; (try dsimp only at hSw); go_simp) <;> with_reducible rfl
  simp only [Act.put, List.setIfInBounds_toArray, List.set_cons_zero, List.set_cons_succ]
  refine wpAnyH_ready (rs := [11]) (by kernel_rfl) (by simp) ?_
  refine AllReadyH.cons (o := { dst := none, op := .store 22 (.tmp 30) (.tmp 28), type := 0, pos := "sorted.go:37", after := #[{ on := 10, ground := .data }, { on := 8, ground := .data }, { on := 8, ground := .chain }, { on := 0, ground := .phase }, { on := 1, ground := .phase }, { on := 2, ground := .phase }, { on := 3, ground := .phase }, { on := 4, ground := .phase }, { on := 5, ground := .phase }, { on := 6, ground := .phase }, { on := 7, ground := .phase }, { on := 8, ground := .phase }], guard := none }) rfl (fun K hK => ?_) AllReadyH.nil
  go_simp
  refine hK.out _ _ ?_ (fun hp8 => ?_)
  ·(try dsimp only) <;> (refine ⟨?_, ?_, ?_⟩ <;> (rw [World.cell?_setCell_far _ _ _ _ (by exact hne9.symm)]; first | exact hq9.1 | exact hq9.2.1 | exact hq9.2.2))
  clear hK K
  try simp only [Act.put, List.setIfInBounds_toArray, List.set_cons_zero, List.set_cons_succ]
  refine wpAnyH_done (by kernel_rfl) ?_ _
  go_wp2
  go_end0
  exact HFF.out _ _ _ HE9
end Go.Proofs.YtdkkkeoicekdgaaGreatDoor.Ca

end
