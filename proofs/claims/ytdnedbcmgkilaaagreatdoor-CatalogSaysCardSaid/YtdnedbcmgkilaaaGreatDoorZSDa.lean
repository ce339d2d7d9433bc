/- The document's reader in memory: a byte more at the end of parts. -/
import Derived.RegionTactic
import Derived.Test.YtdnedbcmgkilaaaGreatDoorZSDr4
import Derived.Test.YtdnedbcmgkilaaaGreatDoorZSg35

namespace Go.Proofs.YtdnedbcmgkilaaaGreatDoor.Dr
set_option maxHeartbeats 3200000
set_option maxRecDepth 100000
open Go.Lib (hid)
open Go.RowKit Go.Proofs.YtdnedbcmgkilaaaGreatDoor
theorem owns_set {w : World} {B g k n cap : Nat} {e : TypeId} {vs : List Value} (h : w.ownsRow B e k (.slice (some ⟨g, 0, none⟩) n cap) n vs) (i : Nat) (u : Value) : (w.setCell ⟨g, i, none⟩ u).ownsRow B e k (.slice (some ⟨g, 0, none⟩) n cap) n (vs.set i u) := by
 rcases h.2 with ⟨h0, -⟩ | ⟨g', cap', cur, hv, hb, hh, hc, hm, hs, ht⟩
 ·cases h0
 ·injection hv with hv1 hv2 hv3
  obtain rfl : g = g' := by injection hv1 with h; injection h
  subst hv3
  refine ⟨by rw [List.length_set]; exact h.1, .inr ⟨g, cap, cur.setIfInBounds i u, rfl, hb, ?_, hc, hm, by simpa using hs, ?_⟩⟩
  ·simp [World.setCell, Array.getElem?_modify, hh]
  ·rw [<- ht, Array.toList_setIfInBounds, List.take_set]
theorem Cat.unsnoc {α : Type} {k : Nat} {C : α -> List Value -> Prop} {x : α} : ∀ {xs : List α} {vs : List Value}, Cat k C (xs ++ [x]) vs -> ∃ us cs, vs = us ++ cs /\ us.length = xs.length * k /\ Cat k C xs us /\ cs.length = k /\ C x cs
 | [], vs, h => by
  obtain ⟨cs, rest, rfl, hl, hx, hr⟩ := h
  obtain rfl : rest = [] := hr
  exact ⟨[], cs, by simp, by simp, rfl, hl, hx⟩
 | y :: r, vs, h => by
  obtain ⟨cs, rest, rfl, hl, hx, hr⟩ := h
  obtain ⟨us, ds, rfl, h1, h2, h3, h4⟩ := Cat.unsnoc hr
  exact ⟨cs ++ us, ds, by simp, by rw [List.length_append, hl, h1, List.length_cons, Nat.succ_mul]; omega, ⟨cs, us, rfl, hl, hx, h2⟩, h3, h4⟩
theorem Gw.last {n B g off m cap : Nat} {w : World} {xs : List Pt} {x : Pt} {vs : List Value} (h : Gw 141 4 (CPn n) B w (.slice (some ⟨g, off, none⟩) m cap) (xs ++ [x]) vs) :
  off = 0 /\ B <= g /\ g < w.heap.size /\ w.cell? ⟨g, xs.length * 4, none⟩ = some (.int .i64 x.k) /\ w.cell? ⟨g, xs.length * 4 + 1, none⟩ = some (.string x.t) /\ (∀ i, w.frozen? ⟨g, i, none⟩ = false) := by
 obtain ⟨us, cs, rfl, hl, -, hc, hx⟩ := Cat.unsnoc h.cat
 obtain ⟨h0, ⟨cur, z, hh⟩, hcell⟩ := z1m h.own rfl
 have hlt := h.own.lt g rfl
 obtain ⟨q, v, -, rfl, -⟩ := CP.out hx
 refine ⟨h0, hlt.1, hlt.2, ?_, ?_, fun i => ?_⟩
 ·exact hcell _ _ (by rw [List.getElem?_append_right (by omega), hl]; simp)
 ·exact hcell _ _ (by rw [List.getElem?_append_right (by omega), hl]; simp)
 ·rcases h.own.2 with ⟨hv, -⟩ | ⟨g', cap', cur', hv, -, hg, -⟩
  ·cases hv
  ·injection hv with hv
   injection hv with hv
   injection hv with hv
   subst hv
   simp [World.frozen?, hg]
theorem Gw.text {n B g m cap : Nat} {w : World} {xs : List Pt} {x : Pt} {vs : List Value} (h : Gw 141 4 (CPn n) B w (.slice (some ⟨g, 0, none⟩) m cap) (xs ++ [x]) vs) (hm : m = xs.length + 1) (t : BA) :
  Gw 141 4 (CPn n) B (w.setCell ⟨g, xs.length * 4 + 1, none⟩ (.string t)) (.slice (some ⟨g, 0, none⟩) m cap) (xs ++ [.mk x.k t x.n x.cs]) (vs.set (xs.length * 4 + 1) (.string t)) := by
 obtain ⟨us, cs, rfl, hl, hxs, hc, hx⟩ := Cat.unsnoc h.cat
 have hkeep : ∀ b, Oth B (.slice (some ⟨g, 0, none⟩) m cap) w b -> (w.setCell ⟨g, xs.length * 4 + 1, none⟩ (.string t)).heap[b]? = w.heap[b]? := fun b hb => Below.heap_setCell _ _ _ _ (fun e => hb.2.2 (by rw [e]; rfl))
 have hS : ∀ b, Oth B (.slice (some ⟨g, 0, none⟩) m cap) w b -> Oth B (.slice (some ⟨g, 0, none⟩) m cap) (w.setCell ⟨g, xs.length * 4 + 1, none⟩ (.string t)) b := fun b hb => ⟨hb.1, by simpa [World.setCell] using hb.2.1, hb.2.2⟩
 have hown := owns_set (n := m) (by have := h.own; rw [List.length_append] at this; rw [hm]; rw [hm] at this; exact this) (xs.length * 4 + 1) (.string t)
 refine ⟨by rw [List.length_append]; rw [hm] at hown ⊢; exact hown, ?_⟩
 obtain ⟨q, v, rfl, rfl, hs⟩ := CP.out hx
 have he : (us ++ [.int .i64 x.k, .string x.t, .string x.n, v]).set (xs.length * 4 + 1) (.string t) = us ++ [.int .i64 x.k, .string t, .string x.n, v] := by
  rw [List.set_append_right _ _ (by omega), hl]; simp
 rw [he]
 exact Cat.snoc rfl (CP.mk (hs.keep hkeep hS)) (hxs.mono (fun _ _ hy => CP.keep hkeep hS hy))
theorem gw_new (n B : Nat) (w : World) (hB : B <= w.heap.size) : Gw 141 4 (CPn n) B (w.alloc (.cells #[] 141)) (.slice (some ⟨w.heap.size, 0, none⟩) 0 0) [] [] :=
 ⟨z2h w #[] 141 B 0 4 rfl hB (by omega), rfl⟩
def AddPost (B n : Nat) (w : World) (v : Value) (ys : List Pt) (e : Ending) (w' : World) : Prop :=
 ∃ a cap vs, e = .returned (.slice a ys.length cap) /\ Gw 141 4 (CPn (n + 1)) B w' (.slice a ys.length cap) ys vs /\ Fr (fun b => v.ownBlock = some b) w w'
theorem zfa {acc : List Pt} {x : Pt} (h : x.k ≠ 1) (c : UInt8) : addF (acc ++ [x]) c = acc ++ [x] ++ [tx [c]] := zdl (fun y hy => by
 rw [List.getLast?_concat] at hy
 obtain rfl := Option.some.inj hy
 exact h) c
theorem zfb (acc : List Pt) {x : Pt} (h : x.k = 1) (c : UInt8) : addF (acc ++ [x]) c = acc ++ [.mk x.k (x.t ++ ⟨#[c]⟩) x.n x.cs] := by
 unfold addF
 rw [List.getLast?_concat]
 simp only
 rw [if_pos h, List.dropLast_concat]
 have : ba (x.t.data.toList ++ [c]) = x.t ++ ⟨#[c]⟩ := by
  apply ByteArray.ext; apply Array.toList_inj.1
  rw [ByteArray.data_append, Array.toList_append]
 rw [this]
theorem zhl {W : World} {b : Nat} {c : UInt8} (h : W.cell? ⟨b, 0, none⟩ = some (.int .u8 c.toNat)) : (convert 81 9 (.slice (some ⟨b, 0, none⟩) 1 1)).run Tryz.prog W = .ok (.string ⟨#[c]⟩) W :=
 run_convert_bytes_back (P := Tryz.prog) _ 81 9 5 ⟨b, 0, none⟩ 1 [c] Tryz.underlying81 Tryz.underlying5 Tryz.underlying9 (fun j hj => by
  rw [Addr.add_mid, Nat.zero_add]
  have hj0 : j = 0 := by simp at hj; omega
  subst hj0
  exact h)
theorem ownlt {n B : Nat} {w : World} {v : Value} {xs : List Pt} {vs : List Value} (h : Gw 141 4 (CPn n) B w v xs vs) : ∀ b, v.ownBlock = some b -> b < w.heap.size := fun b hb => (h.own.lt b hb).2
theorem zjt (c : UInt8) : addF [] c = [] ++ [tx [c]] := rfl
theorem z4y (c : UInt8) (B n : Nat) (w : World) (a : Option Addr) (cap : Nat) (xs : List Pt) (vs : List Value) (hB : B <= w.heap.size) (h : Gw 141 4 (CPn (n + 1)) B w (.slice a xs.length cap) xs vs) (hl : xs.length <= 2000) (ht : ∀ x, xs.getLast? = some x -> x.t.size <= 2000) :
  Calls Tryz.prog 129 #[.slice a xs.length cap, .int .i64 c.toNat] w (AddPost B n w (.slice a xs.length cap) (addF xs c)) := by
 obtain ⟨i0, hi, hz0, hz1, hz2⟩ := info_parts zia
 have hu8 := u8_in c
 have hc8 := c.toNat_lt
 rcases List.eq_nil_or_concat xs with rfl | ⟨ys, x, rfl⟩
 ·have HA := hid (zjt c)
  have HOWN := hid (ownlt h)
  have hFa : Fr (fun _ => False) w (w.alloc (.cells #[.int .u8 c.toNat] 5)) := (Fr.refl _ w).alloc _
  have HGA := hid (h.fr (kpP _) hFa (fun _ _ _ hf => hf))
  have HFA : Hid (Fr (fun b => (Value.slice a ([] : List Pt).length cap).ownBlock = some b) w (w.alloc (.cells #[.int .u8 c.toNat] 5))) := hid ((Fr.refl _ w).alloc _)
  have hsz : (w.alloc (.cells #[.int .u8 c.toNat] 5)).heap.size = w.heap.size + 1 := World.size_alloc _ _
  obtain ⟨m, HM⟩ : ∃ m, Hid (m = ([] : List Pt).length) := ⟨_, hid rfl⟩
  have HHO := HGA.out.own
  rw [<- HM.out] at hl HHO HFA HGA HOWN ⊢
  have HO := hid HHO
  have hbk := z6k w c
  clear ht hFa HHO h
  have hm0 : ¬ 0 < m := by have := HM.out; simp at this; omega
  go_enter Tryz.func129, Tryz.ntmps129
  go_wp2_with (at_builtin; refine wpList_append_lies _ rfl _ _ 70 rfl B 141 i0 _ 4 64 Tryz.underlying70 hi hz0 hz1 hz2 rfl (by decide) _ _ _ rfl (HO.out.alloc _) _ 1 1 [.int .i64 1, .string ⟨#[c]⟩, .string ⟨#[]⟩, .slice none 0 0] rfl rfl (z0s _ #[.int .i64 1, .string ⟨#[c]⟩, .string ⟨#[]⟩, .slice none 0 0] _ hsz) (by simp [Value.oneCell']) (by decide) (by unfold maxLen; omega) (by omega) (by simp; omega) (w.heap.size + 1 + 1) (by simp) ?_; intro g5 c5 w5 hown5 hgrow5 hg5 _; have HO5 := hid hown5; have HG5 := hid hgrow5; have HGL5 := hid hg5; clear hown5 hgrow5 hg5)
  go_ret
  rw [HA.out]
  have hlen : ([] ++ [tx [c]]).length = m + 1 := by rw [List.length_append, HM.out]; rfl
  refine ⟨some ⟨g5, 0, none⟩, c5, vs ++ [.int .i64 1, .string ⟨#[c]⟩, .string ⟨#[]⟩, .slice none 0 0], by rw [hlen]; rfl, ?_, ?_⟩
  ·rw [hlen]
   exact Gw.push (B2 := w.heap.size + 1) (k := 4) (x := tx [c]) (HGA.out) (kpP _) HM.out (CP.mk (Sl.nil _ _ _ _)) (by omega) (fun b hb => by have := HOWN.out b hb; omega) rfl HG5.out HO5.out (by rcases HGL5.out with z | z; exact .inl z; right; rw [z, hsz]; omega)
  ·exact (HFA.out.alloc _).grown HG5.out (fun g hg => .inr hg)
 ·simp only [List.concat_eq_append] at *
  by_cases hk : x.k = 1
  ·have HA := hid (zfb ys hk c)
   have hx := ht x (by rw [List.getLast?_concat])
   obtain ⟨b, rfl⟩ : ∃ g, a = some ⟨g, 0, none⟩ := by
    obtain ⟨a', cap', hv, -, -, hx⟩ := z0m h.own
    injection hv with h1 h2 h3
    subst h1
    exact hx (by rw [List.length_append]; simp)
   obtain ⟨-, hBb, hlt, c0, c1, hfz⟩ := Gw.last h
   obtain ⟨m, HM⟩ : ∃ m, Hid (m = ys.length) := ⟨_, hid rfl⟩
   have HLN : Hid ((ys ++ [x]).length = m + 1) := hid (by rw [List.length_append, HM.out]; rfl)
   have z1 := hfz (m * 4 + 1)
   rw [<- HM.out] at c0 c1
   rw [hk] at c0
   rw [HLN.out] at hl h ⊢
   have HH := hid h
   have hbk := zhl (W := (w.alloc (.cells #[.int .u8 c.toNat] 5)).drew) (b := w.heap.size) (c := c) ((z04 w #[.int .u8 c.toNat] 5).cell (i := 0) rfl)
   generalize hxt : x.t = t at *
   have HXT := hid hxt
   clear ht hfz h hxt
   have c1a : (w.alloc (.cells #[.int .u8 c.toNat] 5)).cell? ⟨b, m * 4 + 1, none⟩ = some (.string t) := (World.cell?_of_block (Below.heap_alloc _ _ _ hlt)).trans c1
   have z1a : (w.alloc (.cells #[.int .u8 c.toNat] 5)).frozen? ⟨b, m * 4 + 1, none⟩ = false := (World.frozen?_of_block (Below.heap_alloc _ _ _ hlt)).trans z1
   have hm : m <= 2000 := by omega
   have hadd : (⟨#[c]⟩ : BA).size = 1 := rfl
   have hsum : ¬ 9223372036854775807 < t.size + 1 := by omega
   have HTX : Hid (∀ W, Fr (fun _ => False) w W -> Gw 141 4 (CPn (n + 1)) B (W.setCell ⟨b, m * 4 + 1, none⟩ (.string (t ++ ⟨#[c]⟩))) (.slice (some ⟨b, 0, none⟩) (m + 1) cap) (ys ++ [.mk x.k (t ++ ⟨#[c]⟩) x.n x.cs]) (vs.set (m * 4 + 1) (.string (t ++ ⟨#[c]⟩)))) := hid (fun W hW => by
    have := Gw.text (HH.out.fr (kpP _) hW (fun _ _ _ hf => hf)) (by rw [HM.out]) (t ++ ⟨#[c]⟩)
    rw [<- HM.out] at this; exact this)
   have hlen : (ys ++ [Pt.mk x.k (t ++ ⟨#[c]⟩) x.n x.cs]).length = m + 1 := by rw [List.length_append, HM.out]; rfl
   have HLE := hid hlen
   clear hlen
   go_enter Tryz.func129, Tryz.ntmps129
   go_wp2
   go_region
   all_goals go_wp2
   all_goals go_ret
   rw [HA.out]
   refine ⟨some ⟨b, 0, none⟩, cap, vs.set (m * 4 + 1) (.string (t ++ ⟨#[c]⟩)), by rw [HLE.out]; rfl, ?_, ?_⟩
   ·rw [HLE.out]
    exact Gw.fr (HTX.out w (Fr.refl _ _)) (kpP _) (X := fun _ => False) (((Fr.refl _ _).alloc _).drew) (fun _ _ _ hf => hf)
   ·exact (((Fr.refl (fun g => (Value.slice (some ⟨b, 0, none⟩) (m + 1) cap).ownBlock = some g) w).setCell (p := ⟨b, m * 4 + 1, none⟩) (.inr rfl) _).alloc _).drew
  ·have c0 : ∀ b, a = some ⟨b, 0, none⟩ -> w.cell? ⟨b, ys.length * 4, none⟩ = some (.int .i64 x.k) /\ (w.alloc (.cells #[.int .u8 c.toNat] 5)).cell? ⟨b, ys.length * 4, none⟩ = some (.int .i64 x.k) := fun b hb => by
    subst hb
    obtain ⟨-, -, hlt, c0, -⟩ := Gw.last h
    exact ⟨c0, (World.cell?_of_block (Below.heap_alloc _ _ _ hlt)).trans c0⟩
   have HA := hid (zfa (acc := ys) hk c)
   have HOWN := hid (ownlt h)
   have hFa : Fr (fun _ => False) w (w.alloc (.cells #[.int .u8 c.toNat] 5)) := (Fr.refl _ w).alloc _
   have HGA := hid (h.fr (kpP _) hFa (fun _ _ _ hf => hf))
   have HFA : Hid (Fr (fun b => (Value.slice a (ys ++ [x]).length cap).ownBlock = some b) w (w.alloc (.cells #[.int .u8 c.toNat] 5))) := hid ((Fr.refl _ w).alloc _)
   have hsz : (w.alloc (.cells #[.int .u8 c.toNat] 5)).heap.size = w.heap.size + 1 := World.size_alloc _ _
   obtain ⟨m, HM⟩ : ∃ m, Hid (m = (ys ++ [x]).length) := ⟨_, hid rfl⟩
   have HHO := HGA.out.own
   rw [<- HM.out] at hl HHO HFA HGA HOWN ⊢
   have HO := hid HHO
   have hbk := z6k w c
   clear ht hFa HHO h
   obtain ⟨b, rfl⟩ : ∃ g, a = some ⟨g, 0, none⟩ := by
    obtain ⟨a', cap', hv, -, -, hx⟩ := z0m (HO.out)
    injection hv with h1 h2 h3
    subst h1
    exact hx (by rw [HM.out, List.length_append]; simp)
   obtain ⟨p, HP⟩ : ∃ p, Hid (p = ys.length) := ⟨_, hid rfl⟩
   have HMP : Hid (m = p + 1) := hid (by rw [HM.out, HP.out, List.length_append]; rfl)
   obtain ⟨c1, c1a⟩ := c0 b rfl
   clear c0
   rw [<- HP.out] at c1 c1a
   have hmi : (m : Int) - 1 = (p : Int) := by have := HMP.out; omega
   have hm0 : (0 : Int) < (m : Int) := by have := HMP.out; omega
   have hpm : p < m := by have := HMP.out; omega
   have hkB : (x.k == 1) = false := beq_eq_false_iff_ne.2 hk
   generalize x.k = xk at *
   clear hk
   go_enter Tryz.func129, Tryz.ntmps129
   go_wp2_with (at_builtin; refine wpList_append_lies _ rfl _ _ 70 rfl B 141 i0 _ 4 64 Tryz.underlying70 hi hz0 hz1 hz2 rfl (by decide) _ _ _ rfl (HO.out.alloc _) _ 1 1 [.int .i64 1, .string ⟨#[c]⟩, .string ⟨#[]⟩, .slice none 0 0] rfl rfl (z0s _ #[.int .i64 1, .string ⟨#[c]⟩, .string ⟨#[]⟩, .slice none 0 0] _ hsz) (by simp [Value.oneCell']) (by decide) (by unfold maxLen; omega) (by omega) (by simp; omega) (w.heap.size + 1 + 1) (by simp) ?_; intro g5 c5 w5 hown5 hgrow5 hg5 _; have HO5 := hid hown5; have HG5 := hid hgrow5; have HGL5 := hid hg5; clear hown5 hgrow5 hg5)
   go_ret
   rw [HA.out]
   have hlen : ((ys ++ [x]) ++ [tx [c]]).length = m + 1 := by rw [List.length_append, HM.out]; rfl
   refine ⟨some ⟨g5, 0, none⟩, c5, vs ++ [.int .i64 1, .string ⟨#[c]⟩, .string ⟨#[]⟩, .slice none 0 0], by rw [hlen]; rfl, ?_, ?_⟩
   ·rw [hlen]
    exact Gw.push (B2 := w.heap.size + 1) (k := 4) (x := tx [c]) (HGA.out) (kpP _) HM.out (CP.mk (Sl.nil _ _ _ _)) (by omega) (fun b hb => by have := HOWN.out b hb; omega) rfl HG5.out HO5.out (by rcases HGL5.out with z | z; exact .inl z; right; rw [z, hsz]; omega)
   ·exact (HFA.out.alloc _).grown HG5.out (fun g hg => .inr hg)
end Go.Proofs.YtdnedbcmgkilaaaGreatDoor.Dr
