/- Package model: the map of places; a refusal; the state of a model. -/
import Derived.Maps.Own
import Derived.Maps.OwnOps
import Derived.Maps.OwnSet
import Derived.Maps.Views
import Derived.Laws.EntriesVeiled
import Derived.Deep.RegionHeld3
import Derived.Test.YtdkkkeoicekdgaaGreatDoorZAg41

namespace Go.Proofs.YtdkkkeoicekdgaaGreatDoor.Md
set_option maxHeartbeats 6400000
set_option maxRecDepth 100000
open Go.RowKit Go.Maps Go.WideShapes Go.WideMaps Go.Proofs.YtdkkkeoicekdgaaGreatDoor Go.Proofs.YtdkkkeoicekdgaaGreatDoor.Ca
theorem lawI : Keyed Tryz.prog 3 := int_keyed Tryz.underlying3
theorem zeroI (w : World) : (zeroValue 3).run Tryz.prog w = .ok (.int .i64 0) w := by kernel_rfl
abbrev OMm (w : World) (b n : Nat) (D : DataW Unit) : Prop := w.ownsMap Tryz.prog 3 (plainElem Tryz.prog 3) b n D
theorem z0r {w w' : World} {b n : Nat} {D : DataW Unit} (h : OMm w b n D) (hk : w'.heap[b]? = w.heap[b]?) : OMm w' b n D := by
 obtain ⟨es, clock, hb, r⟩ := h
 exact ⟨es, clock, hk.trans hb, r⟩
abbrev kI (n : Int) : Lit := .int .i64 n
theorem keyI (n : Int) : WideAt.IsKeyLit (kI n) := trivial
theorem wfI {n : Int} (h0 : -9223372036854775808 <= n) (h1 : n <= 9223372036854775807) : (Lit.int .i64 n).wf = true := WalkArith.wf_i64 ⟨h0, h1⟩
structure GoodK (l : List Cli) (k : Nat) (D : DataW Unit) : Prop where
 has : ∀ id : Int, Maps.has D (kI id) = true ↔ ∃ (j : Nat) (x : Cli), j < k /\ l[j]? = some x /\ x.id = id
 at_ : ∀ (j : Nat) (x : Cli), j < k -> l[j]? = some x -> D.atKey (kI x.id) (.lit (kI 0)) = .lit (kI j)
theorem zcm (l : List Cli) : GoodK l 0 (.map []) := ⟨fun id => ⟨fun h => by simp [Maps.has] at h, fun ⟨j, x, h, _⟩ => by omega⟩, fun j x h => by omega⟩
theorem z5h {l : List Cli} (h : SrtC l) {i j : Nat} {x y : Cli} (hi : l[i]? = some x) (hj : l[j]? = some y) (hij : i < j) : x.id < y.id := by
 obtain ⟨h1, rfl⟩ := List.getElem?_eq_some_iff.1 hi
 obtain ⟨h2, rfl⟩ := List.getElem?_eq_some_iff.1 hj
 exact List.pairwise_iff_getElem.1 h i j h1 h2 hij
theorem zcn {l : List Cli} {k : Nat} {D : DataW Unit} {x : Cli} (h : GoodK l k D) (hm : IsMap D) (hs : SrtC l) (hx : l[k]? = some x) : GoodK l (k + 1) (D.put (kI x.id) (.lit (kI k))) := by
 refine ⟨fun id => ?_, fun j y hj hy => ?_⟩
 ·by_cases he : id = x.id
  ·subst he
   exact ⟨fun _ => ⟨k, x, by omega, hx, rfl⟩, fun _ => has_put_same hm (keyI _) _⟩
  ·rw [has_put_other (by intro e; injection e with e1 e2; exact he e2), h.has id]
   constructor
   ·rintro ⟨j, y, h1, h2, h3⟩; exact ⟨j, y, by omega, h2, h3⟩
   ·rintro ⟨j, y, h1, h2, h3⟩
    refine ⟨j, y, ?_, h2, h3⟩
    rcases Nat.lt_or_eq_of_le (Nat.le_of_lt_succ h1) with h4 | rfl
    ·exact h4
    ·rw [hx] at h2; obtain rfl := Option.some.inj h2; exact absurd h3.symm he
 ·rcases Nat.lt_or_eq_of_le (Nat.le_of_lt_succ hj) with h4 | rfl
  ·have := z5h hs hy hx h4
   rw [atKey_put_other (by intro e; injection e with e1 e2; omega)]
   exact h.at_ j y h4 hy
  ·rw [hx] at hy; obtain rfl := Option.some.inj hy
   exact atKey_put_same hm (keyI _) _ _
abbrev stC (v : Int) (ve vc : Value) (M : Nat) : Array Value := #[.int .i64 v, ve, vc, .map (some M)]
abbrev mdC (v : Int) (ve vc : Value) : Array Value := #[.int .i64 v, ve, vc]
structure StAt (w : World) (m : Mdl) (ae : Option Addr) (ce : Nat) (ac : Option Addr) (cc M : Nat) : Prop where
 es : SlE w (Old w) (.slice ae m.es.length ce) m.es
 cs : SlL w (Old w) (.slice ac m.cs.length cc) m.cs
 nil : ac = none -> cc = 0
 map : ∃ n D, OMm w M n D /\ GoodK m.cs m.cs.length D
theorem StAt.old {w w' : World} {m : Mdl} {ae ac : Option Addr} {ce cc M : Nat} (h : StAt w m ae ce ac cc M) (hb : Below w.heap.size w w') : StAt w' m ae ce ac cc M := by
 obtain ⟨n, D, h1, h2⟩ := h.map
 exact ⟨h.es.old hb, h.cs.old hb, h.nil, n, D, z0r h1 (hb.block _ h1.lt), h2⟩
theorem OwnL.fsh {w : World} {base : Nat} {v : Value} {xs : List Cli} (h : OwnL w base v xs) : SlL w (Fsh base w) v xs := by
 obtain ⟨a, cap, hv, h1, h2, h3⟩ := h.sl
 refine ⟨a, cap, hv, h1, h2, fun hne => ?_⟩
 obtain ⟨b, off, ha, hb, hat⟩ := h3 hne
 exact ⟨b, off, ha, ⟨(h.lt b (by rw [hv, ha]; rfl)).1, hb⟩, hat⟩
def z1n (m : Mdl) (w : World) (e : Ending) (w' : World) : Prop := ∃ ae ce ac cc M, e = .returned (.agg (stC m.vr (.slice ae m.es.length ce) (.slice ac m.cs.length cc) M)) /\ StAt w' m ae ce ac cc M /\ SlL w' (Fsh w.heap.size w') (.slice ac m.cs.length cc) m.cs /\ Below w.heap.size w w'
theorem z4r (w : World) (cl sq : Int) (vh : Value) (an : Int) : Calls Tryz.prog 81 #[.agg #[.int .i64 cl, .int .i64 sq, vh], .int .i64 an] w fun e w' => e = .returned (clV ⟨cl, sq, an, 0⟩) /\ Below w.heap.size w w' := by
 have R0 := (z02 w #[.int .i64 cl, .int .i64 sq, vh] 28).alloc (.cells #[.int .i64 0, .int .i64 0, .int .i64 0, .int .i64 0] 32)
 have c0 := R0.cell (i := 0) rfl
 have c1 := R0.cell (i := 1) rfl
 have R2 := z02 (w.alloc (.cells #[.int .i64 cl, .int .i64 sq, vh] 28)) (clC ⟨cl, sq, an, 0⟩) 32
 rw [World.size_alloc] at R2
 have f0 := R2.cell (i := 0) rfl
 have f1 := R2.cell (i := 1) rfl
 have f2 := R2.cell (i := 2) rfl
 have f3 := R2.cell (i := 3) rfl
 have HB := Lib.hid (z2l w (.cells #[.int .i64 cl, .int .i64 sq, vh] 28) (.cells (clC ⟨cl, sq, an, 0⟩) 32))
 clear R0 R2
 go_enter Tryz.func81, Tryz.ntmps81
 go_wp2
 exact bodyPost_ret (v := clV ⟨cl, sq, an, 0⟩) (by simp [results, Tryz.results81, go_sem, f0, f1, f2, f3]) rfl ⟨rfl, HB.out⟩
theorem zcs {W w' : World} {M B : Nat} {e : TypeId} {k n : Nat} {v : Value} {xs : List Value} (h : W.ownsRow B e k v n xs) (hf : Fr (fun b => b = M) W w') (hM : M < B) : w'.ownsRow B e k v n xs := by
 refine ⟨h.1, ?_⟩
 rcases h.2 with h0 | ⟨g, cap, cur, hv, hbs, hh, hr⟩
 ·exact .inl h0
 ·exact .inr ⟨g, cap, cur, hv, hbs, (hf.block g (Array.getElem?_eq_some_iff.1 hh).1 (by omega)).trans hh, hr⟩
theorem z1g {w : World} {B B' : Nat} {e : TypeId} {k n : Nat} {v : Value} {xs : List Value} (h : w.ownsRow B e k v n xs) (hB : B' <= B) : w.ownsRow B' e k v n xs := by
 refine ⟨h.1, ?_⟩
 rcases h.2 with h0 | ⟨g, cap, cur, hv, hb, hr⟩
 ·exact .inl h0
 ·exact .inr ⟨g, cap, cur, hv, Nat.le_trans hB hb, hr⟩
theorem zcr {W w' : World} {M b : Nat} {t : TypeId} {cs : List Value} (h : Row W b t cs) (hf : Fr (fun b => b = M) W w') (hne : b ≠ M) : Row w' b t cs := h.keep (hf.block b h.lt hne)
theorem z2y (w : World) (v : Int) (ae : Option Addr) (ce : Nat) (es : List Ent) (ac : Option Addr) (cc : Nat) (cs : List Cli) (hE : SlE w (Old w) (.slice ae es.length ce) es) (hC : SlL w (Old w) (.slice ac cs.length cc) cs)
  (hle : es.length <= 1000) (hlc : cs.length <= 1000) (hs : SrtC cs) (hid : ∀ x, x ∈ cs -> -9223372036854775808 <= x.id /\ x.id <= 9223372036854775807) :
  Calls Tryz.prog 39 #[.agg #[.int .i64 v, .slice ae es.length ce, .slice ac cs.length cc]] w (z1n ⟨v, es, cs⟩ w) := by
 have hmm := @run_makeMap Tryz.prog
 obtain ⟨Le, HLe⟩ : ∃ L, Hid (L = es.length) := ⟨_, Lib.hid rfl⟩
 obtain ⟨Lc, HLc⟩ : ∃ L, Hid (L = cs.length) := ⟨_, Lib.hid rfl⟩
 have hLc : Lc <= 1000 := by have := HLc.out; omega
 have HSE := Lib.hid hE
 have HSC := Lib.hid hC
 have HK1 := Lib.hid (fun W (h : Below w.heap.size w W) => z7y W ae ce es (hE.old h) hle)
 have HK2 := Lib.hid (fun W (h : Below w.heap.size w W) => z5v W ac cc cs (hC.old h) hlc)
 have HID := Lib.hid hid
 have HS := Lib.hid hs
 rw [<- HLe.out] at HSE HK1 ⊢
 rw [<- HLc.out] at HSC HK2 ⊢
 clear hE hC hle hlc hid hs
 obtain ⟨W1, HW1⟩ : ∃ W, Hid (W = (((w.alloc (.cells (mdC v (.slice ae Le ce) (.slice ac Lc cc)) 25)).alloc (.cells #[.int .i64 0, .slice none 0 0, .slice none 0 0, .map none] 73)).alloc (.map #[] 0)).alloc (.cells (stC v (.slice ae Le ce) (.slice ac Lc cc) (w.heap.size + 1 + 1)) 73)) := ⟨_, Lib.hid rfl⟩
 have HSZ : Hid (W1.heap.size = w.heap.size + 4) := Lib.hid (by rw [HW1.out]; simp)
 have HBW : Hid (Below w.heap.size w W1) := Lib.hid (by rw [HW1.out]; exact (z48 w _ _ _).alloc (by simp; omega) _)
 have HRA : Hid (Row W1 w.heap.size 25 [.int .i64 v, .slice ae Le ce, .slice ac Lc cc]) := Lib.hid (by rw [HW1.out]; exact (((z02 w (mdC v (.slice ae Le ce) (.slice ac Lc cc)) _).alloc _).alloc _).alloc _)
 have HRB : Hid (Row W1 (w.heap.size + 1) 73 [.int .i64 0, .slice none 0 0, .slice none 0 0, .map none]) := Lib.hid (by
  rw [HW1.out]
  have h := ((z02 (w.alloc (.cells (mdC v (.slice ae Le ce) (.slice ac Lc cc)) 25)) #[.int .i64 0, .slice none 0 0, .slice none 0 0, .map none] 73).alloc (.map #[] 0)).alloc (.cells (stC v (.slice ae Le ce) (.slice ac Lc cc) (w.heap.size + 1 + 1)) 73)
  rwa [World.size_alloc] at h)
 have HOM : Hid (OMm W1 (w.heap.size + 1 + 1) 0 (.map [])) := Lib.hid (by
  rw [HW1.out]
  have h := (World.ownsMap_made (H := Unit) ((w.alloc (.cells (mdC v (.slice ae Le ce) (.slice ac Lc cc)) 25)).alloc (.cells #[.int .i64 0, .slice none 0 0, .slice none 0 0, .map none] 73)) Tryz.prog 3 (plainElem Tryz.prog 3)).alloc (.cells (stC v (.slice ae Le ce) (.slice ac Lc cc) (w.heap.size + 1 + 1)) 73)
  simpa only [World.size_alloc] using h)
 have HRC : Hid (Row W1 (w.heap.size + 1 + 1 + 1) 73 [.int .i64 v, .slice ae Le ce, .slice ac Lc cc, .map (some (w.heap.size + 1 + 1))]) := Lib.hid (by
  rw [HW1.out]
  have h := z02 (((w.alloc (.cells (mdC v (.slice ae Le ce) (.slice ac Lc cc)) 25)).alloc (.cells #[.int .i64 0, .slice none 0 0, .slice none 0 0, .map none] 73)).alloc (.map #[] 0)) (stC v (.slice ae Le ce) (.slice ac Lc cc) (w.heap.size + 1 + 1)) 73
  simpa only [World.size_alloc] using h)
 have r0 := (z02 w (mdC v (.slice ae Le ce) (.slice ac Lc cc)) 25).alloc (.cells #[.int .i64 0, .slice none 0 0, .slice none 0 0, .map none] 73)
 have c0 := r0.cell (i := 0) rfl
 have c1 := r0.cell (i := 1) rfl
 have c2 := r0.cell (i := 2) rfl
 clear r0
 go_enter Tryz.func39, Tryz.ntmps39
 go_wp2
 rw [<- HW1.out]
 clear c0 c1 c2 hmm HW1
 have HS1 : Hid (∀ W, Below W1.heap.size W1 W -> (W.cell? ⟨w.heap.size, 1, none⟩ = some (.slice ae Le ce) /\ W.cell? ⟨w.heap.size, 2, none⟩ = some (.slice ac Lc cc)) /\ W.cell? ⟨w.heap.size + 1 + 1 + 1, 1, none⟩ = some (.slice ae Le ce) /\ W.frozen? ⟨w.heap.size + 1 + 1 + 1, 1, none⟩ = false /\ W.cell? ⟨w.heap.size + 1 + 1 + 1, 2, none⟩ = some (.slice ac Lc cc) /\ W.frozen? ⟨w.heap.size + 1 + 1 + 1, 2, none⟩ = false) := Lib.hid (fun W h =>
  ⟨⟨(HRA.out.below h).cell rfl, (HRA.out.below h).cell rfl⟩, (HRC.out.below h).cell rfl, (HRC.out.below h).thaw _, (HRC.out.below h).cell rfl, (HRC.out.below h).thaw _⟩)
 have HC1 : Hid (∀ W, Hid (Below W1.heap.size W1 W) -> Calls Tryz.prog 79 #[.slice ae Le ce] W fun e w' => ∃ a9 c9, e = .returned (.slice a9 Le c9) /\ (w'.cell? ⟨w.heap.size, 1, none⟩ = some (.slice ae Le ce) /\ w'.cell? ⟨w.heap.size, 2, none⟩ = some (.slice ac Lc cc)) /\ Hid (Own w' W1.heap.size (.slice a9 Le c9) es) /\ Hid (Below W1.heap.size W1 w')) := Lib.hid (fun W h =>
  (HK1.out W (z00 HBW.out h.out)).mono fun e w' ⟨v9, he, ho, hb⟩ => by
   obtain ⟨a9, c9, rfl, -⟩ := z0g ho
   have hb2 := z00 h.out hb
   rw [<- HLe.out] at he
   refine ⟨a9, c9, he, (HS1.out w' hb2).1, Lib.hid ?_, Lib.hid hb2⟩
   rw [HLe.out]
   exact z1g ho h.out.size)
 have HC2 : Hid (∀ W a9 c9, Hid (Below W1.heap.size W1 W) -> Hid (Own W W1.heap.size (.slice a9 Le c9) es) -> Calls Tryz.prog 80 #[.slice ac Lc cc] W fun e w' => ∃ a8 c8, e = .returned (.slice a8 Lc c8) /\ (w'.cell? ⟨w.heap.size, 1, none⟩ = some (.slice ae Le ce) /\ w'.cell? ⟨w.heap.size, 2, none⟩ = some (.slice ac Lc cc)) /\ w'.cell? ⟨w.heap.size + 1 + 1 + 1, 1, none⟩ = some (.slice ae Le ce) /\ w'.frozen? ⟨w.heap.size + 1 + 1 + 1, 1, none⟩ = false /\ w'.cell? ⟨w.heap.size + 1 + 1 + 1, 2, none⟩ = some (.slice ac Lc cc) /\ w'.frozen? ⟨w.heap.size + 1 + 1 + 1, 2, none⟩ = false /\ Hid (Own w' W1.heap.size (.slice a9 Le c9) es) /\ Hid (OwnL w' W1.heap.size (.slice a8 Lc c8) cs) /\ Hid (Below W1.heap.size W1 w')) := Lib.hid (fun W a9 c9 h ho9 =>
  (HK2.out W (z00 HBW.out h.out)).mono fun e w' ⟨v8, he, ho, hb⟩ => by
   obtain ⟨a8, c8, rfl, -⟩ := z0g ho
   have hb2 := z00 h.out hb
   obtain ⟨k1, k2, k3, k4, k5⟩ := HS1.out w' hb2
   rw [<- HLc.out] at he
   refine ⟨a8, c8, he, k1, k2, k3, k4, k5, Lib.hid (z17 ho9.out hb), Lib.hid ?_, Lib.hid hb2⟩
   rw [HLc.out]
   exact z1g ho h.out.size)
 have hk0 : Hid (Below W1.heap.size W1 W1.drew) := Lib.hid (Below.refl _ _).drew
 obtain ⟨hq0, -⟩ := HS1.out _ hk0.out
 have hne : ¬ (w.heap.size + 1 + 1 + 1 = w.heap.size) := by omega
 go_region_held3 (fun W => W.cell? ⟨w.heap.size, 1, none⟩ = some (.slice ae Le ce) /\ W.cell? ⟨w.heap.size, 2, none⟩ = some (.slice ac Lc cc)) (first | go_keep | assumption)
  (first
   | (go_at_call 79; refine (HC1.out _ ?_).mono ?_; assumption; rintro e U1 ⟨a9, c9, rfl, hq1, ho1, hk1⟩)
   | (go_at_call 80; refine (HC2.out _ a9 c9 ?_ ?_).mono ?_; assumption; assumption; rintro e U2 ⟨a8, c8, rfl, hq2, hc1, hf1, hc2, hf2, ho2, hl2, hk2⟩)
   | fail)
 have HF4 : Hid (Row ((U2.setCell ⟨w.heap.size + 1 + 1 + 1, 1, none⟩ (.slice a9 Le c9)).setCell ⟨w.heap.size + 1 + 1 + 1, 2, none⟩ (.slice a8 Lc c8)) (w.heap.size + 1 + 1 + 1) 73 [.int .i64 v, .slice a9 Le c9, .slice a8 Lc c8, .map (some (w.heap.size + 1 + 1))] /\
   Row ((U2.setCell ⟨w.heap.size + 1 + 1 + 1, 1, none⟩ (.slice a9 Le c9)).setCell ⟨w.heap.size + 1 + 1 + 1, 2, none⟩ (.slice a8 Lc c8)) (w.heap.size + 1) 73 [.int .i64 0, .slice none 0 0, .slice none 0 0, .map none] /\
   OMm ((U2.setCell ⟨w.heap.size + 1 + 1 + 1, 1, none⟩ (.slice a9 Le c9)).setCell ⟨w.heap.size + 1 + 1 + 1, 2, none⟩ (.slice a8 Lc c8)) (w.heap.size + 1 + 1) 0 (.map []) /\
   Own ((U2.setCell ⟨w.heap.size + 1 + 1 + 1, 1, none⟩ (.slice a9 Le c9)).setCell ⟨w.heap.size + 1 + 1 + 1, 2, none⟩ (.slice a8 Lc c8)) (w.heap.size + 4) (.slice a9 Le c9) es /\
   OwnL ((U2.setCell ⟨w.heap.size + 1 + 1 + 1, 1, none⟩ (.slice a9 Le c9)).setCell ⟨w.heap.size + 1 + 1 + 1, 2, none⟩ (.slice a8 Lc c8)) (w.heap.size + 4) (.slice a8 Lc c8) cs /\
   Below w.heap.size w ((U2.setCell ⟨w.heap.size + 1 + 1 + 1, 1, none⟩ (.slice a9 Le c9)).setCell ⟨w.heap.size + 1 + 1 + 1, 2, none⟩ (.slice a8 Lc c8))) := Lib.hid (by
  have hbut : But (w.heap.size + 1 + 1 + 1) U2 ((U2.setCell ⟨w.heap.size + 1 + 1 + 1, 1, none⟩ (.slice a9 Le c9)).setCell ⟨w.heap.size + 1 + 1 + 1, 2, none⟩ (.slice a8 Lc c8)) := ((But.refl _ _).set _ _).set _ _
  have hsz := HSZ.out
  refine ⟨((HRC.out.below hk2.out).set 1 _).set 2 _, (HRB.out.below hk2.out).keep (hbut.block _ (by omega)), z0r (z0r HOM.out (hk2.out.block _ (by omega))) (hbut.block _ (by omega)), ?_, ?_, ?_⟩
  ·rw [<- hsz]; exact z1c ho2.out hbut (by omega)
  ·rw [<- hsz]; exact z1c hl2.out hbut (by omega)
  ·exact (z00 HBW.out hk2.out).trans (hbut.below (B := w.heap.size) (by omega)))
 generalize (U2.setCell ⟨w.heap.size + 1 + 1 + 1, 1, none⟩ (.slice a9 Le c9)).setCell ⟨w.heap.size + 1 + 1 + 1, 2, none⟩ (.slice a8 Lc c8) = w4 at *
 have HRC4 := Lib.hid HF4.out.1
 have HRB4 := Lib.hid HF4.out.2.1
 have HOM4 := Lib.hid HF4.out.2.2.1
 have HOE4 := Lib.hid HF4.out.2.2.2.1
 have HOL4 := Lib.hid HF4.out.2.2.2.2.1
 have HB4 := Lib.hid HF4.out.2.2.2.2.2
 clear hq0 hq1 hq2 hc1 hc2 hf1 hf2 ho1 ho2 hl2 hk0 hk1 hk2 HC1 HC2 HS1 HRA HRB HRC HOM HK1 HK2 HF4 HBW HSE HSC
 have k2 := HRC4.out.cell (i := 2) rfl
 go_wp2
 go_loopw [4, 5, 23] (fun v4 v5 i wr => ∃ (k : Nat) (D : DataW Unit), k <= Lc /\ i = .int .i64 k /\ Hid (OMm wr (w.heap.size + 1 + 1) k D) /\ Hid (GoodK cs k D) /\ Hid (Fr (fun b => b = w.heap.size + 1 + 1) w4 wr)) (fun _ _ i _ => Lc - (intOf i).toNat)
 case atStart => exact ⟨0, .map [], Nat.zero_le _, rfl, HOM4, Lib.hid (zcm _), Lib.hid (Fr.refl _ _)⟩
 case round =>
  obtain ⟨k, D, hk, rfl, HO, HG, HF⟩ := hrel
  have HM := Lib.hid HO.out.isMap
  clear k2
  by_cases hlt : k < Lc
  ·obtain ⟨x, hx⟩ : ∃ x, cs[k]? = some x := ⟨_, List.getElem?_eq_getElem (by have := HLc.out; omega)⟩
   have hol := OwnL.sl (zcs HOL4.out HF.out (by omega))
   obtain ⟨b, off, rfl, hb, x0, x1, x2, x3⟩ := hol.get hx
   have HID2 := HID.out x (List.mem_of_getElem? hx)
   have HP := Lib.hid (zcn HG.out HM.out HS.out hx)
   have HKY : Hid (keyOf Tryz.prog 3 (.int .i64 x.id) = some (kI x.id)) := Lib.hid (keyOf_int_mk Tryz.underlying3 (wfI HID2.1 HID2.2))
   have HN : Hid (k < maxLen) := Lib.hid (by unfold maxLen; omega)
   have hbo := z04 wr (.cells (clC x) 32)
   have R := z02 wr (clC x) 32
   have d0 := R.cell (i := 0) rfl
   have k1 := ((zcr HRC4.out HF.out (by omega)).alloc (.cells (clC x) 32)).cell (i := 3) rfl
   have HO2 := Lib.hid (HO.out.alloc (.cells (clC x) 32))
   have HF2 := Lib.hid (HF.out.alloc (.cells (clC x) 32))
   obtain ⟨xi, xs, xa, xv⟩ := x
   simp only at x0 x1 x2 x3 HKY HP d0 k1 HO2 HF2
   clear R hbo hol hx HID2 hb
   go_wp2_with (at_mapUpdate; refine wpList_mapUpdate_own _ rfl _ _ _ 71 rfl 3 3 lawI Tryz.underlying71 _ (w.heap.size + 1 + 1) k _ rfl HO2.out HN.out _ _ _ rfl rfl HKY.out _ [] (plainElem_int Tryz.underlying3 (wfI (by omega) (by omega))) ?_; intro w1 hown1 hgrow1)
   have HO3 := Lib.hid hown1
   have HF3 := Lib.hid (HF2.out.grown hgrow1 (fun g hg => by cases hg; exact .inr rfl))
   clear hown1 hgrow1
   go_wp2
   go_roundw
   case rel => exact ⟨k + 1, _, by omega, by go_num, HO3, HP, HF3⟩
   case measure => simp [intOf]; omega
  ·have hkk : k = Lc := by omega
   have HCr := zcr HRC4.out HF.out (by omega)
   have HBr := zcr HRB4.out HF.out (by omega)
   have k0 := HCr.cell (i := 0) rfl
   have k1 := HCr.cell (i := 1) rfl
   have k2 := HCr.cell (i := 2) rfl
   have k3 := HCr.cell (i := 3) rfl
   have t0 := HBr.thaw 0
   have t1 := HBr.thaw 1
   have t2 := HBr.thaw 2
   have t3 := HBr.thaw 3
   have e0 := HBr.cell (i := 0) rfl
   have e1 := HBr.cell (i := 1) rfl
   have e2 := HBr.cell (i := 2) rfl
   have e3 := HBr.cell (i := 3) rfl
   have R9 := (((HBr.set 0 (.int .i64 v)).set 1 (.slice a9 Le c9)).set 2 (.slice a8 Lc c8)).set 3 (.map (some (w.heap.size + 1 + 1)))
   have f0 := R9.cell (i := 0) rfl
   have f1 := R9.cell (i := 1) rfl
   have f2 := R9.cell (i := 2) rfl
   have f3 := R9.cell (i := 3) rfl
   have HFIN : Hid (z1n ⟨v, es, cs⟩ w (.returned (.agg (stC v (.slice a9 Le c9) (.slice a8 Lc c8) (w.heap.size + 1 + 1)))) ((((wr.setCell ⟨w.heap.size + 1, 0, none⟩ (.int .i64 v)).setCell ⟨w.heap.size + 1, 1, none⟩ (.slice a9 Le c9)).setCell ⟨w.heap.size + 1, 2, none⟩ (.slice a8 Lc c8)).setCell ⟨w.heap.size + 1, 3, none⟩ (.map (some (w.heap.size + 1 + 1))))) := Lib.hid (by
    have hbut : But (w.heap.size + 1) wr ((((wr.setCell ⟨w.heap.size + 1, 0, none⟩ (.int .i64 v)).setCell ⟨w.heap.size + 1, 1, none⟩ (.slice a9 Le c9)).setCell ⟨w.heap.size + 1, 2, none⟩ (.slice a8 Lc c8)).setCell ⟨w.heap.size + 1, 3, none⟩ (.map (some (w.heap.size + 1 + 1)))) := ((((But.refl _ _).set _ _).set _ _).set _ _).set _ _
    have h1 := z1c (zcs HOE4.out HF.out (by omega)) hbut (by omega)
    have h2 := z1c (zcs HOL4.out HF.out (by omega)) hbut (by omega)
    have hbw : Below w.heap.size w wr := Fr.to_below HB4.out HF.out (by omega)
    refine ⟨a9, c9, a8, c8, _, by rw [HLe.out, HLc.out], ⟨?_, ?_, fun h => ?_, _, D, z0r HO.out (hbut.block _ (by omega)), ?_⟩, ?_, hbw.trans (hbut.below (B := w.heap.size) (by omega))⟩
    ·rw [show (⟨v, es, cs⟩ : Mdl).es.length = Le from HLe.out.symm]; exact Own.sl h1
    ·rw [show (⟨v, es, cs⟩ : Mdl).cs.length = Lc from HLc.out.symm]; exact OwnL.sl h2
    ·subst h
     rcases h2.2 with ⟨h0, -⟩ | ⟨g, cap, cur, h0, -⟩
     ·injection h0
     ·injection h0 with h0; cases h0
    ·have := HG.out; rw [hkk, HLc.out] at this; exact this
    ·rw [show (⟨v, es, cs⟩ : Mdl).cs.length = Lc from HLc.out.symm]; exact OwnL.fsh (z1g h2 (by omega)))
   clear R9 HCr HBr hkk
   go_wp2
   exact bodyPost_ret (v := .agg (stC v (.slice a9 Le c9) (.slice a8 Lc c8) (w.heap.size + 1 + 1))) (by simp [results, Tryz.results39, go_sem, f0, f1, f2, f3]) rfl HFIN.out
end Go.Proofs.YtdkkkeoicekdgaaGreatDoor.Md
