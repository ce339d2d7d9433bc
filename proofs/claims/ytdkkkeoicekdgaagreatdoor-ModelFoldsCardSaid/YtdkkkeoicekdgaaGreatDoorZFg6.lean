/- Package model: the map of places; a refusal; the state of a model. -/
import Derived.Test.YtdkkkeoicekdgaaGreatDoorZFg32

section

namespace Go.Proofs.YtdkkkeoicekdgaaGreatDoor.Md
set_option maxHeartbeats 6400000
set_option maxRecDepth 100000
open Go.RowKit Go.Maps Go.WideShapes Go.WideMaps Go.Proofs.YtdkkkeoicekdgaaGreatDoor Go.Proofs.YtdkkkeoicekdgaaGreatDoor.Ca
theorem lawI : Keyed Tryz.prog 3 := int_keyed Tryz.underlying3
theorem zeroI (w : World) : (zeroValue 3).run Tryz.prog w = .ok (.int .i64 0) w := by kernel_rfl
abbrev OMm (w : World) (b n : Nat) (D : DataW Unit) : Prop := w.ownsMap Tryz.prog 3 (plainElem Tryz.prog 3) b n D
theorem z1e {w w' : World} {b n : Nat} {D : DataW Unit} (h : OMm w b n D) (hk : w'.heap[b]? = w.heap[b]?) : OMm w' b n D := by
 obtain ⟨es, a, hb, r⟩ := h;exact ⟨es, a, hk.trans hb, r⟩
abbrev kI (n : Int) : Lit := .int .i64 n
theorem keyI (n : Int) : WideAt.IsKeyLit (kI n) := trivial
theorem wfI {n : Int} (h0 : -9223372036854775808 <= n) (h1 : n <= 9223372036854775807) : (Lit.int .i64 n).wf = true := WalkArith.wf_i64 ⟨h0, h1⟩
structure GoodK (l : List Cli) (k : Nat) (D : DataW Unit) : Prop where
 has : ∀ id : Int, Maps.has D (kI id) = true ↔ ∃ (j : Nat) (x : Cli), j < k /\ l[j]? = some x /\ x.id = id
 at_ : ∀ (j : Nat) (x : Cli), j < k -> l[j]? = some x -> D.atKey (kI x.id) (.lit (kI 0)) = .lit (kI j)
theorem zhm (l : List Cli) : GoodK l 0 (.map []) := ⟨fun id => ⟨fun h => by simp [Maps.has] at h, fun ⟨j, x, h, _⟩ => by omega⟩, fun j x h => by omega⟩
theorem zfz {l : List Cli} (h : SrtC l) {i j : Nat} {x y : Cli} (hi : l[i]? = some x) (hj : l[j]? = some y) (hij : i < j) : x.id < y.id := by
 obtain ⟨h1, rfl⟩ := List.getElem?_eq_some_iff.1 hi;obtain ⟨h2, rfl⟩ := List.getElem?_eq_some_iff.1 hj;exact List.pairwise_iff_getElem.1 h i j h1 h2 hij
theorem zhn {l : List Cli} {k : Nat} {D : DataW Unit} {x : Cli} (h : GoodK l k D) (hm : IsMap D) (hs : SrtC l) (hx : l[k]? = some x) : GoodK l (k + 1) (D.put (kI x.id) (.lit (kI k))) := by
 refine ⟨fun id => ?_, fun j y hj hy => ?_⟩
 ·by_cases he : id = x.id
  ·subst he
   exact ⟨fun _ => ⟨k, x, by omega, hx, rfl⟩, fun _ => has_put_same hm (keyI _) _⟩
  ·rw [has_put_other (by intro e; injection e with e1 e2; exact he e2), h.has id]
   constructor
   ·rintro ⟨j, y, h1, h2, h3⟩; exact ⟨j, y, by omega, h2, h3⟩
   ·rintro ⟨j, y, h1, h2, h3⟩
    refine ⟨j, y, ?_, h2, h3⟩
    rcases Nat.lt_or_eq_of_le (Nat.le_of_lt_succ h1) with h4 | rfl
    ·exact h4
    ·rw [hx] at h2; obtain rfl := Option.some.inj h2; exact absurd h3.symm he
 ·rcases Nat.lt_or_eq_of_le (Nat.le_of_lt_succ hj) with h4 | rfl
  ·have := zfz hs hy hx h4
   rw [atKey_put_other (by intro e; injection e with e1 e2; omega)];exact h.at_ j y h4 hy
  ·rw [hx] at hy; obtain rfl := Option.some.inj hy
   exact atKey_put_same hm (keyI _) _ _
abbrev stC (v : Int) (ve vc : Value) (M : Nat) : Array Value := #[.int .i64 v, ve, vc, .map (some M)]
abbrev mdC (v : Int) (ve vc : Value) : Array Value := #[.int .i64 v, ve, vc]
structure StAt (w : World) (m : Mdl) (ae : Option Addr) (ce : Nat) (ac : Option Addr) (cc M : Nat) : Prop where
 es : SlE w (Old w) (.slice ae m.es.length ce) m.es
 cs : SlL w (Old w) (.slice ac m.cs.length cc) m.cs
 nil : ac = none -> cc = 0
 map : ∃ n D, OMm w M n D /\ GoodK m.cs m.cs.length D
theorem StAt.old {w w' : World} {m : Mdl} {ae ac : Option Addr} {ce cc M : Nat} (h : StAt w m ae ce ac cc M) (hb : Below w.heap.size w w') : StAt w' m ae ce ac cc M := by
 obtain ⟨n, D, h1, h2⟩ := h.map;exact ⟨h.es.old hb, h.cs.old hb, h.nil, n, D, z1e h1 (hb.block _ h1.lt), h2⟩
theorem OwnL.fsh {w : World} {base : Nat} {v : Value} {xs : List Cli} (h : OwnL w base v xs) : SlL w (Fsh base w) v xs := by
 obtain ⟨a, c, hv, h1, h2, h3⟩ := h.sl;refine ⟨a, c, hv, h1, h2, fun hne => ?_⟩;obtain ⟨b, d, ha, hb, f⟩ := h3 hne;exact ⟨b, d, ha, ⟨(h.lt b (by rw [hv, ha]; rfl)).1, hb⟩, f⟩
def z3r (m : Mdl) (w : World) (e : Ending) (w' : World) : Prop := ∃ ae ce ac cc M, e = .returned (.agg (stC m.vr (.slice ae m.es.length ce) (.slice ac m.cs.length cc) M)) /\ StAt w' m ae ce ac cc M /\ SlL w' (Fsh w.heap.size w') (.slice ac m.cs.length cc) m.cs /\ Below w.heap.size w w'
theorem z6y (w : World) (cl sq : Int) (vh : Value) (an : Int) : Calls Tryz.prog 81 #[.agg #[.int .i64 cl, .int .i64 sq, vh], .int .i64 an] w fun e w' => e = .returned (clV ⟨cl, sq, an, 0⟩) /\ Below w.heap.size w w' := by
 have R0 := (z02 w #[.int .i64 cl, .int .i64 sq, vh] 28).alloc (.cells #[.int .i64 0, .int .i64 0, .int .i64 0, .int .i64 0] 32);have c0 := R0.c0;have c1 := R0.c1;have R2 := z02 (w.alloc (.cells #[.int .i64 cl, .int .i64 sq, vh] 28)) (clC ⟨cl, sq, an, 0⟩) 32;rw [World.size_alloc] at R2;have f0 := R2.c0;have f1 := R2.c1;have f2 := R2.c2;have f3 := R2.c3;have HB := Lib.hid (z3p w (.cells #[.int .i64 cl, .int .i64 sq, vh] 28) (.cells (clC ⟨cl, sq, an, 0⟩) 32));clear R0 R2
 go_enter Tryz.func81, Tryz.ntmps81
 go_wp2;exact bodyPost_ret (v := clV ⟨cl, sq, an, 0⟩) (by simp [results, Tryz.results81, go_sem, f0, f1, f2, f3]) rfl ⟨rfl, HB.out⟩
theorem zhx {W w' : World} {M B : Nat} {e : TypeId} {k n : Nat} {v : Value} {xs : List Value} (h : W.ownsRow B e k v n xs) (hf : Fr (fun b => b = M) W w') (hM : M < B) : w'.ownsRow B e k v n xs := by
 refine ⟨h.1, ?_⟩
 rcases h.2 with h0 | ⟨g, cap, cur, hv, hbs, hh, hr⟩
 ·exact .inl h0
 ·exact .inr ⟨g, cap, cur, hv, hbs, (hf.block g (Array.getElem?_eq_some_iff.1 hh).1 (by omega)).trans hh, hr⟩
theorem z2a {w : World} {B B' : Nat} {e : TypeId} {k n : Nat} {v : Value} {xs : List Value} (h : w.ownsRow B e k v n xs) (hB : B' <= B) : w.ownsRow B' e k v n xs := by
 refine ⟨h.1, ?_⟩
 rcases h.2 with h0 | ⟨g, cap, cur, hv, hb, hr⟩
 ·exact .inl h0
 ·exact .inr ⟨g, cap, cur, hv, Nat.le_trans hB hb, hr⟩
theorem zhw {W w' : World} {M b : Nat} {t : TypeId} {cs : List Value} (h : Row W b t cs) (hf : Fr (fun b => b = M) W w') (hne : b ≠ M) : Row w' b t cs := h.keep (hf.block b h.lt hne)
theorem z4p (w : World) (v : Int) (ae : Option Addr) (ce : Nat) (es : List Ent) (ac : Option Addr) (cc : Nat) (cs : List Cli) (hE : SlE w (Old w) (.slice ae es.length ce) es) (hC : SlL w (Old w) (.slice ac cs.length cc) cs)
  (hle : es.length <= 1000) (hlc : cs.length <= 1000) (hs : SrtC cs) (hid : ∀ x, x ∈ cs -> -9223372036854775808 <= x.id /\ x.id <= 9223372036854775807) :
  Calls Tryz.prog 39 #[.agg #[.int .i64 v, .slice ae es.length ce, .slice ac cs.length cc]] w (z3r ⟨v, es, cs⟩ w) := by
 have ah := @run_makeMap Tryz.prog;obtain ⟨Le, m⟩ := nmd (es.length);obtain ⟨Lc, d⟩ := nmd (cs.length)
 have aH : Lc <= 1000 := by have := d.out; omega
 have C := Lib.hid hE;have E := Lib.hid hC;have y := Lib.hid (fun W (h : Below w.heap.size w W) => zbc W ae ce es (hE.old h) hle);have z := Lib.hid (fun W (h : Below w.heap.size w W) => z8g W ac cc cs (hC.old h) hlc);have ai := Lib.hid hid;have HS := Lib.hid hs;rw [<- m.out] at C y ⊢;rw [<- d.out] at E z ⊢;clear hE hC hle hlc hid hs;obtain ⟨W1, f⟩ := nmd ((((w.alloc (.cells (mdC v (.slice ae Le ce) (.slice ac Lc cc)) 25)).alloc (.cells #[.int .i64 0, .slice none 0 0, .slice none 0 0, .map none] 73)).alloc (.map #[] 0)).alloc (.cells (stC v (.slice ae Le ce) (.slice ac Lc cc) (w.heap.size + 1 + 1)) 73));have aj : Hid (W1.heap.size = w.heap.size + 4) := Lib.hid (by rw [f.out]; simp);have s : Hid (Below w.heap.size w W1) := Lib.hid (by rw [f.out]; exact (z63 w _ _ _).alloc (by simp; omega) _);have A : Hid (Row W1 w.heap.size 25 [.int .i64 v, .slice ae Le ce, .slice ac Lc cc]) := Lib.hid (by rw [f.out]; exact (((z02 w (mdC v (.slice ae Le ce) (.slice ac Lc cc)) _).alloc _).alloc _).alloc _)
 have F : Hid (Row W1 (w.heap.size + 1) 73 [.int .i64 0, .slice none 0 0, .slice none 0 0, .map none]) := Lib.hid (by
  rw [f.out];have h := ((z02 (w.alloc (.cells (mdC v (.slice ae Le ce) (.slice ac Lc cc)) 25)) #[.int .i64 0, .slice none 0 0, .slice none 0 0, .map none] 73).alloc (.map #[] 0)).alloc (.cells (stC v (.slice ae Le ce) (.slice ac Lc cc) (w.heap.size + 1 + 1)) 73)
  rwa [World.size_alloc] at h)
 have G : Hid (OMm W1 (w.heap.size + 1 + 1) 0 (.map [])) := Lib.hid (by
  rw [f.out];have h := (World.ownsMap_made (H := Unit) ((w.alloc (.cells (mdC v (.slice ae Le ce) (.slice ac Lc cc)) 25)).alloc (.cells #[.int .i64 0, .slice none 0 0, .slice none 0 0, .map none] 73)) Tryz.prog 3 (plainElem Tryz.prog 3)).alloc (.cells (stC v (.slice ae Le ce) (.slice ac Lc cc) (w.heap.size + 1 + 1)) 73)
  simpa only [World.size_alloc] using h)
 have l : Hid (Row W1 (w.heap.size + 1 + 1 + 1) 73 [.int .i64 v, .slice ae Le ce, .slice ac Lc cc, .map (some (w.heap.size + 1 + 1))]) := Lib.hid (by
  rw [f.out];have h := z02 (((w.alloc (.cells (mdC v (.slice ae Le ce) (.slice ac Lc cc)) 25)).alloc (.cells #[.int .i64 0, .slice none 0 0, .slice none 0 0, .map none] 73)).alloc (.map #[] 0)) (stC v (.slice ae Le ce) (.slice ac Lc cc) (w.heap.size + 1 + 1)) 73
  simpa only [World.size_alloc] using h)
 have r0 := (z02 w (mdC v (.slice ae Le ce) (.slice ac Lc cc)) 25).alloc (.cells #[.int .i64 0, .slice none 0 0, .slice none 0 0, .map none] 73);have c0 := r0.c0;have c1 := r0.c1;have c2 := r0.c2;clear r0
 go_enter Tryz.func39, Tryz.ntmps39
 go_wp2;rw [<- f.out];clear c0 c1 c2 ah f
 have t : Hid (∀ W, Below W1.heap.size W1 W -> (W.cell? ⟨w.heap.size, 1, none⟩ = some (.slice ae Le ce) /\ W.cell? ⟨w.heap.size, 2, none⟩ = some (.slice ac Lc cc)) /\ W.cell? ⟨w.heap.size + 1 + 1 + 1, 1, none⟩ = some (.slice ae Le ce) /\ W.frozen? ⟨w.heap.size + 1 + 1 + 1, 1, none⟩ = false /\ W.cell? ⟨w.heap.size + 1 + 1 + 1, 2, none⟩ = some (.slice ac Lc cc) /\ W.frozen? ⟨w.heap.size + 1 + 1 + 1, 2, none⟩ = false) := Lib.hid (fun W h =>
  ⟨⟨(A.out.below h).cell rfl, (A.out.below h).cell rfl⟩, (l.out.below h).cell rfl, (l.out.below h).thaw _, (l.out.below h).cell rfl, (l.out.below h).thaw _⟩)
 have I : Hid (∀ W, Hid (Below W1.heap.size W1 W) -> Calls Tryz.prog 79 #[.slice ae Le ce] W fun e w' => ∃ a9 c9, e = .returned (.slice a9 Le c9) /\ (w'.cell? ⟨w.heap.size, 1, none⟩ = some (.slice ae Le ce) /\ w'.cell? ⟨w.heap.size, 2, none⟩ = some (.slice ac Lc cc)) /\ Hid (Own w' W1.heap.size (.slice a9 Le c9) es) /\ Hid (Below W1.heap.size W1 w')) := Lib.hid (fun W h =>
  (y.out W (z00 s.out h.out)).mono fun e w' ⟨v9, he, ho, hb⟩ => by
   obtain ⟨a9, c9, rfl, -⟩ := z0i ho;have n := z00 h.out hb;rw [<- m.out] at he;refine ⟨a9, c9, he, (t.out w' n).1, Lib.hid ?_, Lib.hid n⟩;rw [m.out]
   exact z2a ho h.out.size)
 have J : Hid (∀ W a9 c9, Hid (Below W1.heap.size W1 W) -> Hid (Own W W1.heap.size (.slice a9 Le c9) es) -> Calls Tryz.prog 80 #[.slice ac Lc cc] W fun e w' => ∃ a8 c8, e = .returned (.slice a8 Lc c8) /\ (w'.cell? ⟨w.heap.size, 1, none⟩ = some (.slice ae Le ce) /\ w'.cell? ⟨w.heap.size, 2, none⟩ = some (.slice ac Lc cc)) /\ w'.cell? ⟨w.heap.size + 1 + 1 + 1, 1, none⟩ = some (.slice ae Le ce) /\ w'.frozen? ⟨w.heap.size + 1 + 1 + 1, 1, none⟩ = false /\ w'.cell? ⟨w.heap.size + 1 + 1 + 1, 2, none⟩ = some (.slice ac Lc cc) /\ w'.frozen? ⟨w.heap.size + 1 + 1 + 1, 2, none⟩ = false /\ Hid (Own w' W1.heap.size (.slice a9 Le c9) es) /\ Hid (OwnL w' W1.heap.size (.slice a8 Lc c8) cs) /\ Hid (Below W1.heap.size W1 w')) := Lib.hid (fun W a9 c9 h ho9 =>
  (z.out W (z00 s.out h.out)).mono fun e w' ⟨v8, he, ho, hb⟩ => by
   obtain ⟨a8, c8, rfl, -⟩ := z0i ho;have n := z00 h.out hb;obtain ⟨k1, k2, k3, k4, k5⟩ := t.out w' n;rw [<- d.out] at he;refine ⟨a8, c8, he, k1, k2, k3, k4, k5, Lib.hid (z0m ho9.out hb), Lib.hid ?_, Lib.hid n⟩;rw [d.out]
   exact z2a ho h.out.size)
 have L : Hid (Below W1.heap.size W1 W1.drew) := Lib.hid (Below.refl _ _).drew;obtain ⟨aq, -⟩ := t.out _ L.out
 have aI : ¬ (w.heap.size + 1 + 1 + 1 = w.heap.size) := by omega
 go_region_held3 (fun W => W.cell? ⟨w.heap.size, 1, none⟩ = some (.slice ae Le ce) /\ W.cell? ⟨w.heap.size, 2, none⟩ = some (.slice ac Lc cc)) (first | go_keep | assumption)
  (first
   | (go_at_call 79; refine (I.out _ ?_).mono ?_; assumption; rintro e U1 ⟨a9, c9, rfl, ar, au, aw⟩)
   | (go_at_call 80; refine (J.out _ a9 c9 ?_ ?_).mono ?_; assumption; assumption; rintro e U2 ⟨a8, c8, rfl, ax, ay, az, aA, aB, M, N, o⟩)
   | fail)
 have j : Hid (Row ((U2.setCell ⟨w.heap.size + 1 + 1 + 1, 1, none⟩ (.slice a9 Le c9)).setCell ⟨w.heap.size + 1 + 1 + 1, 2, none⟩ (.slice a8 Lc c8)) (w.heap.size + 1 + 1 + 1) 73 [.int .i64 v, .slice a9 Le c9, .slice a8 Lc c8, .map (some (w.heap.size + 1 + 1))] /\
   Row ((U2.setCell ⟨w.heap.size + 1 + 1 + 1, 1, none⟩ (.slice a9 Le c9)).setCell ⟨w.heap.size + 1 + 1 + 1, 2, none⟩ (.slice a8 Lc c8)) (w.heap.size + 1) 73 [.int .i64 0, .slice none 0 0, .slice none 0 0, .map none] /\
   OMm ((U2.setCell ⟨w.heap.size + 1 + 1 + 1, 1, none⟩ (.slice a9 Le c9)).setCell ⟨w.heap.size + 1 + 1 + 1, 2, none⟩ (.slice a8 Lc c8)) (w.heap.size + 1 + 1) 0 (.map []) /\
   Own ((U2.setCell ⟨w.heap.size + 1 + 1 + 1, 1, none⟩ (.slice a9 Le c9)).setCell ⟨w.heap.size + 1 + 1 + 1, 2, none⟩ (.slice a8 Lc c8)) (w.heap.size + 4) (.slice a9 Le c9) es /\
   OwnL ((U2.setCell ⟨w.heap.size + 1 + 1 + 1, 1, none⟩ (.slice a9 Le c9)).setCell ⟨w.heap.size + 1 + 1 + 1, 2, none⟩ (.slice a8 Lc c8)) (w.heap.size + 4) (.slice a8 Lc c8) cs /\
   Below w.heap.size w ((U2.setCell ⟨w.heap.size + 1 + 1 + 1, 1, none⟩ (.slice a9 Le c9)).setCell ⟨w.heap.size + 1 + 1 + 1, 2, none⟩ (.slice a8 Lc c8))) := Lib.hid (by
  have a : But (w.heap.size + 1 + 1 + 1) U2 ((U2.setCell ⟨w.heap.size + 1 + 1 + 1, 1, none⟩ (.slice a9 Le c9)).setCell ⟨w.heap.size + 1 + 1 + 1, 2, none⟩ (.slice a8 Lc c8)) := ((But.refl _ _).set _ _).set _ _;have O := aj.out;refine ⟨((l.out.below o.out).set 1 _).set 2 _, (F.out.below o.out).keep (a.block _ (by omega)), z1e (z1e G.out (o.out.block _ (by omega))) (a.block _ (by omega)), ?_, ?_, ?_⟩
  ·rw [<- O]; exact z24 M.out a (by omega)
  ·rw [<- O]; exact z24 N.out a (by omega)
  ·exact (z00 s.out o.out).trans (a.below (B := w.heap.size) (by omega)))
 generalize (U2.setCell ⟨w.heap.size + 1 + 1 + 1, 1, none⟩ (.slice a9 Le c9)).setCell ⟨w.heap.size + 1 + 1 + 1, 2, none⟩ (.slice a8 Lc c8) = w4 at *
 have p := Lib.hid j.out.1;have T := Lib.hid j.out.2.1;have U := Lib.hid j.out.2.2.1;have V := Lib.hid j.out.2.2.2.1;have u := Lib.hid j.out.2.2.2.2.1;have aC := Lib.hid j.out.2.2.2.2.2;clear aq ar ax ay aA az aB au M N L aw o I J t A F l G y z j s C E;have k2 := p.out.c2;go_wp2
 go_loopw [4, 5, 23] (fun v4 v5 i wr => ∃ (k : Nat) (D : DataW Unit), k <= Lc /\ i = .int .i64 k /\ Hid (OMm wr (w.heap.size + 1 + 1) k D) /\ Hid (GoodK cs k D) /\ Hid (Fr (fun b => b = w.heap.size + 1 + 1) w4 wr)) (fun _ _ i _ => Lc - (intOf i).toNat)
 case atStart => exact ⟨0, .map [], Nat.zero_le _, rfl, U, Lib.hid (zhm _), Lib.hid (Fr.refl _ _)⟩
 case round =>
  obtain ⟨k, D, hk, rfl, HO, HG, HF⟩ := hrel;have HM := Lib.hid HO.out.isMap;clear k2
  by_cases hlt : k < Lc
  ·obtain ⟨x, hx⟩ : ∃ x, cs[k]? = some x := ⟨_, List.getElem?_eq_getElem (by have := d.out; omega)⟩
   have X := OwnL.sl (zhx u.out HF.out (by omega));obtain ⟨b, aJ, rfl, hb, x0, x1, x2, x3⟩ := X.get hx;have q := ai.out x (List.mem_of_getElem? hx);have HP := Lib.hid (zhn HG.out HM.out HS.out hx);have Y : Hid (keyOf Tryz.prog 3 (.int .i64 x.id) = some (kI x.id)) := Lib.hid (keyOf_int_mk Tryz.underlying3 (wfI q.1 q.2));have HN : Hid (k < maxLen) := Lib.hid (by unfold maxLen; omega);have aD := z04 wr (.cells (clC x) 32);have R := z02 wr (clC x) 32;have d0 := R.c0;have k1 := ((zhw p.out HF.out (by omega)).alloc (.cells (clC x) 32)).c3;have Z := Lib.hid (HO.out.alloc (.cells (clC x) 32));have aa := Lib.hid (HF.out.alloc (.cells (clC x) 32));obtain ⟨xi, xs, xa, xv⟩ := x;simp only at x0 x1 x2 x3 Y HP d0 k1 Z aa;clear R aD X hx q hb
   go_wp2_with (at_mapUpdate; refine wpList_mapUpdate_own _ rfl _ _ _ 71 rfl 3 3 lawI Tryz.underlying71 _ (w.heap.size + 1 + 1) k _ rfl Z.out HN.out _ _ _ rfl rfl Y.out _ [] (plainElem_int Tryz.underlying3 (wfI (by omega) (by omega))) ?_; intro w1 hown1 hgrow1)
   have aE := Lib.hid hown1;have aF := Lib.hid (aa.out.grown hgrow1 (fun g hg => by cases hg; exact .inr rfl));clear hown1 hgrow1;go_wp2;go_roundw
   case rel => exact ⟨k + 1, _, by omega, by go_num, aE, HP, aF⟩
   case measure => simp [intOf]; omega
  ·have af : k = Lc := by omega
   have r := zhw p.out HF.out (by omega);have c := zhw T.out HF.out (by omega);have k0 := r.c0;have k1 := r.c1;have k2 := r.c2;have k3 := r.c3;have t0 := c.thaw 0;have t1 := c.thaw 1;have t2 := c.thaw 2;have t3 := c.thaw 3;have e0 := c.c0;have e1 := c.c1;have e2 := c.c2;have e3 := c.c3;have R9 := (((c.set 0 (.int .i64 v)).set 1 (.slice a9 Le c9)).set 2 (.slice a8 Lc c8)).set 3 (.map (some (w.heap.size + 1 + 1)));have f0 := R9.c0;have f1 := R9.c1;have f2 := R9.c2;have f3 := R9.c3
   have ag : Hid (z3r ⟨v, es, cs⟩ w (.returned (.agg (stC v (.slice a9 Le c9) (.slice a8 Lc c8) (w.heap.size + 1 + 1)))) ((((wr.setCell ⟨w.heap.size + 1, 0, none⟩ (.int .i64 v)).setCell ⟨w.heap.size + 1, 1, none⟩ (.slice a9 Le c9)).setCell ⟨w.heap.size + 1, 2, none⟩ (.slice a8 Lc c8)).setCell ⟨w.heap.size + 1, 3, none⟩ (.map (some (w.heap.size + 1 + 1))))) := Lib.hid (by
    have a : But (w.heap.size + 1) wr ((((wr.setCell ⟨w.heap.size + 1, 0, none⟩ (.int .i64 v)).setCell ⟨w.heap.size + 1, 1, none⟩ (.slice a9 Le c9)).setCell ⟨w.heap.size + 1, 2, none⟩ (.slice a8 Lc c8)).setCell ⟨w.heap.size + 1, 3, none⟩ (.map (some (w.heap.size + 1 + 1)))) := ((((But.refl _ _).set _ _).set _ _).set _ _).set _ _;have h1 := z24 (zhx V.out HF.out (by omega)) a (by omega);have h2 := z24 (zhx u.out HF.out (by omega)) a (by omega);have aG : Below w.heap.size w wr := Fr.to_below aC.out HF.out (by omega);refine ⟨a9, c9, a8, c8, _, by rw [m.out, d.out], ⟨?_, ?_, fun h => ?_, _, D, z1e HO.out (a.block _ (by omega)), ?_⟩, ?_, aG.trans (a.below (B := w.heap.size) (by omega))⟩
    ·rw [show (⟨v, es, cs⟩ : Mdl).es.length = Le from m.out.symm]; exact Own.sl h1
    ·rw [show (⟨v, es, cs⟩ : Mdl).cs.length = Lc from d.out.symm]; exact OwnL.sl h2
    ·subst h
     rcases h2.2 with ⟨h0, -⟩ | ⟨g, cap, cur, h0, -⟩
     ·injection h0
     ·injection h0 with h0; cases h0
    ·have := HG.out; rw [af, d.out] at this; exact this
    ·rw [show (⟨v, es, cs⟩ : Mdl).cs.length = Lc from d.out.symm]; exact OwnL.fsh (z2a h2 (by omega)))
   clear R9 r c af;go_wp2;exact bodyPost_ret (v := .agg (stC v (.slice a9 Le c9) (.slice a8 Lc c8) (w.heap.size + 1 + 1))) (by simp [results, Tryz.results39, go_sem, f0, f1, f2, f3]) rfl ag.out
end Go.Proofs.YtdkkkeoicekdgaaGreatDoor.Md

end

section

namespace Go.Proofs.YtdkkkeoicekdgaaGreatDoor.Md
set_option maxHeartbeats 6400000
set_option maxRecDepth 100000
open Go.Lib (hid)
open Go.RowKit Go.Proofs.YtdkkkeoicekdgaaGreatDoor Go.Proofs.YtdkkkeoicekdgaaGreatDoor.Ca
theorem fit_may {x : Ent} (h : mayB x = true) : FitE x := by
 obtain ⟨h1, h2, h3⟩ := may_tx h;exact ⟨by omega, by omega, by omega⟩
theorem z6h {l : List Ent} (h : Rgt l) : ∀ x, x ∈ l -> FitE x := fun x hx => fit_may (h.may x hx)
theorem chg_bad {v : Int} {l : List Ent} {cs : List Chg} {k : Nat} (h : z17 l cs = .error k) : chgF v l cs = .error k := by unfold chgF; rw [h]
theorem chg_long {v : Int} {l l' : List Ent} {cs : List Chg} (h : z17 l cs = .ok l') (h2 : (z0r l').2 ≠ 0) : chgF v l cs = .error 2 := by unfold chgF; rw [h]; simp only; rw [if_pos h2]
theorem chg_full {v : Int} {l l' : List Ent} {cs : List Chg} (h : z17 l cs = .ok l') (h2 : (z0r l').2 = 0) (h3 : v = 1073741824) : chgF v l cs = .error 130 := by unfold chgF; rw [h]; simp only; rw [if_neg (by simpa using h2), if_pos h3]
theorem chg_yes {v : Int} {l l' : List Ent} {cs : List Chg} (h : z17 l cs = .ok l') (h2 : (z0r l').2 = 0) (h3 : ¬ v = 1073741824) : chgF v l cs = .ok l' := by unfold chgF; rw [h]; simp only; rw [if_neg (by simpa using h2), if_neg h3]
def z1z (m : Mdl) (ch : List Chg) (w : World) (e : Ending) (w' : World) : Prop := ∃ ae ce ac cc M, StAt w' (match chgF m.vr m.es ch with | .error _ => m | .ok l => ⟨m.vr + 1, l, m.cs⟩) ae ce ac cc M /\ Below w.heap.size w w' /\
 e = .returned (.tuple #[.agg (stC (match chgF m.vr m.es ch with | .error _ => m | .ok l => ⟨m.vr + 1, l, m.cs⟩ : Mdl).vr (.slice ae (match chgF m.vr m.es ch with | .error _ => m | .ok l => ⟨m.vr + 1, l, m.cs⟩ : Mdl).es.length ce) (.slice ac m.cs.length cc) M), .int .i64 (match chgF m.vr m.es ch with | .error k => (k : Int) | .ok _ => 0)])
theorem z1z.no {m : Mdl} {ch : List Chg} {w w' : World} {k : Nat} {ae : Option Addr} {ce : Nat} {ac : Option Addr} {cc M : Nat} (h : chgF m.vr m.es ch = .error k) (hs : StAt w' m ae ce ac cc M) (hb : Below w.heap.size w w') :
  z1z m ch w (.returned (.tuple #[.agg (stC m.vr (.slice ae m.es.length ce) (.slice ac m.cs.length cc) M), .int .i64 k])) w' := ⟨ae, ce, ac, cc, M, by rw [h]; exact hs, hb, by rw [h]⟩
theorem z1z.yes {m : Mdl} {ch : List Chg} {w w' : World} {l : List Ent} {ae : Option Addr} {ce : Nat} {ac : Option Addr} {cc M : Nat} (h : chgF m.vr m.es ch = .ok l) (hs : StAt w' ⟨m.vr + 1, l, m.cs⟩ ae ce ac cc M) (hb : Below w.heap.size w w') :
  z1z m ch w (.returned (.tuple #[.agg (stC (m.vr + 1) (.slice ae l.length ce) (.slice ac m.cs.length cc) M), .int .i64 0])) w' := ⟨ae, ce, ac, cc, M, by rw [h]; exact hs, hb, by rw [h]⟩
abbrev putS (w : World) (R : Nat) (v : Int) (ve vc : Value) (M : Nat) : World := (((w.setCell ⟨R, 0, none⟩ (.int .i64 v)).setCell ⟨R, 1, none⟩ ve).setCell ⟨R, 2, none⟩ vc).setCell ⟨R, 3, none⟩ (.map (some M))
theorem z2h {w : World} {R : Nat} {t : TypeId} {x0 x1 x2 x3 : Value} (h : Row w R t [x0, x1, x2, x3]) (v : Int) (ve vc : Value) (M : Nat) : Row (putS w R v ve vc M) R t [.int .i64 v, ve, vc, .map (some M)] := (((h.set 0 (.int .i64 v)).set 1 ve).set 2 vc).set 3 (.map (some M))
theorem z10 (w : World) (R : Nat) (v : Int) (ve vc : Value) (M : Nat) : But R w (putS w R v ve vc M) := ((((But.refl _ _).set _ _).set _ _).set _ _).set _ _
structure StLt (w : World) (B : Nat) (m : Mdl) (ae : Option Addr) (ce : Nat) (ac : Option Addr) (cc M : Nat) : Prop where
 es : SlE w (fun b => b < B) (.slice ae m.es.length ce) m.es
 cs : SlL w (fun b => b < B) (.slice ac m.cs.length cc) m.cs
 lt : M < B
 nil : ac = none -> cc = 0
 map : ∃ n D, OMm w M n D /\ GoodK m.cs m.cs.length D
theorem StAt.lt {w : World} {m : Mdl} {ae : Option Addr} {ce : Nat} {ac : Option Addr} {cc M : Nat} (h : StAt w m ae ce ac cc M) : StLt w w.heap.size m ae ce ac cc M := by
 obtain ⟨n, D, h1, h2⟩ := h.map;exact ⟨h.es, h.cs, h1.lt, h.nil, n, D, h1, h2⟩
theorem StLt.blw {w w' : World} {B : Nat} {m : Mdl} {ae : Option Addr} {ce : Nat} {ac : Option Addr} {cc M : Nat} (h : StLt w B m ae ce ac cc M) (hb : Below B w w') : StLt w' B m ae ce ac cc M := by
 obtain ⟨n, D, h1, h2⟩ := h.map;exact ⟨Sl.keep h.es (fun b hb2 => hb.block b hb2) (fun _ h => h) (fun _ _ h => h), Sl.keep h.cs (fun b hb2 => hb.block b hb2) (fun _ h => h) (fun _ _ h => h), h.lt, h.nil, n, D, z1e h1 (hb.block _ h.lt), h2⟩
theorem StLt.at_ {w : World} {B : Nat} {m : Mdl} {ae : Option Addr} {ce : Nat} {ac : Option Addr} {cc M : Nat} (h : StLt w B m ae ce ac cc M) (hB : B <= w.heap.size) : StAt w m ae ce ac cc M := by
 obtain ⟨n, D, h1, h2⟩ := h.map;exact ⟨Sl.keep h.es (fun _ _ => rfl) (fun _ h => Nat.lt_of_lt_of_le h hB) (fun _ _ h => h), Sl.keep h.cs (fun _ _ => rfl) (fun _ h => Nat.lt_of_lt_of_le h hB) (fun _ _ h => h), h.nil, n, D, h1, h2⟩
theorem z3d {w : World} {S : Nat -> Prop} {v : Value} {xs : List Ent} {A : Nat} {t : TypeId} {cs : List Value} (h : SlE w S v xs) (hA : Row w A t cs) (hn : ∀ (i : Nat) s, cs[i]? ≠ some (.string s)) : SlE w (fun b => S b /\ b ≠ A) v xs := by
 obtain ⟨a, g, hv, h1, h2, h3⟩ := h;refine ⟨a, g, hv, h1, h2, fun hne => ?_⟩;obtain ⟨b, c, ha, hb, f⟩ := h3 hne;refine ⟨b, c, ha, ⟨hb, fun e => ?_⟩, f⟩;subst e;have hx := (At.e (f 0 (xs[0]'(List.length_pos_iff.2 hne)) (List.getElem?_eq_getElem _))).1
 have d : w.cell? ⟨b, c + 0 * 3, none⟩ = cs[c + 0 * 3]? := by
  have hh : w.heap[b]? = some (.cells cs.toArray t (0, 0)) := hA
  simp [World.cell?, hh]
 rw [d] at hx;exact hn _ _ hx
theorem z96 {x0 x1 x2 x3 : Value} (h0 : ∀ s, x0 ≠ .string s) (h1 : ∀ s, x1 ≠ .string s) (h2 : ∀ s, x2 ≠ .string s) (h3 : ∀ s, x3 ≠ .string s) : ∀ (i : Nat) s, [x0, x1, x2, x3][i]? ≠ some (.string s)
 | 0, s => fun e => h0 s (Option.some.inj e)
 | 1, s => fun e => h1 s (Option.some.inj e)
 | 2, s => fun e => h2 s (Option.some.inj e)
 | 3, s => fun e => h3 s (Option.some.inj e)
 | _ + 4, s => fun e => by simp at e
theorem zcv (w : World) (m : Mdl) (ae : Option Addr) (ce : Nat) (ac : Option Addr) (cc M : Nat) (b : Option Addr) (capc : Nat) (ch : List Chg) (hst : StAt w m ae ce ac cc M) (hC : SlH w (Old w) (.slice b ch.length capc) ch) (hFC : ∀ c, c ∈ ch -> FitE c.e) (hR : RgtM m) (hE : EnvC w) :
  Calls Tryz.prog 82 #[.agg (stC m.vr (.slice ae m.es.length ce) (.slice ac m.cs.length cc) M), .slice b ch.length capc] w (z1z m ch w) := by
 have C := hid (z19 hR.es);obtain ⟨v, es, cs⟩ := m;simp only at hst C ⊢;have L := hR.lo;have N := hR.hi;simp only at L N;have O := hid hst.lt;have y := hid (fun W (h : Below w.heap.size w W) => zj0 W ae ce es b capc ch (hst.es.old h) (hC.old h) (z6h C.out) hFC (hE.below h));have R := hid (fun W (h : Below w.heap.size w W) a c l hl hr => ziy W a c l hl (z6h hr) (hE.below h));obtain ⟨r, o⟩ := nmd (z17 es ch);rw [<- o.out] at y;have D : Hid (∀ k w', chgF v es ch = .error k -> StAt w' ⟨v, es, cs⟩ ae ce ac cc M -> Below w.heap.size w w' -> z1z ⟨v, es, cs⟩ ch w (.returned (.tuple #[.agg (stC v (.slice ae es.length ce) (.slice ac cs.length cc) M), .int .i64 k])) w') := hid (fun k w' h1 h2 h3 => z1z.no (m := ⟨v, es, cs⟩) h1 h2 h3);have G : Hid (∀ l a c w', chgF v es ch = .ok l -> StAt w' ⟨v + 1, l, cs⟩ a c ac cc M -> Below w.heap.size w w' -> z1z ⟨v, es, cs⟩ ch w (.returned (.tuple #[.agg (stC (v + 1) (.slice a l.length c) (.slice ac cs.length cc) M), .int .i64 0])) w') := hid (fun l a c w' h1 h2 h3 => z1z.yes (m := ⟨v, es, cs⟩) h1 h2 h3);obtain ⟨Le, af⟩ := nmd (es.length);obtain ⟨Lc, ag⟩ := nmd (cs.length);obtain ⟨Lh, ah⟩ := nmd (ch.length);rw [<- af.out] at y D ⊢;rw [<- ag.out] at D G ⊢;rw [<- ah.out] at y ⊢;clear hst hC hFC hR hE;obtain ⟨W1, p⟩ := nmd ((w.alloc (.cells (stC v (.slice ae Le ce) (.slice ac Lc cc) M) 73)).alloc (.cells #[.int .i64 0, .slice none 0 0, .slice none 0 0, .map none] 73));have aw : Hid (W1.heap.size = w.heap.size + 2) := hid (by rw [p.out]; simp);have E : Hid (Below w.heap.size w W1) := hid (by rw [p.out]; exact z3p w _ _)
 have H : Hid (Row W1 w.heap.size 73 [.int .i64 v, .slice ae Le ce, .slice ac Lc cc, .map (some M)]) := hid (by rw [p.out]; exact (z02 w (stC v (.slice ae Le ce) (.slice ac Lc cc) M) _).alloc _)
 have T : Hid (Row W1 (w.heap.size + 1) 73 [.int .i64 0, .slice none 0 0, .slice none 0 0, .map none]) := hid (by
  rw [p.out];have h := z02 (w.alloc (.cells (stC v (.slice ae Le ce) (.slice ac Lc cc) M) 73)) #[.int .i64 0, .slice none 0 0, .slice none 0 0, .map none] 73
  rwa [World.size_alloc] at h)
 have F := hid (y.out W1 E.out)
 have V : ((w.alloc (.cells (stC v (.slice ae Le ce) (.slice ac Lc cc) M) 73)).alloc (.cells #[.int .i64 0, .slice none 0 0, .slice none 0 0, .map none] 73)).cell? ⟨w.heap.size, 1, none⟩ = some (.slice ae Le ce) := by rw [<- p.out]; exact H.out.cell rfl
 have d : Hid (∀ W, Below W1.heap.size W1 W -> (W.cell? ⟨w.heap.size, 0, none⟩ = some (.int .i64 v) /\ W.cell? ⟨w.heap.size, 1, none⟩ = some (.slice ae Le ce) /\ W.cell? ⟨w.heap.size, 2, none⟩ = some (.slice ac Lc cc) /\ W.cell? ⟨w.heap.size, 3, none⟩ = some (.map (some M))) /\
   (W.frozen? ⟨w.heap.size + 1, 0, none⟩ = false /\ W.frozen? ⟨w.heap.size + 1, 1, none⟩ = false /\ W.frozen? ⟨w.heap.size + 1, 2, none⟩ = false /\ W.frozen? ⟨w.heap.size + 1, 3, none⟩ = false) /\
   (W.cell? ⟨w.heap.size + 1, 0, none⟩ = some (.int .i64 0) /\ W.cell? ⟨w.heap.size + 1, 1, none⟩ = some (.slice none 0 0) /\ W.cell? ⟨w.heap.size + 1, 2, none⟩ = some (.slice none 0 0) /\ W.cell? ⟨w.heap.size + 1, 3, none⟩ = some (.map none)) /\
   ((putS W (w.heap.size + 1) v (.slice ae Le ce) (.slice ac Lc cc) M).cell? ⟨w.heap.size + 1, 0, none⟩ = some (.int .i64 v) /\ (putS W (w.heap.size + 1) v (.slice ae Le ce) (.slice ac Lc cc) M).cell? ⟨w.heap.size + 1, 1, none⟩ = some (.slice ae Le ce) /\ (putS W (w.heap.size + 1) v (.slice ae Le ce) (.slice ac Lc cc) M).cell? ⟨w.heap.size + 1, 2, none⟩ = some (.slice ac Lc cc) /\ (putS W (w.heap.size + 1) v (.slice ae Le ce) (.slice ac Lc cc) M).cell? ⟨w.heap.size + 1, 3, none⟩ = some (.map (some M))) /\
   ∀ k, chgF v es ch = .error k -> z1z ⟨v, es, cs⟩ ch w (.returned (.tuple #[.agg (stC v (.slice ae Le ce) (.slice ac Lc cc) M), .int .i64 k])) (putS W (w.heap.size + 1) v (.slice ae Le ce) (.slice ac Lc cc) M)) := hid (fun W h => by
  have ra := H.out.below h;have rb := T.out.below h;have rp := z2h rb v (.slice ae Le ce) (.slice ac Lc cc) M;have s : Below w.heap.size w (putS W (w.heap.size + 1) v (.slice ae Le ce) (.slice ac Lc cc) M) := (z00 E.out h).trans ((z10 W _ _ _ _ _).below (B := w.heap.size) (by omega))
  exact ⟨⟨ra.cell rfl, ra.cell rfl, ra.cell rfl, ra.cell rfl⟩, ⟨rb.thaw _, rb.thaw _, rb.thaw _, rb.thaw _⟩, ⟨rb.cell rfl, rb.cell rfl, rb.cell rfl, rb.cell rfl⟩, ⟨rp.cell rfl, rp.cell rfl, rp.cell rfl, rp.cell rfl⟩, fun k hk => D.out k _ hk ((O.out.blw s).at_ s.size) s⟩)
 clear D y
 go_enter Tryz.func82, Tryz.ntmps82
 cases r with
 | error k =>
  have t := hid (chg_bad (v := v) o.out.symm);have ax := ne0 (k := k) (by have := z5u C.out o.out.symm; omega)
  go_wp2_with fail
  rw [<- p.out];refine F.out.mono ?_;rintro e w3 ⟨u, rfl⟩;obtain ⟨⟨a0, a1, a2, a3⟩, ⟨t0, t1, t2, t3⟩, ⟨e0, e1, e2, e3⟩, ⟨f0, f1, f2, f3⟩, f⟩ := d.out w3 u;have i := hid (f k t.out);clear f u F V d;go_wp2;exact bodyPost_ret (v := .tuple #[.agg (stC v (.slice ae Le ce) (.slice ac Lc cc) M), .int .i64 k]) (by simp [results, Tryz.results82, go_sem, f0, f1, f2, f3]) rfl i.out
 | ok l =>
  have X := hid (z8i C.out o.out.symm)
  go_wp2_with fail
  rw [<- p.out];refine F.out.mono ?_;rintro e w3 ⟨u, al, cl, rfl, I⟩;have x := hid u;have ai := hid I;have n := hid (R.out w3 (z00 E.out u) al cl l I X.out);obtain ⟨Ll, J⟩ := nmd (l.length);obtain ⟨q, HQ⟩ := nmd (z0r l);rw [<- J.out, <- HQ.out] at n;rw [<- J.out];obtain ⟨qs, qe⟩ := q;simp only at n;clear u I F V R
  by_cases hq : qe = 0
  ·subst hq
   have Y : Hid ((z0r l).2 = 0) := hid (by rw [<- HQ.out])
   by_cases hv : v = 1073741824
   ·have t := hid (chg_full (v := v) o.out.symm Y.out hv)
    have aj : (v == 1073741824) = true := by rw [beq_iff_eq]; exact hv
    clear hv L N
    go_wp2_with fail
    refine n.out.mono ?_;rintro e w4 ⟨rfl, g⟩;obtain ⟨⟨a0, a1, a2, a3⟩, ⟨t0, t1, t2, t3⟩, ⟨e0, e1, e2, e3⟩, ⟨f0, f1, f2, f3⟩, f⟩ := d.out w4 (z00 x.out g);have i := hid (f 130 t.out);clear f g n d;go_wp2;exact bodyPost_ret (v := .tuple #[.agg (stC v (.slice ae Le ce) (.slice ac Lc cc) M), .int .i64 130]) (by simp [results, Tryz.results82, go_sem, f0, f1, f2, f3]) rfl i.out
   ·have t := hid (chg_yes (v := v) o.out.symm Y.out hv)
    have aj : (v == 1073741824) = false := by rw [beq_eq_false_iff_ne]; exact hv
    clear hv
    go_wp2_with fail
    refine n.out.mono ?_;rintro e w4 ⟨rfl, g⟩;obtain ⟨⟨a0, a1, a2, a3⟩, ⟨t0, t1, t2, t3⟩, ⟨e0, e1, e2, e3⟩, -, -⟩ := d.out w4 (z00 x.out g);have RA := H.out.below (z00 x.out g);have z := (RA.set 1 (.slice al Ll cl)).set 0 (.int .i64 (v + 1));have u0 := RA.thaw 0;have u1 := RA.thaw 1;have aq : Hid (∃ U, U = (w4.setCell ⟨w.heap.size, 1, none⟩ (.slice al Ll cl)).setCell ⟨w.heap.size, 0, none⟩ (.int .i64 (v + 1))) := hid ⟨_, rfl⟩;have g0 : (w4.setCell ⟨w.heap.size, 1, none⟩ (.slice al Ll cl)).cell? ⟨w.heap.size, 0, none⟩ = some (.int .i64 v) := (RA.set 1 (.slice al Ll cl)).cell rfl;have v0 : (w4.setCell ⟨w.heap.size, 1, none⟩ (.slice al Ll cl)).frozen? ⟨w.heap.size, 0, none⟩ = false := (RA.set 1 (.slice al Ll cl)).thaw 0;have x0 := z.c0;have x1 := z.c1;have x2 := z.c2;have x3 := z.c3;have A : But w.heap.size w4 ((w4.setCell ⟨w.heap.size, 1, none⟩ (.slice al Ll cl)).setCell ⟨w.heap.size, 0, none⟩ (.int .i64 (v + 1))) := ((But.refl _ _).set _ _).set _ _;have RB := T.out.below (z00 x.out g);have j := RB.keep (A.block (w.heap.size + 1) (by omega));have y0 := j.thaw 0;have y1 := j.thaw 1;have y2 := j.thaw 2;have y3 := j.thaw 3;have z0 := j.c0;have z1 := j.c1;have z2 := j.c2;have z3 := j.c3;have RP := z2h j (v + 1) (.slice al Ll cl) (.slice ac Lc cc) M;have f0 := RP.c0;have f1 := RP.c1;have f2 := RP.c2;have f3 := RP.c3
    have i : Hid (z1z ⟨v, es, cs⟩ ch w (.returned (.tuple #[.agg (stC (v + 1) (.slice al Ll cl) (.slice ac Lc cc) M), .int .i64 0])) (putS ((w4.setCell ⟨w.heap.size, 1, none⟩ (.slice al Ll cl)).setCell ⟨w.heap.size, 0, none⟩ (.int .i64 (v + 1))) (w.heap.size + 1) (v + 1) (.slice al Ll cl) (.slice ac Lc cc) M)) := hid (by
     have h := G.out l al cl (putS ((w4.setCell ⟨w.heap.size, 1, none⟩ (.slice al Ll cl)).setCell ⟨w.heap.size, 0, none⟩ (.int .i64 (v + 1))) (w.heap.size + 1) (v + 1) (.slice al Ll cl) (.slice ac Lc cc) M) t.out;rw [<- J.out] at h;have Z := z00 x.out g;have s : Below w.heap.size w (putS ((w4.setCell ⟨w.heap.size, 1, none⟩ (.slice al Ll cl)).setCell ⟨w.heap.size, 0, none⟩ (.int .i64 (v + 1))) (w.heap.size + 1) (v + 1) (.slice al Ll cl) (.slice ac Lc cc) M) := ((z00 E.out Z).trans (A.below (B := w.heap.size) (by omega))).trans ((z10 _ _ _ _ _ _).below (B := w.heap.size) (by omega));have hst := (O.out.blw s).at_ s.size;have ar := z3d (z3d (ai.out.old g) RA (z96 (fun _ => Value.noConfusion) (fun _ => Value.noConfusion) (fun _ => Value.noConfusion) (fun _ => Value.noConfusion))) RB (z96 (fun _ => Value.noConfusion) (fun _ => Value.noConfusion) (fun _ => Value.noConfusion) (fun _ => Value.noConfusion))
     have aa : SlE (putS ((w4.setCell ⟨w.heap.size, 1, none⟩ (.slice al Ll cl)).setCell ⟨w.heap.size, 0, none⟩ (.int .i64 (v + 1))) (w.heap.size + 1) (v + 1) (.slice al Ll cl) (.slice ac Lc cc) M) (Old (putS ((w4.setCell ⟨w.heap.size, 1, none⟩ (.slice al Ll cl)).setCell ⟨w.heap.size, 0, none⟩ (.int .i64 (v + 1))) (w.heap.size + 1) (v + 1) (.slice al Ll cl) (.slice ac Lc cc) M)) (.slice al l.length cl) l :=
      Sl.keep ar (fun b hb => ((z10 _ _ _ _ _ _).block b hb.2).trans (A.block b hb.1.2)) (fun b hb => Nat.lt_of_lt_of_eq hb.1.1 ((z10 _ _ _ _ _ _).size.trans A.size).symm) (fun _ _ h => h)
     exact h ⟨aa, hst.cs, hst.nil, hst.map⟩ s)
    clear A RB j RP RA z aq g n d;go_wp2;exact bodyPost_ret (v := .tuple #[.agg (stC (v + 1) (.slice al Ll cl) (.slice ac Lc cc) M), .int .i64 0]) (by simp [results, Tryz.results82, go_sem, f0, f1, f2, f3]) rfl i.out
  ·have t := hid (chg_long (v := v) o.out.symm (by rw [<- HQ.out]; exact hq))
   have au : Hid (qe = 2) := hid (by
    rcases z7j l X.out with h | h
    ·rw [<- HQ.out] at h; injection h with h1 h2; exact absurd h2 hq
    ·rw [<- HQ.out] at h; injection h with h1 h2)
   rw [au.out] at n;clear hq
   go_wp2_with fail
   refine n.out.mono ?_;rintro e w4 ⟨rfl, g⟩;obtain ⟨⟨a0, a1, a2, a3⟩, ⟨t0, t1, t2, t3⟩, ⟨e0, e1, e2, e3⟩, ⟨f0, f1, f2, f3⟩, f⟩ := d.out w4 (z00 x.out g);have i := hid (f 2 t.out);clear f g n d;go_wp2;exact bodyPost_ret (v := .tuple #[.agg (stC v (.slice ae Le ce) (.slice ac Lc cc) M), .int .i64 2]) (by simp [results, Tryz.results82, go_sem, f0, f1, f2, f3]) rfl i.out
end Go.Proofs.YtdkkkeoicekdgaaGreatDoor.Md

end

section

namespace Go.Proofs.YtdkkkeoicekdgaaGreatDoor.Md
set_option maxHeartbeats 12800000
set_option maxRecDepth 100000
open Go.RowKit Go.Maps Go.WideShapes Go.WideMaps Go.Proofs.YtdkkkeoicekdgaaGreatDoor Go.Proofs.YtdkkkeoicekdgaaGreatDoor.Ca
theorem zda {c : Cli} : ∀ {l : List Cli} {j : Nat} {x : Cli}, SrtC l -> l[j]? = some x -> x.id = c.id -> putL c l = l.set j c
 | [], j, x, _, h, _ => by simp at h
 | y :: r, 0, x, _, h, he => by
  obtain rfl := Option.some.inj h
  rw [putL, if_neg (by omega), if_pos he]; rfl
 | y :: r, j + 1, x, hs, h, he => by
  have h2 : r[j]? = some x := by simpa using h
  unfold SrtC at hs
  rw [List.pairwise_cons] at hs;have := hs.1 x (List.mem_of_getElem? h2)
  rw [putL, if_pos (by omega), zda hs.2 h2 he]; rfl
theorem z5a {c : Cli} : ∀ {l : List Cli} {p : Nat}, p <= l.length -> (∀ (j : Nat) x, j < p -> l[j]? = some x -> x.id < c.id) -> (∀ x, l[p]? = some x -> c.id < x.id) -> putL c l = l.take p ++ c :: l.drop p
 | [], p, hp, _, _ => by
  obtain rfl : p = 0 := by simpa using hp
  rfl
 | y :: r, 0, _, _, h => by
  have := h y rfl
  rw [putL, if_neg (by omega), if_neg (by omega)]; rfl
 | y :: r, p + 1, hp, h1, h2 => by
  have h0 := h1 0 y (by omega) rfl
  rw [putL, if_pos h0, z5a (p := p) (by simpa using hp) (fun j x hj hx => h1 (j + 1) x (by omega) (by simpa using hx)) (fun x hx => h2 x (by simpa using hx))]; rfl
theorem z5o {w : World} {base g cap : Nat} {n : Nat} {xs : List Cli} (h : OwnL w base (.slice (some ⟨g, 0, none⟩) n cap) xs) : ∃ cur, w.heap[g]? = some (.cells cur 32 (0, 0)) /\ cur.size = cap * 4 /\ cur.toList.take (xs.length * 4) = flatL xs /\ base <= g /\ n = xs.length /\ xs.length <= cap /\ cap <= maxLen := by
 rcases h.2 with ⟨h0, -⟩ | ⟨g', cap', cur, hv, hb, hh, hc, hm, hs, ht⟩
 ·cases h0
 ·injection hv with hv1 hv2 hv3
  obtain rfl : g = g' := by injection hv1 with h; injection h
  subst hv3;exact ⟨cur, hh, hs, ht, hb, hv2, hc, hm⟩
theorem z8y {w : World} {base g cap : Nat} {xs : List Cli} {cur : Array Value} (hh : w.heap[g]? = some (.cells cur 32 (0, 0))) (hs : cur.size = cap * 4) (ht : cur.toList.take (xs.length * 4) = flatL xs) (hb : base <= g) (hc : xs.length <= cap) (hm : cap <= maxLen) :
  OwnL w base (.slice (some ⟨g, 0, none⟩) xs.length cap) xs := ⟨z33 xs, .inr ⟨g, cap, cur, rfl, hb, hh, hc, hm, hs, ht⟩⟩
theorem z8c : ∀ (xs : List Cli) (k : Nat), flatL (xs.take k) = (flatL xs).take (k * 4)
 | [], k => by simp [flatL]
 | x :: r, 0 => rfl
 | x :: r, k + 1 => by
  rw [show (k + 1) * 4 = k * 4 + 1 + 1 + 1 + 1 by omega];simp only [List.take_succ_cons, flatL, z8c r k]
theorem z8d : ∀ (xs : List Cli) (k : Nat), flatL (xs.drop k) = (flatL xs).drop (k * 4)
 | [], k => by simp [flatL]
 | x :: r, 0 => rfl
 | x :: r, k + 1 => by
  rw [show (k + 1) * 4 = k * 4 + 1 + 1 + 1 + 1 by omega];simp only [List.drop_succ_cons, flatL, z8d r k]
theorem own_setL {w : World} {B g cap p : Nat} {xs : List Cli} {x : Cli} (h : OwnL w B (.slice (some ⟨g, 0, none⟩) xs.length cap) xs) (hp : p < xs.length) :
  OwnL (w.setCells g (p * 4) (flatL [x])) B (.slice (some ⟨g, 0, none⟩) xs.length cap) (xs.set p x) := by
 obtain ⟨c, hh, hs, ht, hb, -, hc, hm⟩ := z5o h
 have i : c.toList.length = cap * 4 := by simpa using hs
 have d := z0v g (flatL [x]) (p * 4) w c 32 (0, 0) hh;have b : (xs.set p x).length = xs.length := List.length_set;have a : (flatL [x]).length = 4 := rfl
 have f : xs.set p x = xs.take p ++ x :: xs.drop (p + 1) := by rw [List.set_eq_take_append_cons_drop, if_pos hp]
 have key : OwnL (w.setCells g (p * 4) (flatL [x])) B (.slice (some ⟨g, 0, none⟩) (xs.set p x).length cap) (xs.set p x) := by
  refine z8y d (by rw [z0y]; exact hs) ?_ hb (by omega) hm;rw [z1o _ _ _ (by rw [a]; omega), b, f, z34, show x :: xs.drop (p + 1) = [x] ++ xs.drop (p + 1) from rfl, z34, z8c, z8d, <- ht, a];rw [List.take_take, Nat.min_eq_left (by omega), List.drop_take, List.append_assoc, List.take_append, List.take_append, List.length_take, Nat.min_eq_left (by omega), a];rw [List.take_take, Nat.min_eq_right (by omega), List.take_of_length_le (l := flatL [x]) (by rw [a]; omega), show (p + 1) * 4 = p * 4 + 4 by omega, show xs.length * 4 - p * 4 - 4 = xs.length * 4 - (p * 4 + 4) by omega]
 rw [b] at key;exact key
theorem is_wpl {P : Program} {ops : Array Oper} {rest : List Oper} {op : Oper} {a : Act} {w : World} {Q : Exit -> Act -> World -> Prop} (h : Hid (wpList P ops Q (op :: rest) a w)) : wpList P ops Q (op :: rest) a w := h.out
theorem z7v {P : Program} {ops : Array Oper} {rest : List Oper} {op : Oper} {a : Act} {w : World} {Q : Exit -> Act -> World -> Prop} {ty : TypeId} {x y : Operand} (_ : op.op = .store ty x y) (h : Hid (wpList P ops Q (op :: rest) a w)) : wpList P ops Q (op :: rest) a w := h.out
theorem ze3 {l : List Cli} {D : DataW Unit} {id : Int} (h : GoodK l l.length D) (hh : Maps.has D (kI id) = true) : ∃ (j : Nat) (x : Cli), l[j]? = some x /\ x.id = id /\ D.atKey (kI id) (.lit (kI 0)) = .lit (kI j) := by
 obtain ⟨j, x, h1, h2, h3⟩ := (h.has id).1 hh;refine ⟨j, x, h2, h3, ?_⟩
 rw [<- h3]; exact h.at_ j x h1 h2
theorem good_no {l : List Cli} {D : DataW Unit} {id : Int} (h : GoodK l l.length D) (hh : Maps.has D (kI id) = false) : ∀ x, x ∈ l -> x.id ≠ id := fun x hx he => by
 obtain ⟨j, hj⟩ := List.mem_iff_getElem?.1 hx;have := (h.has id).2 ⟨j, x, (List.getElem?_eq_some_iff.1 hj).1, hj, he⟩
 rw [hh] at this; cases this
theorem z8n (w : World) (m : Mdl) (ae : Option Addr) (ce : Nat) (ac : Option Addr) (cc M : Nat) (c : Cli) (hst : StAt w m ae ce ac cc M) (hsr : SrtC m.cs) (hl : m.cs.length <= 16) (hle : m.es.length <= 1000) (hid : ∀ x, x ∈ m.cs -> 1 <= x.id /\ x.id <= 1073741824) (hci : 1 <= c.id /\ c.id <= 1073741824) (hkn : ∃ x, x ∈ m.cs /\ x.id = c.id) :
  Calls Tryz.prog 83 #[.agg (stC m.vr (.slice ae m.es.length ce) (.slice ac m.cs.length cc) M), clV c] w (z3r ⟨m.vr, m.es, putL c m.cs⟩ w) := by
 obtain ⟨v, es, cs⟩ := m;obtain ⟨ci, cq, ca, cv⟩ := c;simp only at hst hsr hl hle hid hci hkn ⊢;have C := Lib.hid hst.lt;obtain ⟨n0, D, Y, r⟩ := hst.map;have Z := Lib.hid Y;have aO := Lib.hid r;have aP := Lib.hid hsr;have aQ := Lib.hid hid;obtain ⟨Le, N⟩ := nmd (es.length);obtain ⟨Lc, a⟩ := nmd (cs.length)
 have aR : Lc <= 16 := by have := a.out; omega
 have aS : Le <= 1000 := by have := N.out; omega
 have ay : Hid (keyOf Tryz.prog 3 (.int .i64 ci) = some (kI ci)) := Lib.hid (keyOf_int_mk Tryz.underlying3 (wfI (by omega) (by omega)));have t := hst.cs.len;simp only at t;rw [<- N.out, <- a.out]
 have aK : Lc <= cc := by have := a.out; omega
 have aM : cc <= 9223372036854775807 := t.2.2;obtain ⟨W1, f⟩ := nmd (((w.alloc (.cells (stC v (.slice ae Le ce) (.slice ac Lc cc) M) 73)).alloc (.cells #[.int .i64 ci, .int .i64 cq, .int .i64 ca, .int .i64 cv] 32)).alloc (.cells #[.int .i64 0, .slice none 0 0, .slice none 0 0, .map none] 73));have az : Hid (W1.heap.size = w.heap.size + 3) := Lib.hid (by rw [f.out]; simp);have O : Hid (Below w.heap.size w W1) := Lib.hid (by rw [f.out]; exact z63 w _ _ _);have u : Hid (Row W1 w.heap.size 73 [.int .i64 v, .slice ae Le ce, .slice ac Lc cc, .map (some M)]) := Lib.hid (by rw [f.out]; exact ((z02 w (stC v (.slice ae Le ce) (.slice ac Lc cc) M) _).alloc _).alloc _)
 have aa : Hid (Row W1 (w.heap.size + 1) 32 [.int .i64 ci, .int .i64 cq, .int .i64 ca, .int .i64 cv]) := Lib.hid (by
  rw [f.out];have h := (z02 (w.alloc (.cells (stC v (.slice ae Le ce) (.slice ac Lc cc) M) 73)) #[.int .i64 ci, .int .i64 cq, .int .i64 ca, .int .i64 cv] 32).alloc (.cells #[.int .i64 0, .slice none 0 0, .slice none 0 0, .map none] 73)
  rwa [World.size_alloc] at h)
 have aA : Hid (Row W1 (w.heap.size + 1 + 1) 73 [.int .i64 0, .slice none 0 0, .slice none 0 0, .map none]) := Lib.hid (by
  rw [f.out];have h := z02 ((w.alloc (.cells (stC v (.slice ae Le ce) (.slice ac Lc cc) M) 73)).alloc (.cells #[.int .i64 ci, .int .i64 cq, .int .i64 ca, .int .i64 cv] 32)) #[.int .i64 0, .slice none 0 0, .slice none 0 0, .map none] 73
  simpa only [World.size_alloc] using h)
 have aB : Hid (OMm W1 M n0 D) := Lib.hid (z1e Z.out (O.out.block _ C.out.lt))
 have a2 : (((w.alloc (.cells (stC v (.slice ae Le ce) (.slice ac Lc cc) M) 73)).alloc (.cells #[.int .i64 ci, .int .i64 cq, .int .i64 ca, .int .i64 cv] 32)).alloc (.cells #[.int .i64 0, .slice none 0 0, .slice none 0 0, .map none] 73)).cell? ⟨w.heap.size, 3, none⟩ = some (.map (some M)) := by rw [<- f.out]; exact u.out.cell rfl
 have b0 : (((w.alloc (.cells (stC v (.slice ae Le ce) (.slice ac Lc cc) M) 73)).alloc (.cells #[.int .i64 ci, .int .i64 cq, .int .i64 ca, .int .i64 cv] 32)).alloc (.cells #[.int .i64 0, .slice none 0 0, .slice none 0 0, .map none] 73)).cell? ⟨w.heap.size + 1, 0, none⟩ = some (.int .i64 ci) := by rw [<- f.out]; exact aa.out.cell rfl
 have af : Hid (OMm (((w.alloc (.cells (stC v (.slice ae Le ce) (.slice ac Lc cc) M) 73)).alloc (.cells #[.int .i64 ci, .int .i64 cq, .int .i64 ca, .int .i64 cv] 32)).alloc (.cells #[.int .i64 0, .slice none 0 0, .slice none 0 0, .map none] 73)) M n0 D) := Lib.hid (by rw [<- f.out]; exact aB.out)
 have G : Hid (Maps.has D (kI ci) = true) := Lib.hid (by
  obtain ⟨x, hx, he⟩ := hkn;obtain ⟨j, hj⟩ := List.mem_iff_getElem?.1 hx
  exact (r.has ci).2 ⟨j, x, (List.getElem?_eq_some_iff.1 hj).1, hj, he⟩)
 obtain ⟨j, x, hx, E, H⟩ := ze3 r G.out;have aC := Lib.hid H
 have aT : j < Lc := by
  have h9 := (List.getElem?_eq_some_iff.1 hx).1;simp only at h9
  have := a.out; omega
 have n : Hid (putL ⟨ci, cq, ca, cv⟩ cs = cs.set j ⟨ci, cq, ca, cv⟩) := Lib.hid (zda hsr hx E)
 have aD : Hid (GoodK (cs.set j ⟨ci, cq, ca, cv⟩) (cs.set j ⟨ci, cq, ca, cv⟩).length D) := Lib.hid (by
  have I := (List.getElem?_eq_some_iff.1 hx).1
  have J : ∀ (k : Nat) y, (cs.set j ⟨ci, cq, ca, cv⟩)[k]? = some y -> ∃ z, cs[k]? = some z /\ z.id = y.id := fun k y hk => by
   by_cases hkj : k = j
   ·subst hkj
    rw [List.getElem?_set_self I] at hk;obtain rfl := Option.some.inj hk;exact ⟨x, hx, E⟩
   ·rw [List.getElem?_set_ne (Ne.symm hkj)] at hk
    exact ⟨y, hk, rfl⟩
  refine ⟨fun id => ?_, fun k y hk hy => ?_⟩
  ·rw [r.has id, List.length_set]
   constructor
   ·rintro ⟨k, y, h1, h2, h3⟩
    by_cases hkj : k = j
    ·subst hkj
     rw [hx] at h2; obtain rfl := Option.some.inj h2
     exact ⟨k, ⟨ci, cq, ca, cv⟩, h1, by rw [List.getElem?_set_self I], by rw [<- h3, E]⟩
    ·exact ⟨k, y, h1, by rw [List.getElem?_set_ne (Ne.symm hkj)]; exact h2, h3⟩
   ·rintro ⟨k, y, h1, h2, h3⟩
    obtain ⟨z, hz, R⟩ := J k y h2;exact ⟨k, z, h1, hz, R.trans h3⟩
  ·obtain ⟨z, hz, R⟩ := J k y hy
   rw [<- R];rw [List.length_set] at hk
   exact r.at_ k z hk hz)
 have T := Lib.hid (fun W (h : Below w.heap.size w W) => z8g W ac cc cs (hst.cs.old h) (by have := a.out; omega));rw [<- a.out] at T;clear hst hsr hl hle hid Y r t hkn hx E H
 go_enter Tryz.func83, Tryz.ntmps83
 go_wp2_with (at_lookup; refine wpList_lookup_own_ok_int _ rfl _ _ 71 rfl 3 3 .i64 lawI Tryz.underlying71 Tryz.underlying3 (zeroI _) M _ _ rfl af.out _ _ rfl ay.out ?_; intro cw hat hwc; rw [G.out]; (have aE : cw = (j : Int) := (by rw [aC.out] at hat; injection hat with h1; injection h1 with h2 h3; exact h3.symm)); subst aE; clear hat hwc)
 rw [<- f.out];clear a2 b0 af;have a3 := u.out.c2;have ag := Lib.hid (T.out W1 O.out)
 go_wp2_with fail
 refine ag.out.mono ?_;rintro e w3 ⟨v3, rfl, A, l⟩;obtain ⟨a8, c8, ah, -, -, ai⟩ := z0i A;obtain ⟨g, rfl⟩ := ai (by have := a.out; omega);rw [<- a.out] at ah;subst ah;have aF := Lib.hid l;have aU := Lib.hid A;have L := Lib.hid ((u.out.below l).set 2 (.slice (some ⟨g, 0, none⟩) Lc c8));have b : But w.heap.size w3 (w3.setCell ⟨w.heap.size, 2, none⟩ (.slice (some ⟨g, 0, none⟩) Lc c8)) := (But.refl _ _).set _ _;have aG := Lib.hid b;have aN := az.out;have aj := z24 A b (by omega)
 have o : OwnL (w3.setCell ⟨w.heap.size, 2, none⟩ (.slice (some ⟨g, 0, none⟩) Lc c8)) W1.heap.size (.slice (some ⟨g, 0, none⟩) cs.length c8) cs := by rw [<- a.out]; exact aj
 have aV : W1.heap.size <= g := (A.lt g rfl).1
 have aW : Lc <= c8 := by
  obtain ⟨aH, -, -, -, -, -, h6, -⟩ := z5o o
  have := a.out; omega
 have a4 := (u.out.below l).c2;have t4 := (u.out.below l).thaw 2;have a5 : (w3.setCell ⟨w.heap.size, 2, none⟩ (.slice (some ⟨g, 0, none⟩) Lc c8)).cell? ⟨w.heap.size, 2, none⟩ = some (.slice (some ⟨g, 0, none⟩) Lc c8) := L.out.cell rfl;have q := Lib.hid ((aa.out.below l).keep (b.block (w.heap.size + 1) (by omega)));have q0 := q.out.c0;have q1 := q.out.c1;have q2 := q.out.c2;have q3 := q.out.c3
 have aI : Hid ((w3.setCell ⟨w.heap.size, 2, none⟩ (.slice (some ⟨g, 0, none⟩) Lc c8)).there g (j * 4) 4) := Lib.hid (fun i hi => by
  obtain ⟨aH, hh, hs, -, -, -, h6, -⟩ := z5o o;have := a.out
  exact ⟨by rw [z1m hh, Array.getElem?_eq_getElem (by omega)]; rfl, z1l hh _⟩)
 have aJ : (Tryz.prog.info? 32).map (·.size) = some 4 := by kernel_rfl
 have U := Lib.hid (own_setL (p := j) (x := ⟨ci, cq, ca, cv⟩) o (by have := a.out; omega));have F := Lib.hid (z0d g (flatL [⟨ci, cq, ca, cv⟩]) (j * 4) (w3.setCell ⟨w.heap.size, 2, none⟩ (.slice (some ⟨g, 0, none⟩) Lc c8)));have s := L.out.keep (F.out.block w.heap.size (by omega));have d := ((aA.out.below l).keep (b.block (w.heap.size + 1 + 1) (by omega))).keep (F.out.block (w.heap.size + 1 + 1) (by omega));clear b l A aj o ai ag T
 go_wp2_with (with_reducible refine is_wpl ?_; refine Lib.hid ?_; refine z7v (ty := 32) (x := .tmp 28) (y := .tmp 27) rfl ?_)
 refine Lib.hid ?_;refine wpList_store_mid rfl 32 (.tmp 28) (.tmp 27) rfl g (j * 4) #[.int .i64 ci, .int .i64 cq, .int .i64 ca, .int .i64 cv] rfl rfl aI.out aJ (all_oneCell_toArray (cs := [.int .i64 ci, .int .i64 cq, .int .i64 ca, .int .i64 cv]) (z7c (xs := [⟨ci, cq, ca, cv⟩]))) ?_;obtain ⟨W6, aq⟩ := nmd ((w3.setCell ⟨w.heap.size, 2, none⟩ (.slice (some ⟨g, 0, none⟩) Lc c8)).setCells g (j * 4) (flatL [⟨ci, cq, ca, cv⟩]))
 change wpList _ _ _ _ _ ((w3.setCell ⟨w.heap.size, 2, none⟩ (.slice (some ⟨g, 0, none⟩) Lc c8)).setCells g (j * 4) (flatL [⟨ci, cq, ca, cv⟩]))
 rw [<- aq.out] at U F s d ⊢;have y0 := s.c0;have y1 := s.c1;have y2 := s.c2;have y3 := s.c3;have t0 := d.thaw 0;have t1 := d.thaw 1;have t2 := d.thaw 2;have t3 := d.thaw 3;have e0 := d.c0;have e1 := d.c1;have e2 := d.c2;have e3 := d.c3;have RP := z2h d v (.slice ae Le ce) (.slice (some ⟨g, 0, none⟩) Lc c8) M;have f0 := RP.c0;have f1 := RP.c1;have f2 := RP.c2;have f3 := RP.c3
 have ar : Hid (z3r ⟨v, es, putL ⟨ci, cq, ca, cv⟩ cs⟩ w (.returned (.agg (stC v (.slice ae Le ce) (.slice (some ⟨g, 0, none⟩) Lc c8) M))) (putS W6 (w.heap.size + 1 + 1) v (.slice ae Le ce) (.slice (some ⟨g, 0, none⟩) Lc c8) M)) := Lib.hid (by
  have au : Below w.heap.size w W6 := ((z00 O.out aF.out).trans (aG.out.below (B := w.heap.size) (by omega))).trans (F.out.below (B := w.heap.size) (by omega));have V := z10 W6 (w.heap.size + 1 + 1) v (.slice ae Le ce) (.slice (some ⟨g, 0, none⟩) Lc c8) M;have X := au.trans (V.below (B := w.heap.size) (by omega));have hst := (C.out.blw X).at_ X.size;have aw := z24 U.out V (by omega)
  have ax : (putL ⟨ci, cq, ca, cv⟩ cs).length = Lc := by rw [n.out, List.length_set, a.out]
  refine ⟨ae, ce, some ⟨g, 0, none⟩, c8, M, ?_, ⟨?_, ?_, fun h => (by cases h), ?_⟩, ?_, X⟩
  ·rw [show (⟨v, es, putL ⟨ci, cq, ca, cv⟩ cs⟩ : Mdl).es.length = Le from N.out.symm, show (⟨v, es, putL ⟨ci, cq, ca, cv⟩ cs⟩ : Mdl).cs.length = Lc from ax]
  ·exact hst.es
  ·have h9 := OwnL.sl (xs := cs.set j ⟨ci, cq, ca, cv⟩) (v := .slice (some ⟨g, 0, none⟩) cs.length c8) aw
   rw [show (⟨v, es, putL ⟨ci, cq, ca, cv⟩ cs⟩ : Mdl).cs = cs.set j ⟨ci, cq, ca, cv⟩ from n.out, List.length_set];exact h9
  ·obtain ⟨n9, D9, h8, -⟩ := hst.map
   refine ⟨n0, D, z1e (z1e Z.out (au.block _ C.out.lt)) (V.block _ (by have := C.out.lt; omega)), ?_⟩;rw [show (⟨v, es, putL ⟨ci, cq, ca, cv⟩ cs⟩ : Mdl).cs = cs.set j ⟨ci, cq, ca, cv⟩ from n.out];exact aD.out
  ·have h9 := OwnL.fsh (xs := cs.set j ⟨ci, cq, ca, cv⟩) (v := .slice (some ⟨g, 0, none⟩) cs.length c8) (z2a (B' := w.heap.size) aw (by omega))
   rw [show (⟨v, es, putL ⟨ci, cq, ca, cv⟩ cs⟩ : Mdl).cs = cs.set j ⟨ci, cq, ca, cv⟩ from n.out, List.length_set]
   exact h9)
 clear s d RP a3 a4 a5 t4 q0 q1 q2 q3 U aq;go_wp2;exact bodyPost_ret (v := .agg (stC v (.slice ae Le ce) (.slice (some ⟨g, 0, none⟩) Lc c8) M)) (by simp [results, Tryz.results83, go_sem, f0, f1, f2, f3]) rfl ar.out
end Go.Proofs.YtdkkkeoicekdgaaGreatDoor.Md

end
