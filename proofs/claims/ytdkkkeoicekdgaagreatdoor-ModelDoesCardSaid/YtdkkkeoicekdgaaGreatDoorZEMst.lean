/- Package model: the map of places; a refusal; the state of a model. -/
import Derived.Test.YtdkkkeoicekdgaaGreatDoorZEg49

namespace Go.Proofs.YtdkkkeoicekdgaaGreatDoor.Md
set_option maxHeartbeats 6400000
set_option maxRecDepth 100000
open Go.RowKit Go.Maps Go.WideShapes Go.WideMaps Go.Proofs.YtdkkkeoicekdgaaGreatDoor Go.Proofs.YtdkkkeoicekdgaaGreatDoor.Ca
theorem lawI : Keyed Tryz.prog 3 := int_keyed Tryz.underlying3
theorem zeroI (w : World) : (zeroValue 3).run Tryz.prog w = .ok (.int .i64 0) w := by kernel_rfl
abbrev OMm (w : World) (b n : Nat) (D : DataW Unit) : Prop := w.ownsMap Tryz.prog 3 (plainElem Tryz.prog 3) b n D
theorem z1b {w w' : World} {b n : Nat} {D : DataW Unit} (h : OMm w b n D) (hk : w'.heap[b]? = w.heap[b]?) : OMm w' b n D := by
 obtain ⟨es, a, hb, r⟩ := h;exact ⟨es, a, hk.trans hb, r⟩
abbrev kI (n : Int) : Lit := .int .i64 n
theorem keyI (n : Int) : WideAt.IsKeyLit (kI n) := trivial
theorem wfI {n : Int} (h0 : -9223372036854775808 <= n) (h1 : n <= 9223372036854775807) : (Lit.int .i64 n).wf = true := WalkArith.wf_i64 ⟨h0, h1⟩
structure GoodK (l : List Cli) (k : Nat) (D : DataW Unit) : Prop where
 has : ∀ id : Int, Maps.has D (kI id) = true ↔ ∃ (j : Nat) (x : Cli), j < k /\ l[j]? = some x /\ x.id = id
 at_ : ∀ (j : Nat) (x : Cli), j < k -> l[j]? = some x -> D.atKey (kI x.id) (.lit (kI 0)) = .lit (kI j)
theorem zhn (l : List Cli) : GoodK l 0 (.map []) := ⟨fun id => ⟨fun h => by simp [Maps.has] at h, fun ⟨j, x, h, _⟩ => by omega⟩, fun j x h => by omega⟩
theorem za2 {l : List Cli} (h : SrtC l) {i j : Nat} {x y : Cli} (hi : l[i]? = some x) (hj : l[j]? = some y) (hij : i < j) : x.id < y.id := by
 obtain ⟨h1, rfl⟩ := List.getElem?_eq_some_iff.1 hi;obtain ⟨h2, rfl⟩ := List.getElem?_eq_some_iff.1 hj;exact List.pairwise_iff_getElem.1 h i j h1 h2 hij
theorem zho {l : List Cli} {k : Nat} {D : DataW Unit} {x : Cli} (h : GoodK l k D) (hm : IsMap D) (hs : SrtC l) (hx : l[k]? = some x) : GoodK l (k + 1) (D.put (kI x.id) (.lit (kI k))) := by
 refine ⟨fun id => ?_, fun j y hj hy => ?_⟩
 ·by_cases he : id = x.id
  ·subst he
   exact ⟨fun _ => ⟨k, x, by omega, hx, rfl⟩, fun _ => has_put_same hm (keyI _) _⟩
  ·rw [has_put_other (by intro e; injection e with e1 e2; exact he e2), h.has id]
   constructor
   ·rintro ⟨j, y, h1, h2, h3⟩; exact ⟨j, y, by omega, h2, h3⟩
   ·rintro ⟨j, y, h1, h2, h3⟩
    refine ⟨j, y, ?_, h2, h3⟩
    rcases Nat.lt_or_eq_of_le (Nat.le_of_lt_succ h1) with h4 | rfl
    ·exact h4
    ·rw [hx] at h2; obtain rfl := Option.some.inj h2; exact absurd h3.symm he
 ·rcases Nat.lt_or_eq_of_le (Nat.le_of_lt_succ hj) with h4 | rfl
  ·have := za2 hs hy hx h4
   rw [atKey_put_other (by intro e; injection e with e1 e2; omega)];exact h.at_ j y h4 hy
  ·rw [hx] at hy; obtain rfl := Option.some.inj hy
   exact atKey_put_same hm (keyI _) _ _
abbrev stC (v : Int) (ve vc : Value) (M : Nat) : Array Value := #[.int .i64 v, ve, vc, .map (some M)]
abbrev mdC (v : Int) (ve vc : Value) : Array Value := #[.int .i64 v, ve, vc]
structure StAt (w : World) (m : Mdl) (ae : Option Addr) (ce : Nat) (ac : Option Addr) (cc M : Nat) : Prop where
 es : SlE w (Old w) (.slice ae m.es.length ce) m.es
 cs : SlL w (Old w) (.slice ac m.cs.length cc) m.cs
 nil : ac = none -> cc = 0
 map : ∃ n D, OMm w M n D /\ GoodK m.cs m.cs.length D
theorem StAt.old {w w' : World} {m : Mdl} {ae ac : Option Addr} {ce cc M : Nat} (h : StAt w m ae ce ac cc M) (hb : Below w.heap.size w w') : StAt w' m ae ce ac cc M := by
 obtain ⟨n, D, h1, h2⟩ := h.map;exact ⟨h.es.old hb, h.cs.old hb, h.nil, n, D, z1b h1 (hb.block _ h1.lt), h2⟩
theorem OwnL.fsh {w : World} {base : Nat} {v : Value} {xs : List Cli} (h : OwnL w base v xs) : SlL w (Fsh base w) v xs := by
 obtain ⟨a, c, hv, h1, h2, h3⟩ := h.sl;refine ⟨a, c, hv, h1, h2, fun hne => ?_⟩;obtain ⟨b, d, ha, hb, f⟩ := h3 hne;exact ⟨b, d, ha, ⟨(h.lt b (by rw [hv, ha]; rfl)).1, hb⟩, f⟩
def z3h (m : Mdl) (w : World) (e : Ending) (w' : World) : Prop := ∃ ae ce ac cc M, e = .returned (.agg (stC m.vr (.slice ae m.es.length ce) (.slice ac m.cs.length cc) M)) /\ StAt w' m ae ce ac cc M /\ SlL w' (Fsh w.heap.size w') (.slice ac m.cs.length cc) m.cs /\ Below w.heap.size w w'
theorem z74 (w : World) (cl sq : Int) (vh : Value) (an : Int) : Calls Tryz.prog 81 #[.agg #[.int .i64 cl, .int .i64 sq, vh], .int .i64 an] w fun e w' => e = .returned (clV ⟨cl, sq, an, 0⟩) /\ Below w.heap.size w w' := by
 have R0 := (z02 w #[.int .i64 cl, .int .i64 sq, vh] 28).alloc (.cells #[.int .i64 0, .int .i64 0, .int .i64 0, .int .i64 0] 32);have c0 := R0.c0;have c1 := R0.c1;have R2 := z02 (w.alloc (.cells #[.int .i64 cl, .int .i64 sq, vh] 28)) (clC ⟨cl, sq, an, 0⟩) 32;rw [World.size_alloc] at R2;have f0 := R2.c0;have f1 := R2.c1;have f2 := R2.c2;have f3 := R2.c3;have HB := Lib.hid (z3s w (.cells #[.int .i64 cl, .int .i64 sq, vh] 28) (.cells (clC ⟨cl, sq, an, 0⟩) 32));clear R0 R2
 go_enter Tryz.func81, Tryz.ntmps81
 go_wp2;exact bodyPost_ret (v := clV ⟨cl, sq, an, 0⟩) (by simp [results, Tryz.results81, go_sem, f0, f1, f2, f3]) rfl ⟨rfl, HB.out⟩
theorem zhy {W w' : World} {M B : Nat} {e : TypeId} {k n : Nat} {v : Value} {xs : List Value} (h : W.ownsRow B e k v n xs) (hf : Fr (fun b => b = M) W w') (hM : M < B) : w'.ownsRow B e k v n xs := by
 refine ⟨h.1, ?_⟩
 rcases h.2 with h0 | ⟨g, cap, cur, hv, hbs, hh, hr⟩
 ·exact .inl h0
 ·exact .inr ⟨g, cap, cur, hv, hbs, (hf.block g (Array.getElem?_eq_some_iff.1 hh).1 (by omega)).trans hh, hr⟩
theorem z29 {w : World} {B B' : Nat} {e : TypeId} {k n : Nat} {v : Value} {xs : List Value} (h : w.ownsRow B e k v n xs) (hB : B' <= B) : w.ownsRow B' e k v n xs := by
 refine ⟨h.1, ?_⟩
 rcases h.2 with h0 | ⟨g, cap, cur, hv, hb, hr⟩
 ·exact .inl h0
 ·exact .inr ⟨g, cap, cur, hv, Nat.le_trans hB hb, hr⟩
theorem zhx {W w' : World} {M b : Nat} {t : TypeId} {cs : List Value} (h : Row W b t cs) (hf : Fr (fun b => b = M) W w') (hne : b ≠ M) : Row w' b t cs := h.keep (hf.block b h.lt hne)
theorem z4t (w : World) (v : Int) (ae : Option Addr) (ce : Nat) (es : List Ent) (ac : Option Addr) (cc : Nat) (cs : List Cli) (hE : SlE w (Old w) (.slice ae es.length ce) es) (hC : SlL w (Old w) (.slice ac cs.length cc) cs)
  (hle : es.length <= 1000) (hlc : cs.length <= 1000) (hs : SrtC cs) (hid : ∀ x, x ∈ cs -> -9223372036854775808 <= x.id /\ x.id <= 9223372036854775807) :
  Calls Tryz.prog 39 #[.agg #[.int .i64 v, .slice ae es.length ce, .slice ac cs.length cc]] w (z3h ⟨v, es, cs⟩ w) := by
 have ah := @run_makeMap Tryz.prog;obtain ⟨Le, m⟩ := nmd (es.length);obtain ⟨Lc, d⟩ := nmd (cs.length)
 have aH : Lc <= 1000 := by have := d.out; omega
 have C := Lib.hid hE;have E := Lib.hid hC;have y := Lib.hid (fun W (h : Below w.heap.size w W) => zbd W ae ce es (hE.old h) hle);have z := Lib.hid (fun W (h : Below w.heap.size w W) => z8j W ac cc cs (hC.old h) hlc);have ai := Lib.hid hid;have HS := Lib.hid hs;rw [<- m.out] at C y ⊢;rw [<- d.out] at E z ⊢;clear hE hC hle hlc hid hs;obtain ⟨W1, f⟩ := nmd ((((w.alloc (.cells (mdC v (.slice ae Le ce) (.slice ac Lc cc)) 25)).alloc (.cells #[.int .i64 0, .slice none 0 0, .slice none 0 0, .map none] 73)).alloc (.map #[] 0)).alloc (.cells (stC v (.slice ae Le ce) (.slice ac Lc cc) (w.heap.size + 1 + 1)) 73));have aj : Hid (W1.heap.size = w.heap.size + 4) := Lib.hid (by rw [f.out]; simp);have s : Hid (Below w.heap.size w W1) := Lib.hid (by rw [f.out]; exact (z4q w _ _ _).alloc (by simp; omega) _);have A : Hid (Row W1 w.heap.size 25 [.int .i64 v, .slice ae Le ce, .slice ac Lc cc]) := Lib.hid (by rw [f.out]; exact (((z02 w (mdC v (.slice ae Le ce) (.slice ac Lc cc)) _).alloc _).alloc _).alloc _)
 have F : Hid (Row W1 (w.heap.size + 1) 73 [.int .i64 0, .slice none 0 0, .slice none 0 0, .map none]) := Lib.hid (by
  rw [f.out];have h := ((z02 (w.alloc (.cells (mdC v (.slice ae Le ce) (.slice ac Lc cc)) 25)) #[.int .i64 0, .slice none 0 0, .slice none 0 0, .map none] 73).alloc (.map #[] 0)).alloc (.cells (stC v (.slice ae Le ce) (.slice ac Lc cc) (w.heap.size + 1 + 1)) 73)
  rwa [World.size_alloc] at h)
 have G : Hid (OMm W1 (w.heap.size + 1 + 1) 0 (.map [])) := Lib.hid (by
  rw [f.out];have h := (World.ownsMap_made (H := Unit) ((w.alloc (.cells (mdC v (.slice ae Le ce) (.slice ac Lc cc)) 25)).alloc (.cells #[.int .i64 0, .slice none 0 0, .slice none 0 0, .map none] 73)) Tryz.prog 3 (plainElem Tryz.prog 3)).alloc (.cells (stC v (.slice ae Le ce) (.slice ac Lc cc) (w.heap.size + 1 + 1)) 73)
  simpa only [World.size_alloc] using h)
 have l : Hid (Row W1 (w.heap.size + 1 + 1 + 1) 73 [.int .i64 v, .slice ae Le ce, .slice ac Lc cc, .map (some (w.heap.size + 1 + 1))]) := Lib.hid (by
  rw [f.out];have h := z02 (((w.alloc (.cells (mdC v (.slice ae Le ce) (.slice ac Lc cc)) 25)).alloc (.cells #[.int .i64 0, .slice none 0 0, .slice none 0 0, .map none] 73)).alloc (.map #[] 0)) (stC v (.slice ae Le ce) (.slice ac Lc cc) (w.heap.size + 1 + 1)) 73
  simpa only [World.size_alloc] using h)
 have r0 := (z02 w (mdC v (.slice ae Le ce) (.slice ac Lc cc)) 25).alloc (.cells #[.int .i64 0, .slice none 0 0, .slice none 0 0, .map none] 73);have c0 := r0.c0;have c1 := r0.c1;have c2 := r0.c2;clear r0
 go_enter Tryz.func39, Tryz.ntmps39
 go_wp2;rw [<- f.out];clear c0 c1 c2 ah f
 have t : Hid (∀ W, Below W1.heap.size W1 W -> (W.cell? ⟨w.heap.size, 1, none⟩ = some (.slice ae Le ce) /\ W.cell? ⟨w.heap.size, 2, none⟩ = some (.slice ac Lc cc)) /\ W.cell? ⟨w.heap.size + 1 + 1 + 1, 1, none⟩ = some (.slice ae Le ce) /\ W.frozen? ⟨w.heap.size + 1 + 1 + 1, 1, none⟩ = false /\ W.cell? ⟨w.heap.size + 1 + 1 + 1, 2, none⟩ = some (.slice ac Lc cc) /\ W.frozen? ⟨w.heap.size + 1 + 1 + 1, 2, none⟩ = false) := Lib.hid (fun W h =>
  ⟨⟨(A.out.below h).cell rfl, (A.out.below h).cell rfl⟩, (l.out.below h).cell rfl, (l.out.below h).thaw _, (l.out.below h).cell rfl, (l.out.below h).thaw _⟩)
 have I : Hid (∀ W, Hid (Below W1.heap.size W1 W) -> Calls Tryz.prog 79 #[.slice ae Le ce] W fun e w' => ∃ a9 c9, e = .returned (.slice a9 Le c9) /\ (w'.cell? ⟨w.heap.size, 1, none⟩ = some (.slice ae Le ce) /\ w'.cell? ⟨w.heap.size, 2, none⟩ = some (.slice ac Lc cc)) /\ Hid (Own w' W1.heap.size (.slice a9 Le c9) es) /\ Hid (Below W1.heap.size W1 w')) := Lib.hid (fun W h =>
  (y.out W (z00 s.out h.out)).mono fun e w' ⟨v9, he, ho, hb⟩ => by
   obtain ⟨a9, c9, rfl, -⟩ := z0j ho;have n := z00 h.out hb;rw [<- m.out] at he;refine ⟨a9, c9, he, (t.out w' n).1, Lib.hid ?_, Lib.hid n⟩;rw [m.out]
   exact z29 ho h.out.size)
 have J : Hid (∀ W a9 c9, Hid (Below W1.heap.size W1 W) -> Hid (Own W W1.heap.size (.slice a9 Le c9) es) -> Calls Tryz.prog 80 #[.slice ac Lc cc] W fun e w' => ∃ a8 c8, e = .returned (.slice a8 Lc c8) /\ (w'.cell? ⟨w.heap.size, 1, none⟩ = some (.slice ae Le ce) /\ w'.cell? ⟨w.heap.size, 2, none⟩ = some (.slice ac Lc cc)) /\ w'.cell? ⟨w.heap.size + 1 + 1 + 1, 1, none⟩ = some (.slice ae Le ce) /\ w'.frozen? ⟨w.heap.size + 1 + 1 + 1, 1, none⟩ = false /\ w'.cell? ⟨w.heap.size + 1 + 1 + 1, 2, none⟩ = some (.slice ac Lc cc) /\ w'.frozen? ⟨w.heap.size + 1 + 1 + 1, 2, none⟩ = false /\ Hid (Own w' W1.heap.size (.slice a9 Le c9) es) /\ Hid (OwnL w' W1.heap.size (.slice a8 Lc c8) cs) /\ Hid (Below W1.heap.size W1 w')) := Lib.hid (fun W a9 c9 h ho9 =>
  (z.out W (z00 s.out h.out)).mono fun e w' ⟨v8, he, ho, hb⟩ => by
   obtain ⟨a8, c8, rfl, -⟩ := z0j ho;have n := z00 h.out hb;obtain ⟨k1, k2, k3, k4, k5⟩ := t.out w' n;rw [<- d.out] at he;refine ⟨a8, c8, he, k1, k2, k3, k4, k5, Lib.hid (z0n ho9.out hb), Lib.hid ?_, Lib.hid n⟩;rw [d.out]
   exact z29 ho h.out.size)
 have L : Hid (Below W1.heap.size W1 W1.drew) := Lib.hid (Below.refl _ _).drew;obtain ⟨aq, -⟩ := t.out _ L.out
 have aI : ¬ (w.heap.size + 1 + 1 + 1 = w.heap.size) := by omega
 go_region_held3 (fun W => W.cell? ⟨w.heap.size, 1, none⟩ = some (.slice ae Le ce) /\ W.cell? ⟨w.heap.size, 2, none⟩ = some (.slice ac Lc cc)) (first | go_keep | assumption)
  (first
   | (go_at_call 79; refine (I.out _ ?_).mono ?_; assumption; rintro e U1 ⟨a9, c9, rfl, ar, au, aw⟩)
   | (go_at_call 80; refine (J.out _ a9 c9 ?_ ?_).mono ?_; assumption; assumption; rintro e U2 ⟨a8, c8, rfl, ax, ay, az, aA, aB, M, N, o⟩)
   | fail)
 have j : Hid (Row ((U2.setCell ⟨w.heap.size + 1 + 1 + 1, 1, none⟩ (.slice a9 Le c9)).setCell ⟨w.heap.size + 1 + 1 + 1, 2, none⟩ (.slice a8 Lc c8)) (w.heap.size + 1 + 1 + 1) 73 [.int .i64 v, .slice a9 Le c9, .slice a8 Lc c8, .map (some (w.heap.size + 1 + 1))] /\
   Row ((U2.setCell ⟨w.heap.size + 1 + 1 + 1, 1, none⟩ (.slice a9 Le c9)).setCell ⟨w.heap.size + 1 + 1 + 1, 2, none⟩ (.slice a8 Lc c8)) (w.heap.size + 1) 73 [.int .i64 0, .slice none 0 0, .slice none 0 0, .map none] /\
   OMm ((U2.setCell ⟨w.heap.size + 1 + 1 + 1, 1, none⟩ (.slice a9 Le c9)).setCell ⟨w.heap.size + 1 + 1 + 1, 2, none⟩ (.slice a8 Lc c8)) (w.heap.size + 1 + 1) 0 (.map []) /\
   Own ((U2.setCell ⟨w.heap.size + 1 + 1 + 1, 1, none⟩ (.slice a9 Le c9)).setCell ⟨w.heap.size + 1 + 1 + 1, 2, none⟩ (.slice a8 Lc c8)) (w.heap.size + 4) (.slice a9 Le c9) es /\
   OwnL ((U2.setCell ⟨w.heap.size + 1 + 1 + 1, 1, none⟩ (.slice a9 Le c9)).setCell ⟨w.heap.size + 1 + 1 + 1, 2, none⟩ (.slice a8 Lc c8)) (w.heap.size + 4) (.slice a8 Lc c8) cs /\
   Below w.heap.size w ((U2.setCell ⟨w.heap.size + 1 + 1 + 1, 1, none⟩ (.slice a9 Le c9)).setCell ⟨w.heap.size + 1 + 1 + 1, 2, none⟩ (.slice a8 Lc c8))) := Lib.hid (by
  have a : But (w.heap.size + 1 + 1 + 1) U2 ((U2.setCell ⟨w.heap.size + 1 + 1 + 1, 1, none⟩ (.slice a9 Le c9)).setCell ⟨w.heap.size + 1 + 1 + 1, 2, none⟩ (.slice a8 Lc c8)) := ((But.refl _ _).set _ _).set _ _;have O := aj.out;refine ⟨((l.out.below o.out).set 1 _).set 2 _, (F.out.below o.out).keep (a.block _ (by omega)), z1b (z1b G.out (o.out.block _ (by omega))) (a.block _ (by omega)), ?_, ?_, ?_⟩
  ·rw [<- O]; exact z24 M.out a (by omega)
  ·rw [<- O]; exact z24 N.out a (by omega)
  ·exact (z00 s.out o.out).trans (a.below (B := w.heap.size) (by omega)))
 generalize (U2.setCell ⟨w.heap.size + 1 + 1 + 1, 1, none⟩ (.slice a9 Le c9)).setCell ⟨w.heap.size + 1 + 1 + 1, 2, none⟩ (.slice a8 Lc c8) = w4 at *
 have p := Lib.hid j.out.1;have T := Lib.hid j.out.2.1;have U := Lib.hid j.out.2.2.1;have V := Lib.hid j.out.2.2.2.1;have u := Lib.hid j.out.2.2.2.2.1;have aC := Lib.hid j.out.2.2.2.2.2;clear aq ar ax ay aA az aB au M N L aw o I J t A F l G y z j s C E;have k2 := p.out.c2;go_wp2
 go_loopw [4, 5, 23] (fun v4 v5 i wr => ∃ (k : Nat) (D : DataW Unit), k <= Lc /\ i = .int .i64 k /\ Hid (OMm wr (w.heap.size + 1 + 1) k D) /\ Hid (GoodK cs k D) /\ Hid (Fr (fun b => b = w.heap.size + 1 + 1) w4 wr)) (fun _ _ i _ => Lc - (intOf i).toNat)
 case atStart => exact ⟨0, .map [], Nat.zero_le _, rfl, U, Lib.hid (zhn _), Lib.hid (Fr.refl _ _)⟩
 case round =>
  obtain ⟨k, D, hk, rfl, HO, HG, HF⟩ := hrel;have HM := Lib.hid HO.out.isMap;clear k2
  by_cases hlt : k < Lc
  ·obtain ⟨x, hx⟩ : ∃ x, cs[k]? = some x := ⟨_, List.getElem?_eq_getElem (by have := d.out; omega)⟩
   have X := OwnL.sl (zhy u.out HF.out (by omega));obtain ⟨b, aJ, rfl, hb, x0, x1, x2, x3⟩ := X.get hx;have q := ai.out x (List.mem_of_getElem? hx);have HP := Lib.hid (zho HG.out HM.out HS.out hx);have Y : Hid (keyOf Tryz.prog 3 (.int .i64 x.id) = some (kI x.id)) := Lib.hid (keyOf_int_mk Tryz.underlying3 (wfI q.1 q.2));have HN : Hid (k < maxLen) := Lib.hid (by unfold maxLen; omega);have aD := z03 wr (.cells (clC x) 32);have R := z02 wr (clC x) 32;have d0 := R.c0;have k1 := ((zhx p.out HF.out (by omega)).alloc (.cells (clC x) 32)).c3;have Z := Lib.hid (HO.out.alloc (.cells (clC x) 32));have aa := Lib.hid (HF.out.alloc (.cells (clC x) 32));obtain ⟨xi, xs, xa, xv⟩ := x;simp only at x0 x1 x2 x3 Y HP d0 k1 Z aa;clear R aD X hx q hb
   go_wp2_with (at_mapUpdate; refine wpList_mapUpdate_own _ rfl _ _ _ 71 rfl 3 3 lawI Tryz.underlying71 _ (w.heap.size + 1 + 1) k _ rfl Z.out HN.out _ _ _ rfl rfl Y.out _ [] (plainElem_int Tryz.underlying3 (wfI (by omega) (by omega))) ?_; intro w1 hown1 hgrow1)
   have aE := Lib.hid hown1;have aF := Lib.hid (aa.out.grown hgrow1 (fun g hg => by cases hg; exact .inr rfl));clear hown1 hgrow1;go_wp2;go_roundw
   case rel => exact ⟨k + 1, _, by omega, by go_num, aE, HP, aF⟩
   case measure => simp [intOf]; omega
  ·have af : k = Lc := by omega
   have r := zhx p.out HF.out (by omega);have c := zhx T.out HF.out (by omega);have k0 := r.c0;have k1 := r.c1;have k2 := r.c2;have k3 := r.c3;have t0 := c.thaw 0;have t1 := c.thaw 1;have t2 := c.thaw 2;have t3 := c.thaw 3;have e0 := c.c0;have e1 := c.c1;have e2 := c.c2;have e3 := c.c3;have R9 := (((c.set 0 (.int .i64 v)).set 1 (.slice a9 Le c9)).set 2 (.slice a8 Lc c8)).set 3 (.map (some (w.heap.size + 1 + 1)));have f0 := R9.c0;have f1 := R9.c1;have f2 := R9.c2;have f3 := R9.c3
   have ag : Hid (z3h ⟨v, es, cs⟩ w (.returned (.agg (stC v (.slice a9 Le c9) (.slice a8 Lc c8) (w.heap.size + 1 + 1)))) ((((wr.setCell ⟨w.heap.size + 1, 0, none⟩ (.int .i64 v)).setCell ⟨w.heap.size + 1, 1, none⟩ (.slice a9 Le c9)).setCell ⟨w.heap.size + 1, 2, none⟩ (.slice a8 Lc c8)).setCell ⟨w.heap.size + 1, 3, none⟩ (.map (some (w.heap.size + 1 + 1))))) := Lib.hid (by
    have a : But (w.heap.size + 1) wr ((((wr.setCell ⟨w.heap.size + 1, 0, none⟩ (.int .i64 v)).setCell ⟨w.heap.size + 1, 1, none⟩ (.slice a9 Le c9)).setCell ⟨w.heap.size + 1, 2, none⟩ (.slice a8 Lc c8)).setCell ⟨w.heap.size + 1, 3, none⟩ (.map (some (w.heap.size + 1 + 1)))) := ((((But.refl _ _).set _ _).set _ _).set _ _).set _ _;have h1 := z24 (zhy V.out HF.out (by omega)) a (by omega);have h2 := z24 (zhy u.out HF.out (by omega)) a (by omega);have aG : Below w.heap.size w wr := Fr.to_below aC.out HF.out (by omega);refine ⟨a9, c9, a8, c8, _, by rw [m.out, d.out], ⟨?_, ?_, fun h => ?_, _, D, z1b HO.out (a.block _ (by omega)), ?_⟩, ?_, aG.trans (a.below (B := w.heap.size) (by omega))⟩
    ·rw [show (⟨v, es, cs⟩ : Mdl).es.length = Le from m.out.symm]; exact Own.sl h1
    ·rw [show (⟨v, es, cs⟩ : Mdl).cs.length = Lc from d.out.symm]; exact OwnL.sl h2
    ·subst h
     rcases h2.2 with ⟨h0, -⟩ | ⟨g, cap, cur, h0, -⟩
     ·injection h0
     ·injection h0 with h0; cases h0
    ·have := HG.out; rw [af, d.out] at this; exact this
    ·rw [show (⟨v, es, cs⟩ : Mdl).cs.length = Lc from d.out.symm]; exact OwnL.fsh (z29 h2 (by omega)))
   clear R9 r c af;go_wp2;exact bodyPost_ret (v := .agg (stC v (.slice a9 Le c9) (.slice a8 Lc c8) (w.heap.size + 1 + 1))) (by simp [results, Tryz.results39, go_sem, f0, f1, f2, f3]) rfl ag.out
end Go.Proofs.YtdkkkeoicekdgaaGreatDoor.Md
