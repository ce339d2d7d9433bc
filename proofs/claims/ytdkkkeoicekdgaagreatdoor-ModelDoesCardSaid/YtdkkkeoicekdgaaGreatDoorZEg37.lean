/- Package code's Put: the closure that writes a value, at a list, and so at every value; Put's answer, whether the bytes fit or not. -/
import Derived.Lib.SlBytesConst
import Derived.Lib.AppendZeros
import Derived.Test.YtdkkkeoicekdgaaGreatDoorZECWriteS
import Derived.Test.YtdkkkeoicekdgaaGreatDoorZEg36

section

namespace Go.Proofs.YtdkkkeoicekdgaaGreatDoor.Co
set_option maxHeartbeats 1600000
set_option maxRecDepth 100000
open Go.Lib (hid)
open Go.RowKit
mutual
def Tx : Tree -> Prop
 | .num _ => True
 | .text bs => bs.length <= 140737488351232
 | .list ts => TxL ts
def TxL : List Tree -> Prop
 | [] => True
 | t :: ts => Tx t /\ TxL ts
end
def z6r (t : Tree) : Prop := ∀ (B b fb ab wb : Nat) (w : World) (st : St) (v : Value), WEnvS B b fb ab wb w -> HoldS B b fb st w -> Rep w (S24 w) t v ->
 Calls Tryz.prog 91 #[v, .pointer (some ⟨ab, 0, none⟩), .pointer (some ⟨wb, 0, none⟩)] w fun e w' => e = .returned (.tuple #[]) /\ WroteS B b fb (wrT t st) w w'
theorem zbl {ts : List Tree} (hts : ∀ t, t ∈ ts -> z6r t) (hlenb : ts.length <= 4000) : z6r (.list ts) := by
 intro B b fb ab wb w st v env hh l;rw [wrT];rw [Rep] at l;obtain ⟨L, xs, rfl, f, -, s⟩ := l
 obtain ⟨a, n, d, rfl, hn⟩ : ∃ a n d, L = .slice a n d /\ n = ts.length := by
  rcases f.2 with ⟨rfl, h0⟩ | ⟨g, d, x, rfl, -⟩
  ·exact ⟨_, _, _, rfl, h0.symm⟩
  ·exact ⟨_, _, _, rfl, rfl⟩
 subst hn;have X := z04 env.add;have y := cell_of_heap env.add;have o := env.alloc (.cells #[.int .i64 3, .int .i64 0, .string ⟨#[]⟩, .slice a ts.length d] 88);have z := hh.alloc (.cells #[.int .i64 3, .int .i64 0, .string ⟨#[]⟩, .slice a ts.length d] 88);have A : (w.alloc (.cells #[.int .i64 3, .int .i64 0, .string ⟨#[]⟩, .slice a ts.length d] 88)).heap[w.heap.size]? = some (.cells #[.int .i64 3, .int .i64 0, .string ⟨#[]⟩, .slice a ts.length d] 88 (0, 0)) := heap_alloc_new _ _;have O : Hid (Below w.heap.size w (w.alloc (.cells #[.int .i64 3, .int .i64 0, .string ⟨#[]⟩, .slice a ts.length d] 88))) := hid (z03 w _);have HT := hid hts;have HW := hid f;have HA := hid s;have HB := hid env.hB;clear hts f s hh env
 go_enter Tryz.func91, Tryz.ntmps91
 go_wp2_with fail
 generalize hw0 : w.alloc (.cells #[.int .i64 3, .int .i64 0, .string ⟨#[]⟩, .slice a ts.length d] 88) = w0 at *
 clear hw0 y;refine (z1n o z ⟨#[108]⟩ (by decide)).mono ?_;rintro e w1 ⟨rfl, r⟩;have u := o.after r;have C := r.oth _ _ _ _ A (by decide) (by decide) (by decide)
 have Y : w1.cell? ⟨w.heap.size, 3, none⟩ = some (.slice a ts.length d) := by simp [World.cell?, C]
 have H1 : Hid (WroteS B b fb (addS st [108]) w w1) := hid (WroteS.ahead O.out HB.out r);have E1 := hid u;clear A z o r u C;go_wp2
 go_loopw [40] (fun i wr => ∃ k : Nat, k <= ts.length /\ i = .int .i64 k /\ Hid (WEnvS B b fb ab wb wr) /\ Hid (WroteS B b fb (wrL (ts.take k) (addS st [108])) w wr)) (fun i _ => ts.length - (intOf i).toNat)
 case atStart => exact ⟨0, Nat.zero_le _, rfl, E1, hid (by rw [List.take_zero, wrL]; exact H1.out)⟩
 case round =>
  obtain ⟨k, hk, rfl, E, H⟩ := hrel
  by_cases hlt : k < ts.length
  ·obtain ⟨c0, c1, c2, c3, x0, x1, x2, x3, l⟩ := z0i.get ts xs k ts[k] HA.out (List.getElem?_eq_getElem hlt)
   obtain ⟨g, rfl⟩ : ∃ g, a = some ⟨g, 0, none⟩ := by
    rcases HW.out.2 with ⟨-, h0⟩ | ⟨g, d, x, hv, -⟩
    ·omega
    ·injection hv with hv; exact ⟨g, hv⟩
   have p : K24 w wr := H.out.oth.k24;have f := HW.out;have j : wr.ownsRow 0 88 4 (.slice (some ⟨g, 0, none⟩) ts.length d) ts.length xs := z0d f (fun g' hg' => by obtain ⟨x, hc⟩ := own24 f g' hg'; exact (p g' x hc).trans hc.symm);have I : wr.cell? ⟨g, k * 4, none⟩ = some c0 := z1k j x0;have J : wr.cell? ⟨g, k * 4 + 1, none⟩ = some c1 := z1k j x1;have M : wr.cell? ⟨g, k * 4 + 2, none⟩ = some c2 := z1k j x2;have N : wr.cell? ⟨g, k * 4 + 3, none⟩ = some c3 := z1k j x3;have q := l.k24 p;obtain ⟨kd, n0, b0, a0, T, U, c⟩ := Rep.cells _ _ l
   injection c with c
   injection c with c
   injection c with h0 c
   injection c with h1 c
   injection c with h2 c
   injection c with h3 c
   subst h0 h1 h2 h3;have Z : wr.cell? ⟨wb, 0, none⟩ = some (z5p ab wb) := cell_of_heap E.out.wr;have V := z04 E.out.wr;have R := hid q;clear x0 x1 x2 x3 l q c p f j
   go_wp2_with fail
   have D := wrL_take (ts := ts) (k := k) (List.getElem?_eq_getElem hlt) (addS st [108]);refine (HT.out ts[k] (List.getElem_mem hlt) B b fb ab wb _ _ _ (E.out.alloc _) (H.out.holds.alloc _) (R.out.k24 ((K24.refl _).alloc _))).mono ?_;rintro e w2 ⟨rfl, m⟩
   have hN : Hid (WEnvS B b fb ab wb w2 /\ WroteS B b fb (wrL (ts.take (k + 1)) (addS st [108])) w w2) := hid (by
    refine ⟨(E.out.alloc _).after m, ?_⟩;rw [D]
    exact H.out.trans (WroteS.ahead (z03 wr _) E.out.hB m))
   clear m D;go_wp2;go_roundw
   case rel => exact ⟨k + 1, by omega, by go_num, hid hN.out.1, hid hN.out.2⟩
   case measure => simp [intOf]; omega
  ·have y : wr.cell? ⟨ab, 0, none⟩ = some (addFn fb b) := cell_of_heap E.out.add
   have F : ts.take k = ts := List.take_of_length_le (by omega);have HN := hid F;clear F
   go_wp2_with fail
   refine (z1n E.out H.out.holds ⟨#[101]⟩ (by decide)).mono ?_;rintro e w2 ⟨rfl, m⟩
   have G : Hid (WroteS B b fb (addS (wrL ts (addS st [108])) [101]) w w2) := hid (by
    have h := H.out.trans m;rw [HN.out] at h
    exact h)
   clear m;go_wp2
   go_end0
   exact ⟨rfl, G.out⟩
mutual
theorem z9u : ∀ t : Tree, Ok t -> Tx t -> nodes t <= 4000 -> z6r t
 | .num n, h, _, _ => fun B b fb ab wb w st v env hh hrep => by
  rw [Ok] at h; rw [Rep] at hrep; subst hrep
  exact zf2 env hh n h.1 h.2
 | .text bs, _, hx, _ => fun B b fb ab wb w st v env hh hrep => by
  rw [Rep] at hrep; subst hrep
  rw [Tx] at hx
  have a : (⟨bs.toArray⟩ : ByteArray).size = bs.length := by simp [ByteArray.size]
  have := zbk env hh ⟨bs.toArray⟩ (by rw [a]; exact hx);rw [a] at this;rw [wrT];exact this
 | .list ts, h, hx, hn => zbl (z7y ts (by rw [Ok] at h; exact h) (by rw [Tx] at hx; exact hx) (by rw [nodes] at hn; omega)) (by have := z1x ts; rw [nodes] at hn; omega)
theorem z7y : ∀ ts : List Tree, OkL ts -> TxL ts -> z0s ts <= 4000 -> ∀ t, t ∈ ts -> z6r t
 | [], _, _, _, t, ht => by cases ht
 | u :: ts, h, hx, hn, t, ht => by
  rw [OkL] at h;rw [TxL] at hx;rw [z0s] at hn
  rcases List.mem_cons.1 ht with h' | h'
  ·rw [h']; exact z9u u h.1 hx.1 (by omega)
  ·exact z7y ts h.2 hx.2 (by omega) t h'
end
def putF (t : Tree) : List UInt8 × Int := if (enc t).length <= 131072 then (enc t, 0) else ([], 2)
theorem z8y {t : Tree} (h : (enc t).length <= 131072) : putF t = (enc t, 0) := by unfold putF; rw [if_pos h]
theorem zc8 {t : Tree} (h : 131072 < (enc t).length) : putF t = ([], 2) := by unfold putF; rw [if_neg (by omega)]
theorem putS_any {t : Tree} {v : Value} {w : World} (hrep : Rep w (S24 w) t v) (hok : Ok t) (htx : Tx t) (hlev : Lev 1 t) (hn : nodes t <= 4000)
  (htab : Lib.TabIs Tryz.prog w "internal/strconv.uint64pow10" .u64 Lib.pow10Tab) : Calls Tryz.prog 51 #[v] w fun e w' => e = .returned (.tuple #[.string ⟨(putF t).1.toArray⟩, .int .i64 (putF t).2]) /\ Below w.heap.size w w' := by
 have r : ∀ (fn : Fn) (first d : Array Value) (w : World), (Instr.makeFunc fn first d).run Tryz.prog w = .ok (.func fn first d) w := fun _ _ _ _ => rfl
 obtain ⟨kd, n0, b0, a, len, d, rfl⟩ := Rep.cells t v hrep
 have HR : Hid (∀ W, K24 w W -> Calls Tryz.prog 88 #[.agg #[.int .i64 kd, .int .i64 n0, .string b0, .slice a len d]] W fun e w' => e = .returned (.int .i64 0) /\ Below W.heap.size W w') :=
  hid (fun W hK => z2v (hrep.k24 hK) hlev hn)
 have HW : Hid (∀ (B b fb ab wb : Nat) (W : World), K24 w W -> WEnvS B b fb ab wb W -> HoldS B b fb ([], true) W -> Calls Tryz.prog 91 #[.agg #[.int .i64 kd, .int .i64 n0, .string b0, .slice a len d], .pointer (some ⟨ab, 0, none⟩), .pointer (some ⟨wb, 0, none⟩)] W fun e w' => e = .returned (.tuple #[]) /\ WroteS B b fb (wrT t ([], true)) W w') :=
  hid (fun B b fb ab wb W hK hE hH => z9u t hok htx hn B b fb ab wb W _ _ hE hH (hrep.k24 hK))
 have HT := hid htab;clear hrep hlev hok htx htab
 go_enter Tryz.func51, Tryz.ntmps51
 go_wp2_with fail
 refine (HR.out _ ((K24.refl _).alloc _)).mono ?_;rintro e w1 ⟨rfl, l⟩;have c : w1.heap[w.heap.size]? = some (.cells #[.int .i64 kd, .int .i64 n0, .string b0, .slice a len d] 88 (0, 0)) := (l.block _ (by simp)).trans (heap_alloc_new _ _);have n : Below w.heap.size w w1 := (z03 w _).trans (l.mono (by simp))
 have s : w1.cell? ⟨w.heap.size, 0, none⟩ = some (.int .i64 kd) := by simp [World.cell?, c]
 have u : w1.cell? ⟨w.heap.size, 1, none⟩ = some (.int .i64 n0) := by simp [World.cell?, c]
 have x : w1.cell? ⟨w.heap.size, 2, none⟩ = some (.string b0) := by simp [World.cell?, c]
 have y : w1.cell? ⟨w.heap.size, 3, none⟩ = some (.slice a len d) := by simp [World.cell?, c]
 have E := z04 c
 have A : w.heap.size < w1.heap.size + 1 := by omega
 have C : w.heap.size < w1.heap.size + 1 + 1 := by omega
 have D : w.heap.size < w1.heap.size + 1 + 1 + 1 := by omega
 have HB := hid n;clear l n c
 go_wp2_with fail
 obtain ⟨g0, g1, g2, g3⟩ := four_get w1 (.cells #[.pointer none, .slice none 0 0] 117) (.cells #[.bool true] 4) (.cells #[addFn (w1.heap.size + 1) w1.heap.size] 141) (.cells #[z5p (w1.heap.size + 1 + 1) (w1.heap.size + 1 + 1 + 1)] 142);have i := zfl w1 (.cells #[.pointer none, .slice none 0 0] 117) (.cells #[.bool true] 4) (.cells #[addFn (w1.heap.size + 1) w1.heap.size] 141) (.cells #[z5p (w1.heap.size + 1 + 1) (w1.heap.size + 1 + 1 + 1)] 142)
 have hH : Holds w1.heap.size w1.heap.size [] ((((w1.alloc (.cells #[.pointer none, .slice none 0 0] 117)).alloc (.cells #[.bool true] 4)).alloc (.cells #[addFn (w1.heap.size + 1) w1.heap.size] 141)).alloc (.cells #[z5p (w1.heap.size + 1 + 1) (w1.heap.size + 1 + 1 + 1)] 142)) :=
  Lib.IsBuilderF.alloc (Lib.IsBuilderF.alloc (Lib.IsBuilderF.alloc (Lib.IsBuilderF.of (Lib.fresh_isBuilder 117 5 w1)) _) _) _
 generalize ((((w1.alloc (.cells #[.pointer none, .slice none 0 0] 117)).alloc (.cells #[.bool true] 4)).alloc (.cells #[addFn (w1.heap.size + 1) w1.heap.size] 141)).alloc (.cells #[z5p (w1.heap.size + 1 + 1) (w1.heap.size + 1 + 1 + 1)] 142)) = W at g0 g1 g2 g3 i hH ⊢
 have htab : Lib.TabBelow Tryz.prog w1.heap.size W "internal/strconv.uint64pow10" .u64 Lib.pow10Tab := fun w' hb => Lib.tabBelow_of_tabIs HT.out w' ((HB.out.trans (i.mono HB.out.size)).trans (hb.mono HB.out.size))
 have hE : WEnvS w1.heap.size w1.heap.size (w1.heap.size + 1) (w1.heap.size + 1 + 1) (w1.heap.size + 1 + 1 + 1) W := ⟨g2, g3, htab, i.size, by omega⟩;have o : HoldS w1.heap.size w1.heap.size (w1.heap.size + 1) ([], true) W := ⟨hH, g1, by simp⟩;refine Calls.mono (HW.out w1.heap.size w1.heap.size (w1.heap.size + 1) (w1.heap.size + 1 + 1) (w1.heap.size + 1 + 1 + 1) W (fun g cur e => (i.block g (by have := z04 e; have := HB.out.size; omega)).trans ((HB.out.block g (z04 e)).trans e)) hE o) ?_;rintro e w2 ⟨rfl, j⟩;have k := cell_of_heap j.holds.f;have HE : Hid (Below w.heap.size w w2) := hid ((HB.out.trans (i.mono HB.out.size)).trans (j.below.mono HB.out.size));have HZ := hid HB.out.size;have m := hid j.holds;have z := hid (show w1.heap.size <= w2.heap.size by have := j.below.size; have := i.size; omega);clear hE hH o j htab g0 g1 g2 g3 i r s u x y HW HR
 by_cases hfit : (enc t).length <= 131072
 ·have HP := hid (z8y hfit)
  have hw := (z4z t [] (by simp)).1 (by simpa using hfit);rw [List.nil_append] at hw;rw [hw] at k m;simp only at k;have HS := hid (Tryz.Builder_String_any_k w1.heap.size w1.heap.size (enc t) w2 m.out.h z.out);clear hw
  go_wp2_with fail
  refine HS.out.mono ?_;rintro e w3 ⟨rfl, -, p, -⟩;have q : Hid (Below w.heap.size w w3) := hid (HE.out.trans (p.mono HZ.out));clear p;go_wp2
  go_ret2
  exact ⟨by rw [HP.out]; rfl, q.out⟩
 ·have HP := hid (zc8 (t := t) (by omega))
  obtain ⟨l', hw⟩ := (z4z t [] (by simp)).2 (by simpa using hfit);rw [hw] at k m;simp only at k;clear hw;go_wp2
  go_ret2
  exact ⟨by rw [HP.out]; rfl, HE.out⟩

set_option maxHeartbeats 1600000
set_option maxRecDepth 100000
theorem K24.below {w w' : World} (h : Below w.heap.size w w') : K24 w w' := fun g _ e => (h.block g (z04 e)).trans e
theorem z5h : ∀ {ts : List Tree} {t : Tree}, t ∈ ts -> nodes t <= z0s ts
 | u :: ts, t, h => by
  rw [z0s]
  rcases List.mem_cons.1 h with rfl | h
  ·omega
  ·have := z5h h; omega
theorem zcf {ts : List Tree} {k : Nat} {t : Tree} (h : ts[k]? = some t) : z0s (ts.take (k + 1)) = z0s (ts.take k) + nodes t := by
 obtain ⟨hk, rfl⟩ := List.getElem?_eq_some_iff.1 h;rw [List.take_succ_eq_append_getElem hk, z1s, z0s, z0s, Nat.add_zero]
mutual
def dep : Tree -> Nat
 | .num _ => 1
 | .text _ => 1
 | .list ts => 1 + depL ts
def depL : List Tree -> Nat
 | [] => 0
 | t :: ts => max (dep t) (depL ts)
end
theorem dep_kids (t : Tree) : dep t = 1 + depL (kids t) := by cases t <;> rw [dep] <;> simp [kids, depL]
theorem z4x : ∀ (a b : List Tree), depL (a ++ b) = max (depL a) (depL b)
 | [], b => by rw [depL]; simp
 | t :: a, b => by
  show depL (t :: (a ++ b)) = _
  rw [depL, depL, z4x a b]; omega
theorem zih {ts : List Tree} {k : Nat} {t : Tree} (h : ts[k]? = some t) : depL (ts.take (k + 1)) = max (depL (ts.take k)) (dep t) := by
 obtain ⟨hk, rfl⟩ := List.getElem?_eq_some_iff.1 h
 rw [List.take_succ_eq_append_getElem hk, z4x, depL, depL]; omega
theorem zii (ts : List Tree) (k : Nat) : depL (ts.take k) <= depL ts := by
 have := z4x (ts.take k) (ts.drop k)
 rw [List.take_append_drop] at this; omega
mutual
theorem zig : ∀ (t : Tree) (lev : Nat), Lev lev t -> lev + dep t <= 31
 | .num _, lev, h => by rw [Lev] at h; rw [dep]; omega
 | .text _, lev, h => by rw [Lev] at h; rw [dep]; omega
 | .list ts, lev, h => by
  rw [Lev] at h;have := zen ts (lev + 1) h.2
  rw [dep]; omega
theorem zen : ∀ (ts : List Tree) (lev : Nat), LevL lev ts -> depL ts = 0 ∨ lev + depL ts <= 31
 | [], lev, _ => by rw [depL]; exact .inl rfl
 | t :: ts, lev, h => by
  rw [LevL] at h;have h1 := zig t lev h.1;have h2 := zen ts lev h.2
  rw [depL]; omega
end
theorem ze2 {w : World} {ts : List Tree} {a : Option Addr} {cap : Nat} {xs : List Value} (ho : w.ownsRow 0 88 4 (.slice a ts.length cap) ts.length xs) (hr : z0i w (S24 w) ts xs) {k : Nat} {t : Tree} (ht : ts[k]? = some t) :
  ∃ (g : Nat) (e1 e2 : Int) (e3 : ByteArray) (e4 : Option Addr) (e5 e6 : Nat), a = some ⟨g, 0, none⟩ /\ Rep w (S24 w) t (.agg #[.int .i64 e1, .int .i64 e2, .string e3, .slice e4 e5 e6]) /\
   ∀ wr, K24 w wr -> g < wr.heap.size /\ wr.cell? ⟨g, k * 4, none⟩ = some (.int .i64 e1) /\ wr.cell? ⟨g, k * 4 + 1, none⟩ = some (.int .i64 e2) /\ wr.cell? ⟨g, k * 4 + 2, none⟩ = some (.string e3) /\ wr.cell? ⟨g, k * 4 + 3, none⟩ = some (.slice e4 e5 e6) := by
 have h := (List.getElem?_eq_some_iff.1 ht).1;obtain ⟨c0, c1, c2, c3, x0, x1, x2, x3, f⟩ := z0i.get ts xs k t hr ht
 obtain ⟨g, rfl⟩ : ∃ g, a = some ⟨g, 0, none⟩ := by
  rcases ho.2 with ⟨-, h0⟩ | ⟨g, cap, c, hv, -⟩
  ·omega
  ·injection hv with hv; exact ⟨g, hv⟩
 obtain ⟨e1, e2, e3, e4, e5, e6, b⟩ := Rep.cells _ _ f
 injection b with b
 injection b with b
 injection b with h0 b
 injection b with h1 b
 injection b with h2 b
 injection b with h3 b
 subst h0 h1 h2 h3;refine ⟨g, e1, e2, e3, e4, e5, e6, rfl, f, fun wr hk => ?_⟩;have d : wr.ownsRow 0 88 4 (.slice (some ⟨g, 0, none⟩) ts.length cap) ts.length xs := z0d ho (fun g' hg' => by obtain ⟨c, hc⟩ := own24 ho g' hg'; exact (hk g' c hc).trans hc.symm);obtain ⟨c, hc⟩ := own24 ho g rfl;exact ⟨z04 (hk g c hc), z1k d x0, z1k d x1, z1k d x2, z1k d x3⟩
def z6a (t : Tree) : Prop := ∀ (w : World) (v : Value) (m : Int), Rep w (S24 w) t v -> (nodes t : Int) <= m -> m <= 4001 -> Calls Tryz.prog 137 #[v, .int .i64 m] w fun e w' => e = .returned (.int .i64 (nodes t)) /\ Below w.heap.size w w'
theorem z7c {t : Tree} (hts : ∀ u, u ∈ kids t -> z6a u) : z6a t := by
 intro w v m hrep hm hm2;obtain ⟨kd, n0, b0, a, l, xs, rfl, ho, hr⟩ := z8w hrep;have c := z4f t;have B := z1x (kids t);rw [c] at hm;have x := hid c;have HT := hid hts;have HO := hid ho;have HR := hid hr;clear hts ho hr hrep c
 generalize hks : kids t = ts at *
 clear hks
 go_enter Tryz.func137, Tryz.ntmps137
 go_wp2;have o : Below w.heap.size w (w.alloc (.cells #[.int .i64 kd, .int .i64 n0, .string b0, .slice a ts.length l] 88)) := z03 w _
 generalize w.alloc (.cells #[.int .i64 kd, .int .i64 n0, .string b0, .slice a ts.length l] 88) = W at *
 go_loopw [5, 11] (fun n i wr => ∃ k N : Nat, k <= ts.length /\ n = .int .i64 N /\ i = .int .i64 k /\ Hid (N = 1 + z0s (ts.take k)) /\ Hid (Below w.heap.size w wr)) (fun _ i _ => ts.length - (intOf i).toNat)
 case atStart => exact ⟨0, 1, Nat.zero_le _, rfl, rfl, hid (by rw [List.take_zero, z0s]), hid o⟩
 case round =>
  clear o;obtain ⟨k, N, hk, rfl, rfl, HN, HB⟩ := hrel;have p := z7a ts k;have j := HN.out
  by_cases hlt : k < ts.length
  ·have d := List.getElem?_eq_getElem hlt
   obtain ⟨g, e1, e2, e3, e4, e5, e6, rfl, f, b⟩ := ze2 HO.out HR.out d;have h := K24.below HB.out;obtain ⟨hg, p0, p1, p2, p3⟩ := b wr h;have y := zcf d;have q := z7a ts (k + 1)
   have C : (N : Int) < m := by have := z79 ts[k]; omega
   have c : (nodes ts[k] : Int) <= m - N := by omega
   have HC : Hid (∀ W, K24 wr W -> Calls Tryz.prog 137 #[.agg #[.int .i64 e1, .int .i64 e2, .string e3, .slice e4 e5 e6], .int .i64 (m - N)] W fun e w' => e = .returned (.int .i64 (nodes ts[k])) /\ Below W.heap.size W w') :=
    hid (fun W hW => HT.out ts[k] (List.getElem_mem hlt) W _ _ (f.k24 (h.trans hW)) c (by omega))
   have z : Hid (N + nodes ts[k] = 1 + z0s (ts.take (k + 1))) := hid (by omega)
   have hb : N + nodes ts[k] <= 4001 := by omega
   clear b f h y q d c j p
   generalize nodes ts[k] = nk at *
   go_wp2_with fail
   refine (HC.out _ ((K24.refl _).alloc _)).mono ?_;rintro e w2 ⟨rfl, r⟩;have A : Hid (Below w.heap.size w w2) := hid ((HB.out.trans ((z03 wr _).mono HB.out.size)).trans (r.mono (by have := HB.out.size; simp; omega)));clear r p0 p1 p2 p3;go_wp2;go_roundw
   case rel => exact ⟨k + 1, N + nk, by omega, by go_num, by go_num, z, A⟩
   case measure => simp [intOf]; omega
  ·have s : N = 1 + z0s ts := by rw [j, List.take_of_length_le (by omega)]
   have D : ¬ m < (N : Int) := by omega
   have HE : Hid ((N : Int) = (nodes t : Int)) := hid (by rw [s, x.out]);clear s j;go_wp2;go_ret;exact ⟨by rw [HE.out]; rfl, HB.out⟩
mutual
theorem zh3 : ∀ t : Tree, z6a t
 | .num n => z7c (fun u hu => by cases hu)
 | .text bs => z7c (fun u hu => by cases hu)
 | .list ts => z7c (zdw ts)
theorem zdw : ∀ ts : List Tree, ∀ t, t ∈ ts -> z6a t
 | [], t, ht => by cases ht
 | u :: ts, t, ht => by
  rcases List.mem_cons.1 ht with h' | h'
  ·rw [h']; exact zh3 u
  ·exact zdw ts t h'
end
def z6c (t : Tree) : Prop := ∀ (w : World) (v : Value) (m : Int), Rep w (S24 w) t v -> (dep t : Int) < m -> m <= 31 -> nodes t <= 4000 -> Calls Tryz.prog 138 #[v, .int .i64 m] w fun e w' => e = .returned (.int .i64 (dep t)) /\ Below w.heap.size w w'
theorem z7j {t : Tree} (hts : ∀ u, u ∈ kids t -> z6c u) : z6c t := by
 intro w v m hrep hm hm2 hn;obtain ⟨kd, n0, b0, a, l, xs, rfl, ho, hr⟩ := z8w hrep;have o := z4f t;have D := z1x (kids t);have j := dep_kids t;rw [j] at hm;rw [o] at hn;have B := hid j;have HT := hid hts;have HO := hid ho;have HR := hid hr;clear hts ho hr hrep o j
 generalize hks : kids t = ts at *
 clear hks
 go_enter Tryz.func138, Tryz.ntmps138
 go_wp2;have p : Below w.heap.size w (w.alloc (.cells #[.int .i64 kd, .int .i64 n0, .string b0, .slice a ts.length l] 88)) := z03 w _
 generalize w.alloc (.cells #[.int .i64 kd, .int .i64 n0, .string b0, .slice a ts.length l] 88) = W at *
 go_loopw [5, 15] (fun n i wr => ∃ k N : Nat, k <= ts.length /\ n = .int .i64 N /\ i = .int .i64 k /\ Hid (N = depL (ts.take k)) /\ Hid (Below w.heap.size w wr)) (fun _ i _ => ts.length - (intOf i).toNat)
 case atStart => exact ⟨0, 0, Nat.zero_le _, rfl, rfl, hid (by rw [List.take_zero, depL]), hid p⟩
 case round =>
  clear p;obtain ⟨k, N, hk, rfl, rfl, HN, HB⟩ := hrel;have q := zii ts k;have h := HN.out
  by_cases hlt : k < ts.length
  ·have c := List.getElem?_eq_getElem hlt
   obtain ⟨g, e1, e2, e3, e4, e5, e6, rfl, d, b⟩ := ze2 HO.out HR.out c;have f := K24.below HB.out;obtain ⟨hg, p0, p1, p2, p3⟩ := b wr f;have r := zih c;have s := zii ts (k + 1);have C := z5h (List.getElem_mem hlt)
   have HC : Hid (∀ W, K24 wr W -> Calls Tryz.prog 138 #[.agg #[.int .i64 e1, .int .i64 e2, .string e3, .slice e4 e5 e6], .int .i64 (m - 1)] W fun e w' => e = .returned (.int .i64 (dep ts[k])) /\ Below W.heap.size W w') :=
    hid (fun W hW => HT.out ts[k] (List.getElem_mem hlt) W _ _ (d.k24 (f.trans hW)) (by omega) (by omega) (by omega))
   have x : Hid (max N (dep ts[k]) = depL (ts.take (k + 1))) := hid (by rw [r, h])
   have hb : (N : Int) < m - 1 := by omega
   have E : (dep ts[k] : Int) < m - 1 := by omega
   clear b d f r s c C h q
   generalize dep ts[k] = nk at *
   go_wp2_with fail
   refine (HC.out _ ((K24.refl _).alloc _)).mono ?_;rintro e w2 ⟨rfl, y⟩;have z : Hid (Below w.heap.size w w2) := hid ((HB.out.trans ((z03 wr _).mono HB.out.size)).trans (y.mono (by have := HB.out.size; simp; omega)));clear y p0 p1 p2 p3
   by_cases hgt : (N : Int) < (nk : Int)
   ·go_wp2
    go_roundw
    case rel => exact ⟨k + 1, nk, by omega, by go_num, by go_num, hid (by rw [<- x.out]; omega), z⟩
    case measure => simp [intOf]; omega
   ·go_wp2
    go_roundw
    case rel => exact ⟨k + 1, N, by omega, by go_num, by go_num, hid (by rw [<- x.out]; omega), z⟩
    case measure => simp [intOf]; omega
  ·have A : N = depL ts := by rw [h, List.take_of_length_le (by omega)]
   have HE : Hid ((N : Int) + 1 = (dep t : Int)) := hid (by rw [B.out, A]; omega)
   have F : (N : Int) < 31 := by omega
   clear A h;go_wp2;go_ret;exact ⟨by rw [HE.out]; rfl, HB.out⟩
mutual
theorem zil : ∀ t : Tree, z6c t
 | .num n => z7j (fun u hu => by cases hu)
 | .text bs => z7j (fun u hu => by cases hu)
 | .list ts => z7j (zeo ts)
theorem zeo : ∀ ts : List Tree, ∀ t, t ∈ ts -> z6c t
 | [], t, ht => by cases ht
 | u :: ts, t, ht => by
  rcases List.mem_cons.1 ht with h' | h'
  ·rw [h']; exact zil u
  ·exact zeo ts t h'
end

set_option maxHeartbeats 1600000
set_option maxRecDepth 100000
theorem z26 {w w1 w2 : World} (h1 : Below w.heap.size w w1) (h2 : Below w1.heap.size w1 w2) : Below w.heap.size w w2 := h1.trans (h2.mono h1.size)
def z2o (t : Tree) : Prop := ∀ (w : World) (v : Value), Rep w (S24 w) t v -> nodes t <= 4000 -> Calls Tryz.prog 139 #[v] w fun e w' => e = .returned (.bool true) /\ Below w.heap.size w w'
theorem zbv {ts : List Tree} (hts : ∀ u, u ∈ ts -> z2o u) : z2o (.list ts) := by
 intro w v hrep hn;rw [Rep] at hrep;obtain ⟨L, xs, rfl, ho, -, hr⟩ := hrep
 obtain ⟨a, n, b, rfl, p⟩ : ∃ a n b, L = .slice a n b /\ n = ts.length := by
  rcases ho.2 with ⟨rfl, h0⟩ | ⟨g, b, cur, rfl, -⟩
  ·exact ⟨_, _, _, rfl, h0.symm⟩
  ·exact ⟨_, _, _, rfl, rfl⟩
 subst p;have t := z1x ts;rw [nodes] at hn;have HT := hid hts;have HO := hid ho;have HR := hid hr;clear hts ho hr
 go_enter Tryz.func139, Tryz.ntmps139
 go_wp2;have l : Below w.heap.size w (w.alloc (.cells #[.int .i64 3, .int .i64 0, .string ⟨#[]⟩, .slice a ts.length b] 88)) := z03 w _;have m : (w.alloc (.cells #[.int .i64 3, .int .i64 0, .string ⟨#[]⟩, .slice a ts.length b] 88)).heap[w.heap.size]? = some (.cells #[.int .i64 3, .int .i64 0, .string ⟨#[]⟩, .slice a ts.length b] 88 (0, 0)) := heap_alloc_new _ _
 generalize w.alloc (.cells #[.int .i64 3, .int .i64 0, .string ⟨#[]⟩, .slice a ts.length b] 88) = W at *
 go_loopw [34] (fun i wr => ∃ k : Nat, k <= ts.length /\ i = .int .i64 k /\ Hid (Below w.heap.size w wr) /\ Hid (wr.heap[w.heap.size]? = some (.cells #[.int .i64 3, .int .i64 0, .string ⟨#[]⟩, .slice a ts.length b] 88 (0, 0)))) (fun i _ => ts.length - (intOf i).toNat)
 case atStart => exact ⟨0, Nat.zero_le _, rfl, hid l, hid m⟩
 case round =>
  clear l m;obtain ⟨k, hk, rfl, HB, HX⟩ := hrel
  by_cases hlt : k < ts.length
  ·have h := List.getElem?_eq_getElem hlt
   obtain ⟨g, e1, e2, e3, e4, e5, e6, rfl, d, c⟩ := ze2 HO.out HR.out h;have f := K24.below HB.out;obtain ⟨hg, p0, p1, p2, p3⟩ := c wr f;have q := z5h (List.getElem_mem hlt)
   have HC : Hid (∀ W, K24 wr W -> Calls Tryz.prog 139 #[.agg #[.int .i64 e1, .int .i64 e2, .string e3, .slice e4 e5 e6]] W fun e w' => e = .returned (.bool true) /\ Below W.heap.size W w') :=
    hid (fun W hW => HT.out ts[k] (List.getElem_mem hlt) W _ (d.k24 (f.trans hW)) (by omega))
   clear c d f h q
   go_wp2_with fail
   refine (HC.out _ ((K24.refl _).alloc _)).mono ?_;rintro e w2 ⟨rfl, o⟩;have j := hid (z26 (z03 wr (.cells #[.int .i64 e1, .int .i64 e2, .string e3, .slice e4 e5 e6] 88)) o);have r : Hid (Below w.heap.size w w2) := hid (HB.out.trans (j.out.mono HB.out.size));have s : Hid (w2.heap[w.heap.size]? = some (.cells #[.int .i64 3, .int .i64 0, .string ⟨#[]⟩, .slice (some ⟨g, 0, none⟩) ts.length b] 88 (0, 0))) := hid ((j.out.block _ (z04 HX.out)).trans HX.out);clear o p0 p1 p2 p3;go_wp2;go_roundw
   case rel => exact ⟨k + 1, by omega, by go_num, r, s⟩
   case measure => simp [intOf]; omega
  ·have x1 : wr.cell? ⟨w.heap.size, 1, none⟩ = some (.int .i64 0) := by simp [World.cell?, HX.out]
   have x2 : wr.cell? ⟨w.heap.size, 2, none⟩ = some (.string ⟨#[]⟩) := by simp [World.cell?, HX.out]
   go_wp2;go_ret;exact ⟨rfl, HB.out⟩
theorem z6z {t : Tree} (hk : ∀ ts, t ≠ .list ts) : z2o t := by
 intro w v hrep _
 cases t with
 | num n =>
  rw [Rep] at hrep; subst hrep
  go_enter Tryz.func139, Tryz.ntmps139
  go_wp2;go_ret;exact ⟨rfl, z03 _ _⟩
 | text bs =>
  rw [Rep] at hrep; subst hrep
  go_enter Tryz.func139, Tryz.ntmps139
  go_wp2;go_ret;exact ⟨rfl, z03 _ _⟩
 | list ts => exact absurd rfl (hk ts)
mutual
theorem za7 : ∀ t : Tree, z2o t
 | .num n => z6z (fun ts h => by cases h)
 | .text bs => z6z (fun ts h => by cases h)
 | .list ts => zbv (z82 ts)
theorem z82 : ∀ ts : List Tree, ∀ t, t ∈ ts -> z2o t
 | [], t, ht => by cases ht
 | u :: ts, t, ht => by
  rcases List.mem_cons.1 ht with h' | h'
  ·rw [h']; exact za7 u
  ·exact z82 ts t h'
end
theorem z2p {t : Tree} {v : Value} {w : World} (hrep : Rep w (S24 w) t v) (hlev : Lev 1 t) (hn : nodes t <= 4000) : Calls Tryz.prog 94 #[v] w fun e w' => e = .returned (.int .i64 0) /\ Below w.heap.size w w' := by
 have k := zig t 1 hlev;obtain ⟨kd, n0, b0, a, len, b, rfl⟩ := Rep.cells t v hrep;have H1 := hid (fun (W : World) (hb : Below w.heap.size w W) => zh3 t W _ 4001 (hrep.k24 (K24.below hb)) (by omega) (by omega));have H2 := hid (fun (W : World) (hb : Below w.heap.size w W) => zil t W _ 31 (hrep.k24 (K24.below hb)) (by omega) (by omega) hn);have H3 := hid (fun (W : World) (hb : Below w.heap.size w W) => za7 t W _ (hrep.k24 (K24.below hb)) hn);clear hrep hlev
 have h1 : ¬ 4000 < (nodes t : Int) := by omega
 have h2 : ¬ 30 < (dep t : Int) := by omega
 go_enter Tryz.func94, Tryz.ntmps94
 go_wp2_with fail
 refine (H1.out _ ((Below.refl _ _).alloc (Nat.le_refl _) _)).mono ?_;rintro e w1 ⟨rfl, d⟩;have HX : Hid (w1.heap[w.heap.size]? = some (.cells #[.int .i64 kd, .int .i64 n0, .string b0, .slice a len b] 88 (0, 0))) := hid ((d.block _ (by simp)).trans (heap_alloc_new _ _));have g : Hid (Below w.heap.size w w1) := hid (z26 (z03 w _) d);clear d
 have c0 : w1.cell? ⟨w.heap.size, 0, none⟩ = some (.int .i64 kd) := by simp [World.cell?, HX.out]
 have c1 : w1.cell? ⟨w.heap.size, 1, none⟩ = some (.int .i64 n0) := by simp [World.cell?, HX.out]
 have c2 : w1.cell? ⟨w.heap.size, 2, none⟩ = some (.string b0) := by simp [World.cell?, HX.out]
 have c3 : w1.cell? ⟨w.heap.size, 3, none⟩ = some (.slice a len b) := by simp [World.cell?, HX.out]
 go_wp2_with fail
 refine (H2.out _ g.out).mono ?_;rintro e w2 ⟨rfl, f⟩;have c : Hid (w2.heap[w.heap.size]? = some (.cells #[.int .i64 kd, .int .i64 n0, .string b0, .slice a len b] 88 (0, 0))) := hid ((f.block _ (z04 HX.out)).trans HX.out);have h : Hid (Below w.heap.size w w2) := hid (z26 g.out f);clear f c0 c1 c2 c3
 have c0 : w2.cell? ⟨w.heap.size, 0, none⟩ = some (.int .i64 kd) := by simp [World.cell?, c.out]
 have c1 : w2.cell? ⟨w.heap.size, 1, none⟩ = some (.int .i64 n0) := by simp [World.cell?, c.out]
 have c2 : w2.cell? ⟨w.heap.size, 2, none⟩ = some (.string b0) := by simp [World.cell?, c.out]
 have c3 : w2.cell? ⟨w.heap.size, 3, none⟩ = some (.slice a len b) := by simp [World.cell?, c.out]
 go_wp2_with fail
 refine (H3.out _ h.out).mono ?_;rintro e w3 ⟨rfl, i⟩;have j : Hid (Below w.heap.size w w3) := hid (z26 h.out i);clear i;go_wp2;go_ret;exact ⟨rfl, j.out⟩
end Go.Proofs.YtdkkkeoicekdgaaGreatDoor.Co

end

section

namespace Go.Proofs.YtdkkkeoicekdgaaGreatDoor.Co
set_option maxRecDepth 100000
open Go.RowKit Go.Lib
theorem zjc (s : ByteArray) : s.data.toList.length = s.size := by simp
theorem infoB : (Tryz.prog.info? 5).map (fun i => (i.zero, i.size, i.bytes)) = some (some (.int .u8 0), 1, 1) := by kernel_rfl
def OwnM (w : World) (base : Nat) (v : Value) (xs : List Value) : Prop :=
 ∃ g cap cur lo hi, v = .slice (some ⟨g, 0, none⟩) xs.length cap /\ base <= g /\ w.heap[g]? = some (.cells cur 5 (lo, hi)) /\ (∀ i, i < cur.size -> ¬ (lo <= i /\ i < hi)) /\ xs.length <= cap /\ cap <= maxLen /\ cur.size = cap /\ cur.toList.take xs.length = xs
theorem OwnM.lt {w : World} {base : Nat} {v : Value} {xs : List Value} (h : OwnM w base v xs) (g : Nat) (hg : v.ownBlock = some g) : base <= g /\ g < w.heap.size := by
 obtain ⟨g1, a, b, lo, hi, rfl, hb, hh, -⟩ := h;obtain rfl : g1 = g := Option.some.inj hg;exact ⟨hb, (Array.getElem?_eq_some_iff.1 hh).1⟩
theorem OwnM.below {w w' : World} {base : Nat} {v : Value} {xs : List Value} (h : OwnM w base v xs) (hb : Below w.heap.size w w') : OwnM w' base v xs := by
 obtain ⟨g, a, b, lo, hi, hv, c, hh, hr⟩ := h;exact ⟨g, a, b, lo, hi, hv, c, (hb.block g (Array.getElem?_eq_some_iff.1 hh).1).trans hh, hr⟩
theorem OwnM.slice {w : World} {base : Nat} {v : Value} {xs : List Value} (h : OwnM w base v xs) : ∃ g cap, v = .slice (some ⟨g, 0, none⟩) xs.length cap /\ base <= g /\ g < w.heap.size /\ xs.length <= cap := by
 obtain ⟨g, cap, a, lo, hi, hv, hb, hh, -, hc, -⟩ := h;exact ⟨g, cap, hv, hb, (Array.getElem?_eq_some_iff.1 hh).1, hc⟩
theorem OwnM.cell {w : World} {base g n cap : Nat} {xs : List Value} (h : OwnM w base (.slice (some ⟨g, 0, none⟩) n cap) xs) {j : Nat} {u : Value} (hj : xs[j]? = some u) : w.cell? ⟨g, j, none⟩ = some u := by
 obtain ⟨g1, b, a, lo, hi, hv, hb, hh, -, hc, -, hs, ht⟩ := h;obtain ⟨h3, -, -⟩ := Value.slice.inj hv
 obtain rfl : g = g1 := by injection h3 with h; injection h
 have h1 : (a.toList.take xs.length)[j]? = some u := by rw [ht]; exact hj
 rw [List.getElem?_take] at h1
 split at h1
 ·rw [Array.getElem?_toList] at h1
  simp [World.cell?, hh, h1]
 ·cases h1
section
variable {P : Program}
theorem z71 (w : World) (base : Nat) (t ty : TypeId) (i : TypeInfo) (ht : P.underlying t = some (.slice 5)) (hi : P.info? 5 = some i) (hz : i.zero = some (.int .u8 0)) (hsize : i.size = 1) (hby : i.bytes = 1)
  (v : Value) (xs : List Value) (hM : OwnM w base v xs) (ad : Addr) (u : Value) (c : Nat) (hnews : w.cell? (ad.add 0) = some u) (h1 : u.oneCell' = true) (hn : xs.length + 1 <= 140737488355328) (hbase : base <= w.heap.size) :
  ∃ v' w', (Builtin.append_ #[t, t] ty #[v, .slice (some ad) 1 c]).run P w = .ok v' w' /\ OwnM w' base v' (xs ++ [u]) /\ w.grownBy w' v.ownBlock := by
 have m := hM;obtain ⟨g, a, n, lo, o, rfl, hb, hh, d, hc, p, hs, q⟩ := hM;have s := (Array.getElem?_eq_some_iff.1 hh).1
 have f : ∀ j v, [u][j]? = some v -> w.cell? (ad.add j) = some v := fun j v hv => by
  cases j with
  | zero => rw [<- Option.some.inj hv]; exact hnews
  | succ j => cases hv
 by_cases hroom : xs.length + 1 <= a
 ·have hf := run_firstCells_some (P := P) w i.size 1 ad 1 c [u] (by rw [hsize]; rfl) f
  have h := run_storeCells_cells (P := P) g xs.length [u] 0 w (fun j hj => by
    have : j = 0 := by simpa using hj
    subst this
    simp [World.cell?, hh]
    omega) (fun j hj => by
    have : j = 0 := by simpa using hj
    subst this;have := d xs.length (by omega)
    simp [World.frozen?, hh]
    omega) (fun v hv => by rw [List.mem_singleton.1 hv]; exact h1)
  simp only [Nat.add_zero] at h;refine ⟨.slice (some ⟨g, 0, none⟩) (xs.length + 1) a, w.setCells g xs.length [u], ?_, ⟨g, a, n.set! xs.length u, lo, o, by simp, hb, ?_, by simpa using d, by simpa using hroom, p, by simpa using hs, ?_⟩, ⟨rfl, rfl, rfl, by simp [World.setCells, World.setCell], fun k hk hne => ?_⟩⟩
  ·rw [hsize] at hf
   simp [Builtin.append_, run_underlying ht, sizeOf, typeInfo, hi, Builtin.lenOf, hroom, hf, Addr.add_lit, hsize, h]
  ·simp [World.setCells, World.setCell, Array.getElem?_modify, hh]
  ·rw [List.length_append, List.length_singleton, Array.set!_eq_setIfInBounds, Array.toList_setIfInBounds, List.take_set, List.take_add_one, q]
   rw [List.getElem?_eq_getElem (by simp; omega), Option.toList_some, List.set_append_right _ _ (Nat.le_refl _)]
   simp
  ·simp only [World.setCells]
   exact Below.heap_setCell _ _ _ _ (fun e => hne (by rw [e]; rfl))
 ·have b : ∀ j v, xs[j]? = some v -> w.cell? ((⟨g, 0, none⟩ : Addr).add j) = some v := fun j v hv => by
   rw [Addr.add_mid, Nat.zero_add];exact m.cell hv
  have hr := run_append_grow (P := P) w t ty 5 i (.int .u8 0) ht hi hz ⟨g, 0, none⟩ xs.length a xs (by rw [hsize, Nat.mul_one]) b ad 1 c [u] (by rw [hsize]; rfl) f (by omega) (by omega) (growslice_fits (by omega) (by rw [hby]; omega));have r := grownCap_ge w (xs.length + 1) a 5;have l : grownCap w (xs.length + 1) a 5 <= maxLen := grownCap_le_maxLen w (xs.length + 1) a 5 (by unfold maxLen; omega);refine ⟨_, _, hr, ⟨w.heap.size, grownCap w (xs.length + 1) a 5, _, 0, 0, by simp, hbase, heap_alloc_new w.drew _, fun i _ => by omega, by simpa using r, l, ?_, ?_⟩, ⟨rfl, rfl, rfl, by simp, fun k hk _ => heap_alloc_old w.drew _ hk⟩⟩
  ·simp only [Array.size_append, List.size_toArray, size_zeroCells]
   show xs.length + 1 + (grownCap w (xs.length + 1) a 5 - (xs.length + 1)) * 1 = _
   omega
  ·simp only [Array.toList_append]
   rw [List.take_append_of_le_length (by simp), List.take_of_length_le (by simp)]
theorem z54 {w : World} {ops : Array Oper} {rest : List Oper} {o : Oper} {a : Act} {Q : Exit -> Act -> World -> Prop} (hgd : o.guard = none) (s x : Operand) (t : TypeId)
  (ho : o.op = .call { callee := .builtin .append, args := #[s, x], argTypes := #[t, t] }) (base : Nat) (i : TypeInfo) (ht : P.underlying t = some (.slice 5)) (hi : P.info? 5 = some i) (hz : i.zero = some (.int .u8 0)) (hsize : i.size = 1) (hby : i.bytes = 1)
  (v : Value) (xs : List Value) (hs : a.eval s = v) (hM : OwnM w base v xs) (ad : Addr) (u : Value) (c : Nat) (hx : a.eval x = .slice (some ad) 1 c) (hnews : w.cell? (ad.add 0) = some u) (h1 : u.oneCell' = true) (hn : xs.length + 1 <= 140737488355328) (hbase : base <= w.heap.size)
  (h : ∀ v' w', OwnM w' base v' (xs ++ [u]) -> w.grownBy w' v.ownBlock -> wpList P ops Q rest (a.put o.dst v') w') : wpList P ops Q (o :: rest) a w := by
 refine wpList_plain hgd fun K hK => ?_
 obtain ⟨v', w', hr, h2, h3⟩ := z71 (P := P) w base t o.type i ht hi hz hsize hby v xs hM ad u c hnews h1 hn hbase
 unfold Oper.wp execOp
 simp only [ho, resolve, invoke, builtin, Sem.run_bind, Sem.run_pure, Result.andThen_ok, List.map_toArray, List.map_cons, List.map_nil, hs, hx, hr];exact hK _ _ (h v' w' h2 h3)
end
abbrev OwnB (w : World) (B : Nat) (v : Value) (l : List UInt8) : Prop := w.ownsRow B 5 1 v l.length (Lib.byteCells l)
def OwnX (w : World) (B : Nat) (v : Value) (l : List UInt8) : Prop :=
 (OwnB w B v l /\ v ≠ .slice none 0 0) ∨ ∃ g c, v = .slice (some ⟨g, 0, none⟩) 1 1 /\ B <= g /\ w.heap[g]? = some (.cells #[c] 5 (1, 2)) /\ l.length = 1 /\ Lib.byteCells l = [c]
theorem OwnX.below {w w' : World} {B : Nat} {v : Value} {l : List UInt8} (h : OwnX w B v l) (hb : Below w.heap.size w w') : OwnX w' B v l := by
 rcases h with ⟨h, hn⟩ | ⟨g, c, hv, hB, hh, hl⟩
 ·exact .inl ⟨z0d h (fun g hg => hb.block g (h.lt g hg).2), hn⟩
 ·exact .inr ⟨g, c, hv, hB, (hb.block g (z04 hh)).trans hh, hl⟩
theorem OwnX.lt {w : World} {B : Nat} {v : Value} {l : List UInt8} (h : OwnX w B v l) (g : Nat) (hg : v.ownBlock = some g) : B <= g /\ g < w.heap.size := by
 rcases h with ⟨h, -⟩ | ⟨g', c, rfl, hB, hh, -⟩
 ·exact h.lt g hg
 ·obtain rfl : g' = g := Option.some.inj hg
  exact ⟨hB, z04 hh⟩
theorem OwnX.slice {w : World} {B : Nat} {v : Value} {l : List UInt8} (h : OwnX w B v l) : ∃ a cap, v = .slice a l.length cap := by
 rcases h with ⟨h, -⟩ | ⟨g, c, rfl, -, -, hl, -⟩
 ·rcases h.2 with ⟨rfl, h0⟩ | ⟨g, cap, cur, rfl, -⟩
  ·exact ⟨none, 0, by rw [h0]⟩
  ·exact ⟨_, cap, rfl⟩
 ·exact ⟨_, 1, by rw [hl]⟩
theorem OwnX.mark {w : World} {B : Nat} {v : Value} {l : List UInt8} (h : OwnX w B v l) : OwnM w B v (Lib.byteCells l) := by
 have a : (Lib.byteCells l).length = l.length := Lib.byteCells_length l
 rcases h with ⟨h, hn⟩ | ⟨g, c, rfl, hB, hh, hl, hc⟩
 ·rcases h.2 with ⟨rfl, -⟩ | ⟨g, cap, cur, rfl, hb, hh, h1, h2, h3, h4⟩
  ·exact absurd rfl hn
  ·exact ⟨g, cap, cur, 0, 0, by rw [a], hb, hh, fun i _ => by omega, by rw [a]; exact h1, h2, by rw [h3, Nat.mul_one], by rw [a]; rw [Nat.mul_one] at h4; exact h4⟩
 ·refine ⟨g, 1, #[c], 1, 2, by rw [a, hl], hB, hh, fun i hi => ?_, by rw [a, hl]; exact Nat.le_refl _, by decide, rfl, by rw [hc]; rfl⟩
  have : i < 1 := hi
  omega
theorem zh2 {w : World} {B : Nat} {a : Option Addr} {n cap : Nat} {l : List UInt8} (h : OwnM w B (.slice a n cap) (Lib.byteCells l)) : (convert 115 9 (.slice a n cap)).run Tryz.prog w = .ok (.string ⟨l.toArray⟩) w := by
 have hM := h;obtain ⟨g, c, d, lo, hi, hv, -⟩ := h
 injection hv with h1 h2 h3
 subst h1 h3;have b : (Lib.byteCells l).length = l.length := Lib.byteCells_length l;rw [b] at h2;subst h2;refine run_convert_bytes_back (P := Tryz.prog) w 115 9 5 ⟨g, 0, none⟩ cap l Tryz.underlying115 Tryz.underlying5 Tryz.underlying9 (fun j hj => ?_);rw [Addr.add_mid, Nat.zero_add];exact hM.cell (by simp [Lib.byteCells, hj])
theorem appX_str (w : World) (B : Nat) (ty : TypeId) (v : Value) (l : List UInt8) (hX : OwnX w B v l) (s : ByteArray) (hs : 1 <= s.size) (hl : l.length + s.size <= 140737488355328) (hbase : B <= w.heap.size) :
  ∃ v' w', (Builtin.append_ #[115, 9] ty #[v, .string s]).run Tryz.prog w = .ok v' w' /\ OwnX w' B v' (l ++ s.data.toList) /\ w.grownBy w' v.ownBlock := by
 obtain ⟨i0, hi, d, a, f⟩ := info_parts infoB
 have e : Lib.byteCells (l ++ s.data.toList) = Lib.byteCells l ++ Lib.strCells s := by simp [Lib.byteCells, Lib.strCells]
 have e2 : (l ++ s.data.toList).length = l.length + s.size := by rw [List.length_append, zjc]
 rcases hX with ⟨hX, hn⟩ | ⟨g, c, rfl, hB, hh, hl1, hc⟩
 ·obtain ⟨v', w', hr, h2, h3, h4⟩ := run_append_own_string (P := Tryz.prog) w B 115 9 ty 5 i0 Tryz.underlying115 Tryz.underlying9 hi d a f v l.length _ hX s (by unfold maxLen; omega) hl hbase
  exact ⟨v', w', hr, .inl ⟨by unfold OwnB; rw [e, e2]; exact h2, fun hv => hn (h4.1 hv).1⟩, h3⟩
 ·have b : ∀ j u, [c][j]? = some u -> w.cell? ((⟨g, 0, none⟩ : Addr).add j) = some u := fun j u hu => by
   rw [Addr.add_mid, Nat.zero_add]
   match j, hu with
   | 0, hu => simp [World.cell?, hh]; simpa using hu
  have hr := run_append_grow_string (P := Tryz.prog) w 115 9 ty 5 i0 (.int .u8 0) Tryz.underlying115 Tryz.underlying9 hi d ⟨g, 0, none⟩ 1 1 [c] (by rw [a]; rfl) b s (by omega) (by omega) (by rw [f]; exact growslice_fits (by omega) (by omega));have h := grownCap_ge w (1 + s.size) 1 5;have i : grownCap w (1 + s.size) 1 5 <= maxLen := grownCap_le_maxLen w (1 + s.size) 1 5 (by unfold maxLen; omega);refine ⟨_, _, hr, .inl ⟨?_, by simp⟩, ⟨rfl, rfl, rfl, by simp, fun k hk _ => heap_alloc_old w.drew _ hk⟩⟩
  unfold OwnB
  rw [e, e2, hl1, hc];refine ⟨by simp [Lib.strCells_length]; omega, .inr ⟨w.heap.size, _, _, rfl, hbase, heap_alloc_new w.drew _, h, i, ?_, ?_⟩⟩
  ·have a : (Value.int IntKind.u8 0).cells.size = 1 := rfl
   simp only [Array.size_append, List.size_toArray, size_zeroCells, a, Lib.strCells_length, List.length_cons, List.length_nil]
   omega
  ·simp only [Array.toList_append]
   rw [List.take_append_of_le_length (by simp [Lib.strCells_length]; omega), List.take_of_length_le (by simp [Lib.strCells_length]; omega)]
end Go.Proofs.YtdkkkeoicekdgaaGreatDoor.Co

end

section

namespace Go.Proofs.YtdkkkeoicekdgaaGreatDoor.Co
set_option maxHeartbeats 3200000
set_option maxRecDepth 100000
open Go.Lib (hid)
open Go.RowKit
abbrev TabW (w : World) : Prop := Lib.TabIs Tryz.prog w "internal/strconv.uint64pow10" .u64 Lib.pow10Tab
theorem TabW.below {w w' : World} (h : TabW w) (hb : Below w.heap.size w w') : TabW w' := Lib.tabBelow_of_tabIs h w' hb
theorem TabW.tb {w : World} (h : TabW w) : Lib.TabBelow Tryz.prog w.heap.size w "internal/strconv.uint64pow10" .u64 Lib.pow10Tab := Lib.tabBelow_of_tabIs h
theorem BA_ext {a b : ByteArray} (h : a.data.toList = b.data.toList) : a = b := by
 cases a; cases b; simp at h; rw [ByteArray.mk.injEq]; exact h
theorem ret_s {s t : ByteArray} (h : s = t) : Ending.returned (.string s) = .returned (.string t) := by rw [h]
theorem cat3 (a b c : ByteArray) (l : List UInt8) (h : l = a.data.toList ++ (b.data.toList ++ c.data.toList)) : a ++ b ++ c = ⟨l.toArray⟩ := BA_ext (by subst h; simp)
def z4l (t : Tree) : Prop := ∀ (w : World) (v : Value), Rep w (S24 w) t v -> nodes t <= 4000 -> (enc t).length <= 100000000000 -> TabW w -> Calls Tryz.prog 95 #[v] w fun e w' => e = .returned (.string ⟨(enc t).toArray⟩) /\ Below w.heap.size w w'
theorem zfb (n : Int) (h0 : -9223372036854775808 <= n) (h1 : n <= 9223372036854775807) : z4l (.num n) := by
 intro w v hrep _ _ htab
 rw [Rep] at hrep; subst hrep
 have b := Lib.itoa_length_le n h0 h1;have HF : Hid (∀ W, Below w.heap.size w W -> Calls Tryz.prog 92 #[.int .i64 n, .int .i64 10] W fun e w' => e = .returned (.string ⟨(Lib.itoa n).toArray⟩) /\ Below W.heap.size W w') := hid (fun W hb => zi1 n h0 h1 _ W (Nat.le_refl _) (htab.below hb).tb);rw [enc];clear htab
 go_enter Tryz.func95, Tryz.ntmps95
 go_wp2_with fail
 refine (HF.out _ (z03 _ _)).mono ?_;rintro e w1 ⟨rfl, a⟩;have c := hid (z26 (z03 w _) a);clear a
 have d : (⟨(Lib.itoa n).toArray⟩ : ByteArray).size <= 21 := by show (Lib.itoa n).toArray.size <= _; rw [List.size_toArray]; exact b
 go_wp2;go_ret;exact ⟨ret_s (cat3 _ _ _ _ rfl), c.out⟩
theorem zc6 (bs : List UInt8) : z4l (.text bs) := by
 intro w v hrep _ hlen htab
 rw [Rep] at hrep; subst hrep
 rw [enc] at hlen ⊢;simp only [List.length_cons, List.length_append] at hlen;obtain ⟨bb, b⟩ : ∃ bb : ByteArray, bb = ⟨bs.toArray⟩ := ⟨_, rfl⟩
 have i : bb.size = bs.length := by rw [b]; simp [ByteArray.size]
 have g : bb.data.toList = bs := by rw [b]
 rw [<- b];rw [<- g] at hlen ⊢;rw [zjc bb] at hlen ⊢;clear b i g;have j := Lib.itoa_length_le (bb.size : Int) (by omega) (by omega);have HF : Hid (∀ W, Below w.heap.size w W -> Calls Tryz.prog 93 #[.int .i64 bb.size] W fun e w' => e = .returned (.string ⟨(Lib.itoa bb.size).toArray⟩) /\ Below W.heap.size W w') := hid (fun W hb => ze4 bb.size (by omega) (by omega) _ W (Nat.le_refl _) (htab.below hb).tb);obtain ⟨ib, c⟩ : ∃ ib : ByteArray, ib = ⟨(Lib.itoa bb.size).toArray⟩ := ⟨_, rfl⟩;rw [<- c] at HF
 have n : ib.size <= 21 := by rw [c]; show (Lib.itoa bb.size).toArray.size <= _; rw [List.size_toArray]; exact j
 have k : Hid (Lib.itoa bb.size = ib.data.toList) := hid (by rw [c])
 have o : ¬ 9223372036854775807 < ib.size + 1 := by omega
 have p : ¬ 9223372036854775807 < ib.size + 1 + bb.size := by omega
 clear htab c
 go_enter Tryz.func95, Tryz.ntmps95
 go_wp2;have d : Below w.heap.size w (w.alloc (.cells #[.int .i64 2, .int .i64 0, .string bb, .slice none 0 0] 88)) := z03 w _;have f : (w.alloc (.cells #[.int .i64 2, .int .i64 0, .string bb, .slice none 0 0] 88)).heap[w.heap.size]? = some (.cells #[.int .i64 2, .int .i64 0, .string bb, .slice none 0 0] 88 (0, 0)) := heap_alloc_new _ _
 generalize w.alloc (.cells #[.int .i64 2, .int .i64 0, .string bb, .slice none 0 0] 88) = W at *
 have q : W.cell? ⟨w.heap.size, 2, none⟩ = some (.string bb) := by simp [World.cell?, f]
 have HC : Hid (∀ W2, Below W.heap.size W W2 -> Calls Tryz.prog 93 #[.int .i64 bb.size] W2 fun e w' => e = .returned (.string ib) /\ w'.cell? ⟨w.heap.size, 2, none⟩ = some (.string bb) /\ Below W.heap.size W w') := hid (fun W2 a =>
  (HF.out W2 (d.trans (a.mono d.size))).mono fun e w' ⟨he, hb⟩ => ⟨he, by
   have l := z26 a hb;have := (l.block _ (z04 f)).trans f
   simp [World.cell?, this], z26 a hb⟩)
 have h := hid d;clear d f HF
 go_region_held3 (fun w' => w'.cell? ⟨w.heap.size, 2, none⟩ = some (.string bb)) (first | go_keep | assumption)
  (first | (go_at_call 93; refine (HC.out _ (by first | exact Below.refl _ _ | exact (Below.refl _ _).drew)).mono ?_; rintro e w2 ⟨rfl, r, a⟩))
 have m : Hid (Below w.heap.size w w2) := hid (h.out.trans (a.mono h.out.size));clear a;go_wp2;go_ret;exact ⟨ret_s (cat3 _ _ _ _ (by rw [k.out]; rfl)), m.out⟩
theorem encL_at {ts : List Tree} {k : Nat} {t : Tree} (h : ts[k]? = some t) : (encL (ts.take k)).length + (enc t).length <= (encL ts).length := by
 have h1 := zb7 h;have h2 := encL_le ts (k + 1)
 rw [h1, List.length_append] at h2; exact h2
theorem zc7 {ts : List Tree} (hts : ∀ u, u ∈ ts -> z4l u) : z4l (.list ts) := by
 intro w v hrep hn hlen htab;rw [Rep] at hrep;obtain ⟨L, xs, rfl, ho, -, hr⟩ := hrep
 obtain ⟨a, n, b, rfl, I⟩ : ∃ a n b, L = .slice a n b /\ n = ts.length := by
  rcases ho.2 with ⟨rfl, h0⟩ | ⟨g, b, cur, rfl, -⟩
  ·exact ⟨_, _, _, rfl, h0.symm⟩
  ·exact ⟨_, _, _, rfl, rfl⟩
 subst I;have ar := z1x ts;rw [nodes] at hn;rw [enc] at hlen ⊢;simp only [List.length_cons, List.length_append, List.length_nil] at hlen;obtain ⟨i0, hi, J, M, N⟩ := info_parts infoB;have HT := hid hts;have HO := hid ho;have HR := hid hr;have O := hid htab;clear hts ho hr htab
 go_enter Tryz.func95, Tryz.ntmps95
 go_wp2;have m := Lib.run_convert_bytes_const (P := Tryz.prog) (w.alloc (.cells #[.int .i64 3, .int .i64 0, .string ⟨#[]⟩, .slice a ts.length b] 88)) 115 5 #[.int .u8 108] 1 1 Tryz.underlying115 Tryz.underlying5;rw [World.size_alloc] at m;rw [m];simp only [Result.andThen];rw [Oper.upon_value];clear m;have s : Below w.heap.size w ((w.alloc (.cells #[.int .i64 3, .int .i64 0, .string ⟨#[]⟩, .slice a ts.length b] 88)).alloc (.cells #[.int .u8 108] 5 ((#[Value.int .u8 108] : Array Value).size, (#[Value.int .u8 108] : Array Value).size + 1))) := (z03 w _).alloc (by simp) _;have t : ((w.alloc (.cells #[.int .i64 3, .int .i64 0, .string ⟨#[]⟩, .slice a ts.length b] 88)).alloc (.cells #[.int .u8 108] 5 ((#[Value.int .u8 108] : Array Value).size, (#[Value.int .u8 108] : Array Value).size + 1))).heap[w.heap.size]? = some (.cells #[.int .i64 3, .int .i64 0, .string ⟨#[]⟩, .slice a ts.length b] 88 (0, 0)) := (Below.heap_alloc _ _ _ (by simp)).trans (heap_alloc_new _ _)
 have x : OwnX ((w.alloc (.cells #[.int .i64 3, .int .i64 0, .string ⟨#[]⟩, .slice a ts.length b] 88)).alloc (.cells #[.int .u8 108] 5 ((#[Value.int .u8 108] : Array Value).size, (#[Value.int .u8 108] : Array Value).size + 1))) w.heap.size (.slice (some ⟨w.heap.size + 1, 0, none⟩) 1 1) [108] := .inr ⟨w.heap.size + 1, .int .u8 108, rfl, by omega, by
  have := heap_alloc_new (w.alloc (.cells #[.int .i64 3, .int .i64 0, .string ⟨#[]⟩, .slice a ts.length b] 88)) (.cells #[.int .u8 108] 5 (1, 2));rw [World.size_alloc] at this
  exact this, rfl, rfl⟩
 generalize (w.alloc (.cells #[.int .i64 3, .int .i64 0, .string ⟨#[]⟩, .slice a ts.length b] 88)).alloc (.cells #[.int .u8 108] 5 ((#[Value.int .u8 108] : Array Value).size, (#[Value.int .u8 108] : Array Value).size + 1)) = W at *
 have c3 : W.cell? ⟨w.heap.size, 3, none⟩ = some (.slice a ts.length b) := by simp [World.cell?, t]
 go_wp2;clear c3
 go_loopw [3, 30] (fun v i wr => ∃ k : Nat, k <= ts.length /\ i = .int .i64 k /\ Hid (OwnX wr w.heap.size v (108 :: encL (ts.take k))) /\ Hid (Below w.heap.size w wr)) (fun _ i _ => ts.length - (intOf i).toNat)
 case atStart => exact ⟨0, Nat.zero_le _, rfl, hid (by rw [List.take_zero, encL]; exact x), hid s⟩
 case round =>
  clear x s t;obtain ⟨k, hk, rfl, HX, HB⟩ := hrel
  by_cases hlt : k < ts.length
  ·have c := List.getElem?_eq_getElem hlt
   obtain ⟨g, e1, e2, e3, e4, e5, e6, rfl, f, d⟩ := ze2 HO.out HR.out c;have h := K24.below HB.out;obtain ⟨hg, p0, p1, p2, p3⟩ := d wr h;have T := z5h (List.getElem_mem hlt);have U := encL_at c;have y := zb7 c;have V := enc_pos ts[k]
   have HC : Hid (∀ W, Below wr.heap.size wr W -> Calls Tryz.prog 95 #[.agg #[.int .i64 e1, .int .i64 e2, .string e3, .slice e4 e5 e6]] W fun e w' => e = .returned (.string ⟨(enc ts[k]).toArray⟩) /\ Below W.heap.size W w') :=
    hid (fun W hW => HT.out ts[k] (List.getElem_mem hlt) W _ (f.k24 (h.trans (K24.below hW))) (by omega) (by omega) (O.out.below (HB.out.trans (hW.mono HB.out.size))))
   clear d f h c T;obtain ⟨sb, o⟩ : ∃ sb : ByteArray, sb = ⟨(enc ts[k]).toArray⟩ := ⟨_, rfl⟩
   have p : sb.data.toList = enc ts[k] := by rw [o]
   have X : sb.size = (enc ts[k]).length := by rw [<- p, zjc]
   have Y : Hid (108 :: encL (ts.take (k + 1)) = (108 :: encL (ts.take k)) ++ sb.data.toList) := hid (by rw [y, p]; rfl);rw [<- o] at HC
   have z : 1 <= sb.size := by omega
   have A : (108 :: encL (ts.take k)).length + sb.size <= 140737488355328 := by rw [List.length_cons]; omega
   have Z := hid z;have aa := hid A;obtain ⟨av, cv, af⟩ := HX.out.slice;clear o p X U y V z A;subst af
   go_wp2_with fail
   refine (HC.out _ (z03 _ _)).mono ?_;rintro e w2 ⟨rfl, B⟩;have l := hid (z26 (z03 wr (.cells #[.int .i64 e1, .int .i64 e2, .string e3, .slice e4 e5 e6] 88)) B);have q : Hid (Below w.heap.size w w2) := hid (HB.out.trans (l.out.mono HB.out.size));have r := HX.out.below l.out;obtain ⟨v3, w3, C, D, E⟩ := appX_str w2 w.heap.size 115 _ _ r sb Z.out aa.out q.out.size;have ag := hid C;have ah : Hid (OwnX w3 w.heap.size v3 (108 :: encL (ts.take (k + 1)))) := hid (by rw [Y.out]; exact D);have ai : Hid (Below w.heap.size w w3) := hid (q.out.grown E q.out.size (fun j hj => (r.lt j hj).1));clear B p0 p1 p2 p3 r C D E
   go_wp2_with (at_builtin; refine Lib.wpList_append_run _ rfl _ _ _ _ rfl _ _ rfl rfl _ _ ag.out ?_)
   go_roundw
   case rel => exact ⟨k + 1, by omega, by go_num, ah, ai⟩
   case measure => simp [intOf]; omega
  ·have F : ts.take k = ts := List.take_of_length_le (by omega)
   have hM : OwnM wr w.heap.size u3 (Lib.byteCells (108 :: encL ts)) := by have h9 := HX.out.mark; rw [F] at h9; exact h9
   have HM := hid hM
   have G : (Lib.byteCells (108 :: encL ts)).length + 1 <= 140737488355328 := by rw [Lib.byteCells_length, List.length_cons]; omega
   have aj := hid G;clear F hM G
   go_wp2_with (at_builtin; refine z54 rfl _ _ 115 rfl w.heap.size i0 Tryz.underlying115 hi J M N _ _ rfl (HM.out.below (z03 _ _)) ⟨wr.heap.size, 0, none⟩ (.int .u8 101) 1 rfl ?_ rfl aj.out ?_ ?_)
   ·have R := heap_alloc_new wr (.cells #[.int .u8 101] 5)
    rw [Addr.add_mid, Nat.zero_add];simp only [World.cell?, R]
    rfl
   ·have := HB.out.size; simp; omega
   intro v4 w4 hM4 hg4;have H : Below w.heap.size w w4 := (HB.out.alloc HB.out.size _).grown hg4 (by have := HB.out.size; simp; omega) (fun j hj => (HM.out.lt j hj).1);obtain ⟨g4, c4, rfl, -⟩ := hM4.slice;have aq := hid H
   have hE : Lib.byteCells (108 :: encL ts) ++ [Value.int .u8 101] = Lib.byteCells (108 :: (encL ts ++ [101])) := by simp [Lib.byteCells]
   rw [hE] at hM4 ⊢;have HK := hid (zh2 hM4);clear hM4 hg4 H;go_wp2;rw [HK.out];simp only [Result.andThen];rw [Oper.upon_value];go_wp2;go_ret;exact ⟨rfl, aq.out⟩
mutual
theorem zag : ∀ t : Tree, Ok t -> z4l t
 | .num n, h => zfb n (by rw [Ok] at h; exact h.1) (by rw [Ok] at h; exact h.2)
 | .text bs, _ => zc6 bs
 | .list ts, h => zc7 (z86 ts (by rw [Ok] at h; exact h))
theorem z86 : ∀ ts : List Tree, OkL ts -> ∀ t, t ∈ ts -> z4l t
 | [], _, t, ht => by cases ht
 | u :: ts, h, t, ht => by
  rw [OkL] at h
  rcases List.mem_cons.1 ht with h' | h'
  ·rw [h']; exact zag u h.1
  ·exact z86 ts h.2 t h'
end
theorem rput_any {t : Tree} {v : Value} {w : World} (hrep : Rep w (S24 w) t v) (hok : Ok t) (hlev : Lev 1 t) (hn : nodes t <= 4000) (hlen : (enc t).length <= 100000000000) (htab : TabW w) :
  Calls Tryz.prog 54 #[v] w fun e w' => e = .returned (.tuple #[.string ⟨(putF t).1.toArray⟩, .int .i64 (putF t).2]) /\ Below w.heap.size w w' := by
 obtain ⟨kd, n0, b0, a, len, f, rfl⟩ := Rep.cells t v hrep;have H1 := hid (fun (W : World) (hb : Below w.heap.size w W) => z2p (hrep.k24 (K24.below hb)) hlev hn);have H2 := hid (fun (W : World) (hb : Below w.heap.size w W) => zag t hok W _ (hrep.k24 (K24.below hb)) hn hlen (htab.below hb));clear hrep hlev htab;obtain ⟨sb, c⟩ : ∃ sb : ByteArray, sb = ⟨(enc t).toArray⟩ := ⟨_, rfl⟩
 have k : sb.size = (enc t).length := by rw [c]; simp [ByteArray.size]
 rw [<- c] at H2;have j := hid c;clear c
 go_enter Tryz.func54, Tryz.ntmps54
 go_wp2_with fail
 refine (H1.out _ ((Below.refl _ _).alloc (Nat.le_refl _) _)).mono ?_;rintro e w1 ⟨rfl, d⟩;have b : w1.heap[w.heap.size]? = some (.cells #[.int .i64 kd, .int .i64 n0, .string b0, .slice a len f] 88 (0, 0)) := (d.block _ (by simp)).trans (heap_alloc_new _ _);have g : Hid (Below w.heap.size w w1) := hid (z26 (z03 w _) d)
 have c0 : w1.cell? ⟨w.heap.size, 0, none⟩ = some (.int .i64 kd) := by simp [World.cell?, b]
 have c1 : w1.cell? ⟨w.heap.size, 1, none⟩ = some (.int .i64 n0) := by simp [World.cell?, b]
 have c2 : w1.cell? ⟨w.heap.size, 2, none⟩ = some (.string b0) := by simp [World.cell?, b]
 have c3 : w1.cell? ⟨w.heap.size, 3, none⟩ = some (.slice a len f) := by simp [World.cell?, b]
 clear d b
 go_wp2_with fail
 refine (H2.out _ g.out).mono ?_;rintro e w2 ⟨rfl, h⟩;have i : Hid (Below w.heap.size w w2) := hid (z26 g.out h);clear h
 by_cases hfit : sb.size <= 131072
 ·have HP := hid (z8y (t := t) (by omega))
  go_wp2
  go_ret2
  exact ⟨by rw [HP.out, j.out]; rfl, i.out⟩
 ·have HP := hid (zc8 (t := t) (by omega))
  go_wp2
  go_ret2
  exact ⟨by rw [HP.out]; rfl, i.out⟩
end Go.Proofs.YtdkkkeoicekdgaaGreatDoor.Co

end
