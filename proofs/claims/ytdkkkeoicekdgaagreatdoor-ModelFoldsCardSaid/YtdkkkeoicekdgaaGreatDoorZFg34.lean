/- Package code's Put: the closure that writes a value, at a list; and so at every value. -/
import Derived.Test.YtdkkkeoicekdgaaGreatDoorZFCWrite

section

namespace Go.Proofs.YtdkkkeoicekdgaaGreatDoor.Co
open Go.RowKit
def K24 (w w' : World) : Prop := ∀ (g : Nat) (cur : Array Value), w.heap[g]? = some (.cells cur 88 (0, 0)) -> w'.heap[g]? = some (.cells cur 88 (0, 0))
def S24 (w : World) (g : Nat) : Prop := ∃ cur, w.heap[g]? = some (.cells cur 88 (0, 0))
theorem K24.refl (w : World) : K24 w w := fun _ _ h => h
theorem K24.trans {a b c : World} (h : K24 a b) (k : K24 b c) : K24 a c := fun g cur e => k g cur (h g cur e)
theorem K24.alloc {a w : World} (h : K24 a w) (o : Obj) : K24 a (w.alloc o) := fun g cur e => (Below.heap_alloc _ _ _ (z03 (h g cur e))).trans (h g cur e)
theorem K24.of_others {B b : Nat} {l : List UInt8} {w w' : World} (hh : Holds B b l w) (h : Lib.OthersKept 5 (some b) w w') : K24 w w' :=
 fun _ _ e => z3f h e (fun e' => hh.ne e (by decide) (by injection e')) (by decide)
theorem own24 {w : World} {base n : Nat} {L : Value} {xs : List Value} (h : w.ownsRow base 88 4 L n xs) : ∀ g, L.ownBlock = some g -> S24 w g := by
 intro g hg
 rcases h.2 with ⟨rfl, -⟩ | ⟨g', cap, cur, rfl, -, hh, -⟩
 ·cases hg
 ·have : g' = g := by simpa [Value.ownBlock] using hg
  subst this;exact ⟨cur, hh⟩
mutual
theorem Rep.s24 {w : World} {S : Nat -> Prop} : ∀ (t : Tree) (v : Value), Rep w S t v -> Rep w (S24 w) t v
 | .num n, v, h => by rw [Rep] at h ⊢; exact h
 | .text bs, v, h => by rw [Rep] at h ⊢; exact h
 | .list ts, v, h => by
  rw [Rep] at h ⊢;obtain ⟨L, xs, hv, ho, -, hr⟩ := h;exact ⟨L, xs, hv, ho, own24 ho, z0h.s24 ts xs hr⟩
theorem z0h.s24 {w : World} {S : Nat -> Prop} : ∀ (ts : List Tree) (xs : List Value), z0h w S ts xs -> z0h w (S24 w) ts xs
 | [], xs, h => by rw [z0h] at h ⊢; exact h
 | t :: ts, xs, h => by
  rw [z0h] at h ⊢;obtain ⟨c0, c1, c2, c3, a, hx, ht, hr⟩ := h;exact ⟨c0, c1, c2, c3, a, hx, Rep.s24 t _ ht, z0h.s24 ts a hr⟩
end
theorem Rep.k24 {w w' : World} {t : Tree} {v : Value} (h : Rep w (S24 w) t v) (hk : K24 w w') : Rep w' (S24 w') t v :=
 Rep.keep (fun g ⟨cur, e⟩ => (hk g cur e).trans e.symm) (fun g ⟨cur, e⟩ => ⟨cur, hk g cur e⟩) t v h
theorem z0h.get {w : World} {S : Nat -> Prop} : ∀ (ts : List Tree) (xs : List Value) (k : Nat) (t : Tree), z0h w S ts xs -> ts[k]? = some t ->
  ∃ c0 c1 c2 c3, xs[k * 4]? = some c0 /\ xs[k * 4 + 1]? = some c1 /\ xs[k * 4 + 2]? = some c2 /\ xs[k * 4 + 3]? = some c3 /\ Rep w S t (.agg #[c0, c1, c2, c3])
 | [], xs, k, t, _, hk => by cases hk
 | u :: ts, xs, 0, t, h, hk => by
  rw [z0h] at h;obtain ⟨c0, c1, c2, c3, a, rfl, ht, -⟩ := h
  obtain rfl : u = t := by simpa using hk
  exact ⟨c0, c1, c2, c3, rfl, rfl, rfl, rfl, ht⟩
 | u :: ts, xs, k + 1, t, h, hk => by
  rw [z0h] at h;obtain ⟨c0, c1, c2, c3, a, rfl, -, hr⟩ := h;obtain ⟨d0, d1, d2, d3, e0, e1, e2, e3, hd⟩ := z0h.get ts a k t hr (by simpa using hk);refine ⟨d0, d1, d2, d3, ?_, ?_, ?_, ?_, hd⟩
  ·rw [show (k + 1) * 4 = k * 4 + 4 from by omega]; exact e0
  ·rw [show (k + 1) * 4 + 1 = (k * 4 + 1) + 4 from by omega]; exact e1
  ·rw [show (k + 1) * 4 + 2 = (k * 4 + 2) + 4 from by omega]; exact e2
  ·rw [show (k + 1) * 4 + 3 = (k * 4 + 3) + 4 from by omega]; exact e3
theorem z1k {w : World} {base g n cap : Nat} {xs : List Value} (h : w.ownsRow base 88 4 (.slice (some ⟨g, 0, none⟩) n cap) n xs) {j : Nat} {u : Value} (hu : xs[j]? = some u) : w.cell? ⟨g, j, none⟩ = some u := by
 rcases h.2 with ⟨h0, -⟩ | ⟨g', cap', cur, hv, -, hh, -, -, -, ht⟩
 ·cases h0
 ·injection hv with hv _ _
  injection hv with hv
  injection hv with hv
  subst hv;rw [<- ht] at hu;rw [List.getElem?_take] at hu
  split at hu
  ·simp [World.cell?, hh]
   simpa using hu
  ·cases hu
theorem z4s : ∀ (a b : List Tree), encL (a ++ b) = encL a ++ encL b
 | [], b => by rw [encL]; rfl
 | t :: a, b => by
  show encL (t :: (a ++ b)) = _
  rw [encL, encL, z4s a b, List.append_assoc]
theorem zb5 {ts : List Tree} {k : Nat} {t : Tree} (h : ts[k]? = some t) : encL (ts.take (k + 1)) = encL (ts.take k) ++ enc t := by
 obtain ⟨hk, rfl⟩ := List.getElem?_eq_some_iff.1 h;rw [List.take_succ_eq_append_getElem hk, z4s, encL, encL, List.append_nil]
theorem encL_le (ts : List Tree) (k : Nat) : (encL (ts.take k)).length <= (encL ts).length := by
 have := congrArg List.length (z4s (ts.take k) (ts.drop k));rw [List.take_append_drop, List.length_append] at this
 omega
theorem enc_pos (t : Tree) : 1 <= (enc t).length := by
 cases t <;> rw [enc] <;> simp <;> omega
end Go.Proofs.YtdkkkeoicekdgaaGreatDoor.Co

end

section

namespace Go.Proofs.YtdkkkeoicekdgaaGreatDoor.Co
set_option maxHeartbeats 1000000
set_option maxRecDepth 100000
open Go.Lib (hid)
open Go.RowKit
def Oth (w w' : World) : Prop := ∀ (k : Nat) (cs : Array Value) (t : TypeId) (fz : Nat × Nat), w.heap[k]? = some (.cells cs t fz) -> t ≠ 5 -> t ≠ 117 -> t ≠ 4 -> w'.heap[k]? = some (.cells cs t fz)
theorem Oth.refl (w : World) : Oth w w := fun _ _ _ _ h _ _ _ => h
theorem Oth.trans {a b c : World} (h : Oth a b) (k : Oth b c) : Oth a c := fun g cs t fz e h1 h2 h3 => k g cs t fz (h g cs t fz e h1 h2 h3) h1 h2 h3
theorem Oth.of_below {w w' : World} (hb : Below w.heap.size w w') : Oth w w' := fun k _ _ _ h _ _ _ => (hb.block k (z03 h)).trans h
theorem Oth.alloc {a w : World} (h : Oth a w) (o : Obj) : Oth a (w.alloc o) := h.trans (Oth.of_below (z04 w o))
theorem Oth.k24 {w w' : World} (h : Oth w w') : K24 w w' := fun g cur e => h g cur _ _ e (by decide) (by decide) (by decide)
theorem Oth.of_others {B b : Nat} {l : List UInt8} {w w' : World} (hh : Holds B b l w) (h : Lib.OthersKept 5 (some b) w w') : Oth w w' :=
 fun _ _ _ _ e h1 h2 _ => z3f h e (fun e' => hh.ne e h2 (by injection e')) h1
abbrev St := List UInt8 × Bool
def addS (st : St) (s : List UInt8) : St := if st.2 = true /\ st.1.length + s.length <= 131072 then (st.1 ++ s, true) else (st.1, false)
structure HoldS (B b fb : Nat) (st : St) (w : World) : Prop where
 h : Holds B b st.1 w
 f : w.heap[fb]? = some (.cells #[.bool st.2] 4 (0, 0))
 le : st.1.length <= 131072
theorem HoldS.below {B b fb : Nat} {st : St} {w w' : World} (h : HoldS B b fb st w) (hb : Below w.heap.size w w') : HoldS B b fb st w' := ⟨zcm h.h hb, (hb.block fb (z03 h.f)).trans h.f, h.le⟩
theorem HoldS.alloc {B b fb : Nat} {st : St} {w : World} (h : HoldS B b fb st w) (o : Obj) : HoldS B b fb st (w.alloc o) := h.below (z04 w o)
structure WroteS (B b fb : Nat) (st : St) (w w' : World) : Prop where
 holds : HoldS B b fb st w'
 below : Below B w w'
 oth : Oth w w'
theorem WroteS.trans {B b fb : Nat} {st st' : St} {w w' w'' : World} (h : WroteS B b fb st w w') (h' : WroteS B b fb st' w' w'') : WroteS B b fb st' w w'' := ⟨h'.holds, h.below.trans h'.below, h.oth.trans h'.oth⟩
theorem WroteS.ahead {B b fb : Nat} {st : St} {w w1 w' : World} (hb : Below w.heap.size w w1) (hB : B <= w.heap.size) (h : WroteS B b fb st w1 w') : WroteS B b fb st w w' := ⟨h.holds, (hb.mono hB).trans h.below, (Oth.of_below hb).trans h.oth⟩
theorem zec {w : World} {k : Nat} {f : Bool} (h : w.heap[k]? = some (.cells #[.bool f] 4 (0, 0))) (g : Bool) : (w.setCell ⟨k, 0, none⟩ (.bool g)).heap[k]? = some (.cells #[.bool g] 4 (0, 0)) := z25 h 0 _
theorem zgq {w : World} {k : Nat} {f : Bool} (h : w.heap[k]? = some (.cells #[.bool f] 4 (0, 0))) (g : Bool) : Oth w (w.setCell ⟨k, 0, none⟩ (.bool g)) := fun j cs t fz e _ _ h4 => by
 have hj : j ≠ k := fun e' => by subst e'; rw [h] at e; injection e with e; injection e with _ e; exact h4 e.symm
 exact (Below.heap_setCell _ _ _ _ hj).trans e
theorem z7a {B b k : Nat} {l : List UInt8} {w : World} {f : Bool} (hh : Holds B b l w) (h : w.heap[k]? = some (.cells #[.bool f] 4 (0, 0))) (g : Bool) : Holds B b l (w.setCell ⟨k, 0, none⟩ (.bool g)) := by
 have hk : ∀ {p : Value}, Lib.BuilderAtF 117 5 B b p (Lib.byteCells l) w -> Lib.BuilderAtF 117 5 B b p (Lib.byteCells l) (w.setCell ⟨k, 0, none⟩ (.bool g)) := fun hp => by
  obtain ⟨hB, v, hb, a, c⟩ := hp
  have n1 : b ≠ k := fun e => by subst e; rw [h] at hb; injection hb with hb; injection hb with _ hb; cases hb
  refine ⟨hB, v, (Below.heap_setCell _ _ _ _ n1).trans hb, ⟨a.1, ?_⟩, c⟩
  rcases a.2 with h0 | ⟨g', cap, cur, fz, hv, h1, h2, hr⟩
  ·exact .inl h0
  ·have n2 : g' ≠ k := fun e => by subst e; rw [h] at h2; injection h2 with h2; injection h2 with _ h2; cases h2
   exact .inr ⟨g', cap, cur, fz, hv, h1, (Below.heap_setCell _ _ _ _ n2).trans h2, hr⟩
 exact hh.imp hk hk
theorem addS_any (B b fb : Nat) (st : St) (s : ByteArray) (w : World) (hI : HoldS B b fb st w) (hB : B <= w.heap.size) (hfb : B <= fb) (_ : s.size <= 140737488351232) :
  Calls Tryz.prog 89 #[.string s, .pointer (some ⟨fb, 0, none⟩), .pointer (some ⟨b, 0, none⟩)] w fun e w' => e = .returned (.tuple #[]) /\ WroteS B b fb (addS st s.data.toList) w w' := by
 obtain ⟨l, f⟩ := st;obtain ⟨hh, hf, a⟩ := hI;simp only at hh hf a
 have u : w.cell? ⟨fb, 0, none⟩ = some (.bool f) := by simp [World.cell?, hf]
 have v : w.frozen? ⟨fb, 0, none⟩ = false := by simp [World.frozen?, hf]
 have k : Hid ((Lib.byteCells l).length = l.length) := hid (Lib.byteCells_length l)
 have c : s.data.toList.length = s.size := by simp
 have d := hid (zgq hf false);have g := hid (zec hf false);have i := hid (z7a hh hf false);have j : Hid (Below B w (w.setCell ⟨fb, 0, none⟩ (.bool false))) := hid ((Below.refl B w).setCell (p := ⟨fb, 0, none⟩) hfb _)
 cases f with
 | false =>
  have HE : Hid (addS (l, false) s.data.toList = (l, false)) := hid (by unfold addS; rw [if_neg (by simp)]);clear hh hf;rw [HE.out]
  go_enter Tryz.func89, Tryz.ntmps89
  go_wp2
  go_end0
  exact ⟨rfl, ⟨i.out, g.out, a⟩, j.out, d.out⟩
 | true =>
  have HL := hid (Tryz.Builder_Len_f B b (Lib.byteCells l) w hh)
  by_cases hfit : l.length + s.size <= 131072
  ·have HE : Hid (addS (l, true) s.data.toList = (l ++ s.data.toList, true)) := hid (by unfold addS; rw [if_pos ⟨rfl, by rw [c]; exact hfit⟩])
   have HW := hid (z6o B b (Lib.byteCells l) s (w.setCell ⟨fb, 0, none⟩ (.bool true)) (z7a hh hf true) (by rw [Lib.byteCells_length]; omega) (by simpa [World.setCell] using hB));have q := hid (zgq hf true);have m := hid (zec hf true);have n := hid (z7a hh hf true);have r : Hid (Below B w (w.setCell ⟨fb, 0, none⟩ (.bool true))) := hid ((Below.refl B w).setCell (p := ⟨fb, 0, none⟩) hfb _);clear hh hf d g i j;rw [HE.out]
   go_enter Tryz.func89, Tryz.ntmps89
   go_wp2_with fail
   refine HL.out.mono ?_;rintro e w' ⟨rfl, rfl⟩;rw [k.out]
   have hq : decide ((s.size : Int) <= 131072 - (l.length : Int)) = true := by simp; omega
   go_wp2_with fail
   refine HW.out.mono ?_;rintro e w2 ⟨rfl, h2, t, o⟩;go_wp2
   go_end0
   have e1 : Lib.byteCells (l ++ s.data.toList) = Lib.byteCells l ++ Lib.strCells s := by simp [Lib.byteCells, Lib.strCells]
   have o2 := Oth.of_others n.out o;refine ⟨rfl, ⟨.inr (by rw [e1]; exact h2), ?_, by rw [List.length_append, c]; exact hfit⟩, r.out.trans t, q.out.trans o2⟩;exact z3f o m.out (fun e => n.out.ne m.out (by decide) (by injection e)) (by decide)
  ·have HE : Hid (addS (l, true) s.data.toList = (l, false)) := hid (by unfold addS; rw [if_neg (by rw [c]; exact fun h => hfit h.2)])
   clear hh hf;rw [HE.out]
   go_enter Tryz.func89, Tryz.ntmps89
   go_wp2_with fail
   refine HL.out.mono ?_;rintro e w' ⟨rfl, rfl⟩;rw [k.out]
   have hq : decide ((s.size : Int) <= 131072 - (l.length : Int)) = false := by simp; omega
   go_wp2
   go_end0
   exact ⟨rfl, ⟨i.out, g.out, a⟩, j.out, d.out⟩
end Go.Proofs.YtdkkkeoicekdgaaGreatDoor.Co

end
