/- The document's reader: a relation. -/
import Derived.Test.YtlgodcbffimcoaaDoorRp2
import Derived.Test.YtlgodcbffimcoaaDoorSr
import Derived.Test.YtlgodcbffimcoaaDoorRd5
import Derived.Deep.DeepCutAuto
namespace Go.Proofs.YtlgodcbffimcoaaDoor
open Go.RowKit

/-- What is to come of the spans from here. -/
def contF (l : List UInt8) (f : Nat) (more : Bool) (xs : List Sp) (T : St) (b : Bool) : List Sp × St × Bool :=
  if more then rSpansL l f (xs ++ [(rSpan l T b).1]) (rSpan l T b).2.1 (rSpan l T b).2.2 else (xs, T, b)
theorem cont_done (l : List UInt8) (f : Nat) (xs : List Sp) (T : St) (b : Bool) : contF l f false xs T b = (xs, T, b) := rfl
theorem cont_no {l : List UInt8} {f : Nat} {xs : List Sp} {T : St} {b : Bool} (h : nowF l (rSpan l T b).2.1 ≠ some 44) : contF l f true xs T b = contF l 0 false (xs ++ [(rSpan l T b).1]) (rSpan l T b).2.1 (rSpan l T b).2.2 := by
  unfold contF
  rw [if_pos rfl, if_neg (by simp)]
  cases f with
  | zero => rw [rSpansL]
  | succ f => rw [rSpansL, if_neg h]
theorem cont_yes {l : List UInt8} {f : Nat} {xs : List Sp} {T : St} {b : Bool} (h : nowF l (rSpan l T b).2.1 = some 44) : contF l (f + 1) true xs T b = contF l f true (xs ++ [(rSpan l T b).1]) ((rSpan l T b).2.1.1 + 1, false) (rSpan l T b).2.2 := by
  unfold contF
  rw [if_pos rfl, if_pos rfl, rSpansL, if_pos h]
theorem rspan_ge (l : List UInt8) (T : St) (b : Bool) : T.1 ≤ (rSpan l T b).2.1.1 ∧ (T.1 ≤ l.length → (rSpan l T b).2.1.1 ≤ l.length) := by
  have h := (span_agr l T b).1
  rw [h, gd_fst]; exact ge_span l T
theorem rnum_ge (l : List UInt8) (T : St) : T.1 ≤ (rNum l T).2.1 ∧ (T.1 ≤ l.length → (rNum l T).2.1 ≤ l.length) := by
  have h := (num_agr l T).1
  rw [h, gd_fst]; exact ge_num l T
theorem rspan_dot {l : List UInt8} {T : St} {b : Bool} (h : nowF l (rNum l T).2 = some 46) : rSpan l T b = (⟨(rNum l T).1, (rNum l (wordF l [46, 46] (rNum l T).2)).1⟩, (rNum l (wordF l [46, 46] (rNum l T).2)).2, b && decide ((rNum l T).1 < (rNum l (wordF l [46, 46] (rNum l T).2)).1)) := by unfold rSpan; rw [if_pos h]
theorem rspan_one {l : List UInt8} {T : St} {b : Bool} (h : nowF l (rNum l T).2 ≠ some 46) : rSpan l T b = (⟨(rNum l T).1, (rNum l T).1⟩, (rNum l T).2, b) := by unfold rSpan; rw [if_neg h]
theorem nowI_eq {l : List UInt8} {S : St} {c : UInt8} {n : Int} (hn : n = c.toNat) : (nowF l S = some c ∧ (nowI l S == n) = true) ∨ (nowF l S ≠ some c ∧ (nowI l S == n) = false) := by
  subst hn
  by_cases h : nowF l S = some c
  · left; exact ⟨h, by rw [nowI_some h]; simp⟩
  · right
    refine ⟨h, ?_⟩
    cases hq : nowF l S with
    | none => rw [nowI_none hq]; first | (simp; done) | (simp; omega)
    | some d =>
      rw [nowI_some hq]
      have : d ≠ c := fun e => h (by rw [hq, e])
      simp; intro e; exact this (by rw [← UInt8.toNat_inj]; omega)
theorem PAt.flag {w : World} {pb : Nat} {s : BA} {S : St} {b : Bool} (h : PAt w pb s S b) (c : Bool) : PAt (w.setCell ⟨pb, 3, none⟩ (.bool c)) pb s S c := h.row.set 3 _

/-- A relation under way: the two blocks, the reader, what else stands. -/
structure RlU (s : BA) (pb : Nat) (w wr : World) (m : Int) (ng : Bool) (v : Value) (xs : List Sp) (vs : List Value) (T : St) (b : Bool) : Prop where
  own : wr.ownsRow (w.heap.size + 2) 55 2 v xs.length vs
  cat : Cat 2 CS xs vs
  rb : Row wr (w.heap.size + 1) 49 [.int .i64 m, .bool ng, v]
  ra : Row wr w.heap.size 49 [.int .i64 0, .bool false, .slice none 0 0]
  pt : PAt wr pb s T b
  fr : Fr (· = pb) w wr
theorem RlU.fr' {s : BA} {pb : Nat} {w wr w2 : World} {m : Int} {ng : Bool} {v : Value} {xs : List Sp} {vs : List Value} {T T2 : St} {b b2 : Bool} (h : RlU s pb w wr m ng v xs vs T b) (hlr : pb < w.heap.size) (hf : Fr (· = pb) wr w2) (hp : PAt w2 pb s T2 b2) : RlU s pb w w2 m ng v xs vs T2 b2 :=
  ⟨ownsRow_keep h.own (fun k hk => hf.block k (h.own.lt k hk).2 (by have := (h.own.lt k hk).1; omega)), h.cat, h.rb.fr hf (by omega), h.ra.fr hf (by omega), hp, h.fr.trans hf⟩
theorem RlU.setB {s : BA} {pb : Nat} {w wr : World} {m : Int} {ng : Bool} {v : Value} {xs : List Sp} {vs : List Value} {T : St} {b : Bool} (h : RlU s pb w wr m ng v xs vs T b) (hlr : pb < w.heap.size) (i : Nat) (u : Value) (m2 : Int) (ng2 : Bool) (hrow : [.int .i64 m, .bool ng, v].set i u = [.int .i64 m2, .bool ng2, v]) : RlU s pb w (wr.setCell ⟨w.heap.size + 1, i, none⟩ u) m2 ng2 v xs vs T b := by
  have hb := (But.refl (w.heap.size + 1) wr).set i u
  exact ⟨ownsRow_keep h.own (fun k hk => hb.block k (by have := (h.own.lt k hk).1; omega)), h.cat, by rw [← hrow]; exact h.rb.set i u, hb.row h.ra (by omega), h.pt.keep (hb.block pb (by omega)), hb.fr h.fr (by omega)⟩
end Go.Proofs.YtlgodcbffimcoaaDoor
