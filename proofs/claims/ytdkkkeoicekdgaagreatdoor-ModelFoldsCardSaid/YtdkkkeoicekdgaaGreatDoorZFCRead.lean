/- Package code's reader: the closure of Get, the list and its element: what the calls answer and leave. -/
import Derived.Test.YtdkkkeoicekdgaaGreatDoorZFg30

namespace Go.Proofs.YtdkkkeoicekdgaaGreatDoor.Co
open Go.RowKit
abbrev readFn (c sb rb : Nat) : Value := .func (.func 97) #[] #[.pointer (some ⟨c, 0, none⟩), .pointer (some ⟨sb, 0, none⟩), .pointer (some ⟨rb, 0, none⟩)]
structure Env (s : ByteArray) (c sb rb : Nat) (w : World) : Prop where
  hs : w.heap[sb]? = some (.cells #[.string s] 9 (0, 0))
  hr : w.heap[rb]? = some (.cells #[readFn c sb rb] 146 (0, 0))
def Cnt (c n : Nat) (w : World) : Prop := w.heap[c]? = some (.cells #[.int .i64 n] 3 (0, 0))
theorem z03 {w : World} {k : Nat} {o : Obj} (h : w.heap[k]? = some o) : k < w.heap.size := (Array.getElem?_eq_some_iff.1 h).1
theorem cell_of_heap {w : World} {k : Nat} {v : Value} {t : TypeId} (h : w.heap[k]? = some (.cells #[v] t (0, 0))) : w.cell? ⟨k, 0, none⟩ = some v := by simp [World.cell?, h]
theorem frozen_of_heap {w : World} {k : Nat} {cs : Array Value} {t : TypeId} (h : w.heap[k]? = some (.cells cs t (0, 0))) (i : Nat) : w.frozen? ⟨k, i, none⟩ = false := by simp [World.frozen?, h]
def Post (r : Res × Nat) (c : Nat) (w : World) (e : Ending) (w' : World) : Prop :=
  (match r.1 with
   | .ok t k => ∃ v, e = .returned (.tuple #[v, .int .i64 0, .int .i64 k]) /\ Rep w' (fun b => w.heap.size <= b /\ b < w'.heap.size) t v
   | .bad er k => e = .returned (.tuple #[zeroV, .int .i64 er, .int .i64 k])) /\
  Cnt c r.2 w' /\ Fr (· = c) w w'
theorem Env.fr {s : ByteArray} {c sb rb : Nat} {w w' : World} (h : Env s c sb rb w) (hc : ∃ n, Cnt c n w) (hf : Fr (· = c) w w') : Env s c sb rb w' := by
  obtain ⟨n, hn⟩ := hc
  unfold Cnt at hn
  have h1 : sb ≠ c := by
    intro e; subst e; have := h.hs; rw [hn] at this; injection this with this; injection this with _ this; cases this
  have h2 : rb ≠ c := by
    intro e; subst e; have := h.hr; rw [hn] at this; injection this with this; injection this with _ this; cases this
  exact ⟨(hf.block sb (z03 h.hs) h1).trans h.hs, (hf.block rb (z03 h.hr) h2).trans h.hr⟩
theorem Env.ne {s : ByteArray} {c sb rb : Nat} {w : World} (h : Env s c sb rb w) {n : Nat} (hn : Cnt c n w) : sb ≠ c /\ rb ≠ c := by
  unfold Cnt at hn
  constructor
  · intro e; subst e; have := h.hs; rw [hn] at this; injection this with this; injection this with _ this; cases this
  · intro e; subst e; have := h.hr; rw [hn] at this; injection this with this; injection this with _ this; cases this
theorem Env.alloc {s : ByteArray} {c sb rb : Nat} {w : World} (h : Env s c sb rb w) (o : Obj) : Env s c sb rb (w.alloc o) :=
  ⟨(Below.heap_alloc _ _ _ (z03 h.hs)).trans h.hs, (Below.heap_alloc _ _ _ (z03 h.hr)).trans h.hr⟩
theorem Cnt.alloc {c n : Nat} {w : World} (h : Cnt c n w) (o : Obj) : Cnt c n (w.alloc o) := (Below.heap_alloc _ _ _ (z03 h)).trans h
theorem Cnt.below {c n B : Nat} {w w' : World} (h : Cnt c n w) (hb : Below B w w') (hc : c < B) : Cnt c n w' := (hb.block c hc).trans h
theorem Cnt.set {c n : Nat} {w : World} (h : Cnt c n w) (m : Nat) : Cnt c m (w.setCell ⟨c, 0, none⟩ (.int .i64 m)) := z25 h 0 _
end Go.Proofs.YtdkkkeoicekdgaaGreatDoor.Co
