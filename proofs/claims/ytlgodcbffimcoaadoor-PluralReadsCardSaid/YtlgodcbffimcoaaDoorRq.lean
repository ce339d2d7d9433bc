/- The document's Parse, walked. -/
import Derived.Test.YtlgodcbffimcoaaDoorRp4
import Derived.Test.YtlgodcbffimcoaaDoorSs
import Derived.Test.YtlgodcbffimcoaaDoorRr
import Derived.Test.YtlgodcbffimcoaaDoorPs
import Derived.Deep.RegionLaw
namespace Go.Proofs.YtlgodcbffimcoaaDoor
open Go.RowKit

/-- Blocks of spans and relations, but for one. -/
def NotG (g : Nat) (w : World) (b : Nat) : Prop := Ty [55, 49] w b ∧ b ≠ g
theorem CW.not {g g' : Nat} {w w' : World} {x : List Rl} {cs : List Value} (h : CW w (NotG g w) x cs) (hk : ∀ b, NotG g w b → w'.heap[b]? = w.heap[b]?) (hn : ∀ b, NotG g w b → b ≠ g') : CW w' (NotG g' w') x cs :=
  CW.keep hk (fun b hb => ⟨hb.1.keep (hk b hb), hn b hb⟩) h
/-- The last cell of a row, set. -/
theorem own_last {w : World} {base g n cap : Nat} {e : TypeId} {vs : List Value} {x : Value} (h : w.ownsRow base e 1 (.slice (some ⟨g, 0, none⟩) (n + 1) cap) (n + 1) (vs ++ [x])) (hn : vs.length = n) (y : Value) :
    (w.setCell ⟨g, n, none⟩ y).ownsRow base e 1 (.slice (some ⟨g, 0, none⟩) (n + 1) cap) (n + 1) (vs ++ [y]) := by
  refine ⟨by simp [hn], ?_⟩
  rcases h.2 with ⟨hv, -⟩ | ⟨g', cap', cur, hv, hb, hh, hc, hm, hs, ht⟩
  · cases hv
  · injection hv with h1 h2 h3
    injection h1 with h1
    injection h1 with h1
    subst h1 h3
    refine .inr ⟨g, cap, cur.setIfInBounds n y, rfl, hb, ?_, hc, hm, by simpa using hs, ?_⟩
    · simp [World.setCell, Array.getElem?_modify, hh]
    · have h5 : (cur.setIfInBounds n y).toList = cur.toList.set n y := by simp
      rw [h5, List.take_set]
      have h6 : cur.toList.take ((n + 1) * 1) = vs ++ [x] := ht
      rw [h6, ← hn, List.set_append_right _ _ (Nat.le_refl _)]
      simp
theorem own_frozen {w : World} {base g n k cap : Nat} {e : TypeId} {vs : List Value} (h : w.ownsRow base e k (.slice (some ⟨g, 0, none⟩) n cap) n vs) (i : Nat) : w.frozen? ⟨g, i, none⟩ = false := by
  rcases h.2 with ⟨hv, -⟩ | ⟨g', cap', cur, hv, hb, hh, -⟩
  · cases hv
  · injection hv with h1
    injection h1 with h1
    injection h1 with h1
    subst h1
    simp [World.frozen?, hh]
theorem own_type {w : World} {base g n k cap : Nat} {e : TypeId} {vs : List Value} (h : w.ownsRow base e k (.slice (some ⟨g, 0, none⟩) n cap) n vs) : ∃ cs, w.heap[g]? = some (.cells cs e (0, 0)) := by
  rcases h.2 with ⟨hv, -⟩ | ⟨g', cap', cur, hv, hb, hh, -⟩
  · cases hv
  · injection hv with h1
    injection h1 with h1
    injection h1 with h1
    subst h1
    exact ⟨_, hh⟩
theorem types_ne {w : World} {a b : Nat} {cs ds : Array Value} {t u : TypeId} {y z : Nat × Nat} (h : w.heap[a]? = some (.cells cs t y)) (h' : w.heap[b]? = some (.cells ds u z)) (ht : t ≠ u) : a ≠ b := by
  rintro rfl
  rw [h] at h'
  injection h' with h'
  injection h' with _ h'
  exact ht h'
/-- A rule under way, of the document's reader. -/
structure RpU (s : BA) (w wr : World) (g1 c1 g2 c2 : Nat) (done : Rule) (cur : List Rl) (vs us : List Value) (T : St) (b : Bool) : Prop where
  own : wr.ownsRow (w.heap.size + 1) 51 1 (.slice (some ⟨g1, 0, none⟩) (done.length + 1) c1) (done.length + 1) (vs ++ [.slice (some ⟨g2, 0, none⟩) cur.length c2])
  cat : Cat 1 (CW wr (NotG g2 wr)) done vs
  vl : vs.length = done.length
  own2 : wr.ownsRow (w.heap.size + 1) 49 3 (.slice (some ⟨g2, 0, none⟩) cur.length c2) cur.length us
  cat2 : Cat 3 (CR wr (Ty [55] wr)) cur us
  pt : PAt wr w.heap.size s T b
  fr : Below w.heap.size w wr
  le : T.1 ≤ s.size
  few : done.length + cur.length ≤ T.1 + 1 + T.2.toNat
  pos : 1 ≤ cur.length
theorem RpU.call {s : BA} {w wr w2 : World} {g1 c1 g2 c2 : Nat} {done : Rule} {cur : List Rl} {vs us : List Value} {T T2 : St} {b b2 : Bool} (h : RpU s w wr g1 c1 g2 c2 done cur vs us T b) (hf : Fr (· = w.heap.size) wr w2) (hp : PAt w2 w.heap.size s T2 b2) (hle : T2.1 ≤ s.size) (hfew : done.length + cur.length ≤ T2.1 + 1 + T2.2.toNat) : RpU s w w2 g1 c1 g2 c2 done cur vs us T2 b2 := by
  have hk : ∀ g, w.heap.size + 1 ≤ g → g < wr.heap.size → w2.heap[g]? = wr.heap[g]? := fun g h1 h2 => hf.block g h2 (by omega)
  have hT : ∀ {b : Nat} {l : List Nat}, (46 : Nat) ∉ l → Ty l wr b → w2.heap[b]? = wr.heap[b]? := fun hl hb => hf.block _ hb.lt (fun e => by
    have := hb.ne h.pt hl; exact this e)
  exact ⟨ownsRow_keep h.own (fun g hg => hk g (h.own.lt g hg).1 (h.own.lt g hg).2), h.cat.mono (fun _ _ hx => CW.not hx (fun b hb => hT (by decide) hb.1) (fun b hb => hb.2)), h.vl,
    ownsRow_keep h.own2 (fun g hg => hk g (h.own2.lt g hg).1 (h.own2.lt g hg).2), h.cat2.mono (fun _ _ hx => CR.keep (fun b hb => hT (by decide) hb) (fun b hb => hb.keep (hT (by decide) hb)) hx), hp, Fr.to_below h.fr hf (Nat.le_refl _), hle, hfew, h.pos⟩
theorem RpU.below {s : BA} {w wr w2 : World} {g1 c1 g2 c2 : Nat} {done : Rule} {cur : List Rl} {vs us : List Value} {T : St} {b : Bool} (h : RpU s w wr g1 c1 g2 c2 done cur vs us T b) (hb : Below wr.heap.size wr w2) : RpU s w w2 g1 c1 g2 c2 done cur vs us T b :=
  h.call (Fr.of_below hb) (h.pt.keep (hb.block _ h.pt.lt)) h.le h.few
/-- 'and': one relation more in the last row. -/
theorem RpU.and {s : BA} {w w8 w9 : World} {g1 c1 g2 c2 g5 c5 n m : Nat} {done : Rule} {cur : List Rl} {vs us : List Value} {T : St} {b : Bool} {y : Rl} {a2 : Option Addr} {p2 : Nat} {o : Obj}
    (h : RpU s w w8 g1 c1 g2 c2 done cur vs us T b) (hn : n = done.length) (hm : m = cur.length) (hy : SlS w8 (Ty [55] w8) (.slice a2 y.sp.length p2) y.sp) (hfew : done.length + cur.length + 1 ≤ T.1 + 1 + T.2.toNat)
    (hg : (w8.alloc o).grownBy w9 (some g2)) (hown : w9.ownsRow (w.heap.size + 1) 49 3 (.slice (some ⟨g5, 0, none⟩) (m + 1) c5) (m + 1) (us ++ [.int .i64 y.m, .bool y.neg, .slice a2 y.sp.length p2])) (hg5 : some g2 = some g5 ∨ w8.heap.size ≤ g5) :
    RpU s w (w9.setCell ⟨g1, n, none⟩ (.slice (some ⟨g5, 0, none⟩) (m + 1) c5)) g1 c1 g5 c5 done (cur ++ [y]) vs (us ++ [.int .i64 y.m, .bool y.neg, .slice a2 y.sp.length p2]) T b := by
  obtain ⟨cs1, t1⟩ := own_type h.own
  obtain ⟨cs2, t2⟩ := own_type h.own2
  have hne : g1 ≠ g2 := types_ne t1 t2 (by decide)
  have hl1 := (h.own.lt g1 rfl).2
  have hl2 := (h.own2.lt g2 rfl).2
  have hb1 := (h.own.lt g1 rfl).1
  have hz : w8.heap.size ≤ w9.heap.size := by have := hg.size; rw [World.size_alloc] at this; omega
  have hk : ∀ g, g < w8.heap.size → g ≠ g2 → w9.heap[g]? = w8.heap[g]? := fun g h1 h2 => (hg.block g (by rw [World.size_alloc]; omega) (fun e => h2 (Option.some.inj e))).trans (Below.heap_alloc _ _ _ h1)
  have hs : ∀ g, g ≠ g1 → (w9.setCell ⟨g1, n, none⟩ (.slice (some ⟨g5, 0, none⟩) (m + 1) c5)).heap[g]? = w9.heap[g]? := fun g h1 => Below.heap_setCell _ _ _ _ h1
  have hne5 : g5 ≠ g1 := by rcases hg5 with e | e; (have := Option.some.inj e; omega); omega
  have hT : ∀ {b : Nat} {l : List Nat}, (51 : Nat) ∉ l → Ty l w8 b → b ≠ g2 → (w9.setCell ⟨g1, n, none⟩ (.slice (some ⟨g5, 0, none⟩) (m + 1) c5)).heap[b]? = w8.heap[b]? := fun hl hb h2 => (hs _ (hb.ne t1 hl)).trans (hk _ hb.lt h2)
  have hown1 : w9.ownsRow (w.heap.size + 1) 51 1 (.slice (some ⟨g1, 0, none⟩) (done.length + 1) c1) (done.length + 1) (vs ++ [.slice (some ⟨g2, 0, none⟩) cur.length c2]) := ownsRow_keep h.own (fun g hg => by
    obtain rfl : g1 = g := Option.some.inj hg
    exact hk g1 hl1 hne)
  have hpb : w.heap.size ≠ g2 := by have := (h.own2.lt g2 rfl).1; omega
  refine ⟨?_, ?_, h.vl, ?_, ?_, ?_, ?_, h.le, ?_, by simp⟩
  · rw [List.length_append, ← hm, ← hn]
    rw [← hn] at hown1
    exact own_last hown1 (by rw [h.vl, hn]) _
  · refine h.cat.mono (fun _ _ hx => CW.not hx (fun b hb => hT (by decide) hb.1 hb.2) (fun b hb e => ?_))
    rcases hg5 with q | q
    · have := Option.some.inj q; exact hb.2 (by omega)
    · have := hb.1.lt; omega
  · rw [List.length_append, ← hm]
    exact ownsRow_keep hown (fun g hg => by obtain rfl : g5 = g := Option.some.inj hg; exact hs g5 hne5)
  · refine Cat.snoc (k := 3) (C := CR (w9.setCell ⟨g1, n, none⟩ (.slice (some ⟨g5, 0, none⟩) (m + 1) c5)) (Ty [55] (w9.setCell ⟨g1, n, none⟩ (.slice (some ⟨g5, 0, none⟩) (m + 1) c5)))) (cs := [.int .i64 y.m, .bool y.neg, .slice a2 y.sp.length p2]) rfl ⟨.slice a2 y.sp.length p2, rfl, ?_⟩ (h.cat2.mono (fun _ _ hx => CR.keep (fun b hb => hT (by decide) hb (hb.ne t2 (by decide))) (fun b hb => hb.keep (hT (by decide) hb (hb.ne t2 (by decide)))) hx))
    exact Sl.keep hy (fun b hb => hT (by decide) hb (hb.ne t2 (by decide))) (fun b hb => hb.keep (hT (by decide) hb (hb.ne t2 (by decide)))) (fun _ _ h => h)
  · exact h.pt.keep ((hs _ (by omega)).trans (hk _ h.pt.lt hpb))
  · exact ((h.fr.alloc (by have := h.pt.lt; omega) o).grown hg (by rw [World.size_alloc]; have := h.pt.lt; omega) (fun k hk2 => by obtain rfl : g2 = k := Option.some.inj hk2; have := (h.own2.lt g2 rfl).1; omega)).setCell (p := ⟨g1, n, none⟩) (by show w.heap.size ≤ g1; omega) _
  · rw [List.length_append]; simp only [List.length_cons, List.length_nil]; omega
/-- 'or': a row more. -/
theorem RpU.or {s : BA} {w w8 w9 : World} {g1 c1 g2 c2 g5 c5 n : Nat} {done : Rule} {cur : List Rl} {vs us : List Value} {T : St} {b : Bool} {y : Rl} {a2 : Option Addr} {p2 : Nat} {o : Obj}
    (h : RpU s w w8 g1 c1 g2 c2 done cur vs us T b) (hn : n = done.length) (hy : SlS w8 (Ty [55] w8) (.slice a2 y.sp.length p2) y.sp) (hfew : done.length + cur.length + 1 ≤ T.1 + 1 + T.2.toNat)
    (hg : ((w8.alloc (.cells #[.int .i64 y.m, .bool y.neg, .slice a2 y.sp.length p2] 49)).alloc o).grownBy w9 (some g1)) (hown : w9.ownsRow (w.heap.size + 1) 51 1 (.slice (some ⟨g5, 0, none⟩) (n + 1 + 1) c5) (n + 1 + 1) (vs ++ [.slice (some ⟨g2, 0, none⟩) cur.length c2] ++ [.slice (some ⟨w8.heap.size, 0, none⟩) 1 1])) :
    RpU s w w9 g5 c5 w8.heap.size 1 (done ++ [cur]) [y] (vs ++ [.slice (some ⟨g2, 0, none⟩) cur.length c2]) [.int .i64 y.m, .bool y.neg, .slice a2 y.sp.length p2] T b := by
  obtain ⟨cs1, t1⟩ := own_type h.own
  have hl1 := (h.own.lt g1 rfl).2
  have hl2 := (h.own2.lt g2 rfl).2
  have hb1 := (h.own.lt g1 rfl).1
  have hz : w8.heap.size + 2 ≤ w9.heap.size := by have := hg.size; rw [World.size_alloc, World.size_alloc] at this; omega
  have hk : ∀ g, g < w8.heap.size → g ≠ g1 → w9.heap[g]? = w8.heap[g]? := fun g h1 h2 => (hg.block g (by rw [World.size_alloc, World.size_alloc]; omega) (fun e => h2 (Option.some.inj e))).trans ((Below.heap_alloc _ _ _ (by rw [World.size_alloc]; omega)).trans (Below.heap_alloc _ _ _ h1))
  have hnew : w9.heap[w8.heap.size]? = (w8.alloc (.cells #[.int .i64 y.m, .bool y.neg, .slice a2 y.sp.length p2] 49)).heap[w8.heap.size]? := (hg.block _ (by rw [World.size_alloc, World.size_alloc]; omega) (fun e => by have := Option.some.inj e; omega)).trans (Below.heap_alloc _ _ _ (by rw [World.size_alloc]; omega))
  have hT : ∀ {b : Nat} {l : List Nat}, (51 : Nat) ∉ l → Ty l w8 b → w9.heap[b]? = w8.heap[b]? := fun hl hb => hk _ hb.lt (hb.ne t1 hl)
  have hcur : SlR w8 (Ty [55, 49] w8) (.slice (some ⟨g2, 0, none⟩) cur.length c2) cur :=
    Sl.of_owns h.own2 (h.cat2.mono (fun _ _ hx => CR.keep (fun _ _ => rfl) (fun b hb => hb.mono (by simp)) hx)) (fun b cs z hh => ⟨cs, 49, z, hh, by simp⟩)
  refine ⟨?_, ?_, by simp [h.vl], ?_, ?_, ?_, ?_, h.le, ?_, by simp⟩
  · rw [List.length_append, ← hn]; exact hown
  · refine Cat.snoc (k := 1) (C := CW w9 (NotG w8.heap.size w9)) (cs := [.slice (some ⟨g2, 0, none⟩) cur.length c2]) rfl ⟨_, rfl, SlR.keep (fun b hb => hT (by decide) hb) (fun b hb => ⟨hb.keep (hT (by decide) hb), by have := hb.lt; omega⟩) hcur⟩ (h.cat.mono (fun _ _ hx => CW.not hx (fun b hb => hT (by decide) hb.1) (fun b hb => by have := hb.1.lt; omega)))
  · have := owns_lit w8 #[.int .i64 y.m, .bool y.neg, .slice a2 y.sp.length p2] 49 (w.heap.size + 1) 1 3 rfl (by have := h.pt.lt; omega) (by omega)
    exact ownsRow_keep this (fun g hg => by obtain rfl : w8.heap.size = g := Option.some.inj hg; exact hnew)
  · exact Cat.one (k := 3) (C := CR w9 (Ty [55] w9)) (cs := [.int .i64 y.m, .bool y.neg, .slice a2 y.sp.length p2]) rfl ⟨_, rfl, Sl.keep hy (fun b hb => hT (by decide) hb) (fun b hb => hb.keep (hT (by decide) hb)) (fun _ _ h => h)⟩
  · exact h.pt.keep (hk _ h.pt.lt (by omega))
  · exact ((h.fr.alloc (by have := h.pt.lt; omega) _).alloc (by rw [World.size_alloc]; have := h.pt.lt; omega) o).grown hg (by rw [World.size_alloc, World.size_alloc]; have := h.pt.lt; omega) (fun k hk2 => by obtain rfl : g1 = k := Option.some.inj hk2; omega)
  · rw [List.length_append]; simp only [List.length_cons, List.length_nil]; have := h.pos; omega
end Go.Proofs.YtlgodcbffimcoaaDoor
