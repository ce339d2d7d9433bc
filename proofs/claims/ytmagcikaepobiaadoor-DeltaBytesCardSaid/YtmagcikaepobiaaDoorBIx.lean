/- A delta as a value, under way. -/
import Derived.Test.YtmagcikaepobiaaDoorBVal
import Derived.Deep.RegionLaw
import Derived.Deep.AppendLies
namespace Go.Proofs.YtmagcikaepobiaaDoor.Dl
open Go.RowKit

/-- A delta as a value. -/
def treeD (xs : List Opr) : Tree := .list (xs.map opT)
/-- What Bytes answers. -/
def bytF (xs : List Opr) : List UInt8 × Int := if rgB xs then putF (treeD xs) else ([], 70)
theorem bytF_yes {xs : List Opr} (h : rgB xs = true) : bytF xs = putF (treeD xs) := by unfold bytF; rw [if_pos h]
theorem bytF_no {xs : List Opr} (h : rgB xs = false) : bytF xs = ([], 70) := by unfold bytF; rw [h]; rfl

/-- A list of values under way, in a variable at block b. -/
structure BI (b : Nat) (w wr : World) (L : Value) (ts : List Tree) (vs : List Value) : Prop where
  blk : wr.heap[b]? = some (.cells #[.int .i64 3, .int .i64 0, .string ⟨#[]⟩, L] 36 (0, 0))
  own : wr.ownsRow (b + 1) 36 4 L ts.length vs
  rep : RepAll wr (fun g => g < wr.heap.size ∧ some g ≠ L.ownBlock ∧ g ≠ b) ts vs
  below : Below w.heap.size w wr
  hb : w.heap.size ≤ b
theorem BI.call {b : Nat} {w wr w2 : World} {L : Value} {ts : List Tree} {vs : List Value} (h : BI b w wr L ts vs) (hb : Below wr.heap.size wr w2) : BI b w w2 L ts vs :=
  ⟨(hb.block _ (lt_of_heap h.blk)).trans h.blk, ownsRow_keep h.own (fun g hg => hb.block g (h.own.lt g hg).2),
    RepAll.keep (fun g hg => hb.block g hg.1) (fun _ hg => ⟨Nat.lt_of_lt_of_le hg.1 hb.size, hg.2⟩) _ _ h.rep, h.below.trans (hb.mono h.below.size), h.hb⟩
theorem BI.step {b g c : Nat} {w wr w2 w3 : World} {L : Value} {ts : List Tree} {vs : List Value} {t : Tree} {c0 c1 c2 c3 : Value} {o : Obj} (h : BI b w wr L ts vs) {m : Nat} (hm : ts.length = m) (hb2 : Below wr.heap.size wr w2)
    (hr : Rep w2 (fun g => wr.heap.size ≤ g ∧ g < w2.heap.size) t (.agg #[c0, c1, c2, c3]))
    (hown : w3.ownsRow (b + 1) 36 4 (.slice (some ⟨g, 0, none⟩) (m + 1) c) (m + 1) (vs ++ [c0, c1, c2, c3])) (hg : (w2.alloc o).grownBy w3 L.ownBlock) {N : Nat} (hN : w2.heap.size = N) (hl : L.ownBlock = some g ∨ g = N + 1) :
    BI b w (w3.setCell ⟨b, 3, none⟩ (.slice (some ⟨g, 0, none⟩) (m + 1) c)) (.slice (some ⟨g, 0, none⟩) (m + 1) c) (ts ++ [t]) (vs ++ [c0, c1, c2, c3]) := by
  subst hm
  subst hN
  have h2 := h.call hb2
  have hlb := lt_of_heap h2.blk
  have hlb0 := lt_of_heap h.blk
  have hne : ∀ k, L.ownBlock = some k → b + 1 ≤ k ∧ k < wr.heap.size := fun k hk => h.own.lt k hk
  have hgb : b + 1 ≤ g := (hown.lt g rfl).1
  have hsz : w2.heap.size + 1 ≤ w3.heap.size := by have := hg.size; rw [World.size_alloc] at this; exact this
  have hst : ∀ k, k < w2.heap.size → some k ≠ L.ownBlock → w3.heap[k]? = w2.heap[k]? := fun k hk hn => (hg.block k (by rw [World.size_alloc]; omega) hn).trans (Below.heap_alloc _ _ _ hk)
  have hset : ∀ k, k ≠ b → (w3.setCell ⟨b, 3, none⟩ (.slice (some ⟨g, 0, none⟩) (ts.length + 1) c)).heap[k]? = w3.heap[k]? := fun k hk => Below.heap_setCell _ _ _ _ hk
  have hblk3 : w3.heap[b]? = some (.cells #[.int .i64 3, .int .i64 0, .string ⟨#[]⟩, L] 36 (0, 0)) := (hst b hlb (fun e => by have := hne b e.symm; omega)).trans h2.blk
  have hszs : (w3.setCell ⟨b, 3, none⟩ (.slice (some ⟨g, 0, none⟩) (ts.length + 1) c)).heap.size = w3.heap.size := by simp [World.setCell]
  refine ⟨heap_set hblk3 3 _, ?_, ?_, ?_, h.hb⟩
  · rw [List.length_append]
    exact ownsRow_keep hown (fun g' hg' => by
      obtain rfl : g = g' := Option.some.inj hg'
      exact hset g (by omega))
  · refine RepAll.snoc ?_ ts vs ?_
    · refine Rep.keep (fun k hk => ?_) (fun k hk => ?_) t _ hr
      · exact (hset k (by omega)).trans (hst k hk.2 (fun e => by have := hne k e.symm; omega))
      · refine ⟨by rw [hszs]; omega, fun e => ?_, by omega⟩
        obtain rfl : k = g := Option.some.inj e
        rcases hl with hl | hl
        · have := hne k hl; omega
        · omega
    · refine RepAll.keep (fun k hk => ?_) (fun k hk => ?_) ts vs h2.rep
      · exact (hset k hk.2.2).trans (hst k hk.1 hk.2.1)
      · refine ⟨by rw [hszs]; omega, fun e => ?_, hk.2.2⟩
        obtain rfl : k = g := Option.some.inj e
        rcases hl with hl | hl
        · exact hk.2.1 hl.symm
        · have := hk.1; omega
  · refine h2.below.trans ⟨?_, ?_, ?_, by rw [hszs]; omega, fun k hk => ?_⟩
    · exact hg.os
    · exact hg.tape
    · exact hg.output
    · have := h.hb
      have h5 := h2.below.size
      exact (hset k (by omega)).trans (hst k (by omega) (fun e => by have := hne k e.symm; omega))

theorem BI.blk3 {b : Nat} {w wr w2 w3 : World} {L : Value} {ts : List Tree} {vs : List Value} {o : Obj} (h : BI b w wr L ts vs) (hb2 : Below wr.heap.size wr w2) (hg : (w2.alloc o).grownBy w3 L.ownBlock) :
    w3.heap[b]? = some (.cells #[.int .i64 3, .int .i64 0, .string ⟨#[]⟩, L] 36 (0, 0)) := by
  have h2 := h.call hb2
  have hlb := lt_of_heap h2.blk
  exact ((hg.block b (by rw [World.size_alloc]; omega) (fun e => by have := (h.own.lt b e.symm).1; omega)).trans (Below.heap_alloc _ _ _ hlb)).trans h2.blk
theorem BI.start (w w1 : World) (hb : Below w.heap.size w w1) : BI w1.heap.size w (w1.alloc (.cells #[.int .i64 3, .int .i64 0, .string ⟨#[]⟩, .slice none 0 0] 36)) (.slice none 0 0) [] [] :=
  ⟨heap_alloc_new _ _, World.ownsRow_nil _ _ _ _, by rw [RepAll], hb.alloc hb.size _, hb.size⟩
theorem BI.slice {b : Nat} {w wr : World} {L : Value} {ts : List Tree} {vs : List Value} (h : BI b w wr L ts vs) : ∃ a cap, L = .slice a ts.length cap := by
  rcases h.own.2 with ⟨rfl, h0⟩ | ⟨g, cap, cur, rfl, -⟩
  · exact ⟨none, 0, by rw [h0]⟩
  · exact ⟨_, cap, rfl⟩
theorem BI.tree {b : Nat} {w wr : World} {L : Value} {ts : List Tree} {vs : List Value} (h : BI b w wr L ts vs) : Rep wr (S24 wr) (.list ts) (.agg #[.int .i64 3, .int .i64 0, .string ⟨#[]⟩, L]) := by
  have h0 : Rep wr (fun g => g < wr.heap.size) (.list ts) (.agg #[.int .i64 3, .int .i64 0, .string ⟨#[]⟩, L]) := by
    rw [Rep]
    refine ⟨L, vs, rfl, ?_, fun g hg => (h.own.lt g hg).2, RepAll.keep (fun _ _ => rfl) (fun g hg => hg.1) _ _ h.rep⟩
    refine ⟨h.own.1, ?_⟩
    rcases h.own.2 with h0 | ⟨g, cap, cur, hv, hb, hr⟩
    · exact .inl h0
    · exact .inr ⟨g, cap, cur, hv, Nat.zero_le _, hr⟩
  exact Rep.s24 _ _ h0
theorem infoV : (Tryd.prog.info? 36).map (fun i => (i.zero, i.size, i.bytes)) = some (some (.agg #[.int .i64 0, .int .i64 0, .string ByteArray.empty, .slice none 0 0]), 4, 56) := by kernel_rfl
theorem cell_new4 (w : World) (x y z u : Value) (t : TypeId) {B : Nat} (hB : w.heap.size = B) : ∀ j v, [x, y, z, u][j]? = some v → (w.alloc (.cells #[x, y, z, u] t)).cell? (Addr.add ⟨B, 0, none⟩ j) = some v := fun j v hv => by
  subst hB
  rw [Addr.add_mid, Nat.zero_add]
  exact (row_new w #[x, y, z, u] t).cell hv
theorem ok_opT {x : Opr} (h : okB x = true) : Ok (opT x) := by
  cases hi : inB x with
  | true => rw [opT_in hi, Ok]; trivial
  | false =>
    have hc := cpB_true (cp_of_not h hi)
    simp only [opT_cp hi, Ok, OkL, and_true]
    omega
theorem tx_opT {x : Opr} (h : okB x = true) : Tx (opT x) := by
  have hs := okB_size h
  cases hi : inB x with
  | true => rw [opT_in hi, Tx, BA.len]; omega
  | false => rw [opT_cp hi, Tx, TxL, Tx, TxL, Tx, TxL]; trivial
theorem lev_opT (x : Opr) : Lev 2 (opT x) := by
  cases hi : inB x with
  | true => rw [opT_in hi, Lev]; decide
  | false => simp only [opT_cp hi, Lev, LevL, and_true]; decide
theorem okL_map : ∀ {xs : List Opr}, (∀ x ∈ xs, okB x = true) → OkL (xs.map opT) ∧ TxL (xs.map opT) ∧ LevL 2 (xs.map opT)
  | [], _ => by simp [OkL, TxL, LevL]
  | x :: r, h => by
    have h1 := h x (by simp)
    obtain ⟨a, b, c⟩ := okL_map (xs := r) (fun y hy => h y (by simp [hy]))
    rw [List.map_cons, OkL, TxL, LevL]
    exact ⟨⟨ok_opT h1, a⟩, ⟨tx_opT h1, b⟩, ⟨lev_opT x, c⟩⟩
theorem tree_ok {xs : List Opr} (h : rgB xs = true) : Ok (treeD xs) ∧ Tx (treeD xs) ∧ Lev 1 (treeD xs) := by
  obtain ⟨a, b, c⟩ := okL_map (xs := xs) (fun x hx => by obtain ⟨j, hj⟩ := List.mem_iff_getElem?.1 hx; exact (rgB_true h).2 j x hj)
  unfold treeD
  rw [Ok, Tx, Lev]
  exact ⟨a, b, by omega, c⟩
theorem map_take {xs : List Opr} {k : Nat} {x : Opr} (h : xs[k]? = some x) : (xs.take (k + 1)).map opT = (xs.take k).map opT ++ [opT x] := by rw [take_succ_of h, List.map_append]; rfl
end Go.Proofs.YtmagcikaepobiaaDoor.Dl
