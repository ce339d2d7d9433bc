/- The document's Put: the shape, the bytes, Right and Put. -/
import Derived.Test.YtmagcikaepobiaaDoorRMny
import Derived.Test.YtmagcikaepobiaaDoorWrite
import Derived.Lib.AppendStr
namespace Go.Proofs.YtmagcikaepobiaaDoor
open Go.RowKit

theorem below_tr {w w1 w2 : World} (h1 : Below w.heap.size w w1) (h2 : Below w1.heap.size w1 w2) : Below w.heap.size w w2 := h1.trans (h2.mono h1.size)
def ShapedOK (t : Tree) : Prop := ∀ (w : World) (v : Value), Rep w (S24 w) t v → nodes t ≤ 4000 → Calls Tryd.prog 48 #[v] w fun e w' => e = .returned (.bool true) ∧ Below w.heap.size w w'

set_option maxHeartbeats 1600000 in
set_option maxRecDepth 100000 in
theorem shaped_list {ts : List Tree} (hts : ∀ u, u ∈ ts → ShapedOK u) : ShapedOK (.list ts) := by
  intro w v hrep hn
  rw [Rep] at hrep
  obtain ⟨L, xs, rfl, ho, -, hr⟩ := hrep
  obtain ⟨a, n, cap, rfl, hne⟩ : ∃ a n cap, L = .slice a n cap ∧ n = ts.length := by
    rcases ho.2 with ⟨rfl, h0⟩ | ⟨g, cap, cur, rfl, -⟩
    · exact ⟨_, _, _, rfl, h0.symm⟩
    · exact ⟨_, _, _, rfl, rfl⟩
  subst hne
  have hlen := nodesL_len ts
  rw [nodes] at hn
  have HT := Lib.hid hts
  have HO := Lib.hid ho
  have HR := Lib.hid hr
  clear hts ho hr
  go_enter Tryd.func48, Tryd.ntmps48
  go_wp2
  have hB0 : Below w.heap.size w (w.alloc (.cells #[.int .i64 3, .int .i64 0, .string ⟨#[]⟩, .slice a ts.length cap] 36)) := below1 w _
  have hb0 : (w.alloc (.cells #[.int .i64 3, .int .i64 0, .string ⟨#[]⟩, .slice a ts.length cap] 36)).heap[w.heap.size]? = some (.cells #[.int .i64 3, .int .i64 0, .string ⟨#[]⟩, .slice a ts.length cap] 36 (0, 0)) := heap_alloc_new _ _
  generalize w.alloc (.cells #[.int .i64 3, .int .i64 0, .string ⟨#[]⟩, .slice a ts.length cap] 36) = W at *
  go_loopw [34] (fun i wr => ∃ k : Nat, k ≤ ts.length ∧ i = .int .i64 k ∧ Hid (Below w.heap.size w wr) ∧ Hid (wr.heap[w.heap.size]? = some (.cells #[.int .i64 3, .int .i64 0, .string ⟨#[]⟩, .slice a ts.length cap] 36 (0, 0)))) (fun i _ => ts.length - (intOf i).toNat)
  case atStart => exact ⟨0, Nat.zero_le _, rfl, Lib.hid hB0, Lib.hid hb0⟩
  case round =>
    clear hB0 hb0
    obtain ⟨k, hk, rfl, HB, HX⟩ := hrel
    by_cases hlt : k < ts.length
    · have hget := List.getElem?_eq_getElem hlt
      obtain ⟨g, e1, e2, e3, e4, e5, e6, rfl, hrepk, hcells⟩ := kid_at HO.out HR.out hget
      have hk24 := K24.below HB.out
      obtain ⟨hg, p0, p1, p2, p3⟩ := hcells wr hk24
      have hnm := nodes_mem (List.getElem_mem hlt)
      have HC : Hid (∀ W, K24 wr W → Calls Tryd.prog 48 #[.agg #[.int .i64 e1, .int .i64 e2, .string e3, .slice e4 e5 e6]] W fun e w' => e = .returned (.bool true) ∧ Below W.heap.size W w') :=
        Lib.hid (fun W hW => HT.out ts[k] (List.getElem_mem hlt) W _ (hrepk.k24 (hk24.trans hW)) (by omega))
      clear hcells hrepk hk24 hget hnm
      go_wp2_with fail
      refine (HC.out _ ((K24.refl _).alloc _)).mono ?_
      rintro e w2 ⟨rfl, hb2⟩
      have HB12 := Lib.hid (below_tr (below1 wr (.cells #[.int .i64 e1, .int .i64 e2, .string e3, .slice e4 e5 e6] 36)) hb2)
      have HB2 : Hid (Below w.heap.size w w2) := Lib.hid (HB.out.trans (HB12.out.mono HB.out.size))
      have HX2 : Hid (w2.heap[w.heap.size]? = some (.cells #[.int .i64 3, .int .i64 0, .string ⟨#[]⟩, .slice (some ⟨g, 0, none⟩) ts.length cap] 36 (0, 0))) := Lib.hid ((HB12.out.block _ (lt_of_heap HX.out)).trans HX.out)
      clear hb2 p0 p1 p2 p3
      go_wp2
      go_roundw
      case rel => exact ⟨k + 1, by omega, by go_num, HB2, HX2⟩
      case measure => simp [intOf]; omega
    · have x1 : wr.cell? ⟨w.heap.size, 1, none⟩ = some (.int .i64 0) := by simp [World.cell?, HX.out]
      have x2 : wr.cell? ⟨w.heap.size, 2, none⟩ = some (.string ⟨#[]⟩) := by simp [World.cell?, HX.out]
      go_wp2
      go_ret
      exact ⟨rfl, HB.out⟩
set_option maxHeartbeats 1600000 in
theorem shaped_leaf {t : Tree} (hk : ∀ ts, t ≠ .list ts) : ShapedOK t := by
  intro w v hrep _
  cases t with
  | num n =>
    rw [Rep] at hrep; subst hrep
    go_enter Tryd.func48, Tryd.ntmps48
    go_wp2
    go_ret
    exact ⟨rfl, below1 _ _⟩
  | text bs =>
    rw [Rep] at hrep; subst hrep
    go_enter Tryd.func48, Tryd.ntmps48
    go_wp2
    go_ret
    exact ⟨rfl, below1 _ _⟩
  | list ts => exact absurd rfl (hk ts)
mutual
theorem shaped_ok : ∀ t : Tree, ShapedOK t
  | .num n => shaped_leaf (fun ts h => by cases h)
  | .text bs => shaped_leaf (fun ts h => by cases h)
  | .list ts => shaped_list (shaped_okL ts)
theorem shaped_okL : ∀ ts : List Tree, ∀ t, t ∈ ts → ShapedOK t
  | [], t, ht => by cases ht
  | u :: ts, t, ht => by
    rcases List.mem_cons.1 ht with h' | h'
    · rw [h']; exact shaped_ok u
    · exact shaped_okL ts t h'
end
theorem rright_any {t : Tree} {v : Value} {w : World} (hrep : Rep w (S24 w) t v) (hlev : Lev 1 t) (hn : nodes t ≤ 4000) : Calls Tryd.prog 31 #[v] w fun e w' => e = .returned (.int .i64 0) ∧ Below w.heap.size w w' := by
  have hdl := dep_lev t 1 hlev
  obtain ⟨kd, n0, b0, a, len, cap, rfl⟩ := Rep.cells t v hrep
  have H1 := Lib.hid (fun (W : World) (hb : Below w.heap.size w W) => many_ok t W _ 4001 (hrep.k24 (K24.below hb)) (by omega) (by omega))
  have H2 := Lib.hid (fun (W : World) (hb : Below w.heap.size w W) => deep_ok t W _ 31 (hrep.k24 (K24.below hb)) (by omega) (by omega) hn)
  have H3 := Lib.hid (fun (W : World) (hb : Below w.heap.size w W) => shaped_ok t W _ (hrep.k24 (K24.below hb)) hn)
  clear hrep hlev
  have h1 : ¬ 4000 < (nodes t : Int) := by omega
  have h2 : ¬ 30 < (dep t : Int) := by omega
  go_enter Tryd.func31, Tryd.ntmps31
  go_wp2_with fail
  refine (H1.out _ ((Below.refl _ _).alloc (Nat.le_refl _) _)).mono ?_
  rintro e w1 ⟨rfl, hb1⟩
  have HX : Hid (w1.heap[w.heap.size]? = some (.cells #[.int .i64 kd, .int .i64 n0, .string b0, .slice a len cap] 36 (0, 0))) := Lib.hid ((hb1.block _ (by simp)).trans (heap_alloc_new _ _))
  have HB1 : Hid (Below w.heap.size w w1) := Lib.hid (below_tr (below1 w _) hb1)
  clear hb1
  have c0 : w1.cell? ⟨w.heap.size, 0, none⟩ = some (.int .i64 kd) := by simp [World.cell?, HX.out]
  have c1 : w1.cell? ⟨w.heap.size, 1, none⟩ = some (.int .i64 n0) := by simp [World.cell?, HX.out]
  have c2 : w1.cell? ⟨w.heap.size, 2, none⟩ = some (.string b0) := by simp [World.cell?, HX.out]
  have c3 : w1.cell? ⟨w.heap.size, 3, none⟩ = some (.slice a len cap) := by simp [World.cell?, HX.out]
  go_wp2_with fail
  refine (H2.out _ HB1.out).mono ?_
  rintro e w2 ⟨rfl, hb2⟩
  have HX2 : Hid (w2.heap[w.heap.size]? = some (.cells #[.int .i64 kd, .int .i64 n0, .string b0, .slice a len cap] 36 (0, 0))) := Lib.hid ((hb2.block _ (lt_of_heap HX.out)).trans HX.out)
  have HB2 : Hid (Below w.heap.size w w2) := Lib.hid (below_tr HB1.out hb2)
  clear hb2 c0 c1 c2 c3
  have c0 : w2.cell? ⟨w.heap.size, 0, none⟩ = some (.int .i64 kd) := by simp [World.cell?, HX2.out]
  have c1 : w2.cell? ⟨w.heap.size, 1, none⟩ = some (.int .i64 n0) := by simp [World.cell?, HX2.out]
  have c2 : w2.cell? ⟨w.heap.size, 2, none⟩ = some (.string b0) := by simp [World.cell?, HX2.out]
  have c3 : w2.cell? ⟨w.heap.size, 3, none⟩ = some (.slice a len cap) := by simp [World.cell?, HX2.out]
  go_wp2_with fail
  refine (H3.out _ HB2.out).mono ?_
  rintro e w3 ⟨rfl, hb3⟩
  have HB3 : Hid (Below w.heap.size w w3) := Lib.hid (below_tr HB2.out hb3)
  clear hb3
  go_wp2
  go_ret
  exact ⟨rfl, HB3.out⟩
end Go.Proofs.YtmagcikaepobiaaDoor
