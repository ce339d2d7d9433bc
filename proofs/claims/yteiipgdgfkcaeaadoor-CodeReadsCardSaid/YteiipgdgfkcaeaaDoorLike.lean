/- The document's Like: two values that are one tree are alike. -/
import Derived.Test.YteiipgdgfkcaeaaDoorRight
import Derived.Deep.RegionHeld3
namespace Go.Proofs.YteiipgdgfkcaeaaDoor
open Go.RowKit

def LikeOK (t : Tree) : Prop := ∀ (w : World) (a b : Value), Rep w (S24 w) t a → Rep w (S24 w) t b → nodes t ≤ 4000 → Calls Tryd.prog 7 #[a, b] w fun e w' => e = .returned (.bool true) ∧ Below w.heap.size w w'

theorem rep_two {w : World} {t : Tree} {a b : Value} (ha : Rep w (S24 w) t a) (hb : Rep w (S24 w) t b) :
    ∃ (kd n0 : Int) (b0 : ByteArray) (a1 a2 : Option Addr) (cap1 cap2 : Nat) (xs ys : List Value), a = .agg #[.int .i64 kd, .int .i64 n0, .string b0, .slice a1 (kids t).length cap1] ∧ b = .agg #[.int .i64 kd, .int .i64 n0, .string b0, .slice a2 (kids t).length cap2] ∧
    w.ownsRow 0 24 4 (.slice a1 (kids t).length cap1) (kids t).length xs ∧ RepAll w (S24 w) (kids t) xs ∧ w.ownsRow 0 24 4 (.slice a2 (kids t).length cap2) (kids t).length ys ∧ RepAll w (S24 w) (kids t) ys := by
  obtain ⟨kd, n0, b0, a1, cap1, xs, rfl, ho1, hr1⟩ := rep_kids ha
  obtain ⟨kd', n0', b0', a2, cap2, ys, rfl, ho2, hr2⟩ := rep_kids hb
  have h3 : kd' = kd ∧ n0' = n0 ∧ b0' = b0 := by
    cases t with
    | num n => rw [Rep] at ha hb; simp at ha hb; refine ⟨?_, ?_, ?_⟩ <;> simp_all
    | text bs => rw [Rep] at ha hb; simp at ha hb; refine ⟨?_, ?_, ?_⟩ <;> simp_all
    | list ts =>
      rw [Rep] at ha hb
      obtain ⟨L, xs', ha, -⟩ := ha
      obtain ⟨L', ys', hb, -⟩ := hb
      simp at ha hb; refine ⟨?_, ?_, ?_⟩ <;> simp_all
  obtain ⟨rfl, rfl, rfl⟩ := h3
  exact ⟨_, _, _, a1, a2, cap1, cap2, xs, ys, rfl, rfl, ho1, hr1, ho2, hr2⟩

theorem K24.below {w w' : World} (h : Below w.heap.size w w') : K24 w w' := fun g _ e => (h.block g (lt_of_heap e)).trans e

theorem nodes_mem : ∀ {ts : List Tree} {t : Tree}, t ∈ ts → nodes t ≤ nodesL ts
  | u :: ts, t, h => by
    rw [nodesL]
    rcases List.mem_cons.1 h with rfl | h
    · omega
    · have := nodes_mem h; omega

set_option maxHeartbeats 3200000 in
set_option maxRecDepth 100000 in
theorem like_of {t : Tree} (ht : ∀ u, u ∈ kids t → LikeOK u) : LikeOK t := by
  intro w a b ha hb hn
  obtain ⟨kd, n0, b0, a1, a2, cap1, cap2, xs, ys, rfl, rfl, ho1, hr1, ho2, hr2⟩ := rep_two ha hb
  have hnk := nodes_kids t
  have hlen := nodesL_len (kids t)
  have hlenb : (kids t).length ≤ 4000 := by omega
  have HN := Lib.hid hnk
  have HT := Lib.hid ht
  have HO1 := Lib.hid ho1
  have HR1 := Lib.hid hr1
  have HO2 := Lib.hid ho2
  have HR2 := Lib.hid hr2
  clear ht ho1 hr1 ho2 hr2 ha hb hnk
  go_enter Tryd.func7, Tryd.ntmps7
  go_wp2
  have hA : ((w.alloc (.cells #[.int .i64 kd, .int .i64 n0, .string b0, .slice a1 (kids t).length cap1] 24)).alloc (.cells #[.int .i64 kd, .int .i64 n0, .string b0, .slice a2 (kids t).length cap2] 24)).heap[w.heap.size]? = some (.cells #[.int .i64 kd, .int .i64 n0, .string b0, .slice a1 (kids t).length cap1] 24 (0, 0)) := by
    rw [Below.heap_alloc _ _ _ (by simp)]; exact heap_alloc_new _ _
  have hB : ((w.alloc (.cells #[.int .i64 kd, .int .i64 n0, .string b0, .slice a1 (kids t).length cap1] 24)).alloc (.cells #[.int .i64 kd, .int .i64 n0, .string b0, .slice a2 (kids t).length cap2] 24)).heap[w.heap.size + 1]? = some (.cells #[.int .i64 kd, .int .i64 n0, .string b0, .slice a2 (kids t).length cap2] 24 (0, 0)) := by
    have := heap_alloc_new (w.alloc (.cells #[.int .i64 kd, .int .i64 n0, .string b0, .slice a1 (kids t).length cap1] 24)) (.cells #[.int .i64 kd, .int .i64 n0, .string b0, .slice a2 (kids t).length cap2] 24)
    simpa using this
  have hW : Below w.heap.size w ((w.alloc (.cells #[.int .i64 kd, .int .i64 n0, .string b0, .slice a1 (kids t).length cap1] 24)).alloc (.cells #[.int .i64 kd, .int .i64 n0, .string b0, .slice a2 (kids t).length cap2] 24)) := (below1 _ _).alloc (by simp) _
  generalize (w.alloc (.cells #[.int .i64 kd, .int .i64 n0, .string b0, .slice a1 (kids t).length cap1] 24)).alloc (.cells #[.int .i64 kd, .int .i64 n0, .string b0, .slice a2 (kids t).length cap2] 24) = W at *
  go_loopw [37] (fun i wr => ∃ k : Nat, k ≤ (kids t).length ∧ i = .int .i64 k ∧ Hid (Below w.heap.size w wr) ∧ Hid (wr.heap[w.heap.size]? = some (.cells #[.int .i64 kd, .int .i64 n0, .string b0, .slice a1 (kids t).length cap1] 24 (0, 0))) ∧ Hid (wr.heap[w.heap.size + 1]? = some (.cells #[.int .i64 kd, .int .i64 n0, .string b0, .slice a2 (kids t).length cap2] 24 (0, 0)))) (fun i _ => (kids t).length - (intOf i).toNat)
  case atStart => exact ⟨0, Nat.zero_le _, rfl, Lib.hid hW, Lib.hid hA, Lib.hid hB⟩
  case round =>
    obtain ⟨k, hk, rfl, HW, HA, HB⟩ := hrel
    clear hA hB hW
    by_cases hlt : k < (kids t).length
    · obtain ⟨c0, c1, c2, c3, x0, x1, x2, x3, hrepx⟩ := RepAll.get (kids t) xs k (kids t)[k] HR1.out (List.getElem?_eq_getElem hlt)
      obtain ⟨d0, d1, d2, d3, y0, y1, y2, y3, hrepy⟩ := RepAll.get (kids t) ys k (kids t)[k] HR2.out (List.getElem?_eq_getElem hlt)
      obtain ⟨g1, rfl⟩ : ∃ g, a1 = some ⟨g, 0, none⟩ := by
        rcases HO1.out.2 with ⟨-, h0⟩ | ⟨g, cap, cur, hv, -⟩
        · omega
        · injection hv with hv; exact ⟨g, hv⟩
      obtain ⟨g2, rfl⟩ : ∃ g, a2 = some ⟨g, 0, none⟩ := by
        rcases HO2.out.2 with ⟨-, h0⟩ | ⟨g, cap, cur, hv, -⟩
        · omega
        · injection hv with hv; exact ⟨g, hv⟩
      obtain ⟨e1, e2, e3, e4, e5, e6, hcv⟩ := Rep.cells _ _ hrepx
      injection hcv with hcv
      injection hcv with hcv
      injection hcv with h0 hcv
      injection hcv with h1 hcv
      injection hcv with h2 hcv
      injection hcv with h3 hcv
      subst h0 h1 h2 h3
      obtain ⟨f1, f2, f3, f4, f5, f6, hcw⟩ := Rep.cells _ _ hrepy
      injection hcw with hcw
      injection hcw with hcw
      injection hcw with h0 hcw
      injection hcw with h1 hcw
      injection hcw with h2 hcw
      injection hcw with h3 hcw
      subst h0 h1 h2 h3
      clear hcv hcw
      have own1 : Hid (∀ w', Below w.heap.size w w' → w'.ownsRow 0 24 4 (.slice (some ⟨g1, 0, none⟩) (kids t).length cap1) (kids t).length xs) := Lib.hid (fun w' hb => ownsRow_keep HO1.out (fun g' hg' => by obtain ⟨cur, hc⟩ := own24 HO1.out g' hg'; exact hb.block g' (lt_of_heap hc)))
      have own2 : Hid (∀ w', Below w.heap.size w w' → w'.ownsRow 0 24 4 (.slice (some ⟨g2, 0, none⟩) (kids t).length cap2) (kids t).length ys) := Lib.hid (fun w' hb => ownsRow_keep HO2.out (fun g' hg' => by obtain ⟨cur, hc⟩ := own24 HO2.out g' hg'; exact hb.block g' (lt_of_heap hc)))
      have hcells : Hid (∀ w', Below w.heap.size w w' → w'.heap[w.heap.size]? = some (.cells #[.int .i64 kd, .int .i64 n0, .string b0, .slice (some ⟨g1, 0, none⟩) (kids t).length cap1] 24 (0, 0)) → w'.heap[w.heap.size + 1]? = some (.cells #[.int .i64 kd, .int .i64 n0, .string b0, .slice (some ⟨g2, 0, none⟩) (kids t).length cap2] 24 (0, 0)) →
          w'.cell? ⟨w.heap.size, 3, none⟩ = some (.slice (some ⟨g1, 0, none⟩) (kids t).length cap1) ∧ w'.cell? ⟨w.heap.size + 1, 3, none⟩ = some (.slice (some ⟨g2, 0, none⟩) (kids t).length cap2) ∧
          w'.cell? ⟨g1, k * 4, none⟩ = some (.int .i64 e1) ∧ w'.cell? ⟨g1, k * 4 + 1, none⟩ = some (.int .i64 e2) ∧ w'.cell? ⟨g1, k * 4 + 2, none⟩ = some (.string e3) ∧ w'.cell? ⟨g1, k * 4 + 3, none⟩ = some (.slice e4 e5 e6) ∧
          w'.cell? ⟨g2, k * 4, none⟩ = some (.int .i64 f1) ∧ w'.cell? ⟨g2, k * 4 + 1, none⟩ = some (.int .i64 f2) ∧ w'.cell? ⟨g2, k * 4 + 2, none⟩ = some (.string f3) ∧ w'.cell? ⟨g2, k * 4 + 3, none⟩ = some (.slice f4 f5 f6)) := Lib.hid (fun w' hb q1 q2 =>
        ⟨by simp [World.cell?, q1], by simp [World.cell?, q2], row_cell (own1.out w' hb) x0, row_cell (own1.out w' hb) x1, row_cell (own1.out w' hb) x2, row_cell (own1.out w' hb) x3, row_cell (own2.out w' hb) y0, row_cell (own2.out w' hb) y1, row_cell (own2.out w' hb) y2, row_cell (own2.out w' hb) y3⟩)
      obtain ⟨p0, p1, p2, p3, p4, p5, p6, p7, p8, p9⟩ := hcells.out wr HW.out HA.out HB.out
      have hnd := nodes_mem (List.getElem_mem hlt)
      have HCALL : Hid (Calls Tryd.prog 7 #[.agg #[.int .i64 e1, .int .i64 e2, .string e3, .slice e4 e5 e6], .agg #[.int .i64 f1, .int .i64 f2, .string f3, .slice f4 f5 f6]] wr.drew fun e w' => e = .returned (.bool true) ∧
          (w'.cell? ⟨w.heap.size, 3, none⟩ = some (.slice (some ⟨g1, 0, none⟩) (kids t).length cap1) ∧ w'.cell? ⟨w.heap.size + 1, 3, none⟩ = some (.slice (some ⟨g2, 0, none⟩) (kids t).length cap2) ∧
          w'.cell? ⟨g1, k * 4, none⟩ = some (.int .i64 e1) ∧ w'.cell? ⟨g1, k * 4 + 1, none⟩ = some (.int .i64 e2) ∧ w'.cell? ⟨g1, k * 4 + 2, none⟩ = some (.string e3) ∧ w'.cell? ⟨g1, k * 4 + 3, none⟩ = some (.slice e4 e5 e6) ∧
          w'.cell? ⟨g2, k * 4, none⟩ = some (.int .i64 f1) ∧ w'.cell? ⟨g2, k * 4 + 1, none⟩ = some (.int .i64 f2) ∧ w'.cell? ⟨g2, k * 4 + 2, none⟩ = some (.string f3) ∧ w'.cell? ⟨g2, k * 4 + 3, none⟩ = some (.slice f4 f5 f6)) ∧ Hid (Below wr.heap.size wr w')) := Lib.hid (by
        have hkw : K24 w wr.drew := K24.below HW.out.drew
        refine (HT.out (kids t)[k] (List.getElem_mem hlt) wr.drew _ _ (hrepx.k24 hkw) (hrepy.k24 hkw) (by rw [HN.out] at hn; omega)).mono fun e w' ⟨he, hb⟩ => ?_
        have hb' : Below wr.heap.size wr w' := ⟨hb.os, hb.tape, hb.output, hb.size, hb.block⟩
        exact ⟨he, hcells.out w' (HW.out.trans (hb'.mono HW.out.size)) ((hb'.block _ (lt_of_heap HA.out)).trans HA.out) ((hb'.block _ (lt_of_heap HB.out)).trans HB.out), Lib.hid hb'⟩)
      clear x0 x1 x2 x3 y0 y1 y2 y3 hrepx hrepy own1 own2 hcells hnd
      have hk0 : (0 : Int) ≤ (k : Int) := by omega
      have hkl : (k : Int) < ((kids t).length : Int) := by omega
      go_wp2
      go_region_held3 (fun w' => w'.cell? ⟨w.heap.size, 3, none⟩ = some (.slice (some ⟨g1, 0, none⟩) (kids t).length cap1) ∧ w'.cell? ⟨w.heap.size + 1, 3, none⟩ = some (.slice (some ⟨g2, 0, none⟩) (kids t).length cap2) ∧
          w'.cell? ⟨g1, k * 4, none⟩ = some (.int .i64 e1) ∧ w'.cell? ⟨g1, k * 4 + 1, none⟩ = some (.int .i64 e2) ∧ w'.cell? ⟨g1, k * 4 + 2, none⟩ = some (.string e3) ∧ w'.cell? ⟨g1, k * 4 + 3, none⟩ = some (.slice e4 e5 e6) ∧
          w'.cell? ⟨g2, k * 4, none⟩ = some (.int .i64 f1) ∧ w'.cell? ⟨g2, k * 4 + 1, none⟩ = some (.int .i64 f2) ∧ w'.cell? ⟨g2, k * 4 + 2, none⟩ = some (.string f3) ∧ w'.cell? ⟨g2, k * 4 + 3, none⟩ = some (.slice f4 f5 f6)) (first | go_keep | assumption)
        (first | (go_at_call 7; refine HCALL.out.mono ?_; rintro e w2 ⟨rfl, hq2, hb2⟩))
      have HW2 : Hid (Below w.heap.size w w2) := Lib.hid (HW.out.trans (hb2.out.mono HW.out.size))
      have HA2 : Hid (w2.heap[w.heap.size]? = some (.cells #[.int .i64 kd, .int .i64 n0, .string b0, .slice (some ⟨g1, 0, none⟩) (kids t).length cap1] 24 (0, 0))) := Lib.hid ((hb2.out.block _ (lt_of_heap HA.out)).trans HA.out)
      have HB2 : Hid (w2.heap[w.heap.size + 1]? = some (.cells #[.int .i64 kd, .int .i64 n0, .string b0, .slice (some ⟨g2, 0, none⟩) (kids t).length cap2] 24 (0, 0))) := Lib.hid ((hb2.out.block _ (lt_of_heap HB.out)).trans HB.out)
      clear hq2 hb2 p0 p1 p2 p3 p4 p5 p6 p7 p8 p9
      go_wp2
      go_roundw
      case rel => exact ⟨k + 1, by omega, by go_num, HW2, HA2, HB2⟩
      case measure => simp [intOf]; omega
    · go_wp2
      go_ret
      exact ⟨rfl, HW.out⟩

mutual
theorem like_ok : ∀ t : Tree, LikeOK t
  | .num n => like_of (fun u hu => by cases hu)
  | .text bs => like_of (fun u hu => by cases hu)
  | .list ts => like_of (like_okL ts)
theorem like_okL : ∀ ts : List Tree, ∀ t, t ∈ ts → LikeOK t
  | [], t, ht => by cases ht
  | u :: ts, t, ht => by
    rcases List.mem_cons.1 ht with h' | h'
    · rw [h']; exact like_ok u
    · exact like_okL ts t h'
end

end Go.Proofs.YteiipgdgfkcaeaaDoor
