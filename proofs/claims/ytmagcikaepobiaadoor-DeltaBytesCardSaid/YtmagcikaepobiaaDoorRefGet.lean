/- The document's own reader: Get. -/
import Derived.Test.YtmagcikaepobiaaDoorRefVal
import Derived.Test.YtmagcikaepobiaaDoorGet
namespace Go.Proofs.YtmagcikaepobiaaDoor
open Go.RowKit

theorem value_all {s : ByteArray} (hs : s.size ≤ 131072) : ∀ f, VOK s f := by
  intro f
  induction f using Nat.strongRecOn with
  | ind f ih =>
    cases f with
    | zero => intro pb i within count w _ _ _ _ hf; omega
    | succ f => exact value_ok hs (fun f' h => ih f' h)

theorem RGet.bad {er k pb h : Nat} {w W w1 w4 w5 : World} (hW : Below w.heap.size w W) (hf : Fr (· = pb) W w1) (hpb : w.heap.size ≤ pb) (hb : But h w1 w4) (h1 : w.heap.size ≤ h) (h5 : Below w4.heap.size w4 w5) :
    GetPost (.bad er k) w (.returned (.tuple #[zeroV, .int .i64 er, .int .i64 k])) w5 :=
  ⟨rfl, (But.below (Fr.below_of hW hW.size hf (fun k hk => by omega)) hb h1).trans (h5.mono (by have := hf.size; have := hW.size; rw [hb.size]; omega))⟩
theorem RGet.ok {pb h : Nat} {t : Tree} {v : Value} {w W w1 w4 w5 : World} (hW : Below w.heap.size w W) (hf : Fr (· = pb) W w1) (hrep : Rep w1 (fun b => W.heap.size ≤ b ∧ b < w1.heap.size) t v) (hpb : w.heap.size ≤ pb) (hb : But h w1 w4) (h1 : w.heap.size ≤ h) (h2 : h < W.heap.size) (h5 : Below w4.heap.size w4 w5) :
    GetPost (.ok t 0) w (.returned (.tuple #[v, .int .i64 0, .int .i64 0])) w5 :=
  ⟨⟨v, rfl, Rep.keep (fun b hbb => (h5.block b (by rw [hb.size]; exact hbb.2)).trans (hb.block b (by omega))) (fun b hbb => ⟨by have := hW.size; omega, by have := h5.size; have := hb.size; omega⟩) _ _ hrep⟩,
    (But.below (Fr.below_of hW hW.size hf (fun k hk => by omega)) hb h1).trans (h5.mono (by have := hf.size; have := hW.size; rw [hb.size]; omega))⟩

set_option maxHeartbeats 3200000 in
set_option maxRecDepth 100000 in
theorem rget_any (s : ByteArray) (w : World) (hs : s.size ≤ 140737488351232) : Calls Tryd.prog 19 #[.string s] w (GetPost (getF s.data.toList) w) := by
  have hsl : s.data.toList.length = s.size := by simp
  by_cases hbig : 131072 < s.size
  · have HX : Hid (getF s.data.toList = .bad 2 0) := Lib.hid (by unfold getF; rw [hsl, if_pos hbig])
    clear hsl
    go_enter Tryd.func19, Tryd.ntmps19
    go_wp2
    refine bodyPost_ret (v := .tuple #[zeroV, .int .i64 2, .int .i64 0]) (by simp [results, Tryd.results19, go_sem]) rfl ?_
    rw [HX.out]
    exact ⟨rfl, below1 _ _⟩
  · have HX : Hid (getF s.data.toList = match (rdV s.data.toList (2 * s.size + 1) 0 1 0).1 with | .ok t k => if k < s.size then .bad 11 k else .ok t 0 | .bad e k => .bad e k) := Lib.hid (by unfold getF; rw [hsl, if_neg hbig]; rfl)
    have hV := Lib.hid (value_all (s := s) (by omega) (2 * s.size + 1))
    have hbd := (rd_bd s.data.toList (2 * s.size + 1)).1 0 1 0 (by omega)
    rw [hsl] at hbd
    have hs2 : s.size ≤ 131072 := by omega
    clear hsl
    go_enter Tryd.func19, Tryd.ntmps19
    go_wp2_with fail
    have hW : Below w.heap.size w ((w.alloc (.cells #[.int .i64 0, .int .i64 0, .string ⟨#[]⟩, .slice none 0 0] 36)).alloc (.cells #[.string s, .int .i64 0, .int .i64 0, .int .i64 0] 69)) := (below1 _ _).alloc (by simp) _
    have hp0 : PS (w.heap.size + 1) s 0 0 0 ((w.alloc (.cells #[.int .i64 0, .int .i64 0, .string ⟨#[]⟩, .slice none 0 0] 36)).alloc (.cells #[.string s, .int .i64 0, .int .i64 0, .int .i64 0] 69)) := by
      have := heap_alloc_new (w.alloc (.cells #[.int .i64 0, .int .i64 0, .string ⟨#[]⟩, .slice none 0 0] 36)) (.cells #[.string s, .int .i64 0, .int .i64 0, .int .i64 0] 69)
      simpa [PS] using this
    have hr0' : ((w.alloc (.cells #[.int .i64 0, .int .i64 0, .string ⟨#[]⟩, .slice none 0 0] 36)).alloc (.cells #[.string s, .int .i64 0, .int .i64 0, .int .i64 0] 69)).heap[w.heap.size]? = some (.cells #[.int .i64 0, .int .i64 0, .string ⟨#[]⟩, .slice none 0 0] 36 (0, 0)) := by
      rw [Below.heap_alloc _ _ _ (by simp)]; exact heap_alloc_new _ _
    have hsz : ((w.alloc (.cells #[.int .i64 0, .int .i64 0, .string ⟨#[]⟩, .slice none 0 0] 36)).alloc (.cells #[.string s, .int .i64 0, .int .i64 0, .int .i64 0] 69)).heap.size = w.heap.size + 2 := by simp
    generalize (w.alloc (.cells #[.int .i64 0, .int .i64 0, .string ⟨#[]⟩, .slice none 0 0] 36)).alloc (.cells #[.string s, .int .i64 0, .int .i64 0, .int .i64 0] 69) = W at *
    refine Calls.mono (hV.out (w.heap.size + 1) 0 0 0 W (by omega) (by omega) (by omega) hp0 (by omega)) ?_
    intro e w1 hpost
    have hfr := hpost.2
    have hsz1 := hfr.size
    rw [hsz] at hsz1
    have hres := (hfr.block w.heap.size (by omega) (by omega)).trans hr0'
    have hr0 : w1.cell? ⟨w.heap.size, 0, none⟩ = some (.int .i64 0) := by simp [World.cell?, hres]
    have hr1 : w1.cell? ⟨w.heap.size, 1, none⟩ = some (.int .i64 0) := by simp [World.cell?, hres]
    have hr2 : w1.cell? ⟨w.heap.size, 2, none⟩ = some (.string ⟨#[]⟩) := by simp [World.cell?, hres]
    have hr3 : w1.cell? ⟨w.heap.size, 3, none⟩ = some (.slice none 0 0) := by simp [World.cell?, hres]
    have hrf : ∀ j, w1.frozen? ⟨w.heap.size, j, none⟩ = false := frozen_of_heap hres
    have hlt0 : w.heap.size < w1.heap.size := by omega
    have hlt1 : w.heap.size + 1 < w1.heap.size := by omega
    have HRES := Lib.hid hres
    have HW := Lib.hid hW
    have HFR := Lib.hid hfr
    have HSZ := Lib.hid hsz
    clear hres hp0 hr0' hfr hW hV hsz
    generalize hr : rdV s.data.toList (2 * s.size + 1) 0 1 0 = r at hpost HX hbd
    obtain ⟨r, cn⟩ := r
    obtain ⟨b1, -, -, -⟩ := hbd
    clear hr
    cases r with
    | bad er k =>
      obtain ⟨⟨rfl, m', hps⟩, -⟩ := hpost
      have hE0 : ((er : Int) != 0) = true := by have := b1.1; simp; omega
      have hE1 : ((er : Int) == 0) = false := by have := b1.1; simp; omega
      have HX2 : Hid (getF s.data.toList = .bad er k) := Lib.hid (HX.out.trans rfl)
      have hc1 := hps.c1
      have hc3 := hps.c3
      clear b1 HX hps
      go_wp2
      go_region
      go_wp2
      have h4 := heap_put4 HRES.out (.int .i64 0) (.int .i64 0) (.string ⟨#[]⟩) (.slice none 0 0)
      have hbut := But.put4 w.heap.size w1 (.int .i64 0) (.int .i64 0) (.string ⟨#[]⟩) (.slice none 0 0)
      generalize ((((w1.setCell ⟨w.heap.size, 0, none⟩ (.int .i64 0)).setCell ⟨w.heap.size, 1, none⟩ (.int .i64 0)).setCell ⟨w.heap.size, 2, none⟩ (.string ⟨#[]⟩)).setCell ⟨w.heap.size, 3, none⟩ (.slice none 0 0)) = w4 at h4 hbut ⊢
      have h5 : (w4.alloc (.cells #[.int .i64 0, .int .i64 0, .string ⟨#[]⟩, .slice none 0 0] 36)).drew.heap[w.heap.size]? = some (.cells #[.int .i64 0, .int .i64 0, .string ⟨#[]⟩, .slice none 0 0] 36 (0, 0)) := (Below.heap_alloc w4 _ w.heap.size (by rw [hbut.size]; exact hlt0)).trans h4
      have hB5 : Below w4.heap.size w4 (w4.alloc (.cells #[.int .i64 0, .int .i64 0, .string ⟨#[]⟩, .slice none 0 0] 36)).drew := (below1 w4 _).drew
      generalize (w4.alloc (.cells #[.int .i64 0, .int .i64 0, .string ⟨#[]⟩, .slice none 0 0] 36)).drew = w5 at h5 hB5 ⊢
      exact bodyPost_ret (v := .tuple #[zeroV, .int .i64 er, .int .i64 k]) (by simp [results, Tryd.results19, go_sem, World.cell?, h5]) rfl (by rw [HX2.out]; exact RGet.bad HW.out HFR.out (by omega) hbut (Nat.le_refl _) hB5)
    | ok t k =>
      obtain ⟨⟨v, rfl, hrep, hps⟩, -⟩ := hpost
      obtain ⟨kd, n0, b0, a0, len0, cap0, rfl⟩ := Rep.cells t v hrep
      have HR := Lib.hid hrep
      have b2 := b1.2
      have hc1 := hps.c1
      have hc3 := hps.c3
      have hf3 := hps.fz 3
      clear hrep b1
      by_cases hk : k < s.size
      · have HX2 : Hid (getF s.data.toList = .bad 11 k) := Lib.hid (HX.out.trans (if_pos hk))
        have hps2 : PS (w.heap.size + 1) s k cn 11 (w1.setCell ⟨w.heap.size + 1, 3, none⟩ (.int .i64 11)) := hps.set3 11
        have hres2 : (w1.setCell ⟨w.heap.size + 1, 3, none⟩ (.int .i64 11)).heap[w.heap.size]? = some (.cells #[.int .i64 0, .int .i64 0, .string ⟨#[]⟩, .slice none 0 0] 36 (0, 0)) := (Below.heap_setCell _ _ _ _ (by show w.heap.size ≠ w.heap.size + 1; omega)).trans HRES.out
        have HFR2 : Hid (Fr (· = w.heap.size + 1) W (w1.setCell ⟨w.heap.size + 1, 3, none⟩ (.int .i64 11))) := Lib.hid (frP HFR.out 3 _)
        have hd1 := hps2.c1
        have hd3 := hps2.c3
        have hs0 : (w1.setCell ⟨w.heap.size + 1, 3, none⟩ (.int .i64 11)).cell? ⟨w.heap.size, 0, none⟩ = some (.int .i64 0) := by simp [World.cell?, hres2]
        have hs1 : (w1.setCell ⟨w.heap.size + 1, 3, none⟩ (.int .i64 11)).cell? ⟨w.heap.size, 1, none⟩ = some (.int .i64 0) := by simp [World.cell?, hres2]
        have hs2' : (w1.setCell ⟨w.heap.size + 1, 3, none⟩ (.int .i64 11)).cell? ⟨w.heap.size, 2, none⟩ = some (.string ⟨#[]⟩) := by simp [World.cell?, hres2]
        have hs3 : (w1.setCell ⟨w.heap.size + 1, 3, none⟩ (.int .i64 11)).cell? ⟨w.heap.size, 3, none⟩ = some (.slice none 0 0) := by simp [World.cell?, hres2]
        have hsf : ∀ j, (w1.setCell ⟨w.heap.size + 1, 3, none⟩ (.int .i64 11)).frozen? ⟨w.heap.size, j, none⟩ = false := frozen_of_heap hres2
        have hz2 : (w1.setCell ⟨w.heap.size + 1, 3, none⟩ (.int .i64 11)).heap.size = w1.heap.size := by simp [World.setCell]
        have HRES2 := Lib.hid hres2
        have HZ2 := Lib.hid hz2
        clear HX hps hps2 hres2 hz2
        go_wp2
        go_region
        go_wp2
        have hlt0' : w.heap.size < (w1.setCell ⟨w.heap.size + 1, 3, none⟩ (.int .i64 11)).heap.size := by rw [HZ2.out]; exact hlt0
        generalize w1.setCell ⟨w.heap.size + 1, 3, none⟩ (.int .i64 11) = w2 at *
        have h4 := heap_put4 HRES2.out (.int .i64 0) (.int .i64 0) (.string ⟨#[]⟩) (.slice none 0 0)
        have hbut := But.put4 w.heap.size w2 (.int .i64 0) (.int .i64 0) (.string ⟨#[]⟩) (.slice none 0 0)
        generalize ((((w2.setCell ⟨w.heap.size, 0, none⟩ (.int .i64 0)).setCell ⟨w.heap.size, 1, none⟩ (.int .i64 0)).setCell ⟨w.heap.size, 2, none⟩ (.string ⟨#[]⟩)).setCell ⟨w.heap.size, 3, none⟩ (.slice none 0 0)) = w4 at h4 hbut ⊢
        have h5 : (w4.alloc (.cells #[.int .i64 kd, .int .i64 n0, .string b0, .slice a0 len0 cap0] 36)).drew.heap[w.heap.size]? = some (.cells #[.int .i64 0, .int .i64 0, .string ⟨#[]⟩, .slice none 0 0] 36 (0, 0)) := (Below.heap_alloc w4 _ w.heap.size (by rw [hbut.size]; exact hlt0')).trans h4
        have hB5 : Below w4.heap.size w4 (w4.alloc (.cells #[.int .i64 kd, .int .i64 n0, .string b0, .slice a0 len0 cap0] 36)).drew := (below1 w4 _).drew
        generalize (w4.alloc (.cells #[.int .i64 kd, .int .i64 n0, .string b0, .slice a0 len0 cap0] 36)).drew = w5 at h5 hB5 ⊢
        exact bodyPost_ret (v := .tuple #[zeroV, .int .i64 11, .int .i64 k]) (by simp [results, Tryd.results19, go_sem, World.cell?, h5]) rfl (by rw [HX2.out]; exact RGet.bad HW.out HFR2.out (by omega) hbut (Nat.le_refl _) hB5)
      · have HX2 : Hid (getF s.data.toList = .ok t 0) := Lib.hid (HX.out.trans (if_neg hk))
        clear HX hps
        go_wp2
        have h4 := heap_put4 HRES.out (.int .i64 kd) (.int .i64 n0) (.string b0) (.slice a0 len0 cap0)
        have hbut := But.put4 w.heap.size w1 (.int .i64 kd) (.int .i64 n0) (.string b0) (.slice a0 len0 cap0)
        generalize ((((w1.setCell ⟨w.heap.size, 0, none⟩ (.int .i64 kd)).setCell ⟨w.heap.size, 1, none⟩ (.int .i64 n0)).setCell ⟨w.heap.size, 2, none⟩ (.string b0)).setCell ⟨w.heap.size, 3, none⟩ (.slice a0 len0 cap0)) = w4 at h4 hbut ⊢
        have h5 : (w4.alloc (.cells #[.int .i64 kd, .int .i64 n0, .string b0, .slice a0 len0 cap0] 36)).heap[w.heap.size]? = some (.cells #[.int .i64 kd, .int .i64 n0, .string b0, .slice a0 len0 cap0] 36 (0, 0)) := (Below.heap_alloc w4 _ w.heap.size (by rw [hbut.size]; exact hlt0)).trans h4
        have hB5 : Below w4.heap.size w4 (w4.alloc (.cells #[.int .i64 kd, .int .i64 n0, .string b0, .slice a0 len0 cap0] 36)) := below1 w4 _
        generalize (w4.alloc (.cells #[.int .i64 kd, .int .i64 n0, .string b0, .slice a0 len0 cap0] 36)) = w5 at h5 hB5 ⊢
        exact bodyPost_ret (v := .tuple #[.agg #[.int .i64 kd, .int .i64 n0, .string b0, .slice a0 len0 cap0], .int .i64 0, .int .i64 0]) (by simp [results, Tryd.results19, go_sem, World.cell?, h5]) rfl (by rw [HX2.out]; exact RGet.ok HW.out HFR.out HR.out (by omega) hbut (Nat.le_refl _) (by rw [HSZ.out]; omega) hB5)
end Go.Proofs.YtmagcikaepobiaaDoor
