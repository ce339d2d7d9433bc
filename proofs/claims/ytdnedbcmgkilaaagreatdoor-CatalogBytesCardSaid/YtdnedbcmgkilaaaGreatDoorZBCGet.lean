/- Package code's Get: what the call answers and leaves. -/
import Derived.Laws.EntriesVeiled
import Derived.Test.YtdnedbcmgkilaaaGreatDoorZBCList

namespace Go.Proofs.YtdnedbcmgkilaaaGreatDoor.Co
open Go.RowKit
def getF (l : List UInt8) : Res :=
  if 131072 < l.length then .bad 2 0
  else match (rdV l (2 * l.length + 1) 0 1 0).1 with
    | .ok t k => if k < l.length then .bad 11 k else .ok t 0
    | .bad e k => .bad e k
def GetPost (r : Res) (w : World) (e : Ending) (w' : World) : Prop :=
  (match r with
   | .ok t k => ∃ v, e = .returned (.tuple #[v, .int .i64 0, .int .i64 k]) ∧ Rep w' (fun b => w.heap.size ≤ b ∧ b < w'.heap.size) t v
   | .bad er k => e = .returned (.tuple #[zeroV, .int .i64 er, .int .i64 k])) ∧ Below w.heap.size w w'
theorem Fr.below_of {X : Nat → Prop} {B : Nat} {w W w1 : World} (hW : Below B w W) (hB : B ≤ W.heap.size) (hf : Fr X W w1) (hX : ∀ k, k < B → ¬ X k) : Below B w w1 :=
  hW.trans ⟨hf.os, hf.tape, hf.output, hf.size, fun k hk => hf.block k (by omega) (hX k hk)⟩
theorem But.below {B h : Nat} {w w1 w4 : World} (hW : Below B w w1) (hb : But h w1 w4) (h1 : B ≤ h) : Below B w w4 :=
  hW.trans ⟨hb.os, hb.tape, hb.output, by rw [hb.size]; exact Nat.le_refl _, fun k hk => hb.block k (by omega)⟩
theorem GetPost.bad {er k h c : Nat} {r : Res × Nat} {w W w1 w4 : World} {e : Ending} (hW : Below w.heap.size w W) (hp : Post r c W e w1) (hc : w.heap.size ≤ c) (hb : But h w1 w4) (h1 : w.heap.size ≤ h) (o : Obj) :
    GetPost (.bad er k) w (.returned (.tuple #[zeroV, .int .i64 er, .int .i64 k])) (w4.alloc o) :=
  ⟨rfl, Below.alloc (But.below (Fr.below_of hW hW.size hp.2.2 (fun k hk => by omega)) hb h1) (by have := hp.2.2.size; have := hW.size; rw [hb.size]; omega) o⟩
theorem GetPost.ok {k h c cn : Nat} {t : Tree} {v : Value} {w W w1 w4 : World} {e : Ending} (hW : Below w.heap.size w W) (hp : Post (.ok t k, cn) c W e w1) (hrep : Rep w1 (fun b => W.heap.size ≤ b ∧ b < w1.heap.size) t v) (hc : w.heap.size ≤ c) (hb : But h w1 w4) (h1 : w.heap.size ≤ h) (h2 : h < W.heap.size) (o : Obj) :
    GetPost (.ok t 0) w (.returned (.tuple #[v, .int .i64 0, .int .i64 0])) (w4.alloc o) :=
  ⟨⟨v, rfl, Rep.keep (fun b hbb => (Below.heap_alloc _ _ _ (by rw [hb.size]; exact hbb.2)).trans (hb.block b (by omega))) (fun b hbb => ⟨by have := hW.size; omega, by simp; rw [hb.size]; omega⟩) _ _ hrep⟩,
    Below.alloc (But.below (Fr.below_of hW hW.size hp.2.2 (fun k hk => by omega)) hb h1) (by have := hp.2.2.size; have := hW.size; rw [hb.size]; omega) o⟩
set_option maxHeartbeats 1600000 in
set_option maxRecDepth 100000 in
theorem get_any (s : ByteArray) (w : World) (hs : s.size ≤ 140737488351232) : Calls Tryz.prog 38 #[.string s] w (GetPost (getF s.data.toList) w) := by
  have hmf : ∀ (fn : Fn) (first cap : Array Value) (w : World), (Instr.makeFunc fn first cap).run Tryz.prog w = .ok (.func fn first cap) w := fun _ _ _ _ => rfl
  have hsl : s.data.toList.length = s.size := by simp
  by_cases hbig : 131072 < s.size
  · have HX : Hid (getF s.data.toList = .bad 2 0) := Lib.hid (by unfold getF; rw [hsl, if_pos hbig])
    clear hsl
    go_enter Tryz.func38, Tryz.ntmps38
    go_wp2
    refine bodyPost_ret (v := .tuple #[zeroV, .int .i64 2, .int .i64 0]) (by simp [results, Tryz.results38, go_sem]) rfl ?_
    rw [HX.out]
    exact ⟨rfl, ((below1 _ _).alloc (by simp) _)⟩
  · have HX : Hid (getF s.data.toList = match (rdV s.data.toList (2 * s.size + 1) 0 1 0).1 with | .ok t k => if k < s.size then .bad 11 k else .ok t 0 | .bad e k => .bad e k) := Lib.hid (by unfold getF; rw [hsl, if_neg hbig])
    have hV := Lib.hid (both_ok (s := s) (by omega) (2 * s.size + 1)).1
    have hbd := (rd_bd s.data.toList (2 * s.size + 1)).1 0 1 0 (by omega)
    clear hsl
    go_enter Tryz.func38, Tryz.ntmps38
    go_wp2_with fail
    have hW : Hid (Below w.heap.size w ((((w.alloc (.cells #[.string s] 9)).alloc (.cells #[.int .i64 0, .int .i64 0, .string ⟨#[]⟩, .slice none 0 0] 60)).alloc (.cells #[.int .i64 0] 3)).alloc (.cells #[readFn (w.heap.size + 1 + 1) w.heap.size (w.heap.size + 1 + 1 + 1)] 95))) :=
      Lib.hid ((((below1 _ _).alloc (by simp) _).alloc (by simp; omega) _).alloc (by simp; omega) _)
    have e0 : ((((w.alloc (.cells #[.string s] 9)).alloc (.cells #[.int .i64 0, .int .i64 0, .string ⟨#[]⟩, .slice none 0 0] 60)).alloc (.cells #[.int .i64 0] 3)).alloc (.cells #[readFn (w.heap.size + 1 + 1) w.heap.size (w.heap.size + 1 + 1 + 1)] 95)).heap[w.heap.size]? = some (.cells #[.string s] 9 (0, 0)) := by
      rw [Below.heap_alloc _ _ _ (by simp; omega), Below.heap_alloc _ _ _ (by simp; omega), Below.heap_alloc _ _ _ (by simp)]; exact heap_alloc_new _ _
    have e1 : ((((w.alloc (.cells #[.string s] 9)).alloc (.cells #[.int .i64 0, .int .i64 0, .string ⟨#[]⟩, .slice none 0 0] 60)).alloc (.cells #[.int .i64 0] 3)).alloc (.cells #[readFn (w.heap.size + 1 + 1) w.heap.size (w.heap.size + 1 + 1 + 1)] 95)).heap[w.heap.size + 1]? = some (.cells #[.int .i64 0, .int .i64 0, .string ⟨#[]⟩, .slice none 0 0] 60 (0, 0)) := by
      rw [Below.heap_alloc _ _ _ (by simp), Below.heap_alloc _ _ _ (by simp)]
      have := heap_alloc_new (w.alloc (.cells #[.string s] 9)) (.cells #[.int .i64 0, .int .i64 0, .string ⟨#[]⟩, .slice none 0 0] 60)
      simpa using this
    have e2 : Cnt (w.heap.size + 1 + 1) 0 ((((w.alloc (.cells #[.string s] 9)).alloc (.cells #[.int .i64 0, .int .i64 0, .string ⟨#[]⟩, .slice none 0 0] 60)).alloc (.cells #[.int .i64 0] 3)).alloc (.cells #[readFn (w.heap.size + 1 + 1) w.heap.size (w.heap.size + 1 + 1 + 1)] 95)) := by
      unfold Cnt
      rw [Below.heap_alloc _ _ _ (by simp)]
      have := heap_alloc_new ((w.alloc (.cells #[.string s] 9)).alloc (.cells #[.int .i64 0, .int .i64 0, .string ⟨#[]⟩, .slice none 0 0] 60)) (.cells #[.int .i64 0] 3)
      simpa using this
    have e3 : ((((w.alloc (.cells #[.string s] 9)).alloc (.cells #[.int .i64 0, .int .i64 0, .string ⟨#[]⟩, .slice none 0 0] 60)).alloc (.cells #[.int .i64 0] 3)).alloc (.cells #[readFn (w.heap.size + 1 + 1) w.heap.size (w.heap.size + 1 + 1 + 1)] 95)).heap[w.heap.size + 1 + 1 + 1]? = some (.cells #[readFn (w.heap.size + 1 + 1) w.heap.size (w.heap.size + 1 + 1 + 1)] 95 (0, 0)) := by
      have := heap_alloc_new (((w.alloc (.cells #[.string s] 9)).alloc (.cells #[.int .i64 0, .int .i64 0, .string ⟨#[]⟩, .slice none 0 0] 60)).alloc (.cells #[.int .i64 0] 3)) (.cells #[readFn (w.heap.size + 1 + 1) w.heap.size (w.heap.size + 1 + 1 + 1)] 95)
      simpa using this
    have esz : ((((w.alloc (.cells #[.string s] 9)).alloc (.cells #[.int .i64 0, .int .i64 0, .string ⟨#[]⟩, .slice none 0 0] 60)).alloc (.cells #[.int .i64 0] 3)).alloc (.cells #[readFn (w.heap.size + 1 + 1) w.heap.size (w.heap.size + 1 + 1 + 1)] 95)).heap.size = w.heap.size + 4 := by simp
    generalize ((((w.alloc (.cells #[.string s] 9)).alloc (.cells #[.int .i64 0, .int .i64 0, .string ⟨#[]⟩, .slice none 0 0] 60)).alloc (.cells #[.int .i64 0] 3)).alloc (.cells #[readFn (w.heap.size + 1 + 1) w.heap.size (w.heap.size + 1 + 1 + 1)] 95)) = W at hW e0 e1 e2 e3 esz ⊢
    have hcall := hV.out (w.heap.size + 1 + 1) w.heap.size (w.heap.size + 1 + 1 + 1) 0 1 0 W (by omega) (by omega) (by omega) ⟨e0, e3⟩ e2 (by omega)
    refine Calls.mono hcall ?_
    clear hcall
    intro e w1 hp
    have hF := hp.2.2
    have hsz1 := hF.size
    rw [esz] at hsz1
    have g0 := (hF.block w.heap.size (by omega) (by omega)).trans e0
    have g1 := (hF.block (w.heap.size + 1) (by omega) (by omega)).trans e1
    have hlt0 : w.heap.size < w1.heap.size := by omega
    have hlt1 : w.heap.size + 1 < w1.heap.size := by omega
    have hcs : w1.cell? ⟨w.heap.size, 0, none⟩ = some (.string s) := cell_of_heap g0
    have hcell0 : w1.cell? ⟨w.heap.size + 1, 0, none⟩ = some (.int .i64 0) := by simp [World.cell?, g1]
    have hcell1 : w1.cell? ⟨w.heap.size + 1, 1, none⟩ = some (.int .i64 0) := by simp [World.cell?, g1]
    have hcell2 : w1.cell? ⟨w.heap.size + 1, 2, none⟩ = some (.string ⟨#[]⟩) := by simp [World.cell?, g1]
    have hcell3 : w1.cell? ⟨w.heap.size + 1, 3, none⟩ = some (.slice none 0 0) := by simp [World.cell?, g1]
    have hfz : ∀ j, w1.frozen? ⟨w.heap.size + 1, j, none⟩ = false := frozen_of_heap g1
    have G1 := Lib.hid g1
    have HS := Lib.hid esz
    clear e0 e1 e2 e3 g0 g1 hF esz hmf hV
    generalize hr : rdV s.data.toList (2 * s.size + 1) 0 1 0 = r at hp HX hbd
    obtain ⟨r, cn⟩ := r
    have HP := Lib.hid hp
    obtain ⟨b1, -, -, -⟩ := hbd
    have hsl : s.data.toList.length = s.size := by simp
    rw [hsl] at b1
    clear hsl hr
    cases r with
    | bad er k =>
      obtain ⟨rfl, -, -⟩ := hp
      have hE0 : ((er : Int) != 0) = true := by have := b1.1; simp; omega
      have HX2 : Hid (getF s.data.toList = .bad er k) := Lib.hid (HX.out.trans rfl)
      clear b1 HX
      go_wp2
      have h4 := heap_put4 G1.out (.int .i64 0) (.int .i64 0) (.string ⟨#[]⟩) (.slice none 0 0)
      have hbut := But.put4 (w.heap.size + 1) w1 (.int .i64 0) (.int .i64 0) (.string ⟨#[]⟩) (.slice none 0 0)
      generalize ((((w1.setCell ⟨w.heap.size + 1, 0, none⟩ (.int .i64 0)).setCell ⟨w.heap.size + 1, 1, none⟩ (.int .i64 0)).setCell ⟨w.heap.size + 1, 2, none⟩ (.string ⟨#[]⟩)).setCell ⟨w.heap.size + 1, 3, none⟩ (.slice none 0 0)) = w4 at h4 hbut ⊢
      have h5 := (Below.heap_alloc w4 (.cells #[.int .i64 0, .int .i64 0, .string ⟨#[]⟩, .slice none 0 0] 60) (w.heap.size + 1) (by rw [hbut.size]; exact hlt1)).trans h4
      have hup := GetPost.bad (er := er) (k := k) hW.out HP.out (by omega) hbut (by omega) (.cells #[.int .i64 0, .int .i64 0, .string ⟨#[]⟩, .slice none 0 0] 60)
      generalize w4.alloc (.cells #[.int .i64 0, .int .i64 0, .string ⟨#[]⟩, .slice none 0 0] 60) = w5 at h5 hup ⊢
      exact bodyPost_ret (v := .tuple #[zeroV, .int .i64 er, .int .i64 k]) (by simp [results, Tryz.results38, go_sem, World.cell?, h5]) rfl (by rw [HX2.out]; exact hup)
    | ok t k =>
      obtain ⟨⟨v, rfl, hrep⟩, -, -⟩ := hp
      obtain ⟨kd, n0, b0, a0, len0, cap0, rfl⟩ := Rep.cells t v hrep
      have HR := Lib.hid hrep
      clear hrep
      have b2 := b1.2
      clear b1
      by_cases hk : k < s.size
      · have HX2 : Hid (getF s.data.toList = .bad 11 k) := Lib.hid (HX.out.trans (if_pos hk))
        clear HX
        go_wp2
        have h4 := heap_put4 G1.out (.int .i64 0) (.int .i64 0) (.string ⟨#[]⟩) (.slice none 0 0)
        have hbut := But.put4 (w.heap.size + 1) w1 (.int .i64 0) (.int .i64 0) (.string ⟨#[]⟩) (.slice none 0 0)
        generalize ((((w1.setCell ⟨w.heap.size + 1, 0, none⟩ (.int .i64 0)).setCell ⟨w.heap.size + 1, 1, none⟩ (.int .i64 0)).setCell ⟨w.heap.size + 1, 2, none⟩ (.string ⟨#[]⟩)).setCell ⟨w.heap.size + 1, 3, none⟩ (.slice none 0 0)) = w4 at h4 hbut ⊢
        have h5 := (Below.heap_alloc w4 (.cells #[.int .i64 kd, .int .i64 n0, .string b0, .slice a0 len0 cap0] 60) (w.heap.size + 1) (by rw [hbut.size]; exact hlt1)).trans h4
        have hup := GetPost.bad (er := 11) (k := k) hW.out HP.out (by omega) hbut (by omega) (.cells #[.int .i64 kd, .int .i64 n0, .string b0, .slice a0 len0 cap0] 60)
        generalize w4.alloc (.cells #[.int .i64 kd, .int .i64 n0, .string b0, .slice a0 len0 cap0] 60) = w5 at h5 hup ⊢
        exact bodyPost_ret (v := .tuple #[zeroV, .int .i64 11, .int .i64 k]) (by simp [results, Tryz.results38, go_sem, World.cell?, h5]) rfl (by rw [HX2.out]; exact hup)
      · have HX2 : Hid (getF s.data.toList = .ok t 0) := Lib.hid (HX.out.trans (if_neg hk))
        clear HX
        go_wp2
        have h4 := heap_put4 G1.out (.int .i64 kd) (.int .i64 n0) (.string b0) (.slice a0 len0 cap0)
        have hbut := But.put4 (w.heap.size + 1) w1 (.int .i64 kd) (.int .i64 n0) (.string b0) (.slice a0 len0 cap0)
        generalize ((((w1.setCell ⟨w.heap.size + 1, 0, none⟩ (.int .i64 kd)).setCell ⟨w.heap.size + 1, 1, none⟩ (.int .i64 n0)).setCell ⟨w.heap.size + 1, 2, none⟩ (.string b0)).setCell ⟨w.heap.size + 1, 3, none⟩ (.slice a0 len0 cap0)) = w4 at h4 hbut ⊢
        have h5 := (Below.heap_alloc w4 (.cells #[.int .i64 kd, .int .i64 n0, .string b0, .slice a0 len0 cap0] 60) (w.heap.size + 1) (by rw [hbut.size]; exact hlt1)).trans h4
        have hup := GetPost.ok hW.out HP.out HR.out (by omega) hbut (by omega) (by rw [HS.out]; omega) (.cells #[.int .i64 kd, .int .i64 n0, .string b0, .slice a0 len0 cap0] 60)
        generalize w4.alloc (.cells #[.int .i64 kd, .int .i64 n0, .string b0, .slice a0 len0 cap0] 60) = w5 at h5 hup ⊢
        exact bodyPost_ret (v := .tuple #[.agg #[.int .i64 kd, .int .i64 n0, .string b0, .slice a0 len0 cap0], .int .i64 0, .int .i64 0]) (by simp [results, Tryz.results38, go_sem, World.cell?, h5]) rfl (by rw [HX2.out]; exact hup)
end Go.Proofs.YtdnedbcmgkilaaaGreatDoor.Co
