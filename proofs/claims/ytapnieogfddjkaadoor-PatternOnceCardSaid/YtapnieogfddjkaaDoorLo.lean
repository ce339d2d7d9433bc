/- Print; the law of what is read and printed. -/
import Derived.Test.YtapnieogfddjkaaDoorPy
namespace Go.Proofs.YtapnieogfddjkaaDoor
open Go.RowKit

theorem parse_small {l : List UInt8} (h : (parseF l).2.1 = 0) : cntPs (parseF l).1 ≤ 2000 ∧ smPs 140737488351232 (parseF l).1 := by
  by_cases h0 : 2000 < l.length
  · rw [parse_long h0] at h; cases h
  · by_cases h1 : (endF l (readF l).2).2 = 0
    · by_cases h2 : rightE (readF l).1 = 0
      · rw [parse_ok h0 rfl h1 h2]
        exact ⟨by have := cnt_read (end_live h1).1; simp only; omega, sm_read (by omega)⟩
      · rw [parse_wrong h0 rfl h1 h2] at h; exact absurd h h2
    · rw [parse_bad h0 rfl h1] at h; exact absurd h h1

set_option maxHeartbeats 3200000 in
set_option maxRecDepth 100000 in
theorem print_any (n : Nat) (w : World) (a : Option Addr) (cap : Nat) (xs : List Pt) (hxs : SlP w (Old w) n (.slice a xs.length cap) xs) (hc : cntPs xs ≤ 2000) (hsm : smPs 140737488351232 xs) (hr : rightE xs = 0) (hl : (txPs xs).length ≤ 2000) (hE : EnvW w) :
    Calls Tryd.prog 10 #[.slice a xs.length cap] w fun e w' => e = .returned (.tuple #[.string (ba (txPs xs)), .int .i64 0]) ∧ Below w.heap.size w w' := by
  have HR := Lib.hid (right_any n w a cap xs hxs hc hsm hE)
  rw [hr] at HR
  have HX := Lib.hid hxs
  have HL := Lib.hid hl
  obtain ⟨L, HLL⟩ : ∃ L, Hid (L = xs.length) := ⟨_, Lib.hid rfl⟩
  rw [← HLL.out] at HR HX ⊢
  clear hxs hc hsm hr hl hE
  go_enter Tryd.func10, Tryd.ntmps10
  go_wp2_with fail
  refine HR.out.mono ?_
  rintro e w2 ⟨rfl, hb2⟩
  have HB2 := Lib.hid hb2
  have HX2 : Hid (SlP (w2.alloc (.cells #[.pointer none, .slice none 0 0] 50)) (Lt w2.heap.size) n (.slice a L cap) xs) := Lib.hid (SlP.keep HX.out (fun k hk => (Below.heap_alloc _ _ _ (Nat.lt_of_lt_of_le hk hb2.size)).trans (hb2.block k hk)) (fun k hk => Nat.lt_of_lt_of_le hk hb2.size))
  have HBP : Hid (Pr.Bp w2.heap.size w2.heap.size [] (w2.alloc (.cells #[.pointer none, .slice none 0 0] 50))) := Lib.hid ⟨Lib.IsBuilderF.of (Lib.fresh_isBuilder 50 5 w2), fun _ => (row_new w2 #[.pointer none, .slice none 0 0] 50).cell (i := 1) rfl⟩
  have HPC := Lib.hid ((Pr.pr_all n).1 w2.heap.size w2.heap.size w2.heap.size [] (w2.alloc (.cells #[.pointer none, .slice none 0 0] 50)) a cap xs (Nat.le_refl _) (by rw [World.size_alloc]; omega) HBP.out (by rw [← HLL.out]; exact HX2.out) (by simpa using HL.out))
  rw [← HLL.out] at HPC
  have HB3 : Hid (Below w.heap.size w (w2.alloc (.cells #[.pointer none, .slice none 0 0] 50))) := Lib.hid (below_trans hb2 (below1 _ _))
  clear hb2 HR HX HX2 HBP
  go_wp2_with fail
  generalize w2.alloc (.cells #[.pointer none, .slice none 0 0] 50) = w3 at *
  refine HPC.out.mono ?_
  rintro e w4 ⟨rfl, hb4, hk4⟩
  rw [List.nil_append] at hb4
  have HB4 := Lib.hid hb4
  have HBW4 : Hid (Below w.heap.size w w4) := Lib.hid (HB3.out.trans (hk4.1.mono HB2.out.size))
  have HFU := Lib.hid (Pr.full_any hb4 HL.out)
  have HST := Lib.hid (Pr.str_any hb4 (by have := HL.out; omega))
  clear hb4 hk4 HPC HB3
  go_wp2_with fail
  refine HFU.out.mono ?_
  rintro e w5 ⟨rfl, rfl⟩
  go_wp2_with fail
  refine HST.out.mono ?_
  rintro e w6 ⟨rfl, hb6⟩
  have HB6 : Hid (Below w.heap.size w w6) := Lib.hid (HBW4.out.trans (hb6.mono HB2.out.size))
  clear hb6 HST HFU
  obtain ⟨tx, HTX⟩ : ∃ tx, Hid (tx = ba (txPs xs)) := ⟨_, Lib.hid rfl⟩
  rw [← HTX.out]
  go_wp2
  exact bodyPost_ret (v := .tuple #[.string tx, .int .i64 0]) (by simp [results, Tryd.results10, go_sem]) rfl ⟨by rw [HTX.out], HB6.out⟩

set_option maxHeartbeats 3200000 in
set_option maxRecDepth 100000 in
theorem once_any (s : BA) (w : World) (hs : s.size ≤ 140737488351232) (hEV : EnvW w) :
    Calls Tryd.prog 4 #[.string s] w fun e w' => e = .returned (.bool true) ∧ Below w.heap.size w w' := by
  have HP := Lib.hid (parse_any s w hEV)
  have HNA : Hid (∀ W, Calls Tryd.prog 8 #[.string ⟨#[97]⟩] W fun e w' => e = .returned (.bool true) ∧ w' = W) := Lib.hid (fun W => by have := name_any ⟨#[97]⟩ W (by decide); rw [isA] at this; exact this)
  have HEV := Lib.hid hEV
  have hll := len_list s
  clear hEV
  have BAD : ∀ (e0 at0 : Nat), e0 ≠ 0 → at0 ≤ s.size → parseF s.data.toList = ([], e0, at0) → Calls Tryd.prog 4 #[.string s] w fun e w' => e = .returned (.bool true) ∧ Below w.heap.size w w' := by
    intro e0 at0 he ha hp
    rw [hp] at HP
    have hB1 : ((e0 : Int) != (0 : Int)) = true := by simp; omega
    have hB2 : (0 : Int) ≤ at0 := by omega
    have hB3 : (at0 : Int) ≤ s.size := by omega
    clear hp he
    go_enter Tryd.func4, Tryd.ntmps4
    go_wp2_with fail
    refine HP.out.mono ?_
    rintro e w2 ⟨⟨a, cap, n, rfl, -⟩, hb2⟩
    have HB2 := Lib.hid hb2
    have HN2 := Lib.hid (HNA.out w2)
    clear hb2 HP
    simp only [List.length_nil]
    go_wp2_with fail
    refine HN2.out.mono ?_
    rintro e w3 ⟨rfl, rfl⟩
    go_wp2
    go_ret
    exact ⟨ret_bool (by simp; try omega), HB2.out⟩
  rcases parse_cases s.data.toList with ⟨h1, h2⟩ | h1 | ⟨h1, h2, h3, -⟩ | h1 | h1
  · clear BAD
    obtain ⟨t1, t2, t3, t4⟩ := parse_text h1
    obtain ⟨c1, c2⟩ := parse_small h1
    generalize parseF s.data.toList = r at *
    obtain ⟨xs, e0, at0⟩ := r
    simp only at h1 h2 t1 t3 c1 c2
    subst h1 h2
    have HPR : Hid (∀ (W : World) a cap n, SlP W (Old W) n (.slice a xs.length cap) xs → EnvW W → Calls Tryd.prog 10 #[.slice a xs.length cap] W fun e w' => e = .returned (.tuple #[.string s, .int .i64 0]) ∧ Below W.heap.size W w') := Lib.hid (fun W a cap n h1 h2 => by
      have := print_any n W a cap xs h1 c1 c2 t3 (by rw [t1]; exact t2) h2
      rw [t1, ← ba_of (s := s)] at this
      exact this)
    have HRI : Hid (∀ (W : World) a cap n, SlP W (Old W) n (.slice a xs.length cap) xs → EnvW W → Calls Tryd.prog 11 #[.slice a xs.length cap] W fun e w' => e = .returned (.int .i64 0) ∧ Below W.heap.size W w') := Lib.hid (fun W a cap n h1 h2 => by
      have := right_any n W a cap xs h1 c1 c2 h2
      rw [t3] at this
      exact this)
    clear t1 t2 t3 t4 c1 c2 hll
    go_enter Tryd.func4, Tryd.ntmps4
    go_wp2_with fail
    refine HP.out.mono ?_
    rintro e w2 ⟨⟨a, cap, n, rfl, hsl⟩, hb2⟩
    simp only at hsl ⊢
    have HB2 := Lib.hid hb2
    have HN2 := Lib.hid (HNA.out w2)
    have HS2 : Hid (SlP w2 (Old w2) n (.slice a xs.length cap) xs) := Lib.hid (SlP.keep hsl (fun _ _ => rfl) (fun b hb => hb.2))
    have HP2 := Lib.hid (HPR.out w2 a cap n HS2.out (HEV.out.below hb2))
    have HR3 : Hid (∀ W, Below w2.heap.size w2 W → Calls Tryd.prog 11 #[.slice a xs.length cap] W fun e w' => e = .returned (.int .i64 0) ∧ Below W.heap.size W w') := Lib.hid (fun W hW => HRI.out W a cap n (SlP.old HS2.out hW) ((HEV.out.below HB2.out).below hW))
    clear hb2 HP hsl HPR HRI HS2
    obtain ⟨L, HLL⟩ : ∃ L, Hid (L = xs.length) := ⟨_, Lib.hid rfl⟩
    rw [← HLL.out] at HP2 HR3 ⊢
    go_wp2_with fail
    refine HN2.out.mono ?_
    rintro e w3 ⟨rfl, rfl⟩
    clear HN2
    go_wp2_with fail
    refine HP2.out.mono ?_
    rintro e w4 ⟨rfl, hb4⟩
    have HB4 := Lib.hid (below_trans HB2.out hb4)
    have HR4 := Lib.hid (HR3.out w4 hb4)
    clear hb4 HP2 HR3
    go_wp2_with fail
    refine HR4.out.mono ?_
    rintro e w5 ⟨rfl, hb5⟩
    have HB5 := Lib.hid (below_trans HB4.out hb5)
    clear hb5 HR4
    go_wp2
    go_ret
    exact ⟨ret_bool (by simp), HB5.out⟩
  · exact BAD 10 _ (by decide) (by omega) h1
  · generalize hr : parseF s.data.toList = r at *
    obtain ⟨xs, e0, at0⟩ := r
    simp only at h1 h2 h3
    subst h2
    exact BAD e0 at0 (by omega) (by omega) rfl
  · exact BAD 2 0 (by decide) (by omega) h1
  · exact BAD 91 0 (by decide) (by omega) h1
end Go.Proofs.YtapnieogfddjkaaDoor
