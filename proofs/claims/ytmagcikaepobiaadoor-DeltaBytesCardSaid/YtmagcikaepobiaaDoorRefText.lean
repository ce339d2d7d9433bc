/- The document's own reader: text. -/
import Derived.Test.YtmagcikaepobiaaDoorRefNum
import Derived.BigRegion
import Derived.IntWalk
namespace Go.Proofs.YtmagcikaepobiaaDoor
open Go.RowKit

theorem atoi_digits {l : List UInt8} (h : AllDig l) (h0 : l ≠ []) (hv : valFrom 0 l ≤ 9223372036854775807) : Lib.atoiAll l = .ok (valFrom 0 l : Int) := by
  have hp : ∀ (l : List UInt8) (acc : Nat), AllDig l → valFrom acc l ≤ 9223372036854775807 → Lib.parseUint10 acc l = .ok (valFrom acc l) := by
    intro l
    induction l with
    | nil => intro acc _ _; rw [Lib.parseUint10, val_nil]
    | cons c r ih =>
      intro acc h hv
      have hb := isDig_bd (h c List.mem_cons_self)
      rw [val_step] at hv
      have hle := le_valFrom r (acc * 10 + (c.toNat - 48))
      rw [Lib.parseUint10, if_pos hb, if_neg (by omega), if_neg (by omega), val_step]
      exact ih _ (fun c hc => h c (List.mem_cons_of_mem _ hc)) hv
  cases l with
  | nil => exact absurd rfl h0
  | cons c r =>
    have hb := isDig_bd (h c List.mem_cons_self)
    have hp' := hp (c :: r) 0 h hv
    have e1 : (if c.toNat = 43 ∨ c.toNat = 45 then r else c :: r) = c :: r := if_neg (by omega)
    have e2 : Lib.parseMag (c :: r) = .ok (valFrom 0 (c :: r)) := by unfold Lib.parseMag; rw [if_neg (by simp), hp']
    simp only [Lib.atoiAll, e1, e2]
    rw [if_neg (by omega), if_neg (by omega), if_neg (by omega)]

set_option maxHeartbeats 3200000 in
set_option maxRecDepth 100000 in
theorem rtext_any (pb : Nat) (s : ByteArray) (i m : Nat) (w : World) (hs : s.size ≤ 131072) (hi : i ≤ s.size) (hp : PS pb s i m 0 w) :
    Calls Tryd.prog 55 #[.pointer (some ⟨pb, 0, none⟩)] w (RPost (textF s.data.toList i) pb s m w) := by
  have hltp := hp.lt
  have HPW : Hid (PS pb s i m 0 (w.alloc (.cells #[.int .i64 0, .int .i64 0, .string ⟨#[]⟩, .slice none 0 0] 36))) := Lib.hid (hp.alloc _)
  have FRW : Hid (Fr (· = pb) w (w.alloc (.cells #[.int .i64 0, .int .i64 0, .string ⟨#[]⟩, .slice none 0 0] 36))) := Lib.hid ((Fr.refl _ w).alloc _)
  have HBLK : Hid ((w.alloc (.cells #[.int .i64 0, .int .i64 0, .string ⟨#[]⟩, .slice none 0 0] 36)).heap[w.heap.size]? = some (.cells #[.int .i64 0, .int .i64 0, .string ⟨#[]⟩, .slice none 0 0] 36 (0, 0))) := Lib.hid (heap_alloc_new _ _)
  clear hp
  go_enter Tryd.func55, Tryd.ntmps55
  go_wp2_with fail
  generalize w.alloc (.cells #[.int .i64 0, .int .i64 0, .string ⟨#[]⟩, .slice none 0 0] 36) = W at *
  have HLT := Lib.hid (lt_of_heap HBLK.out)
  refine (digitsB pb s i m W hs hi HPW.out).mono ?_
  rintro e w2 ⟨d, rfl, D, F⟩
  have HTK := Lib.hid (take_digits (e := 58) (en := 58) hs hi (by omega) (by decide) rfl D.out)
  go_wp2_with fail
  refine HTK.out.mono ?_
  rintro e w3 ⟨rfl, T, F3⟩
  have HF3 := Lib.hid ((FRW.out.trans F.out).trans F3.out)
  have HFW := Lib.hid (F.out.trans F3.out)
  clear D F F3 HTK
  rcases hd : decF 131072 58 (s.data.toList.drop i) i 0 true with ⟨n, er, k⟩
  have hbd := decF_bd 131072 58 (by omega) (s.data.toList.drop i) i 0 true (by omega)
  have ht := T.out
  rw [hd] at ht hbd
  simp only at hbd
  obtain ⟨hp3, hdd, hk3, hds⟩ := ht
  simp only at hp3 hdd hk3
  have hn := hbd.1
  clear hbd
  have hblk3 := (HFW.out.block w.heap.size HLT.out (by omega)).trans HBLK.out
  have hc3 := hp3.c3
  have hr0 : w3.cell? ⟨w.heap.size, 0, none⟩ = some (.int .i64 0) := by simp [World.cell?, hblk3]
  have hr1 : w3.cell? ⟨w.heap.size, 1, none⟩ = some (.int .i64 0) := by simp [World.cell?, hblk3]
  have hr2 : w3.cell? ⟨w.heap.size, 2, none⟩ = some (.string ⟨#[]⟩) := by simp [World.cell?, hblk3]
  have hr3 : w3.cell? ⟨w.heap.size, 3, none⟩ = some (.slice none 0 0) := by simp [World.cell?, hblk3]
  have hrf : ∀ j, w3.frozen? ⟨w.heap.size, j, none⟩ = false := frozen_of_heap hblk3
  have HB3 := Lib.hid hblk3
  have HP3 := Lib.hid hp3
  by_cases her : er = 0
  · subst her
    obtain ⟨ha, hne, hv⟩ := hdd rfl
    have HAT := Lib.hid (fun W => atoi_any d (by omega) (n : Int) (by rw [atoi_digits ha hne (by omega), hv]) W)
    clear ha hne hv hp3 hblk3 hdd T
    have HD := Lib.hid hd
    clear hd
    go_wp2_with fail
    refine (HAT.out _).mono ?_
    rintro e w4 ⟨rfl, hb4⟩
    have hblk4 := (hb4.block w.heap.size (lt_of_heap HB3.out)).trans HB3.out
    have hp4 := HP3.out.below hb4
    have hc0 := hp4.c0
    have hc1 := hp4.c1
    have hc3 := hp4.c3
    have hf := hp4.fz
    have HB4 := Lib.hid hblk4
    have HP4 := Lib.hid hp4
    have HF4 := Lib.hid (HF3.out.trans (Fr.of_below hb4))
    have hlt4 := lt_of_heap hblk4
    clear hb4 hblk4 hp4 hr0 hr1 hr2 hr3 hrf HAT
    by_cases hfit : k + n ≤ s.size
    · have hB : decide ((s.size : Int) < (k : Int) + (n : Int)) = false := by simp; omega
      have hkn : (k : Int) ≤ (k : Int) + (n : Int) := by omega
      have hkn2 : (k : Int) + (n : Int) ≤ (s.size : Int) := by omega
      have hall : Hid (∀ q, Same w4 (w4.drewN q)) := Lib.hid (fun q => ⟨rfl, rfl, rfl, rfl⟩)
      go_wp2
      go_quiet (fail)
      go_wp2
      have hsm := hall.out nq
      generalize w4.drewN nq = w5 at hsm ⊢
      have hp5 := HP4.out.same hsm
      have hc0 := hp5.c0
      have hc1 := hp5.c1
      have hf := hp5.fz
      have hltp5 := hp5.lt
      have HP5 := Lib.hid hp5
      have HF5 := Lib.hid (HF4.out.trans (hsm.fr (X := (· = pb))))
      have HB5 : Hid (w5.heap[w.heap.size]? = some (.cells #[.int .i64 0, .int .i64 0, .string ⟨#[]⟩, .slice none 0 0] 36 (0, 0))) := Lib.hid (by rw [hsm.heap]; exact HB4.out)
      have hlt5 := lt_of_heap HB5.out
      clear hsm hp5
      have hwr : IntKind.i64.wrap ((k : Int) + (n : Int)) = (k : Int) + (n : Int) := IntWalk.i64_in _ (by omega)
      have hwn : ((k : Int) + (n : Int)).toNat = k + n := by omega
      have hw0 : 0 ≤ (k : Int) + (n : Int) := by omega
      go_region
      clear hwr hwn hw0
      have HX := Lib.hid (textF_ok HD.out (by rw [size_list]; exact hfit))
      have hblkN : (w5.alloc (.cells #[.int .i64 2, .int .i64 0, .string (s.extract k (k + n)), .slice none 0 0] 36)).drew.heap[w5.heap.size]? = some (.cells #[.int .i64 2, .int .i64 0, .string (s.extract k (k + n)), .slice none 0 0] 36 (0, 0)) := heap_alloc_new _ _
      have hp6 : PS pb s k m 0 (w5.alloc (.cells #[.int .i64 2, .int .i64 0, .string (s.extract k (k + n)), .slice none 0 0] 36)).drew := HP5.out.alloc _
      have hF6 : Fr (· = pb) w (w5.alloc (.cells #[.int .i64 2, .int .i64 0, .string (s.extract k (k + n)), .slice none 0 0] 36)).drew := (HF5.out.alloc _).drew
      have hB6 : (w5.alloc (.cells #[.int .i64 2, .int .i64 0, .string (s.extract k (k + n)), .slice none 0 0] 36)).drew.heap[w.heap.size]? = some (.cells #[.int .i64 0, .int .i64 0, .string ⟨#[]⟩, .slice none 0 0] 36 (0, 0)) := (Below.heap_alloc _ _ _ hlt5).trans HB5.out
      generalize (w5.alloc (.cells #[.int .i64 2, .int .i64 0, .string (s.extract k (k + n)), .slice none 0 0] 36)).drew = w6 at *
      have hc1 := hp6.c1
      have hf1 := hp6.fz 1
      have hp7 : PS pb s (k + n) m 0 (w6.setCell ⟨pb, 1, none⟩ (.int .i64 ((k : Int) + (n : Int)))) := hp6.set1 (k + n)
      have hN7 : (w6.setCell ⟨pb, 1, none⟩ (.int .i64 ((k : Int) + (n : Int)))).heap[w5.heap.size]? = some (.cells #[.int .i64 2, .int .i64 0, .string (s.extract k (k + n)), .slice none 0 0] 36 (0, 0)) := (Below.heap_setCell _ _ _ _ (by show w5.heap.size ≠ pb; omega)).trans hblkN
      have hB7 : (w6.setCell ⟨pb, 1, none⟩ (.int .i64 ((k : Int) + (n : Int)))).heap[w.heap.size]? = some (.cells #[.int .i64 0, .int .i64 0, .string ⟨#[]⟩, .slice none 0 0] 36 (0, 0)) := (Below.heap_setCell _ _ _ _ (by show w.heap.size ≠ pb; omega)).trans hB6
      have HF7 : Hid (Fr (· = pb) w (w6.setCell ⟨pb, 1, none⟩ (.int .i64 ((k : Int) + (n : Int))))) := Lib.hid (frP hF6 1 _)
      have hn0 : (w6.setCell ⟨pb, 1, none⟩ (.int .i64 ((k : Int) + (n : Int)))).cell? ⟨w5.heap.size, 0, none⟩ = some (.int .i64 2) := by simp [World.cell?, hN7]
      have hn1 : (w6.setCell ⟨pb, 1, none⟩ (.int .i64 ((k : Int) + (n : Int)))).cell? ⟨w5.heap.size, 1, none⟩ = some (.int .i64 0) := by simp [World.cell?, hN7]
      have hn2 : (w6.setCell ⟨pb, 1, none⟩ (.int .i64 ((k : Int) + (n : Int)))).cell? ⟨w5.heap.size, 2, none⟩ = some (.string (s.extract k (k + n))) := by simp [World.cell?, hN7]
      have hn3 : (w6.setCell ⟨pb, 1, none⟩ (.int .i64 ((k : Int) + (n : Int)))).cell? ⟨w5.heap.size, 3, none⟩ = some (.slice none 0 0) := by simp [World.cell?, hN7]
      have hr0 : (w6.setCell ⟨pb, 1, none⟩ (.int .i64 ((k : Int) + (n : Int)))).cell? ⟨w.heap.size, 0, none⟩ = some (.int .i64 0) := by simp [World.cell?, hB7]
      have hr1 : (w6.setCell ⟨pb, 1, none⟩ (.int .i64 ((k : Int) + (n : Int)))).cell? ⟨w.heap.size, 1, none⟩ = some (.int .i64 0) := by simp [World.cell?, hB7]
      have hr2 : (w6.setCell ⟨pb, 1, none⟩ (.int .i64 ((k : Int) + (n : Int)))).cell? ⟨w.heap.size, 2, none⟩ = some (.string ⟨#[]⟩) := by simp [World.cell?, hB7]
      have hr3 : (w6.setCell ⟨pb, 1, none⟩ (.int .i64 ((k : Int) + (n : Int)))).cell? ⟨w.heap.size, 3, none⟩ = some (.slice none 0 0) := by simp [World.cell?, hB7]
      have hrf : ∀ j, (w6.setCell ⟨pb, 1, none⟩ (.int .i64 ((k : Int) + (n : Int)))).frozen? ⟨w.heap.size, j, none⟩ = false := frozen_of_heap hB7
      have HP7 := Lib.hid hp7
      have HB7 := Lib.hid hB7
      clear hp7 hB7 hN7 hblkN hp6 hF6 hB6
      go_wp2
      generalize w6.setCell ⟨pb, 1, none⟩ (.int .i64 ((k : Int) + (n : Int))) = w7 at *
      have h4 := heap_put4 HB7.out (.int .i64 2) (.int .i64 0) (.string (s.extract k (k + n))) (.slice none 0 0)
      have hbut := But.put4 w.heap.size w7 (.int .i64 2) (.int .i64 0) (.string (s.extract k (k + n))) (.slice none 0 0)
      generalize ((((w7.setCell ⟨w.heap.size, 0, none⟩ (.int .i64 2)).setCell ⟨w.heap.size, 1, none⟩ (.int .i64 0)).setCell ⟨w.heap.size, 2, none⟩ (.string (s.extract k (k + n)))).setCell ⟨w.heap.size, 3, none⟩ (.slice none 0 0)) = wz at h4 hbut ⊢
      refine bodyPost_ret (v := textV (s.extract k (k + n))) (by simp [results, Tryd.results55, go_sem, World.cell?, h4]) rfl ?_
      rw [HX.out]
      exact ⟨⟨_, rfl, by rw [Rep, extract_of s k n hfit], (hbut.block pb (by omega)).trans HP7.out⟩, Fr.but HF7.out hbut (Nat.le_refl _)⟩
    · have hB : decide ((s.size : Int) < (k : Int) + (n : Int)) = true := by simp; omega
      have HX := Lib.hid (textF_end HD.out (by rw [size_list]; omega))
      have hall : Hid (∀ q, Same w4 (w4.drewN q)) := Lib.hid (fun q => ⟨rfl, rfl, rfl, rfl⟩)
      go_wp2
      go_quiet (fail)
      have hsm := hall.out nq
      generalize w4.drewN nq = w5 at hsm ⊢
      have hp5 := HP4.out.same hsm
      have hc0 := hp5.c0
      have hc1 := hp5.c1
      have hc3 := hp5.c3
      have hf := hp5.fz
      have hp6 : PS pb s s.size m 0 (w5.setCell ⟨pb, 1, none⟩ (.int .i64 s.size)) := hp5.set1 s.size
      have hc36 := hp6.c3
      have hf36 := hp6.fz 3
      have hp7 : PS pb s s.size m 10 ((w5.setCell ⟨pb, 1, none⟩ (.int .i64 s.size)).setCell ⟨pb, 3, none⟩ (.int .i64 10)) := hp6.set3 10
      have HF7 : Hid (Fr (· = pb) w ((w5.setCell ⟨pb, 1, none⟩ (.int .i64 s.size)).setCell ⟨pb, 3, none⟩ (.int .i64 10))) := Lib.hid (frP (frP (HF4.out.trans (hsm.fr (X := (· = pb)))) 1 _) 3 _)
      have hB5 : w5.heap[w.heap.size]? = some (.cells #[.int .i64 0, .int .i64 0, .string ⟨#[]⟩, .slice none 0 0] 36 (0, 0)) := by rw [hsm.heap]; exact HB4.out
      have hB7 : ((w5.setCell ⟨pb, 1, none⟩ (.int .i64 s.size)).setCell ⟨pb, 3, none⟩ (.int .i64 10)).heap[w.heap.size]? = some (.cells #[.int .i64 0, .int .i64 0, .string ⟨#[]⟩, .slice none 0 0] 36 (0, 0)) :=
        (Below.heap_setCell _ _ _ _ (by show w.heap.size ≠ pb; omega)).trans ((Below.heap_setCell _ _ _ _ (by show w.heap.size ≠ pb; omega)).trans hB5)
      have hr0 : ((w5.setCell ⟨pb, 1, none⟩ (.int .i64 s.size)).setCell ⟨pb, 3, none⟩ (.int .i64 10)).cell? ⟨w.heap.size, 0, none⟩ = some (.int .i64 0) := by simp [World.cell?, hB7]
      have hr1 : ((w5.setCell ⟨pb, 1, none⟩ (.int .i64 s.size)).setCell ⟨pb, 3, none⟩ (.int .i64 10)).cell? ⟨w.heap.size, 1, none⟩ = some (.int .i64 0) := by simp [World.cell?, hB7]
      have hr2 : ((w5.setCell ⟨pb, 1, none⟩ (.int .i64 s.size)).setCell ⟨pb, 3, none⟩ (.int .i64 10)).cell? ⟨w.heap.size, 2, none⟩ = some (.string ⟨#[]⟩) := by simp [World.cell?, hB7]
      have hr3 : ((w5.setCell ⟨pb, 1, none⟩ (.int .i64 s.size)).setCell ⟨pb, 3, none⟩ (.int .i64 10)).cell? ⟨w.heap.size, 3, none⟩ = some (.slice none 0 0) := by simp [World.cell?, hB7]
      have hrf : ∀ j, ((w5.setCell ⟨pb, 1, none⟩ (.int .i64 s.size)).setCell ⟨pb, 3, none⟩ (.int .i64 10)).frozen? ⟨w.heap.size, j, none⟩ = false := frozen_of_heap hB7
      have HP7 := Lib.hid hp7
      have HB7 := Lib.hid hB7
      clear hsm hp5 hp6 hp7 hB5 hB7
      go_wp2
      generalize (w5.setCell ⟨pb, 1, none⟩ (.int .i64 s.size)).setCell ⟨pb, 3, none⟩ (.int .i64 10) = w7 at *
      have h4 := heap_put4 HB7.out (.int .i64 0) (.int .i64 0) (.string ⟨#[]⟩) (.slice none 0 0)
      have hbut := But.put4 w.heap.size w7 (.int .i64 0) (.int .i64 0) (.string ⟨#[]⟩) (.slice none 0 0)
      generalize ((((w7.setCell ⟨w.heap.size, 0, none⟩ (.int .i64 0)).setCell ⟨w.heap.size, 1, none⟩ (.int .i64 0)).setCell ⟨w.heap.size, 2, none⟩ (.string ⟨#[]⟩)).setCell ⟨w.heap.size, 3, none⟩ (.slice none 0 0)) = wz at h4 hbut ⊢
      refine bodyPost_ret (v := zeroV) (by simp [results, Tryd.results55, go_sem, World.cell?, h4]) rfl ?_
      rw [HX.out]
      exact ⟨⟨rfl, by rw [size_list]; exact (hbut.block pb (by omega)).trans HP7.out⟩, Fr.but HF7.out hbut (Nat.le_refl _)⟩
  · have HX := Lib.hid (textF_bad hd her)
    have hE : ((er : Int) != 0) = true := by simp; omega
    clear hd hp3 hblk3 hdd T
    go_wp2
    have h4 := heap_put4 HB3.out (.int .i64 0) (.int .i64 0) (.string ⟨#[]⟩) (.slice none 0 0)
    have hbut := But.put4 w.heap.size w3 (.int .i64 0) (.int .i64 0) (.string ⟨#[]⟩) (.slice none 0 0)
    generalize ((((w3.setCell ⟨w.heap.size, 0, none⟩ (.int .i64 0)).setCell ⟨w.heap.size, 1, none⟩ (.int .i64 0)).setCell ⟨w.heap.size, 2, none⟩ (.string ⟨#[]⟩)).setCell ⟨w.heap.size, 3, none⟩ (.slice none 0 0)) = wz at h4 hbut ⊢
    refine bodyPost_ret (v := zeroV) (by simp [results, Tryd.results55, go_sem, World.cell?, h4]) rfl ?_
    rw [HX.out]
    exact ⟨⟨rfl, (hbut.block pb (by omega)).trans HP3.out⟩, Fr.but HF3.out hbut (Nat.le_refl _)⟩
end Go.Proofs.YtmagcikaepobiaaDoor
