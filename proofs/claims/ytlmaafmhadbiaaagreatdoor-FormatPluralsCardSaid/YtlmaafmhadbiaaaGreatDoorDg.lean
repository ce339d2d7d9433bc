/- Package format: digits; the argument of a name, its number. The law's digits of a small number. -/
import Derived.Test.YtlmaafmhadbiaaaGreatDoorFm
namespace Go.Proofs.YtlmaafmhadbiaaaGreatDoor
open Go.RowKit

set_option maxHeartbeats 1600000 in
theorem digits_any (n : Int) (h1 : -9223372036854775808 ≤ n) (h2 : n ≤ 9223372036854775807) (w : World) (hE : EnvW w) : Calls Tryz.prog 42 #[.int .i64 n] w fun e w' => e = .returned (.string ⟨(Lib.itoa n).toArray⟩) ∧ Below w.heap.size w w' := by
  have HF := Lib.hid (Tryz.strconv_FormatInt_10 n h1 h2 w hE.tab)
  clear h1 h2 hE
  go_enter Tryz.func42, Tryz.ntmps42
  go_wp2_with fail
  refine HF.out.mono ?_
  rintro e w2 ⟨rfl, k, os, rfl⟩
  have HB := Lib.hid (below_grow w k os)
  go_wp2
  go_ret
  exact ⟨rfl, HB.out⟩

set_option maxHeartbeats 1600000 in
set_option maxRecDepth 100000 in
/-- Of one argument: it is found by its name. -/
theorem argument_one (w : World) (lang : BA) (b : Option Addr) (capb : Nat) (x : Argm) (hx : SlA w (Old w) (.slice b 1 capb) [x]) :
    Calls Tryz.prog 41 #[.agg #[.string lang, .slice b 1 capb], .string x.nm] w fun e w' => e = .returned (.agg #[.string x.nm, .bool x.num, .int .i64 x.n, .string x.s]) ∧ Below w.heap.size w w' := by
  obtain ⟨g, off, rfl, -, -⟩ := hx.at_ (j := 0) rfl
  have hx1 := hx.old (below2 w (.cells #[.string lang, .slice (some ⟨g, off, none⟩) 1 capb] 46) (.cells #[.string ⟨#[]⟩, .bool false, .int .i64 0, .string ⟨#[]⟩] 38))
  obtain ⟨g', off', hgg, -, hat⟩ := hx1.at_ (j := 0) rfl
  injection hgg with hgg
  injection hgg with hg1 hg2
  subst hg1 hg2
  obtain ⟨h0, h1, h2, h3⟩ := hat.a
  simp only [Nat.zero_mul, Nat.add_zero] at h0 h1 h2 h3
  obtain ⟨nm, num, n, s⟩ := x
  simp only at h0 h1 h2 h3 ⊢
  have HB1 := Lib.hid (below2 w (.cells #[.string lang, .slice (some ⟨g, off, none⟩) 1 capb] 46) (.cells #[.string ⟨#[]⟩, .bool false, .int .i64 0, .string ⟨#[]⟩] 38))
  have HR1 : Hid (Row ((w.alloc (.cells #[.string lang, .slice (some ⟨g, off, none⟩) 1 capb] 46)).alloc (.cells #[.string ⟨#[]⟩, .bool false, .int .i64 0, .string ⟨#[]⟩] 38)) (w.heap.size + 1) 38 [.string ⟨#[]⟩, .bool false, .int .i64 0, .string ⟨#[]⟩]) := Lib.hid (by
    have := row_new (w.alloc (.cells #[.string lang, .slice (some ⟨g, off, none⟩) 1 capb] 46)) #[.string ⟨#[]⟩, .bool false, .int .i64 0, .string ⟨#[]⟩] 38
    rw [World.size_alloc] at this; exact this)
  clear hx hx1 hat
  go_enter Tryz.func41, Tryz.ntmps41
  go_wp2
  generalize (w.alloc (.cells #[.string lang, .slice (some ⟨g, off, none⟩) 1 capb] 46)).alloc (.cells #[.string ⟨#[]⟩, .bool false, .int .i64 0, .string ⟨#[]⟩] 38) = w1 at *
  go_loopw [10] (fun i wr => i = .int .i64 0 ∧ wr = w1) (fun i _ => 1 - (intOf i).toNat)
  case atStart => exact ⟨rfl, rfl⟩
  case round =>
    obtain ⟨rfl, rfl⟩ := hrel
    have R2 := HR1.out.alloc (.cells #[.string nm, .bool num, .int .i64 n, .string s] 38)
    have R3 := row_new wr #[.string nm, .bool num, .int .i64 n, .string s] 38
    have HB3 := Lib.hid (below_trans HB1.out (below1 wr (.cells #[.string nm, .bool num, .int .i64 n, .string s] 38)))
    have HR2 := Lib.hid R2
    have c0 := R2.cell (i := 0) rfl
    have c1 := R2.cell (i := 1) rfl
    have c2 := R2.cell (i := 2) rfl
    have c3 := R2.cell (i := 3) rfl
    have d0 := R3.cell (i := 0) rfl
    have d1 := R3.cell (i := 1) rfl
    have d2 := R3.cell (i := 2) rfl
    have d3 := R3.cell (i := 3) rfl
    have z0 := R2.thaw 0
    have z1 := R2.thaw 1
    have z2 := R2.thaw 2
    have z3 := R2.thaw 3
    clear R2 R3
    go_wp2
    generalize wr.alloc (.cells #[.string nm, .bool num, .int .i64 n, .string s] 38) = w3 at *
    have R5 := (((HR2.out.set 0 (.string nm)).set 1 (.bool num)).set 2 (.int .i64 n)).set 3 (.string s)
    have HB5 := (((HB3.out.setCell (p := ⟨w.heap.size + 1, 0, none⟩) (Nat.le_succ _) (.string nm)).setCell (p := ⟨w.heap.size + 1, 1, none⟩) (Nat.le_succ _) (.bool num)).setCell (p := ⟨w.heap.size + 1, 2, none⟩) (Nat.le_succ _) (.int .i64 n)).setCell (p := ⟨w.heap.size + 1, 3, none⟩) (Nat.le_succ _) (.string s)
    generalize (((w3.setCell ⟨w.heap.size + 1, 0, none⟩ (.string nm)).setCell ⟨w.heap.size + 1, 1, none⟩ (.bool num)).setCell ⟨w.heap.size + 1, 2, none⟩ (.int .i64 n)).setCell ⟨w.heap.size + 1, 3, none⟩ (.string s) = w5 at R5 HB5 ⊢
    have e0 := R5.cell (i := 0) rfl
    have e1 := R5.cell (i := 1) rfl
    have e2 := R5.cell (i := 2) rfl
    have e3 := R5.cell (i := 3) rfl
    exact bodyPost_ret (v := .agg #[.string nm, .bool num, .int .i64 n, .string s]) (by simp [results, Tryz.results41, go_sem, e0, e1, e2, e3]) rfl ⟨rfl, HB5⟩

set_option maxHeartbeats 1600000 in
set_option maxRecDepth 100000 in
/-- Its number. -/
theorem num_one (w : World) (lang : BA) (b : Option Addr) (capb : Nat) (x : Argm) (hx : SlA w (Old w) (.slice b 1 capb) [x]) (hn : x.num = true) :
    Calls Tryz.prog 43 #[.agg #[.string lang, .slice b 1 capb], .string x.nm] w fun e w' => e = .returned (.int .i64 x.n) ∧ Below w.heap.size w w' := by
  have HA := Lib.hid (argument_one (w.alloc (.cells #[.string lang, .slice b 1 capb] 46)) lang b capb x (hx.old (below1 _ _)))
  obtain ⟨nm, num, n, s⟩ := x
  simp only at HA hn ⊢
  subst hn
  clear hx
  go_enter Tryz.func43, Tryz.ntmps43
  go_wp2_with fail
  refine HA.out.mono ?_
  rintro e w2 ⟨rfl, hb2⟩
  have HB2 := Lib.hid (below_trans (below1 w (.cells #[.string lang, .slice b 1 capb] 46)) hb2)
  have HB3 := Lib.hid (below_trans HB2.out (below1 w2 (.cells #[.string nm, .bool true, .int .i64 n, .string s] 38)))
  clear hb2
  have R3 := row_new w2 #[.string nm, .bool true, .int .i64 n, .string s] 38
  have d1 := R3.cell (i := 1) rfl
  have d2 := R3.cell (i := 2) rfl
  clear R3
  go_wp2
  go_ret
  exact ⟨rfl, HB3.out⟩

theorem dg_int (k : Nat) : (48 + (k : Int) % 10) = (((UInt8.ofNat (48 + k % 10)).toNat : Nat) : Int) := by
  rw [(dig_ofNat (Nat.mod_lt k (by decide))).2]; omega
theorem one_back (w : World) (k : Nat) : (convert 47 9 (.slice (some ⟨w.heap.size, 0, none⟩) 1 1)).run Tryz.prog (w.alloc (.cells #[.int .u8 (48 + (k : Int) % 10)] 5)) = .ok (.string ⟨#[UInt8.ofNat (48 + k % 10)]⟩) (w.alloc (.cells #[.int .u8 (48 + (k : Int) % 10)] 5)) := by
  have h := run_convert_bytes_back (P := Tryz.prog) (w.alloc (.cells #[.int .u8 (48 + (k : Int) % 10)] 5)) 47 9 5 ⟨w.heap.size, 0, none⟩ 1 [UInt8.ofNat (48 + k % 10)] Tryz.underlying47 Tryz.underlying5 Tryz.underlying9 (by
    intro j hj
    have hh : (w.alloc (.cells #[.int .u8 (48 + (k : Int) % 10)] 5)).cell? ⟨w.heap.size, j, none⟩ = _ := World.cell?_alloc_mark w _ 5 (0, 0) j
    have ha : (⟨w.heap.size, 0, none⟩ : Addr).add j = ⟨w.heap.size, j, none⟩ := by unfold Addr.add; split <;> simp_all
    rw [ha, hh]
    match j, hj with
    | 0, _ => simp only [List.getElem_cons_zero]; rw [dg_int]; rfl)
  exact h
set_option maxHeartbeats 3200000 in
set_option maxRecDepth 100000 in
/-- The law's digits. -/
theorem lnum_any (u : Nat) (hu : u ≤ 1000000) (w : World) :
    Calls Tryz.prog 8 #[.int .i64 u] w fun e w' => e = .returned (.string ⟨(Lib.decDigits u).toArray⟩) ∧ Below w.heap.size w w' := by
  go_enter Tryz.func8, Tryz.ntmps8
  go_wp2
  go_loopw [0, 3] (fun i s wr => ∃ (k : Nat) (l : BA), k ≤ u ∧ i = .int .i64 k ∧ s = .string l ∧ l.size + k ≤ 1000010 ∧ Hid (Lib.decDigits k ++ l.data.toList = Lib.decDigits u) ∧ Hid (Below w.heap.size w wr)) (fun i _ _ => (intOf i).toNat)
  case atStart => exact ⟨u, ⟨#[]⟩, Nat.le_refl _, rfl, rfl, by show 0 + u ≤ 1000010; omega, Lib.hid (by show Lib.decDigits u ++ [] = _; simp), Lib.hid (Below.refl _ _)⟩
  case round =>
    obtain ⟨k, l, hk, rfl, rfl, hl, HD, HB⟩ := hrel
    have hb := one_back wr k
    obtain ⟨c, hc⟩ : ∃ c, Hid (c = UInt8.ofNat (48 + k % 10)) := ⟨_, Lib.hid rfl⟩
    rw [← hc.out] at hb
    have HB2 := Lib.hid (below_trans HB.out (below1 wr (.cells #[.int .u8 (48 + (k : Int) % 10)] 5)))
    have hcat : ((⟨#[c]⟩ : BA) ++ l).data.toList = c :: l.data.toList := by simp
    have hcz : ((⟨#[c]⟩ : BA) ++ l).size = 1 + l.size := by rw [ByteArray.size_append]; rfl
    have HC := Lib.hid hcat
    have HCZ := Lib.hid hcz
    have hz1 : (⟨#[c]⟩ : BA).size = 1 := rfl
    clear hcat hcz
    by_cases h10 : k < 10
    · have hz : (k : Int) / 10 = 0 := by omega
      have HF : Hid (((⟨#[c]⟩ : BA) ++ l) = ⟨(Lib.decDigits u).toArray⟩) := Lib.hid (by
        apply ByteArray.ext; apply Array.toList_inj.1
        rw [HC.out, ← HD.out, dg_small h10, hc.out, Nat.mod_eq_of_lt h10])
      clear h10
      go_wp2
      go_ret
      exact ⟨by rw [HF.out]; rfl, HB2.out⟩
    · have hz : ((k : Int) / 10 == 0) = false := by rw [beq_eq_false_iff_ne]; omega
      have HF : Hid (Lib.decDigits (k / 10) ++ ((⟨#[c]⟩ : BA) ++ l).data.toList = Lib.decDigits u) := Lib.hid (by rw [HC.out, ← HD.out, dg_big h10, hc.out])
      go_wp2
      go_roundw
      case rel => exact ⟨k / 10, _, by omega, by go_num, rfl, by rw [HCZ.out]; omega, HF, HB2⟩
      case measure => simp [intOf]; omega
end Go.Proofs.YtlmaafmhadbiaaaGreatDoor
