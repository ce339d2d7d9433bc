/- Package format: a plural's parts. -/
import Derived.Test.YtlmaafmhadbiaaaGreatDoorCh
import Derived.Deep.RegionHeld3
namespace Go.Proofs.YtlmaafmhadbiaaaGreatDoor
open Go.RowKit

/-- What stands while a plural is evaluated. -/
structure PK (W0 : World) (B b bx bp m : Nat) (l : List UInt8) (lang : BA) (asl : Value) (ca : Option Addr) (pc : Nat) (u : Nat) (W : World) : Prop where
  e : Ekp B b W0 W
  o : OutAt B b l W
  env : EnvW W
  rx : Row W bx 46 [.string lang, asl]
  rp : Row W bp 30 [.int .i64 4, .string ⟨#[]⟩, .string kN, .slice ca 7 pc]
  cs : SlC W (Old W) m (.slice ca 7 pc) (casesF u)
  hB : B ≤ W.heap.size
section
variable {W0 : World} {B b bx bp m : Nat} {l : List UInt8} {lang : BA} {asl : Value} {ca : Option Addr} {pc : Nat} {u : Nat} {W W' : World}
theorem PK.step (h : PK W0 B b bx bp m l lang asl ca pc u W) (hb : Below W.heap.size W W') : PK W0 B b bx bp m l lang asl ca pc u W' :=
  ⟨h.e.trans (.of_below h.hB hb), bd_below h.o hb, h.env.below hb, h.rx.below hb, h.rp.below hb, h.cs.old hb, Nat.le_trans h.hB hb.size⟩
theorem PK.cells (h : PK W0 B b bx bp m l lang asl ca pc u W) : W.cell? ⟨bx, 0, none⟩ = some (.string lang) ∧ W.cell? ⟨bx, 1, none⟩ = some asl ∧ W.cell? ⟨bp, 3, none⟩ = some (.slice ca 7 pc) := ⟨h.rx.cell rfl, h.rx.cell rfl, h.rp.cell rfl⟩
end
theorem out_lt {B b : Nat} {l : List UInt8} {w : World} (h : OutAt B b l w) : b < w.heap.size := h.elim (fun x => x.lt) (fun x => x.lt)
theorem strs_new (w : World) (x y z : BA) : SlS (w.alloc (.cells #[.string x, .string y, .string z] 9)) (Old (w.alloc (.cells #[.string x, .string y, .string z] 9))) (.slice (some ⟨w.heap.size, 0, none⟩) 3 3) [x, y, z] := by
  have ho := owns_lit w #[.string x, .string y, .string z] 9 0 3 1 rfl (Nat.zero_le _) (by decide)
  exact Sl.of_owns (xs := [x, y, z]) ho ⟨[.string x], _, rfl, rfl, rfl, [.string y], _, rfl, rfl, rfl, [.string z], [], rfl, rfl, rfl, rfl⟩ (fun b cs z h => (Array.getElem?_eq_some_iff.1 h).1)

set_option maxHeartbeats 6400000 in
set_option maxRecDepth 100000 in
theorem parts_plural (m B b : Nat) (l : List UInt8) (lang : BA) (ab : Option Addr) (capb : Nat) (h : Int) (n : Int) (u : Nat) (a : Option Addr) (cap : Nat) (w : World) (h1 : -9223372036854775808 ≤ n) (h2 : n ≤ 9223372036854775807)
    (hx : SlP w (Old w) m (.slice a 1 cap) [plPt u]) (has : SlA w (Old w) (.slice ab 1 capb) [⟨kN, true, n, ⟨#[]⟩⟩]) (hE : EnvW w) (ho : OutAt B b l w) (hl : l.length + 5 ≤ 8000) (hB : B ≤ w.heap.size) :
    Calls Tryz.prog 26 #[.agg #[.string lang, .slice ab 1 capb], .slice a 1 cap, .int .i64 h, addFn b] w fun e w' => e = .returned (.tuple #[]) ∧ OutAt B b (l ++ (wantF u lang n).data.toList) w' ∧ Ekp B b w w' := by
  have hb1 := below1 w (.cells #[.string lang, .slice ab 1 capb] 46)
  have hx1 := hx.old hb1
  have HAS := Lib.hid (has.old hb1)
  have HEV := Lib.hid (hE.below hb1)
  have HE1 : Hid (Ekp B b w (w.alloc (.cells #[.string lang, .slice ab 1 capb] 46))) := Lib.hid (.of_below hB hb1)
  have HO1 : Hid (OutAt B b l (w.alloc (.cells #[.string lang, .slice ab 1 capb] 46))) := Lib.hid (bd_below ho hb1)
  have HZ : Hid (B ≤ (w.alloc (.cells #[.string lang, .slice ab 1 capb] 46)).heap.size) := Lib.hid (by rw [World.size_alloc]; omega)
  have hbl : Hid (b < w.heap.size) := Lib.hid (out_lt ho)
  have HRX := Lib.hid (row_new w #[.string lang, .slice ab 1 capb] 46)
  obtain ⟨g, off, rfl, -, hat⟩ := hx1.at_ (j := 0) rfl
  obtain ⟨c0, c1, c2, m2, a1, p1, -, c3, hcs⟩ := hat.p
  simp only [Nat.zero_mul, Nat.add_zero, Pt.k, Pt.t, Pt.n, Pt.cs] at c0 c1 c2 c3 hcs
  have hlen : (casesF u).length = 7 := rfl
  rw [hlen] at c3 hcs
  have HCS := Lib.hid hcs
  have HW := Lib.hid (want_ne u lang n).2
  have HCH := Lib.hid (cho_pl u lang n)
  clear hx hx1 has hE ho hat hb1 hlen hcs
  go_enter Tryz.func26, Tryz.ntmps26
  go_wp2
  have HRX2 := Lib.hid HRX.out
  have hbx : Hid (w.heap.size < (w.alloc (.cells #[.string lang, .slice ab 1 capb] 46)).heap.size) := Lib.hid (by rw [World.size_alloc]; omega)
  generalize w.alloc (.cells #[.string lang, .slice ab 1 capb] 46) = w1 at *
  go_loopw [13] (fun i wr => (i = .int .i64 0 ∧ wr = w1) ∨ (i = .int .i64 1 ∧ Hid (OutAt B b (l ++ (wantF u lang n).data.toList) wr ∧ Ekp B b w wr))) (fun i _ => 1 - (intOf i).toNat)
  case atStart => exact .inl ⟨rfl, rfl⟩
  case round =>
    rcases hrel with ⟨rfl, rfl⟩ | ⟨rfl, HP⟩
    · have R := row_new wr #[.int .i64 4, .string ⟨#[]⟩, .string kN, .slice a1 7 p1] 30
      have hb2 := below1 wr (.cells #[.int .i64 4, .string ⟨#[]⟩, .string kN, .slice a1 7 p1] 30)
      have K2 : Hid (PK w B b w.heap.size wr.heap.size m2 l lang (.slice ab 1 capb) a1 p1 u (wr.alloc (.cells #[.int .i64 4, .string ⟨#[]⟩, .string kN, .slice a1 7 p1] 30))) := Lib.hid
        ⟨HE1.out.trans (.of_below HZ.out hb2), bd_below HO1.out hb2, HEV.out.below hb2, HRX.out.below hb2, R, HCS.out.old hb2, Nat.le_trans HZ.out hb2.size⟩
      have HAR := Lib.hid (num_one (wr.alloc (.cells #[.int .i64 4, .string ⟨#[]⟩, .string kN, .slice a1 7 p1] 30)) lang ab capb ⟨kN, true, n, ⟨#[]⟩⟩ (HAS.out.old hb2) rfl)
      have d0 := R.cell (i := 0) rfl
      have d2 := R.cell (i := 2) rfl
      have x0 := K2.out.rx.cell (i := 0) rfl
      have x1 := K2.out.rx.cell (i := 1) rfl
      clear R hb2
      go_wp2_with fail
      refine HAR.out.mono ?_
      rintro e w3 ⟨rfl, hb3⟩
      have K3 := Lib.hid (K2.out.step hb3)
      clear hb3 d0 d2 x0 x1 HAR c0 c1 c2 c3
      obtain ⟨dg, HDG⟩ : ∃ dg : BA, Hid (dg = ⟨(Lib.itoa n).toArray⟩) := ⟨_, Lib.hid rfl⟩
      obtain ⟨ct, HCT⟩ : ∃ ct : BA, Hid (ct = Pu.catF lang n) := ⟨_, Lib.hid rfl⟩
      obtain ⟨wt, HWT⟩ : ∃ wt : BA, Hid (wt = wantF u lang n) := ⟨_, Lib.hid rfl⟩
      rw [← HWT.out, ← HCT.out] at HCH
      rw [← HWT.out] at HW
      have hdz : dg.size ≤ 21 := by
        rw [HDG.out]; show (Lib.itoa n).toArray.size ≤ _; rw [List.size_toArray]; exact Lib.itoa_length_le n h1 h2
      have hds : ¬ 9223372036854775807 < 1 + dg.size := by omega
      have hds2 : ¬ 9223372036854775807 < (⟨#[61]⟩ : BA).size + dg.size := by show ¬ _ < 1 + dg.size; omega
      have HKE : Hid ((⟨#[61]⟩ : BA) ++ dg = ⟨(61 :: Lib.itoa n).toArray⟩) := Lib.hid (by
        rw [HDG.out]; apply ByteArray.ext; apply Array.toList_inj.1; simp)
      have HC1 : Hid (∀ W, Hid (PK w B b w.heap.size wr.heap.size m2 l lang (.slice ab 1 capb) a1 p1 u W) → Calls Tryz.prog 42 #[.int .i64 n] W fun e w' => e = .returned (.string dg) ∧ (w'.cell? ⟨w.heap.size, 0, none⟩ = some (.string lang) ∧ w'.cell? ⟨w.heap.size, 1, none⟩ = some (.slice ab 1 capb) ∧ w'.cell? ⟨wr.heap.size, 3, none⟩ = some (.slice a1 7 p1)) ∧ Hid (PK w B b w.heap.size wr.heap.size m2 l lang (.slice ab 1 capb) a1 p1 u w')) :=
        Lib.hid (fun W k => (digits_any n h1 h2 W k.out.env).mono fun e w' ⟨he, hb⟩ => ⟨by rw [he, HDG.out], (k.out.step hb).cells, Lib.hid (k.out.step hb)⟩)
      have HC2 : Hid (∀ W, Hid (PK w B b w.heap.size wr.heap.size m2 l lang (.slice ab 1 capb) a1 p1 u W) → Calls Tryz.prog 9 #[.string lang, .int .i64 n] W fun e w' => e = .returned (.string ct) ∧ (w'.cell? ⟨w.heap.size, 0, none⟩ = some (.string lang) ∧ w'.cell? ⟨w.heap.size, 1, none⟩ = some (.slice ab 1 capb) ∧ w'.cell? ⟨wr.heap.size, 3, none⟩ = some (.slice a1 7 p1)) ∧ Hid (PK w B b w.heap.size wr.heap.size m2 l lang (.slice ab 1 capb) a1 p1 u w')) :=
        Lib.hid (fun W k => (Pu.category_any W lang n h1 h2 k.out.env.tab).mono fun e w' ⟨he, hb⟩ => ⟨by rw [he, HCT.out], (k.out.step hb).cells, Lib.hid (k.out.step hb)⟩)
      have HC3 : Hid (∀ W, Hid (PK w B b w.heap.size wr.heap.size m2 l lang (.slice ab 1 capb) a1 p1 u W) → Calls Tryz.prog 44 #[.slice a1 7 p1, .slice (some ⟨W.heap.size, 0, none⟩) 3 3] (W.alloc (.cells #[.string ((⟨#[61]⟩ : BA) ++ dg), .string ct, .string ⟨#[111, 116, 104, 101, 114]⟩] 9)) fun e w' => ∃ a2 p2, e = .returned (.slice a2 1 p2) ∧ (w'.cell? ⟨w.heap.size, 0, none⟩ = some (.string lang) ∧ w'.cell? ⟨w.heap.size, 1, none⟩ = some (.slice ab 1 capb) ∧ w'.cell? ⟨wr.heap.size, 3, none⟩ = some (.slice a1 7 p1)) ∧ Hid (SlP w' (Old w') m2 (.slice a2 1 p2) [onePt wt]) ∧ Hid (PK w B b w.heap.size wr.heap.size m2 l lang (.slice ab 1 capb) a1 p1 u w')) :=
        Lib.hid (fun W k => by
          have k2 := k.out.step (below1 W (.cells #[.string ((⟨#[61]⟩ : BA) ++ dg), .string ct, .string ⟨#[111, 116, 104, 101, 114]⟩] 9))
          have hc := chosen_any m2 _ a1 p1 (casesF u) (some ⟨W.heap.size, 0, none⟩) 3 [(⟨#[61]⟩ : BA) ++ dg, ct, ⟨#[111, 116, 104, 101, 114]⟩] k2.cs (strs_new W _ _ _)
          rw [show choF (casesF u) [(⟨#[61]⟩ : BA) ++ dg, ct, ⟨#[111, 116, 104, 101, 114]⟩] = [onePt wt] by rw [HKE.out]; exact HCH.out] at hc
          exact hc.mono fun e w' ⟨a2, p2, he, hs, hb⟩ => ⟨a2, p2, he, (k2.step hb).cells, Lib.hid hs, Lib.hid (k2.step hb)⟩)
      have HC4 : Hid (∀ W a2 p2, Hid (PK w B b w.heap.size wr.heap.size m2 l lang (.slice ab 1 capb) a1 p1 u W) → Hid (SlP W (Old W) m2 (.slice a2 1 p2) [onePt wt]) → Calls Tryz.prog 26 #[.agg #[.string lang, .slice ab 1 capb], .slice a2 1 p2, .int .i64 n, addFn b] W fun e w' => e = .returned (.tuple #[]) ∧ (w'.cell? ⟨w.heap.size, 0, none⟩ = some (.string lang) ∧ w'.cell? ⟨w.heap.size, 1, none⟩ = some (.slice ab 1 capb) ∧ w'.cell? ⟨wr.heap.size, 3, none⟩ = some (.slice a1 7 p1)) ∧ Hid (OutAt B b (l ++ wt.data.toList) w' ∧ Ekp B b w w')) :=
        Lib.hid (fun W a2 p2 k hs => (parts_text m2 B b l lang (.slice ab 1 capb) n (onePt wt) a2 p2 W rfl hs.out k.out.o (by have := HW.out; simp only [Pt.t]; omega) k.out.hB).mono fun e w' ⟨he, h3, e3⟩ => ⟨he, by
          have r1 := e3.row k.out.rx (by decide) (by have := hbl.out; omega)
          have r2 := e3.row k.out.rp (by decide) (by have := hbl.out; have := hbx.out; omega)
          exact ⟨r1.cell rfl, r1.cell rfl, r2.cell rfl⟩, Lib.hid ⟨h3, k.out.e.trans e3⟩⟩)
      have K0 := Lib.hid (K3.out.step (Below.refl _ _).drew)
      have d0 := K0.out.cells
      go_wp2
      go_region_held3 (fun W => W.cell? ⟨w.heap.size, 0, none⟩ = some (.string lang) ∧ W.cell? ⟨w.heap.size, 1, none⟩ = some (.slice ab 1 capb) ∧ W.cell? ⟨wr.heap.size, 3, none⟩ = some (.slice a1 7 p1)) (first | go_keep | assumption)
        (first
          | (go_at_call 42; refine (HC1.out _ ?_).mono ?_; assumption; rintro e U1 ⟨rfl, hq1, hk1⟩)
          | (go_at_call 9; refine (HC2.out _ ?_).mono ?_; assumption; rintro e U2 ⟨rfl, hq2, hk2⟩)
          | (go_at_call 44; refine (HC3.out _ ?_).mono ?_; assumption; rintro e U3 ⟨a2, p2, rfl, hq3, hi3, hk3⟩)
          | (go_at_call 26; refine (HC4.out _ _ _ ?_ ?_).mono ?_; assumption; assumption; rintro e U4 ⟨rfl, hq4, hk4⟩)
          | fail)
      all_goals (rw [HWT.out] at hk4)
      all_goals go_wp2
      all_goals go_roundw
      all_goals first | (exact .inr ⟨by go_num, hk4⟩) | (simp [intOf])
    · go_wp2
      go_end0
      exact ⟨rfl, HP.out⟩
end Go.Proofs.YtlmaafmhadbiaaaGreatDoor
