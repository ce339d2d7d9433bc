/- Package catalog: a list's search, place, find. -/
import Derived.Test.YtdnedbcmgkilaaaGreatDoorZEq

section

namespace Go.Proofs.YtdnedbcmgkilaaaGreatDoor.Ca
open Go.RowKit Go.Proofs.YtdnedbcmgkilaaaGreatDoor

set_option maxHeartbeats 6400000 in
set_option maxRecDepth 100000 in
theorem search_any (w : World) (a : Option Addr) (cap : Nat) (xs : List Ent) (x : Ent) (hX : SlE w (Old w) (.slice a xs.length cap) xs) (hs : Srt xs) (hl1 : xs.length ≤ 1000000) :
    Calls Tryz.prog 113 #[.slice a xs.length cap, enV x, cmpFn] w fun e w' => e = .returned (.tuple #[.int .i64 (posE x xs : Nat), .bool (fndE x xs)]) ∧ Below w.heap.size w w' := by
  have HX := Lib.hid hX
  have HSR := Lib.hid hs
  have hple := posE_le x xs
  obtain ⟨L, HL⟩ : ∃ L, Hid (L = xs.length) := ⟨_, Lib.hid rfl⟩
  obtain ⟨p, HP⟩ : ∃ p, Hid (p = posE x xs) := ⟨_, Lib.hid rfl⟩
  obtain ⟨fb, HFB⟩ : ∃ p, Hid (p = fndE x xs) := ⟨_, Lib.hid rfl⟩
  rw [← HL.out, ← HP.out] at hple
  rw [← HL.out] at HX hl1 ⊢
  rw [← HP.out, ← HFB.out]
  have hbox := row_new w (enC x) 38
  have HBOX : Hid (Row (w.alloc (.cells (enC x) 38)) w.heap.size 38 [.string x.loc, .string x.key, .string x.pat]) := Lib.hid hbox
  have HB0 := Lib.hid (below1 w (.cells (enC x) 38))
  have hwz : w.heap.size < (w.alloc (.cells (enC x) 38)).heap.size := by simp
  have HXB := Lib.hid (HX.out.old HB0.out)
  clear hX hs hbox
  go_enter Tryz.func113, Tryz.ntmps113
  go_wp2
  generalize hW1 : w.alloc (.cells (enC x) 38) = W1 at *
  clear hW1
  go_loopw [9, 10] (fun l h wr => ∃ lo hi : Nat, lo ≤ p ∧ p ≤ hi ∧ hi ≤ L ∧ l = .int .i64 lo ∧ h = .int .i64 hi ∧ Hid (Below W1.heap.size W1 wr)) (fun l h _ => (intOf h).toNat - (intOf l).toNat)
  case atStart => exact ⟨0, L, by omega, hple, by omega, rfl, rfl, Lib.hid (Below.refl _ _)⟩
  case round =>
    obtain ⟨lo, hi, h1, h2, h3, rfl, rfl, HB⟩ := hrel
    by_cases hlt : lo < hi
    · obtain ⟨m, hm⟩ : ∃ m : Nat, m = (lo + hi) / 2 := ⟨_, rfl⟩
      have hm2 : ((lo : Int) + (hi : Int)) / 2 = (m : Int) := by omega
      have hmh : m < hi := by omega
      have hml : lo ≤ m := by omega
      have hmL : (m : Int) < (L : Int) := by omega
      have hm0 : (m : Int).toNat = m := by omega
      clear hm
      obtain ⟨y, hy⟩ : ∃ y, xs[m]? = some y := ⟨_, List.getElem?_eq_getElem (by have := HL.out; omega)⟩
      have HXr := Lib.hid (HXB.out.old HB.out)
      have HBR := Lib.hid (HBOX.out.below HB.out)
      obtain ⟨b, off, rfl, hbo, y0, y1, y2⟩ := HXr.out.get hy
      have b0 := HBR.out.cell (i := 0) rfl
      have b1 := HBR.out.cell (i := 1) rfl
      have b2 := HBR.out.cell (i := 2) rfl
      have hbl : w.heap.size < wr.heap.size := HBR.out.lt
      have HC := Lib.hid (fun W => compare_any y x W)
      have HLT := Lib.hid (cmpE_lt y x)
      have HEQ := Lib.hid (cmpE_0 y x)
      have HY := Lib.hid hy
      obtain ⟨c, HCC⟩ : ∃ c, Hid (c = cmpE y x) := ⟨_, Lib.hid rfl⟩
      rw [← HCC.out] at HC HLT HEQ
      obtain ⟨xl, xk, xp⟩ := x
      obtain ⟨yl, yk, yp⟩ := y
      simp only at b0 b1 b2 y0 y1 y2 HC HLT HEQ HBOX HBR
      have HD : Hid (∀ W, Hid (Below wr.heap.size wr W) → (W.cell? ⟨w.heap.size, 0, none⟩ = some (.string xl) ∧ W.cell? ⟨w.heap.size, 1, none⟩ = some (.string xk) ∧ W.cell? ⟨w.heap.size, 2, none⟩ = some (.string xp) ∧ W.cell? ⟨b, off + m * 3, none⟩ = some (.string yl) ∧ W.cell? ⟨b, off + m * 3 + 1, none⟩ = some (.string yk) ∧ W.cell? ⟨b, off + m * 3 + 2, none⟩ = some (.string yp))) := Lib.hid (fun W h =>
        ⟨(h.out.cell (p := ⟨w.heap.size, 0, none⟩) hbl).trans b0, (h.out.cell (p := ⟨w.heap.size, 1, none⟩) hbl).trans b1, (h.out.cell (p := ⟨w.heap.size, 2, none⟩) hbl).trans b2, (h.out.cell (p := ⟨b, _, none⟩) hbo).trans y0, (h.out.cell (p := ⟨b, _, none⟩) hbo).trans y1, (h.out.cell (p := ⟨b, _, none⟩) hbo).trans y2⟩)
      have HC1 : Hid (∀ W, Hid (Below wr.heap.size wr W) → Calls Tryz.prog 51 #[.agg #[.string yl, .string yk, .string yp], .agg #[.string xl, .string xk, .string xp]] W fun e w' => e = .returned (.int .i64 c) ∧ (w'.cell? ⟨w.heap.size, 0, none⟩ = some (.string xl) ∧ w'.cell? ⟨w.heap.size, 1, none⟩ = some (.string xk) ∧ w'.cell? ⟨w.heap.size, 2, none⟩ = some (.string xp) ∧ w'.cell? ⟨b, off + m * 3, none⟩ = some (.string yl) ∧ w'.cell? ⟨b, off + m * 3 + 1, none⟩ = some (.string yk) ∧ w'.cell? ⟨b, off + m * 3 + 2, none⟩ = some (.string yp)) ∧ Hid (Below wr.heap.size wr w')) :=
        Lib.hid (fun W h => (HC.out W).mono fun e w' ⟨he, hb⟩ => ⟨he, HD.out w' (Lib.hid (below_trans h.out hb)), Lib.hid (below_trans h.out hb)⟩)
      have hd0 : Hid (Below wr.heap.size wr wr.drew) := Lib.hid (Below.refl _ _).drew
      have dd := HD.out _ hd0
      clear y0 y1 y2 b0 b1 b2 hy
      cases hah : ahB ⟨yl, yk, yp⟩ ⟨xl, xk, xp⟩ with
      | true =>
        have hc0 : c < 0 := by have h1 := HLT.out; rw [hah] at h1; exact of_decide_eq_true h1
        have hmp : m < p := by have := lt_of_ah HSR.out HY.out hah; have := HP.out; omega
        clear hah
        go_wp2
        go_region_held3 (fun W => W.cell? ⟨w.heap.size, 0, none⟩ = some (.string xl) ∧ W.cell? ⟨w.heap.size, 1, none⟩ = some (.string xk) ∧ W.cell? ⟨w.heap.size, 2, none⟩ = some (.string xp) ∧ W.cell? ⟨b, off + m * 3, none⟩ = some (.string yl) ∧ W.cell? ⟨b, off + m * 3 + 1, none⟩ = some (.string yk) ∧ W.cell? ⟨b, off + m * 3 + 2, none⟩ = some (.string yp)) (first | go_keep | assumption)
          (first | (go_at_call 51; refine (HC1.out _ ?_).mono ?_; assumption; rintro e U1 ⟨rfl, hq1, hk1⟩) | fail)
        have HB2 := Lib.hid (below_trans HB.out hk1.out)
        go_wp2
        go_roundw
        case rel => exact ⟨m + 1, hi, by omega, h2, h3, by go_num, rfl, HB2⟩
        case measure => simp [intOf]; omega
      | false =>
        have hc0 : ¬ c < 0 := by have h1 := HLT.out; rw [hah] at h1; exact of_decide_eq_false h1
        have hc0' : 0 ≤ c := by omega
        have hmp : p ≤ m := by have := le_of_not HY.out hah; have := HP.out; omega
        clear hah
        go_wp2
        go_region_held3 (fun W => W.cell? ⟨w.heap.size, 0, none⟩ = some (.string xl) ∧ W.cell? ⟨w.heap.size, 1, none⟩ = some (.string xk) ∧ W.cell? ⟨w.heap.size, 2, none⟩ = some (.string xp) ∧ W.cell? ⟨b, off + m * 3, none⟩ = some (.string yl) ∧ W.cell? ⟨b, off + m * 3 + 1, none⟩ = some (.string yk) ∧ W.cell? ⟨b, off + m * 3 + 2, none⟩ = some (.string yp)) (first | go_keep | assumption)
          (first | (go_at_call 51; refine (HC1.out _ ?_).mono ?_; assumption; rintro e U1 ⟨rfl, hq1, hk1⟩) | fail)
        have HB2 := Lib.hid (below_trans HB.out hk1.out)
        go_wp2
        go_roundw
        case rel => exact ⟨lo, m, h1, hmp, by omega, rfl, rfl, HB2⟩
        case measure => simp [intOf]; omega
    · obtain rfl : lo = hi := by omega
      obtain rfl : p = lo := by omega
      by_cases hn : p < L
      · obtain ⟨m, hm⟩ : ∃ m : Nat, Hid (m = p) := ⟨_, Lib.hid rfl⟩
        have hmL : (m : Int) < (L : Int) := by have := hm.out; omega
        have hmh : m < L := by have := hm.out; omega
        rw [← hm.out]
        obtain ⟨y, hy⟩ : ∃ y, xs[m]? = some y := ⟨_, List.getElem?_eq_getElem (by have := HL.out; omega)⟩
        have HXr := Lib.hid (HXB.out.old HB.out)
        have HBR := Lib.hid (HBOX.out.below HB.out)
        obtain ⟨b, off, rfl, hbo, y0, y1, y2⟩ := HXr.out.get hy
        have b0 := HBR.out.cell (i := 0) rfl
        have b1 := HBR.out.cell (i := 1) rfl
        have b2 := HBR.out.cell (i := 2) rfl
        have hbl : w.heap.size < wr.heap.size := HBR.out.lt
        have HC := Lib.hid (fun W => compare_any y x W)
        have HLT := Lib.hid (cmpE_lt y x)
        have HEQ := Lib.hid (cmpE_0 y x)
        have HY := Lib.hid hy
        obtain ⟨c, HCC⟩ : ∃ c, Hid (c = cmpE y x) := ⟨_, Lib.hid rfl⟩
        rw [← HCC.out] at HC HLT HEQ
        obtain ⟨xl, xk, xp⟩ := x
        obtain ⟨yl, yk, yp⟩ := y
        simp only at b0 b1 b2 y0 y1 y2 HC HLT HEQ HBOX HBR
        have HD : Hid (∀ W, Hid (Below wr.heap.size wr W) → (W.cell? ⟨w.heap.size, 0, none⟩ = some (.string xl) ∧ W.cell? ⟨w.heap.size, 1, none⟩ = some (.string xk) ∧ W.cell? ⟨w.heap.size, 2, none⟩ = some (.string xp) ∧ W.cell? ⟨b, off + m * 3, none⟩ = some (.string yl) ∧ W.cell? ⟨b, off + m * 3 + 1, none⟩ = some (.string yk) ∧ W.cell? ⟨b, off + m * 3 + 2, none⟩ = some (.string yp))) := Lib.hid (fun W h =>
          ⟨(h.out.cell (p := ⟨w.heap.size, 0, none⟩) hbl).trans b0, (h.out.cell (p := ⟨w.heap.size, 1, none⟩) hbl).trans b1, (h.out.cell (p := ⟨w.heap.size, 2, none⟩) hbl).trans b2, (h.out.cell (p := ⟨b, _, none⟩) hbo).trans y0, (h.out.cell (p := ⟨b, _, none⟩) hbo).trans y1, (h.out.cell (p := ⟨b, _, none⟩) hbo).trans y2⟩)
        have HC1 : Hid (∀ W, Hid (Below wr.heap.size wr W) → Calls Tryz.prog 51 #[.agg #[.string yl, .string yk, .string yp], .agg #[.string xl, .string xk, .string xp]] W fun e w' => e = .returned (.int .i64 c) ∧ (w'.cell? ⟨w.heap.size, 0, none⟩ = some (.string xl) ∧ w'.cell? ⟨w.heap.size, 1, none⟩ = some (.string xk) ∧ w'.cell? ⟨w.heap.size, 2, none⟩ = some (.string xp) ∧ w'.cell? ⟨b, off + m * 3, none⟩ = some (.string yl) ∧ w'.cell? ⟨b, off + m * 3 + 1, none⟩ = some (.string yk) ∧ w'.cell? ⟨b, off + m * 3 + 2, none⟩ = some (.string yp)) ∧ Hid (Below wr.heap.size wr w')) :=
          Lib.hid (fun W h => (HC.out W).mono fun e w' ⟨he, hb⟩ => ⟨he, HD.out w' (Lib.hid (below_trans h.out hb)), Lib.hid (below_trans h.out hb)⟩)
        have hd0 : Hid (Below wr.heap.size wr wr.drew) := Lib.hid (Below.refl _ _).drew
        have dd := HD.out _ hd0
        clear y0 y1 y2 b0 b1 b2 hy
        have HFF : Hid (fb = (c == 0)) := Lib.hid (by
          rw [HFB.out]; unfold fndE; rw [← HP.out, ← hm.out, HY.out]; exact HEQ.out.symm)
        clear hn h1 h2 hlt hple
        go_wp2
        go_region_held3 (fun W => W.cell? ⟨w.heap.size, 0, none⟩ = some (.string xl) ∧ W.cell? ⟨w.heap.size, 1, none⟩ = some (.string xk) ∧ W.cell? ⟨w.heap.size, 2, none⟩ = some (.string xp) ∧ W.cell? ⟨b, off + m * 3, none⟩ = some (.string yl) ∧ W.cell? ⟨b, off + m * 3 + 1, none⟩ = some (.string yk) ∧ W.cell? ⟨b, off + m * 3 + 2, none⟩ = some (.string yp)) (first | go_keep | assumption)
          (first | (go_at_call 51; refine (HC1.out _ ?_).mono ?_; assumption; rintro e U1 ⟨rfl, hq1, hk1⟩) | fail)
        go_wp2
        go_ret2
        exact ⟨by rw [HFF.out, ← hm.out]; rfl, below_trans HB0.out (below_trans HB.out hk1.out)⟩
      · have HFF : Hid (fb = false) := Lib.hid (by rw [HFB.out]; unfold fndE; rw [← HP.out, List.getElem?_eq_none (by have := HL.out; omega)])
        have hLp : p = L := by omega
        have hn' : ¬ (p : Int) < (L : Int) := by omega
        have hnd : decide (p < L) = false := decide_eq_false hn
        clear hlt hn h1 h2 h3 hLp
        go_wp2
        go_quiet (fail)
        go_wp2
        go_ret2
        exact ⟨by rw [HFF.out]; rfl, below_trans HB0.out (below_drewN HB.out _)⟩

set_option maxHeartbeats 3200000 in
set_option maxRecDepth 100000 in
theorem place_any (w : World) (S : Nat) (a : Option Addr) (cap : Nat) (xs : List Ent) (x : Ent) (hS : Row w S 50 [.slice a xs.length cap, cmpFn]) (hX : SlE w (Old w) (.slice a xs.length cap) xs) (hs : Srt xs) (hl1 : xs.length ≤ 1000000) :
    Calls Tryz.prog 77 #[.pointer (some ⟨S, 0, none⟩), enV x] w fun e w' => e = .returned (.tuple #[.int .i64 (posE x xs : Nat), .bool (fndE x xs)]) ∧ Below w.heap.size w w' := by
  have hb0 := below1 w (.cells (enC x) 38)
  have r0 := row_new w (enC x) 38
  have rS := hS.below hb0
  have HB0 := Lib.hid hb0
  have d0 := r0.cell (i := 0) rfl
  have d1 := r0.cell (i := 1) rfl
  have d2 := r0.cell (i := 2) rfl
  have s0 := rS.cell (i := 0) rfl
  have s1 := rS.cell (i := 1) rfl
  have HC := Lib.hid (fun W (hb : Below (w.alloc (.cells (enC x) 38)).heap.size (w.alloc (.cells (enC x) 38)) W) => search_any W a cap xs x ((hX.old hb0).old hb) hs hl1)
  obtain ⟨p, HP⟩ : ∃ p, Hid (p = posE x xs) := ⟨_, Lib.hid rfl⟩
  obtain ⟨fb, HFB⟩ : ∃ p, Hid (p = fndE x xs) := ⟨_, Lib.hid rfl⟩
  rw [← HP.out, ← HFB.out] at HC ⊢
  have hz0 : w.heap.size < (w.alloc (.cells (enC x) 38)).heap.size := r0.lt
  have hz1 : S < (w.alloc (.cells (enC x) 38)).heap.size := rS.lt
  clear hX hs hl1 hS hb0 r0 rS
  generalize xs.length = L at *
  obtain ⟨xl, xk, xp⟩ := x
  simp only at d0 d1 d2 s0 s1 HB0 HC hz0 hz1
  go_enter Tryz.func77, Tryz.ntmps77
  go_wp2
  generalize w.alloc (.cells #[.string xl, .string xk, .string xp] 38) = W1 at *
  have HD : Hid (∀ W, Hid (Below W1.heap.size W1 W) → (W.cell? ⟨w.heap.size, 0, none⟩ = some (.string xl) ∧ W.cell? ⟨w.heap.size, 1, none⟩ = some (.string xk) ∧ W.cell? ⟨w.heap.size, 2, none⟩ = some (.string xp) ∧ W.cell? ⟨S, 0, none⟩ = some (.slice a L cap) ∧ W.cell? ⟨S, 1, none⟩ = some cmpFn)) := Lib.hid (fun W h => ⟨(h.out.cell hz0).trans d0, (h.out.cell hz0).trans d1, (h.out.cell hz0).trans d2, (h.out.cell hz1).trans s0, (h.out.cell hz1).trans s1⟩)
  have HC1 : Hid (∀ W, Hid (Below W1.heap.size W1 W) → Calls Tryz.prog 113 #[.slice a L cap, .agg #[.string xl, .string xk, .string xp], cmpFn] W fun e w' => e = .returned (.tuple #[.int .i64 p, .bool fb]) ∧ (w'.cell? ⟨w.heap.size, 0, none⟩ = some (.string xl) ∧ w'.cell? ⟨w.heap.size, 1, none⟩ = some (.string xk) ∧ w'.cell? ⟨w.heap.size, 2, none⟩ = some (.string xp) ∧ w'.cell? ⟨S, 0, none⟩ = some (.slice a L cap) ∧ w'.cell? ⟨S, 1, none⟩ = some cmpFn) ∧ Hid (Below W1.heap.size W1 w')) := Lib.hid (fun W h => (HC.out W h.out).mono fun e w' ⟨he, hb⟩ => ⟨he, HD.out w' (Lib.hid (below_trans h.out hb)), Lib.hid (below_trans h.out hb)⟩)
  have hd0 : Hid (Below W1.heap.size W1 W1.drew) := Lib.hid (Below.refl _ _).drew
  have dd := HD.out _ hd0
  clear d0 d1 d2 s0 s1 HC
  go_region_held3 (fun W => W.cell? ⟨w.heap.size, 0, none⟩ = some (.string xl) ∧ W.cell? ⟨w.heap.size, 1, none⟩ = some (.string xk) ∧ W.cell? ⟨w.heap.size, 2, none⟩ = some (.string xp) ∧ W.cell? ⟨S, 0, none⟩ = some (.slice a L cap) ∧ W.cell? ⟨S, 1, none⟩ = some cmpFn) (first | go_keep | assumption)
    (first | (go_at_call 113; refine (HC1.out _ ?_).mono ?_; assumption; rintro e U1 ⟨rfl, hq1, hk1⟩) | fail)
  all_goals go_wp2
  all_goals go_ret2
  all_goals exact ⟨rfl, below_trans HB0.out hk1.out⟩
end Go.Proofs.YtdnedbcmgkilaaaGreatDoor.Ca

end

/- Package catalog: a list's find. -/
section

namespace Go.Proofs.YtdnedbcmgkilaaaGreatDoor.Ca
open Go.RowKit Go.Proofs.YtdnedbcmgkilaaaGreatDoor

abbrev noE : Ent := ⟨⟨#[]⟩, ⟨#[]⟩, ⟨#[]⟩⟩
def ansE : Option Ent → Ent
  | some y => y
  | none => noE
/-- What find answers. -/
def FindP (xs : List Ent) (loc key : BA) (w : World) (e : Ending) (w' : World) : Prop := e = .returned (.tuple #[enV (ansE (findC xs loc key)), .bool (findC xs loc key).isSome]) ∧ Below w.heap.size w w'

set_option maxHeartbeats 3200000 in
set_option maxRecDepth 100000 in
theorem find_any (w : World) (S : Nat) (a : Option Addr) (cap : Nat) (xs : List Ent) (x : Ent) (hS : Row w S 50 [.slice a xs.length cap, cmpFn]) (hX : SlE w (Old w) (.slice a xs.length cap) xs) (hs : Srt xs) (hl1 : xs.length ≤ 1000000) :
    Calls Tryz.prog 42 #[.pointer (some ⟨S, 0, none⟩), enV x] w (FindP xs x.loc x.key w) := by
  have hb0 := below2 w (.cells (enC x) 38) (.cells (enC noE) 38)
  have r0 := (row_new w (enC x) 38).alloc (.cells (enC noE) 38)
  have r1 := row_new (w.alloc (.cells (enC x) 38)) (enC noE) 38
  rw [World.size_alloc] at r1
  have HB0 := Lib.hid hb0
  have d0 := r0.cell (i := 0) rfl
  have d1 := r0.cell (i := 1) rfl
  have d2 := r0.cell (i := 2) rfl
  have HPL := Lib.hid (place_any ((w.alloc (.cells (enC x) 38)).alloc (.cells (enC noE) 38)) S a cap xs x (hS.below hb0) (hX.old hb0) hs hl1)
  have HX := Lib.hid (hX.old hb0)
  have HS := Lib.hid (hS.below hb0)
  have HR1 := Lib.hid r1
  have hll := hX.len.2
  have hz0 : w.heap.size + 1 < ((w.alloc (.cells (enC x) 38)).alloc (.cells (enC noE) 38)).heap.size := r1.lt
  obtain ⟨fb, HFB⟩ : ∃ p, Hid (p = fndE x xs) := ⟨_, Lib.hid rfl⟩
  rw [← HFB.out] at HPL
  obtain ⟨L, HL⟩ : ∃ L, Hid (L = xs.length) := ⟨_, Lib.hid rfl⟩
  obtain ⟨p, HP⟩ : ∃ p, Hid (p = posE x xs) := ⟨_, Lib.hid rfl⟩
  rw [← HP.out] at HPL
  rw [← HL.out] at HX HS hll
  cases fb with
  | true =>
    obtain ⟨y, hy, hf⟩ := fnd_yes hs HFB.out.symm
    have HF : Hid (findC xs x.loc x.key = some y) := Lib.hid hf
    have hpL : (p : Int) < (L : Int) := by have := (List.getElem?_eq_some_iff.1 hy).1; have := HP.out; have := HL.out; omega
    rw [← HP.out] at hy
    have HY := Lib.hid hy
    clear hX hs hl1 hS hb0 r0 r1 hy hf
    obtain ⟨xl, xk, xp⟩ := x
    simp only at d0 d1 d2 HB0 HPL HX HS HR1 hz0 HF
    go_enter Tryz.func42, Tryz.ntmps42
    go_wp2_with fail
    refine HPL.out.mono ?_
    rintro e w1 ⟨rfl, hb1⟩
    have HB1 := Lib.hid hb1
    obtain ⟨b, off, rfl, hbo, y0, y1, y2⟩ := (HX.out.old hb1).get HY.out
    have s0 := (HS.out.below hb1).cell (i := 0) rfl
    have R2 := HR1.out.below hb1
    have t0 := R2.thaw 0
    have t1 := R2.thaw 1
    have t2 := R2.thaw 2
    have e0 := R2.cell (i := 0) rfl
    have e1 := R2.cell (i := 1) rfl
    have e2 := R2.cell (i := 2) rfl
    have R5 := ((R2.set 0 (.string y.loc)).set 1 (.string y.key)).set 2 (.string y.pat)
    have f0 := R5.cell (i := 0) rfl
    have f1 := R5.cell (i := 1) rfl
    have f2 := R5.cell (i := 2) rfl
    have HBF : Hid (Below w.heap.size w (((w1.setCell ⟨w.heap.size + 1, 0, none⟩ (.string y.loc)).setCell ⟨w.heap.size + 1, 1, none⟩ (.string y.key)).setCell ⟨w.heap.size + 1, 2, none⟩ (.string y.pat))) := Lib.hid
      (((((below_trans HB0.out hb1).setCell (p := ⟨w.heap.size + 1, 0, none⟩) (by simp) _).setCell (p := ⟨w.heap.size + 1, 1, none⟩) (by simp) _).setCell (p := ⟨w.heap.size + 1, 2, none⟩) (by simp) _))
    obtain ⟨yl, yk, yp⟩ := y
    simp only at y0 y1 y2 f0 f1 f2 HBF
    clear hb1 R2 R5 d0 d1 d2 HPL
    go_wp2
    exact bodyPost_ret (v := .tuple #[.agg #[.string yl, .string yk, .string yp], .bool true]) (by simp [results, Tryz.results42, go_sem, f0, f1, f2]) rfl ⟨by rw [HF.out]; rfl, HBF.out⟩
  | false =>
    have HF : Hid (findC xs x.loc x.key = none) := Lib.hid (fnd_no hs HFB.out.symm)
    clear hX hs hl1 hS hb0 r0 r1
    obtain ⟨xl, xk, xp⟩ := x
    simp only at d0 d1 d2 HB0 HPL HX HS HR1 hz0 HF
    go_enter Tryz.func42, Tryz.ntmps42
    go_wp2_with fail
    refine HPL.out.mono ?_
    rintro e w1 ⟨rfl, hb1⟩
    have HB1 := Lib.hid hb1
    have hb2 := below_trans hb1 (below1 w1 (.cells (enC noE) 38))
    have R2 := HR1.out.below hb2
    have Q2 := row_new w1 (enC noE) 38
    have g0 := Q2.cell (i := 0) rfl
    have g1 := Q2.cell (i := 1) rfl
    have g2 := Q2.cell (i := 2) rfl
    have t0 := R2.thaw 0
    have t1 := R2.thaw 1
    have t2 := R2.thaw 2
    have e0 := R2.cell (i := 0) rfl
    have e1 := R2.cell (i := 1) rfl
    have e2 := R2.cell (i := 2) rfl
    have R5 := ((R2.set 0 (.string ⟨#[]⟩)).set 1 (.string ⟨#[]⟩)).set 2 (.string ⟨#[]⟩)
    have f0 := R5.cell (i := 0) rfl
    have f1 := R5.cell (i := 1) rfl
    have f2 := R5.cell (i := 2) rfl
    have HBF : Hid (Below w.heap.size w ((((w1.alloc (.cells (enC noE) 38)).setCell ⟨w.heap.size + 1, 0, none⟩ (.string ⟨#[]⟩)).setCell ⟨w.heap.size + 1, 1, none⟩ (.string ⟨#[]⟩)).setCell ⟨w.heap.size + 1, 2, none⟩ (.string ⟨#[]⟩))) := Lib.hid
      (((((below_trans HB0.out hb2).setCell (p := ⟨w.heap.size + 1, 0, none⟩) (by simp) _).setCell (p := ⟨w.heap.size + 1, 1, none⟩) (by simp) _).setCell (p := ⟨w.heap.size + 1, 2, none⟩) (by simp) _))
    clear hb1 hb2 R2 R5 d0 d1 d2 HPL Q2
    go_wp2
    exact bodyPost_ret (v := .tuple #[.agg #[.string ⟨#[]⟩, .string ⟨#[]⟩, .string ⟨#[]⟩], .bool false]) (by simp [results, Tryz.results42, go_sem, f0, f1, f2]) rfl ⟨by rw [HF.out]; rfl, HBF.out⟩
end Go.Proofs.YtdnedbcmgkilaaaGreatDoor.Ca

end
