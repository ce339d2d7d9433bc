/- The document's Args: whoever it lets in may be. -/
import Derived.Test.YtlmaafmhadbiaaaGreatDoorAr
import Derived.Laws.EntriesVeiled
namespace Go.Proofs.YtlmaafmhadbiaaaGreatDoor
open Go.RowKit

/-- So far arguments may be. -/
structure ArgsK (xs : List Argm) (k : Nat) : Prop where
  len : k ≤ 32
  each : ∀ (j : Nat) x, j < k → xs[j]? = some x → nameB x.nm.data.toList = true ∧ valOK x
  apart : ∀ (i j : Nat) x y, j < k → xs[i]? = some x → xs[j]? = some y → i < j → x.nm ≠ y.nm
theorem argsK_step {xs : List Argm} {k : Nat} {x : Argm} (h : ArgsK xs k) (hx : xs[k]? = some x) (hn : nameB x.nm.data.toList = true) (hv : valOK x) (hk : k < 32) (hd : ∀ (q : Nat) y, q < k → xs[q]? = some y → y.nm ≠ x.nm) : ArgsK xs (k + 1) where
  len := hk
  each := fun j y hj hy => by
    rcases Nat.lt_or_eq_of_le (Nat.le_of_lt_succ hj) with h1 | rfl
    · exact h.each j y h1 hy
    · rw [hx] at hy
      obtain rfl := Option.some.inj hy
      exact ⟨hn, hv⟩
  apart := fun i j y z hj hy hz hij => by
    rcases Nat.lt_or_eq_of_le (Nat.le_of_lt_succ hj) with h1 | rfl
    · exact h.apart i j y z h1 hy hz hij
    · rw [hx] at hz
      obtain rfl := Option.some.inj hz
      exact hd i y hij hy
theorem argsK_all {xs : List Argm} (h : ArgsK xs xs.length) : ArgsOK xs where
  len := h.len
  each := fun k x hx => h.each k x (List.getElem?_eq_some_iff.1 hx).1 hx
  apart := fun i j x y hx hy hij => h.apart i j x y (List.getElem?_eq_some_iff.1 hy).1 hx hy hij

set_option maxHeartbeats 6400000 in
set_option maxRecDepth 100000 in
theorem rargs_any (w : World) (a : Option Addr) (cap : Nat) (xs : List Argm) (hxs : SlA w (Old w) (.slice a xs.length cap) xs) (hsz : ∀ (k : Nat) x, xs[k]? = some x → x.nm.size ≤ 140737488351232 ∧ x.s.size ≤ 140737488351232) :
    Calls Tryz.prog 6 #[.slice a xs.length cap] w fun e w' => ∃ q : Bool, e = .returned (.bool q) ∧ (q = true → ArgsOK xs) ∧ Below w.heap.size w w' := by
  have hmax := hxs.lenleA.2
  have HX := Lib.hid hxs
  have HSZ := Lib.hid hsz
  obtain ⟨L, HL⟩ : ∃ L, Hid (L = xs.length) := ⟨_, Lib.hid rfl⟩
  have hL2 : L ≤ 9223372036854775807 := by have := HL.out; omega
  rw [← HL.out] at HX ⊢
  clear hxs hmax hsz
  go_enter Tryz.func6, Tryz.ntmps6
  go_wp2
  go_loopw [8] (fun i wr => ∃ (k : Nat), k ≤ L ∧ i = .int .i64 k ∧ Hid (Below w.heap.size w wr) ∧ Hid (ArgsK xs k)) (fun i _ => L - (intOf i).toNat)
  case atStart => exact ⟨0, Nat.zero_le _, rfl, Lib.hid (Below.refl _ _), Lib.hid ⟨Nat.zero_le _, fun j x h => by omega, fun i j x y h => by omega⟩⟩
  case round =>
    obtain ⟨k, hk, rfl, HB, HOK⟩ := hrel
    by_cases hlt : k < L
    · obtain ⟨x, hx⟩ : ∃ x, xs[k]? = some x := ⟨_, List.getElem?_eq_getElem (by have := HL.out; omega)⟩
      have hk32 := HOK.out.len
      obtain ⟨g1, off1, rfl, -, hat⟩ := (HX.out.old HB.out).at_ hx
      obtain ⟨h0, h1, h2, h3⟩ := hat.a
      have HXK := Lib.hid hx
      have HZ := HSZ.out k x hx
      obtain ⟨nm, num, n, s⟩ := x
      simp only at h0 h1 h2 h3 HXK HZ
      have R := row_new wr #[.string nm, .bool num, .int .i64 n, .string s] 38
      have HRW2 : Hid (Row (wr.alloc (.cells #[.string nm, .bool num, .int .i64 n, .string s] 38)) wr.heap.size 38 [.string nm, .bool num, .int .i64 n, .string s]) := Lib.hid R
      have HB2 : Hid (Below w.heap.size w (wr.alloc (.cells #[.string nm, .bool num, .int .i64 n, .string s] 38))) := Lib.hid (below_trans HB.out (below1 _ _))
      have HX2 := Lib.hid ((HX.out.old HB.out).old (below1 wr (.cells #[.string nm, .bool num, .int .i64 n, .string s] 38)))
      have c0 := R.cell (i := 0) rfl
      have c1 := R.cell (i := 1) rfl
      have c2 := R.cell (i := 2) rfl
      have c3 := R.cell (i := 3) rfl
      have HNC := Lib.hid (rname_any nm (wr.alloc (.cells #[.string nm, .bool num, .int .i64 n, .string s] 38)) HZ.1)
      have hs3 := HZ.2
      clear R hat hx HB HZ
      cases hnb : nameB nm.data.toList with
      | false =>
        rw [hnb] at HNC
        clear hnb
        go_wp2_with fail
        refine HNC.out.mono ?_
        rintro e w3 ⟨rfl, rfl⟩
        go_wp2
        go_ret
        exact ⟨false, rfl, (fun e => by cases e), HB2.out⟩
      | true =>
        rw [hnb] at HNC
        have HNB := Lib.hid hnb
        clear hnb
        cases num with
        | true =>
          by_cases he : s = ⟨#[]⟩
          · have HVK : Hid (valOK ⟨nm, true, n, s⟩) := Lib.hid (.inl ⟨rfl, he⟩)
            subst he
            go_wp2_with fail
            refine HNC.out.mono ?_
            rintro e w3 ⟨rfl, rfl⟩
            clear HNC
            generalize wr.alloc (.cells #[.string nm, .bool true, .int .i64 n, .string ⟨#[]⟩] 38) = w3 at *
            go_wp2
            go_loopw [5] (fun j w4 => ∃ k2 : Nat, k2 ≤ k ∧ j = .int .i64 k2 ∧ Hid (Same w3 w4) ∧ Hid (∀ (q : Nat) y, q < k2 → xs[q]? = some y → y.nm ≠ nm)) (fun j _ => k - (intOf j).toNat)
            case atStart => exact ⟨0, Nat.zero_le _, rfl, Lib.hid (Same.refl _), Lib.hid (fun q y h => by omega)⟩
            case round =>
              obtain ⟨k2, hk2, rfl, HS4, HD⟩ := hrel
              have HRW4 := Lib.hid (HS4.out.row HRW2.out)
              by_cases hlt2 : k2 < k
              · obtain ⟨y, hy⟩ : ∃ y, xs[k2]? = some y := ⟨_, List.getElem?_eq_getElem (by have := HL.out; omega)⟩
                obtain ⟨g2, off2, hg2, -, hat2⟩ := ((HX2.out.old (HS4.out.below (B := w3.heap.size))).at_ hy)
                injection hg2 with hg2
                injection hg2 with hg2 hg3
                subst hg2 hg3
                obtain ⟨y0, -, -, -⟩ := hat2.a
                have r0 := HRW4.out.cell (i := 0) rfl
                have HY := Lib.hid hy
                obtain ⟨ynm, ynum, yn, ys⟩ := y
                simp only at y0 HY
                clear hat2 hy
                by_cases he : ynm = nm
                · subst he
                  go_wp2
                  go_quiet (fail)
                  go_wp2
                  go_ret
                  exact ⟨false, rfl, (fun e => by cases e), below_drewN (HB2.out.trans (HS4.out.below)) _⟩
                · have HN : Hid (∀ (q : Nat) y, q < k2 + 1 → xs[q]? = some y → y.nm ≠ nm) := Lib.hid (fun q y hq hqy => by
                    rcases Nat.lt_or_eq_of_le (Nat.le_of_lt_succ hq) with h | rfl
                    · exact HD.out q y h hqy
                    · rw [HY.out] at hqy
                      obtain rfl := Option.some.inj hqy
                      exact he)
                  have hbe : (ynm.toList == nm.toList) = false := by
                    rw [ByteArray.toList_eq, ByteArray.toList_eq]
                    exact beq_eq_false_iff_ne.2 (fun e => he (ByteArray.ext (Array.toList_inj.1 e)))
                  clear he
                  go_wp2
                  go_quiet (fail)
                  generalize hw5 : wr.drewN nq = w5
                  have HS5 : Hid (Same w3 w5) := Lib.hid (by rw [← hw5]; exact HS4.out.drewN _)
                  clear hw5
                  go_wp2
                  go_roundw
                  case rel => exact ⟨k2 + 1, by omega, by go_num, HS5, HN⟩
                  case measure => simp [intOf]; omega
              · by_cases h32 : 32 ≤ k
                · go_wp2
                  go_ret
                  exact ⟨false, rfl, (fun e => by cases e), HB2.out.trans (HS4.out.below)⟩
                · have HBN : Hid (Below w.heap.size w wr) := Lib.hid (HB2.out.trans (HS4.out.below))
                  have HOKN : Hid (ArgsK xs (k + 1)) := Lib.hid (argsK_step HOK.out HXK.out HNB.out HVK.out (by omega) (fun q y hq hqy => HD.out q y (by omega) hqy))
                  go_wp2
                  go_roundw
                  case rel => exact ⟨k + 1, by omega, by go_num, HBN, HOKN⟩
                  case measure => simp [intOf]; omega
          · have hee := ba_isE he
            clear he
            go_wp2_with fail
            refine HNC.out.mono ?_
            rintro e w3 ⟨rfl, rfl⟩
            go_wp2
            go_ret
            exact ⟨false, rfl, (fun e => by cases e), HB2.out⟩
        | false =>
          by_cases he : n = 0
          · by_cases h8 : s.size ≤ 8000
            · have HVK : Hid (valOK ⟨nm, false, n, s⟩) := Lib.hid (.inr ⟨rfl, he, h8⟩)
              have h8i : ¬ (8000 : Int) < (s.size : Int) := by omega
              subst he
              go_wp2_with fail
              refine HNC.out.mono ?_
              rintro e w3 ⟨rfl, rfl⟩
              clear HNC
              generalize wr.alloc (.cells #[.string nm, .bool false, .int .i64 0, .string s] 38) = w3 at *
              go_wp2
              go_loopw [5] (fun j w4 => ∃ k2 : Nat, k2 ≤ k ∧ j = .int .i64 k2 ∧ Hid (Same w3 w4) ∧ Hid (∀ (q : Nat) y, q < k2 → xs[q]? = some y → y.nm ≠ nm)) (fun j _ => k - (intOf j).toNat)
              case atStart => exact ⟨0, Nat.zero_le _, rfl, Lib.hid (Same.refl _), Lib.hid (fun q y h => by omega)⟩
              case round =>
                obtain ⟨k2, hk2, rfl, HS4, HD⟩ := hrel
                have HRW4 := Lib.hid (HS4.out.row HRW2.out)
                by_cases hlt2 : k2 < k
                · obtain ⟨y, hy⟩ : ∃ y, xs[k2]? = some y := ⟨_, List.getElem?_eq_getElem (by have := HL.out; omega)⟩
                  obtain ⟨g2, off2, hg2, -, hat2⟩ := ((HX2.out.old (HS4.out.below (B := w3.heap.size))).at_ hy)
                  injection hg2 with hg2
                  injection hg2 with hg2 hg3
                  subst hg2 hg3
                  obtain ⟨y0, -, -, -⟩ := hat2.a
                  have r0 := HRW4.out.cell (i := 0) rfl
                  have HY := Lib.hid hy
                  obtain ⟨ynm, ynum, yn, ys⟩ := y
                  simp only at y0 HY
                  clear hat2 hy
                  by_cases he : ynm = nm
                  · subst he
                    go_wp2
                    go_quiet (fail)
                    go_wp2
                    go_ret
                    exact ⟨false, rfl, (fun e => by cases e), below_drewN (HB2.out.trans (HS4.out.below)) _⟩
                  · have HN : Hid (∀ (q : Nat) y, q < k2 + 1 → xs[q]? = some y → y.nm ≠ nm) := Lib.hid (fun q y hq hqy => by
                      rcases Nat.lt_or_eq_of_le (Nat.le_of_lt_succ hq) with h | rfl
                      · exact HD.out q y h hqy
                      · rw [HY.out] at hqy
                        obtain rfl := Option.some.inj hqy
                        exact he)
                    have hbe : (ynm.toList == nm.toList) = false := by
                      rw [ByteArray.toList_eq, ByteArray.toList_eq]
                      exact beq_eq_false_iff_ne.2 (fun e => he (ByteArray.ext (Array.toList_inj.1 e)))
                    clear he
                    go_wp2
                    go_quiet (fail)
                    generalize hw5 : wr.drewN nq = w5
                    have HS5 : Hid (Same w3 w5) := Lib.hid (by rw [← hw5]; exact HS4.out.drewN _)
                    clear hw5
                    go_wp2
                    go_roundw
                    case rel => exact ⟨k2 + 1, by omega, by go_num, HS5, HN⟩
                    case measure => simp [intOf]; omega
                · by_cases h32 : 32 ≤ k
                  · go_wp2
                    go_ret
                    exact ⟨false, rfl, (fun e => by cases e), HB2.out.trans (HS4.out.below)⟩
                  · have HBN : Hid (Below w.heap.size w wr) := Lib.hid (HB2.out.trans (HS4.out.below))
                    have HOKN : Hid (ArgsK xs (k + 1)) := Lib.hid (argsK_step HOK.out HXK.out HNB.out HVK.out (by omega) (fun q y hq hqy => HD.out q y (by omega) hqy))
                    go_wp2
                    go_roundw
                    case rel => exact ⟨k + 1, by omega, by go_num, HBN, HOKN⟩
                    case measure => simp [intOf]; omega
            · have h8i : (8000 : Int) < (s.size : Int) := by omega
              subst he
              go_wp2_with fail
              refine HNC.out.mono ?_
              rintro e w3 ⟨rfl, rfl⟩
              go_wp2
              go_ret
              exact ⟨false, rfl, (fun e => by cases e), HB2.out⟩
          · have hne : (n != 0) = true := by rw [bne_iff_ne]; exact he
            go_wp2_with fail
            refine HNC.out.mono ?_
            rintro e w3 ⟨rfl, rfl⟩
            go_wp2
            go_ret
            exact ⟨false, rfl, (fun e => by cases e), HB2.out⟩
    · have HF : Hid (ArgsOK xs) := Lib.hid (argsK_all (by rw [← HL.out]; have : k = L := by omega
                                                          subst this; exact HOK.out))
      go_wp2
      go_ret
      exact ⟨true, rfl, fun _ => HF.out, HB.out⟩
end Go.Proofs.YtlmaafmhadbiaaaGreatDoor
