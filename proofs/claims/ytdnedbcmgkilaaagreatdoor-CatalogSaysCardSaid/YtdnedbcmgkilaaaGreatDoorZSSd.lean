/- The document's Args, both ways; its Format. -/
import Derived.Test.YtdnedbcmgkilaaaGreatDoorZSSc

namespace Go.Proofs.YtdnedbcmgkilaaaGreatDoor
set_option maxHeartbeats 6400000
set_option maxRecDepth 100000
open Go.Lib (hid)
open Go.RowKit
theorem zh1 (w : World) (a : Option Addr) (cap : Nat) (xs : List Argm) (hxs : SlA w (Old w) (.slice a xs.length cap) xs) (hsz : ∀ (k : Nat) x, xs[k]? = some x -> x.nm.size <= 140737488351232 /\ x.s.size <= 140737488351232) :
    Calls Tryz.prog 86 #[.slice a xs.length cap] w fun e w' => ∃ q : Bool, e = .returned (.bool q) /\ (q = true ↔ ArgsOK xs) /\ Below w.heap.size w w' := by
  have hmax := hxs.lenleA.2
  have HX := hid hxs
  have HSZ := hid hsz
  obtain ⟨L, HL⟩ : ∃ L, Hid (L = xs.length) := ⟨_, hid rfl⟩
  have hL2 : L <= 9223372036854775807 := by have := HL.out; omega
  rw [<- HL.out] at HX ⊢
  clear hxs hmax hsz
  go_enter Tryz.func86, Tryz.ntmps86
  go_wp2
  go_loopw [8] (fun i wr => ∃ (k : Nat), k <= L /\ i = .int .i64 k /\ Hid (Below w.heap.size w wr) /\ Hid (ArgsK xs k)) (fun i _ => L - (intOf i).toNat)
  case atStart => exact ⟨0, Nat.zero_le _, rfl, hid (Below.refl _ _), hid ⟨Nat.zero_le _, fun j x h => by omega, fun i j x y h => by omega⟩⟩
  case round =>
    obtain ⟨k, hk, rfl, HB, HOK⟩ := hrel
    by_cases hlt : k < L
    · obtain ⟨x, hx⟩ : ∃ x, xs[k]? = some x := ⟨_, List.getElem?_eq_getElem (by have := HL.out; omega)⟩
      have hk32 := HOK.out.len
      obtain ⟨g1, off1, rfl, -, hat⟩ := (HX.out.old HB.out).at_ hx
      obtain ⟨h0, h1, h2, h3⟩ := hat.a
      have HXK := hid hx
      have HZ := HSZ.out k x hx
      obtain ⟨nm, num, n, s⟩ := x
      simp only at h0 h1 h2 h3 HXK HZ
      have R := z04 wr #[.string nm, .bool num, .int .i64 n, .string s] 148
      have HRW2 : Hid (Row (wr.alloc (.cells #[.string nm, .bool num, .int .i64 n, .string s] 148)) wr.heap.size 148 [.string nm, .bool num, .int .i64 n, .string s]) := hid R
      have HB2 : Hid (Below w.heap.size w (wr.alloc (.cells #[.string nm, .bool num, .int .i64 n, .string s] 148))) := hid (z00 HB.out (z02 _ _))
      have HX2 := hid ((HX.out.old HB.out).old (z02 wr (.cells #[.string nm, .bool num, .int .i64 n, .string s] 148)))
      have c0 := R.cell (i := 0) rfl
      have c1 := R.cell (i := 1) rfl
      have c2 := R.cell (i := 2) rfl
      have c3 := R.cell (i := 3) rfl
      have HNC := hid (z58 nm (wr.alloc (.cells #[.string nm, .bool num, .int .i64 n, .string s] 148)) HZ.1)
      have hs3 := HZ.2
      clear R hat hx HB HZ
      cases hnb : nameB nm.data.toList with
      | false =>
        rw [hnb] at HNC
        have HNA : Hid (¬ ArgsOK xs) := hid (fun ho => by have := (ho.each k _ HXK.out).1; rw [hnb] at this; cases this)
        clear hnb
        go_wp2_with fail
        refine HNC.out.mono ?_
        rintro e w3 ⟨rfl, rfl⟩
        go_wp2
        go_ret
        exact ⟨false, rfl, ⟨(fun e => by cases e), fun e => absurd e HNA.out⟩, HB2.out⟩
      | true =>
        rw [hnb] at HNC
        have HNB := hid hnb
        clear hnb
        cases num with
        | true =>
          by_cases he : s = ⟨#[]⟩
          · have HVK : Hid (valOK ⟨nm, true, n, s⟩) := hid (.inl ⟨rfl, he⟩)
            subst he
            go_wp2_with fail
            refine HNC.out.mono ?_
            rintro e w3 ⟨rfl, rfl⟩
            clear HNC
            generalize wr.alloc (.cells #[.string nm, .bool true, .int .i64 n, .string ⟨#[]⟩] 148) = w3 at *
            go_wp2
            go_loopw [5] (fun j w4 => ∃ k2 : Nat, k2 <= k /\ j = .int .i64 k2 /\ Hid (Same w3 w4) /\ Hid (∀ (q : Nat) y, q < k2 -> xs[q]? = some y -> y.nm ≠ nm)) (fun j _ => k - (intOf j).toNat)
            case atStart => exact ⟨0, Nat.zero_le _, rfl, hid (Same.refl _), hid (fun q y h => by omega)⟩
            case round =>
              obtain ⟨k2, hk2, rfl, HS4, HD⟩ := hrel
              have HRW4 := hid (HS4.out.row HRW2.out)
              by_cases hlt2 : k2 < k
              · obtain ⟨y, hy⟩ : ∃ y, xs[k2]? = some y := ⟨_, List.getElem?_eq_getElem (by have := HL.out; omega)⟩
                obtain ⟨g2, off2, hg2, -, hat2⟩ := ((HX2.out.old (HS4.out.below (B := w3.heap.size))).at_ hy)
                injection hg2 with hg2
                injection hg2 with hg2 hg3
                subst hg2 hg3
                obtain ⟨y0, -, -, -⟩ := hat2.a
                have r0 := HRW4.out.cell (i := 0) rfl
                have HY := hid hy
                obtain ⟨ynm, ynum, yn, ys⟩ := y
                simp only at y0 HY
                clear hat2 hy
                by_cases he : ynm = nm
                · have HNA : Hid (¬ ArgsOK xs) := hid (fun ho => ho.apart k2 k _ _ HY.out HXK.out (by omega) he)
                  subst he
                  go_wp2
                  go_quiet (fail)
                  go_wp2
                  go_ret
                  exact ⟨false, rfl, ⟨(fun e => by cases e), fun e => absurd e HNA.out⟩, z0r (HB2.out.trans (HS4.out.below)) _⟩
                · have HN : Hid (∀ (q : Nat) y, q < k2 + 1 -> xs[q]? = some y -> y.nm ≠ nm) := hid (fun q y hq hqy => by
                    rcases Nat.lt_or_eq_of_le (Nat.le_of_lt_succ hq) with h | rfl
                    · exact HD.out q y h hqy
                    · rw [HY.out] at hqy
                      obtain rfl := Option.some.inj hqy
                      exact he)
                  have hbe : (ynm.toList == nm.toList) = false := by
                    rw [ByteArray.toList_eq, ByteArray.toList_eq]
                    exact beq_eq_false_iff_ne.2 (fun e => he (ByteArray.ext (Array.toList_inj.1 e)))
                  clear he
                  go_wp2
                  go_quiet (fail)
                  generalize hw5 : wr.drewN nq = w5
                  have HS5 : Hid (Same w3 w5) := hid (by rw [<- hw5]; exact HS4.out.drewN _)
                  clear hw5
                  go_wp2
                  go_roundw
                  case rel => exact ⟨k2 + 1, by omega, by go_num, HS5, HN⟩
                  case measure => simp [intOf]; omega
              · by_cases h32 : 32 <= k
                · have HNA : Hid (¬ ArgsOK xs) := hid (fun ho => by have := ho.len; have := HL.out; omega)
                  go_wp2
                  go_ret
                  exact ⟨false, rfl, ⟨(fun e => by cases e), fun e => absurd e HNA.out⟩, HB2.out.trans (HS4.out.below)⟩
                · have HBN : Hid (Below w.heap.size w wr) := hid (HB2.out.trans (HS4.out.below))
                  have HOKN : Hid (ArgsK xs (k + 1)) := hid (z5z HOK.out HXK.out HNB.out HVK.out (by omega) (fun q y hq hqy => HD.out q y (by omega) hqy))
                  go_wp2
                  go_roundw
                  case rel => exact ⟨k + 1, by omega, by go_num, HBN, HOKN⟩
                  case measure => simp [intOf]; omega
          · have hee := zc0 he
            have HNA : Hid (¬ ArgsOK xs) := hid (fun ho => by rcases (ho.each k _ HXK.out).2 with ⟨_, h⟩ | ⟨h, _⟩; exact he h; cases h)
            clear he
            go_wp2_with fail
            refine HNC.out.mono ?_
            rintro e w3 ⟨rfl, rfl⟩
            go_wp2
            go_ret
            exact ⟨false, rfl, ⟨(fun e => by cases e), fun e => absurd e HNA.out⟩, HB2.out⟩
        | false =>
          by_cases he : n = 0
          · by_cases h8 : s.size <= 8000
            · have HVK : Hid (valOK ⟨nm, false, n, s⟩) := hid (.inr ⟨rfl, he, h8⟩)
              have h8i : ¬ (8000 : Int) < (s.size : Int) := by omega
              subst he
              go_wp2_with fail
              refine HNC.out.mono ?_
              rintro e w3 ⟨rfl, rfl⟩
              clear HNC
              generalize wr.alloc (.cells #[.string nm, .bool false, .int .i64 0, .string s] 148) = w3 at *
              go_wp2
              go_loopw [5] (fun j w4 => ∃ k2 : Nat, k2 <= k /\ j = .int .i64 k2 /\ Hid (Same w3 w4) /\ Hid (∀ (q : Nat) y, q < k2 -> xs[q]? = some y -> y.nm ≠ nm)) (fun j _ => k - (intOf j).toNat)
              case atStart => exact ⟨0, Nat.zero_le _, rfl, hid (Same.refl _), hid (fun q y h => by omega)⟩
              case round =>
                obtain ⟨k2, hk2, rfl, HS4, HD⟩ := hrel
                have HRW4 := hid (HS4.out.row HRW2.out)
                by_cases hlt2 : k2 < k
                · obtain ⟨y, hy⟩ : ∃ y, xs[k2]? = some y := ⟨_, List.getElem?_eq_getElem (by have := HL.out; omega)⟩
                  obtain ⟨g2, off2, hg2, -, hat2⟩ := ((HX2.out.old (HS4.out.below (B := w3.heap.size))).at_ hy)
                  injection hg2 with hg2
                  injection hg2 with hg2 hg3
                  subst hg2 hg3
                  obtain ⟨y0, -, -, -⟩ := hat2.a
                  have r0 := HRW4.out.cell (i := 0) rfl
                  have HY := hid hy
                  obtain ⟨ynm, ynum, yn, ys⟩ := y
                  simp only at y0 HY
                  clear hat2 hy
                  by_cases he : ynm = nm
                  · have HNA : Hid (¬ ArgsOK xs) := hid (fun ho => ho.apart k2 k _ _ HY.out HXK.out (by omega) he)
                    subst he
                    go_wp2
                    go_quiet (fail)
                    go_wp2
                    go_ret
                    exact ⟨false, rfl, ⟨(fun e => by cases e), fun e => absurd e HNA.out⟩, z0r (HB2.out.trans (HS4.out.below)) _⟩
                  · have HN : Hid (∀ (q : Nat) y, q < k2 + 1 -> xs[q]? = some y -> y.nm ≠ nm) := hid (fun q y hq hqy => by
                      rcases Nat.lt_or_eq_of_le (Nat.le_of_lt_succ hq) with h | rfl
                      · exact HD.out q y h hqy
                      · rw [HY.out] at hqy
                        obtain rfl := Option.some.inj hqy
                        exact he)
                    have hbe : (ynm.toList == nm.toList) = false := by
                      rw [ByteArray.toList_eq, ByteArray.toList_eq]
                      exact beq_eq_false_iff_ne.2 (fun e => he (ByteArray.ext (Array.toList_inj.1 e)))
                    clear he
                    go_wp2
                    go_quiet (fail)
                    generalize hw5 : wr.drewN nq = w5
                    have HS5 : Hid (Same w3 w5) := hid (by rw [<- hw5]; exact HS4.out.drewN _)
                    clear hw5
                    go_wp2
                    go_roundw
                    case rel => exact ⟨k2 + 1, by omega, by go_num, HS5, HN⟩
                    case measure => simp [intOf]; omega
                · by_cases h32 : 32 <= k
                  · have HNA : Hid (¬ ArgsOK xs) := hid (fun ho => by have := ho.len; have := HL.out; omega)
                    go_wp2
                    go_ret
                    exact ⟨false, rfl, ⟨(fun e => by cases e), fun e => absurd e HNA.out⟩, HB2.out.trans (HS4.out.below)⟩
                  · have HBN : Hid (Below w.heap.size w wr) := hid (HB2.out.trans (HS4.out.below))
                    have HOKN : Hid (ArgsK xs (k + 1)) := hid (z5z HOK.out HXK.out HNB.out HVK.out (by omega) (fun q y hq hqy => HD.out q y (by omega) hqy))
                    go_wp2
                    go_roundw
                    case rel => exact ⟨k + 1, by omega, by go_num, HBN, HOKN⟩
                    case measure => simp [intOf]; omega
            · have h8i : (8000 : Int) < (s.size : Int) := by omega
              have HNA : Hid (¬ ArgsOK xs) := hid (fun ho => by rcases (ho.each k _ HXK.out).2 with ⟨h, _⟩ | ⟨_, _, h⟩; cases h; exact h8 h)
              subst he
              go_wp2_with fail
              refine HNC.out.mono ?_
              rintro e w3 ⟨rfl, rfl⟩
              go_wp2
              go_ret
              exact ⟨false, rfl, ⟨(fun e => by cases e), fun e => absurd e HNA.out⟩, HB2.out⟩
          · have hne : (n != 0) = true := by rw [bne_iff_ne]; exact he
            have HNA : Hid (¬ ArgsOK xs) := hid (fun ho => by rcases (ho.each k _ HXK.out).2 with ⟨h, _⟩ | ⟨_, h, _⟩; cases h; exact he h)
            go_wp2_with fail
            refine HNC.out.mono ?_
            rintro e w3 ⟨rfl, rfl⟩
            go_wp2
            go_ret
            exact ⟨false, rfl, ⟨(fun e => by cases e), fun e => absurd e HNA.out⟩, HB2.out⟩
    · have HF : Hid (ArgsOK xs) := hid (zc1 (by rw [<- HL.out]; have : k = L := by omega
                                                subst this; exact HOK.out))
      go_wp2
      go_ret
      exact ⟨true, rfl, ⟨fun _ => HF.out, fun _ => rfl⟩, HB.out⟩
end Go.Proofs.YtdnedbcmgkilaaaGreatDoor
