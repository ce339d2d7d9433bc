/- FormatPlain: what the law answers. -/
import Derived.Test.YtlmaafmhadbiaaaGreatDoorFo
namespace Go.Proofs.YtlmaafmhadbiaaaGreatDoor
open Go.RowKit

/-- The pattern of one text. -/
abbrev onePt (t : BA) : Pt := .mk 1 t ⟨#[]⟩ []
theorem one_right {t : BA} (h : t ≠ ⟨#[]⟩) : rightE [onePt t] = 0 := by
  have he : t.data.toList.isEmpty = false := by rw [← ByteArray.toList_eq]; exact ba_isE h
  have e1 : cntPs [onePt t] = 1 := by simp [cntPs, cntP, cntCs]
  have e2 : dpPs [onePt t] = 0 := by simp [dpPs, dpP, dpCs]
  have e3 : okPs false false [onePt t] = true := by
    rw [okPs, okPs, okP]; simp [Pt.k, he]
  unfold rightE
  rw [e1, e2, e3]; rfl
theorem one_cnt (t : BA) : cntPs [onePt t] ≤ 2000 := by simp [cntPs, cntP, cntCs]
theorem one_small (t : BA) : smPs 140737488351232 [onePt t] := by
  rw [smPs, smPs, smP, smCs]
  exact ⟨⟨by decide, trivial⟩, trivial⟩
theorem one_new (w : World) (t : BA) : SlP (w.alloc (.cells #[.int .i64 1, .string t, .string ⟨#[]⟩, .slice none 0 0] 30)) (Old (w.alloc (.cells #[.int .i64 1, .string t, .string ⟨#[]⟩, .slice none 0 0] 30))) 1 (.slice (some ⟨w.heap.size, 0, none⟩) 1 1) [onePt t] := by
  have ho := owns_lit w #[.int .i64 1, .string t, .string ⟨#[]⟩, .slice none 0 0] 30 0 1 4 rfl (Nat.zero_le _) (by decide)
  exact Sl.of_owns (xs := [onePt t]) ho (Cat.one rfl (CP.mk (Sl.nil _ _ _ _))) (fun b cs z h => (Array.getElem?_eq_some_iff.1 h).1)
theorem str_back (s : BA) : (⟨s.data.toList.toArray⟩ : BA) = s := by apply ByteArray.ext; simp

set_option maxHeartbeats 3200000 in
set_option maxRecDepth 100000 in
theorem plain_any (m : Int) (w : World) (text lang : BA) (b : Option Addr) (capb : Nat) (ags : List Argm) (hm : Lc.MaxW m w) (hE : EnvW w) (hs : text.size ≤ 140737488351232) (has : SlA w (Old w) (.slice b ags.length capb) ags) (hsz : ∀ (k : Nat) x, ags[k]? = some x → x.nm.size ≤ 140737488351232 ∧ x.s.size ≤ 140737488351232) :
    Calls Tryz.prog 3 #[.string text, .string lang, .slice b ags.length capb] w fun e w' => e = .returned (.bool true) ∧ Below w.heap.size w w' := by
  have HM := Lib.hid hm
  have HAL := Lib.hid (fun W (hb : Below w.heap.size w W) => alive_any m W (hm.next hb))
  have HRA := Lib.hid (fun W (hb : Below w.heap.size w W) => rargs_any W b capb ags (has.old hb) hsz)
  have HAS := Lib.hid has
  have HEV := Lib.hid hE
  obtain ⟨na, HNA⟩ : ∃ na, Hid (na = ags.length) := ⟨_, Lib.hid rfl⟩
  rw [← HNA.out] at HRA HAS ⊢
  clear hm hE has hsz
  go_enter Tryz.func3, Tryz.ntmps3
  go_wp2_with fail
  refine (HAL.out w (Below.refl _ _)).mono ?_
  rintro e w1 ⟨rfl, hb1⟩
  have HB1 := Lib.hid hb1
  clear hb1
  by_cases h0 : text = ⟨#[]⟩
  · subst h0
    go_wp2_with fail
    refine (HAL.out w1 HB1.out).mono ?_
    rintro e w2 ⟨rfl, hb2⟩
    have HB2 := Lib.hid (below_trans HB1.out hb2)
    clear hb2
    go_wp2
    go_ret
    exact ⟨rfl, HB2.out⟩
  have h0e := ba_isE h0
  by_cases h8 : 8000 < text.size
  · have h8i : (8000 : Int) < (text.size : Int) := by omega
    clear h0
    go_wp2_with fail
    refine (HAL.out w1 HB1.out).mono ?_
    rintro e w2 ⟨rfl, hb2⟩
    have HB2 := Lib.hid (below_trans HB1.out hb2)
    clear hb2
    go_wp2
    go_ret
    exact ⟨rfl, HB2.out⟩
  have h8i : ¬ (8000 : Int) < (text.size : Int) := by omega
  have HN0 := Lib.hid h0
  clear h0
  go_wp2_with fail
  refine (HRA.out w1 HB1.out).mono ?_
  rintro e w2 ⟨q, rfl, hq, hb2⟩
  have HB2 := Lib.hid (below_trans HB1.out hb2)
  have HQ := Lib.hid hq
  clear hb2 hq HB1 HRA
  cases q with
  | false =>
    go_wp2_with fail
    refine (HAL.out w2 HB2.out).mono ?_
    rintro e w3 ⟨rfl, hb3⟩
    have HB3 := Lib.hid (below_trans HB2.out hb3)
    clear hb3
    go_wp2
    go_ret
    exact ⟨rfl, HB3.out⟩
  | true =>
    have HOK := Lib.hid (HQ.out rfl)
    have HB3 : Hid (Below w.heap.size w (w2.alloc (.cells #[.int .i64 1, .string text, .string ⟨#[]⟩, .slice none 0 0] 30))) := Lib.hid (below_trans HB2.out (below1 _ _))
    have hne : text.data.toList ≠ [] := fun e => HN0.out (ByteArray.ext (Array.toList_inj.1 (by rw [e])))
    have hnew := one_new w2 text
    have HF := Lib.hid (format_any 1 (w2.alloc (.cells #[.int .i64 1, .string text, .string ⟨#[]⟩, .slice none 0 0] 30)) (some ⟨w2.heap.size, 0, none⟩) 1 [onePt text] lang b capb ags text.data.toList hnew (one_cnt _) (one_small _) (HEV.out.below HB3.out) (one_right HN0.out)
      (by rw [← HNA.out]; exact HAS.out.old HB3.out) HOK.out hne (fun W hb V bb hv hbb ho => by
        have hx := (hnew.old hb).old hv
        have := parts_text 1 W.heap.size bb [] lang (.slice b ags.length capb) 0 (onePt text) (some ⟨w2.heap.size, 0, none⟩) 1 V rfl hx ho (by simp [Pt.t]; omega) hv.size
        exact this))
    rw [← HNA.out, str_back] at HF
    clear hnew hne HQ HAL
    go_wp2_with fail
    refine HF.out.mono ?_
    rintro e w4 ⟨rfl, hb4⟩
    have HB4 := Lib.hid (below_trans HB3.out hb4)
    clear hb4 HF
    go_wp2
    go_ret
    exact ⟨by first | rfl | simp, HB4.out⟩
end Go.Proofs.YtlmaafmhadbiaaaGreatDoor
