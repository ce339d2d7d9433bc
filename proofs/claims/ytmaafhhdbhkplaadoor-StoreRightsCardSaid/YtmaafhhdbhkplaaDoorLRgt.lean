/- StoreRights: what the law answers. -/
import Derived.Test.YtmaafhhdbhkplaaDoorRot2
namespace Go.Proofs.YtmaafhhdbhkplaaDoor
open Go.RowKit

/-- What stays while the law looks: its store and the keys that it wants. -/
structure RK (w : World) (a : Option Addr) (cap : Nat) (fx : List Itm) (ao : Option Addr) (ks : List BA) (W : World) : Prop where
  env : LEnv w W a cap fx
  its : InS W ao ks
theorem RK.step {w : World} {a : Option Addr} {cap : Nat} {fx : List Itm} {ao : Option Addr} {ks : List BA} {W W' : World} (h : RK w a cap fx ao ks W) (hb : Below W.heap.size W W') : RK w a cap fx ao ks W' := ⟨h.env.step hb, h.its.below hb⟩
theorem RK.cell {w : World} {a : Option Addr} {cap : Nat} {fx : List Itm} {ao : Option Addr} {ks : List BA} {W : World} (h : RK w a cap fx ao ks W) : W.cell? ⟨w.heap.size, 0, none⟩ = some (.slice a fx.length cap) := h.env.box.cell rfl

set_option maxHeartbeats 6400000 in
set_option maxRecDepth 100000 in
theorem lrights_any (w : World) (a : Option Addr) (cap : Nat) (xs : List Itm) (ha : Arg w a cap xs) (ht : Tab w) :
    Calls Tryd.prog 3 #[.agg #[.slice a xs.length cap]] w fun e w' => e = .returned (.bool true) ∧ Below w.heap.size w w' := by
  obtain ⟨i0, hi, hz0, hz1, hz2⟩ := info_parts info9
  have HFW := Lib.hid (few_any (w.alloc (.cells #[.slice a xs.length cap] 24)) a cap xs (ha.below (below1 _ _)))
  have HAF := Lib.hid ha.few
  have HT := Lib.hid ht
  clear ha ht
  generalize fewF xs = fx at *
  have hlen := HAF.out.len
  have HOLD := Lib.hid (inI_old HAF.out.its)
  by_cases hr : Rgt fx
  · have HR := Lib.hid hr
    have hl4 := hr.1
    have HRO := Lib.hid (fun W (h : Arg W a cap fx) (t : Tab W) => rotten_yes W a cap fx h t HR.out)
    clear hr
    go_enter Tryd.func3, Tryd.ntmps3
    go_wp2_with fail
    refine HFW.out.mono ?_
    rintro e w1 ⟨rfl, hb1⟩
    obtain ⟨e1, e2⟩ := box_set hb1
    have E2 := Lib.hid (LEnv.new HAF.out HT.out hb1)
    have f1 := E2.out.box.cell (i := 0) rfl
    clear hb1
    go_wp2_with fail
    generalize hW2 : w1.setCell ⟨w.heap.size, 0, none⟩ (.slice a fx.length cap) = w2 at *
    clear hW2 e1 e2
    refine (rright_yes w2 a cap fx HR.out E2.out.arg.szs E2.out.arg.its).mono ?_
    rintro e w3 ⟨rfl, hb3⟩
    have E1 := Lib.hid (E2.out.step hb3)
    clear f1 hb3
    have f1 := E1.out.box.cell (i := 0) rfl
    have hB := E1.out.lt
    go_wp2
    clear f1
    go_loopw [3, 13] (fun s i wr => ∃ (k : Nat) (ks : List BA), k ≤ fx.length ∧ i = .int .i64 k ∧ ks.length ≤ 4096 ∧ w3.heap.size ≤ wr.heap.size ∧ Hid (ks = rotF (fx.take k)) ∧ Hid (wr.ownsRow w3.heap.size 9 1 s ks.length (strs ks)) ∧ Hid (LEnv w wr a cap fx)) (fun _ i _ => fx.length - (intOf i).toNat)
    case atStart => exact ⟨0, [], by omega, rfl, by simp, by omega, Lib.hid (by simp [rotF]), Lib.hid (World.ownsRow_nil _ _ _ _), E1⟩
    case round =>
      obtain ⟨k, ks, hk, rfl, hyl, hsw, HY, HO, E⟩ := hrel
      obtain ⟨ao, co, rfl, -⟩ := owns_form HO.out
      have f1 := E.out.box.cell (i := 0) rfl
      by_cases hlt : k < fx.length
      · obtain ⟨x, hx⟩ : ∃ x, fx[k]? = some x := ⟨_, List.getElem?_eq_getElem hlt⟩
        obtain ⟨b, off, rfl, hbl, h0, h1, h2⟩ := E.out.arg.its.at_ hx
        have HX := Lib.hid hx
        have HB2 := Lib.hid (HR.out.snd hx).b2
        have HH := Lib.hid (fun W (t : Tab W) => rot_any x W HB2.out)
        clear hx
        cases hc : corB x with
        | true =>
          have HE := Lib.hid hc
          have HY2 : Hid (ks ++ [x.k] = rotF (fx.take (k + 1))) := Lib.hid (by rw [rot_take_in HX.out hc, HY.out])
          clear hc
          obtain ⟨kk, bb, rr⟩ := x
          simp only at h0 h1 h2
          have q3 := row_new wr #[.string kk, .string bb, .int .i64 rr] 29
          have HQ3 := Lib.hid q3
          have hE : Below wr.heap.size wr (wr.alloc (.cells #[.string kk, .string bb, .int .i64 rr] 29)) := below1 wr _
          have HE1 := Lib.hid hE
          have c0 := q3.cell (i := 0) rfl
          have c1 := q3.cell (i := 1) rfl
          have c2 := q3.cell (i := 2) rfl
          have HT1 := Lib.hid (E.out.tab.below hE)
          clear q3 hE
          go_wp2_with fail
          refine (HH.out _ HT1.out).mono ?_
          rintro e w5 ⟨rfl, hb5⟩
          rw [HE.out]
          have HB5 := Lib.hid (below_trans HE1.out hb5)
          have q5 := HQ3.out.below hb5
          have E5 := Lib.hid (E.out.step HB5.out)
          have hown := ownsRow_below HO.out HB5.out
          have HO5 := Lib.hid hown
          have hs5 := HB5.out.size
          clear c0 c1 c2 f1 hb5
          have c0 := q5.cell (i := 0) rfl
          clear q5
          go_wp2_with (at_builtin; refine wpList_append_lies _ rfl _ _ 26 rfl w3.heap.size 9 i0 (.string ByteArray.empty) 1 16 Tryd.underlying26 hi hz0 hz1 hz2 rfl (by decide) _ _ _ rfl (hown.alloc _) _ 1 1 [.string kk] rfl rfl (cell_n1 _ _ _ (by simp)) (by simp [Value.oneCell']) (by decide) (by unfold maxLen; omega) (by omega) (by simp; omega) _ rfl ?_; intro g cap' w2 hown' hgrow hg hglt; have HO7 := Lib.hid hown'; have HG7 := Lib.hid hgrow; clear hown' hgrow hg hglt)
          have HB7 : Hid (Below w3.heap.size w5 w2) := Lib.hid (((Below.refl w3.heap.size w5).alloc (by omega) _).grown HG7.out (by simp; omega) (by intro q hq; exact (HO5.out.lt q hq).1))
          have E7 := Lib.hid (E5.out.stepB HOLD.out hB HB7.out)
          have HO8 : Hid (w2.ownsRow w3.heap.size 9 1 (.slice (some ⟨g, 0, none⟩) (ks.length + 1) cap') (ks ++ [kk]).length (strs (ks ++ [kk]))) := Lib.hid (by
            have := HO7.out
            simpa using this)
          go_roundw
          case rel => exact ⟨k + 1, ks ++ [kk], by omega, by go_num, by have := HY2.out; rw [this]; have := rotF_length_le (fx.take (k + 1)); rw [List.length_take] at this; omega, by have := HB7.out.size; omega, HY2, HO8, E7⟩
          case measure => simp [intOf]; omega
        | false =>
          have HE := Lib.hid hc
          have HY2 : Hid (ks = rotF (fx.take (k + 1))) := Lib.hid (by rw [rot_take_out HX.out hc, HY.out])
          clear hc
          obtain ⟨kk, bb, rr⟩ := x
          simp only at h0 h1 h2
          have q3 := row_new wr #[.string kk, .string bb, .int .i64 rr] 29
          have HQ3 := Lib.hid q3
          have hE : Below wr.heap.size wr (wr.alloc (.cells #[.string kk, .string bb, .int .i64 rr] 29)) := below1 wr _
          have HE1 := Lib.hid hE
          have c0 := q3.cell (i := 0) rfl
          have c1 := q3.cell (i := 1) rfl
          have c2 := q3.cell (i := 2) rfl
          have HT1 := Lib.hid (E.out.tab.below hE)
          clear q3 hE
          go_wp2_with fail
          refine (HH.out _ HT1.out).mono ?_
          rintro e w5 ⟨rfl, hb5⟩
          rw [HE.out]
          have HB5 := Lib.hid (below_trans HE1.out hb5)
          have q5 := HQ3.out.below hb5
          have E5 := Lib.hid (E.out.step HB5.out)
          have hown := ownsRow_below HO.out HB5.out
          have HO5 := Lib.hid hown
          have hs5 := HB5.out.size
          clear c0 c1 c2 f1 hb5
          have c0 := q5.cell (i := 0) rfl
          clear q5
          clear hown
          go_wp2
          go_roundw
          case rel => exact ⟨k + 1, ks, by omega, by go_num, hyl, by omega, HY2, HO5, E5⟩
          case measure => simp [intOf]; omega
      · have HYE : Hid (ks = rotF fx) := Lib.hid (by rw [HY.out, List.take_of_length_le (by omega)])
        have HRO2 : Hid (∀ W, Arg W a cap fx → Tab W → Calls Tryd.prog 13 #[.agg #[.slice a fx.length cap]] W (KsPost ks W)) := Lib.hid (fun W h t => by rw [HYE.out]; exact HRO.out W h t)
        obtain ⟨a5, c5, hv5, -, hI5⟩ := InS.of_owns HO.out
        obtain ⟨rfl, rfl⟩ : ao = a5 ∧ co = c5 := by injection hv5 with h1 h2 h3; exact ⟨h1, h3⟩
        have KK : Hid (RK w a cap fx ao ks wr) := Lib.hid ⟨E.out, hI5⟩
        clear hv5 hI5 f1
        have K0 := Lib.hid (KK.out.step (Below.refl _ _).drew)
        have d0 := K0.out.cell
        have HC1 : Hid (∀ W, Hid (RK w a cap fx ao ks W) → Calls Tryd.prog 10 #[] W fun e w' => e = .returned (.bool true) ∧ w'.cell? ⟨w.heap.size, 0, none⟩ = some (.slice a fx.length cap) ∧ Hid (RK w a cap fx ao ks w')) :=
          Lib.hid (fun W h => (alive_any W h.out.env.tab).mono fun e w' ⟨he, hb⟩ => ⟨he, (h.out.step hb).cell, Lib.hid (h.out.step hb)⟩)
        have HC2 : Hid (∀ W, Hid (RK w a cap fx ao ks W) → Calls Tryd.prog 11 #[.agg #[.slice a fx.length cap]] W fun e w' => e = .returned (.bool true) ∧ w'.cell? ⟨w.heap.size, 0, none⟩ = some (.slice a fx.length cap) ∧ Hid (RK w a cap fx ao ks w')) :=
          Lib.hid (fun W h => (right_yes W a cap fx HR.out h.out.env.arg.szs h.out.env.arg.its).mono fun e w' ⟨he, hb⟩ => ⟨he, (h.out.step hb).cell, Lib.hid (h.out.step hb)⟩)
        have HC3 : Hid (∀ W, Hid (RK w a cap fx ao ks W) → Calls Tryd.prog 8 #[.agg #[.slice a fx.length cap]] W fun e w' => e = .returned (.bool true) ∧ w'.cell? ⟨w.heap.size, 0, none⟩ = some (.slice a fx.length cap) ∧ Hid (RK w a cap fx ao ks w')) :=
          Lib.hid (fun W h => (rright_yes W a cap fx HR.out h.out.env.arg.szs h.out.env.arg.its).mono fun e w' ⟨he, hb⟩ => ⟨he, (h.out.step hb).cell, Lib.hid (h.out.step hb)⟩)
        have HC4 : Hid (∀ W, Hid (RK w a cap fx ao ks W) → Calls Tryd.prog 13 #[.agg #[.slice a fx.length cap]] W fun e w' => ∃ a7 c7, e = .returned (.slice a7 ks.length c7) ∧ w'.cell? ⟨w.heap.size, 0, none⟩ = some (.slice a fx.length cap) ∧ Hid (InS w' a7 ks) ∧ Hid (RK w a cap fx ao ks w')) :=
          Lib.hid (fun W h => (HRO2.out W h.out.env.arg h.out.env.tab).mono fun e w' ⟨a7, c7, he, hI, hb⟩ => ⟨a7, c7, he, (h.out.step hb).cell, Lib.hid hI, Lib.hid (h.out.step hb)⟩)
        have HC5 : Hid (∀ W a7 c7, Hid (RK w a cap fx ao ks W) → Hid (InS W a7 ks) → Calls Tryd.prog 12 #[.slice a7 ks.length c7, .slice ao ks.length co] W fun e w' => e = .returned (.bool true) ∧ w'.cell? ⟨w.heap.size, 0, none⟩ = some (.slice a fx.length cap) ∧ Hid (RK w a cap fx ao ks w')) :=
          Lib.hid (fun W a7 c7 h hI => (likes_any W a7 ao c7 co ks hI.out h.out.its (by omega)).mono fun e w' ⟨he, hb⟩ => ⟨he, (h.out.step hb).cell, Lib.hid (h.out.step hb)⟩)
        go_wp2
        go_region_held3 (fun W => W.cell? ⟨w.heap.size, 0, none⟩ = some (.slice a fx.length cap)) (first | go_keep | assumption)
          (first
            | (go_at_call 10; refine (HC1.out _ ?_).mono ?_; assumption; rintro e U1 ⟨rfl, hq1, hk1⟩)
            | (go_at_call 11; refine (HC2.out _ ?_).mono ?_; assumption; rintro e U2 ⟨rfl, hq2, hk2⟩)
            | (go_at_call 8; refine (HC3.out _ ?_).mono ?_; assumption; rintro e U3 ⟨rfl, hq3, hk3⟩)
            | (go_at_call 13; refine (HC4.out _ ?_).mono ?_; assumption; rintro e U4 ⟨a7, c7, rfl, hq4, hi4, hk4⟩)
            | (go_at_call 12; refine (HC5.out _ _ _ ?_ ?_).mono ?_; assumption; assumption; rintro e U5 ⟨rfl, hq5, hk5⟩)
            | fail)
        all_goals go_wp2
        all_goals go_ret
        all_goals exact ⟨rfl, hk5.out.env.bel⟩
  · have HR := Lib.hid hr
    have HRO := Lib.hid (fun W (h : Arg W a cap fx) (t : Tab W) => rotten_no W a cap fx h t HR.out)
    clear hr
    go_enter Tryd.func3, Tryd.ntmps3
    go_wp2_with fail
    refine HFW.out.mono ?_
    rintro e w1 ⟨rfl, hb1⟩
    obtain ⟨e1, e2⟩ := box_set hb1
    have E2 := Lib.hid (LEnv.new HAF.out HT.out hb1)
    have f1 := E2.out.box.cell (i := 0) rfl
    clear hb1
    go_wp2_with fail
    generalize hW2 : w1.setCell ⟨w.heap.size, 0, none⟩ (.slice a fx.length cap) = w2 at *
    clear hW2 e1 e2
    refine (rright_no w2 a cap fx HR.out hlen E2.out.arg.szs E2.out.arg.its).mono ?_
    rintro e w3 ⟨rfl, hb3⟩
    have KK : Hid (RK w a cap fx none [] w3) := Lib.hid ⟨E2.out.step hb3, InS.nil _ _⟩
    clear f1 hb3
    have K0 := Lib.hid (KK.out.step (Below.refl _ _).drew)
    have d0 := K0.out.cell
    have HC1 : Hid (∀ W, Hid (RK w a cap fx none [] W) → Calls Tryd.prog 10 #[] W fun e w' => e = .returned (.bool true) ∧ w'.cell? ⟨w.heap.size, 0, none⟩ = some (.slice a fx.length cap) ∧ Hid (RK w a cap fx none [] w')) :=
      Lib.hid (fun W h => (alive_any W h.out.env.tab).mono fun e w' ⟨he, hb⟩ => ⟨he, (h.out.step hb).cell, Lib.hid (h.out.step hb)⟩)
    have HC2 : Hid (∀ W, Hid (RK w a cap fx none [] W) → Calls Tryd.prog 11 #[.agg #[.slice a fx.length cap]] W fun e w' => e = .returned (.bool false) ∧ w'.cell? ⟨w.heap.size, 0, none⟩ = some (.slice a fx.length cap) ∧ Hid (RK w a cap fx none [] w')) :=
      Lib.hid (fun W h => (right_no W a cap fx HR.out hlen h.out.env.arg.szs h.out.env.arg.its).mono fun e w' ⟨he, hb⟩ => ⟨he, (h.out.step hb).cell, Lib.hid (h.out.step hb)⟩)
    have HC3 : Hid (∀ W, Hid (RK w a cap fx none [] W) → Calls Tryd.prog 8 #[.agg #[.slice a fx.length cap]] W fun e w' => e = .returned (.bool false) ∧ w'.cell? ⟨w.heap.size, 0, none⟩ = some (.slice a fx.length cap) ∧ Hid (RK w a cap fx none [] w')) :=
      Lib.hid (fun W h => (rright_no W a cap fx HR.out hlen h.out.env.arg.szs h.out.env.arg.its).mono fun e w' ⟨he, hb⟩ => ⟨he, (h.out.step hb).cell, Lib.hid (h.out.step hb)⟩)
    have HC4 : Hid (∀ W, Hid (RK w a cap fx none [] W) → Calls Tryd.prog 13 #[.agg #[.slice a fx.length cap]] W fun e w' => ∃ a7 c7, e = .returned (.slice a7 0 c7) ∧ w'.cell? ⟨w.heap.size, 0, none⟩ = some (.slice a fx.length cap) ∧ Hid (InS w' a7 []) ∧ Hid (RK w a cap fx none [] w')) :=
      Lib.hid (fun W h => (HRO.out W h.out.env.arg h.out.env.tab).mono fun e w' ⟨a7, c7, he, hI, hb⟩ => ⟨a7, c7, he, (h.out.step hb).cell, Lib.hid hI, Lib.hid (h.out.step hb)⟩)
    have HC5 : Hid (∀ W a7 c7, Hid (RK w a cap fx none [] W) → Hid (InS W a7 []) → Calls Tryd.prog 12 #[.slice a7 0 c7, .slice none 0 0] W fun e w' => e = .returned (.bool true) ∧ w'.cell? ⟨w.heap.size, 0, none⟩ = some (.slice a fx.length cap) ∧ Hid (RK w a cap fx none [] w')) :=
      Lib.hid (fun W a7 c7 h hI => (likes_any W a7 none c7 0 [] hI.out h.out.its (by simp)).mono fun e w' ⟨he, hb⟩ => ⟨he, (h.out.step hb).cell, Lib.hid (h.out.step hb)⟩)
    go_wp2
    go_region_held3 (fun W => W.cell? ⟨w.heap.size, 0, none⟩ = some (.slice a fx.length cap)) (first | go_keep | assumption)
      (first
        | (go_at_call 10; refine (HC1.out _ ?_).mono ?_; assumption; rintro e U1 ⟨rfl, hq1, hk1⟩)
        | (go_at_call 11; refine (HC2.out _ ?_).mono ?_; assumption; rintro e U2 ⟨rfl, hq2, hk2⟩)
        | (go_at_call 8; refine (HC3.out _ ?_).mono ?_; assumption; rintro e U3 ⟨rfl, hq3, hk3⟩)
        | (go_at_call 13; refine (HC4.out _ ?_).mono ?_; assumption; rintro e U4 ⟨a7, c7, rfl, hq4, hi4, hk4⟩)
        | (go_at_call 12; refine (HC5.out _ _ _ ?_ ?_).mono ?_; assumption; assumption; rintro e U5 ⟨rfl, hq5, hk5⟩)
        | fail)
    all_goals go_wp2
    all_goals go_ret
    all_goals exact ⟨rfl, hk5.out.env.bel⟩
end Go.Proofs.YtmaafhhdbhkplaaDoor
