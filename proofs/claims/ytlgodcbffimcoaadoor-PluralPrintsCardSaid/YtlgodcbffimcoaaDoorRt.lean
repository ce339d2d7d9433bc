/- The document's Text; the law PluralPrints. -/
import Derived.Test.YtlgodcbffimcoaaDoorRr
import Derived.Test.YtlgodcbffimcoaaDoorL1
import Derived.Test.YtlgodcbffimcoaaDoorPs
import Derived.Deep.DeepCutAuto
import Derived.Tactics2
namespace Go.Proofs.YtlgodcbffimcoaaDoor
open Go.RowKit

theorem joinF_snoc {α : Type} {f : α → List UInt8} {sep : List UInt8} {x : α} : ∀ {l : List α}, joinF f sep (l ++ [x]) = (if l = [] then [] else joinF f sep l ++ sep) ++ f x
  | [] => by simp [joinF]
  | [y] => by simp [joinF]
  | y :: z :: r => by
    have h := joinF_snoc (f := f) (sep := sep) (x := x) (l := z :: r)
    rw [if_neg (by simp)] at h ⊢
    simp only [List.cons_append] at h ⊢
    rw [joinF, h, joinF]; simp [List.append_assoc]
theorem take_ofR {α : Type} {l : List α} {k : Nat} {x : α} (h : l[k]? = some x) : l.take (k + 1) = l.take k ++ [x] := by rw [List.take_add_one, h]; rfl
/-- What stands ahead of element k: the elements before it, and a separator behind them. -/
def preF {α : Type} (f : α → List UInt8) (sep : List UInt8) (l : List α) (k : Nat) : List UInt8 := if k = 0 then [] else joinF f sep (l.take k) ++ sep
theorem join_step {α : Type} {f : α → List UInt8} {sep : List UInt8} {l : List α} {k : Nat} {x : α} (h : l[k]? = some x) : joinF f sep (l.take (k + 1)) = preF f sep l k ++ f x := by
  have hlt := (List.getElem?_eq_some_iff.1 h).1
  rw [take_ofR h, joinF_snoc, preF]
  by_cases hk : k = 0
  · subst hk; simp
  · rw [if_neg hk, if_neg (by intro e; have := congrArg List.length e; rw [List.length_take] at this; simp only [List.length_nil] at this; omega)]
theorem join_take_len {α : Type} {f : α → List UInt8} {g : α → Bool} {sep : List UInt8} {B : Nat} {l : List α} (h : allR g l = true) (hB : ∀ x, g x = true → (f x).length ≤ B) (k : Nat) : (joinF f sep (l.take k)).length ≤ 10 * (B + sep.length) := by
  obtain ⟨-, h2, h3⟩ := allR_get h
  refine Nat.le_trans (joinF_len (B := B) (fun x hx => hB x (h3 x (List.mem_of_mem_take hx)))) (Nat.mul_le_mul_right _ ?_)
  rw [List.length_take]; omega

theorem S8_app {t : BA} {l r : List UInt8} (h : t.data.toList = l) (s : BA) (hs : s.data.toList = r) : (t ++ s).data.toList = l ++ r := by rw [ba_app, h, hs]
theorem size_of {t : BA} {l : List UInt8} (h : t.data.toList = l) : t.size = l.length := by rw [← h, Array.length_toList]; rfl
theorem app_size (a b : BA) : (a ++ b).size = a.size + b.size := by
  have h1 := size_of (t := a ++ b) (ba_app a b)
  rw [h1, List.length_append, ← size_of (t := a) rfl, ← size_of (t := b) rfl]
theorem preF_zero {α : Type} (f : α → List UInt8) (sep : List UInt8) (l : List α) : preF f sep l 0 = [] := rfl
theorem preF_pos {α : Type} {f : α → List UInt8} {sep : List UInt8} {l : List α} {k : Nat} (h : 0 < k) : preF f sep l k = joinF f sep (l.take k) ++ sep := by unfold preF; rw [if_neg (by omega)]
def modT (m : Int) : List UInt8 := if 0 < m then [32, 37, 32] ++ Lib.itoa m else []
def negT (ng : Bool) : List UInt8 := if ng then [32, 33, 61, 32] else [32, 61, 32]
theorem txR_parts (m : Int) (ng : Bool) (sp : List Sp) : txR ⟨m, ng, sp⟩ = [105] ++ modT m ++ negT ng ++ joinF txS [44] sp := rfl
theorem modT_len {m : Int} (h0 : 0 ≤ m) (h1 : m ≤ 1000000) : (modT m).length ≤ 24 := by
  have := itoa_len h0 h1
  unfold modT; split
  · simp only [List.length_append, List.length_cons, List.length_nil]; omega
  · simp
theorem negT_len (ng : Bool) : (negT ng).length ≤ 4 := by cases ng <;> decide

set_option maxHeartbeats 3200000 in
set_option maxRecDepth 100000 in
theorem rtext_any (w : World) (a : Option Addr) (cap : Nat) (xs : Rule) (hIn : SlW w (Old w) (.slice a xs.length cap) xs) (hr : rgRule xs = true) (htw : TabW w) :
    Calls Tryd.prog 16 #[.slice a xs.length cap] w fun e w' => e = .returned (.string (S8 (txRule xs))) ∧ Below w.heap.size w w' := by
  have HIN := Lib.hid hIn
  have HTT := Lib.hid htw
  obtain ⟨hg1, hg2, hg3⟩ := allR_get hr
  have HG := Lib.hid hg3
  have HJW := Lib.hid (fun k => by have h := join_take_len (f := txRow) (sep := [32, 111, 114, 32]) (l := xs) hr (fun x hx => txRow_len hx) k; simp only [List.length_cons, List.length_nil] at h; exact h)
  clear hIn hr hg3 hg1 htw
  go_enter Tryd.func16, Tryd.ntmps16
  go_wp2
  go_loopw [3, 12] (fun u v wr => ∃ (t : BA) (k : Nat), k ≤ xs.length ∧ u = .string t ∧ v = .int .i64 k ∧ t.size ≤ 60000 ∧ Hid (t.data.toList = joinF txRow [32, 111, 114, 32] (xs.take k)) ∧ Hid (Below w.heap.size w wr)) (fun _ v _ => xs.length - (intOf v).toNat)
  case atStart => exact ⟨⟨#[]⟩, 0, by omega, rfl, rfl, by decide, Lib.hid rfl, Lib.hid (Below.refl _ _)⟩
  case round =>
    obtain ⟨t0, k, hk, rfl, rfl, ht0, HT0, HB⟩ := hrel
    by_cases hlt : k < xs.length
    · obtain ⟨x, hx⟩ : ∃ x, xs[k]? = some x := ⟨_, List.getElem?_eq_getElem hlt⟩
      obtain ⟨b, off, rfl, hb, hat⟩ := (HIN.out.below HB.out).at_ hx
      have HX := Lib.hid (join_step (f := txRow) (sep := [32, 111, 114, 32]) hx)
      have hxr := HG.out x (List.mem_of_getElem? hx)
      obtain ⟨hx1, hx2, hx3⟩ := allR_get hxr
      have HGR := Lib.hid hx3
      have HJR := Lib.hid (fun k => by have h := join_take_len (f := txR) (sep := [32, 97, 110, 100, 32]) (l := x) hxr (fun x hx => txR_len hx) k; simp only [List.length_cons, List.length_nil] at h; exact h)
      have HTR := Lib.hid (HTT.out.below HB.out)
      clear hx hx3 hx1 hxr
      obtain ⟨a1, p1, h9, hsl⟩ := hat.w
      rw [Nat.mul_one] at h9
      have HROW := Lib.hid hsl
      clear hsl hat
      go_upto_if 18 with (fail)
      go_cut [3] (fun s3 wx => ∃ t : BA, s3 = .string t ∧ t.size ≤ 60004 ∧ Hid (t.data.toList = preF txRow [32, 111, 114, 32] xs k) ∧ wr = wx)
      case first =>
        by_cases h0 : 0 < k
        · go_wp2
          go_meet
          case rel => exact ⟨t0 ++ ⟨#[32, 111, 114, 32]⟩, rfl, by rw [app_size]; have : (⟨#[32, 111, 114, 32]⟩ : BA).size = 4 := rfl; omega, Lib.hid (by rw [preF_pos h0]; exact S8_app HT0.out _ rfl), rfl⟩
        · obtain rfl : k = 0 := by omega
          go_wp2
          go_meet
          case rel => exact ⟨t0, rfl, by omega, HT0, rfl⟩
      case rest =>
        obtain ⟨t1, rfl, ht1, HT1, rfl⟩ := hcut
        obtain ⟨P1, HP1⟩ : ∃ P, Hid (P = preF txRow [32, 111, 114, 32] xs k) := ⟨_, Lib.hid rfl⟩
        have HP1L : Hid (P1.length ≤ 50600) := Lib.hid (by
          rw [HP1.out]; unfold preF; split
          · simp
          · have h1 := HJW.out k
            rw [List.length_append]; simp only [List.length_cons, List.length_nil]; omega)
        have hp1 : t1.size ≤ 50600 := by rw [size_of HT1.out, ← HP1.out]; exact HP1L.out
        rw [← HP1.out] at HT1
        go_wp2
        go_loopw [3, 23] (fun u v wq => ∃ (t : BA) (k : Nat), k ≤ x.length ∧ u = .string t ∧ v = .int .i64 k ∧ t.size ≤ 60000 ∧ Hid (t.data.toList = P1 ++ joinF txR [32, 97, 110, 100, 32] (x.take k)) ∧ Hid (Below wr.heap.size wr wq)) (fun _ v _ => x.length - (intOf v).toNat)
        case atStart => exact ⟨t1, 0, by omega, rfl, rfl, by omega, Lib.hid (by rw [HT1.out]; simp [joinF]), Lib.hid (Below.refl _ _)⟩
        case round =>
          obtain ⟨t2, k2, hk2, rfl, rfl, ht2, HT2, HB2⟩ := hrel
          by_cases hlt2 : k2 < x.length
          · obtain ⟨y, hy⟩ : ∃ y, x[k2]? = some y := ⟨_, List.getElem?_eq_getElem hlt2⟩
            obtain ⟨b2, o2, rfl, hb2, hat2⟩ := (HROW.out.below HB2.out).at_ hy
            have HY := Lib.hid (join_step (f := txR) (sep := [32, 97, 110, 100, 32]) hy)
            obtain ⟨hm0, hm1, hsp⟩ := rgR_true (HGR.out y (List.mem_of_getElem? hy))
            clear hy
            obtain ⟨g0, g1, a2, p2, g2, hsl2⟩ := hat2.r
            obtain ⟨m, ng, sp⟩ := y
            simp only at g0 g1 g2 hsl2 hm0 hm1 hsp HY
            have HGS := Lib.hid (allR_get hsp).2.2
            have hsp10 := (allR_get hsp).2.1
            have HJS := Lib.hid (fun k => by have h := join_take_len (f := txS) (sep := [44]) (l := sp) hsp (fun x hx => txS_len hx) k; simp only [List.length_cons, List.length_nil] at h; exact h)
            have HBB := Lib.hid (below1 wr (.cells #[.int .i64 m, .bool ng, .slice a2 sp.length p2] 49))
            have HSL0 := Lib.hid (hsl2.below HBB.out)
            have HRW := Lib.hid (row_new wr #[.int .i64 m, .bool ng, .slice a2 sp.length p2] 49)
            have HTB0 := Lib.hid (HTR.out.below (below_trans HB2.out HBB.out))
            clear hsl2 hat2 hsp
            go_upto_if 29 with (fail)
            go_cut [3] (fun s3 wx => ∃ t : BA, s3 = .string t ∧ t.size ≤ 60005 ∧ Hid (t.data.toList = P1 ++ preF txR [32, 97, 110, 100, 32] x k2) ∧ wx = (wr.alloc (.cells #[.int .i64 m, .bool ng, .slice a2 sp.length p2] 49)))
            case first =>
              by_cases h0 : 0 < k2
              · go_wp2
                go_meet
                case rel => exact ⟨t2 ++ ⟨#[32, 97, 110, 100, 32]⟩, rfl, by rw [app_size]; have : (⟨#[32, 97, 110, 100, 32]⟩ : BA).size = 5 := rfl; omega, Lib.hid (by rw [preF_pos h0, ← List.append_assoc]; exact S8_app HT2.out _ rfl), rfl⟩
              · obtain rfl : k2 = 0 := by omega
                go_wp2
                go_meet
                case rel => exact ⟨t2, rfl, by omega, HT2, rfl⟩
            case rest =>
              obtain ⟨t, rfl, ht, HTA, rfl⟩ := hcut
              have d0 := HRW.out.cell (i := 0) rfl
              go_upto_if 36 with (fail)
              go_cut [3] (fun s3 wx => ∃ t : BA, s3 = .string t ∧ t.size ≤ 60040 ∧ Hid (t.data.toList = P1 ++ preF txR [32, 97, 110, 100, 32] x k2 ++ [105] ++ modT m) ∧ Hid (Below (wr.alloc (.cells #[.int .i64 m, .bool ng, .slice a2 sp.length p2] 49)).heap.size (wr.alloc (.cells #[.int .i64 m, .bool ng, .slice a2 sp.length p2] 49)) wx))
              case first =>
                by_cases h0 : 0 < m
                · have HC := Lib.hid (itoa_any m _ hm0 hm1 HTB0.out)
                  have hil := itoa_len hm0 hm1
                  rw [← S8_size] at hil
                  have HV : Hid ((t ++ ⟨#[105]⟩ ++ ⟨#[32, 37, 32]⟩ ++ S8 (Lib.itoa m)).data.toList = P1 ++ preF txR [32, 97, 110, 100, 32] x k2 ++ [105] ++ modT m) := Lib.hid (by
                    rw [S8_app (S8_app (S8_app HTA.out ⟨#[105]⟩ rfl) ⟨#[32, 37, 32]⟩ rfl) _ (S8_list _), show modT m = [32, 37, 32] ++ Lib.itoa m from if_pos h0]
                    simp [List.append_assoc])
                  have hsz : (t ++ ⟨#[105]⟩ ++ ⟨#[32, 37, 32]⟩ ++ S8 (Lib.itoa m)).size ≤ 60040 := by
                    rw [app_size, app_size, app_size]
                    have h1 : (⟨#[105]⟩ : BA).size = 1 := rfl
                    have h2 : (⟨#[32, 37, 32]⟩ : BA).size = 3 := rfl
                    omega
                  have hz1 : (t ++ ⟨#[105]⟩).size ≤ 60010 := by rw [app_size]; have h1 : (⟨#[105]⟩ : BA).size = 1 := rfl; omega
                  generalize t ++ ⟨#[105]⟩ = t9 at *
                  generalize S8 (Lib.itoa m) = im at *
                  go_wp2_with fail
                  refine HC.out.mono ?_
                  rintro e w5 ⟨rfl, hb5⟩
                  have HB5 := Lib.hid hb5
                  clear hb5
                  go_wp2
                  go_meet
                  case rel => exact ⟨_, rfl, hsz, HV, HB5⟩
                · have HV : Hid ((t ++ ⟨#[105]⟩).data.toList = P1 ++ preF txR [32, 97, 110, 100, 32] x k2 ++ [105] ++ modT m) := Lib.hid (by
                    rw [S8_app HTA.out ⟨#[105]⟩ rfl, show modT m = [] from if_neg h0]; simp)
                  have hz1 : (t ++ ⟨#[105]⟩).size ≤ 60040 := by rw [app_size]; have h1 : (⟨#[105]⟩ : BA).size = 1 := rfl; omega
                  generalize t ++ ⟨#[105]⟩ = t9 at *
                  go_wp2
                  go_meet
                  case rel => exact ⟨t9, rfl, hz1, HV, Lib.hid (Below.refl _ _)⟩
              case rest =>
                obtain ⟨tm, rfl, htm, HTM, HBM⟩ := hcut
                have HRM := Lib.hid (HRW.out.below HBM.out)
                have HSL := Lib.hid (HSL0.out.below HBM.out)
                have HTB := Lib.hid (HTB0.out.below HBM.out)
                clear d0
                have d1 := HRM.out.cell (i := 1) rfl
                have d2 := HRM.out.cell (i := 2) rfl
                go_upto_if 44 with (fail)
                go_cut [3] (fun s3 wx => ∃ t : BA, s3 = .string t ∧ t.size ≤ 60050 ∧ Hid (t.data.toList = (P1 ++ preF txR [32, 97, 110, 100, 32] x k2 ++ [105] ++ modT m ++ negT ng)) ∧ wc = wx)
                case first =>
                  cases ng with
                  | true =>
                    go_wp2
                    go_meet
                    case rel => exact ⟨tm ++ ⟨#[32, 33, 61, 32]⟩, rfl, by rw [app_size]; have h1 : (⟨#[32, 33, 61, 32]⟩ : BA).size = 4 := rfl; omega, Lib.hid (S8_app HTM.out _ rfl), rfl⟩
                  | false =>
                    go_wp2
                    go_meet
                    case rel => exact ⟨tm ++ ⟨#[32, 61, 32]⟩, rfl, by rw [app_size]; have h1 : (⟨#[32, 61, 32]⟩ : BA).size = 3 := rfl; omega, Lib.hid (S8_app HTM.out _ rfl), rfl⟩
                case rest =>
                  obtain ⟨t5, rfl, ht5, HT5, rfl⟩ := hcut
                  have HP2L : Hid ((P1 ++ preF txR [32, 97, 110, 100, 32] x k2 ++ [105] ++ modT m ++ negT ng).length ≤ 60050) := Lib.hid (by rw [← HT5.out, ← size_of rfl]; exact ht5)
                  go_wp2
                  go_loopw [3, 52] (fun u v wq => ∃ (t : BA) (k : Nat), k ≤ sp.length ∧ u = .string t ∧ v = .int .i64 k ∧ t.size ≤ 70000 ∧ Hid (t.data.toList = (P1 ++ preF txR [32, 97, 110, 100, 32] x k2 ++ [105] ++ modT m ++ negT ng) ++ joinF txS [44] (sp.take k)) ∧ Hid (Below wc.heap.size wc wq)) (fun _ v _ => sp.length - (intOf v).toNat)
                  case atStart => exact ⟨t5, 0, by omega, rfl, rfl, by omega, Lib.hid (by rw [HT5.out]; simp [joinF]), Lib.hid (Below.refl _ _)⟩
                  case round =>
                    obtain ⟨t3, k3, hk3, rfl, rfl, ht3, HT3, HB3⟩ := hrel
                    by_cases hlt3 : k3 < sp.length
                    · obtain ⟨z, hz⟩ : ∃ z, sp[k3]? = some z := ⟨_, List.getElem?_eq_getElem hlt3⟩
                      obtain ⟨b3, o3, rfl, hb3, hat3⟩ := (HSL.out.below HB3.out).at_ hz
                      obtain ⟨hs0, hs1, hs2⟩ := rgS_true (HGS.out z (List.mem_of_getElem? hz))
                      have HZ := Lib.hid (join_step (f := txS) (sep := [44]) hz)
                      clear hz
                      obtain ⟨f0, f1⟩ := hat3.s
                      obtain ⟨lo, hi⟩ := z
                      simp only at f0 f1 hs0 hs1 hs2 HZ
                      have HR3 := Lib.hid (row_new wr #[.int .i64 lo, .int .i64 hi] 55)
                      have HB4 := Lib.hid (below_trans HB3.out (below1 wr (.cells #[.int .i64 lo, .int .i64 hi] 55)))
                      have HTW := Lib.hid (HTB.out.below HB4.out)
                      have hil := itoa_len hs0 (show lo ≤ 1000000 by omega)
                      have hil2 := itoa_len (show 0 ≤ hi by omega) hs2
                      rw [← S8_size] at hil hil2
                      clear hat3
                      go_upto_if 58 with (fail)
                      go_cut [3] (fun s3 wx => ∃ t4 : BA, s3 = .string t4 ∧ t4.size ≤ 80000 ∧ Hid (t4.data.toList = (P1 ++ preF txR [32, 97, 110, 100, 32] x k2 ++ [105] ++ modT m ++ negT ng) ++ preF txS [44] sp k3) ∧ wx = wr.alloc (.cells #[.int .i64 lo, .int .i64 hi] 55))
                      case first =>
                        by_cases h0 : 0 < k3
                        · go_wp2
                          go_meet
                          case rel => exact ⟨t3 ++ ⟨#[44]⟩, rfl, by rw [app_size]; have : (⟨#[44]⟩ : BA).size = 1 := rfl; omega, Lib.hid (by rw [preF_pos h0, ← List.append_assoc]; exact S8_app HT3.out _ rfl), rfl⟩
                        · obtain rfl : k3 = 0 := by omega
                          go_wp2
                          go_meet
                          case rel => exact ⟨t3, rfl, by omega, HT3, rfl⟩
                      case rest =>
                        obtain ⟨t4, rfl, ht4, HT4, rfl⟩ := hcut
                        have e0 := HR3.out.cell (i := 0) rfl
                        have e1 := HR3.out.cell (i := 1) rfl
                        have HC1 := Lib.hid (itoa_any lo _ hs0 (by omega) HTW.out)
                        go_wp2_with fail
                        refine HC1.out.mono ?_
                        rintro e w5 ⟨rfl, hb5⟩
                        have HB5 := Lib.hid (below_trans HB4.out hb5)
                        have HR5 := Lib.hid (HR3.out.below hb5)
                        have HTW5 := Lib.hid (HTW.out.below hb5)
                        clear hb5 e0 e1 HC1
                        have e0 := HR5.out.cell (i := 0) rfl
                        have e1 := HR5.out.cell (i := 1) rfl
                        by_cases he : hi = lo
                        · have HV : Hid ((t4 ++ S8 (Lib.itoa lo)).data.toList = (P1 ++ preF txR [32, 97, 110, 100, 32] x k2 ++ [105] ++ modT m ++ negT ng) ++ joinF txS [44] (sp.take (k3 + 1))) := Lib.hid (by
                            rw [S8_app HT4.out _ (S8_list _), HZ.out, List.append_assoc]
                            rw [show txS ⟨lo, hi⟩ = Lib.itoa lo from if_pos he])
                          have hb : (lo != hi) = false := by simp [he]
                          have hsz : (t4 ++ S8 (Lib.itoa lo)).size ≤ 70000 := by
                            have h1 := HJS.out (k3 + 1)
                            rw [size_of HV.out, List.length_append]; have := HP2L.out; omega
                          clear he
                          generalize hgen : S8 (Lib.itoa lo) = il at *
                          clear hgen
                          go_wp2
                          go_roundw
                          case rel => exact ⟨_, k3 + 1, by omega, rfl, by go_num, hsz, HV, HB5⟩
                          case measure => simp [intOf]; omega
                        · have HV : Hid ((t4 ++ S8 (Lib.itoa lo) ++ ⟨#[46, 46]⟩ ++ S8 (Lib.itoa hi)).data.toList = (P1 ++ preF txR [32, 97, 110, 100, 32] x k2 ++ [105] ++ modT m ++ negT ng) ++ joinF txS [44] (sp.take (k3 + 1))) := Lib.hid (by
                            rw [S8_app (S8_app (S8_app HT4.out _ (S8_list _)) ⟨#[46, 46]⟩ rfl) _ (S8_list _), HZ.out]
                            rw [show txS ⟨lo, hi⟩ = Lib.itoa lo ++ [46, 46] ++ Lib.itoa hi from if_neg he]
                            simp [List.append_assoc])
                          have hb : (lo != hi) = true := by simp; exact fun e => he e.symm
                          have hsz : (t4 ++ S8 (Lib.itoa lo) ++ ⟨#[46, 46]⟩ ++ S8 (Lib.itoa hi)).size ≤ 70000 := by
                            have h1 := HJS.out (k3 + 1)
                            rw [size_of HV.out, List.length_append]; have := HP2L.out; omega
                          have HC2 := Lib.hid (itoa_any hi _ (by omega) hs2 HTW5.out)
                          clear he
                          generalize hgen : S8 (Lib.itoa lo) = il at *
                          generalize hgen2 : S8 (Lib.itoa hi) = ih at *
                          clear hgen hgen2
                          have hz1 : (t4 ++ il).size ≤ 80100 := by rw [app_size]; omega
                          generalize hg3 : t4 ++ il = t5 at *
                          go_wp2_with fail
                          refine HC2.out.mono ?_
                          rintro e w6 ⟨rfl, hb6⟩
                          have HB6 := Lib.hid (below_trans HB5.out hb6)
                          clear hb6 HC2
                          go_wp2
                          go_roundw
                          case rel => exact ⟨_, k3 + 1, by omega, rfl, by go_num, hsz, HV, HB6⟩
                          case measure => simp [intOf]; omega
                    · obtain rfl : k3 = sp.length := by omega
                      rw [List.take_length] at HT3
                      have HB4 := Lib.hid (below_trans HB2.out (below_trans HBB.out (below_trans HBM.out HB3.out)))
                      have HTN : Hid (t3.data.toList = P1 ++ joinF txR [32, 97, 110, 100, 32] (x.take (k2 + 1))) := Lib.hid (by rw [HT3.out, HY.out, txR_parts]; simp [List.append_assoc])
                      have hts : t3.size ≤ 60000 := by
                        have h1 := HJR.out (k2 + 1)
                        rw [size_of HTN.out, List.length_append]; have := HP1L.out; omega
                      go_wp2
                      go_roundw
                      case rel => exact ⟨t3, k2 + 1, by omega, rfl, by go_num, hts, HTN, HB4⟩
                      case measure => simp [intOf]; omega
          · obtain rfl : k2 = x.length := by omega
            rw [List.take_length] at HT2
            have HB4 := Lib.hid (below_trans HB.out HB2.out)
            have HTN : Hid (t2.data.toList = joinF txRow [32, 111, 114, 32] (xs.take (k + 1))) := Lib.hid (by rw [HT2.out, HX.out, HP1.out]; rfl)
            have hts : t2.size ≤ 60000 := by
              have h1 := HJW.out (k + 1)
              rw [size_of HTN.out]; omega
            go_wp2
            go_roundw
            case rel => exact ⟨t2, k + 1, by omega, rfl, by go_num, hts, HTN, HB4⟩
            case measure => simp [intOf]; omega
    · obtain rfl : k = xs.length := by omega
      rw [List.take_length] at HT0
      have HE : Hid (t0 = S8 (txRule xs)) := Lib.hid (S8_of HT0.out)
      go_wp2
      go_ret
      exact ⟨by rw [← HE.out]; rfl, HB.out⟩

set_option maxHeartbeats 1600000 in
theorem lprints_any (w : World) (a : Option Addr) (cap : Nat) (xs : Rule) (hIn : SlW w (Old w) (.slice a xs.length cap) xs) (ht : TabW w) :
    Calls Tryd.prog 4 #[.slice a xs.length cap] w fun e w' => e = .returned (.bool true) ∧ Below w.heap.size w w' := by
  have HIN := Lib.hid hIn
  have HT := Lib.hid ht
  have HP := Lib.hid (print_any w a cap xs hIn ht)
  clear hIn ht
  go_enter Tryd.func4, Tryd.ntmps4
  go_wp2_with fail
  refine HP.out.mono ?_
  rintro e w1 ⟨rfl, hb1⟩
  have HB1 := Lib.hid hb1
  have HR1 := Lib.hid (right_any w1 a cap xs (HIN.out.below hb1))
  clear hb1 HP
  go_wp2_with fail
  refine HR1.out.mono ?_
  rintro e w2 ⟨rfl, hb2⟩
  have HB2 := Lib.hid (below_trans HB1.out hb2)
  have HR2 := Lib.hid (rright_any w2 a cap xs (HIN.out.below HB2.out))
  clear hb2 HR1
  go_wp2_with fail
  refine HR2.out.mono ?_
  rintro e w3 ⟨rfl, hb3⟩
  have HB3 := Lib.hid (below_trans HB2.out hb3)
  have HA := Lib.hid (alive_any w3 (HT.out.below HB3.out))
  clear hb3 HR2
  cases hr : rgRule xs with
  | false =>
    rw [print_bad hr]
    go_wp2_with fail
    refine HA.out.mono ?_
    rintro e w4 ⟨rfl, hb4⟩
    have HB4 := Lib.hid (below_trans HB3.out hb4)
    have HR3 := Lib.hid (rright_any w4 a cap xs (HIN.out.below HB4.out))
    rw [hr] at HR3
    clear hb4 hr
    go_wp2_with fail
    refine HR3.out.mono ?_
    rintro e w5 ⟨rfl, hb5⟩
    have HB5 := Lib.hid (below_trans HB4.out hb5)
    clear hb5
    go_wp2
    go_ret
    exact ⟨ret_bool (a := (ByteArray.toList (S8 [])).isEmpty) (by rw [ByteArray.toList_eq]; rfl), HB5.out⟩
  | true =>
    have HRR := Lib.hid hr
    go_wp2_with fail
    refine HA.out.mono ?_
    rintro e w4 ⟨rfl, hb4⟩
    have HB4 := Lib.hid (below_trans HB3.out hb4)
    have HR3 := Lib.hid (rright_any w4 a cap xs (HIN.out.below HB4.out))
    rw [hr] at HR3
    have HXL := Lib.hid (txRule_len hr)
    clear hb4
    go_wp2_with fail
    refine HR3.out.mono ?_
    rintro e w5 ⟨rfl, hb5⟩
    have HB5 := Lib.hid (below_trans HB4.out hb5)
    have HTX := Lib.hid (rtext_any w5 a cap xs (HIN.out.below HB5.out) HRR.out (HT.out.below HB5.out))
    clear hb5
    by_cases h4 : 400 < (txRule xs).length
    · rw [print_long hr h4]
      have h4b : 400 < (S8 (txRule xs)).size := by rw [S8_size]; exact h4
      clear hr h4
      go_wp2_with fail
      refine HTX.out.mono ?_
      rintro e w6 ⟨rfl, hb6⟩
      have HB6 := Lib.hid (below_trans HB5.out hb6)
      clear hb6
      generalize S8 (txRule xs) = t at *
      go_wp2
      go_ret
      exact ⟨ret_bool (a := (ByteArray.toList (S8 [])).isEmpty) (by rw [ByteArray.toList_eq]; rfl), HB6.out⟩
    · rw [print_ok hr h4]
      have h4b : ¬ 400 < (S8 (txRule xs)).size := by rw [S8_size]; exact h4
      clear hr h4
      go_wp2_with fail
      refine HTX.out.mono ?_
      rintro e w6 ⟨rfl, hb6⟩
      have HB6 := Lib.hid (below_trans HB5.out hb6)
      clear hb6
      generalize S8 (txRule xs) = t at *
      go_wp2
      go_ret
      exact ⟨rfl, HB6.out⟩
end Go.Proofs.YtlgodcbffimcoaaDoor
