/- What is written is parsed; what is parsed is written: the law. -/
import Derived.Test.YtmagcikaepobiaaDoorDPrs
import Derived.Test.YtmagcikaepobiaaDoorDPm
import Derived.Test.YtmagcikaepobiaaDoorBByt
import Derived.Test.YtmagcikaepobiaaDoorDArg
import Derived.Deep.QuietTactic
import Derived.BigQuiet
namespace Go.Proofs.YtmagcikaepobiaaDoor.Dl
open Go.RowKit

theorem neq32 (w : World) (f n : Int) (t : BA) : (binOp .neq 32 (.agg #[.int .i64 f, .int .i64 n, .string t]) (.agg #[.int .i64 f, .int .i64 n, .string t])).run Tryd.prog w = .ok (.bool false) w := by
  have hS : Tryd.prog.underlying 32 = some (.struct (Tryd.prog.fieldsOf 32)) := by kernel_rfl
  have hp : Tryd.prog.stoodInHeld 32 = false := by kernel_rfl
  have u3 := Tryd.underlying3
  have a3 := Tryd.isAgg3
  have z3 := Tryd.sizeOf3
  have u9 := Tryd.underlying9
  have a9 := Tryd.isAgg9
  have z9 := Tryd.sizeOf9
  rw [run_neq_struct, show (10000 : Nat) = 9999 + 1 from rfl, run_equalIn_agg w 9999 32 _ _ hS hp]
  simp only [Program.fieldsOf, Tryd.underlying32]
  go_simp
theorem guard32 : Tryd.prog.eqGuardType Tryd.prog.depth 32 = false := by kernel_rfl

set_option maxHeartbeats 1600000 in
set_option maxRecDepth 100000 in
theorem like_any (w : World) (a b : Option Addr) (ca cb : Nat) (xs : List Opr) (h1 : InI w a xs) (h2 : InI w b xs) (hl : xs.length ≤ 1000000) :
    Calls Tryd.prog 10 #[.slice a xs.length ca, .slice b xs.length cb] w fun e w' => e = .returned (.bool true) ∧ Below w.heap.size w w' := by
  obtain ⟨L, HL⟩ : ∃ L, Hid (L = xs.length) := ⟨_, Lib.hid rfl⟩
  rw [← HL.out] at hl ⊢
  have H1 := Lib.hid h1
  have H2 := Lib.hid h2
  clear h1 h2
  go_enter Tryd.func10, Tryd.ntmps10
  go_wp2
  go_loopw [13] (fun i wr => ∃ k m : Nat, k ≤ L ∧ i = .int .i64 k ∧ wr = w.drewN m) (fun i _ => L - (intOf i).toNat)
  case atStart => exact ⟨0, 0, Nat.zero_le _, rfl, rfl⟩
  case round =>
    obtain ⟨k, m, hk, rfl, rfl⟩ := hrel
    by_cases hlt : k < L
    · obtain ⟨x, hx⟩ : ∃ x, xs[k]? = some x := ⟨_, List.getElem?_eq_getElem (by have := HL.out; omega)⟩
      obtain ⟨g1, o1, rfl, -, i1, i2, i3⟩ := H1.out.at_ hx
      obtain ⟨g2, o2, rfl, -, j1, j2, j3⟩ := H2.out.at_ hx
      have hne := neq32
      have hgd := guard32
      obtain ⟨xf, xn, xt⟩ := x
      simp only at i1 i2 i3 j1 j2 j3
      clear hx
      go_wp2
      go_quiet (fail)
      go_wp2
      go_roundw
      case rel => exact ⟨k + 1, _, by omega, by go_num, rfl⟩
      case measure => simp [intOf]; omega
    · go_wp2
      go_ret
      exact ⟨rfl, below_drewN (Below.refl _ _) m⟩
theorem ba_back (s : BA) : (⟨s.data.toList.toArray⟩ : BA) = s := BA.back s
theorem rgB_bytes {xs : List Opr} (h : rgB xs = true) (hb : (enc (treeD xs)).length ≤ 131072) : bytF xs = (enc (treeD xs), 0) := by rw [bytF_yes h, putF_yes hb]
theorem rgB_long2 {xs : List Opr} (h : rgB xs = true) (hb : ¬ (enc (treeD xs)).length ≤ 131072) : bytF xs = ([], 2) := by rw [bytF_yes h, putF_no (by omega)]

set_option maxHeartbeats 6400000 in
set_option maxRecDepth 100000 in
theorem back_any (w : World) (a : Option Addr) (cap : Nat) (xs : List Opr) (s : BA) (hx : ArgO w a cap xs) (hs : s.size ≤ 140737488351232) (htab : TabW w) :
    Calls Tryd.prog 4 #[.slice a xs.length cap, .string s] w fun e w' => e = .returned (.bool true) ∧ Below w.heap.size w w' := by
  have HF := Lib.hid (few_any w a cap xs hx.len hx.capg hx.capm hx.nil)
  have hy := hx.few
  have HNF := Lib.hid (fun h => few_nodes (xs := xs) h)
  have HTB := Lib.hid htab
  generalize fewL xs = ys at hy HF HNF
  have HBT := Lib.hid (bytes_any w a cap ys hy.len hy.szs hy.ini (fun h => HNF.out h) htab)
  have HY : Hid (∀ w', Below w.heap.size w w' → ArgO w' a cap ys) := Lib.hid (fun w' hb => hy.below hb)
  obtain ⟨L, HL⟩ : ∃ L, Hid (L = ys.length) := ⟨_, Lib.hid rfl⟩
  rw [← HL.out] at HF HBT
  clear hx hy htab
  cases hr : rgB ys with
  | false =>
    have HBF := Lib.hid (bytF_no hr)
    rw [HBF.out] at HBT
    simp only at HBT
    clear hr HNF
    go_enter Tryd.func4, Tryd.ntmps4
    go_wp2_with fail
    refine HF.out.mono ?_
    rintro e w1 ⟨rfl, rfl⟩
    go_wp2_with fail
    refine HBT.out.mono ?_
    rintro e w2 ⟨rfl, hb2⟩
    have HB2 := Lib.hid hb2
    clear hb2 HBT
    have HPS := Lib.hid (parse_any s w2 hs)
    have HPB := Lib.hid (fun ys h => par_back (l := s.data.toList) (ys := ys) h)
    have HPE := Lib.hid (par_bad (l := s.data.toList))
    generalize parF s.data.toList = r at *
    obtain ⟨zs, er⟩ := r
    simp only at HPE
    by_cases her : er = 0
    · subst her
      obtain ⟨hz1, hz2, hz3⟩ := HPB.out zs rfl
      have HZB : Hid (bytF zs = (s.data.toList, 0)) := Lib.hid (by rw [bytF_yes hz1]; exact hz2)
      have HZN := Lib.hid hz3
      clear hz1 hz2 hz3 HPB HPE
      go_wp2_with fail
      refine HPS.out.mono ?_
      rintro e w8 ⟨⟨a8, c8, rfl, hi8, hz8, hl8⟩, hb8⟩
      have HB8 := Lib.hid (below_trans HB2.out hb8)
      simp only at hi8 hz8 hl8
      have HBY := Lib.hid (bytes_any w8 a8 c8 zs (by omega) hz8 hi8 (fun _ => HZN.out) (HTB.out.below HB8.out))
      rw [HZB.out] at HBY
      simp only [ba_back] at HBY
      obtain ⟨lz, HLZ⟩ : ∃ lz, Hid (lz = zs.length) := ⟨_, Lib.hid rfl⟩
      simp only
      rw [← HLZ.out] at HBY ⊢
      clear hi8 hz8 hl8 hb8 HPS
      go_wp2_with fail
      refine HBY.out.mono ?_
      rintro e w9 ⟨rfl, hb9⟩
      have HB9 := Lib.hid (below_trans HB8.out hb9)
      clear hb9
      go_wp2
      go_ret
      exact ⟨rfl, HB9.out⟩
    · have hnil := HPE.out her
      subst hnil
      have hB : ((er : Int) != 0) = true := by simp; omega
      clear her HPB HPE
      go_wp2_with fail
      refine HPS.out.mono ?_
      rintro e w8 ⟨⟨a8, c8, rfl, -⟩, hb8⟩
      have HB8 := Lib.hid (below_trans HB2.out hb8)
      have HR1 := Lib.hid (right_one w8)
      clear hb8 HPS
      simp only [List.length_nil]
      go_wp2_with fail
      refine HR1.out.mono ?_
      rintro e w9 ⟨rfl, hb9⟩
      have HB9 := Lib.hid (below_trans HB8.out hb9)
      clear hb9
      go_wp2
      go_ret
      exact ⟨rfl, HB9.out⟩
  | true =>
    by_cases hfit : (enc (treeD ys)).length ≤ 131072
    · have HBF := Lib.hid (rgB_bytes hr hfit)
      have HPY := Lib.hid (par_bytes hr hfit (HNF.out hr))
      have hl2 := (rgB_true hr).1
      have HESZ : Hid ((⟨(enc (treeD ys)).toArray⟩ : BA).size ≤ 140737488351232) := Lib.hid (by rw [← BA.len]; simp only; omega)
      rw [HBF.out] at HBT
      simp only at HBT
      have HPX := Lib.hid (fun W => parse_any ⟨(enc (treeD ys)).toArray⟩ W HESZ.out)
      rw [show (⟨(enc (treeD ys)).toArray⟩ : BA).data.toList = enc (treeD ys) from rfl, HPY.out] at HPX
      clear hr hfit HNF HPY HESZ HBF
      generalize (⟨(enc (treeD ys)).toArray⟩ : BA) = by1 at *
      go_enter Tryd.func4, Tryd.ntmps4
      go_wp2_with fail
      refine HF.out.mono ?_
      rintro e w1 ⟨rfl, rfl⟩
      go_wp2_with fail
      refine HBT.out.mono ?_
      rintro e w2 ⟨rfl, hb2⟩
      have HB2 := Lib.hid hb2
      clear hb2 HBT
      have HPX2 := Lib.hid (HPX.out w2)
      clear HPX
      go_wp2_with fail
      refine HPX2.out.mono ?_
      rintro e w3 ⟨⟨a3, c3, rfl, hi3, -, hl3⟩, hb3⟩
      have HB3 := Lib.hid (below_trans HB2.out hb3)
      simp only at hi3 hl3
      have HLK := Lib.hid (like_any w3 a3 a c3 cap ys hi3 (HY.out w3 HB3.out).ini (by omega))
      simp only
      rw [← HL.out] at HLK ⊢
      clear hi3 hb3 HPX2 hl3
      go_wp2_with fail
      refine HLK.out.mono ?_
      rintro e w4 ⟨rfl, hb4⟩
      have HB4 := Lib.hid (below_trans HB3.out hb4)
      clear hb4 HLK
      have HPS := Lib.hid (parse_any s w4 hs)
      have HPB := Lib.hid (fun ys h => par_back (l := s.data.toList) (ys := ys) h)
      have HPE := Lib.hid (par_bad (l := s.data.toList))
      generalize parF s.data.toList = r at *
      obtain ⟨zs, er⟩ := r
      simp only at HPE
      by_cases her : er = 0
      · subst her
        obtain ⟨hz1, hz2, hz3⟩ := HPB.out zs rfl
        have HZB : Hid (bytF zs = (s.data.toList, 0)) := Lib.hid (by rw [bytF_yes hz1]; exact hz2)
        have HZN := Lib.hid hz3
        clear hz1 hz2 hz3 HPB HPE
        go_wp2_with fail
        refine HPS.out.mono ?_
        rintro e w8 ⟨⟨a8, c8, rfl, hi8, hz8, hl8⟩, hb8⟩
        have HB8 := Lib.hid (below_trans HB4.out hb8)
        simp only at hi8 hz8 hl8
        have HBY := Lib.hid (bytes_any w8 a8 c8 zs (by omega) hz8 hi8 (fun _ => HZN.out) (HTB.out.below HB8.out))
        rw [HZB.out] at HBY
        simp only [ba_back] at HBY
        obtain ⟨lz, HLZ⟩ : ∃ lz, Hid (lz = zs.length) := ⟨_, Lib.hid rfl⟩
        simp only
        rw [← HLZ.out] at HBY ⊢
        clear hi8 hz8 hl8 hb8 HPS
        go_wp2_with fail
        refine HBY.out.mono ?_
        rintro e w9 ⟨rfl, hb9⟩
        have HB9 := Lib.hid (below_trans HB8.out hb9)
        clear hb9
        go_wp2
        go_ret
        exact ⟨rfl, HB9.out⟩
      · have hnil := HPE.out her
        subst hnil
        have hB : ((er : Int) != 0) = true := by simp; omega
        clear her HPB HPE
        go_wp2_with fail
        refine HPS.out.mono ?_
        rintro e w8 ⟨⟨a8, c8, rfl, -⟩, hb8⟩
        have HB8 := Lib.hid (below_trans HB4.out hb8)
        have HR1 := Lib.hid (right_one w8)
        clear hb8 HPS
        simp only [List.length_nil]
        go_wp2_with fail
        refine HR1.out.mono ?_
        rintro e w9 ⟨rfl, hb9⟩
        have HB9 := Lib.hid (below_trans HB8.out hb9)
        clear hb9
        go_wp2
        go_ret
        exact ⟨rfl, HB9.out⟩
    · have HBF := Lib.hid (rgB_long2 hr hfit)
      rw [HBF.out] at HBT
      simp only at HBT
      clear hr HNF hfit
      go_enter Tryd.func4, Tryd.ntmps4
      go_wp2_with fail
      refine HF.out.mono ?_
      rintro e w1 ⟨rfl, rfl⟩
      go_wp2_with fail
      refine HBT.out.mono ?_
      rintro e w2 ⟨rfl, hb2⟩
      have HB2 := Lib.hid hb2
      clear hb2 HBT
      have HPS := Lib.hid (parse_any s w2 hs)
      have HPB := Lib.hid (fun ys h => par_back (l := s.data.toList) (ys := ys) h)
      have HPE := Lib.hid (par_bad (l := s.data.toList))
      generalize parF s.data.toList = r at *
      obtain ⟨zs, er⟩ := r
      simp only at HPE
      by_cases her : er = 0
      · subst her
        obtain ⟨hz1, hz2, hz3⟩ := HPB.out zs rfl
        have HZB : Hid (bytF zs = (s.data.toList, 0)) := Lib.hid (by rw [bytF_yes hz1]; exact hz2)
        have HZN := Lib.hid hz3
        clear hz1 hz2 hz3 HPB HPE
        go_wp2_with fail
        refine HPS.out.mono ?_
        rintro e w8 ⟨⟨a8, c8, rfl, hi8, hz8, hl8⟩, hb8⟩
        have HB8 := Lib.hid (below_trans HB2.out hb8)
        simp only at hi8 hz8 hl8
        have HBY := Lib.hid (bytes_any w8 a8 c8 zs (by omega) hz8 hi8 (fun _ => HZN.out) (HTB.out.below HB8.out))
        rw [HZB.out] at HBY
        simp only [ba_back] at HBY
        obtain ⟨lz, HLZ⟩ : ∃ lz, Hid (lz = zs.length) := ⟨_, Lib.hid rfl⟩
        simp only
        rw [← HLZ.out] at HBY ⊢
        clear hi8 hz8 hl8 hb8 HPS
        go_wp2_with fail
        refine HBY.out.mono ?_
        rintro e w9 ⟨rfl, hb9⟩
        have HB9 := Lib.hid (below_trans HB8.out hb9)
        clear hb9
        go_wp2
        go_ret
        exact ⟨rfl, HB9.out⟩
      · have hnil := HPE.out her
        subst hnil
        have hB : ((er : Int) != 0) = true := by simp; omega
        clear her HPB HPE
        go_wp2_with fail
        refine HPS.out.mono ?_
        rintro e w8 ⟨⟨a8, c8, rfl, -⟩, hb8⟩
        have HB8 := Lib.hid (below_trans HB2.out hb8)
        have HR1 := Lib.hid (right_one w8)
        clear hb8 HPS
        simp only [List.length_nil]
        go_wp2_with fail
        refine HR1.out.mono ?_
        rintro e w9 ⟨rfl, hb9⟩
        have HB9 := Lib.hid (below_trans HB8.out hb9)
        clear hb9
        go_wp2
        go_ret
        exact ⟨rfl, HB9.out⟩
end Go.Proofs.YtmagcikaepobiaaDoor.Dl
