/- FormatPlurals: what the law answers. -/
import Derived.Test.YtlmaafmhadbiaaaGreatDoorLs
import Derived.Lib.MinMax
namespace Go.Proofs.YtlmaafmhadbiaaaGreatDoor
open Go.RowKit

/-- The cases so far. -/
def csK (u k : Nat) : List Cs := cs1 (exK u) kJust :: (six.take k).map (fun c => cs1 c c)
theorem csK_step {u k : Nat} {c : BA} (h : six[k]? = some c) : csK u (k + 1) = csK u k ++ [cs1 c c] := by
  unfold csK
  rw [take_one h, List.map_append]; rfl
theorem csK_len {u k : Nat} (h : k ≤ 6) : (csK u k).length = k + 1 := by
  unfold csK
  rw [List.length_cons, List.length_map, List.length_take]
  show min k 6 + 1 = _
  omega
theorem csK_all (u : Nat) : csK u 6 = casesF u := rfl
abbrev sixV : List Value := six.map Value.string
theorem sixV_at {k : Nat} {c : BA} (h : six[k]? = some c) : sixV[k]? = some (.string c) := by
  unfold sixV
  rw [List.getElem?_map, h]; rfl

set_option maxHeartbeats 6400000 in
set_option maxRecDepth 100000 in
theorem plurals_any (m : Int) (w : World) (lang : BA) (n x : Int) (h1 : -9223372036854775808 ≤ n) (h2 : n ≤ 9223372036854775807) (hx1 : -9223372036854775808 ≤ x) (hx2 : x ≤ 9223372036854775807) (hm : Lc.MaxW m w) (hE : EnvW w) :
    Calls Tryz.prog 4 #[.string lang, .int .i64 n, .int .i64 x] w fun e w' => e = .returned (.bool true) ∧ Below w.heap.size w w' := by
  obtain ⟨i0, hi, hz0, hz1, hz2⟩ := info_parts info44
  have HAL := Lib.hid (fun W (hb : Below w.heap.size w W) => alive_any m W (hm.next hb))
  have HEV := Lib.hid hE
  obtain ⟨u, HU, hu⟩ : ∃ u : Nat, Hid (min (max x 0) 1000000 = (u : Int)) ∧ u ≤ 1000000 := ⟨(min (max x 0) 1000000).toNat, Lib.hid (by omega), by omega⟩
  have HUX := HU.out
  clear hm hE
  go_enter Tryz.func4, Tryz.ntmps4
  go_wp2_with fail
  clear HUX HU
  refine (lnum_any u hu _).mono ?_
  rintro e w2 ⟨rfl, hb2⟩
  obtain ⟨a0, n0, q0, HV0, HN0, hn0⟩ : ∃ (a0 : Option Addr) (n0 q0 : Nat), Hid (Value.slice a0 n0 q0 = .slice none 0 0) ∧ Hid (n0 = ([] : List Cs).length) ∧ n0 ≤ 0 := ⟨none, 0, 0, Lib.hid rfl, Lib.hid rfl, Nat.le_refl _⟩
  have HL0 : Hid (LS w w.heap.size w2 (.slice a0 n0 q0) [] []) := Lib.hid (by rw [HV0.out]; exact (LS.new w).step hb2)
  obtain ⟨dg, HDG⟩ : ∃ dg : BA, Hid (dg = ⟨(Lib.decDigits u).toArray⟩) := ⟨_, Lib.hid rfl⟩
  rw [← HDG.out]
  have hdz : dg.size ≤ 7 := by
    rw [HDG.out]; show (Lib.decDigits u).toArray.size ≤ _
    rw [List.size_toArray, Lib.decDigits_length]; exact nd_le 6 u (by omega)
  have HKE : Hid ((⟨#[61]⟩ : BA) ++ dg = exK u) := Lib.hid (by
    rw [HDG.out]; apply ByteArray.ext; apply Array.toList_inj.1; simp)
  have hds : ¬ 9223372036854775807 < 1 + dg.size := by omega
  have c3 := HL0.out.rp.cell (i := 3) rfl
  have z3 := HL0.out.rp.thaw 3
  have HO0 := Lib.hid (HL0.out.step (below1 w2 (.cells #[.int .i64 1, .string kJust, .string ⟨#[]⟩, .slice none 0 0] 30))).gw.own
  rw [← HN0.out] at HO0
  have hsz : (w2.alloc (.cells #[.int .i64 1, .string kJust, .string ⟨#[]⟩, .slice none 0 0] 30)).heap.size = w2.heap.size + 1 := World.size_alloc _ _
  have hpl := HL0.out.lt
  clear hb2
  go_wp2_with (at_builtin; refine wpList_append_lies _ rfl _ _ 28 rfl (w.heap.size + 1) 35 i0 _ 2 40 Tryz.underlying28 hi hz0 hz1 hz2 rfl (by decide) _ _ _ rfl (HO0.out.alloc _) _ 1 1 [.string ((⟨#[61]⟩ : BA) ++ dg), .slice (some ⟨w2.heap.size, 0, none⟩) 1 1] rfl rfl (cell_newL _ #[.string ((⟨#[61]⟩ : BA) ++ dg), .slice (some ⟨w2.heap.size, 0, none⟩) 1 1] _ hsz) (by simp [Value.oneCell']) (by decide) (by unfold maxLen; omega) (by omega) (by simp; omega) (w2.heap.size + 1 + 1) (by simp) ?_; intro g5 c5 w5 hown5 hgrow5 hg5 _; have HO5 := Lib.hid hown5; have HG5 := Lib.hid hgrow5; have HGL5 := Lib.hid hg5; have b3 := (HL0.out.row9 hgrow5).cell (i := 3) rfl; have y3 := (HL0.out.row9 hgrow5).thaw 3; clear hown5 hgrow5 hg5)
  have HL6 : Hid (LS w w.heap.size (w5.setCell ⟨w.heap.size, 3, none⟩ (.slice (some ⟨g5, 0, none⟩) (n0 + 1) c5)) (.slice (some ⟨g5, 0, none⟩) (n0 + 1) c5) ([] ++ [cs1 (exK u) kJust]) ([] ++ [.string ((⟨#[61]⟩ : BA) ++ dg), .slice (some ⟨w2.heap.size, 0, none⟩) 1 1])) := Lib.hid (by
    have hp := LS.push (key := (⟨#[61]⟩ : BA) ++ dg) (t := kJust) HL0.out HN0.out HG5.out HO5.out (by rcases HGL5.out with z | z; exact .inl z; right; omega)
    rw [HKE.out] at hp
    rw [HKE.out]
    exact hp)
  have hsw : (w5.setCell ⟨w.heap.size, 3, none⟩ (.slice (some ⟨g5, 0, none⟩) (n0 + 1) c5)).heap.size = w5.heap.size := by simp [World.setCell]
  have HRS := Lib.hid (row_new (w5.setCell ⟨w.heap.size, 3, none⟩ (.slice (some ⟨g5, 0, none⟩) (n0 + 1) c5)) #[.string kZero, .string kOne, .string kTwo, .string kFew, .string kMany, .string kOther] 9)
  have HL7 := Lib.hid (HL6.out.step (below1 _ (.cells #[.string kZero, .string kOne, .string kTwo, .string kFew, .string kMany, .string kOther] 9)))
  rw [hsw] at HRS
  have hsb : w.heap.size < w5.heap.size := by rw [← hsw]; exact HL6.out.lt
  clear HG5 HO5 HGL5 HL6 hsw b3 y3 c3 z3
  generalize (w5.setCell ⟨w.heap.size, 3, none⟩ (.slice (some ⟨g5, 0, none⟩) (n0 + 1) c5)).alloc (.cells #[.string kZero, .string kOne, .string kTwo, .string kFew, .string kMany, .string kOther] 9) = w7 at *
  generalize w5.heap.size = sb at *
  go_loopw [32] (fun i wr => ∃ (k : Nat) (a : Option Addr) (cap M : Nat) (vs : List Value), k ≤ 6 ∧ i = .int .i64 k ∧ M ≤ 7 ∧ Hid (M = k + 1) ∧ Hid (LS w w.heap.size wr (.slice a M cap) (csK u k) vs) ∧ Hid (Row wr sb 9 sixV)) (fun i _ => 6 - (intOf i).toNat)
  case atStart => exact ⟨0, some ⟨g5, 0, none⟩, c5, n0 + 1, _, by omega, rfl, by omega, Lib.hid (by omega), HL7, HRS⟩
  case round =>
    obtain ⟨k, a, cap, M, vs, hk, rfl, hM7, HM1, HL, HS⟩ := hrel
    have hlen := csK_len (u := u) hk
    have HMN : Hid (M = (csK u k).length) := Lib.hid (by have := HM1.out; omega)
    by_cases hlt : k < 6
    · obtain ⟨c, hc⟩ : ∃ c, six[k]? = some c := ⟨_, List.getElem?_eq_getElem hlt⟩
      have HST := Lib.hid (csK_step (u := u) hc)
      have s0 := HS.out.cell (sixV_at hc)
      have c3 := HL.out.rp.cell (i := 3) rfl
      have z3 := HL.out.rp.thaw 3
      have HO := Lib.hid (HL.out.step (below1 wr (.cells #[.int .i64 1, .string c, .string ⟨#[]⟩, .slice none 0 0] 30))).gw.own
      rw [← HMN.out] at HO
      have hsz : (wr.alloc (.cells #[.int .i64 1, .string c, .string ⟨#[]⟩, .slice none 0 0] 30)).heap.size = wr.heap.size + 1 := World.size_alloc _ _
      have hpl := HL.out.lt
      clear hc hlen
      go_wp2_with (at_builtin; refine wpList_append_lies _ rfl _ _ 28 rfl (w.heap.size + 1) 35 i0 _ 2 40 Tryz.underlying28 hi hz0 hz1 hz2 rfl (by decide) _ _ _ rfl (HO.out.alloc _) _ 1 1 [.string c, .slice (some ⟨wr.heap.size, 0, none⟩) 1 1] rfl rfl (cell_newL _ #[.string c, .slice (some ⟨wr.heap.size, 0, none⟩) 1 1] _ hsz) (by simp [Value.oneCell']) (by decide) (by unfold maxLen; omega) (by omega) (by simp; omega) (wr.heap.size + 1 + 1) (by simp) ?_; intro g9 c9 w9 hown9 hgrow9 hg9 _; have HO9 := Lib.hid hown9; have HG9 := Lib.hid hgrow9; have HGL9 := Lib.hid hg9; have b3 := (HL.out.row9 hgrow9).cell (i := 3) rfl; have y3 := (HL.out.row9 hgrow9).thaw 3; clear hown9 hgrow9 hg9)
      have HLN : Hid (LS w w.heap.size (w9.setCell ⟨w.heap.size, 3, none⟩ (.slice (some ⟨g9, 0, none⟩) (M + 1) c9)) (.slice (some ⟨g9, 0, none⟩) (M + 1) c9) (csK u (k + 1)) (vs ++ [.string c, .slice (some ⟨wr.heap.size, 0, none⟩) 1 1])) := Lib.hid (by
        rw [HST.out]
        exact LS.push (t := c) HL.out HMN.out HG9.out HO9.out (by rcases HGL9.out with z | z; exact .inl z; right; omega))
      have HSN := Lib.hid (LS.keep (u := .slice (some ⟨g9, 0, none⟩) (M + 1) c9) HL.out HS.out (by decide) (by omega) HG9.out)
      have hMk := HM1.out
      clear HG9 HO9 HGL9 b3 y3 HO HL HS s0 c3 z3
      go_roundw
      case rel => exact ⟨k + 1, _, _, M + 1, _, by omega, by go_num, by omega, Lib.hid (by omega), HLN, HSN⟩
      case measure => simp [intOf]; omega
    · obtain rfl : k = 6 := by omega
      obtain rfl : M = 7 := by have := HM1.out; omega
      have HL7 : Hid (LS w w.heap.size wr (.slice a 7 cap) (casesF u) vs) := Lib.hid HL.out
      have c0 := HL7.out.rp.cell (i := 0) rfl
      have c1 := HL7.out.rp.cell (i := 1) rfl
      have c2 := HL7.out.rp.cell (i := 2) rfl
      have c3 := HL7.out.rp.cell (i := 3) rfl
      have hpa := HL7.out.parts
      have hbx := below1 wr (.cells #[.int .i64 4, .string ⟨#[]⟩, .string kN, .slice a 7 cap] 30)
      have hzx : (wr.alloc (.cells #[.int .i64 4, .string ⟨#[]⟩, .string kN, .slice a 7 cap] 30)).heap.size = wr.heap.size + 1 := World.size_alloc _ _
      have hby := below1 (wr.alloc (.cells #[.int .i64 4, .string ⟨#[]⟩, .string kN, .slice a 7 cap] 30)) (.cells #[.string kN, .bool true, .int .i64 n, .string ⟨#[]⟩] 38)
      have hpb := hpa.old hby
      have hag := arg_new (wr.alloc (.cells #[.int .i64 4, .string ⟨#[]⟩, .string kN, .slice a 7 cap] 30)) n
      rw [hzx] at hag
      have HBY := Lib.hid (below_trans HL7.out.bel (below_trans hbx hby))
      clear HL HS hpa hbx hzx hby HMN hlen HM1
      obtain ⟨wt, HWT⟩ : ∃ wt : BA, Hid (wt = wantF u lang n) := ⟨_, Lib.hid rfl⟩
      have HNE := Lib.hid (want_ne u lang n).1
      have HF := Lib.hid (format_any 2 _ (some ⟨wr.heap.size, 0, none⟩) 1 [plPt u] lang (some ⟨wr.heap.size + 1, 0, none⟩) 1 [argN n] (wantF u lang n).data.toList hpb (by rw [pl_cnt]; decide) (pl_small hu) (HEV.out.below HBY.out) (pl_right hu) hag (arg_ok n) HNE.out
        (fun W hb V bb hv _ ho => parts_plural 2 W.heap.size bb [] lang (some ⟨wr.heap.size + 1, 0, none⟩) 1 0 n u (some ⟨wr.heap.size, 0, none⟩) 1 V h1 h2 ((hpb.old hb).old hv) ((hag.old hb).old hv) (((HEV.out.below HBY.out).below hb).below hv) ho (by simp) hv.size))
      rw [str_back, ← HWT.out] at HF
      have HCA := Lib.hid (fun W (hb : Below w.heap.size w W) => Pu.category_any W lang n h1 h2 (HEV.out.below hb).tab)
      obtain ⟨ct, HCT⟩ : ∃ ct : BA, Hid (ct = Pu.catF lang n) := ⟨_, Lib.hid rfl⟩
      rw [← HCT.out] at HCA
      clear hpb hag HNE
      go_wp2_with fail
      refine HF.out.mono ?_
      rintro e w10 ⟨rfl, hb10⟩
      have HB10 := Lib.hid (below_trans HBY.out hb10)
      clear hb10 HF HBY c0 c1 c2 c3
      go_wp2_with fail
      refine (HCA.out _ HB10.out).mono ?_
      rintro e w11 ⟨rfl, hb11⟩
      have HB11 := Lib.hid (below_trans HB10.out hb11)
      clear hb11 HCA HB10
      by_cases hnu : n = u
      · have hW : wt = kJust := by rw [HWT.out]; unfold wantF; rw [if_pos hnu]
        subst hW
        subst hnu
        go_wp2_with fail
        refine (HAL.out _ HB11.out).mono ?_
        rintro e w12 ⟨rfl, hb12⟩
        have HB12 := Lib.hid (below_trans HB11.out hb12)
        clear hb12
        go_wp2
        go_ret
        exact ⟨by first | rfl | simp, HB12.out⟩
      · have hW : wt = ct := by rw [HWT.out, HCT.out]; unfold wantF; rw [if_neg hnu]
        subst hW
        have hnb : (n == (u : Int)) = false := beq_eq_false_iff_ne.2 hnu
        go_wp2_with fail
        refine (HAL.out _ HB11.out).mono ?_
        rintro e w12 ⟨rfl, hb12⟩
        have HB12 := Lib.hid (below_trans HB11.out hb12)
        clear hb12
        go_wp2
        go_ret
        exact ⟨by first | rfl | simp, HB12.out⟩
end Go.Proofs.YtlmaafmhadbiaaaGreatDoor
