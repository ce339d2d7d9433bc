/- The document's Shown. -/
import Derived.Test.YtnmhmemlgibedaaDoorRoots
import Derived.Test.YtnmhmemlgibedaaDoorChk
namespace Go.Proofs.YtnmhmemlgibedaaDoor
open Go.RowKit

theorem upT_end (k : Nat) (d : BA) (ps : List BA) : upT Dg 1 k d ps = [] := by unfold upT; rw [dif_pos (by omega)]
theorem upT_cons {n k : Nat} {d q : BA} {ps : List BA} (h : 1 < n) (hs : sib k < n) : upT Dg n k d (q :: ps) = stepT k d q :: upT Dg ((n + 1) / 2) (k / 2) (Dg (stepT k d q)) ps := by
  conv => lhs; unfold upT
  rw [dif_neg (by omega), if_pos hs]
theorem upT_skip {n k : Nat} {d : BA} {ps : List BA} (h : 1 < n) (hs : ¬ sib k < n) : upT Dg n k d ps = upT Dg ((n + 1) / 2) (k / 2) d ps := by
  conv => lhs; unfold upT
  rw [dif_neg (by omega), if_neg hs]
/-- How far the showing has come: u elements are used, us are the texts. -/
structure SP (n0 i0 : Nat) (d0 : BA) (ps : List BA) (n k : Nat) (d : BA) (u : Nat) (us : List BA) : Prop where
  f : upF Dg n0 i0 d0 ps = upF Dg n k d (ps.drop u)
  t : upT Dg n0 i0 d0 ps = us ++ upT Dg n k d (ps.drop u)
section
variable {n0 i0 n k u : Nat} {d0 d : BA} {ps us : List BA}
theorem SP.step (h : SP n0 i0 d0 ps n k d u us) (h1 : 1 < n) (h2 : sib k < n) (hu : u < ps.length) : SP n0 i0 d0 ps ((n + 1) / 2) (k / 2) (Dg (stepT k d ps[u])) (u + 1) (us ++ [stepT k d ps[u]]) := by
  have e : ps.drop u = ps[u] :: ps.drop (u + 1) := List.drop_eq_getElem_cons hu
  exact ⟨by rw [h.f, e, upF_cons h1 h2], by rw [h.t, e, upT_cons h1 h2]; simp⟩
theorem SP.skip (h : SP n0 i0 d0 ps n k d u us) (h1 : 1 < n) (h2 : ¬ sib k < n) : SP n0 i0 d0 ps ((n + 1) / 2) (k / 2) d u us := ⟨by rw [h.f, upF_skip h1 h2], by rw [h.t, upT_skip h1 h2]⟩
theorem SP.none (h : SP n0 i0 d0 ps n k d u us) (h1 : 1 < n) (h2 : sib k < n) (hu : ps.length ≤ u) : upF Dg n0 i0 d0 ps = .none := by
  rw [h.f, List.drop_eq_nil_of_le hu, upF_nil h1 h2]
theorem SP.more (h : SP n0 i0 d0 ps 1 k d u us) (hu : u < ps.length) : ¬ ∃ e, upF Dg n0 i0 d0 ps = some e := by
  rintro ⟨e, he⟩
  rw [h.f, List.drop_eq_getElem_cons hu, upF_end] at he
  cases he.1
theorem SP.done (h : SP n0 i0 d0 ps 1 k d u us) (hu : ps.length ≤ u) : upF Dg n0 i0 d0 ps = some d ∧ upT Dg n0 i0 d0 ps = us := by
  rw [h.f, h.t, List.drop_eq_nil_of_le hu, upF_end, upT_end]
  exact ⟨⟨rfl, rfl⟩, by simp⟩
end
/-- The answer. -/
def ShA (M : Nat) (ts : List BA) (n i : Int) (leaf : BA) (ps : List BA) (w : World) (e : Ending) (w' : World) : Prop :=
  ∃ (ok : Bool) (r : BA), e = .returned (.tuple #[.string r, .bool ok]) ∧ (ok = true ↔ ∃ t, Shown Dg n i leaf ps t) ∧ (∀ t, Shown Dg n i leaf ps t → r = Dg (crownT n.toNat t) ∧ MadeAt w' M (ts ++ shownT Dg n i leaf ps t)) ∧ Mv M w w'
theorem sha_no {M : Nat} {ts : List BA} {n i : Int} {leaf : BA} {ps : List BA} {w w' : World} (h : ¬ ∃ t, Shown Dg n i leaf ps t) (hv : Mv M w w') : ShA M ts n i leaf ps w (.returned (.tuple #[.string ⟨#[]⟩, .bool false])) w' :=
  ⟨false, ⟨#[]⟩, rfl, ⟨fun h => (by cases h), fun h' => absurd h' h⟩, fun t ht => absurd ⟨t, ht⟩ h, hv⟩

set_option maxHeartbeats 6400000 in
set_option maxRecDepth 100000 in
theorem shown_right (w : World) (M : Nat) (ts : List BA) (N I : Nat) (leaf : BA) (a : Option Addr) (cap : Nat) (ps : List BA) (hm : MadeAt w M ts) (hts : ts.length ≤ 1000) (hn1 : 1 ≤ N) (hn2 : N ≤ 4096) (hi : I < N) (hlf : leaf.size = 32) (hpl : ps.length ≤ 4096) (hs : AllS ps) (hIn : InO w M a ps) :
    Calls Tryd.prog 18 #[.pointer (some ⟨M, 0, none⟩), .int .i64 N, .int .i64 I, .string leaf, .slice a ps.length cap] w (ShA M ts N I leaf ps w) := by
  have HRG : Hid (Right N I leaf ps) := Lib.hid ⟨by omega, by omega, by omega, by omega, hlf, hs⟩
  have HSH : Hid (∀ t, Shown Dg N I leaf ps t ↔ upF Dg N I leaf ps = some t) := Lib.hid (fun t => ⟨fun h => h.2, fun h => ⟨HRG.out, h⟩⟩)
  have HF : Hid (Calls Tryd.prog 13 #[.slice a ps.length cap] w fun e w' => e = .returned (.int .i64 0) ∧ w = w') := Lib.hid (by
    have := right_any w a cap ps (by omega) (fun x hx => by rw [hs x hx]; omega) hIn.ins
    rwa [fault_ok.2 ⟨hpl, hs⟩] at this)
  have HIN := Lib.hid hIn
  have HS := Lib.hid hs
  have H0 : Hid (MadeAt w M (ts ++ [])) := Lib.hid (by rw [List.append_nil]; exact hm)
  have hlf2 : ((leaf.size : Int) != 32) = false := by rw [bne_eq_false_iff_eq]; omega
  have hlf3 : leaf.size ≤ 32 := by omega
  have hi2 : ¬ (N : Int) ≤ (I : Int) := by omega
  have hI : I ≤ 4096 := by omega
  clear hm hIn hs hlf
  go_enter Tryd.func18, Tryd.ntmps18
  go_wp2_with fail
  refine HF.out.mono ?_
  rintro e w1 ⟨rfl, rfl⟩
  go_wp2
  go_loopw [2, 12, 13, 14] (fun ii dd mm uu wr => ∃ (n k u : Nat) (d : BA) (us : List BA), ii = .int .i64 k ∧ dd = .string d ∧ mm = .int .i64 n ∧ uu = .int .i64 u ∧ 1 ≤ n ∧ n ≤ 4096 ∧ k < n ∧ k ≤ 4096 ∧ u ≤ ps.length ∧ d.size ≤ 32 ∧ us.length ≤ u ∧ Hid (SP N I leaf ps n k d u us) ∧ Hid (MadeAt wr M (ts ++ us)) ∧ Hid (Mv M w wr)) (fun _ _ mm _ _ => (intOf mm).toNat)
  case atStart => exact ⟨N, I, 0, leaf, [], rfl, rfl, rfl, rfl, hn1, hn2, hi, hI, by omega, hlf3, by simp, Lib.hid ⟨rfl, rfl⟩, H0, Lib.hid (Mv.refl _ _)⟩
  case round =>
    clear H0 hlf2 HF
    obtain ⟨n, k, u, d, us, rfl, rfl, rfl, rfl, h1, h2, hk, hk2, hu, hds, hul, HP, HM, HV⟩ := hrel
    by_cases hgo : 1 < n
    · have hgi : (1 : Int) < (n : Int) := by omega
      by_cases ho : k % 2 = 1
      · have hsb : sib k < n := by unfold sib; rw [if_pos ho]; omega
        have hrem : ((k : Int) % 2 == 1) = true := by rw [beq_iff_eq]; omega
        by_cases hue : u < ps.length
        · have HP2 := Lib.hid (HP.out.step hgo hsb hue)
          rw [stepT_odd ho] at HP2
          obtain ⟨b, off, rfl, hob, hcl⟩ := (HIN.out.mv HV.out) (fun e => by rw [e] at hue; simp at hue)
          have hcell := hcl u hue
          have hq : ps[u].size = 32 := HS.out _ (List.getElem_mem _)
          have hqs : ps[u].size ≤ 32 := by omega
          generalize ps[u] = q at *
          have HC : Hid (Calls Tryd.prog 32 #[.pointer (some ⟨M, 0, none⟩), .string ((⟨#[1]⟩ : BA) ++ q ++ d)] wr fun e w' => e = .returned (.string (Dg (pairT q d))) ∧ MadeAt w' M (ts ++ us ++ [pairT q d]) ∧ Mv M wr w') := Lib.hid (mof_any wr M (ts ++ us) (pairT q d) HM.out (by rw [pairT_size]; omega) (by simp; omega))
          have hds2 : (Dg (pairT q d)).size ≤ 32 := by rw [Dg_size]; omega
          generalize pairT q d = P at *
          generalize Dg P = d2 at *
          have hui : (u : Int) < (ps.length : Int) := by omega
          clear hcl hob ho hq
          go_wp2_with fail
          refine HC.out.mono ?_
          rintro e w2 ⟨rfl, hm2, hv2⟩
          have HM2 : Hid (MadeAt w2 M (ts ++ (us ++ [P]))) := Lib.hid (by rw [← List.append_assoc]; exact hm2)
          have HV2 := Lib.hid (HV.out.trans hv2)
          clear hm2 hv2 hcell
          go_wp2
          refine ⟨⟨(n + 1) / 2, k / 2, u + 1, d2, us ++ [P], by go_num, rfl, by go_num, by go_num, by omega, by omega, by omega, by omega, by omega, hds2, by simp; omega, HP2, HM2, HV2⟩, ?_⟩
          simp [intOf]; omega
        · have HNO : Hid (¬ ∃ t, Shown Dg N I leaf ps t) := Lib.hid (fun ⟨t, ht⟩ => by
            have := (HSH.out t).1 ht
            rw [HP.out.none hgo hsb (by omega)] at this
            cases this)
          have hui : ¬ (u : Int) < (ps.length : Int) := by omega
          clear ho
          go_wp2
          go_ret2
          exact sha_no HNO.out HV.out
      · have hrem : ((k : Int) % 2 == 1) = false := by rw [beq_eq_false_iff_ne]; omega
        by_cases hkn : k + 1 < n
        · have hsb : sib k < n := by unfold sib; rw [if_neg ho]; omega
          have hki : (k : Int) + 1 < (n : Int) := by omega
          by_cases hue : u < ps.length
          · have HP2 := Lib.hid (HP.out.step hgo hsb hue)
            rw [stepT_even ho] at HP2
            obtain ⟨b, off, rfl, hob, hcl⟩ := (HIN.out.mv HV.out) (fun e => by rw [e] at hue; simp at hue)
            have hcell := hcl u hue
            have hq : ps[u].size = 32 := HS.out _ (List.getElem_mem _)
            have hqs : ps[u].size ≤ 32 := by omega
            generalize ps[u] = q at *
            have HC : Hid (Calls Tryd.prog 32 #[.pointer (some ⟨M, 0, none⟩), .string ((⟨#[1]⟩ : BA) ++ d ++ q)] wr fun e w' => e = .returned (.string (Dg (pairT d q))) ∧ MadeAt w' M (ts ++ us ++ [pairT d q]) ∧ Mv M wr w') := Lib.hid (mof_any wr M (ts ++ us) (pairT d q) HM.out (by rw [pairT_size]; omega) (by simp; omega))
            have hds2 : (Dg (pairT d q)).size ≤ 32 := by rw [Dg_size]; omega
            generalize pairT d q = P at *
            generalize Dg P = d2 at *
            have hui : (u : Int) < (ps.length : Int) := by omega
            clear hcl hob ho hq
            go_wp2_with fail
            refine HC.out.mono ?_
            rintro e w2 ⟨rfl, hm2, hv2⟩
            have HM2 : Hid (MadeAt w2 M (ts ++ (us ++ [P]))) := Lib.hid (by rw [← List.append_assoc]; exact hm2)
            have HV2 := Lib.hid (HV.out.trans hv2)
            clear hm2 hv2 hcell
            go_wp2
            refine ⟨⟨(n + 1) / 2, k / 2, u + 1, d2, us ++ [P], by go_num, rfl, by go_num, by go_num, by omega, by omega, by omega, by omega, by omega, hds2, by simp; omega, HP2, HM2, HV2⟩, ?_⟩
            simp [intOf]; omega
          · have HNO : Hid (¬ ∃ t, Shown Dg N I leaf ps t) := Lib.hid (fun ⟨t, ht⟩ => by
              have := (HSH.out t).1 ht
              rw [HP.out.none hgo hsb (by omega)] at this
              cases this)
            have hui : ¬ (u : Int) < (ps.length : Int) := by omega
            clear ho
            go_wp2
            go_ret2
            exact sha_no HNO.out HV.out
        · have hsb : ¬ sib k < n := by unfold sib; rw [if_neg ho]; omega
          have hki : ¬ (k : Int) + 1 < (n : Int) := by omega
          have HP2 := Lib.hid (HP.out.skip hgo hsb)
          clear ho
          go_wp2
          refine ⟨⟨(n + 1) / 2, k / 2, u, d, us, by go_num, rfl, by go_num, rfl, by omega, by omega, by omega, by omega, hu, hds, hul, HP2, HM, HV⟩, ?_⟩
          simp [intOf]; omega
    · obtain rfl : n = 1 := by omega
      by_cases hue : u < ps.length
      · have HNO : Hid (¬ ∃ t, Shown Dg N I leaf ps t) := Lib.hid (fun ⟨t, ht⟩ => HP.out.more hue ⟨t, (HSH.out t).1 ht⟩)
        have hne : ((u : Int) != (ps.length : Int)) = true := by rw [bne_iff_ne]; omega
        have hne2 : ¬ u = ps.length := by omega
        go_wp2
        go_ret2
        exact sha_no HNO.out HV.out
      · obtain ⟨hd1, hd2⟩ := HP.out.done (by omega)
        obtain rfl : u = ps.length := by omega
        have HC := Lib.hid (crown_any wr M (ts ++ us) N d HM.out (by simp; omega) hn2 (by omega))
        have HA : Hid (∀ t, Shown Dg N I leaf ps t → t = d) := Lib.hid (fun t ht => by
          have := (HSH.out t).1 ht
          rw [hd1] at this
          exact (Option.some.inj this).symm)
        have HB : Hid (Shown Dg N I leaf ps d) := Lib.hid ((HSH.out d).2 hd1)
        have HT : Hid (shownT Dg N I leaf ps d = us ++ [crownT N d]) := Lib.hid (by
          show upT Dg N I leaf ps ++ [crownT N d] = _
          rw [hd2])
        clear hd1 hd2 hue
        go_wp2_with fail
        refine HC.out.mono ?_
        rintro e w2 ⟨rfl, hm2, hv2⟩
        have HM2 := Lib.hid hm2
        have HV2 := Lib.hid (HV.out.trans hv2)
        clear hm2 hv2
        go_wp2
        go_ret2
        refine ⟨true, _, rfl, ⟨fun _ => ⟨d, HB.out⟩, fun _ => rfl⟩, fun t ht => ?_, HV2.out⟩
        obtain rfl := HA.out t ht
        rw [HT.out, ← List.append_assoc]
        exact ⟨rfl, HM2.out⟩

set_option maxHeartbeats 1600000 in
theorem shown_any (w : World) (M : Nat) (ts : List BA) (n i : Int) (leaf : BA) (a : Option Addr) (cap : Nat) (ps : List BA) (hm : MadeAt w M ts) (hts : ts.length ≤ 1000) (hn1 : -9223372036854775808 ≤ n) (hn2 : n ≤ 9223372036854775807) (hi1 : -9223372036854775808 ≤ i) (hi2 : i ≤ 9223372036854775807) (hlf : leaf.size ≤ 9223372036854775807) (hpl : ps.length ≤ 4096) (hx : ∀ x, x ∈ ps → x.size ≤ 9223372036854775807) (hIn : InO w M a ps) :
    Calls Tryd.prog 18 #[.pointer (some ⟨M, 0, none⟩), .int .i64 n, .int .i64 i, .string leaf, .slice a ps.length cap] w (ShA M ts n i leaf ps w) := by
  by_cases h : (1 ≤ n ∧ n ≤ 4096) ∧ (0 ≤ i ∧ i < n) ∧ leaf.size = 32
  · obtain ⟨⟨h1, h2⟩, ⟨h3, h4⟩, h5⟩ := h
    obtain ⟨N, rfl⟩ := Int.eq_ofNat_of_zero_le (show 0 ≤ n by omega)
    obtain ⟨I, rfl⟩ := Int.eq_ofNat_of_zero_le h3
    by_cases hs : AllS ps
    · exact shown_right w M ts N I leaf a cap ps hm hts (by omega) (by omega) (by omega) h5 hpl hs hIn
    · have HNC : Hid (¬ ∃ t, Shown Dg N I leaf ps t) := Lib.hid (fun ⟨t, ht, _⟩ => hs ht.all)
      have HF := Lib.hid (right_any w a cap ps (by omega) hx hIn.ins)
      have hf0 : faultF ps ≠ 0 := fun e => hs (fault_ok.1 e).2
      have hb1 : (((faultF ps : Nat) : Int) != 0) = true := by rw [bne_iff_ne]; omega
      have hb2 : ((faultF ps : Nat) : Int) ≠ 0 := by omega
      have hlf2 : ((leaf.size : Int) != 32) = false := by rw [bne_eq_false_iff_eq]; omega
      have hi3 : ¬ (N : Int) ≤ (I : Int) := by omega
      clear hm hIn hx hs hf0 h5
      generalize faultF ps = f at *
      go_enter Tryd.func18, Tryd.ntmps18
      go_wp2_with fail
      refine HF.out.mono ?_
      rintro e w1 ⟨rfl, rfl⟩
      go_wp2
      go_ret2
      exact sha_no HNC.out (Mv.refl _ _)
  · have HNC : Hid (¬ ∃ t, Shown Dg n i leaf ps t) := Lib.hid (fun ⟨e, hr, _⟩ => h ⟨⟨hr.n1, hr.n2⟩, ⟨hr.i1, hr.i2⟩, hr.leaf⟩)
    have hcs : n < 1 ∨ (1 ≤ n ∧ 4096 < n) ∨ (1 ≤ n ∧ n ≤ 4096 ∧ i < 0) ∨ (1 ≤ n ∧ n ≤ 4096 ∧ 0 ≤ i ∧ n ≤ i) ∨ (1 ≤ n ∧ n ≤ 4096 ∧ 0 ≤ i ∧ i < n ∧ leaf.size ≠ 32) := by omega
    clear h hm hIn hx
    rcases hcs with h1 | ⟨h1, h2⟩ | ⟨h1, h2, h3⟩ | ⟨h1, h2, h3, h4⟩ | ⟨h1, h2, h3, h4, h5⟩
    · go_enter Tryd.func18, Tryd.ntmps18
      go_wp2
      go_ret2
      exact sha_no HNC.out (Mv.refl _ _)
    · go_enter Tryd.func18, Tryd.ntmps18
      go_wp2
      go_ret2
      exact sha_no HNC.out (Mv.refl _ _)
    · go_enter Tryd.func18, Tryd.ntmps18
      go_wp2
      go_ret2
      exact sha_no HNC.out (Mv.refl _ _)
    · go_enter Tryd.func18, Tryd.ntmps18
      go_wp2
      go_ret2
      exact sha_no HNC.out (Mv.refl _ _)
    · have hb : ((leaf.size : Int) != 32) = true := by rw [bne_iff_ne]; omega
      clear h5
      go_enter Tryd.func18, Tryd.ntmps18
      go_wp2
      go_ret2
      exact sha_no HNC.out (Mv.refl _ _)
end Go.Proofs.YtnmhmemlgibedaaDoor
