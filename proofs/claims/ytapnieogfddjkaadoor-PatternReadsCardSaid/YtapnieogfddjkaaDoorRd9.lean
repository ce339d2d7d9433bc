/- The reader: cases, parts, by what is left to read. -/
import Derived.Test.YtapnieogfddjkaaDoorRd8
namespace Go.Proofs.YtapnieogfddjkaaDoor
open Go.RowKit

/-- What is left to the reader: twice the bytes, and whether it is not stuck. -/
def pl2 (m rb : Nat) (w : World) : Nat := match w.cell? ⟨rb, 1, none⟩, w.cell? ⟨rb, 3, none⟩ with
  | some (.int _ a), some (.int _ e) => 2 * (m - a.toNat) + (if e = 0 then 1 else 0)
  | _, _ => 0
theorem pl2_at {m rb : Nat} {w : World} {s : BA} {o : Nat} {S : St} (h : RdAt w rb s o S) : pl2 m rb w = 2 * (m - S.1) + (if S.2 = 0 then 1 else 0) := by
  unfold pl2; rw [h.c1, h.c3]
  by_cases h0 : S.2 = 0
  · rw [h0]; simp
  · rw [if_neg h0]; simp [h0]
theorem cases_stop {l : List UInt8} {f : Nat} {h : Bool} {o : Nat} {acc : List Cs} {b : List UInt8 × St} (hb : b.1 ≠ [32]) : casesL l f h o acc b = (acc, b.2) := by
  cases f with
  | zero => rw [casesL]
  | succ f => rw [casesL, if_neg hb]
theorem cases_go {l : List UInt8} {f : Nat} {h : Bool} {o : Nat} {acc : List Cs} {b : List UInt8 × St} (hb : b.1 = [32]) :
    casesL l (f + 1) h o acc b = casesL l f h o (acc ++ [(branchG l (fun S => partsL l f h (o + 1) [] S) o b.2).1]) (oneF l [32, 125] (branchG l (fun S => partsL l f h (o + 1) [] S) o b.2).2) := by
  rw [casesL, if_pos hb]
theorem parts_stop {l : List UInt8} {f : Nat} {h : Bool} {o : Nat} {acc : List Pt} {S : St} (hb : ¬ (S.2 = 0 ∧ S.1 < l.length ∧ nextF l [125] S = false)) : partsL l f h o acc S = (acc, S) := by
  cases f with
  | zero => rw [partsL]
  | succ f => rw [partsL, if_neg hb]
theorem parts_go {l : List UInt8} {f : Nat} {h : Bool} {o : Nat} {acc : List Pt} {S : St} (hb : S.2 = 0 ∧ S.1 < l.length ∧ nextF l [125] S = false) :
    partsL l (f + 1) h o acc S = partsL l f h o (acc ++ [(partG l (fun h b => casesL l f h o [] b) h S).1]) (partG l (fun h b => casesL l f h o [] b) h S).2 := by
  rw [partsL, if_pos hb]
theorem rest_eq {s : BA} {S : St} (hS : Wf s.data.toList S) (h : ¬ (S.2 = 0 ∧ S.1 < s.size)) : restF s S = ⟨#[]⟩ := by
  by_cases h0 : S.2 = 0
  · have h1 : (restF s S).size = 0 := by rw [rest_len, if_pos h0]; have := wf_le hS; omega
    apply ByteArray.ext
    exact Array.eq_empty_of_size_eq_zero h1
  · exact rest_stuck h0
theorem rest_full {s : BA} {S : St} (h : S.2 = 0 ∧ S.1 < s.size) : (restF s S).toList.isEmpty = false := by
  rw [ByteArray.toList_eq, List.isEmpty_eq_false_iff]
  intro e
  have : (restF s S).size = 0 := by rw [← len_list, e]; rfl
  rw [rest_len, if_pos h.1] at this; omega
theorem Env.frX {X : Nat → Prop} {w w' : World} {rb : Nat} (h : Env w rb) (hf : Fr X w w') (hX : ∀ b, X b → rb ≤ b) : Env w' rb := by
  obtain ⟨W, he, hb, hle⟩ := h
  exact ⟨W, he, ⟨hf.os.trans hb.os, hf.tape.trans hb.tape, hf.output.trans hb.output, Nat.le_trans hb.size hf.size, fun k hk => (hf.block k (Nat.lt_of_lt_of_le hk hb.size) (fun hx => by have := hX k hx; omega)).trans (hb.block k hk)⟩, hle⟩
theorem Gw.frC {e n : Nat} {B rb : Nat} {w w' : World} {v : Value} {xs : List Cs} {vs : List Value} (h : Gw e 2 (CCn n) B w v xs vs) (hf : Fr (· = rb) w w') (hrb : rb < B) : Gw e 2 (CCn n) B w' v xs vs := h.fr (kpC n) hf (fun b hb _ e => by omega)
theorem Gw.frP {e n : Nat} {B rb : Nat} {w w' : World} {v : Value} {xs : List Pt} {vs : List Value} (h : Gw e 4 (CPn n) B w v xs vs) (hf : Fr (· = rb) w w') (hrb : rb < B) : Gw e 4 (CPn n) B w' v xs vs := h.fr (kpP n) hf (fun b hb _ e => by omega)
theorem Gw.ownlt {α : Type} {e k : Nat} {C : World → (Nat → Prop) → α → List Value → Prop} {B : Nat} {w : World} {v : Value} {xs : List α} {vs : List Value} (h : Gw e k C B w v xs vs) : ∀ b, v.ownBlock = some b → b < w.heap.size := fun b hb => (h.own.lt b hb).2

set_option maxHeartbeats 3200000 in
set_option maxRecDepth 100000 in
theorem cases_any (f : Nat) (HP : ∀ g, g < f → PartsOK g) : CasesOK f := by
  intro h o rb s S w hs ho hS hf hR hE
  obtain ⟨i0, hi, hz0, hz1, hz2⟩ := info_parts info44
  have hlr := hR.lt
  have HBR : Hid (∀ g, g + 1 ≤ f → ∀ (S : St) (W : World), Wf s.data.toList S → s.size - S.1 < g + 1 → RdAt W rb s o S → Env W rb → Calls Tryd.prog 62 #[.pointer (some ⟨rb, 0, none⟩), .bool h] W (CasePost rb s o W (branchG s.data.toList (fun S => partsL s.data.toList g h (o + 1) [] S) o S))) :=
    Lib.hid (fun g hg S W h1 h2 h3 h4 => branch_any g (HP g (by omega)) h o rb s S W hs (by omega) h1 h2 h3 h4)
  have HO1 : Hid (Calls Tryd.prog 54 #[.pointer (some ⟨rb, 0, none⟩), .string ⟨#[32]⟩] w fun e w' => e = .returned (.string (ba (oneF s.data.toList [32] S).1)) ∧ RdAt w' rb s o (oneF s.data.toList [32] S).2 ∧ Fr (· = rb) w w') := Lib.hid (one_any rb s ⟨#[32]⟩ o S w hs hS hR)
  have HG1 := Lib.hid (ge_wf (ge_one s.data.toList [32] S) hS)
  have HLV : Hid ((oneF s.data.toList [32] S).1 = [32] → (oneF s.data.toList [32] S).2.2 = 0) := Lib.hid one_live
  have HFU := Lib.hid hf
  have HE0 := Lib.hid hE
  generalize oneF s.data.toList [32] S = b0 at *
  clear hR hE hf hS HP
  obtain ⟨q0, S0⟩ := b0
  simp only at HO1 HG1 HLV HFU
  go_enter Tryd.func53, Tryd.ntmps53
  go_wp2_with fail
  refine HO1.out.mono ?_
  rintro e w1 ⟨rfl, hr1, hf1⟩
  have HR1 := Lib.hid hr1
  have HF1 := Lib.hid hf1
  have HE1 := Lib.hid (HE0.out.fr hf1)
  have HW1 : Hid (Gw 44 2 (CCn 0) w.heap.size w1 (.slice none 0 0) [] []) := Lib.hid (Gw.nil _ _ _ _ _)
  clear hr1 hf1 HO1 HE0
  go_wp2
  go_loopw [5, 6] (fun v q wr => ∃ (xs : List Cs) (vs : List Value) (a : Option Addr) (cap k g : Nat) (bs : List UInt8) (T : St), v = .slice a xs.length cap ∧ q = .string (ba bs) ∧ g ≤ f ∧ Hid (Gw 44 2 (CCn k) w.heap.size wr (.slice a xs.length cap) xs vs) ∧ Hid (RdAt wr rb s o T) ∧ Hid (Env wr rb) ∧ Hid (Fr (· = rb) w wr) ∧ Hid (Wf s.data.toList T) ∧ Hid (bs = [32] → T.2 = 0) ∧ Hid (T.2 = 0 → s.size - T.1 < g) ∧ Hid (xs.length ≤ T.1 + (if T.2 = 0 then 0 else 1)) ∧ Hid (casesL s.data.toList f h o [] (q0, S0) = casesL s.data.toList g h o xs (bs, T))) (fun _ _ wr => pl2 s.size rb wr)
  case atStart => exact ⟨[], [], none, 0, 0, f, q0, S0, rfl, rfl, Nat.le_refl _, HW1, HR1, HE1, HF1, HG1, HLV, HFU, Lib.hid (Nat.zero_le _), Lib.hid rfl⟩
  case round =>
    obtain ⟨xs, vs, a, cap, k, g, bs, T, rfl, rfl, hgf, HGW, HRT, HET, HFT, HWT, HLT, HFG, HFEW, HQ⟩ := hrel
    clear HW1 HR1 HE1 HF1 HG1 HLV HFU
    have hBs : w.heap.size ≤ wr.heap.size := HFT.out.size
    have HM := Lib.hid (pl2_at (m := s.size) HRT.out)
    obtain ⟨n, HL⟩ : ∃ n, Hid (n = xs.length) := ⟨_, Lib.hid rfl⟩
    rw [← HL.out]
    by_cases hb : bs = [32]
    rotate_left
    · have HE := Lib.hid (HQ.out.trans (cases_stop (f := g) (h := h) (o := o) (acc := xs) (b := (bs, T)) hb))
      have hB : (bs == [32]) = false := beq_eq_false_iff_ne.2 hb
      clear hb
      go_wp2
      go_ret
      rw [HE.out]
      exact ⟨a, cap, k, by rw [HL.out]; rfl, HGW.out.done (kpC k), HRT.out, HFT.out⟩
    · have h0 := HLT.out hb
      obtain ⟨g', rfl⟩ : ∃ g', g = g' + 1 := ⟨g - 1, by have := HFG.out h0; omega⟩
      have HE := Lib.hid (HQ.out.trans (cases_go (f := g') (h := h) (o := o) (acc := xs) (b := (bs, T)) hb))
      have hB : (bs == [32]) = true := beq_iff_eq.2 hb
      have HC := Lib.hid (HBR.out g' hgf T wr HWT.out (HFG.out h0) HRT.out HET.out)
      have HLIV := Lib.hid h0
      have HGB := Lib.hid (ge_branch (l := s.data.toList) (pf := fun S => partsL s.data.toList g' h (o + 1) [] S) (fun S => ge_parts _ _ _ _ _ _) o T)
      simp only at HE
      clear hb h0 HQ HRT
      generalize branchG s.data.toList (fun S => partsL s.data.toList g' h (o + 1) [] S) o T = r at *
      obtain ⟨⟨key, kids⟩, V⟩ := r
      simp only at HE HGB
      have HSV := Lib.hid (ge_wf HGB.out HWT.out)
      go_wp2_with fail
      refine HC.out.mono ?_
      rintro e w2 ⟨v2, n2, he, hsl, hr2, hf2⟩
      simp only [Cs.key, Cs.kids] at he hsl hr2
      obtain ⟨a2, l2, p2, rfl, -⟩ := hsl.form
      subst he
      obtain ⟨K, HK⟩ : ∃ K, Hid (k ≤ K ∧ n2 ≤ K) := ⟨max k n2, Lib.hid ⟨Nat.le_max_left _ _, Nat.le_max_right _ _⟩⟩
      have HSL : Hid (SlP w2 (Fsh wr.heap.size w2) K (.slice a2 l2 p2) kids) := Lib.hid (hsl.le HK.out.2)
      have HR2 := Lib.hid hr2
      have HF2 := Lib.hid hf2
      have HGW2 := Lib.hid ((HGW.out.frC hf2 hlr).leC HK.out.1)
      have HOL := Lib.hid HGW.out.ownlt
      have HE2 := Lib.hid (HET.out.fr hf2)
      rw [← HL.out] at HGW2 HOL
      have hown2 := HGW2.out.own
      rw [← HL.out] at hown2
      have HO2 := Lib.hid hown2
      have hz2' : wr.heap.size ≤ w2.heap.size := hf2.size
      have hnf : n ≤ 2001 := by have h1 := HFEW.out; have h2 := wf_le HWT.out; rw [HLIV.out, if_pos rfl, ← HL.out] at h1; omega
      clear hsl hr2 hf2 HC hown2
      go_wp2_with (at_builtin; refine wpList_append_lies _ rfl _ _ 40 rfl w.heap.size 44 i0 _ 2 40 Tryd.underlying40 hi hz0 hz1 hz2 rfl (by decide) _ _ _ rfl (HO2.out.alloc _) _ 1 1 [.string key, .slice a2 l2 p2] rfl rfl (cell_newL _ #[.string key, .slice a2 l2 p2] _ rfl) (by simp [Value.oneCell']) (by decide) (by unfold maxLen; omega) (by omega) (by simp; omega) (w2.heap.size + 1) (by simp) ?_; intro g5 c5 w5 hown5 hgrow5 hg5 _; have HO5 := Lib.hid hown5; have HG5 := Lib.hid hgrow5; have HGL5 := Lib.hid hg5; clear hown5 hgrow5 hg5)
      have hlt2 := HR2.out.lt
      have HGW5 : Hid (Gw 44 2 (CCn K) w.heap.size w5 (.slice (some ⟨g5, 0, none⟩) (n + 1) c5) (xs ++ [.mk key kids]) (vs ++ [.string key, .slice a2 l2 p2])) := Lib.hid
        (HGW2.out.push (kpC K) HL.out (CC.mk HSL.out) hBs HOL.out rfl HG5.out HO5.out (by rcases HGL5.out with z | z; exact .inl z; right; rw [z]; omega))
      have HR5 : Hid (RdAt w5 rb s o V) := Lib.hid (HR2.out.keep ((HG5.out.block rb (by rw [World.size_alloc]; omega) (fun e => by have := (HO2.out.lt rb e.symm).1; omega)).trans (Below.heap_alloc _ _ _ hlt2)))
      have HF5 : Hid (Fr (· = rb) w w5) := Lib.hid (((HFT.out.trans HF2.out).alloc _).grown HG5.out (fun g hg => .inl (HO2.out.lt g hg).1))
      have HE5 : Hid (Env w5 rb) := Lib.hid (HE2.out.frX (X := fun b => rb ≤ b) (((Fr.refl _ w2).alloc _).grown HG5.out (fun g hg => .inr (by have := (HO2.out.lt g hg).1; omega))) (fun _ h => h))
      have HO6 : Hid (Calls Tryd.prog 54 #[.pointer (some ⟨rb, 0, none⟩), .string ⟨#[32, 125]⟩] w5 fun e w' => e = .returned (.string (ba (oneF s.data.toList [32, 125] V).1)) ∧ RdAt w' rb s o (oneF s.data.toList [32, 125] V).2 ∧ Fr (· = rb) w5 w') := Lib.hid (one_any rb s ⟨#[32, 125]⟩ o V w5 hs HSV.out HR5.out)
      have HG6 := Lib.hid (ge_wf (ge_one s.data.toList [32, 125] V) HSV.out)
      have HA6 : Hid ((oneF s.data.toList [32, 125] V).2.2 = 0 → V.1 + 1 = (oneF s.data.toList [32, 125] V).2.1) := Lib.hid one_adv
      have HGE6 := Lib.hid (ge_one s.data.toList [32, 125] V).1
      have HL6 : Hid ((oneF s.data.toList [32, 125] V).1 = [32] → (oneF s.data.toList [32, 125] V).2.2 = 0) := Lib.hid one_live
      clear HR2 HF2 HE2 HO2 HG5 HO5 HGL5 HSL HOL HGW2 HGW
      generalize oneF s.data.toList [32, 125] V = b6 at *
      obtain ⟨q6, T6⟩ := b6
      simp only at HO6 HG6 HA6 HGE6 HL6
      go_wp2_with fail
      refine HO6.out.mono ?_
      rintro e w6 ⟨rfl, hr6, hf6⟩
      have HR6 := Lib.hid hr6
      have HF6 := Lib.hid (HF5.out.trans hf6)
      have HE6 := Lib.hid (HE5.out.fr hf6)
      have HGW6 := Lib.hid (HGW5.out.frC hf6 hlr)
      clear hr6 hf6 HO6 HR5 HF5 HE5 HGW5
      have hT := HGB.out.1
      have hf0 := HFG.out HLIV.out
      have hfew := HFEW.out
      rw [HLIV.out, if_pos rfl] at hfew
      have hw6 := wf_le HG6.out
      have hge6 := HGE6.out
      have hl0 := HLIV.out
      go_wp2
      go_roundw
      case rel => exact ⟨_, _, some ⟨g5, 0, none⟩, c5, K, g', q6, T6, by rw [List.length_append, ← HL.out]; rfl, rfl, by omega, by rw [List.length_append, ← HL.out]; exact HGW6, HR6, HE6, HF6, HG6, HL6, Lib.hid (fun e => by have := HA6.out e; omega), Lib.hid (by
        rw [List.length_append]
        by_cases e : T6.2 = 0
        · rw [if_pos e]; have := HA6.out e; simp only [List.length_cons, List.length_nil]; omega
        · rw [if_neg e]; simp only [List.length_cons, List.length_nil]; omega), HE⟩
      case measure =>
        have h1 := pl2_at (m := s.size) HR6.out
        rw [HM.out, h1, if_pos hl0]
        by_cases e : T6.2 = 0
        · rw [if_pos e]; have := HA6.out e; omega
        · rw [if_neg e]; omega

set_option maxHeartbeats 3200000 in
set_option maxRecDepth 100000 in
theorem parts_any (f : Nat) (HC : ∀ g, g < f → CasesOK g) : PartsOK f := by
  intro h o rb s S w hs ho hS hf hR hE
  obtain ⟨i0, hi, hz0, hz1, hz2⟩ := info_parts info42
  have hlr := hR.lt
  have HBR : Hid (∀ g, g + 1 ≤ f → ∀ (S : St) (W : World), Wf s.data.toList S → s.size - S.1 < g + 1 → RdAt W rb s o S → Env W rb → Calls Tryd.prog 24 #[.pointer (some ⟨rb, 0, none⟩), .bool h] W (PartPost rb s o W (partG s.data.toList (fun h b => casesL s.data.toList g h o [] b) h S))) :=
    Lib.hid (fun g hg S W h1 h2 h3 h4 => part_any g (HC g (by omega)) h o rb s S W hs (by omega) h1 h2 h3 h4)
  have HR0 := Lib.hid hR
  have HE0 := Lib.hid hE
  have HS0 := Lib.hid hS
  have HFU0 := Lib.hid hf
  have HW0 : Hid (Gw 42 4 (CPn 0) w.heap.size w (.slice none 0 0) [] []) := Lib.hid (Gw.nil _ _ _ _ _)
  clear hR hE hf hS HC
  go_enter Tryd.func12, Tryd.ntmps12
  go_wp2
  go_loopw [5] (fun v wr => ∃ (xs : List Pt) (vs : List Value) (a : Option Addr) (cap k g : Nat) (T : St), v = .slice a xs.length cap ∧ g ≤ f ∧ Hid (Gw 42 4 (CPn k) w.heap.size wr (.slice a xs.length cap) xs vs) ∧ Hid (RdAt wr rb s o T) ∧ Hid (Env wr rb) ∧ Hid (Fr (· = rb) w wr) ∧ Hid (Wf s.data.toList T) ∧ Hid (T.2 = 0 → s.size - T.1 < g) ∧ Hid (xs.length ≤ T.1 + (if T.2 = 0 then 0 else 1)) ∧ Hid (partsL s.data.toList f h o [] S = partsL s.data.toList g h o xs T)) (fun _ wr => pl2 s.size rb wr)
  case atStart => exact ⟨[], [], none, 0, 0, f, S, rfl, Nat.le_refl _, HW0, HR0, HE0, Lib.hid (Fr.refl _ _), HS0, HFU0, Lib.hid (Nat.zero_le _), Lib.hid rfl⟩
  case round =>
    obtain ⟨xs, vs, a, cap, k, g, T, rfl, hgf, HGW, HRT, HET, HFT, HWT, HFG, HFEW, HQ⟩ := hrel
    clear HW0 HR0 HE0 HS0 HFU0
    have hBs : w.heap.size ≤ wr.heap.size := HFT.out.size
    have HM := Lib.hid (pl2_at (m := s.size) HRT.out)
    have HRS := Lib.hid (rest_any rb s o T wr hs HWT.out HRT.out)
    obtain ⟨n, HL⟩ : ∃ n, Hid (n = xs.length) := ⟨_, Lib.hid rfl⟩
    rw [← HL.out]
    by_cases hlv : T.2 = 0 ∧ T.1 < s.size
    rotate_left
    · have HE := Lib.hid (HQ.out.trans (parts_stop (f := g) (h := h) (o := o) (acc := xs) (fun e => hlv ⟨e.1, by have := e.2.1; rw [len_list] at this; exact this⟩)))
      rw [rest_eq HWT.out hlv] at HRS
      clear hlv
      go_wp2_with fail
      refine HRS.out.mono ?_
      rintro e w2 ⟨rfl, hw2⟩
      have HR2 := Lib.hid (HRT.out.same hw2)
      have HF2 := Lib.hid (HFT.out.trans (Fr.of_same hw2))
      have HGW2 := Lib.hid (HGW.out.frP (rb := rb) (Fr.of_same hw2) hlr)
      clear hw2
      go_wp2
      go_ret
      rw [HE.out]
      exact ⟨a, cap, k, by rw [HL.out]; rfl, HGW2.out.done (kpP k), HR2.out, HF2.out⟩
    · have hne := rest_full (s := s) (S := T) hlv
      have HN1 : Hid (∀ W, RdAt W rb s o T → Calls Tryd.prog 23 #[.pointer (some ⟨rb, 0, none⟩), .string ⟨#[125]⟩] W fun e w' => e = .returned (.bool (nextF s.data.toList [125] T)) ∧ Same W w') := Lib.hid (fun W hW => next_any rb s ⟨#[125]⟩ o T W hs HWT.out (by decide) hW)
      generalize restF s T = R at *
      cases hnx : nextF s.data.toList [125] T with
      | true =>
        have HE := Lib.hid (HQ.out.trans (parts_stop (f := g) (h := h) (o := o) (acc := xs) (fun e => by have := e.2.2; rw [hnx] at this; cases this)))
        rw [hnx] at HN1
        clear hlv hnx
        go_wp2_with fail
        refine HRS.out.mono ?_
        rintro e w2 ⟨rfl, hw2⟩
        have HR2 := Lib.hid (HRT.out.same hw2)
        have HF2 := Lib.hid (HFT.out.trans (Fr.of_same hw2))
        have HGW2 := Lib.hid (HGW.out.frP (rb := rb) (Fr.of_same hw2) hlr)
        have HN2 := Lib.hid (HN1.out w2 HR2.out)
        clear hw2 HN1
        go_wp2_with fail
        refine HN2.out.mono ?_
        rintro e w3 ⟨rfl, hw3⟩
        have HR3 := Lib.hid (HR2.out.same hw3)
        have HF3 := Lib.hid (HF2.out.trans (Fr.of_same hw3))
        have HGW3 := Lib.hid (HGW2.out.frP (rb := rb) (Fr.of_same hw3) hlr)
        clear hw3
        go_wp2
        go_ret
        rw [HE.out]
        exact ⟨a, cap, k, by rw [HL.out]; rfl, HGW3.out.done (kpP k), HR3.out, HF3.out⟩
      | false =>
        obtain ⟨h0, hlt⟩ := hlv
        have hlt2 : T.1 < s.data.toList.length := by rw [len_list]; exact hlt
        obtain ⟨g', rfl⟩ : ∃ g', g = g' + 1 := ⟨g - 1, by have := HFG.out h0; omega⟩
        have HE := Lib.hid (HQ.out.trans (parts_go (f := g') (h := h) (o := o) (acc := xs) ⟨h0, hlt2, hnx⟩))
        have HADV := Lib.hid (part_adv (cf := fun h b => casesL s.data.toList g' h o [] b) (fun h b => ge_cases _ _ _ _ _ _) (h := h) h0 hlt2 hnx)
        have HGB := Lib.hid (ge_part (l := s.data.toList) (cf := fun h b => casesL s.data.toList g' h o [] b) (fun h b => ge_cases _ _ _ _ _ _) h T)
        have HPA := Lib.hid (fun W h3 h4 => HBR.out g' hgf T W HWT.out (HFG.out h0) h3 h4)
        have HLIV := Lib.hid h0
        rw [hnx] at HN1
        clear h0 hlt hlt2 hnx HQ
        go_wp2_with fail
        refine HRS.out.mono ?_
        rintro e w2 ⟨rfl, hw2⟩
        have HR2 := Lib.hid (HRT.out.same hw2)
        have HF2 := Lib.hid (HFT.out.trans (Fr.of_same hw2))
        have HE2 := Lib.hid (HET.out.same hw2)
        have HGW2 := Lib.hid (HGW.out.frP (rb := rb) (Fr.of_same hw2) hlr)
        have HN2 := Lib.hid (HN1.out w2 HR2.out)
        clear hw2 HN1 HRT HFT HET HGW
        go_wp2_with fail
        refine HN2.out.mono ?_
        rintro e w3 ⟨rfl, hw3⟩
        have HR3 := Lib.hid (HR2.out.same hw3)
        have HF3 := Lib.hid (HF2.out.trans (Fr.of_same hw3))
        have HE3 := Lib.hid (HE2.out.same hw3)
        have HGW3 := Lib.hid (HGW2.out.frP (rb := rb) (Fr.of_same hw3) hlr)
        have HC3 := Lib.hid (HPA.out w3 HR3.out HE3.out)
        clear hw3 HN2 HR2 HF2 HE2 HGW2 HPA HR3
        generalize partG s.data.toList (fun h b => casesL s.data.toList g' h o [] b) h T = r at *
        obtain ⟨⟨pk, pt, pn, cs⟩, V⟩ := r
        simp only at HE HGB HADV
        have HSV := Lib.hid (ge_wf HGB.out HWT.out)
        go_wp2_with fail
        refine HC3.out.mono ?_
        rintro e w4 ⟨v2, n2, he, hsl, hr4, hf4⟩
        simp only [Pt.k, Pt.t, Pt.n, Pt.cs] at he hsl hr4
        obtain ⟨a2, l2, p2, rfl, -⟩ := hsl.form
        subst he
        obtain ⟨K, HK⟩ : ∃ K, Hid (k ≤ K + 1 ∧ n2 ≤ K) := ⟨max k n2, Lib.hid ⟨by omega, Nat.le_max_right _ _⟩⟩
        have HSL : Hid (SlC w4 (Fsh w3.heap.size w4) K (.slice a2 l2 p2) cs) := Lib.hid (hsl.le HK.out.2)
        have HR4 := Lib.hid hr4
        have HF4 := Lib.hid (HF3.out.trans hf4)
        have HE4 := Lib.hid (HE3.out.fr hf4)
        have HGW4 := Lib.hid ((HGW3.out.frP hf4 hlr).leP HK.out.1)
        have HOL := Lib.hid HGW3.out.ownlt
        rw [← HL.out] at HGW4 HOL
        have hown4 := HGW4.out.own
        rw [← HL.out] at hown4
        have HO4 := Lib.hid hown4
        have hz4 : w3.heap.size ≤ w4.heap.size := hf4.size
        have hz3 : w.heap.size ≤ w3.heap.size := HF3.out.size
        have hnf : n ≤ 2001 := by have h1 := HFEW.out; have h2 := wf_le HWT.out; rw [HLIV.out, if_pos rfl, ← HL.out] at h1; omega
        clear hsl hr4 hf4 HC3 hown4 HF3 HE3 HGW3
        go_wp2_with (at_builtin; refine wpList_append_lies _ rfl _ _ 22 rfl w.heap.size 42 i0 _ 4 64 Tryd.underlying22 hi hz0 hz1 hz2 rfl (by decide) _ _ _ rfl (HO4.out.alloc _) _ 1 1 [.int .i64 pk, .string pt, .string pn, .slice a2 l2 p2] rfl rfl (cell_newL _ #[.int .i64 pk, .string pt, .string pn, .slice a2 l2 p2] _ rfl) (by simp [Value.oneCell']) (by decide) (by unfold maxLen; omega) (by omega) (by simp; omega) (w4.heap.size + 1) (by simp) ?_; intro g5 c5 w5 hown5 hgrow5 hg5 _; have HO5 := Lib.hid hown5; have HG5 := Lib.hid hgrow5; have HGL5 := Lib.hid hg5; clear hown5 hgrow5 hg5)
        have hlt4 := HR4.out.lt
        have HGW5 : Hid (Gw 42 4 (CPn (K + 1)) w.heap.size w5 (.slice (some ⟨g5, 0, none⟩) (n + 1) c5) (xs ++ [.mk pk pt pn cs]) (vs ++ [.int .i64 pk, .string pt, .string pn, .slice a2 l2 p2])) := Lib.hid
          (HGW4.out.push (kpP (K + 1)) HL.out (CP.mk HSL.out) hz3 HOL.out rfl HG5.out HO5.out (by rcases HGL5.out with z | z; exact .inl z; right; rw [z]; omega))
        have HR5 : Hid (RdAt w5 rb s o V) := Lib.hid (HR4.out.keep ((HG5.out.block rb (by rw [World.size_alloc]; omega) (fun e => by have := (HO4.out.lt rb e.symm).1; omega)).trans (Below.heap_alloc _ _ _ hlt4)))
        have HF5 : Hid (Fr (· = rb) w w5) := Lib.hid ((HF4.out.alloc _).grown HG5.out (fun g hg => .inl (HO4.out.lt g hg).1))
        have HE5 : Hid (Env w5 rb) := Lib.hid (HE4.out.frX (X := fun b => rb ≤ b) (((Fr.refl _ w4).alloc _).grown HG5.out (fun g hg => .inr (by have := (HO4.out.lt g hg).1; omega))) (fun _ h => h))
        clear HR4 HF4 HE4 HO4 HG5 HO5 HGL5 HSL HOL HGW4
        have hT := HGB.out.1
        have hf0 := HFG.out HLIV.out
        have hfew := HFEW.out
        rw [HLIV.out, if_pos rfl] at hfew
        have hw6 := wf_le HSV.out
        have hl0 := HLIV.out
        go_roundw
        case rel => exact ⟨_, _, some ⟨g5, 0, none⟩, c5, K + 1, g', V, by rw [List.length_append, ← HL.out]; rfl, by omega, by rw [List.length_append, ← HL.out]; exact HGW5, HR5, HE5, HF5, HSV, Lib.hid (fun e => by rcases HADV.out with z | z; exact absurd e z; omega), Lib.hid (by
          rw [List.length_append]
          by_cases e : V.2 = 0
          · rw [if_pos e]; rcases HADV.out with z | z
            · exact absurd e z
            · simp only [List.length_cons, List.length_nil]; omega
          · rw [if_neg e]; simp only [List.length_cons, List.length_nil]; omega), HE⟩
        case measure =>
          have h1 := pl2_at (m := s.size) HR5.out
          rw [HM.out, h1, if_pos hl0]
          by_cases e : V.2 = 0
          · rw [if_pos e]; rcases HADV.out with z | z
            · exact absurd e z
            · omega
          · rw [if_neg e]; omega

theorem both_read : ∀ f, CasesOK f ∧ PartsOK f := by
  intro f
  induction f using Nat.strongRecOn with
  | _ f ih => exact ⟨cases_any f (fun g hg => (ih g hg).2), parts_any f (fun g hg => (ih g hg).1)⟩
end Go.Proofs.YtapnieogfddjkaaDoor
