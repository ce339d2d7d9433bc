/- The document's reader in memory: a key. -/
import Derived.Test.YtdnedbcmgkilaaaGreatDoorZSg38
import Derived.Test.YtdnedbcmgkilaaaGreatDoorZSg37
import Derived.Test.YtdnedbcmgkilaaaGreatDoorZSg40

namespace Go.Proofs.YtdnedbcmgkilaaaGreatDoor.Dr
set_option maxHeartbeats 6400000
set_option maxRecDepth 100000
open Go.Lib (hid)
open Go.RowKit Go.Proofs.YtdnedbcmgkilaaaGreatDoor
theorem z6k (w : World) (c : UInt8) : (convert 81 9 (.slice (some ⟨w.heap.size, 0, none⟩) 1 1)).run Tryz.prog (w.alloc (.cells #[.int .u8 c.toNat] 5)) = .ok (.string ⟨#[c]⟩) (w.alloc (.cells #[.int .u8 c.toNat] 5)) :=
 run_convert_bytes_back (P := Tryz.prog) _ 81 9 5 ⟨w.heap.size, 0, none⟩ 1 [c] Tryz.underlying81 Tryz.underlying5 Tryz.underlying9 (fun j hj => by
  rw [Addr.add_mid, Nat.zero_add]
  have hj0 : j = 0 := by simp at hj; omega
  subst hj0
  exact (z04 w #[.int .u8 c.toNat] 5).cell (i := 0) rfl)
theorem ba_cat (a b : List UInt8) : ba a ++ ba b = ba (a ++ b) := by
 apply ByteArray.ext; apply Array.toList_inj.1
 rw [ByteArray.data_append, Array.toList_append]
def digI (n : Int) : Bool := decide (48 <= n) && decide (n <= 57)
theorem zew (l : List UInt8) (S : St) : digI (nowI l S) = isNow l isDig S := by
 unfold isNow
 cases h : nowF l S with
 | none => rw [z1q h]; rfl
 | some c =>
  rw [z0f h]
  unfold digI isDig
  congr 1
  ·exact decide_eq_decide.2 (by omega)
  ·exact decide_eq_decide.2 (by omega)
theorem num_len {t : List UInt8} (h : numB t = true) : t.length <= 7 := by
 cases t with
 | nil => simp [numB] at h
 | cons d r => simp only [numB, Bool.and_eq_true, decide_eq_true_eq] at h; simp only [List.length_cons]; omega
theorem pkey_num (t : List UInt8) : pkeyB (61 :: t) = numB t := by
 rw [zct]
 simp [eqB]
theorem ba_list2 (l : List UInt8) : (ba l).data.toList = l := rfl
theorem zd6 (pb : Nat) (s : BA) (S : St) (w : World) (hs : s.size <= 2000) (hS : Wf s.data.toList S) (hR : PAt w pb s S) :
  Calls Tryz.prog 169 #[.pointer (some ⟨pb, 0, none⟩)] w fun e w' => e = .returned (.string (ba (dKey s.data.toList S).1)) /\ PAt w' pb s (dKey s.data.toList S).2 /\ Fr (· = pb) w w' := by
 have hlp := hR.lt
 have HR0 := hid hR
 have HN0 := hid (z1p pb s S w hs hR)
 have HS := hid hS
 clear hR hS
 by_cases h61 : nowF s.data.toList S = some 61
 rotate_left
 ·have HE : Hid (dKey s.data.toList S = dName s.data.toList S) := hid (by unfold dKey; rw [if_neg h61])
  have hB : (nowI s.data.toList S != 61) = true := by
   have := z99 (l := s.data.toList) (S := S) 61
   rw [decide_eq_false h61] at this
   rw [bne]
   rw [show (nowI s.data.toList S == 61) = false from this]; rfl
  have HNM := hid (fun W (h : PAt W pb s S) => z3m pb s S W hs HS.out h)
  generalize nowI s.data.toList S = v at *
  clear h61
  go_enter Tryz.func169, Tryz.ntmps169
  go_wp2_with fail
  refine HN0.out.mono ?_
  rintro e w2 ⟨rfl, nq, hw2⟩
  have hs2 : Same w w2 := by rw [hw2]; exact (Same.refl _).drewN _
  have HN2 := hid (HNM.out w2 (HR0.out.same hs2))
  have HF2 : Hid (Fr (· = pb) w w2) := hid (Fr.of_same hs2)
  clear hs2 hw2 HN0 HNM HR0
  generalize dName s.data.toList S = D at *
  go_wp2_with fail
  refine HN2.out.mono ?_
  rintro e w3 ⟨rfl, hr3, hf3⟩
  have HR3 := hid hr3
  have HF3 := hid (HF2.out.trans hf3)
  clear hr3 hf3 HN2
  go_wp2
  go_ret
  exact ⟨by rw [HE.out]; rfl, by rw [HE.out]; exact HR3.out, HF3.out⟩
 have hnv : nowI s.data.toList S = 61 := z0f h61
 rw [hnv] at HN0
 obtain ⟨h0, hx⟩ := z0b h61
 have HW1 := hid (z0t h61)
 have HTL := hid (z0l hx)
 rw [z05] at HTL
 have HD0 : Hid (dKey s.data.toList S = if isNow s.data.toList isDig (S.1 + 1, 0) then (if (dDig s.data.toList (S.1 + 1, 0)).2.2 = 0 then 61 :: (dDig s.data.toList (S.1 + 1, 0)).1 else [], (dDig s.data.toList (S.1 + 1, 0)).2) else ([61], failF s.data.toList (S.1 + 1, 0))) := hid (by unfold dKey; rw [if_pos h61])
 have hdi := zew s.data.toList (S.1 + 1, 0)
 obtain ⟨a, st⟩ := S
 simp only at h0 hx HTL HW1 HD0 hdi
 subst h0
 clear h61 hnv hx HS
 cases hf : isNow s.data.toList isDig (a + 1, 0) with
 | true =>
  have HD : Hid (dKey s.data.toList (a, 0) = (if (dDig s.data.toList (a + 1, 0)).2.2 = 0 then 61 :: (dDig s.data.toList (a + 1, 0)).1 else [], (dDig s.data.toList (a + 1, 0)).2)) := hid (by rw [HD0.out, hf]; rfl)
  rw [hf] at hdi
  unfold digI at hdi
  rw [Bool.and_eq_true] at hdi
  have hd1 := of_decide_eq_true hdi.1
  have hd2 := of_decide_eq_true hdi.2
  clear hf hdi HD0
  go_enter Tryz.func169, Tryz.ntmps169
  go_wp2_with fail
  refine HN0.out.mono ?_
  rintro e w2 ⟨rfl, nq, hw2⟩
  have hs2 : Same w w2 := by rw [hw2]; exact (Same.refl _).drewN _
  have HR2 := hid (HR0.out.same hs2)
  have HF2 : Hid (Fr (· = pb) w w2) := hid (Fr.of_same hs2)
  clear hs2 hw2 HN0 HR0
  have c1 := HR2.out.row.cell (i := 1) rfl
  have z1 := HR2.out.row.thaw 1
  simp only at c1
  have htl := HTL.out
  have HR3 : Hid (PAt (w2.setCell ⟨pb, 1, none⟩ (.int .i64 ((a : Int) + 1))) pb s (a + 1, 0)) := hid (PAt.on HR2.out)
  have HF3 : Hid (Fr (· = pb) w (w2.setCell ⟨pb, 1, none⟩ (.int .i64 ((a : Int) + 1)))) := hid (HF2.out.trans (z0d 1 _))
  have HN3 := hid (z1p pb s (a + 1, 0) _ hs HR3.out)
  have HNV := hid (fun W h => z1p pb s (a + 1, 0) W hs h)
  generalize nowI s.data.toList (a + 1, 0) = v at hd1 hd2 HN3 HNV
  go_wp2_with fail
  generalize w2.setCell ⟨pb, 1, none⟩ (.int .i64 ((a : Int) + 1)) = w3 at *
  refine HN3.out.mono ?_
  rintro e w4 ⟨rfl, nq4, hw4⟩
  have hs4 : Same w3 w4 := by rw [hw4]; exact (Same.refl _).drewN _
  have HR4 := hid (HR3.out.same hs4)
  have HF4 := hid (HF3.out.trans (Fr.of_same hs4))
  clear hs4 hw4 HN3 HR3 HF3 HR2 HF2 c1 z1
  have hv48 : ¬ v < 48 := by omega
  have hv57 : ¬ 57 < v := by omega
  have hv48d : decide (v < 48) = false := decide_eq_false hv48
  have hv57d : decide (57 < v) = false := decide_eq_false hv57
  have HN4 := hid (HNV.out w4 HR4.out)
  go_wp2_with fail
  refine HN4.out.mono ?_
  rintro e w5 ⟨rfl, nq5, hw5⟩
  have hs5 : Same w4 w5 := by rw [hw5]; exact (Same.refl _).drewN _
  have HR5 := hid (HR4.out.same hs5)
  have HF5 := hid (HF4.out.trans (Fr.of_same hs5))
  clear hs5 hw5 HN4 HR4 HF4 HNV
  go_wp2
  clear hd1 hd2 hv48 hv57 hv48d hv57d
  go_loopw [3] (fun sv wr => ∃ (acc : List UInt8) (f k : Nat), sv = .string (ba (61 :: acc)) /\ acc.length + f = 33 /\ acc.length <= 7 /\ Hid (acc = [] ∨ numB acc = true) /\ Hid (PAt wr pb s (k, 0)) /\ Hid (Fr (· = pb) w wr) /\ Hid (Wf s.data.toList (k, 0)) /\ Hid (dDig s.data.toList (a + 1, 0) = runL s.data.toList isDig numB f acc (k, 0))) (fun sv _ => match sv with | .string x => 33 - x.size | _ => 0)
  case atStart => exact ⟨[], 33, a + 1, rfl, rfl, by simp, hid (.inl rfl), HR5, HF5, HW1, hid rfl⟩
  case round =>
   obtain ⟨acc, f, k, rfl, hfu, hal, HAC, HRK, HFK, HWK, HQ⟩ := hrel
   clear HR5 HF5
   have HNK := hid (fun W h => z1p pb s (k, 0) W hs h)
   have hdk := zew s.data.toList (k, 0)
   cases hg : isNow s.data.toList isDig (k, 0) with
   | false =>
    have HE : Hid (dKey s.data.toList (a, 0) = (61 :: acc, (k, 0))) := hid (by rw [HD.out, HQ.out, zci hg]; rfl)
    rw [hg] at hdk
    generalize nowI s.data.toList (k, 0) = v at *
    unfold digI at hdk
    obtain ⟨x, HX⟩ : ∃ x, Hid (x = ba (61 :: acc)) := ⟨_, hid rfl⟩
    rw [<- HX.out]
    have HN6 := hid (HNK.out wr HRK.out)
    by_cases q1 : 48 <= v
    ·have q2 : ¬ v <= 57 := fun e => by rw [decide_eq_true q1, decide_eq_true e] at hdk; cases hdk
     have q1d : decide (48 <= v) = true := decide_eq_true q1
     have q2d : decide (v <= 57) = false := decide_eq_false q2
     clear hg hdk
     go_wp2_with fail
     refine HN6.out.mono ?_
     rintro e w7 ⟨rfl, nq7, hw7⟩
     have hs7 : Same wr w7 := by rw [hw7]; exact (Same.refl _).drewN _
     have HR7 := hid (HRK.out.same hs7)
     have HF7 := hid (HFK.out.trans (Fr.of_same hs7))
     have HN7 := hid (HNK.out w7 HR7.out)
     clear hs7 hw7 HN6 HNK
     go_wp2_with fail
     refine HN7.out.mono ?_
     rintro e w8 ⟨rfl, nq8, hw8⟩
     have hs8 : Same w7 w8 := by rw [hw8]; exact (Same.refl _).drewN _
     have HR8 := hid (HR7.out.same hs8)
     have HF8 := hid (HF7.out.trans (Fr.of_same hs8))
     clear hs8 hw8 HN7
     go_wp2
     go_ret
     exact ⟨by rw [HE.out, HX.out]; rfl, by rw [HE.out]; exact HR8.out, HF8.out⟩
    ·have q1d : decide (48 <= v) = false := decide_eq_false q1
     clear hg hdk
     go_wp2_with fail
     refine HN6.out.mono ?_
     rintro e w7 ⟨rfl, nq7, hw7⟩
     have hs7 : Same wr w7 := by rw [hw7]; exact (Same.refl _).drewN _
     have HR7 := hid (HRK.out.same hs7)
     have HF7 := hid (HFK.out.trans (Fr.of_same hs7))
     clear hs7 hw7 HN6 HNK
     go_wp2
     go_ret
     exact ⟨by rw [HE.out, HX.out]; rfl, by rw [HE.out]; exact HR7.out, HF7.out⟩
   | true =>
    obtain ⟨c, hc, hcd⟩ : ∃ c, nowF s.data.toList (k, 0) = some c /\ isDig c = true := by
     unfold isNow at hg
     cases hx : nowF s.data.toList (k, 0) with
     | none => rw [hx] at hg; cases hg
     | some c => rw [hx] at hg; exact ⟨c, rfl, hg⟩
    obtain ⟨f', rfl⟩ : ∃ f', f = f' + 1 := ⟨f - 1, by omega⟩
    have hnv : nowI s.data.toList (k, 0) = c.toNat := z0f hc
    rw [hnv] at HNK
    have hcd2 := z29.1 hcd
    have HTK := hid (z0l (z0b hc).2)
    rw [z05] at HTK
    have HWN := hid (z0t hc)
    have q1 : (48 : Int) <= c.toNat := by omega
    have q2 : (c.toNat : Int) <= 57 := by omega
    have q1d : decide ((48 : Int) <= c.toNat) = true := decide_eq_true q1
    have q2d : decide ((c.toNat : Int) <= 57) = true := decide_eq_true q2
    have hu8 := u8_in c
    have hc8 := c.toNat_lt
    have HXC : Hid (ba (61 :: acc) ++ ⟨#[c]⟩ = ba (61 :: (acc ++ [c]))) := hid (by rw [show (⟨#[c]⟩ : BA) = ba [c] from rfl, ba_cat]; rfl)
    have HXS : Hid ((ba (61 :: acc)).size = acc.length + 1) := hid (by rw [z4x]; rfl)
    have HKY : Hid (∀ W, Calls Tryz.prog 203 #[.bool true, .string (ba (61 :: acc) ++ ⟨#[c]⟩)] W fun e w' => e = .returned (.bool (numB (acc ++ [c]))) /\ w' = W) := hid (fun W => by
     rw [HXC.out]
     have := zdu (ba (61 :: (acc ++ [c]))) W (by rw [z4x]; simp only [List.length_cons, List.length_append, List.length_nil]; omega)
     rw [ba_list2, pkey_num] at this
     exact this)
    have hxs := HXS.out
    have HN6 := hid (HNK.out wr HRK.out)
    obtain ⟨x, HX⟩ : ∃ x, Hid (x = ba (61 :: acc)) := ⟨_, hid rfl⟩
    rw [<- HX.out] at HXC hxs HKY ⊢
    have hxs2 : x.size <= 100 := by omega
    have hxs3 : (x.size : Int) + 1 <= 1000 := by omega
    clear HXS
    cases hnb : numB (acc ++ [c]) with
    | true =>
     have HE := hid (HQ.out.trans (zch hc hcd hnb))
     have HAC2 : Hid (acc ++ [c] = [] ∨ numB (acc ++ [c]) = true) := hid (.inr hnb)
     have hl7 := num_len hnb
     rw [hnb] at HKY
     clear hg hdk hc hcd hnv hnb HQ
     go_wp2_with fail
     refine HN6.out.mono ?_
     rintro e w7 ⟨rfl, nq7, hw7⟩
     have hs7 : Same wr w7 := by rw [hw7]; exact (Same.refl _).drewN _
     have HR7 := hid (HRK.out.same hs7)
     have HF7 := hid (HFK.out.trans (Fr.of_same hs7))
     have HN7 := hid (HNK.out w7 HR7.out)
     clear hs7 hw7 HN6 HRK HFK
     go_wp2_with fail
     refine HN7.out.mono ?_
     rintro e w8 ⟨rfl, nq8, hw8⟩
     have hs8 : Same w7 w8 := by rw [hw8]; exact (Same.refl _).drewN _
     have HR8 := hid (HR7.out.same hs8)
     have HF8 := hid (HF7.out.trans (Fr.of_same hs8))
     have HN8 := hid (HNK.out w8 HR8.out)
     clear hs8 hw8 HN7 HR7 HF7
     go_wp2_with fail
     refine HN8.out.mono ?_
     rintro e w9 ⟨rfl, nq9, hw9⟩
     have hs9 : Same w8 w9 := by rw [hw9]; exact (Same.refl _).drewN _
     have HR9 := hid (HR8.out.same hs9)
     have HF9 := hid (HF8.out.trans (Fr.of_same hs9))
     clear hs9 hw9 HN8 HR8 HF8
     have HBK := hid (z6k w9 c)
     have HRA : Hid (PAt (w9.alloc (.cells #[.int .u8 c.toNat] 5)) pb s (k, 0)) := hid (HR9.out.alloc _)
     have HFA : Hid (Fr (· = pb) w (w9.alloc (.cells #[.int .u8 c.toNat] 5))) := hid (HF9.out.alloc _)
     have HKA := hid (HKY.out (w9.alloc (.cells #[.int .u8 c.toNat] 5)))
     go_wp2
     rw [HBK.out]
     simp only [Result.andThen]
     rw [Oper.upon_value]
     generalize w9.alloc (.cells #[.int .u8 c.toNat] 5) = wa at *
     go_wp2_with fail
     refine HKA.out.mono ?_
     rintro e wb ⟨rfl, rfl⟩
     clear HBK HKA HKY HR9 HF9
     have c1 := HRA.out.row.cell (i := 1) rfl
     have z1 := HRA.out.row.thaw 1
     simp only at c1
     have htk := HTK.out
     have HRB : Hid (PAt (wb.setCell ⟨pb, 1, none⟩ (.int .i64 ((k : Int) + 1))) pb s (k + 1, 0)) := hid (PAt.on (S := (k, 0)) HRA.out)
     have HFB : Hid (Fr (· = pb) w (wb.setCell ⟨pb, 1, none⟩ (.int .i64 ((k : Int) + 1)))) := hid (HFA.out.trans (z0d 1 _))
     go_wp2
     go_roundw
     case rel => exact ⟨acc ++ [c], f', k + 1, by rw [HXC.out], by rw [List.length_append]; simp only [List.length_cons, List.length_nil]; omega, hl7, HAC2, HRB, HFB, HWN, HE⟩
     case measure =>
      have hh : (x ++ ⟨#[c]⟩ : BA).size = x.size + 1 := ByteArray.size_append
      simp only [hh]; omega
    | false =>
     have HE : Hid (dKey s.data.toList (a, 0) = ([], failF s.data.toList (k, 0))) := hid (by
      rw [HD.out, HQ.out, zcj hc hcd hnb]; simp only; rw [if_neg (z0q _ _)])
     rw [hnb] at HKY
     clear hg hdk hc hcd hnv hnb HQ HD
     go_wp2_with fail
     refine HN6.out.mono ?_
     rintro e w7 ⟨rfl, nq7, hw7⟩
     have hs7 : Same wr w7 := by rw [hw7]; exact (Same.refl _).drewN _
     have HR7 := hid (HRK.out.same hs7)
     have HF7 := hid (HFK.out.trans (Fr.of_same hs7))
     have HN7 := hid (HNK.out w7 HR7.out)
     clear hs7 hw7 HN6 HRK HFK
     go_wp2_with fail
     refine HN7.out.mono ?_
     rintro e w8 ⟨rfl, nq8, hw8⟩
     have hs8 : Same w7 w8 := by rw [hw8]; exact (Same.refl _).drewN _
     have HR8 := hid (HR7.out.same hs8)
     have HF8 := hid (HF7.out.trans (Fr.of_same hs8))
     have HN8 := hid (HNK.out w8 HR8.out)
     clear hs8 hw8 HN7 HR7 HF7
     go_wp2_with fail
     refine HN8.out.mono ?_
     rintro e w9 ⟨rfl, nq9, hw9⟩
     have hs9 : Same w8 w9 := by rw [hw9]; exact (Same.refl _).drewN _
     have HR9 := hid (HR8.out.same hs9)
     have HF9 := hid (HF8.out.trans (Fr.of_same hs9))
     clear hs9 hw9 HN8 HR8 HF8
     have HBK := hid (z6k w9 c)
     have HRA : Hid (PAt (w9.alloc (.cells #[.int .u8 c.toNat] 5)) pb s (k, 0)) := hid (HR9.out.alloc _)
     have HFA : Hid (Fr (· = pb) w (w9.alloc (.cells #[.int .u8 c.toNat] 5))) := hid (HF9.out.alloc _)
     have HKA := hid (HKY.out (w9.alloc (.cells #[.int .u8 c.toNat] 5)))
     have HWR := hid (z16 pb s (k, 0) _ hs HWK.out HRA.out)
     go_wp2
     rw [HBK.out]
     simp only [Result.andThen]
     rw [Oper.upon_value]
     generalize w9.alloc (.cells #[.int .u8 c.toNat] 5) = wa at *
     go_wp2_with fail
     refine HKA.out.mono ?_
     rintro e wb ⟨rfl, rfl⟩
     clear HBK HKA HKY HR9 HF9
     go_wp2_with fail
     refine HWR.out.mono ?_
     rintro e wc ⟨rfl, hrc, hfc⟩
     have HRC := hid hrc
     have HFC := hid (HFA.out.trans hfc)
     clear hrc hfc HWR
     go_wp2
     go_ret
     exact ⟨by rw [HE.out]; rfl, by rw [HE.out]; exact HRC.out, HFC.out⟩
 | false =>
  have HD : Hid (dKey s.data.toList (a, 0) = ([61], failF s.data.toList (a + 1, 0))) := hid (by rw [HD0.out, hf]; rfl)
  rw [hf] at hdi
  clear hf HD0
  have HNV := hid (fun W h => z1p pb s (a + 1, 0) W hs h)
  obtain ⟨F, HFS⟩ : ∃ F, Hid (F = failF s.data.toList (a + 1, 0)) := ⟨_, hid rfl⟩
  have HFW : Hid (∀ W, PAt W pb s (a + 1, 0) -> Calls Tryz.prog 126 #[.pointer (some ⟨pb, 0, none⟩)] W fun e w' => e = .returned (.tuple #[]) /\ PAt w' pb s F /\ Fr (· = pb) W w') := hid (fun W h => by rw [HFS.out]; exact z16 pb s (a + 1, 0) W hs HW1.out h)
  have HNF : Hid (∀ W, PAt W pb s F -> Calls Tryz.prog 125 #[.pointer (some ⟨pb, 0, none⟩)] W fun e w' => e = .returned (.int .i64 (-1)) /\ ∃ n, w' = W.drewN n) := hid (fun W h => by
   have := z1p pb s F W hs h
   rw [z1q (z12 (by rw [HFS.out]; exact z0q _ _))] at this; exact this)
  rw [<- HFS.out] at HD
  generalize nowI s.data.toList (a + 1, 0) = v at *
  unfold digI at hdi
  have hcase : v < 48 ∨ (48 <= v /\ 57 < v) := by
   by_cases q1 : 48 <= v
   ·right; refine ⟨q1, ?_⟩
    by_cases q2 : v <= 57
    ·rw [decide_eq_true q1, decide_eq_true q2] at hdi; cases hdi
    ·omega
   ·left; omega
  clear hdi
  rcases hcase with q1 | ⟨q1, q2⟩
  ·have q1d : decide (v < 48) = true := decide_eq_true q1
   go_enter Tryz.func169, Tryz.ntmps169
   go_wp2_with fail
   refine HN0.out.mono ?_
   rintro e w2 ⟨rfl, nq, hw2⟩
   have hs2 : Same w w2 := by rw [hw2]; exact (Same.refl _).drewN _
   have HR2 := hid (HR0.out.same hs2)
   have HF2 : Hid (Fr (· = pb) w w2) := hid (Fr.of_same hs2)
   clear hs2 hw2 HN0 HR0
   have c1 := HR2.out.row.cell (i := 1) rfl
   have z1 := HR2.out.row.thaw 1
   simp only at c1
   have htl := HTL.out
   have HR3 : Hid (PAt (w2.setCell ⟨pb, 1, none⟩ (.int .i64 ((a : Int) + 1))) pb s (a + 1, 0)) := hid (PAt.on HR2.out)
   have HF3 : Hid (Fr (· = pb) w (w2.setCell ⟨pb, 1, none⟩ (.int .i64 ((a : Int) + 1)))) := hid (HF2.out.trans (z0d 1 _))
   have HN3 := hid (HNV.out _ HR3.out)
   go_wp2_with fail
   generalize w2.setCell ⟨pb, 1, none⟩ (.int .i64 ((a : Int) + 1)) = w3 at *
   refine HN3.out.mono ?_
   rintro e w4 ⟨rfl, nq4, hw4⟩
   have hs4 : Same w3 w4 := by rw [hw4]; exact (Same.refl _).drewN _
   have HR4 := hid (HR3.out.same hs4)
   have HF4 := hid (HF3.out.trans (Fr.of_same hs4))
   clear hs4 hw4 HN3 HR3 HF3 HR2 HF2 c1 z1
   have HR5 := HR4
   have HF5 := HF4
   have HWR := hid (HFW.out w4 HR5.out)
   go_wp2_with fail
   refine HWR.out.mono ?_
   rintro e w6 ⟨rfl, hr6, hf6⟩
   have HR6 := hid hr6
   have HF6 := hid (HF5.out.trans hf6)
   clear hr6 hf6 HWR
   go_wp2
   go_loopw [3] (fun sv wr => sv = .string ⟨#[61]⟩ /\ Hid (PAt wr pb s F) /\ Hid (Fr (· = pb) w wr)) (fun _ _ => 0)
   case atStart => exact ⟨rfl, HR6, HF6⟩
   case round =>
    obtain ⟨rfl, HRK, HFK⟩ := hrel
    have HN7 := hid (HNF.out wr HRK.out)
    go_wp2_with fail
    refine HN7.out.mono ?_
    rintro e w7 ⟨rfl, nq7, hw7⟩
    have hs7 : Same wr w7 := by rw [hw7]; exact (Same.refl _).drewN _
    have HR7 := hid (HRK.out.same hs7)
    have HF7 := hid (HFK.out.trans (Fr.of_same hs7))
    clear hs7 hw7 HN7
    go_wp2
    go_ret
    exact ⟨by rw [HD.out]; rfl, by rw [HD.out]; exact HR7.out, HF7.out⟩
  ·have q1n : ¬ v < 48 := by omega
   have q1d : decide (v < 48) = false := decide_eq_false q1n
   have q2d : decide (57 < v) = true := decide_eq_true q2
   go_enter Tryz.func169, Tryz.ntmps169
   go_wp2_with fail
   refine HN0.out.mono ?_
   rintro e w2 ⟨rfl, nq, hw2⟩
   have hs2 : Same w w2 := by rw [hw2]; exact (Same.refl _).drewN _
   have HR2 := hid (HR0.out.same hs2)
   have HF2 : Hid (Fr (· = pb) w w2) := hid (Fr.of_same hs2)
   clear hs2 hw2 HN0 HR0
   have c1 := HR2.out.row.cell (i := 1) rfl
   have z1 := HR2.out.row.thaw 1
   simp only at c1
   have htl := HTL.out
   have HR3 : Hid (PAt (w2.setCell ⟨pb, 1, none⟩ (.int .i64 ((a : Int) + 1))) pb s (a + 1, 0)) := hid (PAt.on HR2.out)
   have HF3 : Hid (Fr (· = pb) w (w2.setCell ⟨pb, 1, none⟩ (.int .i64 ((a : Int) + 1)))) := hid (HF2.out.trans (z0d 1 _))
   have HN3 := hid (HNV.out _ HR3.out)
   go_wp2_with fail
   generalize w2.setCell ⟨pb, 1, none⟩ (.int .i64 ((a : Int) + 1)) = w3 at *
   refine HN3.out.mono ?_
   rintro e w4 ⟨rfl, nq4, hw4⟩
   have hs4 : Same w3 w4 := by rw [hw4]; exact (Same.refl _).drewN _
   have HR4 := hid (HR3.out.same hs4)
   have HF4 := hid (HF3.out.trans (Fr.of_same hs4))
   clear hs4 hw4 HN3 HR3 HF3 HR2 HF2 c1 z1
   have HN5 := hid (HNV.out w4 HR4.out)
   go_wp2_with fail
   refine HN5.out.mono ?_
   rintro e w5 ⟨rfl, nq5, hw5⟩
   have hs5 : Same w4 w5 := by rw [hw5]; exact (Same.refl _).drewN _
   have HR5 := hid (HR4.out.same hs5)
   have HF5 := hid (HF4.out.trans (Fr.of_same hs5))
   clear hs5 hw5 HN5
   have HWR := hid (HFW.out w5 HR5.out)
   go_wp2_with fail
   refine HWR.out.mono ?_
   rintro e w6 ⟨rfl, hr6, hf6⟩
   have HR6 := hid hr6
   have HF6 := hid (HF5.out.trans hf6)
   clear hr6 hf6 HWR
   go_wp2
   go_loopw [3] (fun sv wr => sv = .string ⟨#[61]⟩ /\ Hid (PAt wr pb s F) /\ Hid (Fr (· = pb) w wr)) (fun _ _ => 0)
   case atStart => exact ⟨rfl, HR6, HF6⟩
   case round =>
    obtain ⟨rfl, HRK, HFK⟩ := hrel
    have HN7 := hid (HNF.out wr HRK.out)
    go_wp2_with fail
    refine HN7.out.mono ?_
    rintro e w7 ⟨rfl, nq7, hw7⟩
    have hs7 : Same wr w7 := by rw [hw7]; exact (Same.refl _).drewN _
    have HR7 := hid (HRK.out.same hs7)
    have HF7 := hid (HFK.out.trans (Fr.of_same hs7))
    clear hs7 hw7 HN7
    go_wp2
    go_ret
    exact ⟨by rw [HD.out]; rfl, by rw [HD.out]; exact HR7.out, HF7.out⟩
end Go.Proofs.YtdnedbcmgkilaaaGreatDoor.Dr
