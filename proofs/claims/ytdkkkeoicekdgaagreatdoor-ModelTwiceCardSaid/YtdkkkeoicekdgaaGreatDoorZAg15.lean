/- strings.Builder at this program: copyCheck and WriteString. -/
import Derived.Test.YtdkkkeoicekdgaaGreatDoorChecked
import Derived.WalkKit
import Derived.Lib.Hide
import Derived.Test.YtdkkkeoicekdgaaGreatDoorZAg37
import Derived.Test.YtdkkkeoicekdgaaGreatDoorZALg

section

namespace Go.Proofs.YtdkkkeoicekdgaaGreatDoor
set_option maxHeartbeats 1000000
set_option maxRecDepth 100000
open Go.Lib (hid)
open Go.RowKit
theorem Tryz.info47 : (Tryz.prog.info? 117).map (·.size) = some 2 := by kernel_rfl
theorem Tryz.lies47 : liesAt Tryz.prog Tryz.prog.depth 117 (2 / Tryz.prog.cellsOf 117) 0 117 1 = true := by kernel_rfl
theorem Tryz.info5 : (Tryz.prog.info? 5).map (fun i => (i.zero, i.size, i.bytes)) = some (some (.int .u8 0), 1, 1) := by kernel_rfl
theorem z55 (b : Nat) (w : World) (h0 : w.cell? ⟨b, 0, none⟩ = some (.pointer (some ⟨b, 0, none⟩))) :
  Calls Tryz.prog 125 #[.pointer (some ⟨b, 0, none⟩)] w fun e w' => e = .returned (.tuple #[]) /\ w' = w := by
 obtain ⟨j, hj, _⟩ := Option.map_eq_some_iff.1 Tryz.info47
 go_enter Tryz.func125, Tryz.ntmps125
 go_wp2
 rw [Lib.run_neq_ptr_same w _ Tryz.underlying114 hj]
 go_wp2
 go_end0
 exact ⟨rfl, rfl⟩
theorem z4b (b : Nat) (w : World) (h0 : w.cell? ⟨b, 0, none⟩ = some (.pointer none)) (hsh : w.shape? b = some (117, 2)) (hfz : w.frozen? ⟨b, 0, none⟩ = false) :
  Calls Tryz.prog 125 #[.pointer (some ⟨b, 0, none⟩)] w fun e w' => e = .returned (.tuple #[]) /\ w' = w.setCell ⟨b, 0, none⟩ (.pointer (some ⟨b, 0, none⟩)) := by
 obtain ⟨j, hj, hjs⟩ := Option.map_eq_some_iff.1 Tryz.info47
 go_enter Tryz.func125, Tryz.ntmps125
 go_wp2
 rw [Lib.run_to_unsafe w ⟨b, 0, none⟩ Tryz.underlying114 Tryz.underlying202 hj (by rw [hjs]; decide) hsh (Nat.zero_lt_succ 1)]
 simp only [Result.andThen]
 rw [Oper.upon_value]
 go_wp2
 rw [run_callFunc_extern Tryz.func160 (by kernel_rfl) (by kernel_rfl) (by kernel_rfl) (e := Extern.AbiNoEscape.same) (by kernel_rfl)]
 rw [Lib.run_noEscape]
 simp only [Result.andThen]
 rw [Oper.upon_value]
 go_wp2
 rw [Lib.run_from_unsafe w ⟨b, 0, none⟩ Tryz.underlying202 Tryz.underlying114 hj hsh Tryz.lies47]
 simp only [Result.andThen]
 rw [Oper.upon_value]
 go_wp2
 go_end0
 exact ⟨rfl, rfl⟩
theorem z2v (B b : Nat) (bs : List Value) (w : World) (h : Lib.IsBuilderF 117 5 B b bs w) :
  Calls Tryz.prog 125 #[.pointer (some ⟨b, 0, none⟩)] w fun e w' => e = .returned (.tuple #[]) /\ (Lib.BuilderAtF 117 5 B b (.pointer (some ⟨b, 0, none⟩)) bs w' /\ Below B w w' /\ Lib.OthersKept 5 (some b) w w') := by
 rcases h with h | h
 ·refine (z4b b w h.cell0 h.shape h.frozen0).mono ?_
  rintro e w' ⟨rfl, rfl⟩
  exact ⟨rfl, h.used _, (Below.refl B w).setCell (p := ⟨b, 0, none⟩) h.1 _, (Lib.OthersKept.refl _ _ w).setCell ⟨b, 0, none⟩ rfl _⟩
 ·refine (z55 b w h.cell0).mono ?_
  rintro e w' ⟨rfl, rfl⟩
  exact ⟨rfl, h, Below.refl B _, Lib.OthersKept.refl _ _ _⟩
theorem z4a (B b : Nat) (bs : List Value) (s : ByteArray) (w : World) (h : Lib.IsBuilderF 117 5 B b bs w) (hlen : bs.length + s.size <= 140737488355328) (hBw : B <= w.heap.size) :
  Calls Tryz.prog 72 #[.pointer (some ⟨b, 0, none⟩), .string s] w fun e w' => e = .returned (.tuple #[.int .i64 s.size, .nilIface]) /\ (Lib.BuilderAtF 117 5 B b (.pointer (some ⟨b, 0, none⟩)) (bs ++ Lib.strCells s) w' /\ Below B w w' /\ Lib.OthersKept 5 (some b) w w') := by
 obtain ⟨i0, hi, hz0, hz1, hz2⟩ := info_parts Tryz.info5
 have HC := hid (z2v B b bs w h)
 clear h
 go_enter Tryz.func72, Tryz.ntmps72
 go_wp2_with fail
 refine HC.out.mono ?_
 rintro e w1 ⟨rfl, h1, hb1, hk1⟩
 obtain ⟨hB, v, hbk, hown, hne⟩ := h1
 have c0 : w1.cell? ⟨b, 0, none⟩ = some (.pointer (some ⟨b, 0, none⟩)) := by rw [Lib.cell_of_heap hbk]; rfl
 have c1 : w1.cell? ⟨b, 1, none⟩ = some v := by rw [Lib.cell_of_heap hbk]; rfl
 have HK := hid hbk
 have HO := hid hown
 clear hbk hown
 go_wp2_with (at_builtin; refine Lib.wpList_append_own_stringF _ rfl _ _ 115 9 rfl B 5 i0 Tryz.underlying115 Tryz.underlying9 hi hz0 hz1 hz2 _ _ _ rfl HO.out s rfl ?c3 ?c4 ?c5 ?_)
 case c3 => unfold maxLen; omega
 case c4 => omega
 case c5 => have := hb1.size; omega
 intro v' w2 hown' hgrow _
 have hbk := HK.out
 have hown := HO.out
 have hlt : b < w1.heap.size := by
  rcases Nat.lt_or_ge b w1.heap.size with h' | h'
  ·exact h'
  ·simp [Array.getElem?_eq_none h'] at hbk
 have hb2 : w2.heap[b]? = some (.cells #[.pointer (some ⟨b, 0, none⟩), v] 117 (0, 0)) := by
  rw [hgrow.block b hlt (fun e => hne e.symm)]
  exact hbk
 have d0 : w2.cell? ⟨b, 0, none⟩ = some (.pointer (some ⟨b, 0, none⟩)) := by rw [Lib.cell_of_heap hb2]; rfl
 have d1 : w2.cell? ⟨b, 1, none⟩ = some v := by rw [Lib.cell_of_heap hb2]; rfl
 have f1 : w2.frozen? ⟨b, 1, none⟩ = false := Lib.frozen_of_heap hb2 1
 obtain ⟨ao, n', cap, rfl⟩ : ∃ ao n' cap, v' = .slice ao n' cap := by
  rcases hown'.2 with ⟨hv, _⟩ | ⟨g, cap, cur, fz, hv, _⟩
  ·exact ⟨_, _, _, hv⟩
  ·exact ⟨_, _, _, hv⟩
 have HB2 := hid hb2
 have HO2 := hid hown'
 clear hb2 hown' hbk hown
 go_wp2
 go_ret2
 refine ⟨rfl, ?_, ?_, (hk1.grown hgrow (Lib.ownsRowF_kind HO.out)).setCell ⟨b, 1, none⟩ rfl _⟩
 ·exact Lib.BuilderAtF.put (T := 117) (e := 5) hB HB2.out (bs' := bs ++ Lib.strCells s) (by simpa [Lib.strCells_length] using HO2.out) (by decide)
 ·exact (hb1.grown hgrow (by have := hb1.size; omega) (fun k hk => (HO.out.lt k hk).1)).setCell (p := ⟨b, 1, none⟩) hB _
theorem z5x (B b : Nat) (bs : List Value) (c : Int) (w : World) (h : Lib.IsBuilderF 117 5 B b bs w) (hlen : bs.length + 1 <= 140737488355328) (hBw : B <= w.heap.size) :
  Calls Tryz.prog 209 #[.pointer (some ⟨b, 0, none⟩), .int .u8 c] w fun e w' => e = .returned .nilIface /\ (Lib.BuilderAtF 117 5 B b (.pointer (some ⟨b, 0, none⟩)) (bs ++ [.int .u8 c]) w' /\ Below B w w' /\ Lib.OthersKept 5 (some b) w w') := by
 obtain ⟨i0, hi, hz0, hz1, hz2⟩ := info_parts Tryz.info5
 have HC := hid (z2v B b bs w h)
 clear h
 go_enter Tryz.func209, Tryz.ntmps209
 go_wp2_with fail
 refine HC.out.mono ?_
 rintro e w1 ⟨rfl, h1, hb1, hk1⟩
 obtain ⟨hB, v, hbk, hown, hne⟩ := h1
 have c0 : w1.cell? ⟨b, 0, none⟩ = some (.pointer (some ⟨b, 0, none⟩)) := by rw [Lib.cell_of_heap hbk]; rfl
 have c1 : w1.cell? ⟨b, 1, none⟩ = some v := by rw [Lib.cell_of_heap hbk]; rfl
 have HK := hid hbk
 have HO := hid hown
 clear hbk hown
 go_wp2_with (at_builtin; refine wpList_append_ownF _ rfl _ _ 115 rfl B 5 i0 (.int .u8 0) 1 1 Tryz.underlying115 hi hz0 hz1 hz2 rfl (by decide) _ _ _ rfl (HO.out.alloc _) ⟨w1.heap.size, 0, none⟩ 1 1 [.int .u8 c] rfl rfl ?c1 ?c2 ?c3 ?c4 ?c5 ?_)
 case c1 =>
  intro j u hj
  match j, hj with
  | 0, hj => simp at hj; subst hj; simp [Addr.add]
 case c2 => intro u hu; simp at hu; subst hu; rfl
 case c3 => unfold maxLen; omega
 case c4 => omega
 case c5 => have := hb1.size; simp; omega
 intro v' w2 hown' hgrow _
 have hbk := HK.out
 have hown := HO.out
 have hlt : b < w1.heap.size := by
  rcases Nat.lt_or_ge b w1.heap.size with h' | h'
  ·exact h'
  ·simp [Array.getElem?_eq_none h'] at hbk
 have hb2 : w2.heap[b]? = some (.cells #[.pointer (some ⟨b, 0, none⟩), v] 117 (0, 0)) := by
  rw [hgrow.block b (by simp; omega) (fun e => hne e.symm), Lib.alloc_old w1 _ b hlt]
  exact hbk
 have d0 : w2.cell? ⟨b, 0, none⟩ = some (.pointer (some ⟨b, 0, none⟩)) := by rw [Lib.cell_of_heap hb2]; rfl
 have d1 : w2.cell? ⟨b, 1, none⟩ = some v := by rw [Lib.cell_of_heap hb2]; rfl
 have f1 : w2.frozen? ⟨b, 1, none⟩ = false := Lib.frozen_of_heap hb2 1
 obtain ⟨g, cap, rfl⟩ : ∃ g cap, v' = .slice (some ⟨g, 0, none⟩) (bs.length + 1) cap := by
  rcases hown'.2 with ⟨_, h0⟩ | ⟨g, cap, cur, fz, hv, _⟩
  ·omega
  ·exact ⟨g, cap, hv⟩
 have HB2 := hid hb2
 have HO2 := hid hown'
 clear hb2 hown' hbk hown
 go_wp2
 go_ret
 refine ⟨rfl, ?_, ?_, ((hk1.alloc _).grown hgrow (Lib.ownsRowF_kind (HO.out.alloc _))).setCell ⟨b, 1, none⟩ rfl _⟩
 ·exact Lib.BuilderAtF.put (T := 117) (e := 5) hB HB2.out (bs' := bs ++ [.int .u8 c]) (by simpa using HO2.out) (by decide)
 ·exact ((hb1.alloc (by have := hb1.size; omega) _).grown hgrow (by have := hb1.size; simp; omega) (fun k hk => ((HO.out.alloc (.cells #[.int .u8 c] 5)).lt k hk).1)).setCell (p := ⟨b, 1, none⟩) hB _
end Go.Proofs.YtdkkkeoicekdgaaGreatDoor

end

section

namespace Go.Proofs.YtdkkkeoicekdgaaGreatDoor
set_option maxHeartbeats 1600000
set_option maxRecDepth 100000
open Go.Lib (hid)
open Go.RowKit
theorem ba_app (a b : List UInt8) : (ba a : BA) ++ ba b = ba (a ++ b) := by
 apply ByteArray.ext
 simp [ByteArray.data_append]
theorem key_yes {l : List UInt8} {S : St} (h : nextF l [61] S = true) : keyF l S = ([61] ++ (longF l numB (wordF l [61] S)).1, (longF l numB (wordF l [61] S)).2) := by unfold keyF; rw [if_pos h]
theorem key_no {l : List UInt8} {S : St} (h : nextF l [61] S = false) : keyF l S = longF l nameB S := by unfold keyF; rw [if_neg (by rw [h]; simp)]
theorem zc7 {l : List UInt8} {p : List UInt8 -> Bool} {S : St} : (longF l p S).1.length <= l.length := by
 unfold longF
 split
 ·split
  ·simp
  ·simp only [List.length_take, List.length_drop]; omega
 ·simp
theorem key_any (rb : Nat) (s : BA) (o : Nat) (S : St) (w : World) (hs : s.size <= 2000) (hS : Wf s.data.toList S) (hR : RdAt w rb s o S) (hE : Env w rb) :
  Calls Tryz.prog 291 #[.pointer (some ⟨rb, 0, none⟩)] w fun e w' => e = .returned (.string (ba (keyF s.data.toList S).1)) /\ RdAt w' rb s o (keyF s.data.toList S).2 /\ Fr (· = rb) w w' := by
 have HC := hid (z1j rb s ⟨#[61]⟩ o S w hs hS (by decide) hR)
 have HR := hid hR
 have HE := hid hE
 clear hR hE
 cases hb : nextF s.data.toList [61] S with
 | true =>
  have HK := hid (key_yes hb)
  try rw [show ((⟨#[61]⟩ : BA).data.toList) = [61] from rfl, hb] at HC
  clear hb
  go_enter Tryz.func291, Tryz.ntmps291
  go_wp2_with fail
  refine HC.out.mono ?_
  rintro e w2 ⟨rfl, hw2⟩
  have HE2 := hid (HE.out.same hw2)
  have HF2 : Hid (Fr (· = rb) w w2) := hid (Fr.of_same hw2)
  have HWD := hid (z0n rb s ⟨#[61]⟩ o S w2 hs (by decide) hS (HR.out.same hw2))
  clear hw2 HC HR HE
  go_wp2_with fail
  refine HWD.out.mono ?_
  rintro e w3 ⟨rfl, hr3, hf3⟩
  have HS3 := z1o (z08 s.data.toList [61] S) hS
  have HE3 := hid (HE2.out.fr hf3)
  have HF3 := hid (HF2.out.trans hf3)
  have HL := hid (z8j rb s o _ w3 hs HS3 hr3 HE3.out)
  clear hr3 hf3 HWD
  try rw [show ((⟨#[61]⟩ : BA).data.toList) = [61] from rfl] at HL
  have hsz : (ba (longF s.data.toList numB (wordF s.data.toList [61] S)).1).size <= 2000 := by
   show (longF s.data.toList numB (wordF s.data.toList [61] S)).1.toArray.size <= 2000
   rw [List.size_toArray]
   have := zc7 (l := s.data.toList) (p := numB) (S := wordF s.data.toList [61] S)
   rw [z05] at this; omega
  go_wp2_with fail
  refine HL.out.mono ?_
  rintro e w4 ⟨rfl, hr4, hf4⟩
  have HR4 := hid hr4
  have HF4 := hid (HF3.out.trans hf4)
  clear hr4 hf4 HL
  have HA := hid (ba_app [61] (longF s.data.toList numB (wordF s.data.toList [61] S)).1)
  generalize (longF s.data.toList numB (wordF s.data.toList [61] S)) = q at *
  obtain ⟨q1, q2⟩ := q
  simp only at HR4 HA hsz HK ⊢
  generalize ba q1 = Q at *
  go_wp2
  go_ret
  exact ⟨by rw [HK.out]; simp only; rw [<- HA.out]; rfl, by rw [HK.out]; exact HR4.out, HF4.out⟩
 | false =>
  have HK := hid (key_no hb)
  try rw [show ((⟨#[61]⟩ : BA).data.toList) = [61] from rfl, hb] at HC
  clear hb
  go_enter Tryz.func291, Tryz.ntmps291
  go_wp2_with fail
  refine HC.out.mono ?_
  rintro e w2 ⟨rfl, hw2⟩
  have HF2 : Hid (Fr (· = rb) w w2) := hid (Fr.of_same hw2)
  have HL := hid (z44 rb s o S w2 hs hS (HR.out.same hw2) (HE.out.same hw2))
  clear hw2 HC HR HE
  go_wp2_with fail
  refine HL.out.mono ?_
  rintro e w4 ⟨rfl, hr4, hf4⟩
  have HR4 := hid hr4
  have HF4 := hid (HF2.out.trans hf4)
  clear hr4 hf4 HL
  go_wp2
  go_ret
  rw [HK.out]
  exact ⟨rfl, HR4.out, HF4.out⟩
theorem quot_yes {l : List UInt8} {S : St} (h : (oneF l [39, 123, 125, 35] (wordF l [39] S)).1 = [39]) : quotF l S = oneF l [39, 123, 125, 35] (wordF l [39] S) := by unfold quotF; rw [if_pos h]
theorem quot_no {l : List UInt8} {S : St} (h : (oneF l [39, 123, 125, 35] (wordF l [39] S)).1 ≠ [39]) : quotF l S = ((oneF l [39, 123, 125, 35] (wordF l [39] S)).1, wordF l [39] (oneF l [39, 123, 125, 35] (wordF l [39] S)).2) := by unfold quotF; rw [if_neg h]
theorem ba_ne39 {q : List UInt8} (h : q ≠ [39]) : ((ba q).toList == [39]) = false := by
 rw [beq_eq_false_iff_ne, ByteArray.toList_eq]; exact h
theorem zah (rb : Nat) (s : BA) (o : Nat) (S : St) (w : World) (hs : s.size <= 2000) (hS : Wf s.data.toList S) (hR : RdAt w rb s o S) :
  Calls Tryz.prog 271 #[.pointer (some ⟨rb, 0, none⟩)] w fun e w' => e = .returned (.string (ba (quotF s.data.toList S).1)) /\ RdAt w' rb s o (quotF s.data.toList S).2 /\ Fr (· = rb) w w' := by
 have HC := hid (z0n rb s ⟨#[39]⟩ o S w hs (by decide) hS hR)
 have HS1 := hid (z1o (z08 s.data.toList [39] S) hS)
 have HY := hid (quot_yes (l := s.data.toList) (S := S))
 have HNO := hid (quot_no (l := s.data.toList) (S := S))
 clear hR
 go_enter Tryz.func271, Tryz.ntmps271
 go_wp2_with fail
 refine HC.out.mono ?_
 rintro e w1 ⟨rfl, hr1, hf1⟩
 try rw [show ((⟨#[39]⟩ : BA).data.toList) = [39] from rfl] at hr1
 have HF1 := hid hf1
 have HO := hid (z69 rb s ⟨#[39, 123, 125, 35]⟩ o _ w1 hs HS1.out hr1)
 try rw [show ((⟨#[39, 123, 125, 35]⟩ : BA).data.toList) = [39, 123, 125, 35] from rfl] at HO
 have HS2 := hid (z1o (z0v s.data.toList [39, 123, 125, 35] _) HS1.out)
 clear hr1 hf1 HC
 generalize oneF s.data.toList [39, 123, 125, 35] (wordF s.data.toList [39] S) = q at *
 obtain ⟨q1, q2⟩ := q
 simp only at HO HS2 HY HNO
 go_wp2_with fail
 refine HO.out.mono ?_
 rintro e w2 ⟨rfl, hr2, hf2⟩
 have HR2 := hid hr2
 have HF2 := hid (HF1.out.trans hf2)
 clear hr2 hf2 HO
 by_cases hq : q1 = [39]
 ·have HE := hid (HY.out hq)
  subst hq
  clear HY HNO
  go_wp2
  go_ret
  rw [HE.out]
  exact ⟨rfl, HR2.out, HF2.out⟩
 ·have HE := hid (HNO.out hq)
  have hB := ba_ne39 hq
  have HWD := hid (z0n rb s ⟨#[39]⟩ o _ w2 hs (by decide) HS2.out HR2.out)
  try rw [show ((⟨#[39]⟩ : BA).data.toList) = [39] from rfl] at HWD
  clear hq HY HNO
  obtain ⟨Q, HQ⟩ : ∃ Q, Hid (ba q1 = Q) := ⟨_, hid rfl⟩
  rw [HQ.out] at hB ⊢
  go_wp2_with fail
  refine HWD.out.mono ?_
  rintro e w3 ⟨rfl, hr3, hf3⟩
  have HR3 := hid hr3
  have HF3 := hid (HF2.out.trans hf3)
  clear hr3 hf3
  go_wp2
  go_ret
  rw [HE.out]
  exact ⟨by simp only; rw [HQ.out]; rfl, HR3.out, HF3.out⟩
end Go.Proofs.YtdkkkeoicekdgaaGreatDoor

end

section

namespace Go.Proofs.YtdkkkeoicekdgaaGreatDoor
set_option maxHeartbeats 3200000
set_option maxRecDepth 100000
open Go.Lib (hid)
open Go.RowKit
abbrev Bd (B b : Nat) (acc : List UInt8) (w : World) : Prop := Lib.IsBuilderF 117 5 B b (Lib.byteCells acc) w
theorem z01 {w : World} {k : Nat} {o : Obj} (h : w.heap[k]? = some o) : k < w.heap.size := (Array.getElem?_eq_some_iff.1 h).1
theorem Bd.keep {B b : Nat} {acc : List UInt8} {w w' : World} (hh : Bd B b acc w) (hb : ∀ k, B <= k -> k < w.heap.size -> w'.heap[k]? = w.heap[k]?) : Bd B b acc w' := by
 have hk : ∀ {p : Value}, Lib.BuilderAtF 117 5 B b p (Lib.byteCells acc) w -> Lib.BuilderAtF 117 5 B b p (Lib.byteCells acc) w' := fun h => by
  obtain ⟨hB, v, hbk, hown, hne⟩ := h
  refine ⟨hB, v, (hb b hB (z01 hbk)).trans hbk, ⟨hown.1, ?_⟩, hne⟩
  rcases hown.2 with h0 | ⟨g, cap, cur, fz, hv, h1, h2, hr⟩
  ·exact .inl h0
  ·exact .inr ⟨g, cap, cur, fz, hv, h1, (hb g h1 (z01 h2)).trans h2, hr⟩
 exact hh.imp hk hk
theorem Bd.fr {B b rb : Nat} {acc : List UInt8} {w w' : World} (hh : Bd B b acc w) (hf : Fr (· = rb) w w') (hrb : rb < B) : Bd B b acc w' := hh.keep (fun k hk hlt => hf.block k hlt (by omega))
theorem Fr.then_below {X : Nat -> Prop} {w w1 w2 : World} (h : Fr X w w1) (hb : Below w.heap.size w1 w2) : Fr X w w2 :=
 ⟨hb.os.trans h.os, hb.tape.trans h.tape, hb.output.trans h.output, Nat.le_trans h.size hb.size, fun k hk hx => (hb.block k hk).trans (h.block k hk hx)⟩
theorem z3l (a b : List UInt8) : Lib.byteCells (a ++ b) = Lib.byteCells a ++ Lib.byteCells b := by unfold Lib.byteCells; simp
theorem z3k (a : List UInt8) : (Lib.byteCells a).length = a.length := by unfold Lib.byteCells; simp
theorem z87 (q : List UInt8) : Lib.strCells (ba q) = Lib.byteCells q := rfl
theorem zb7 {l : List UInt8} {f : Nat} {acc : List UInt8} {T : St} (h : T.2 = 0 -> l[T.1]? = none) : textL l f acc T = (acc, T) := by
 cases f with
 | zero => rw [textL]
 | succ f =>
  rw [textL]
  split
  ·rename_i h0; rw [h h0]
  ·rfl
theorem text_end {l : List UInt8} {f : Nat} {acc : List UInt8} {T : St} {c : UInt8} (hx : l[T.1]? = some c) (hc : c = 123 ∨ c = 125 ∨ c = 35) : textL l f acc T = (acc, T) := by
 cases f with
 | zero => rw [textL]
 | succ f =>
  rw [textL]
  split
  ·rw [hx]; simp only; rw [if_pos hc]
  ·rfl
theorem zb8 {l : List UInt8} {f : Nat} {acc : List UInt8} {T : St} (h0 : T.2 = 0) (hx : l[T.1]? = some 39) : textL l (f + 1) acc T = textL l f (acc ++ (quotF l T).1) (quotF l T).2 := by
 rw [textL, if_pos h0, hx]; simp only; rw [if_neg (by decide), if_pos trivial]
theorem zb9 {l : List UInt8} {f : Nat} {acc : List UInt8} {T : St} {c : UInt8} (h0 : T.2 = 0) (hx : l[T.1]? = some c) (hc : ¬ (c = 123 ∨ c = 125 ∨ c = 35)) (hq : c ≠ 39) : textL l (f + 1) acc T = textL l f (acc ++ [c]) (T.1 + 1, 0) := by
 rw [textL, if_pos h0, hx]; simp only; rw [if_neg hc, if_neg hq]
theorem quot_len (l : List UInt8) (S : St) : (quotF l S).1.length + S.1 <= (quotF l S).2.1 := by
 have h1 := (z08 l [39] S).1
 have h2 := (z08 l [39] (oneF l [39, 123, 125, 35] (wordF l [39] S)).2).1
 have h3 : (oneF l [39, 123, 125, 35] (wordF l [39] S)).1.length + S.1 <= (oneF l [39, 123, 125, 35] (wordF l [39] S)).2.1 := by
  rcases z3f l [39, 123, 125, 35] (wordF l [39] S) with z | ⟨d, z0, z1, z2, z3⟩
  ·rw [z.2.1, z.2.2]; simp; exact h1
  ·rw [z3]; simp; omega
 unfold quotF
 split
 ·exact h3
 ·simp only; omega
theorem z3b {s : BA} {S : St} : (restF s S).size = if S.2 = 0 then s.size - S.1 else 0 := by
 by_cases h0 : S.2 = 0
 ·rw [if_pos h0, <- z05, z24 h0]; simp
 ·rw [if_neg h0, z19 h0]; rfl
theorem u8_ne {c d : UInt8} (h : c ≠ d) : ((c.toNat : Int) == (d.toNat : Int)) = false := by
 rw [beq_eq_false_iff_ne]; intro e; exact h (UInt8.toNat_inj.1 (by omega))
theorem text_any (rb : Nat) (s : BA) (o : Nat) (S : St) (w : World) (hs : s.size <= 2000) (hS : Wf s.data.toList S) (hR : RdAt w rb s o S) :
  Calls Tryz.prog 248 #[.pointer (some ⟨rb, 0, none⟩)] w fun e w' => e = .returned (.string (ba (textL s.data.toList s.data.toList.length [] S).1)) /\ RdAt w' rb s o (textL s.data.toList s.data.toList.length [] S).2 /\ Fr (· = rb) w w' := by
 have hlr := hR.lt
 have HR0 : Hid (RdAt (w.alloc (.cells #[.pointer none, .slice none 0 0] 117)) rb s o S) := hid (hR.alloc _)
 have HB0 : Hid (Bd w.heap.size w.heap.size [] (w.alloc (.cells #[.pointer none, .slice none 0 0] 117))) := hid (Lib.IsBuilderF.of (Lib.fresh_isBuilder 117 5 w))
 have HF0 : Hid (Fr (· = rb) w (w.alloc (.cells #[.pointer none, .slice none 0 0] 117))) := hid ((Fr.refl _ _).alloc _)
 have HC := hid (z1r rb s o S _ hs hS HR0.out)
 have HS := hid hS
 clear hR hS
 go_enter Tryz.func248, Tryz.ntmps248
 go_wp2_with fail
 generalize w.alloc (.cells #[.pointer none, .slice none 0 0] 117) = w1 at *
 refine HC.out.mono ?_
 rintro e w2 ⟨rfl, hw2⟩
 have HR2 := hid (HR0.out.same hw2)
 have HB2 : Hid (Bd w.heap.size w.heap.size [] w2) := hid (HB0.out.keep (fun k _ _ => by rw [hw2.heap]))
 have HF2 := hid (HF0.out.trans (Fr.of_same hw2))
 clear hw2 HC HR0 HB0 HF0
 go_wp2
 go_loopw [4] (fun v wr => ∃ (T : St) (acc : List UInt8) (f : Nat), v = .string (restF s T) /\ Hid (Wf s.data.toList T) /\ Hid (RdAt wr rb s o T) /\ Hid (Bd w.heap.size w.heap.size acc wr) /\ Hid (Fr (· = rb) w wr) /\ Hid (acc.length <= T.1) /\ Hid (textL s.data.toList s.data.toList.length [] S = textL s.data.toList f acc T) /\ Hid (T.2 = 0 -> s.size - T.1 <= f)) (fun v _ => match v with | .string R => R.size | _ => 0)
 case atStart => exact ⟨S, [], _, rfl, HS, HR2, HB2, HF2, hid (Nat.zero_le _), hid rfl, hid (fun _ => by rw [z05]; omega)⟩
 case round =>
  obtain ⟨T, acc, f, rfl, HT, HRT, HBT, HFT, HAL, HW, HFU⟩ := hrel
  clear HR2 HB2 HF2 HS
  have hle := z3p HT.out
  have hBs : w.heap.size <= wr.heap.size := HFT.out.size
  have hal := HAL.out
  by_cases hx : ∃ c, T.2 = 0 /\ s.data.toList[T.1]? = some c
  ·obtain ⟨c, h0, hx⟩ := hx
   obtain ⟨r, hr1, hr2, -⟩ := z7a h0 hx
   have hsz := z71 c r
   have hcc : (c :: r).length = r.length + 1 := rfl
   have hne : ((⟨(c :: r).toArray⟩ : BA).toList.isEmpty) = false := by rw [ByteArray.toList_eq]; rfl
   have hget : (⟨(c :: r).toArray⟩ : BA)[0]'(by rw [hsz]; omega) = c := rfl
   obtain ⟨f', hf'⟩ : ∃ f', f = f' + 1 := ⟨f - 1, by have := HFU.out h0; have := z2u hx; rw [z05] at this; omega⟩
   have HFU2 : Hid (s.size - T.1 <= f' + 1) := hid (by have := HFU.out h0; omega)
   rw [hr1]
   by_cases hb : c = 123 ∨ c = 125 ∨ c = 35
   ·have HE := hid (HW.out.trans (text_end hx hb))
    have HST := hid (Tryz.Builder_String_any_k _ _ acc wr HBT.out hBs)
    clear hr1 hx HFU hf' HFU2
    rcases hb with rfl | rfl | rfl
    all_goals
     generalize (⟨(_ :: r).toArray⟩ : BA) = R at *
     go_wp2_with fail
     refine HST.out.mono ?_
     rintro e w3 ⟨rfl, -, hb3, -⟩
     have HR3 := hid (HRT.out.keep (hb3.block rb hlr))
     have HF3 : Hid (Fr (· = rb) w w3) := hid (HFT.out.then_below hb3)
     clear hb3
     go_wp2
     go_ret
     rw [HE.out]
     exact ⟨rfl, HR3.out, HF3.out⟩
   ·have n1 : c ≠ 123 := fun e => hb (.inl e)
    have n2 : c ≠ 125 := fun e => hb (.inr (.inl e))
    have n3 : c ≠ 35 := fun e => hb (.inr (.inr e))
    have b1 : ((c.toNat : Int) == (123 : Int)) = false := u8_ne n1
    have b2 : ((c.toNat : Int) == (125 : Int)) = false := u8_ne n2
    have b3 : ((c.toNat : Int) == (35 : Int)) = false := u8_ne n3
    have HRS := hid (z3b (s := s) (S := T))
    rw [if_pos h0] at HRS
    have HLT := hid (z2u hx)
    rw [z05] at HLT
    by_cases hq : c = 39
    ·subst hq
     have HW2 : Hid (textL s.data.toList s.data.toList.length [] S = textL s.data.toList f' (acc ++ (quotF s.data.toList T).1) (quotF s.data.toList T).2) := hid (HW.out.trans (by rw [hf']; exact zb8 h0 hx))
     have HQ := hid (zah rb s o T wr hs HT.out HRT.out)
     have HQL := hid (quot_len s.data.toList T)
     have HQA : Hid ((quotF s.data.toList T).2.2 = 0 -> T.1 + 1 <= (quotF s.data.toList T).2.1) := hid z4d
     have HQG := hid (zco s.data.toList T)
     clear hr1 hx HFU hf' hb n1 n2 n3
     generalize (⟨((39 : UInt8) :: r).toArray⟩ : BA) = R at *
     generalize quotF s.data.toList T = q at *
     obtain ⟨q1, U⟩ := q
     simp only at HW2 HQ HQL HQA HQG
     go_wp2_with fail
     refine HQ.out.mono ?_
     rintro e w3 ⟨rfl, hr3, hf3⟩
     have HR3 := hid hr3
     have HF3 := hid (HFT.out.trans hf3)
     have HB3 := hid (HBT.out.fr hf3 hlr)
     have HTU := hid (z1o HQG.out HT.out)
     have hleU := z3p HTU.out
     have hql := HQL.out
     have HWS := hid (z4a _ _ _ (ba q1) w3 HB3.out (by rw [z3k]; show acc.length + q1.toArray.size <= _; rw [List.size_toArray]; omega) HF3.out.size)
     clear hr3 hf3 HQ
     go_wp2_with fail
     refine HWS.out.mono ?_
     rintro e w4 ⟨rfl, hbd, hb4, -⟩
     rw [z87, <- z3l] at hbd
     have HB4 : Hid (Bd w.heap.size w.heap.size (acc ++ q1) w4) := hid (.inr hbd)
     have HR4 := hid (HR3.out.keep (hb4.block rb hlr))
     have HF4 : Hid (Fr (· = rb) w w4) := hid (HF3.out.then_below hb4)
     clear hbd hb4 HWS
     have HC := hid (z1r rb s o U w4 hs HTU.out HR4.out)
     go_wp2_with fail
     refine HC.out.mono ?_
     rintro e w5 ⟨rfl, hw5⟩
     have HR5 := hid (HR4.out.same hw5)
     have HB5 : Hid (Bd w.heap.size w.heap.size (acc ++ q1) w5) := hid (HB4.out.keep (fun k _ _ => by rw [hw5.heap]))
     have HF5 := hid (HF4.out.trans (Fr.of_same hw5))
     clear hw5 HC
     have HRU := hid (z3b (s := s) (S := U))
     go_wp2
     go_roundw
     case rel => exact ⟨U, _, f', rfl, HTU, HR5, HB5, HF5, hid (by rw [List.length_append]; omega), HW2, hid (fun e => by have := HQA.out e; have := HFU2.out; omega)⟩
     case measure =>
      simp only
      rw [HRU.out]
      have := HLT.out
      split
      ·rename_i e; have := HQA.out e; omega
      ·omega
    ·have b4 : ((c.toNat : Int) == (39 : Int)) = false := u8_ne hq
     have HW2 : Hid (textL s.data.toList s.data.toList.length [] S = textL s.data.toList f' (acc ++ [c]) (T.1 + 1, 0)) := hid (HW.out.trans (by rw [hf']; exact zb9 h0 hx hb hq))
     have HWB := hid (z5x _ _ _ (c.toNat : Int) wr HBT.out (by rw [z3k]; omega) hBs)
     have HTU : Hid (Wf s.data.toList (T.1 + 1, 0)) := hid ⟨z2u hx, .inl rfl⟩
     clear hr1 hx HFU hf' hb n1 n2 n3
     generalize (⟨(c :: r).toArray⟩ : BA) = R at *
     go_wp2_with fail
     refine HWB.out.mono ?_
     rintro e w4 ⟨rfl, hbd, hb4, -⟩
     have HB4 : Hid (Bd w.heap.size w.heap.size (acc ++ [c]) w4) := hid (by rw [Bd, z3l]; exact .inr hbd)
     have HR4 := hid (HRT.out.keep (hb4.block rb hlr))
     have HF4 : Hid (Fr (· = rb) w w4) := hid (HFT.out.then_below hb4)
     clear hbd hb4 HWB
     have c1 := HR4.out.c1
     have z1 := HR4.out.thaw 1
     have HR5 : Hid (RdAt (w4.setCell ⟨rb, 1, none⟩ (.int .i64 ((T.1 : Int) + 1))) rb s o (T.1 + 1, 0)) := hid (by have h := HR4.out.set1 (T.1 + 1); rw [h0] at h; exact h)
     have HB5 : Hid (Bd w.heap.size w.heap.size (acc ++ [c]) (w4.setCell ⟨rb, 1, none⟩ (.int .i64 ((T.1 : Int) + 1)))) := hid (HB4.out.fr (z0l 1 _) hlr)
     have HF5 : Hid (Fr (· = rb) w (w4.setCell ⟨rb, 1, none⟩ (.int .i64 ((T.1 : Int) + 1)))) := hid (HF4.out.trans (z0l 1 _))
     have HC := hid (z1r rb s o (T.1 + 1, 0) _ hs HTU.out HR5.out)
     have hlt3 := HLT.out
     go_wp2_with fail
     generalize w4.setCell ⟨rb, 1, none⟩ (.int .i64 ((T.1 : Int) + 1)) = w6 at *
     refine HC.out.mono ?_
     rintro e w5 ⟨rfl, hw5⟩
     have HR7 := hid (HR5.out.same hw5)
     have HB7 : Hid (Bd w.heap.size w.heap.size (acc ++ [c]) w5) := hid (HB5.out.keep (fun k _ _ => by rw [hw5.heap]))
     have HF7 := hid (HF5.out.trans (Fr.of_same hw5))
     clear hw5 HC
     have HRU := hid (z3b (s := s) (S := (T.1 + 1, 0)))
     go_wp2
     go_roundw
     case rel => exact ⟨(T.1 + 1, 0), _, f', rfl, HTU, HR7, HB7, HF7, hid (by rw [List.length_append]; simp only [List.length_cons, List.length_nil]; omega), HW2, hid (fun _ => by have := HFU2.out; simp only; omega)⟩
     case measure =>
      simp only
      rw [HRU.out]
      simp only [if_true]
      omega
  ·have hr1 : restF s T = ⟨#[]⟩ := z79 (fun h0 => by
    cases hq : s.data.toList[T.1]? with
    | none => rfl
    | some c => exact absurd ⟨c, h0, hq⟩ hx)
   have HE := hid (HW.out.trans (zb7 (fun h0 => by
    cases hq : s.data.toList[T.1]? with
    | none => rfl
    | some c => exact absurd ⟨c, h0, hq⟩ hx)))
   have HST := hid (Tryz.Builder_String_any_k _ _ acc wr HBT.out hBs)
   clear hx
   rw [hr1]
   go_wp2_with fail
   refine HST.out.mono ?_
   rintro e w3 ⟨rfl, -, hb3, -⟩
   have HR3 := hid (HRT.out.keep (hb3.block rb hlr))
   have HF3 : Hid (Fr (· = rb) w w3) := hid (HFT.out.then_below hb3)
   clear hb3
   go_wp2
   go_ret
   rw [HE.out]
   exact ⟨rfl, HR3.out, HF3.out⟩
end Go.Proofs.YtdkkkeoicekdgaaGreatDoor

end
