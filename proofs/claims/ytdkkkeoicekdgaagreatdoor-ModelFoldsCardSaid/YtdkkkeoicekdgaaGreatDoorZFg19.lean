/- strings.Builder at this program: copyCheck and WriteString. -/
import Derived.Test.YtdkkkeoicekdgaaGreatDoorZFLg

section

namespace Go.Proofs.YtdkkkeoicekdgaaGreatDoor
set_option maxHeartbeats 1000000
set_option maxRecDepth 100000
open Go.Lib (hid)
open Go.RowKit
theorem Tryz.info47 : (Tryz.prog.info? 117).map (·.size) = some 2 := by kernel_rfl
theorem Tryz.lies47 : liesAt Tryz.prog Tryz.prog.depth 117 (2 / Tryz.prog.cellsOf 117) 0 117 1 = true := by kernel_rfl
theorem Tryz.info5 : (Tryz.prog.info? 5).map (fun i => (i.zero, i.size, i.bytes)) = some (some (.int .u8 0), 1, 1) := by kernel_rfl
theorem z7g (b : Nat) (w : World) (h0 : w.cell? ⟨b, 0, none⟩ = some (.pointer (some ⟨b, 0, none⟩))) :
  Calls Tryz.prog 125 #[.pointer (some ⟨b, 0, none⟩)] w fun e w' => e = .returned (.tuple #[]) /\ w' = w := by
 obtain ⟨j, hj, _⟩ := Option.map_eq_some_iff.1 Tryz.info47
 go_enter Tryz.func125, Tryz.ntmps125
 go_wp2;rw [Lib.run_neq_ptr_same w _ Tryz.underlying114 hj];go_wp2
 go_end0
 exact ⟨rfl, rfl⟩
theorem z68 (b : Nat) (w : World) (h0 : w.cell? ⟨b, 0, none⟩ = some (.pointer none)) (hsh : w.shape? b = some (117, 2)) (hfz : w.frozen? ⟨b, 0, none⟩ = false) :
  Calls Tryz.prog 125 #[.pointer (some ⟨b, 0, none⟩)] w fun e w' => e = .returned (.tuple #[]) /\ w' = w.setCell ⟨b, 0, none⟩ (.pointer (some ⟨b, 0, none⟩)) := by
 obtain ⟨j, hj, a⟩ := Option.map_eq_some_iff.1 Tryz.info47
 go_enter Tryz.func125, Tryz.ntmps125
 go_wp2;rw [Lib.run_to_unsafe w ⟨b, 0, none⟩ Tryz.underlying114 Tryz.underlying202 hj (by rw [a]; decide) hsh (Nat.zero_lt_succ 1)];simp only [Result.andThen];rw [Oper.upon_value];go_wp2;rw [run_callFunc_extern Tryz.func160 (by kernel_rfl) (by kernel_rfl) (by kernel_rfl) (e := Extern.AbiNoEscape.same) (by kernel_rfl)];rw [Lib.run_noEscape];simp only [Result.andThen];rw [Oper.upon_value];go_wp2;rw [Lib.run_from_unsafe w ⟨b, 0, none⟩ Tryz.underlying202 Tryz.underlying114 hj hsh Tryz.lies47];simp only [Result.andThen];rw [Oper.upon_value];go_wp2
 go_end0
 exact ⟨rfl, rfl⟩
theorem z4m (B b : Nat) (bs : List Value) (w : World) (h : Lib.IsBuilderF 117 5 B b bs w) :
  Calls Tryz.prog 125 #[.pointer (some ⟨b, 0, none⟩)] w fun e w' => e = .returned (.tuple #[]) /\ (Lib.BuilderAtF 117 5 B b (.pointer (some ⟨b, 0, none⟩)) bs w' /\ Below B w w' /\ Lib.OthersKept 5 (some b) w w') := by
 rcases h with h | h
 ·refine (z68 b w h.cell0 h.shape h.frozen0).mono ?_
  rintro e w' ⟨rfl, rfl⟩;exact ⟨rfl, h.used _, (Below.refl B w).setCell (p := ⟨b, 0, none⟩) h.1 _, (Lib.OthersKept.refl _ _ w).setCell ⟨b, 0, none⟩ rfl _⟩
 ·refine (z7g b w h.cell0).mono ?_
  rintro e w' ⟨rfl, rfl⟩;exact ⟨rfl, h, Below.refl B _, Lib.OthersKept.refl _ _ _⟩
theorem z67 (B b : Nat) (bs : List Value) (s : ByteArray) (w : World) (h : Lib.IsBuilderF 117 5 B b bs w) (hlen : bs.length + s.size <= 140737488355328) (hBw : B <= w.heap.size) :
  Calls Tryz.prog 72 #[.pointer (some ⟨b, 0, none⟩), .string s] w fun e w' => e = .returned (.tuple #[.int .i64 s.size, .nilIface]) /\ (Lib.BuilderAtF 117 5 B b (.pointer (some ⟨b, 0, none⟩)) (bs ++ Lib.strCells s) w' /\ Below B w w' /\ Lib.OthersKept 5 (some b) w w') := by
 obtain ⟨i0, hi, i, j, l⟩ := info_parts Tryz.info5;have HC := hid (z4m B b bs w h);clear h
 go_enter Tryz.func72, Tryz.ntmps72
 go_wp2_with fail
 refine HC.out.mono ?_;rintro e w1 ⟨rfl, h1, f, m⟩;obtain ⟨hB, v, a, c, n⟩ := h1
 have c0 : w1.cell? ⟨b, 0, none⟩ = some (.pointer (some ⟨b, 0, none⟩)) := by rw [Lib.cell_of_heap a]; rfl
 have c1 : w1.cell? ⟨b, 1, none⟩ = some v := by rw [Lib.cell_of_heap a]; rfl
 have HK := hid a;have HO := hid c;clear a c
 go_wp2_with (at_builtin; refine Lib.wpList_append_own_stringF _ rfl _ _ 115 9 rfl B 5 i0 Tryz.underlying115 Tryz.underlying9 hi i j l _ _ _ rfl HO.out s rfl ?c3 ?c4 ?c5 ?_)
 case c3 => unfold maxLen; omega
 case c4 => omega
 case c5 => have := f.size; omega
 intro v' w2 hown' hgrow _;have a := HK.out;have c := HO.out
 have o : b < w1.heap.size := by
  rcases Nat.lt_or_ge b w1.heap.size with h' | h'
  ·exact h'
  ·simp [Array.getElem?_eq_none h'] at a
 have d : w2.heap[b]? = some (.cells #[.pointer (some ⟨b, 0, none⟩), v] 117 (0, 0)) := by
  rw [hgrow.block b o (fun e => n e.symm)];exact a
 have d0 : w2.cell? ⟨b, 0, none⟩ = some (.pointer (some ⟨b, 0, none⟩)) := by rw [Lib.cell_of_heap d]; rfl
 have d1 : w2.cell? ⟨b, 1, none⟩ = some v := by rw [Lib.cell_of_heap d]; rfl
 have f1 : w2.frozen? ⟨b, 1, none⟩ = false := Lib.frozen_of_heap d 1
 obtain ⟨ao, n', cap, rfl⟩ : ∃ ao n' cap, v' = .slice ao n' cap := by
  rcases hown'.2 with ⟨hv, _⟩ | ⟨g, cap, cur, fz, hv, _⟩
  ·exact ⟨_, _, _, hv⟩
  ·exact ⟨_, _, _, hv⟩
 have q := hid d;have r := hid hown';clear d hown' a c;go_wp2
 go_ret2
 refine ⟨rfl, ?_, ?_, (m.grown hgrow (Lib.ownsRowF_kind HO.out)).setCell ⟨b, 1, none⟩ rfl _⟩
 ·exact Lib.BuilderAtF.put (T := 117) (e := 5) hB q.out (bs' := bs ++ Lib.strCells s) (by simpa [Lib.strCells_length] using r.out) (by decide)
 ·exact (f.grown hgrow (by have := f.size; omega) (fun k hk => (HO.out.lt k hk).1)).setCell (p := ⟨b, 1, none⟩) hB _
theorem z8k (B b : Nat) (bs : List Value) (c : Int) (w : World) (h : Lib.IsBuilderF 117 5 B b bs w) (hlen : bs.length + 1 <= 140737488355328) (hBw : B <= w.heap.size) :
  Calls Tryz.prog 209 #[.pointer (some ⟨b, 0, none⟩), .int .u8 c] w fun e w' => e = .returned .nilIface /\ (Lib.BuilderAtF 117 5 B b (.pointer (some ⟨b, 0, none⟩)) (bs ++ [.int .u8 c]) w' /\ Below B w w' /\ Lib.OthersKept 5 (some b) w w') := by
 obtain ⟨i0, hi, l, m, n⟩ := info_parts Tryz.info5;have HC := hid (z4m B b bs w h);clear h
 go_enter Tryz.func209, Tryz.ntmps209
 go_wp2_with fail
 refine HC.out.mono ?_;rintro e w1 ⟨rfl, h1, i, o⟩;obtain ⟨hB, v, a, d, q⟩ := h1
 have c0 : w1.cell? ⟨b, 0, none⟩ = some (.pointer (some ⟨b, 0, none⟩)) := by rw [Lib.cell_of_heap a]; rfl
 have c1 : w1.cell? ⟨b, 1, none⟩ = some v := by rw [Lib.cell_of_heap a]; rfl
 have HK := hid a;have HO := hid d;clear a d
 go_wp2_with (at_builtin; refine wpList_append_ownF _ rfl _ _ 115 rfl B 5 i0 (.int .u8 0) 1 1 Tryz.underlying115 hi l m n rfl (by decide) _ _ _ rfl (HO.out.alloc _) ⟨w1.heap.size, 0, none⟩ 1 1 [.int .u8 c] rfl rfl ?c1 ?c2 ?c3 ?c4 ?c5 ?_)
 case c1 =>
  intro j u hj
  match j, hj with
  | 0, hj => simp at hj; subst hj; simp [Addr.add]
 case c2 => intro u hu; simp at hu; subst hu; rfl
 case c3 => unfold maxLen; omega
 case c4 => omega
 case c5 => have := i.size; simp; omega
 intro v' w2 hown' hgrow _;have a := HK.out;have d := HO.out
 have r : b < w1.heap.size := by
  rcases Nat.lt_or_ge b w1.heap.size with h' | h'
  ·exact h'
  ·simp [Array.getElem?_eq_none h'] at a
 have f : w2.heap[b]? = some (.cells #[.pointer (some ⟨b, 0, none⟩), v] 117 (0, 0)) := by
  rw [hgrow.block b (by simp; omega) (fun e => q e.symm), Lib.alloc_old w1 _ b r];exact a
 have d0 : w2.cell? ⟨b, 0, none⟩ = some (.pointer (some ⟨b, 0, none⟩)) := by rw [Lib.cell_of_heap f]; rfl
 have d1 : w2.cell? ⟨b, 1, none⟩ = some v := by rw [Lib.cell_of_heap f]; rfl
 have f1 : w2.frozen? ⟨b, 1, none⟩ = false := Lib.frozen_of_heap f 1
 obtain ⟨g, cap, rfl⟩ : ∃ g cap, v' = .slice (some ⟨g, 0, none⟩) (bs.length + 1) cap := by
  rcases hown'.2 with ⟨_, h0⟩ | ⟨g, cap, cur, fz, hv, _⟩
  ·omega
  ·exact ⟨g, cap, hv⟩
 have s := hid f;have t := hid hown';clear f hown' a d;go_wp2;go_ret;refine ⟨rfl, ?_, ?_, ((o.alloc _).grown hgrow (Lib.ownsRowF_kind (HO.out.alloc _))).setCell ⟨b, 1, none⟩ rfl _⟩
 ·exact Lib.BuilderAtF.put (T := 117) (e := 5) hB s.out (bs' := bs ++ [.int .u8 c]) (by simpa using t.out) (by decide)
 ·exact ((i.alloc (by have := i.size; omega) _).grown hgrow (by have := i.size; simp; omega) (fun k hk => ((HO.out.alloc (.cells #[.int .u8 c] 5)).lt k hk).1)).setCell (p := ⟨b, 1, none⟩) hB _

set_option maxHeartbeats 1600000
set_option maxRecDepth 100000
theorem ba_app (a b : List UInt8) : (ba a : BA) ++ ba b = ba (a ++ b) := by
 apply ByteArray.ext
 simp [ByteArray.data_append]
theorem key_yes {l : List UInt8} {S : St} (h : nextF l [61] S = true) : keyF l S = ([61] ++ (longF l numB (wordF l [61] S)).1, (longF l numB (wordF l [61] S)).2) := by unfold keyF; rw [if_pos h]
theorem key_no {l : List UInt8} {S : St} (h : nextF l [61] S = false) : keyF l S = longF l nameB S := by unfold keyF; rw [if_neg (by rw [h]; simp)]
theorem zh5 {l : List UInt8} {p : List UInt8 -> Bool} {S : St} : (longF l p S).1.length <= l.length := by
 unfold longF
 split
 ·split
  ·simp
  ·simp only [List.length_take, List.length_drop]; omega
 ·simp
theorem zci (rb : Nat) (s : BA) (o : Nat) (S : St) (w : World) (hs : s.size <= 2000) (hS : Wf s.data.toList S) (hR : RdAt w rb s o S) (hE : Env w rb) :
  Calls Tryz.prog 291 #[.pointer (some ⟨rb, 0, none⟩)] w fun e w' => e = .returned (.string (ba (keyF s.data.toList S).1)) /\ RdAt w' rb s o (keyF s.data.toList S).2 /\ Fr (· = rb) w w' := by
 have HC := hid (z2k rb s ⟨#[61]⟩ o S w hs hS (by decide) hR);have HR := hid hR;have HE := hid hE;clear hR hE
 cases hb : nextF s.data.toList [61] S with
 | true =>
  have HK := hid (key_yes hb)
  try rw [show ((⟨#[61]⟩ : BA).data.toList) = [61] from rfl, hb] at HC
  clear hb
  go_enter Tryz.func291, Tryz.ntmps291
  go_wp2_with fail
  refine HC.out.mono ?_;rintro e w2 ⟨rfl, a⟩;have k := hid (HE.out.same a);have f : Hid (Fr (· = rb) w w2) := hid (Fr.of_same a);have i := hid (z14 rb s ⟨#[61]⟩ o S w2 hs (by decide) hS (HR.out.same a));clear a HC HR HE
  go_wp2_with fail
  refine i.out.mono ?_;rintro e w3 ⟨rfl, j, g⟩;have m := z2z (z06 s.data.toList [61] S) hS;have n := hid (k.out.fr g);have r := hid (f.out.trans g);have HL := hid (zcf rb s o _ w3 hs m j n.out);clear j g i
  try rw [show ((⟨#[61]⟩ : BA).data.toList) = [61] from rfl] at HL
  have t : (ba (longF s.data.toList numB (wordF s.data.toList [61] S)).1).size <= 2000 := by
   show (longF s.data.toList numB (wordF s.data.toList [61] S)).1.toArray.size <= 2000
   rw [List.size_toArray];have := zh5 (l := s.data.toList) (p := numB) (S := wordF s.data.toList [61] S)
   rw [z07] at this; omega
  go_wp2_with fail
  refine HL.out.mono ?_;rintro e w4 ⟨rfl, b, c⟩;have d := hid b;have h := hid (r.out.trans c);clear b c HL;have HA := hid (ba_app [61] (longF s.data.toList numB (wordF s.data.toList [61] S)).1)
  generalize (longF s.data.toList numB (wordF s.data.toList [61] S)) = q at *
  obtain ⟨q1, q2⟩ := q;simp only at d HA t HK ⊢
  generalize ba q1 = Q at *
  go_wp2;go_ret;exact ⟨by rw [HK.out]; simp only; rw [<- HA.out]; rfl, by rw [HK.out]; exact d.out, h.out⟩
 | false =>
  have HK := hid (key_no hb)
  try rw [show ((⟨#[61]⟩ : BA).data.toList) = [61] from rfl, hb] at HC
  clear hb
  go_enter Tryz.func291, Tryz.ntmps291
  go_wp2_with fail
  refine HC.out.mono ?_;rintro e w2 ⟨rfl, a⟩;have f : Hid (Fr (· = rb) w w2) := hid (Fr.of_same a);have HL := hid (z60 rb s o S w2 hs hS (HR.out.same a) (HE.out.same a));clear a HC HR HE
  go_wp2_with fail
  refine HL.out.mono ?_;rintro e w4 ⟨rfl, b, c⟩;have d := hid b;have h := hid (f.out.trans c);clear b c HL;go_wp2;go_ret;rw [HK.out];exact ⟨rfl, d.out, h.out⟩
theorem quot_yes {l : List UInt8} {S : St} (h : (oneF l [39, 123, 125, 35] (wordF l [39] S)).1 = [39]) : quotF l S = oneF l [39, 123, 125, 35] (wordF l [39] S) := by unfold quotF; rw [if_pos h]
theorem quot_no {l : List UInt8} {S : St} (h : (oneF l [39, 123, 125, 35] (wordF l [39] S)).1 ≠ [39]) : quotF l S = ((oneF l [39, 123, 125, 35] (wordF l [39] S)).1, wordF l [39] (oneF l [39, 123, 125, 35] (wordF l [39] S)).2) := by unfold quotF; rw [if_neg h]
theorem ba_ne39 {q : List UInt8} (h : q ≠ [39]) : ((ba q).toList == [39]) = false := by
 rw [beq_eq_false_iff_ne, ByteArray.toList_eq]; exact h
theorem zfa (rb : Nat) (s : BA) (o : Nat) (S : St) (w : World) (hs : s.size <= 2000) (hS : Wf s.data.toList S) (hR : RdAt w rb s o S) :
  Calls Tryz.prog 271 #[.pointer (some ⟨rb, 0, none⟩)] w fun e w' => e = .returned (.string (ba (quotF s.data.toList S).1)) /\ RdAt w' rb s o (quotF s.data.toList S).2 /\ Fr (· = rb) w w' := by
 have HC := hid (z14 rb s ⟨#[39]⟩ o S w hs (by decide) hS hR);have c := hid (z2z (z06 s.data.toList [39] S) hS);have HY := hid (quot_yes (l := s.data.toList) (S := S));have a := hid (quot_no (l := s.data.toList) (S := S));clear hR
 go_enter Tryz.func271, Tryz.ntmps271
 go_wp2_with fail
 refine HC.out.mono ?_;rintro e w1 ⟨rfl, b, d⟩
 try rw [show ((⟨#[39]⟩ : BA).data.toList) = [39] from rfl] at b
 have p := hid d;have HO := hid (z91 rb s ⟨#[39, 123, 125, 35]⟩ o _ w1 hs c.out b)
 try rw [show ((⟨#[39, 123, 125, 35]⟩ : BA).data.toList) = [39, 123, 125, 35] from rfl] at HO
 have f := hid (z2z (z1f s.data.toList [39, 123, 125, 35] _) c.out);clear b d HC
 generalize oneF s.data.toList [39, 123, 125, 35] (wordF s.data.toList [39] S) = q at *
 obtain ⟨q1, q2⟩ := q;simp only at HO f HY a
 go_wp2_with fail
 refine HO.out.mono ?_;rintro e w2 ⟨rfl, g, h⟩;have i := hid g;have j := hid (p.out.trans h);clear g h HO
 by_cases hq : q1 = [39]
 ·have HE := hid (HY.out hq)
  subst hq;clear HY a;go_wp2;go_ret;rw [HE.out];exact ⟨rfl, i.out, j.out⟩
 ·have HE := hid (a.out hq)
  have hB := ba_ne39 hq;have k := hid (z14 rb s ⟨#[39]⟩ o _ w2 hs (by decide) f.out i.out)
  try rw [show ((⟨#[39]⟩ : BA).data.toList) = [39] from rfl] at k
  clear hq HY a;obtain ⟨Q, HQ⟩ : ∃ Q, Hid (ba q1 = Q) := ⟨_, hid rfl⟩;rw [HQ.out] at hB ⊢
  go_wp2_with fail
  refine k.out.mono ?_;rintro e w3 ⟨rfl, m, n⟩;have r := hid m;have t := hid (j.out.trans n);clear m n;go_wp2;go_ret;rw [HE.out];exact ⟨by simp only; rw [HQ.out]; rfl, r.out, t.out⟩

set_option maxHeartbeats 3200000
set_option maxRecDepth 100000
abbrev Bd (B b : Nat) (acc : List UInt8) (w : World) : Prop := Lib.IsBuilderF 117 5 B b (Lib.byteCells acc) w
theorem z03 {w : World} {k : Nat} {o : Obj} (h : w.heap[k]? = some o) : k < w.heap.size := (Array.getElem?_eq_some_iff.1 h).1
theorem Bd.keep {B b : Nat} {acc : List UInt8} {w w' : World} (hh : Bd B b acc w) (hb : ∀ k, B <= k -> k < w.heap.size -> w'.heap[k]? = w.heap[k]?) : Bd B b acc w' := by
 have hk : ∀ {p : Value}, Lib.BuilderAtF 117 5 B b p (Lib.byteCells acc) w -> Lib.BuilderAtF 117 5 B b p (Lib.byteCells acc) w' := fun h => by
  obtain ⟨hB, v, c, a, d⟩ := h;refine ⟨hB, v, (hb b hB (z03 c)).trans c, ⟨a.1, ?_⟩, d⟩
  rcases a.2 with h0 | ⟨g, cap, cur, fz, hv, h1, h2, hr⟩
  ·exact .inl h0
  ·exact .inr ⟨g, cap, cur, fz, hv, h1, (hb g h1 (z03 h2)).trans h2, hr⟩
 exact hh.imp hk hk
theorem Bd.fr {B b rb : Nat} {acc : List UInt8} {w w' : World} (hh : Bd B b acc w) (hf : Fr (· = rb) w w') (hrb : rb < B) : Bd B b acc w' := hh.keep (fun k hk hlt => hf.block k hlt (by omega))
theorem Fr.then_below {X : Nat -> Prop} {w w1 w2 : World} (h : Fr X w w1) (hb : Below w.heap.size w1 w2) : Fr X w w2 :=
 ⟨hb.os.trans h.os, hb.tape.trans h.tape, hb.output.trans h.output, Nat.le_trans h.size hb.size, fun k hk hx => (hb.block k hk).trans (h.block k hk hx)⟩
theorem z2n (a b : List UInt8) : Lib.byteCells (a ++ b) = Lib.byteCells a ++ Lib.byteCells b := by unfold Lib.byteCells; simp
theorem z5g (a : List UInt8) : (Lib.byteCells a).length = a.length := by unfold Lib.byteCells; simp
theorem zbm (q : List UInt8) : Lib.strCells (ba q) = Lib.byteCells q := rfl
theorem zfw {l : List UInt8} {f : Nat} {acc : List UInt8} {T : St} (h : T.2 = 0 -> l[T.1]? = none) : textL l f acc T = (acc, T) := by
 cases f with
 | zero => rw [textL]
 | succ f =>
  rw [textL]
  split
  ·rename_i h0; rw [h h0]
  ·rfl
theorem text_end {l : List UInt8} {f : Nat} {acc : List UInt8} {T : St} {c : UInt8} (hx : l[T.1]? = some c) (hc : c = 123 ∨ c = 125 ∨ c = 35) : textL l f acc T = (acc, T) := by
 cases f with
 | zero => rw [textL]
 | succ f =>
  rw [textL]
  split
  ·rw [hx]; simp only; rw [if_pos hc]
  ·rfl
theorem zfx {l : List UInt8} {f : Nat} {acc : List UInt8} {T : St} (h0 : T.2 = 0) (hx : l[T.1]? = some 39) : textL l (f + 1) acc T = textL l f (acc ++ (quotF l T).1) (quotF l T).2 := by
 rw [textL, if_pos h0, hx]; simp only; rw [if_neg (by decide), if_pos trivial]
theorem zfy {l : List UInt8} {f : Nat} {acc : List UInt8} {T : St} {c : UInt8} (h0 : T.2 = 0) (hx : l[T.1]? = some c) (hc : ¬ (c = 123 ∨ c = 125 ∨ c = 35)) (hq : c ≠ 39) : textL l (f + 1) acc T = textL l f (acc ++ [c]) (T.1 + 1, 0) := by
 rw [textL, if_pos h0, hx]; simp only; rw [if_neg hc, if_neg hq]
theorem quot_len (l : List UInt8) (S : St) : (quotF l S).1.length + S.1 <= (quotF l S).2.1 := by
 have h1 := (z06 l [39] S).1;have h2 := (z06 l [39] (oneF l [39, 123, 125, 35] (wordF l [39] S)).2).1
 have h3 : (oneF l [39, 123, 125, 35] (wordF l [39] S)).1.length + S.1 <= (oneF l [39, 123, 125, 35] (wordF l [39] S)).2.1 := by
  rcases z3y l [39, 123, 125, 35] (wordF l [39] S) with z | ⟨d, z0, z1, z2, z3⟩
  ·rw [z.2.1, z.2.2]; simp; exact h1
  ·rw [z3]; simp; omega
 unfold quotF
 split
 ·exact h3
 ·simp only; omega
theorem z58 {s : BA} {S : St} : (restF s S).size = if S.2 = 0 then s.size - S.1 else 0 := by
 by_cases h0 : S.2 = 0
 ·rw [if_pos h0, <- z07, z3e h0]; simp
 ·rw [if_neg h0, z1w h0]; rfl
theorem zf1 {c d : UInt8} (h : c ≠ d) : ((c.toNat : Int) == (d.toNat : Int)) = false := by
 rw [beq_eq_false_iff_ne]; intro e; exact h (UInt8.toNat_inj.1 (by omega))
theorem text_any (rb : Nat) (s : BA) (o : Nat) (S : St) (w : World) (hs : s.size <= 2000) (hS : Wf s.data.toList S) (hR : RdAt w rb s o S) :
  Calls Tryz.prog 248 #[.pointer (some ⟨rb, 0, none⟩)] w fun e w' => e = .returned (.string (ba (textL s.data.toList s.data.toList.length [] S).1)) /\ RdAt w' rb s o (textL s.data.toList s.data.toList.length [] S).2 /\ Fr (· = rb) w w' := by
 have i := hR.lt;have F : Hid (RdAt (w.alloc (.cells #[.pointer none, .slice none 0 0] 117)) rb s o S) := hid (hR.alloc _);have Y : Hid (Bd w.heap.size w.heap.size [] (w.alloc (.cells #[.pointer none, .slice none 0 0] 117))) := hid (Lib.IsBuilderF.of (Lib.fresh_isBuilder 117 5 w));have Z : Hid (Fr (· = rb) w (w.alloc (.cells #[.pointer none, .slice none 0 0] 117))) := hid ((Fr.refl _ _).alloc _);have HC := hid (z30 rb s o S _ hs hS F.out);have HS := hid hS;clear hR hS
 go_enter Tryz.func248, Tryz.ntmps248
 go_wp2_with fail
 generalize w.alloc (.cells #[.pointer none, .slice none 0 0] 117) = w1 at *
 refine HC.out.mono ?_;rintro e w2 ⟨rfl, A⟩;have aa := hid (F.out.same A);have af : Hid (Bd w.heap.size w.heap.size [] w2) := hid (Y.out.keep (fun k _ _ => by rw [A.heap]));have ag := hid (Z.out.trans (Fr.of_same A));clear A HC F Y Z;go_wp2
 go_loopw [4] (fun v wr => ∃ (T : St) (a : List UInt8) (f : Nat), v = .string (restF s T) /\ Hid (Wf s.data.toList T) /\ Hid (RdAt wr rb s o T) /\ Hid (Bd w.heap.size w.heap.size a wr) /\ Hid (Fr (· = rb) w wr) /\ Hid (a.length <= T.1) /\ Hid (textL s.data.toList s.data.toList.length [] S = textL s.data.toList f a T) /\ Hid (T.2 = 0 -> s.size - T.1 <= f)) (fun v _ => match v with | .string R => R.size | _ => 0)
 case atStart => exact ⟨S, [], _, rfl, HS, aa, af, ag, hid (Nat.zero_le _), hid rfl, hid (fun _ => by rw [z07]; omega)⟩
 case round =>
  obtain ⟨T, a, f, rfl, HT, B, C, t, au, HW, u⟩ := hrel;clear aa af ag HS;have aF := z3j HT.out;have G : w.heap.size <= wr.heap.size := t.out.size;have aG := au.out
  by_cases hx : ∃ c, T.2 = 0 /\ s.data.toList[T.1]? = some c
  ·obtain ⟨c, h0, hx⟩ := hx
   obtain ⟨r, j, aH, -⟩ := zad h0 hx;have aw := za4 c r;have aI : (c :: r).length = r.length + 1 := rfl
   have aJ : ((⟨(c :: r).toArray⟩ : BA).toList.isEmpty) = false := by rw [ByteArray.toList_eq]; rfl
   have aC : (⟨(c :: r).toArray⟩ : BA)[0]'(by rw [aw]; omega) = c := rfl;obtain ⟨f', x⟩ : ∃ f', f = f' + 1 := ⟨f - 1, by have := u.out h0; have := z0z hx; rw [z07] at this; omega⟩;have y : Hid (s.size - T.1 <= f' + 1) := hid (by have := u.out h0; omega);rw [j]
   by_cases hb : c = 123 ∨ c = 125 ∨ c = 35
   ·have HE := hid (HW.out.trans (text_end hx hb))
    have H := hid (Tryz.Builder_String_any_k _ _ a wr C.out G);clear j hx u x y
    rcases hb with rfl | rfl | rfl
    all_goals
     generalize (⟨(_ :: r).toArray⟩ : BA) = R at *
     go_wp2_with fail
     refine H.out.mono ?_;rintro e w3 ⟨rfl, -, d, -⟩;have z := hid (B.out.keep (d.block rb i));have l : Hid (Fr (· = rb) w w3) := hid (t.out.then_below d);clear d;go_wp2;go_ret;rw [HE.out];exact ⟨rfl, z.out, l.out⟩
   ·have n1 : c ≠ 123 := fun e => hb (.inl e)
    have n2 : c ≠ 125 := fun e => hb (.inr (.inl e))
    have n3 : c ≠ 35 := fun e => hb (.inr (.inr e))
    have b1 : ((c.toNat : Int) == (123 : Int)) = false := zf1 n1;have b2 : ((c.toNat : Int) == (125 : Int)) = false := zf1 n2;have b3 : ((c.toNat : Int) == (35 : Int)) = false := zf1 n3;have ax := hid (z58 (s := s) (S := T));rw [if_pos h0] at ax;have I := hid (z0z hx);rw [z07] at I
    by_cases hq : c = 39
    ·subst hq
     have D : Hid (textL s.data.toList s.data.toList.length [] S = textL s.data.toList f' (a ++ (quotF s.data.toList T).1) (quotF s.data.toList T).2) := hid (HW.out.trans (by rw [x]; exact zfx h0 hx));have HQ := hid (zfa rb s o T wr hs HT.out B.out);have ah := hid (quot_len s.data.toList T);have J : Hid ((quotF s.data.toList T).2.2 = 0 -> T.1 + 1 <= (quotF s.data.toList T).2.1) := hid z6e;have ai := hid (zhp s.data.toList T);clear j hx u x hb n1 n2 n3
     generalize (⟨((39 : UInt8) :: r).toArray⟩ : BA) = R at *
     generalize quotF s.data.toList T = q at *
     obtain ⟨q1, U⟩ := q;simp only at D HQ ah J ai
     go_wp2_with fail
     refine HQ.out.mono ?_;rintro e w3 ⟨rfl, aj, L⟩;have z := hid aj;have l := hid (t.out.trans L);have ay := hid (C.out.fr L i);have m := hid (z2z ai.out HT.out);have aD := z3j m.out;have aK := ah.out;have aq := hid (z67 _ _ _ (ba q1) w3 ay.out (by rw [z5g]; show a.length + q1.toArray.size <= _; rw [List.size_toArray]; omega) l.out.size);clear aj L HQ
     go_wp2_with fail
     refine aq.out.mono ?_;rintro e w4 ⟨rfl, n, g, -⟩;rw [zbm, <- z2n] at n;have M : Hid (Bd w.heap.size w.heap.size (a ++ q1) w4) := hid (.inr n);have p := hid (z.out.keep (g.block rb i));have N : Hid (Fr (· = rb) w w4) := hid (l.out.then_below g);clear n g aq;have HC := hid (z30 rb s o U w4 hs m.out p.out)
     go_wp2_with fail
     refine HC.out.mono ?_;rintro e w5 ⟨rfl, b⟩;have E := hid (p.out.same b);have O : Hid (Bd w.heap.size w.heap.size (a ++ q1) w5) := hid (M.out.keep (fun k _ _ => by rw [b.heap]));have V := hid (N.out.trans (Fr.of_same b));clear b HC;have X := hid (z58 (s := s) (S := U));go_wp2;go_roundw
     case rel => exact ⟨U, _, f', rfl, m, E, O, V, hid (by rw [List.length_append]; omega), D, hid (fun e => by have := J.out e; have := y.out; omega)⟩
     case measure =>
      simp only;rw [X.out];have := I.out
      split
      ·rename_i e; have := J.out e; omega
      ·omega
    ·have b4 : ((c.toNat : Int) == (39 : Int)) = false := zf1 hq
     have D : Hid (textL s.data.toList s.data.toList.length [] S = textL s.data.toList f' (a ++ [c]) (T.1 + 1, 0)) := hid (HW.out.trans (by rw [x]; exact zfy h0 hx hb hq));have ar := hid (z8k _ _ _ (c.toNat : Int) wr C.out (by rw [z5g]; omega) G);have m : Hid (Wf s.data.toList (T.1 + 1, 0)) := hid ⟨z0z hx, .inl rfl⟩;clear j hx u x hb n1 n2 n3
     generalize (⟨(c :: r).toArray⟩ : BA) = R at *
     go_wp2_with fail
     refine ar.out.mono ?_;rintro e w4 ⟨rfl, n, g, -⟩;have M : Hid (Bd w.heap.size w.heap.size (a ++ [c]) w4) := hid (by rw [Bd, z2n]; exact .inr n);have p := hid (B.out.keep (g.block rb i));have N : Hid (Fr (· = rb) w w4) := hid (t.out.then_below g);clear n g ar;have c1 := p.out.c1;have z1 := p.out.thaw 1;have E : Hid (RdAt (w4.setCell ⟨rb, 1, none⟩ (.int .i64 ((T.1 : Int) + 1))) rb s o (T.1 + 1, 0)) := hid (by have h := p.out.set1 (T.1 + 1); rw [h0] at h; exact h);have O : Hid (Bd w.heap.size w.heap.size (a ++ [c]) (w4.setCell ⟨rb, 1, none⟩ (.int .i64 ((T.1 : Int) + 1)))) := hid (M.out.fr (z0k 1 _) i);have V : Hid (Fr (· = rb) w (w4.setCell ⟨rb, 1, none⟩ (.int .i64 ((T.1 : Int) + 1)))) := hid (N.out.trans (z0k 1 _));have HC := hid (z30 rb s o (T.1 + 1, 0) _ hs m.out E.out);have aE := I.out
     go_wp2_with fail
     generalize w4.setCell ⟨rb, 1, none⟩ (.int .i64 ((T.1 : Int) + 1)) = w6 at *
     refine HC.out.mono ?_;rintro e w5 ⟨rfl, b⟩;have az := hid (E.out.same b);have aA : Hid (Bd w.heap.size w.heap.size (a ++ [c]) w5) := hid (O.out.keep (fun k _ _ => by rw [b.heap]));have aB := hid (V.out.trans (Fr.of_same b));clear b HC;have X := hid (z58 (s := s) (S := (T.1 + 1, 0)));go_wp2;go_roundw
     case rel => exact ⟨(T.1 + 1, 0), _, f', rfl, m, az, aA, aB, hid (by rw [List.length_append]; simp only [List.length_cons, List.length_nil]; omega), D, hid (fun _ => by have := y.out; simp only; omega)⟩
     case measure =>
      simp only;rw [X.out];simp only [if_true]
      omega
  ·have j : restF s T = ⟨#[]⟩ := zac (fun h0 => by
    cases hq : s.data.toList[T.1]? with
    | none => rfl
    | some c => exact absurd ⟨c, h0, hq⟩ hx)
   have HE := hid (HW.out.trans (zfw (fun h0 => by
    cases hq : s.data.toList[T.1]? with
    | none => rfl
    | some c => exact absurd ⟨c, h0, hq⟩ hx)))
   have H := hid (Tryz.Builder_String_any_k _ _ a wr C.out G);clear hx;rw [j]
   go_wp2_with fail
   refine H.out.mono ?_;rintro e w3 ⟨rfl, -, d, -⟩;have z := hid (B.out.keep (d.block rb i));have l : Hid (Fr (· = rb) w w3) := hid (t.out.then_below d);clear d;go_wp2;go_ret;rw [HE.out];exact ⟨rfl, z.out, l.out⟩
end Go.Proofs.YtdkkkeoicekdgaaGreatDoor

end
