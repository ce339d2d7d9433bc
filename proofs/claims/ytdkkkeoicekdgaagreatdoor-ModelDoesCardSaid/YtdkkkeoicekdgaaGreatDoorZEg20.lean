/- The document's reader in memory: a name. -/
import Derived.Test.YtdkkkeoicekdgaaGreatDoorZEg9

section

namespace Go.Proofs.YtdkkkeoicekdgaaGreatDoor.Dr
set_option maxHeartbeats 3200000
set_option maxRecDepth 100000
open Go.Lib (hid)
open Go.RowKit Go.Proofs.YtdkkkeoicekdgaaGreatDoor
theorem z8k {w : World} {base : Nat} {a : Option Addr} {cap : Nat} {l : List UInt8} (h : w.ownsRow base 5 1 (.slice a l.length cap) l.length (Lib.byteCells l)) (hn : Value.slice a l.length cap ≠ .slice none 0 0) : (convert 115 9 (.slice a l.length cap)).run Tryz.prog w = .ok (.string (ba l)) w := by
 rcases h.2 with ⟨hv, h0⟩ | ⟨g, cap', cur, hv, -, hg, hr⟩
 ·exact absurd hv hn
 ·injection hv with h1 h2 h3
  subst h1 h3;obtain ⟨-, -, -, ht⟩ := hr;refine run_convert_bytes_back (P := Tryz.prog) w 115 9 5 ⟨g, 0, none⟩ cap l Tryz.underlying115 Tryz.underlying5 Tryz.underlying9 (fun j hj => ?_);rw [Addr.add_mid, Nat.zero_add]
  have hc : w.cell? ⟨g, j, none⟩ = cur[j]? := by simp [World.cell?, hg]
  rw [hc, <- Array.getElem?_toList];have h5 : (cur.toList.take (l.length * 1))[j]? = cur.toList[j]? := List.getElem?_take_of_lt (by omega);rw [<- h5, ht]
  simp [Lib.byteCells, hj]
theorem zgp (w : World) : (w.alloc (.cells #[] 5)).ownsRow w.heap.size 5 1 (.slice (some ⟨w.heap.size, 0, none⟩) 0 0) 0 (Lib.byteCells []) := zdk w #[] 5 w.heap.size 0 1 rfl (Nat.le_refl _) (by omega)
theorem infoByte : (Tryz.prog.info? 5).map (fun i => (i.zero, i.size, i.bytes)) = some (some (.int .u8 0), 1, 1) := by kernel_rfl
theorem u8_in (c : UInt8) : IntKind.u8.wrap (c.toNat : Int) = c.toNat := IntWalk.u8_in _ (by have := c.toNat_lt; omega)
theorem z81 {w : World} {B n : Nat} {v : Value} {xs : List Value} (h : w.ownsRow B 5 1 v n xs) : ∃ a cap, v = .slice a n cap := by
 obtain ⟨a, cap, hv, -⟩ := z0j h;exact ⟨a, cap, hv⟩
def NmU (l : List UInt8) (acc : List UInt8) (T : St) : Prop := acc.length <= 32 /\ (acc = [] -> T.2 = 0 -> isNow l isLet T = true) /\ (acc ≠ [] -> nameB acc = true)
theorem nm_go {l acc : List UInt8} {T : St} {c : UInt8} (h : NmU l acc T) (hc : nowF l T = some c) (hw : isWrd c = true) (hl : acc.length ≠ 32) : nameB (acc ++ [c]) = true /\ NmU l (acc ++ [c]) (T.1 + 1, 0) := by
 obtain ⟨h1, h2, h3⟩ := h
 have hn : nameB (acc ++ [c]) = true := by
  cases acc with
  | nil =>
   have := h2 rfl (z0b hc).1
   unfold isNow at this
   rw [hc] at this;simp only at this
   simp [nameB, this, hw]
  | cons d r =>
   have := h3 (by simp);simp only [nameB, Bool.and_eq_true, decide_eq_true_eq] at this;simp only [List.length_cons] at h1 hl;simp only [List.cons_append, nameB, Bool.and_eq_true, decide_eq_true_eq, List.length_append, List.length_cons, List.length_nil];refine ⟨⟨by omega, this.1.2⟩, ?_⟩;rw [<- List.cons_append, List.all_append, this.2]
   simp [hw]
 exact ⟨hn, by rw [List.length_append]; simp only [List.length_cons, List.length_nil]; omega, fun e => by simp at e, fun _ => hn⟩
theorem zh1 {l acc : List UInt8} {T : St} {c : UInt8} (_h : NmU l acc T) (hl : acc.length = 32) : nameB (acc ++ [c]) = false := by
 cases acc with
 | nil => simp at hl
 | cons d r =>
  simp only [List.length_cons] at hl;simp only [List.cons_append, nameB, List.length_append, List.length_cons, List.length_nil]
  rw [decide_eq_false (by omega)]; rfl
theorem zbx {l : List UInt8} {w : UInt8 -> Bool} {p : List UInt8 -> Bool} {f : Nat} {acc : List UInt8} {S : St} {c : UInt8} (h : nowF l S = some c) (hw : w c = true) (hp : p (acc ++ [c]) = true) : runL l w p (f + 1) acc S = runL l w p f (acc ++ [c]) (S.1 + 1, 0) := by
 rw [runL, h]; simp only; rw [if_pos hw, if_pos hp]
theorem zbz {l : List UInt8} {w : UInt8 -> Bool} {p : List UInt8 -> Bool} {f : Nat} {acc : List UInt8} {S : St} {c : UInt8} (h : nowF l S = some c) (hw : w c = true) (hp : p (acc ++ [c]) = false) : runL l w p (f + 1) acc S = ([], failF l S) := by
 rw [runL, h]; simp only; rw [if_pos hw, if_neg (by rw [hp]; simp)]
theorem zby {l : List UInt8} {w : UInt8 -> Bool} {p : List UInt8 -> Bool} {f : Nat} {acc : List UInt8} {S : St} (h : isNow l w S = false) : runL l w p f acc S = (acc, S) := by
 cases f with
 | zero => rw [runL]
 | succ f =>
  rw [runL]
  unfold isNow at h
  cases hn : nowF l S with
  | none => rfl
  | some c => rw [hn] at h; simp only at h ⊢; rw [if_neg (by rw [h]; simp)]
theorem z4g (pb : Nat) (s : BA) (S : St) (w : World) (hs : s.size <= 2000) (hS : Wf s.data.toList S) (hR : PAt w pb s S) :
  Calls Tryz.prog 255 #[.pointer (some ⟨pb, 0, none⟩)] w fun e w' => e = .returned (.string (ba (dName s.data.toList S).1)) /\ PAt w' pb s (dName s.data.toList S).2 /\ Fr (· = pb) w w' := by
 obtain ⟨i0, hi, aQ, aR, aS⟩ := info_parts infoByte;have aT := hR.lt;have R : Hid (PAt (w.alloc (.cells #[] 5)) pb s S) := hid (hR.alloc _);have ay : Hid ((w.alloc (.cells #[] 5)).ownsRow w.heap.size 5 1 (.slice (some ⟨w.heap.size, 0, none⟩) 0 0) 0 (Lib.byteCells [])) := hid (zgp w);have az : Hid (Fr (· = pb) w (w.alloc (.cells #[] 5))) := hid ((Fr.refl _ _).alloc _);have aA := hid (z1q pb s S _ hs R.out);have HS := hid hS;have O := hid (fun W => z2q (nowI s.data.toList S) W);have aB := ltI_now s.data.toList S;have aC : Hid (dName s.data.toList S = runL s.data.toList isWrd nameB 33 [] (if isNow s.data.toList isLet S then S else failF s.data.toList S)) := hid rfl;clear hR hS
 cases hf : isNow s.data.toList isLet S with
 | true =>
  rw [aB, hf] at O;have HD : Hid (dName s.data.toList S = runL s.data.toList isWrd nameB 33 [] S) := hid (by rw [aC.out, hf]; rfl);have U : Hid (NmU s.data.toList [] S) := hid ⟨by simp, fun _ _ => hf, fun e => absurd rfl e⟩;clear hf aB aC
  go_enter Tryz.func255, Tryz.ntmps255
  go_wp2_with fail
  generalize w.alloc (.cells #[] 5) = w1 at *
  refine aA.out.mono ?_;rintro e w2 ⟨rfl, nq, V⟩
  have y : Same w1 w2 := by rw [V]; exact (Same.refl _).drewN _
  have E := hid (R.out.same y);have F := hid (az.out.trans (Fr.of_same y));have z := hid (z0d ay.out (fun _ _ => by rw [y.heap]));have X := hid (O.out w2);clear y V aA R az ay O
  go_wp2_with fail
  refine X.out.mono ?_;rintro e w3 ⟨rfl, rfl⟩;clear X;have aE := HS;go_wp2
  go_loopw [3] (fun v wr => ∃ (b : List UInt8) (f : Nat) (T : St), b.length + f = 33 /\ Hid (NmU s.data.toList b T) /\ Hid (wr.ownsRow w.heap.size 5 1 v b.length (Lib.byteCells b)) /\ Hid (v ≠ .slice none 0 0) /\ Hid (PAt wr pb s T) /\ Hid (Fr (· = pb) w wr) /\ Hid (Wf s.data.toList T) /\ Hid (dName s.data.toList S = runL s.data.toList isWrd nameB f b T)) (fun v _ => match v with | .slice _ n _ => 33 - n | _ => 0)
  case atStart => exact ⟨[], 33, S, rfl, U, z, hid (by simp), E, F, aE, HD⟩
  case round =>
   obtain ⟨b, f, T, Y, HU, HO, G, p, r, aF, HQ⟩ := hrel;clear z E F HD U;have aU : w.heap.size <= wr.heap.size := r.out.size;obtain ⟨ao, co, rfl⟩ := z81 HO.out;have C : b.length <= 32 := HU.out.1;have l := hid (z1q pb s T wr hs p.out);have d := hid (fun W => z5q (nowI s.data.toList T) W);rw [zd3] at d
   cases hw : isNow s.data.toList isWrd T with
   | false =>
    rw [hw] at d;have HE := hid (HQ.out.trans (zby hw));clear hw
    go_wp2_with fail
    refine l.out.mono ?_;rintro e w5 ⟨rfl, Z, i⟩
    have a : Same wr w5 := by rw [i]; exact (Same.refl _).drewN _
    have m := hid (p.out.same a);have o := hid (r.out.trans (Fr.of_same a));have aG := hid (z8k (z0d HO.out (fun _ _ => by rw [a.heap])) G.out);have j := hid (d.out w5);clear a i l d
    go_wp2_with fail
    refine j.out.mono ?_;rintro e w6 ⟨rfl, rfl⟩;clear j
    generalize hac : ba b = t at *
    go_wp2;rw [aG.out];simp only [Result.andThen];rw [Oper.upon_value];go_wp2;go_ret;exact ⟨by rw [HE.out, hac]; rfl, by rw [HE.out]; exact m.out, o.out⟩
   | true =>
    rw [hw] at d
    obtain ⟨c, hc, H⟩ : ∃ c, nowF s.data.toList T = some c /\ isWrd c = true := by
     unfold isNow at hw
     cases hx : nowF s.data.toList T with
     | none => rw [hx] at hw; cases hw
     | some c => rw [hx] at hw; exact ⟨c, rfl, hw⟩
    obtain ⟨f', rfl⟩ : ∃ f', f = f' + 1 := ⟨f - 1, by omega⟩
    by_cases hl : b.length = 32
    ·have HE := hid (HQ.out.trans (zbz hc H (zh1 HU.out hl)))
     rw [hl] at HO G ⊢;clear hw hc Y hl C
     go_wp2_with fail
     refine l.out.mono ?_;rintro e w5 ⟨rfl, Z, i⟩
     have a : Same wr w5 := by rw [i]; exact (Same.refl _).drewN _
     have m := hid (p.out.same a);have o := hid (r.out.trans (Fr.of_same a));have j := hid (d.out w5);have D := hid (z15 pb s T w5 hs aF.out m.out);clear a i l d
     go_wp2_with fail
     refine j.out.mono ?_;rintro e w6 ⟨rfl, rfl⟩;clear j
     go_wp2_with fail
     refine D.out.mono ?_;rintro e w7 ⟨rfl, aa, af⟩;have u := hid aa;have x := hid (o.out.trans af);clear aa af D;go_wp2;go_ret;exact ⟨by rw [HE.out]; rfl, by rw [HE.out]; exact u.out, x.out⟩
    ·obtain ⟨ag, ah⟩ := nm_go HU.out hc H hl
     have HE := hid (HQ.out.trans (zbx hc H ag));have ai := hid ah;have I : nowI s.data.toList T = c.toNat := z0g hc;have aj := hid (z0u hc);obtain ⟨h0, hx⟩ := z0b hc;have aq := hid (z0z hx);obtain ⟨k, st⟩ := T;simp only at h0 aq HE ai aj;subst h0;obtain ⟨q, J⟩ := nmd (b.length);rw [<- J.out] at HO G hl C Y ⊢
     have aV : ((q : Int) == 32) = false := by rw [beq_eq_false_iff_ne]; omega
     rw [I] at l d;have L := hid (fun W (h : PAt W pb s (k, 0)) => z1q pb s (k, 0) W hs h);rw [I] at L;have aW := u8_in c;have aX := c.toNat_lt;clear hw hc ag ah I hl HU HQ hx
     go_wp2_with fail
     refine l.out.mono ?_;rintro e w5 ⟨rfl, Z, i⟩
     have a : Same wr w5 := by rw [i]; exact (Same.refl _).drewN _
     have m := hid (p.out.same a);have o := hid (r.out.trans (Fr.of_same a));have ar := hid (z0d HO.out (fun _ _ => by rw [a.heap]));have j := hid (d.out w5);clear a i l d HO p r
     go_wp2_with fail
     refine j.out.mono ?_;rintro e w6 ⟨rfl, rfl⟩;have au := hid (L.out w6 m.out);clear j L
     go_wp2_with fail
     refine au.out.mono ?_;rintro e w7 ⟨rfl, aY, aw⟩
     have A : Same w6 w7 := by rw [aw]; exact (Same.refl _).drewN _
     have u := hid (m.out.same A);have x := hid (o.out.trans (Fr.of_same A));have B := hid (z0d ar.out (fun _ _ => by rw [A.heap]));clear A aw au m o ar;have aZ : w.heap.size <= w7.heap.size := x.out.size
     go_wp2_with (at_builtin; refine wpList_append_lies _ rfl _ _ 115 rfl w.heap.size 5 i0 _ 1 1 Tryz.underlying115 hi aQ aR aS rfl (by decide) _ _ _ rfl (B.out.alloc _) _ 1 1 [.int .u8 c.toNat] rfl rfl (z1v _ #[.int .u8 c.toNat] _ rfl) (by simp [Value.oneCell']) (by decide) (by unfold maxLen; omega) (by omega) (by simp; omega) (w7.heap.size + 1) (by simp) ?_; intro g8 c9 w8 hown8 hgrow8 hg8 _; have aH := hid hown8; have M := hid hgrow8; clear hown8 hgrow8 hg8; have ax := u.out.lt; have N : Hid (PAt w8 pb s (k, 0)) := hid (u.out.keep ((M.out.block pb (by rw [World.size_alloc]; omega) (fun e => by have := (B.out.lt pb e.symm).1; omega)).trans (Below.heap_alloc _ _ _ ax))); have aI : Hid (Fr (· = pb) w w8) := hid ((x.out.alloc _).grown M.out (fun g hg => .inl (B.out.lt g hg).1)); clear u x B M; have c1 := N.out.row.c1; have z1 := N.out.row.thaw 1; simp only at c1; have aJ := aq.out; rw [z08] at aJ)
     have aK : Hid (PAt (w8.setCell ⟨pb, 1, none⟩ (.int .i64 ((k : Int) + 1))) pb s (k + 1, 0)) := hid (PAt.on (S := (k, 0)) N.out);have aM : Hid (Fr (· = pb) w (w8.setCell ⟨pb, 1, none⟩ (.int .i64 ((k : Int) + 1)))) := hid (aI.out.trans (z0l 1 _));have aN : Hid ((w8.setCell ⟨pb, 1, none⟩ (.int .i64 ((k : Int) + 1))).ownsRow w.heap.size 5 1 (.slice (some ⟨g8, 0, none⟩) (q + 1) c9) (q + 1) (Lib.byteCells b ++ [.int .u8 c.toNat])) := hid (z24 aH.out ((But.refl pb w8).set 1 _) aT);go_roundw
     case rel => exact ⟨b ++ [c], f', (k + 1, 0), by rw [List.length_append, <- J.out]; simp only [List.length_cons, List.length_nil]; omega, ai, by rw [List.length_append, <- J.out, z2m]; exact aN, hid (by simp), aK, aM, aj, HE⟩
     case measure => simp only; omega
 | false =>
  rw [aB, hf] at O;obtain ⟨S2, aD⟩ := nmd (failF s.data.toList S);have HD : Hid (dName s.data.toList S = runL s.data.toList isWrd nameB 33 [] S2) := hid (by rw [aC.out, hf, aD.out]; rfl);have U : Hid (NmU s.data.toList [] S2) := hid ⟨by simp, fun _ e => absurd e (by rw [aD.out]; exact z0t _ _), fun e => absurd rfl e⟩;have aE : Hid (Wf s.data.toList S2) := hid (by rw [aD.out]; exact (z1u _ _).2.1 HS.out);clear hf aB aC
  go_enter Tryz.func255, Tryz.ntmps255
  go_wp2_with fail
  generalize w.alloc (.cells #[] 5) = w1 at *
  refine aA.out.mono ?_;rintro e w2 ⟨rfl, nq, V⟩
  have y : Same w1 w2 := by rw [V]; exact (Same.refl _).drewN _
  have E := hid (R.out.same y);have F := hid (az.out.trans (Fr.of_same y));have z := hid (z0d ay.out (fun _ _ => by rw [y.heap]));have X := hid (O.out w2);have D := hid (z15 pb s S w2 hs HS.out E.out);clear y V aA R az ay O
  go_wp2_with fail
  refine X.out.mono ?_;rintro e w3 ⟨rfl, rfl⟩;clear X
  go_wp2_with fail
  refine D.out.mono ?_;rintro e w4 ⟨rfl, aO, aP⟩;rw [<- aD.out] at aO;have z := hid (z0d z.out (fun g hg => aP.block g (z.out.lt g hg).2 (by have := (z.out.lt g hg).1; omega)));have E := hid aO;have F := hid (F.out.trans aP);clear aO aP D;go_wp2
  go_loopw [3] (fun v wr => ∃ (b : List UInt8) (f : Nat) (T : St), b.length + f = 33 /\ Hid (NmU s.data.toList b T) /\ Hid (wr.ownsRow w.heap.size 5 1 v b.length (Lib.byteCells b)) /\ Hid (v ≠ .slice none 0 0) /\ Hid (PAt wr pb s T) /\ Hid (Fr (· = pb) w wr) /\ Hid (Wf s.data.toList T) /\ Hid (dName s.data.toList S = runL s.data.toList isWrd nameB f b T)) (fun v _ => match v with | .slice _ n _ => 33 - n | _ => 0)
  case atStart => exact ⟨[], 33, S2, rfl, U, z, hid (by simp), E, F, aE, HD⟩
  case round =>
   obtain ⟨b, f, T, Y, HU, HO, G, p, r, aF, HQ⟩ := hrel;clear z E F HD U;have aU : w.heap.size <= wr.heap.size := r.out.size;obtain ⟨ao, co, rfl⟩ := z81 HO.out;have C : b.length <= 32 := HU.out.1;have l := hid (z1q pb s T wr hs p.out);have d := hid (fun W => z5q (nowI s.data.toList T) W);rw [zd3] at d
   cases hw : isNow s.data.toList isWrd T with
   | false =>
    rw [hw] at d;have HE := hid (HQ.out.trans (zby hw));clear hw
    go_wp2_with fail
    refine l.out.mono ?_;rintro e w5 ⟨rfl, Z, i⟩
    have a : Same wr w5 := by rw [i]; exact (Same.refl _).drewN _
    have m := hid (p.out.same a);have o := hid (r.out.trans (Fr.of_same a));have aG := hid (z8k (z0d HO.out (fun _ _ => by rw [a.heap])) G.out);have j := hid (d.out w5);clear a i l d
    go_wp2_with fail
    refine j.out.mono ?_;rintro e w6 ⟨rfl, rfl⟩;clear j
    generalize hac : ba b = t at *
    go_wp2;rw [aG.out];simp only [Result.andThen];rw [Oper.upon_value];go_wp2;go_ret;exact ⟨by rw [HE.out, hac]; rfl, by rw [HE.out]; exact m.out, o.out⟩
   | true =>
    rw [hw] at d
    obtain ⟨c, hc, H⟩ : ∃ c, nowF s.data.toList T = some c /\ isWrd c = true := by
     unfold isNow at hw
     cases hx : nowF s.data.toList T with
     | none => rw [hx] at hw; cases hw
     | some c => rw [hx] at hw; exact ⟨c, rfl, hw⟩
    obtain ⟨f', rfl⟩ : ∃ f', f = f' + 1 := ⟨f - 1, by omega⟩
    by_cases hl : b.length = 32
    ·have HE := hid (HQ.out.trans (zbz hc H (zh1 HU.out hl)))
     rw [hl] at HO G ⊢;clear hw hc Y hl C
     go_wp2_with fail
     refine l.out.mono ?_;rintro e w5 ⟨rfl, Z, i⟩
     have a : Same wr w5 := by rw [i]; exact (Same.refl _).drewN _
     have m := hid (p.out.same a);have o := hid (r.out.trans (Fr.of_same a));have j := hid (d.out w5);have D := hid (z15 pb s T w5 hs aF.out m.out);clear a i l d
     go_wp2_with fail
     refine j.out.mono ?_;rintro e w6 ⟨rfl, rfl⟩;clear j
     go_wp2_with fail
     refine D.out.mono ?_;rintro e w7 ⟨rfl, aa, af⟩;have u := hid aa;have x := hid (o.out.trans af);clear aa af D;go_wp2;go_ret;exact ⟨by rw [HE.out]; rfl, by rw [HE.out]; exact u.out, x.out⟩
    ·obtain ⟨ag, ah⟩ := nm_go HU.out hc H hl
     have HE := hid (HQ.out.trans (zbx hc H ag));have ai := hid ah;have I : nowI s.data.toList T = c.toNat := z0g hc;have aj := hid (z0u hc);obtain ⟨h0, hx⟩ := z0b hc;have aq := hid (z0z hx);obtain ⟨k, st⟩ := T;simp only at h0 aq HE ai aj;subst h0;obtain ⟨q, J⟩ := nmd (b.length);rw [<- J.out] at HO G hl C Y ⊢
     have aV : ((q : Int) == 32) = false := by rw [beq_eq_false_iff_ne]; omega
     rw [I] at l d;have L := hid (fun W (h : PAt W pb s (k, 0)) => z1q pb s (k, 0) W hs h);rw [I] at L;have aW := u8_in c;have aX := c.toNat_lt;clear hw hc ag ah I hl HU HQ hx
     go_wp2_with fail
     refine l.out.mono ?_;rintro e w5 ⟨rfl, Z, i⟩
     have a : Same wr w5 := by rw [i]; exact (Same.refl _).drewN _
     have m := hid (p.out.same a);have o := hid (r.out.trans (Fr.of_same a));have ar := hid (z0d HO.out (fun _ _ => by rw [a.heap]));have j := hid (d.out w5);clear a i l d HO p r
     go_wp2_with fail
     refine j.out.mono ?_;rintro e w6 ⟨rfl, rfl⟩;have au := hid (L.out w6 m.out);clear j L
     go_wp2_with fail
     refine au.out.mono ?_;rintro e w7 ⟨rfl, aY, aw⟩
     have A : Same w6 w7 := by rw [aw]; exact (Same.refl _).drewN _
     have u := hid (m.out.same A);have x := hid (o.out.trans (Fr.of_same A));have B := hid (z0d ar.out (fun _ _ => by rw [A.heap]));clear A aw au m o ar;have aZ : w.heap.size <= w7.heap.size := x.out.size
     go_wp2_with (at_builtin; refine wpList_append_lies _ rfl _ _ 115 rfl w.heap.size 5 i0 _ 1 1 Tryz.underlying115 hi aQ aR aS rfl (by decide) _ _ _ rfl (B.out.alloc _) _ 1 1 [.int .u8 c.toNat] rfl rfl (z1v _ #[.int .u8 c.toNat] _ rfl) (by simp [Value.oneCell']) (by decide) (by unfold maxLen; omega) (by omega) (by simp; omega) (w7.heap.size + 1) (by simp) ?_; intro g8 c9 w8 hown8 hgrow8 hg8 _; have aH := hid hown8; have M := hid hgrow8; clear hown8 hgrow8 hg8; have ax := u.out.lt; have N : Hid (PAt w8 pb s (k, 0)) := hid (u.out.keep ((M.out.block pb (by rw [World.size_alloc]; omega) (fun e => by have := (B.out.lt pb e.symm).1; omega)).trans (Below.heap_alloc _ _ _ ax))); have aI : Hid (Fr (· = pb) w w8) := hid ((x.out.alloc _).grown M.out (fun g hg => .inl (B.out.lt g hg).1)); clear u x B M; have c1 := N.out.row.c1; have z1 := N.out.row.thaw 1; simp only at c1; have aJ := aq.out; rw [z08] at aJ)
     have aK : Hid (PAt (w8.setCell ⟨pb, 1, none⟩ (.int .i64 ((k : Int) + 1))) pb s (k + 1, 0)) := hid (PAt.on (S := (k, 0)) N.out);have aM : Hid (Fr (· = pb) w (w8.setCell ⟨pb, 1, none⟩ (.int .i64 ((k : Int) + 1)))) := hid (aI.out.trans (z0l 1 _));have aN : Hid ((w8.setCell ⟨pb, 1, none⟩ (.int .i64 ((k : Int) + 1))).ownsRow w.heap.size 5 1 (.slice (some ⟨g8, 0, none⟩) (q + 1) c9) (q + 1) (Lib.byteCells b ++ [.int .u8 c.toNat])) := hid (z24 aH.out ((But.refl pb w8).set 1 _) aT);go_roundw
     case rel => exact ⟨b ++ [c], f', (k + 1, 0), by rw [List.length_append, <- J.out]; simp only [List.length_cons, List.length_nil]; omega, ai, by rw [List.length_append, <- J.out, z2m]; exact aN, hid (by simp), aK, aM, aj, HE⟩
     case measure => simp only; omega

set_option maxHeartbeats 6400000
set_option maxRecDepth 100000
theorem z6l (w : World) (c : UInt8) : (convert 115 9 (.slice (some ⟨w.heap.size, 0, none⟩) 1 1)).run Tryz.prog (w.alloc (.cells #[.int .u8 c.toNat] 5)) = .ok (.string ⟨#[c]⟩) (w.alloc (.cells #[.int .u8 c.toNat] 5)) :=
 run_convert_bytes_back (P := Tryz.prog) _ 115 9 5 ⟨w.heap.size, 0, none⟩ 1 [c] Tryz.underlying115 Tryz.underlying5 Tryz.underlying9 (fun j hj => by
  rw [Addr.add_mid, Nat.zero_add]
  have a : j = 0 := by simp at hj; omega
  subst a
  exact (z02 w #[.int .u8 c.toNat] 5).c0)
theorem ba_cat (a b : List UInt8) : ba a ++ ba b = ba (a ++ b) := by
 apply ByteArray.ext; apply Array.toList_inj.1
 rw [ByteArray.data_append, Array.toList_append]
def digI (n : Int) : Bool := decide (48 <= n) && decide (n <= 57)
theorem zem (l : List UInt8) (S : St) : digI (nowI l S) = isNow l isDig S := by
 unfold isNow
 cases h : nowF l S with
 | none => rw [z1r h]; rfl
 | some c =>
  rw [z0g h]
  unfold digI isDig
  congr 1
  ·exact decide_eq_decide.2 (by omega)
  ·exact decide_eq_decide.2 (by omega)
theorem num_len {t : List UInt8} (h : numB t = true) : t.length <= 7 := by
 cases t with
 | nil => simp [numB] at h
 | cons d r => simp only [numB, Bool.and_eq_true, decide_eq_true_eq] at h; simp only [List.length_cons]; omega
theorem pkey_num (t : List UInt8) : pkeyB (61 :: t) = numB t := by
 rw [zca]
 simp [eqB]
theorem ba_list2 (l : List UInt8) : (ba l).data.toList = l := rfl
theorem zcm (pb : Nat) (s : BA) (S : St) (w : World) (hs : s.size <= 2000) (hS : Wf s.data.toList S) (hR : PAt w pb s S) :
  Calls Tryz.prog 256 #[.pointer (some ⟨pb, 0, none⟩)] w fun e w' => e = .returned (.string (ba (dKey s.data.toList S).1)) /\ PAt w' pb s (dKey s.data.toList S).2 /\ Fr (· = pb) w w' := by
 have bJ := hR.lt;have L := hid hR;have G := hid (z1q pb s S w hs hR);have HS := hid hS;clear hR hS
 by_cases h61 : nowF s.data.toList S = some 61
 rotate_left
 ·have HE : Hid (dKey s.data.toList S = dName s.data.toList S) := hid (by unfold dKey; rw [if_neg h61])
  have hB : (nowI s.data.toList S != 61) = true := by
   have := z97 (l := s.data.toList) (S := S) 61;rw [decide_eq_false h61] at this;rw [bne]
   rw [show (nowI s.data.toList S == 61) = false from this]; rfl
  have aS := hid (fun W (h : PAt W pb s S) => z4g pb s S W hs HS.out h)
  generalize nowI s.data.toList S = v at *
  clear h61
  go_enter Tryz.func256, Tryz.ntmps256
  go_wp2_with fail
  refine G.out.mono ?_;rintro e w2 ⟨rfl, nq, u⟩
  have j : Same w w2 := by rw [u]; exact (Same.refl _).drewN _
  have aT := hid (aS.out w2 (L.out.same j));have A : Hid (Fr (· = pb) w w2) := hid (Fr.of_same j);clear j u G aS L
  generalize dName s.data.toList S = D at *
  go_wp2_with fail
  refine aT.out.mono ?_;rintro e w3 ⟨rfl, aU, aV⟩;have q := hid aU;have B := hid (A.out.trans aV);clear aU aV aT;go_wp2;go_ret;exact ⟨by rw [HE.out]; rfl, by rw [HE.out]; exact q.out, B.out⟩
 have aa : nowI s.data.toList S = 61 := z0g h61;rw [aa] at G;obtain ⟨h0, hx⟩ := z0b h61;have aI := hid (z0u h61);have ai := hid (z0z hx);rw [z08] at ai;have aj : Hid (dKey s.data.toList S = if isNow s.data.toList isDig (S.1 + 1, 0) then (if (dDig s.data.toList (S.1 + 1, 0)).2.2 = 0 then 61 :: (dDig s.data.toList (S.1 + 1, 0)).1 else [], (dDig s.data.toList (S.1 + 1, 0)).2) else ([61], failF s.data.toList (S.1 + 1, 0))) := hid (by unfold dKey; rw [if_pos h61]);have t := zem s.data.toList (S.1 + 1, 0);obtain ⟨a, st⟩ := S;simp only at h0 hx ai aI aj t;subst h0;clear h61 aa hx HS
 cases hf : isNow s.data.toList isDig (a + 1, 0) with
 | true =>
  have HD : Hid (dKey s.data.toList (a, 0) = (if (dDig s.data.toList (a + 1, 0)).2.2 = 0 then 61 :: (dDig s.data.toList (a + 1, 0)).1 else [], (dDig s.data.toList (a + 1, 0)).2)) := hid (by rw [aj.out, hf]; rfl);rw [hf] at t
  unfold digI at t
  rw [Bool.and_eq_true] at t;have aW := of_decide_eq_true t.1;have aX := of_decide_eq_true t.2;clear hf t aj
  go_enter Tryz.func256, Tryz.ntmps256
  go_wp2_with fail
  refine G.out.mono ?_;rintro e w2 ⟨rfl, nq, u⟩
  have j : Same w w2 := by rw [u]; exact (Same.refl _).drewN _
  have m := hid (L.out.same j);have A : Hid (Fr (· = pb) w w2) := hid (Fr.of_same j);clear j u G L;have c1 := m.out.row.c1;have z1 := m.out.row.thaw 1;simp only at c1;have aY := ai.out;have q : Hid (PAt (w2.setCell ⟨pb, 1, none⟩ (.int .i64 ((a : Int) + 1))) pb s (a + 1, 0)) := hid (PAt.on m.out);have B : Hid (Fr (· = pb) w (w2.setCell ⟨pb, 1, none⟩ (.int .i64 ((a : Int) + 1)))) := hid (A.out.trans (z0l 1 _));have H := hid (z1q pb s (a + 1, 0) _ hs q.out);have U := hid (fun W h => z1q pb s (a + 1, 0) W hs h);generalize nowI s.data.toList (a + 1, 0) = v at aW aX H U
  go_wp2_with fail
  generalize w2.setCell ⟨pb, 1, none⟩ (.int .i64 ((a : Int) + 1)) = w3 at *
  refine H.out.mono ?_;rintro e w4 ⟨rfl, aZ, M⟩
  have y : Same w3 w4 := by rw [M]; exact (Same.refl _).drewN _
  have N := hid (q.out.same y);have af := hid (B.out.trans (Fr.of_same y));clear y M H q B m A c1 z1
  have aG : ¬ v < 48 := by omega
  have aH : ¬ 57 < v := by omega
  have aJ : decide (v < 48) = false := decide_eq_false aG;have aK : decide (57 < v) = false := decide_eq_false aH;have bc := hid (U.out w4 N.out)
  go_wp2_with fail
  refine bc.out.mono ?_;rintro e w5 ⟨rfl, bt, aq⟩
  have V : Same w4 w5 := by rw [aq]; exact (Same.refl _).drewN _
  have ag := hid (N.out.same V);have ah := hid (af.out.trans (Fr.of_same V));clear V aq bc N af U;go_wp2;clear aW aX aG aH aJ aK
  go_loopw [3] (fun sv wr => ∃ (d : List UInt8) (f k : Nat), sv = .string (ba (61 :: d)) /\ d.length + f = 33 /\ d.length <= 7 /\ Hid (d = [] ∨ numB d = true) /\ Hid (PAt wr pb s (k, 0)) /\ Hid (Fr (· = pb) w wr) /\ Hid (Wf s.data.toList (k, 0)) /\ Hid (dDig s.data.toList (a + 1, 0) = runL s.data.toList isDig numB f d (k, 0))) (fun sv _ => match sv with | .string x => 33 - x.size | _ => 0)
  case atStart => exact ⟨[], 33, a + 1, rfl, rfl, by simp, hid (.inl rfl), ag, ah, aI, hid rfl⟩
  case round =>
   obtain ⟨d, f, k, rfl, bK, bL, bM, o, C, bu, HQ⟩ := hrel;clear ag ah;have E := hid (fun W h => z1q pb s (k, 0) W hs h);have O := zem s.data.toList (k, 0)
   cases hg : isNow s.data.toList isDig (k, 0) with
   | false =>
    have HE : Hid (dKey s.data.toList (a, 0) = (61 :: d, (k, 0))) := hid (by rw [HD.out, HQ.out, zby hg]; rfl);rw [hg] at O
    generalize nowI s.data.toList (k, 0) = v at *
    unfold digI at O
    obtain ⟨x, HX⟩ := nmd (ba (61 :: d));rw [<- HX.out];have I := hid (E.out wr o.out)
    by_cases q1 : 48 <= v
    ·have q2 : ¬ v <= 57 := fun e => by rw [decide_eq_true q1, decide_eq_true e] at O; cases O
     have aF : decide (48 <= v) = true := decide_eq_true q1;have bd : decide (v <= 57) = false := decide_eq_false q2;clear hg O
     go_wp2_with fail
     refine I.out.mono ?_;rintro e w7 ⟨rfl, ar, g⟩
     have b : Same wr w7 := by rw [g]; exact (Same.refl _).drewN _
     have i := hid (o.out.same b);have r := hid (C.out.trans (Fr.of_same b));have p := hid (E.out w7 i.out);clear b g I E
     go_wp2_with fail
     refine p.out.mono ?_;rintro e w8 ⟨rfl, bf, R⟩
     have z : Same w7 w8 := by rw [R]; exact (Same.refl _).drewN _
     have J := hid (i.out.same z);have X := hid (r.out.trans (Fr.of_same z));clear z R p;go_wp2;go_ret;exact ⟨by rw [HE.out, HX.out]; rfl, by rw [HE.out]; exact J.out, X.out⟩
    ·have aF : decide (48 <= v) = false := decide_eq_false q1
     clear hg O
     go_wp2_with fail
     refine I.out.mono ?_;rintro e w7 ⟨rfl, ar, g⟩
     have b : Same wr w7 := by rw [g]; exact (Same.refl _).drewN _
     have i := hid (o.out.same b);have r := hid (C.out.trans (Fr.of_same b));clear b g I E;go_wp2;go_ret;exact ⟨by rw [HE.out, HX.out]; rfl, by rw [HE.out]; exact i.out, r.out⟩
   | true =>
    obtain ⟨c, hc, au⟩ : ∃ c, nowF s.data.toList (k, 0) = some c /\ isDig c = true := by
     unfold isNow at hg
     cases hx : nowF s.data.toList (k, 0) with
     | none => rw [hx] at hg; cases hg
     | some c => rw [hx] at hg; exact ⟨c, rfl, hg⟩
    obtain ⟨f', rfl⟩ : ∃ f', f = f' + 1 := ⟨f - 1, by omega⟩;have aa : nowI s.data.toList (k, 0) = c.toNat := z0g hc;rw [aa] at E;have bG := z2c.1 au;have bg := hid (z0z (z0b hc).2);rw [z08] at bg;have bv := hid (z0u hc)
    have q1 : (48 : Int) <= c.toNat := by omega
    have q2 : (c.toNat : Int) <= 57 := by omega
    have aF : decide ((48 : Int) <= c.toNat) = true := decide_eq_true q1;have bd : decide ((c.toNat : Int) <= 57) = true := decide_eq_true q2;have bN := u8_in c;have bO := c.toNat_lt;have aM : Hid (ba (61 :: d) ++ ⟨#[c]⟩ = ba (61 :: (d ++ [c]))) := hid (by rw [show (⟨#[c]⟩ : BA) = ba [c] from rfl, ba_cat]; rfl);have bh : Hid ((ba (61 :: d)).size = d.length + 1) := hid (by rw [z60]; rfl)
    have Y : Hid (∀ W, Calls Tryz.prog 277 #[.bool true, .string (ba (61 :: d) ++ ⟨#[c]⟩)] W fun e w' => e = .returned (.bool (numB (d ++ [c]))) /\ w' = W) := hid (fun W => by
     rw [aM.out];have := zda (ba (61 :: (d ++ [c]))) W (by rw [z60]; simp only [List.length_cons, List.length_append, List.length_nil]; omega);rw [ba_list2, pkey_num] at this
     exact this)
    have bw := bh.out;have I := hid (E.out wr o.out);obtain ⟨x, HX⟩ := nmd (ba (61 :: d));rw [<- HX.out] at aM bw Y ⊢
    have bH : x.size <= 100 := by omega
    have bI : (x.size : Int) + 1 <= 1000 := by omega
    clear bh
    cases hnb : numB (d ++ [c]) with
    | true =>
     have HE := hid (HQ.out.trans (zbx hc au hnb));have bi : Hid (d ++ [c] = [] ∨ numB (d ++ [c]) = true) := hid (.inr hnb);have bz := num_len hnb;rw [hnb] at Y;clear hg O hc au aa hnb HQ
     go_wp2_with fail
     refine I.out.mono ?_;rintro e w7 ⟨rfl, ar, g⟩
     have b : Same wr w7 := by rw [g]; exact (Same.refl _).drewN _
     have i := hid (o.out.same b);have r := hid (C.out.trans (Fr.of_same b));have p := hid (E.out w7 i.out);clear b g I o C
     go_wp2_with fail
     refine p.out.mono ?_;rintro e w8 ⟨rfl, bf, R⟩
     have z : Same w7 w8 := by rw [R]; exact (Same.refl _).drewN _
     have J := hid (i.out.same z);have X := hid (r.out.trans (Fr.of_same z));have aw := hid (E.out w8 J.out);clear z R p i r
     go_wp2_with fail
     refine aw.out.mono ?_;rintro e w9 ⟨rfl, bA, ax⟩
     have Z : Same w8 w9 := by rw [ax]; exact (Same.refl _).drewN _
     have ay := hid (J.out.same Z);have az := hid (X.out.trans (Fr.of_same Z));clear Z ax aw J X;have aA := hid (z6l w9 c);have aB : Hid (PAt (w9.alloc (.cells #[.int .u8 c.toNat] 5)) pb s (k, 0)) := hid (ay.out.alloc _);have aN : Hid (Fr (· = pb) w (w9.alloc (.cells #[.int .u8 c.toNat] 5))) := hid (az.out.alloc _);have aC := hid (Y.out (w9.alloc (.cells #[.int .u8 c.toNat] 5)));go_wp2;rw [aA.out];simp only [Result.andThen];rw [Oper.upon_value]
     generalize w9.alloc (.cells #[.int .u8 c.toNat] 5) = wa at *
     go_wp2_with fail
     refine aC.out.mono ?_;rintro e wb ⟨rfl, rfl⟩;clear aA aC Y ay az;have c1 := aB.out.row.c1;have z1 := aB.out.row.thaw 1;simp only at c1;have bP := bg.out;have bB : Hid (PAt (wb.setCell ⟨pb, 1, none⟩ (.int .i64 ((k : Int) + 1))) pb s (k + 1, 0)) := hid (PAt.on (S := (k, 0)) aB.out);have bC : Hid (Fr (· = pb) w (wb.setCell ⟨pb, 1, none⟩ (.int .i64 ((k : Int) + 1)))) := hid (aN.out.trans (z0l 1 _));go_wp2;go_roundw
     case rel => exact ⟨d ++ [c], f', k + 1, by rw [aM.out], by rw [List.length_append]; simp only [List.length_cons, List.length_nil]; omega, bz, bi, bB, bC, bv, HE⟩
     case measure =>
      have hh : (x ++ ⟨#[c]⟩ : BA).size = x.size + 1 := ByteArray.size_append
      simp only [hh]; omega
    | false =>
     have HE : Hid (dKey s.data.toList (a, 0) = ([], failF s.data.toList (k, 0))) := hid (by
      rw [HD.out, HQ.out, zbz hc au hnb]; simp only; rw [if_neg (z0t _ _)])
     rw [hnb] at Y;clear hg O hc au aa hnb HQ HD
     go_wp2_with fail
     refine I.out.mono ?_;rintro e w7 ⟨rfl, ar, g⟩
     have b : Same wr w7 := by rw [g]; exact (Same.refl _).drewN _
     have i := hid (o.out.same b);have r := hid (C.out.trans (Fr.of_same b));have p := hid (E.out w7 i.out);clear b g I o C
     go_wp2_with fail
     refine p.out.mono ?_;rintro e w8 ⟨rfl, bf, R⟩
     have z : Same w7 w8 := by rw [R]; exact (Same.refl _).drewN _
     have J := hid (i.out.same z);have X := hid (r.out.trans (Fr.of_same z));have aw := hid (E.out w8 J.out);clear z R p i r
     go_wp2_with fail
     refine aw.out.mono ?_;rintro e w9 ⟨rfl, bA, ax⟩
     have Z : Same w8 w9 := by rw [ax]; exact (Same.refl _).drewN _
     have ay := hid (J.out.same Z);have az := hid (X.out.trans (Fr.of_same Z));clear Z ax aw J X;have aA := hid (z6l w9 c);have aB : Hid (PAt (w9.alloc (.cells #[.int .u8 c.toNat] 5)) pb s (k, 0)) := hid (ay.out.alloc _);have aN : Hid (Fr (· = pb) w (w9.alloc (.cells #[.int .u8 c.toNat] 5))) := hid (az.out.alloc _);have aC := hid (Y.out (w9.alloc (.cells #[.int .u8 c.toNat] 5)));have T := hid (z15 pb s (k, 0) _ hs bu.out aB.out);go_wp2;rw [aA.out];simp only [Result.andThen];rw [Oper.upon_value]
     generalize w9.alloc (.cells #[.int .u8 c.toNat] 5) = wa at *
     go_wp2_with fail
     refine aC.out.mono ?_;rintro e wb ⟨rfl, rfl⟩;clear aA aC Y ay az
     go_wp2_with fail
     refine T.out.mono ?_;rintro e wc ⟨rfl, bj, bm⟩;have bD := hid bj;have bE := hid (aN.out.trans bm);clear bj bm T;go_wp2;go_ret;exact ⟨by rw [HE.out]; rfl, by rw [HE.out]; exact bD.out, bE.out⟩
 | false =>
  have HD : Hid (dKey s.data.toList (a, 0) = ([61], failF s.data.toList (a + 1, 0))) := hid (by rw [aj.out, hf]; rfl);rw [hf] at t;clear hf aj;have U := hid (fun W h => z1q pb s (a + 1, 0) W hs h);obtain ⟨F, aO⟩ := nmd (failF s.data.toList (a + 1, 0));have bn : Hid (∀ W, PAt W pb s (a + 1, 0) -> Calls Tryz.prog 227 #[.pointer (some ⟨pb, 0, none⟩)] W fun e w' => e = .returned (.tuple #[]) /\ PAt w' pb s F /\ Fr (· = pb) W w') := hid (fun W h => by rw [aO.out]; exact z15 pb s (a + 1, 0) W hs aI.out h)
  have bo : Hid (∀ W, PAt W pb s F -> Calls Tryz.prog 226 #[.pointer (some ⟨pb, 0, none⟩)] W fun e w' => e = .returned (.int .i64 (-1)) /\ ∃ n, w' = W.drewN n) := hid (fun W h => by
   have := z1q pb s F W hs h
   rw [z1r (z11 (by rw [aO.out]; exact z0t _ _))] at this; exact this)
  rw [<- aO.out] at HD
  generalize nowI s.data.toList (a + 1, 0) = v at *
  unfold digI at t
  have aP : v < 48 ∨ (48 <= v /\ 57 < v) := by
   by_cases q1 : 48 <= v
   ·right; refine ⟨q1, ?_⟩
    by_cases q2 : v <= 57
    ·rw [decide_eq_true q1, decide_eq_true q2] at t; cases t
    ·omega
   ·left; omega
  clear t
  rcases aP with q1 | ⟨q1, q2⟩
  ·have aF : decide (v < 48) = true := decide_eq_true q1
   go_enter Tryz.func256, Tryz.ntmps256
   go_wp2_with fail
   refine G.out.mono ?_;rintro e w2 ⟨rfl, nq, u⟩
   have j : Same w w2 := by rw [u]; exact (Same.refl _).drewN _
   have m := hid (L.out.same j);have A : Hid (Fr (· = pb) w w2) := hid (Fr.of_same j);clear j u G L;have c1 := m.out.row.c1;have z1 := m.out.row.thaw 1;simp only at c1;have aY := ai.out;have q : Hid (PAt (w2.setCell ⟨pb, 1, none⟩ (.int .i64 ((a : Int) + 1))) pb s (a + 1, 0)) := hid (PAt.on m.out);have B : Hid (Fr (· = pb) w (w2.setCell ⟨pb, 1, none⟩ (.int .i64 ((a : Int) + 1)))) := hid (A.out.trans (z0l 1 _));have H := hid (U.out _ q.out)
   go_wp2_with fail
   generalize w2.setCell ⟨pb, 1, none⟩ (.int .i64 ((a : Int) + 1)) = w3 at *
   refine H.out.mono ?_;rintro e w4 ⟨rfl, aZ, M⟩
   have y : Same w3 w4 := by rw [M]; exact (Same.refl _).drewN _
   have N := hid (q.out.same y);have af := hid (B.out.trans (Fr.of_same y));clear y M H q B m A c1 z1;have ag := N;have ah := af;have T := hid (bn.out w4 ag.out)
   go_wp2_with fail
   refine T.out.mono ?_;rintro e w6 ⟨rfl, aD, aE⟩;have aQ := hid aD;have aR := hid (ah.out.trans aE);clear aD aE T;go_wp2
   go_loopw [3] (fun sv wr => sv = .string ⟨#[61]⟩ /\ Hid (PAt wr pb s F) /\ Hid (Fr (· = pb) w wr)) (fun _ _ => 0)
   case atStart => exact ⟨rfl, aQ, aR⟩
   case round =>
    obtain ⟨rfl, o, C⟩ := hrel;have p := hid (bo.out wr o.out)
    go_wp2_with fail
    refine p.out.mono ?_;rintro e w7 ⟨rfl, ar, g⟩
    have b : Same wr w7 := by rw [g]; exact (Same.refl _).drewN _
    have i := hid (o.out.same b);have r := hid (C.out.trans (Fr.of_same b));clear b g p;go_wp2;go_ret;exact ⟨by rw [HD.out]; rfl, by rw [HD.out]; exact i.out, r.out⟩
  ·have bF : ¬ v < 48 := by omega
   have aF : decide (v < 48) = false := decide_eq_false bF;have bd : decide (57 < v) = true := decide_eq_true q2
   go_enter Tryz.func256, Tryz.ntmps256
   go_wp2_with fail
   refine G.out.mono ?_;rintro e w2 ⟨rfl, nq, u⟩
   have j : Same w w2 := by rw [u]; exact (Same.refl _).drewN _
   have m := hid (L.out.same j);have A : Hid (Fr (· = pb) w w2) := hid (Fr.of_same j);clear j u G L;have c1 := m.out.row.c1;have z1 := m.out.row.thaw 1;simp only at c1;have aY := ai.out;have q : Hid (PAt (w2.setCell ⟨pb, 1, none⟩ (.int .i64 ((a : Int) + 1))) pb s (a + 1, 0)) := hid (PAt.on m.out);have B : Hid (Fr (· = pb) w (w2.setCell ⟨pb, 1, none⟩ (.int .i64 ((a : Int) + 1)))) := hid (A.out.trans (z0l 1 _));have H := hid (U.out _ q.out)
   go_wp2_with fail
   generalize w2.setCell ⟨pb, 1, none⟩ (.int .i64 ((a : Int) + 1)) = w3 at *
   refine H.out.mono ?_;rintro e w4 ⟨rfl, aZ, M⟩
   have y : Same w3 w4 := by rw [M]; exact (Same.refl _).drewN _
   have N := hid (q.out.same y);have af := hid (B.out.trans (Fr.of_same y));clear y M H q B m A c1 z1;have bq := hid (U.out w4 N.out)
   go_wp2_with fail
   refine bq.out.mono ?_;rintro e w5 ⟨rfl, bt, aq⟩
   have V : Same w4 w5 := by rw [aq]; exact (Same.refl _).drewN _
   have ag := hid (N.out.same V);have ah := hid (af.out.trans (Fr.of_same V));clear V aq bq;have T := hid (bn.out w5 ag.out)
   go_wp2_with fail
   refine T.out.mono ?_;rintro e w6 ⟨rfl, aD, aE⟩;have aQ := hid aD;have aR := hid (ah.out.trans aE);clear aD aE T;go_wp2
   go_loopw [3] (fun sv wr => sv = .string ⟨#[61]⟩ /\ Hid (PAt wr pb s F) /\ Hid (Fr (· = pb) w wr)) (fun _ _ => 0)
   case atStart => exact ⟨rfl, aQ, aR⟩
   case round =>
    obtain ⟨rfl, o, C⟩ := hrel;have p := hid (bo.out wr o.out)
    go_wp2_with fail
    refine p.out.mono ?_;rintro e w7 ⟨rfl, ar, g⟩
    have b : Same wr w7 := by rw [g]; exact (Same.refl _).drewN _
    have i := hid (o.out.same b);have r := hid (C.out.trans (Fr.of_same b));clear b g p;go_wp2;go_ret;exact ⟨by rw [HD.out]; rfl, by rw [HD.out]; exact i.out, r.out⟩

set_option maxHeartbeats 3200000
set_option maxRecDepth 100000
theorem owns_set {w : World} {B g k n cap : Nat} {e : TypeId} {vs : List Value} (h : w.ownsRow B e k (.slice (some ⟨g, 0, none⟩) n cap) n vs) (i : Nat) (u : Value) : (w.setCell ⟨g, i, none⟩ u).ownsRow B e k (.slice (some ⟨g, 0, none⟩) n cap) n (vs.set i u) := by
 rcases h.2 with ⟨h0, -⟩ | ⟨g', cap', cur, hv, hb, hh, hc, hm, hs, ht⟩
 ·cases h0
 ·injection hv with hv1 hv2 hv3
  obtain rfl : g = g' := by injection hv1 with h; injection h
  subst hv3;refine ⟨by rw [List.length_set]; exact h.1, .inr ⟨g, cap, cur.setIfInBounds i u, rfl, hb, ?_, hc, hm, by simpa using hs, ?_⟩⟩
  ·simp [World.setCell, Array.getElem?_modify, hh]
  ·rw [<- ht, Array.toList_setIfInBounds, List.take_set]
theorem Cat.unsnoc {α : Type} {k : Nat} {C : α -> List Value -> Prop} {x : α} : ∀ {xs : List α} {vs : List Value}, Cat k C (xs ++ [x]) vs -> ∃ us cs, vs = us ++ cs /\ us.length = xs.length * k /\ Cat k C xs us /\ cs.length = k /\ C x cs
 | [], vs, h => by
  obtain ⟨cs, a, rfl, hl, hx, hr⟩ := h;obtain rfl : a = [] := hr;exact ⟨[], cs, by simp, by simp, rfl, hl, hx⟩
 | y :: r, vs, h => by
  obtain ⟨cs, a, rfl, hl, hx, hr⟩ := h;obtain ⟨us, ds, rfl, h1, h2, h3, h4⟩ := Cat.unsnoc hr;exact ⟨cs ++ us, ds, by simp, by rw [List.length_append, hl, h1, List.length_cons, Nat.succ_mul]; omega, ⟨cs, us, rfl, hl, hx, h2⟩, h3, h4⟩
theorem Gw.last {n B g off m cap : Nat} {w : World} {xs : List Pt} {x : Pt} {vs : List Value} (h : Gw 263 4 (CPn n) B w (.slice (some ⟨g, off, none⟩) m cap) (xs ++ [x]) vs) :
  off = 0 /\ B <= g /\ g < w.heap.size /\ w.cell? ⟨g, xs.length * 4, none⟩ = some (.int .i64 x.k) /\ w.cell? ⟨g, xs.length * 4 + 1, none⟩ = some (.string x.t) /\ (∀ i, w.frozen? ⟨g, i, none⟩ = false) := by
 obtain ⟨us, cs, rfl, hl, -, hc, hx⟩ := Cat.unsnoc h.cat;obtain ⟨h0, ⟨c, z, hh⟩, a⟩ := z5v h.own rfl;have b := h.own.lt g rfl;obtain ⟨q, v, -, rfl, -⟩ := CP.out hx;refine ⟨h0, b.1, b.2, ?_, ?_, fun i => ?_⟩
 ·exact a _ _ (by rw [List.getElem?_append_right (by omega), hl]; simp)
 ·exact a _ _ (by rw [List.getElem?_append_right (by omega), hl]; simp)
 ·rcases h.own.2 with ⟨hv, -⟩ | ⟨g', cap', cur', hv, -, hg, -⟩
  ·cases hv
  ·injection hv with hv
   injection hv with hv
   injection hv with hv
   subst hv
   simp [World.frozen?, hg]
theorem Gw.text {n B g m cap : Nat} {w : World} {xs : List Pt} {x : Pt} {vs : List Value} (h : Gw 263 4 (CPn n) B w (.slice (some ⟨g, 0, none⟩) m cap) (xs ++ [x]) vs) (hm : m = xs.length + 1) (t : BA) :
  Gw 263 4 (CPn n) B (w.setCell ⟨g, xs.length * 4 + 1, none⟩ (.string t)) (.slice (some ⟨g, 0, none⟩) m cap) (xs ++ [.mk x.k t x.n x.cs]) (vs.set (xs.length * 4 + 1) (.string t)) := by
 obtain ⟨us, cs, rfl, hl, d, hc, hx⟩ := Cat.unsnoc h.cat
 have a : ∀ b, Oth B (.slice (some ⟨g, 0, none⟩) m cap) w b -> (w.setCell ⟨g, xs.length * 4 + 1, none⟩ (.string t)).heap[b]? = w.heap[b]? := fun b hb => Below.heap_setCell _ _ _ _ (fun e => hb.2.2 (by rw [e]; rfl))
 have hS : ∀ b, Oth B (.slice (some ⟨g, 0, none⟩) m cap) w b -> Oth B (.slice (some ⟨g, 0, none⟩) m cap) (w.setCell ⟨g, xs.length * 4 + 1, none⟩ (.string t)) b := fun b hb => ⟨hb.1, by simpa [World.setCell] using hb.2.1, hb.2.2⟩
 have c := owns_set (n := m) (by have := h.own; rw [List.length_append] at this; rw [hm]; rw [hm] at this; exact this) (xs.length * 4 + 1) (.string t);refine ⟨by rw [List.length_append]; rw [hm] at c ⊢; exact c, ?_⟩;obtain ⟨q, v, rfl, rfl, hs⟩ := CP.out hx
 have he : (us ++ [.int .i64 x.k, .string x.t, .string x.n, v]).set (xs.length * 4 + 1) (.string t) = us ++ [.int .i64 x.k, .string t, .string x.n, v] := by
  rw [List.set_append_right _ _ (by omega), hl]; simp
 rw [he];exact Cat.snoc rfl (CP.mk (hs.keep a hS)) (d.mono (fun _ _ hy => CP.keep a hS hy))
theorem gw_new (n B : Nat) (w : World) (hB : B <= w.heap.size) : Gw 263 4 (CPn n) B (w.alloc (.cells #[] 263)) (.slice (some ⟨w.heap.size, 0, none⟩) 0 0) [] [] :=
 ⟨zdk w #[] 263 B 0 4 rfl hB (by omega), rfl⟩
def AddPost (B n : Nat) (w : World) (v : Value) (ys : List Pt) (e : Ending) (w' : World) : Prop :=
 ∃ a cap vs, e = .returned (.slice a ys.length cap) /\ Gw 263 4 (CPn (n + 1)) B w' (.slice a ys.length cap) ys vs /\ Fr (fun b => v.ownBlock = some b) w w'
theorem zey {acc : List Pt} {x : Pt} (h : x.k ≠ 1) (c : UInt8) : addF (acc ++ [x]) c = acc ++ [x] ++ [tx [c]] := zd2 (fun y hy => by
 rw [List.getLast?_concat] at hy;obtain rfl := Option.some.inj hy
 exact h) c
theorem zez (acc : List Pt) {x : Pt} (h : x.k = 1) (c : UInt8) : addF (acc ++ [x]) c = acc ++ [.mk x.k (x.t ++ ⟨#[c]⟩) x.n x.cs] := by
 unfold addF
 rw [List.getLast?_concat];simp only;rw [if_pos h, List.dropLast_concat]
 have : ba (x.t.data.toList ++ [c]) = x.t ++ ⟨#[c]⟩ := by
  apply ByteArray.ext; apply Array.toList_inj.1
  rw [ByteArray.data_append, Array.toList_append]
 rw [this]
theorem zgw {W : World} {b : Nat} {c : UInt8} (h : W.cell? ⟨b, 0, none⟩ = some (.int .u8 c.toNat)) : (convert 115 9 (.slice (some ⟨b, 0, none⟩) 1 1)).run Tryz.prog W = .ok (.string ⟨#[c]⟩) W :=
 run_convert_bytes_back (P := Tryz.prog) _ 115 9 5 ⟨b, 0, none⟩ 1 [c] Tryz.underlying115 Tryz.underlying5 Tryz.underlying9 (fun j hj => by
  rw [Addr.add_mid, Nat.zero_add]
  have a : j = 0 := by simp at hj; omega
  subst a
  exact h)
theorem ownlt {n B : Nat} {w : World} {v : Value} {xs : List Pt} {vs : List Value} (h : Gw 263 4 (CPn n) B w v xs vs) : ∀ b, v.ownBlock = some b -> b < w.heap.size := fun b hb => (h.own.lt b hb).2
theorem zj5 (c : UInt8) : addF [] c = [] ++ [tx [c]] := rfl
theorem z7r (c : UInt8) (B n : Nat) (w : World) (a : Option Addr) (cap : Nat) (xs : List Pt) (vs : List Value) (hB : B <= w.heap.size) (h : Gw 263 4 (CPn (n + 1)) B w (.slice a xs.length cap) xs vs) (hl : xs.length <= 2000) (ht : ∀ x, xs.getLast? = some x -> x.t.size <= 2000) :
  Calls Tryz.prog 230 #[.slice a xs.length cap, .int .i64 c.toNat] w (AddPost B n w (.slice a xs.length cap) (addF xs c)) := by
 obtain ⟨i0, hi, A, C, D⟩ := info_parts zhi;have R := u8_in c;have T := c.toNat_lt
 rcases List.eq_nil_or_concat xs with rfl | ⟨ys, x, rfl⟩
 ·have HA := hid (zj5 c)
  have f := hid (ownlt h);have l : Fr (fun _ => False) w (w.alloc (.cells #[.int .u8 c.toNat] 5)) := (Fr.refl _ w).alloc _;have i := hid (h.fr (kpP _) l (fun _ _ _ hf => hf));have o : Hid (Fr (fun b => (Value.slice a ([] : List Pt).length cap).ownBlock = some b) w (w.alloc (.cells #[.int .u8 c.toNat] 5))) := hid ((Fr.refl _ w).alloc _);have q : (w.alloc (.cells #[.int .u8 c.toNat] 5)).heap.size = w.heap.size + 1 := World.size_alloc _ _;obtain ⟨m, HM⟩ := nmd (([] : List Pt).length);have j := i.out.own;rw [<- HM.out] at hl j o i f ⊢;have HO := hid j;have E := z6l w c;clear ht l j h
  have J : ¬ 0 < m := by have := HM.out; simp at this; omega
  go_enter Tryz.func230, Tryz.ntmps230
  go_wp2_with (at_builtin; refine wpList_append_lies _ rfl _ _ 199 rfl B 263 i0 _ 4 64 Tryz.underlying199 hi A C D rfl (by decide) _ _ _ rfl (HO.out.alloc _) _ 1 1 [.int .i64 1, .string ⟨#[c]⟩, .string ⟨#[]⟩, .slice none 0 0] rfl rfl (z1v _ #[.int .i64 1, .string ⟨#[c]⟩, .string ⟨#[]⟩, .slice none 0 0] _ q) (by simp [Value.oneCell']) (by decide) (by unfold maxLen; omega) (by omega) (by simp; omega) (w.heap.size + 1 + 1) (by simp) ?_; intro g5 c5 w5 hown5 hgrow5 hg5 _; have v := hid hown5; have r := hid hgrow5; have s := hid hg5; clear hown5 hgrow5 hg5)
  go_ret;rw [HA.out]
  have d : ([] ++ [tx [c]]).length = m + 1 := by rw [List.length_append, HM.out]; rfl
  refine ⟨some ⟨g5, 0, none⟩, c5, vs ++ [.int .i64 1, .string ⟨#[c]⟩, .string ⟨#[]⟩, .slice none 0 0], by rw [d]; rfl, ?_, ?_⟩
  ·rw [d]
   exact Gw.push (B2 := w.heap.size + 1) (k := 4) (x := tx [c]) (i.out) (kpP _) HM.out (CP.mk (Sl.nil _ _ _ _)) (by omega) (fun b hb => by have := f.out b hb; omega) rfl r.out v.out (by rcases s.out with z | z; exact .inl z; right; rw [z, q]; omega)
  ·exact (o.out.alloc _).grown r.out (fun g hg => .inr hg)
 ·simp only [List.concat_eq_append] at *
  by_cases hk : x.k = 1
  ·have HA := hid (zez ys hk c)
   have hx := ht x (by rw [List.getLast?_concat])
   obtain ⟨b, rfl⟩ : ∃ g, a = some ⟨g, 0, none⟩ := by
    obtain ⟨a', F, hv, -, -, hx⟩ := z0j h.own
    injection hv with h1 h2 h3
    subst h1;exact hx (by rw [List.length_append]; simp)
   obtain ⟨-, U, u, c0, c1, G⟩ := Gw.last h;obtain ⟨m, HM⟩ := nmd (ys.length);have L : Hid ((ys ++ [x]).length = m + 1) := hid (by rw [List.length_append, HM.out]; rfl);have z1 := G (m * 4 + 1);rw [<- HM.out] at c0 c1;rw [hk] at c0;rw [L.out] at hl h ⊢;have HH := hid h;have E := zgw (W := (w.alloc (.cells #[.int .u8 c.toNat] 5)).drew) (b := w.heap.size) (c := c) ((z02 w #[.int .u8 c.toNat] 5).c0)
   generalize hxt : x.t = t at *
   have V := hid hxt;clear ht G h hxt;have H : (w.alloc (.cells #[.int .u8 c.toNat] 5)).cell? ⟨b, m * 4 + 1, none⟩ = some (.string t) := (World.cell?_of_block (Below.heap_alloc _ _ _ u)).trans c1;have Y : (w.alloc (.cells #[.int .u8 c.toNat] 5)).frozen? ⟨b, m * 4 + 1, none⟩ = false := (World.frozen?_of_block (Below.heap_alloc _ _ _ u)).trans z1
   have hm : m <= 2000 := by omega
   have N : (⟨#[c]⟩ : BA).size = 1 := rfl
   have O : ¬ 9223372036854775807 < t.size + 1 := by omega
   have M : Hid (∀ W, Fr (fun _ => False) w W -> Gw 263 4 (CPn (n + 1)) B (W.setCell ⟨b, m * 4 + 1, none⟩ (.string (t ++ ⟨#[c]⟩))) (.slice (some ⟨b, 0, none⟩) (m + 1) cap) (ys ++ [.mk x.k (t ++ ⟨#[c]⟩) x.n x.cs]) (vs.set (m * 4 + 1) (.string (t ++ ⟨#[c]⟩)))) := hid (fun W hW => by
    have := Gw.text (HH.out.fr (kpP _) hW (fun _ _ _ hf => hf)) (by rw [HM.out]) (t ++ ⟨#[c]⟩)
    rw [<- HM.out] at this; exact this)
   have d : (ys ++ [Pt.mk x.k (t ++ ⟨#[c]⟩) x.n x.cs]).length = m + 1 := by rw [List.length_append, HM.out]; rfl
   have I := hid d;clear d
   go_enter Tryz.func230, Tryz.ntmps230
   go_wp2
   go_region
   all_goals go_wp2
   all_goals go_ret
   rw [HA.out];refine ⟨some ⟨b, 0, none⟩, cap, vs.set (m * 4 + 1) (.string (t ++ ⟨#[c]⟩)), by rw [I.out]; rfl, ?_, ?_⟩
   ·rw [I.out]
    exact Gw.fr (M.out w (Fr.refl _ _)) (kpP _) (X := fun _ => False) (((Fr.refl _ _).alloc _).drew) (fun _ _ _ hf => hf)
   ·exact (((Fr.refl (fun g => (Value.slice (some ⟨b, 0, none⟩) (m + 1) cap).ownBlock = some g) w).setCell (p := ⟨b, m * 4 + 1, none⟩) (.inr rfl) _).alloc _).drew
  ·have c0 : ∀ b, a = some ⟨b, 0, none⟩ -> w.cell? ⟨b, ys.length * 4, none⟩ = some (.int .i64 x.k) /\ (w.alloc (.cells #[.int .u8 c.toNat] 5)).cell? ⟨b, ys.length * 4, none⟩ = some (.int .i64 x.k) := fun b hb => by
    subst hb;obtain ⟨-, -, u, c0, -⟩ := Gw.last h;exact ⟨c0, (World.cell?_of_block (Below.heap_alloc _ _ _ u)).trans c0⟩
   have HA := hid (zey (acc := ys) hk c);have f := hid (ownlt h);have l : Fr (fun _ => False) w (w.alloc (.cells #[.int .u8 c.toNat] 5)) := (Fr.refl _ w).alloc _;have i := hid (h.fr (kpP _) l (fun _ _ _ hf => hf));have o : Hid (Fr (fun b => (Value.slice a (ys ++ [x]).length cap).ownBlock = some b) w (w.alloc (.cells #[.int .u8 c.toNat] 5))) := hid ((Fr.refl _ w).alloc _);have q : (w.alloc (.cells #[.int .u8 c.toNat] 5)).heap.size = w.heap.size + 1 := World.size_alloc _ _;obtain ⟨m, HM⟩ := nmd ((ys ++ [x]).length);have j := i.out.own;rw [<- HM.out] at hl j o i f ⊢;have HO := hid j;have E := z6l w c;clear ht l j h
   obtain ⟨b, rfl⟩ : ∃ g, a = some ⟨g, 0, none⟩ := by
    obtain ⟨a', F, hv, -, -, hx⟩ := z0j (HO.out)
    injection hv with h1 h2 h3
    subst h1;exact hx (by rw [HM.out, List.length_append]; simp)
   obtain ⟨p, HP⟩ := nmd (ys.length);have y : Hid (m = p + 1) := hid (by rw [HM.out, HP.out, List.length_append]; rfl);obtain ⟨c1, H⟩ := c0 b rfl;clear c0;rw [<- HP.out] at c1 H
   have Z : (m : Int) - 1 = (p : Int) := by have := y.out; omega
   have J : (0 : Int) < (m : Int) := by have := y.out; omega
   have aa : p < m := by have := y.out; omega
   have af : (x.k == 1) = false := beq_eq_false_iff_ne.2 hk
   generalize x.k = xk at *
   clear hk
   go_enter Tryz.func230, Tryz.ntmps230
   go_wp2_with (at_builtin; refine wpList_append_lies _ rfl _ _ 199 rfl B 263 i0 _ 4 64 Tryz.underlying199 hi A C D rfl (by decide) _ _ _ rfl (HO.out.alloc _) _ 1 1 [.int .i64 1, .string ⟨#[c]⟩, .string ⟨#[]⟩, .slice none 0 0] rfl rfl (z1v _ #[.int .i64 1, .string ⟨#[c]⟩, .string ⟨#[]⟩, .slice none 0 0] _ q) (by simp [Value.oneCell']) (by decide) (by unfold maxLen; omega) (by omega) (by simp; omega) (w.heap.size + 1 + 1) (by simp) ?_; intro g5 c5 w5 hown5 hgrow5 hg5 _; have v := hid hown5; have r := hid hgrow5; have s := hid hg5; clear hown5 hgrow5 hg5)
   go_ret;rw [HA.out]
   have d : ((ys ++ [x]) ++ [tx [c]]).length = m + 1 := by rw [List.length_append, HM.out]; rfl
   refine ⟨some ⟨g5, 0, none⟩, c5, vs ++ [.int .i64 1, .string ⟨#[c]⟩, .string ⟨#[]⟩, .slice none 0 0], by rw [d]; rfl, ?_, ?_⟩
   ·rw [d]
    exact Gw.push (B2 := w.heap.size + 1) (k := 4) (x := tx [c]) (i.out) (kpP _) HM.out (CP.mk (Sl.nil _ _ _ _)) (by omega) (fun b hb => by have := f.out b hb; omega) rfl r.out v.out (by rcases s.out with z | z; exact .inl z; right; rw [z, q]; omega)
   ·exact (o.out.alloc _).grown r.out (fun g hg => .inr hg)
end Go.Proofs.YtdkkkeoicekdgaaGreatDoor.Dr

end
