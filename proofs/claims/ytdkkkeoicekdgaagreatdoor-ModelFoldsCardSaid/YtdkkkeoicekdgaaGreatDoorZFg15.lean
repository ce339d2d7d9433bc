/- Right: the parts are counted. -/
import Derived.Laws.EntriesVeiled
import Derived.Test.YtdkkkeoicekdgaaGreatDoorZFg31

section

namespace Go.Proofs.YtdkkkeoicekdgaaGreatDoor
set_option maxHeartbeats 3200000
set_option maxRecDepth 100000
open Go.Lib (hid)
open Go.RowKit
theorem Sl.at_ {α : Type} {k : Nat} {C : α -> List Value -> Prop} {w : World} {S : Nat -> Prop} {a : Option Addr} {n cap : Nat} {xs : List α} (h : Sl k C w S (.slice a n cap) xs) {j : Nat} {x : α} (hj : xs[j]? = some x) : ∃ b off, a = some ⟨b, off, none⟩ /\ S b /\ At k C w b (off + j * k) x := by
 obtain ⟨a', d, hv, -, -, hx⟩ := h
 injection hv with h1 h2 h3
 subst h1;obtain ⟨b, off, ha, hb, c⟩ := hx (by intro e; subst e; simp at hj);exact ⟨b, off, ha, hb, c j x hj⟩
theorem Sl.form3 {α : Type} {k : Nat} {C : α -> List Value -> Prop} {w : World} {S : Nat -> Prop} {v : Value} {xs : List α} (h : Sl k C w S v xs) : ∃ a cap, v = .slice a xs.length cap := by
 obtain ⟨a, cap, hv, -⟩ := h;exact ⟨a, cap, hv⟩
theorem At.p {w : World} {S : Nat -> Prop} {n b o : Nat} {x : Pt} (h : At 4 (CP w S n) w b o x) : w.cell? ⟨b, o, none⟩ = some (.int .i64 x.k) /\ w.cell? ⟨b, o + 1, none⟩ = some (.string x.t) /\ w.cell? ⟨b, o + 2, none⟩ = some (.string x.n) /\ ∃ m a cap, n = m + 1 /\ w.cell? ⟨b, o + 3, none⟩ = some (.slice a x.cs.length cap) /\ SlC w S m (.slice a x.cs.length cap) x.cs := by
 obtain ⟨cs, -, hx, hc⟩ := h;obtain ⟨m, v, rfl, rfl, hs⟩ := hx.out;obtain ⟨a, cap, rfl⟩ := hs.form3;exact ⟨hc 0 _ rfl, hc 1 _ rfl, hc 2 _ rfl, m, a, cap, rfl, hc 3 _ rfl, hs⟩
theorem At.c {w : World} {S : Nat -> Prop} {n b o : Nat} {x : Cs} (h : At 2 (CC w S n) w b o x) : w.cell? ⟨b, o, none⟩ = some (.string x.key) /\ ∃ a cap, w.cell? ⟨b, o + 1, none⟩ = some (.slice a x.kids.length cap) /\ SlP w S n (.slice a x.kids.length cap) x.kids := by
 obtain ⟨cs, -, ⟨v, rfl, hs⟩, hc⟩ := h;obtain ⟨a, cap, rfl⟩ := hs.form3;exact ⟨hc 0 _ rfl, a, cap, hc 1 _ rfl, hs⟩
abbrev z1j (cb db vb : Nat) : Value := .func (.func 249) #[] #[.pointer (some ⟨cb, 0, none⟩), .pointer (some ⟨db, 0, none⟩), .pointer (some ⟨vb, 0, none⟩)]
structure VEnv (M cb db vb c d : Nat) (w : World) : Prop where
 cnt : Row w cb 3 [.int .i64 c]
 dep : Row w db 3 [.int .i64 d]
 vis : Row w vb 282 [z1j cb db vb]
 n1 : cb ≠ db
 n2 : vb ≠ cb
 n3 : vb ≠ db
 le : M <= cb /\ M <= db /\ M <= vb
section
variable {M cb db vb c d : Nat} {w w' : World}
theorem VEnv.alloc (h : VEnv M cb db vb c d w) (o : Obj) : VEnv M cb db vb c d (w.alloc o) := ⟨h.cnt.alloc o, h.dep.alloc o, h.vis.alloc o, h.n1, h.n2, h.n3, h.le⟩
theorem VEnv.set (h : VEnv M cb db vb c d w) (c' d' : Nat) : VEnv M cb db vb c' d' ((w.setCell ⟨cb, 0, none⟩ (.int .i64 c')).setCell ⟨db, 0, none⟩ (.int .i64 d')) :=
 ⟨(h.cnt.set 0 (.int .i64 c')).keep (Below.heap_setCell _ _ _ _ h.n1), Row.set (cs := [.int .i64 d]) (h.dep.keep (Below.heap_setCell _ _ _ _ h.n1.symm)) 0 (.int .i64 d'), h.vis.keep ((Below.heap_setCell _ _ _ _ h.n3).trans (Below.heap_setCell _ _ _ _ h.n2)), h.n1, h.n2, h.n3, h.le⟩
theorem VEnv.low (h : VEnv M cb db vb c d w) {a : World} (hf : Fr (fun k => k = cb ∨ k = db) a w') : ∀ b, b < M -> b < a.heap.size -> w'.heap[b]? = a.heap[b]? := fun b hb hlt => hf.block b hlt (fun e => by have := h.le; omega)
end
abbrev XX (cb db : Nat) (k : Nat) : Prop := k = cb ∨ k = db
abbrev Lt (M : Nat) (b : Nat) : Prop := b < M
theorem SlP.low {M cb db n : Nat} {w w' : World} {v : Value} {xs : List Pt} (h : SlP w (Lt M) n v xs) (hM : M <= w.heap.size) (hf : Fr (XX cb db) w w') (hc : M <= cb /\ M <= db) : SlP w' (Lt M) n v xs := h.keep (fun b hb => hf.block b (Nat.lt_of_lt_of_le hb hM) (fun e => by unfold Lt at hb; rcases e with e | e <;> omega)) (fun _ h => h)
theorem SlC.low {M cb db n : Nat} {w w' : World} {v : Value} {xs : List Cs} (h : SlC w (Lt M) n v xs) (hM : M <= w.heap.size) (hf : Fr (XX cb db) w w') (hc : M <= cb /\ M <= db) : SlC w' (Lt M) n v xs := h.keep (fun b hb => hf.block b (Nat.lt_of_lt_of_le hb hM) (fun e => by unfold Lt at hb; rcases e with e | e <;> omega)) (fun _ h => h)
def z4a (n : Nat) : Prop := ∀ (M cb db vb c d br : Nat) (w : World) (a : Option Addr) (cap : Nat) (xs : List Pt), VEnv M cb db vb c d w -> SlP w (Lt M) n (.slice a xs.length cap) xs -> c <= 1000 -> cntPs xs <= 2000 -> br + cntPs xs <= 4000 -> d <= 4000 ->
 Calls Tryz.prog 249 #[.slice a xs.length cap, .int .i64 br, .pointer (some ⟨cb, 0, none⟩), .pointer (some ⟨db, 0, none⟩), .pointer (some ⟨vb, 0, none⟩)] w fun e w' =>
  e = .returned (.tuple #[]) /\ (∃ C D, VEnv M cb db vb C D w' /\ Vi c d br (cntPs xs) (dpPs xs) C D /\ D <= 4000) /\ Fr (XX cb db) w w'
theorem z4z (n : Nat) (HV : ∀ m, m < n -> z4a m) : z4a n := by
 intro M cb db vb c d br w a cap xs env hxs hc hcn hbr hd;have bj := env.cnt.lt;have bm := env.dep.lt;have bn := env.vis.lt;have hM := env.le
 have aO : M <= w.heap.size := by omega
 have bh := z1y xs;have c0 := env.cnt.c0;have c1 := env.dep.c0;have z0 := env.cnt.thaw 0;have z1 := env.dep.thaw 0;obtain ⟨L, HL⟩ := nmd (xs.length);rw [<- HL.out] at hxs ⊢
 have bo : L <= 2000 := by have := HL.out; omega
 obtain ⟨C0, E⟩ := nmd (c + L);obtain ⟨D0, F⟩ := nmd (max d br)
 have aP : ((c : Int) + (L : Int)) = (C0 : Int) := by have := E.out; omega
 have aQ : max (d : Int) (br : Int) = (D0 : Int) := by have := F.out; omega
 have Z : (w.setCell ⟨cb, 0, none⟩ (.int .i64 C0)).cell? ⟨db, 0, none⟩ = some (.int .i64 d) := (World.cell?_setCell_other w _ _ _ (fun e => by injection e with e; exact env.n1 e)).trans c1;have aa : Hid (VEnv M cb db vb C0 D0 ((w.setCell ⟨cb, 0, none⟩ (.int .i64 C0)).setCell ⟨db, 0, none⟩ (.int .i64 D0))) := hid (env.set C0 D0);have G : Hid (Fr (XX cb db) w ((w.setCell ⟨cb, 0, none⟩ (.int .i64 C0)).setCell ⟨db, 0, none⟩ (.int .i64 D0))) := hid (((Fr.refl _ w).setCell (p := ⟨cb, 0, none⟩) (.inr (.inl rfl)) _).setCell (p := ⟨db, 0, none⟩) (.inr (.inr rfl)) _);have af := hid (hxs.low aO G.out ⟨hM.1, hM.2.1⟩);have ag : Hid (Vi c d br (L + 0) 0 C0 D0) := hid (by have := E.out; have := F.out; exact ⟨by omega, by omega, fun _ => ⟨by omega, by omega⟩⟩);have u : Hid (D0 <= 4000) := hid (by have := F.out; omega)
 have bi : C0 <= 3000 := by have := E.out; omega
 have z : Hid (cntPs xs = L + subs xs) := hid (by have := HL.out; omega);have aR := hid HV;clear env hxs HV
 go_enter Tryz.func249, Tryz.ntmps249
 go_wp2
 generalize hW : (w.setCell ⟨cb, 0, none⟩ (.int .i64 C0)).setCell ⟨db, 0, none⟩ (.int .i64 D0) = W2 at *
 clear hW Z c0 c1 z0 z1 aP aQ
 go_loopw [20] (fun i wr => ∃ k C D : Nat, k <= L /\ i = .int .i64 k /\ Hid (VEnv M cb db vb C D wr) /\ Hid (Fr (XX cb db) w wr) /\ Hid (SlP wr (Lt M) n (.slice a L cap) xs) /\ Hid (Vi c d br (L + subs (xs.take k)) (dpPs (xs.take k)) C D) /\ Hid (D <= 4000)) (fun i _ => L - (intOf i).toNat)
 case atStart => exact ⟨0, C0, D0, Nat.zero_le _, rfl, aa, G, af, hid (by simpa [subs, dpPs] using ag.out), u⟩
 case round =>
  obtain ⟨k, C, D, hk, rfl, HE, HF, HX, HI, HD⟩ := hrel;clear aa G af ag u
  by_cases hlt : k < L
  ·obtain ⟨x, hx⟩ : ∃ x, xs[k]? = some x := ⟨_, List.getElem?_eq_getElem (by have := HL.out; omega)⟩
   obtain ⟨b, H, rfl, hb, ah⟩ := HX.out.at_ hx;obtain ⟨h0, h1, h2, m, a1, p1, ai, h3, l⟩ := ah.p;have bq := hid hx;have aj := hid (subs_at hx);have aq := hid (z9z hx);have ar := hid (zb6 hx);obtain ⟨pk, pt, pn, cs⟩ := x;simp only [Pt.k, Pt.t, Pt.n, Pt.cs] at h0 h1 h2 h3 l aj aq ar
   have au : M <= wr.heap.size := by have := HF.out.size; omega
   obtain ⟨L1, I⟩ := nmd (cs.length);rw [<- I.out] at h3 l;have R := z02 wr #[.int .i64 pk, .string pt, .string pn, .slice a1 L1 p1] 263;have g3 := R.c3;have aw : Hid (VEnv M cb db vb C D (wr.alloc (.cells #[.int .i64 pk, .string pt, .string pn, .slice a1 L1 p1] 263))) := hid (HE.out.alloc _);have ax : Hid (Fr (XX cb db) w (wr.alloc (.cells #[.int .i64 pk, .string pt, .string pn, .slice a1 L1 p1] 263))) := hid (HF.out.alloc _);have ay : Hid (SlP (wr.alloc (.cells #[.int .i64 pk, .string pt, .string pn, .slice a1 L1 p1] 263)) (Lt M) n (.slice (some ⟨b, H, none⟩) L cap) xs) := hid (HX.out.low au ((Fr.refl _ wr).alloc _) ⟨hM.1, hM.2.1⟩);have J : Hid (SlC (wr.alloc (.cells #[.int .i64 pk, .string pt, .string pn, .slice a1 L1 p1] 263)) (Lt M) m (.slice a1 L1 p1) cs) := hid (l.low au ((Fr.refl _ wr).alloc _) ⟨hM.1, hM.2.1⟩);have aS := hid ai;clear R ah l hx hb ai;go_wp2
   generalize wr.alloc (.cells #[.int .i64 pk, .string pt, .string pn, .slice a1 L1 p1] 263) = w3 at *
   clear g3 h0 h1 h2 h3
   have bt : L1 <= 9223372036854775807 := by obtain ⟨_, _, hv, h1, h2, -⟩ := J.out; injection hv with _ e1 e2; omega
   go_loopw [27] (fun i wr => ∃ j C D : Nat, j <= L1 /\ i = .int .i64 j /\ Hid (VEnv M cb db vb C D wr) /\ Hid (Fr (XX cb db) w wr) /\ Hid (SlP wr (Lt M) n (.slice (some ⟨b, H, none⟩) L cap) xs) /\ Hid (SlC wr (Lt M) m (.slice a1 L1 p1) cs) /\ Hid (Vi c d br (L + subs (xs.take k) + cntCs (cs.take j)) (max (dpPs (xs.take k)) (dpCs (cs.take j))) C D) /\ Hid (D <= 4000)) (fun i _ => L1 - (intOf i).toNat)
   case atStart => exact ⟨0, C, D, Nat.zero_le _, rfl, aw, ax, ay, J, hid (by simpa [cntCs, dpCs] using HI.out), HD⟩
   case round =>
    obtain ⟨j, C2, D2, hj, rfl, az, o, N, O, T, U⟩ := hrel;clear aw ax ay J HI HE HF HX HD
    by_cases hlj : j < L1
    ·obtain ⟨y, hy⟩ : ∃ y, cs[j]? = some y := ⟨_, List.getElem?_eq_getElem (by have := I.out; omega)⟩
     obtain ⟨b2, aA, rfl, aT, A⟩ := O.out.at_ hy;obtain ⟨i0, a3, p3, i1, q⟩ := A.c;have aB := hid (zha hy);have aC := hid (z5q hy);have aD := hid (zb7 hy)
     have g : M <= wr.heap.size := by have := o.out.size; omega
     obtain ⟨key, kids⟩ := y;simp only [Cs.key, Cs.kids] at i0 i1 q aB aC aD;have bu := zch kids;have bv := aB.out;have bw := aj.out;have aU := z.out;have V := T.out
     have bz : C2 <= 4000 := by have := V.2.1; omega
     obtain ⟨L3, aE⟩ := nmd (kids.length);have aF := q;rw [<- aE.out] at i1;have R := z02 wr #[.string key, .slice a3 L3 p3] 284;have g0 := R.c0;have g1 := R.c1;have h : Hid (VEnv M cb db vb C2 D2 (wr.alloc (.cells #[.string key, .slice a3 L3 p3] 284))) := hid (az.out.alloc _);have r : Hid (Fr (XX cb db) w (wr.alloc (.cells #[.string key, .slice a3 L3 p3] 284))) := hid (o.out.alloc _);have HA := (Fr.refl (XX cb db) wr).alloc (.cells #[.string key, .slice a3 L3 p3] 284);have aG : Hid (SlP (wr.alloc (.cells #[.string key, .slice a3 L3 p3] 284)) (Lt M) n (.slice (some ⟨b, H, none⟩) L cap) xs) := hid (N.out.low g HA ⟨hM.1, hM.2.1⟩);have aH : Hid (SlC (wr.alloc (.cells #[.string key, .slice a3 L3 p3] 284)) (Lt M) m (.slice (some ⟨b2, aA, none⟩) L1 p1) cs) := hid (O.out.low g HA ⟨hM.1, hM.2.1⟩);have aI : Hid (SlP (wr.alloc (.cells #[.string key, .slice a3 L3 p3] 284)) (Lt M) m (.slice a3 kids.length p3) kids) := hid (q.low g HA ⟨hM.1, hM.2.1⟩);clear R A q aF hy aT HA N O o;have k0 := h.out.cnt.c0;have k2 := h.out.vis.c0
     by_cases hbig : 1000 < C2
     ·have hB : ((C2 : Int) > 1000) := by omega
      go_wp2;exact bodyPost_ret (v := .tuple #[]) (by simp [results, Tryz.results249, go_sem]) rfl ⟨rfl, ⟨C2, D2, h.out, by rw [aU]; exact V.over hbig (by omega), U.out⟩, r.out⟩
     ·obtain ⟨B1, X⟩ := nmd (br + 1)
      have bA : ((br : Int) + 1) = (B1 : Int) := by have := X.out; omega
      have aV := X.out;have f := hid (aR.out m (by have := aS.out; omega) M cb db vb C2 D2 B1 _ a3 p3 kids h.out aI.out (by omega) (by omega) (by omega) U.out);rw [<- aE.out] at f;clear aV
      go_wp2_with fail
      generalize wr.alloc (.cells #[.string key, .slice a3 L3 p3] 284) = w4 at *
      refine f.out.mono ?_;rintro e w5 ⟨rfl, ⟨C5, D5, aJ, Y, aK⟩, s⟩
      have B : M <= w4.heap.size := by have := r.out.size; omega
      have aW := hid aJ;have aX : Hid (Fr (XX cb db) w w5) := hid (r.out.trans s);have aY := hid (aG.out.low B s ⟨hM.1, hM.2.1⟩);have aZ := hid (aH.out.low B s ⟨hM.1, hM.2.1⟩);have bc := hid (V.step (by omega) (by rw [X.out] at Y; exact Y));have bd := hid aK;clear aJ Y aK s f r aG aH h aI;go_wp2;go_roundw
      case rel => exact ⟨j + 1, C5, D5, by omega, by go_num, aW, aX, aY, aZ, hid (by rw [aC.out, aD.out, <- Nat.add_assoc, <- Nat.max_assoc]; exact bc.out), bd⟩
      case measure => simp [intOf]; omega
    ·have aM : cs.take j = cs := List.take_of_length_le (by have := I.out; omega)
     have bf : Hid (Vi c d br (L + subs (xs.take (k + 1))) (dpPs (xs.take (k + 1))) C2 D2) := hid (by rw [aq.out, ar.out, <- Nat.add_assoc]; have := T.out; rw [aM] at this; exact this);clear aM T;go_wp2;go_roundw
     case rel => exact ⟨k + 1, C2, D2, by omega, by go_num, az, o, N, bf, U⟩
     case measure => simp [intOf]; omega
  ·have aN : xs.take k = xs := List.take_of_length_le (by have := HL.out; omega)
   have bg : Hid (Vi c d br (cntPs xs) (dpPs xs) C D) := hid (by have := HI.out; rw [aN, <- z.out] at this; exact this);clear aN;go_wp2
   go_end0
   exact ⟨rfl, ⟨C, D, HE.out, bg.out, HD.out⟩, HF.out⟩
theorem zft : ∀ n, z4a n := fun n => by
 induction n using Nat.strongRecOn with
 | _ n ih => exact z4z n ih
end Go.Proofs.YtdkkkeoicekdgaaGreatDoor

end

section

namespace Go.Proofs.YtdkkkeoicekdgaaGreatDoor
set_option maxHeartbeats 3200000
set_option maxRecDepth 100000
open Go.Lib (hid)
open Go.RowKit
theorem Fr.to_belowX {a w w' : World} (hb : Below a.heap.size a w) (h : Fr (XX a.heap.size (a.heap.size + 1)) w w') : Below a.heap.size a w' :=
 ⟨h.os.trans hb.os, h.tape.trans hb.tape, h.output.trans hb.output, Nat.le_trans hb.size h.size, fun k hk => (h.block k (Nat.lt_of_lt_of_le hk hb.size) (fun e => by rcases e with e | e <;> omega)).trans (hb.block k hk)⟩
theorem zam (n : Nat) (w : World) (a : Option Addr) (cap : Nat) (xs : List Pt) (hxs : SlP w (Old w) n (.slice a xs.length cap) xs) (hc : cntPs xs <= 2000) :
  Calls Tryz.prog 221 #[.slice a xs.length cap] w fun e w' => (∃ C D : Nat, e = .returned (.tuple #[.int .i64 C, .int .i64 D]) /\ Vi 0 0 0 (cntPs xs) (dpPs xs) C D) /\ Below w.heap.size w w' := by
 obtain ⟨L, HL⟩ := nmd (xs.length);have R0 : Row (((w.alloc (.cells #[.int .i64 0] 3)).alloc (.cells #[.int .i64 0] 3)).alloc (.cells #[z1j w.heap.size (w.heap.size + 1) (w.heap.size + 1 + 1)] 282)) w.heap.size 3 [.int .i64 0] := ((z02 w #[.int .i64 0] 3).alloc _).alloc _
 have R1 : Row (((w.alloc (.cells #[.int .i64 0] 3)).alloc (.cells #[.int .i64 0] 3)).alloc (.cells #[z1j w.heap.size (w.heap.size + 1) (w.heap.size + 1 + 1)] 282)) (w.heap.size + 1) 3 [.int .i64 0] := by
  have := (z02 (w.alloc (.cells #[.int .i64 0] 3)) #[.int .i64 0] 3).alloc (.cells #[z1j w.heap.size (w.heap.size + 1) (w.heap.size + 1 + 1)] 282)
  rw [World.size_alloc] at this; exact this
 have R2 : Row (((w.alloc (.cells #[.int .i64 0] 3)).alloc (.cells #[.int .i64 0] 3)).alloc (.cells #[z1j w.heap.size (w.heap.size + 1) (w.heap.size + 1 + 1)] 282)) (w.heap.size + 1 + 1) 282 [z1j w.heap.size (w.heap.size + 1) (w.heap.size + 1 + 1)] := by
  have := z02 ((w.alloc (.cells #[.int .i64 0] 3)).alloc (.cells #[.int .i64 0] 3)) #[z1j w.heap.size (w.heap.size + 1) (w.heap.size + 1 + 1)] 282
  rw [World.size_alloc, World.size_alloc] at this; exact this
 have d := hid (z63 w (.cells #[.int .i64 0] 3) (.cells #[.int .i64 0] 3) (.cells #[z1j w.heap.size (w.heap.size + 1) (w.heap.size + 1 + 1)] 282));have HE : Hid (VEnv w.heap.size w.heap.size (w.heap.size + 1) (w.heap.size + 1 + 1) 0 0 (((w.alloc (.cells #[.int .i64 0] 3)).alloc (.cells #[.int .i64 0] 3)).alloc (.cells #[z1j w.heap.size (w.heap.size + 1) (w.heap.size + 1 + 1)] 282))) := hid ⟨R0, R1, R2, by omega, by omega, by omega, by omega⟩;have HX := hid (SlP.keep hxs (fun b hb => d.out.block b hb) (S' := Lt w.heap.size) (fun b hb => hb));have HC := hid (zft n w.heap.size w.heap.size (w.heap.size + 1) (w.heap.size + 1 + 1) 0 0 0 _ a cap xs HE.out HX.out (by omega) hc (by omega) (by omega));simp only [Int.natCast_zero] at HC;rw [<- HL.out] at HC ⊢;clear hxs R0 R1 R2 HE HX
 go_enter Tryz.func221, Tryz.ntmps221
 go_wp2_with fail
 generalize (((w.alloc (.cells #[.int .i64 0] 3)).alloc (.cells #[.int .i64 0] 3)).alloc (.cells #[z1j w.heap.size (w.heap.size + 1) (w.heap.size + 1 + 1)] 282)) = w4 at *
 refine HC.out.mono ?_;rintro e w5 ⟨rfl, ⟨C, D, c, f, -⟩, g⟩;clear HC;have h := hid f;have i := hid (Fr.to_belowX d.out g);have k0 := c.cnt.c0;have k1 := c.dep.c0;have z0 := c.cnt.thaw 0;have z1 := c.dep.thaw 0
 have hn : w.heap.size ≠ w.heap.size + 1 := by omega
 have HV := hid (c.set C D);have k2 : (w5.setCell ⟨w.heap.size, 0, none⟩ (.int .i64 C)).cell? ⟨w.heap.size + 1, 0, none⟩ = some (.int .i64 D) := (World.cell?_setCell_other w5 _ _ _ (fun e => by injection e with e; omega)).trans k1;clear c f g;go_wp2
 go_region
 have j : Hid (Below w.heap.size w ((w5.setCell ⟨w.heap.size, 0, none⟩ (.int .i64 C)).setCell ⟨w.heap.size + 1, 0, none⟩ (.int .i64 D)).drew) := hid ((i.out.setCell (p := ⟨w.heap.size, 0, none⟩) (Nat.le_refl _) _).setCell (p := ⟨w.heap.size + 1, 0, none⟩) (Nat.le_succ _) _).drew;have e0 : ((w5.setCell ⟨w.heap.size, 0, none⟩ (.int .i64 C)).setCell ⟨w.heap.size + 1, 0, none⟩ (.int .i64 D)).drew.cell? ⟨w.heap.size, 0, none⟩ = some (.int .i64 C) := HV.out.cnt.c0;have e1 : ((w5.setCell ⟨w.heap.size, 0, none⟩ (.int .i64 C)).setCell ⟨w.heap.size + 1, 0, none⟩ (.int .i64 D)).drew.cell? ⟨w.heap.size + 1, 0, none⟩ = some (.int .i64 D) := HV.out.dep.c0
 generalize ((w5.setCell ⟨w.heap.size, 0, none⟩ (.int .i64 C)).setCell ⟨w.heap.size + 1, 0, none⟩ (.int .i64 D)).drew = w7 at *
 go_wp2;exact bodyPost_ret (v := .tuple #[.int .i64 C, .int .i64 D]) (by simp [results, Tryz.results221, go_sem, e0, e1]) rfl ⟨⟨C, D, rfl, h.out⟩, j.out⟩

set_option maxHeartbeats 3200000
set_option maxRecDepth 100000
def eqB (s : List UInt8) : Bool := match s with | 61 :: r => numB r | _ => false
theorem zc4 (s : List UInt8) : pkeyB s = (s == [122, 101, 114, 111] || s == [111, 110, 101] || s == [116, 119, 111] || s == [102, 101, 119] || s == [109, 97, 110, 121] || s == [111, 116, 104, 101, 114] || eqB s) := by
 unfold pkeyB eqB; rfl
theorem zfh (s : BA) (c : UInt8) (w : World) : Calls Tryz.prog 212 #[.string s, .string ⟨#[c]⟩] w fun e w' => e = .returned (.bool (s.data.toList.head? == some c)) /\ w' = w := by
 by_cases h0 : s.size = 0
 ·have hs : s = ⟨#[]⟩ := by apply ByteArray.ext; exact Array.eq_empty_of_size_eq_zero h0
  subst hs
  go_enter Tryz.func212, Tryz.ntmps212
  go_wp2;go_ret;exact ⟨rfl, rfl⟩
 ·have h1 : (1 : Int) <= s.size := by omega
  have h2 : 1 <= s.size := by omega
  obtain ⟨d, r, a⟩ : ∃ d r, s.data.toList = d :: r := by
   cases h : s.data.toList with
   | nil => have := z07 s; rw [h] at this; simp at this; omega
   | cons d r => exact ⟨d, r, rfl⟩
  have hx : s.extract 0 1 = ⟨#[d]⟩ := by
   apply ByteArray.ext
   apply Array.toList_inj.1
   simp only [ByteArray.data_extract, Array.toList_extract, List.extract_eq_take_drop]
   rw [a]; rfl
  have HE : Hid ((s.data.toList.head? == some c) = (d == c)) := hid (by rw [a]; rfl);clear a
  go_enter Tryz.func212, Tryz.ntmps212
  go_wp2;go_ret;exact ⟨z01 HE.out.symm, rfl⟩
def cutB (s : BA) : BA := if s.data.toList.head? = some 61 then s.extract 1 s.size else s
theorem cutB_eq (s : BA) (h : s.data.toList.head? = some 61) : numB (cutB s).data.toList = eqB s.data.toList := by
 unfold cutB; rw [if_pos h]
 cases hs : s.data.toList with
 | nil => rw [hs] at h; cases h
 | cons d r =>
  rw [hs] at h
  obtain rfl : d = 61 := by simpa using h
  simp only [eqB, ByteArray.data_extract, Array.toList_extract, List.extract_eq_take_drop];rw [hs];have hl := z07 s;rw [hs] at hl;simp only [List.length_cons] at hl;simp only [List.drop_succ_cons, List.drop_zero];rw [List.take_of_length_le (by omega)]
theorem zip (s : BA) (hs : s.size <= 140737488351232) (w : World) : Calls Tryz.prog 292 #[.string s, .string ⟨#[61]⟩] w fun e w' => e = .returned (.tuple #[.string (cutB s), .bool (s.data.toList.head? == some 61)]) /\ w' = w := by
 have HH := hid (zfh s 61 w)
 cases hb : (s.data.toList.head? == some 61) with
 | true =>
  rw [hb] at HH;have HE : Hid (cutB s = s.extract 1 s.size) := hid (by unfold cutB; rw [if_pos (beq_iff_eq.1 hb)])
  have h1 : (1 : Int) <= s.size := by
   cases h : s.data.toList with
   | nil => rw [h] at hb; cases hb
   | cons d r => have := z07 s; rw [h] at this; simp only [List.length_cons] at this; omega
  clear hb
  go_enter Tryz.func292, Tryz.ntmps292
  go_wp2_with fail
  refine HH.out.mono ?_;rintro e w2 ⟨rfl, rfl⟩;go_wp2;exact bodyPost_ret (v := .tuple #[.string (s.extract 1 s.size), .bool true]) (by simp [results, Tryz.results292, go_sem]) rfl ⟨by rw [HE.out], rfl⟩
 | false =>
  rw [hb] at HH;have HE : Hid (cutB s = s) := hid (by unfold cutB; rw [if_neg (by rw [beq_eq_false_iff_ne] at hb; exact hb)]);clear hb
  go_enter Tryz.func292, Tryz.ntmps292
  go_wp2_with fail
  refine HH.out.mono ?_;rintro e w2 ⟨rfl, rfl⟩;go_wp2;exact bodyPost_ret (v := .tuple #[.string s, .bool false]) (by simp [results, Tryz.results292, go_sem]) rfl ⟨by rw [HE.out], rfl⟩
theorem cut_any (s : BA) (hs : s.size <= 140737488351232) (w : World) : Calls Tryz.prog 286 #[.string s, .string ⟨#[61]⟩] w fun e w' => e = .returned (.tuple #[.string (cutB s), .bool (s.data.toList.head? == some 61)]) /\ w' = w := by
 have HH := hid (zip s hs w)
 generalize cutB s = c at *
 generalize (s.data.toList.head? == some 61) = b at *
 go_enter Tryz.func286, Tryz.ntmps286
 go_wp2_with fail
 refine HH.out.mono ?_;rintro e w2 ⟨rfl, rfl⟩;go_wp2;exact bodyPost_ret (v := .tuple #[.string c, .bool b]) (by simp [results, Tryz.results286, go_sem]) rfl ⟨rfl, rfl⟩
theorem z2e {s : BA} {l : List UInt8} (h : s.data.toList = l) : s = ⟨l.toArray⟩ := by
 apply ByteArray.ext; apply Array.toList_inj.1; simpa using h
theorem z2t {s : BA} {l : List UInt8} (h : s.data.toList ≠ l) : (s.toList == l) = false := by rw [ByteArray.toList_eq]; exact beq_eq_false_iff_ne.2 h
theorem pkey_any (s : BA) (hs : s.size <= 140737488351232) (w : World) (hE : EnvW w) : Calls Tryz.prog 273 #[.string s] w fun e w' => e = .returned (.bool (pkeyB s.data.toList)) /\ Below w.heap.size w w' := by
 by_cases hzero : s.data.toList = [122, 101, 114, 111]
 ·have HE : Hid (pkeyB s.data.toList = true) := hid (by rw [hzero]; decide)
  obtain rfl := z2e hzero;clear hzero
  go_enter Tryz.func273, Tryz.ntmps273
  go_wp2;go_ret;exact ⟨z01 HE.out.symm, Below.refl _ _⟩
 by_cases hone : s.data.toList = [111, 110, 101]
 ·have HE : Hid (pkeyB s.data.toList = true) := hid (by rw [hone]; decide)
  obtain rfl := z2e hone;clear hone
  go_enter Tryz.func273, Tryz.ntmps273
  go_wp2;go_ret;exact ⟨z01 HE.out.symm, Below.refl _ _⟩
 by_cases htwo : s.data.toList = [116, 119, 111]
 ·have HE : Hid (pkeyB s.data.toList = true) := hid (by rw [htwo]; decide)
  obtain rfl := z2e htwo;clear htwo
  go_enter Tryz.func273, Tryz.ntmps273
  go_wp2;go_ret;exact ⟨z01 HE.out.symm, Below.refl _ _⟩
 by_cases hfew : s.data.toList = [102, 101, 119]
 ·have HE : Hid (pkeyB s.data.toList = true) := hid (by rw [hfew]; decide)
  obtain rfl := z2e hfew;clear hfew
  go_enter Tryz.func273, Tryz.ntmps273
  go_wp2;go_ret;exact ⟨z01 HE.out.symm, Below.refl _ _⟩
 by_cases hmany : s.data.toList = [109, 97, 110, 121]
 ·have HE : Hid (pkeyB s.data.toList = true) := hid (by rw [hmany]; decide)
  obtain rfl := z2e hmany;clear hmany
  go_enter Tryz.func273, Tryz.ntmps273
  go_wp2;go_ret;exact ⟨z01 HE.out.symm, Below.refl _ _⟩
 by_cases hother : s.data.toList = [111, 116, 104, 101, 114]
 ·have HE : Hid (pkeyB s.data.toList = true) := hid (by rw [hother]; decide)
  obtain rfl := z2e hother;clear hother
  go_enter Tryz.func273, Tryz.ntmps273
  go_wp2;go_ret;exact ⟨z01 HE.out.symm, Below.refl _ _⟩
 have i := z2t hzero;have n := z2t hone;have o := z2t htwo;have p := z2t hfew;have j := z2t hmany;have g := z2t hother;have a : Hid (pkeyB s.data.toList = eqB s.data.toList) := hid (by rw [zc4]; simp [hzero, hone, htwo, hfew, hmany, hother]);have HC := hid (cut_any s hs w);have HN := hid (fun h => cutB_eq s h);have q := hid hE
 have b : (cutB s).size <= 140737488351232 := by
  by_cases h : s.data.toList.head? = some 61
  ·unfold cutB; rw [if_pos h, ByteArray.size_extract]; omega
  ·unfold cutB; rw [if_neg h]; exact hs
 have k := hid (z86 (cutB s) w b hE)
 have l : Hid (s.data.toList.head? ≠ some 61 -> eqB s.data.toList = false) := hid (fun h => by
  cases hl : s.data.toList with
  | nil => rfl
  | cons d r =>
   rw [hl] at h
   have hd : d ≠ 61 := fun e => h (by rw [e]; rfl)
   unfold eqB
   split
   ·rename_i e; injection e with e; exact absurd e hd
   ·rfl)
 clear hzero hone htwo hfew hmany hother b hE
 generalize cutB s = c at *
 cases hb : (s.data.toList.head? == some 61) with
 | true =>
  rw [hb] at HC;have HE := hid (a.out.trans (HN.out (beq_iff_eq.1 hb)).symm);clear hb
  go_enter Tryz.func273, Tryz.ntmps273
  go_wp2_with fail
  refine HC.out.mono ?_;rintro e w2 ⟨rfl, rfl⟩
  go_wp2_with fail
  refine k.out.mono ?_;rintro e w3 ⟨rfl, f⟩;have m := hid f;clear f;go_wp2;go_ret;exact ⟨z01 HE.out.symm, m.out⟩
 | false =>
  rw [hb] at HC;have HE := hid (a.out.trans (l.out (beq_eq_false_iff_ne.1 hb)));clear hb
  go_enter Tryz.func273, Tryz.ntmps273
  go_wp2_with fail
  refine HC.out.mono ?_;rintro e w2 ⟨rfl, rfl⟩;go_wp2;go_ret;exact ⟨z01 HE.out.symm, Below.refl _ _⟩
end Go.Proofs.YtdkkkeoicekdgaaGreatDoor

end
