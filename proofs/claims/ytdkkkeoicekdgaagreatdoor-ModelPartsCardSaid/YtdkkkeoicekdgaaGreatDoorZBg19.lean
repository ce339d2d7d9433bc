/- Right: the parts are counted. -/
import Derived.Laws.EntriesVeiled
import Derived.Test.YtdkkkeoicekdgaaGreatDoorZBg16
import Derived.Test.YtdkkkeoicekdgaaGreatDoorZBg11

section

namespace Go.Proofs.YtdkkkeoicekdgaaGreatDoor
set_option maxHeartbeats 3200000
set_option maxRecDepth 100000
open Go.Lib (hid)
open Go.RowKit
theorem Sl.at_ {α : Type} {k : Nat} {C : α -> List Value -> Prop} {w : World} {S : Nat -> Prop} {a : Option Addr} {n cap : Nat} {xs : List α} (h : Sl k C w S (.slice a n cap) xs) {j : Nat} {x : α} (hj : xs[j]? = some x) : ∃ b off, a = some ⟨b, off, none⟩ /\ S b /\ At k C w b (off + j * k) x := by
 obtain ⟨a', cap', hv, -, -, hx⟩ := h
 injection hv with h1 h2 h3
 subst h1
 obtain ⟨b, off, ha, hb, hat⟩ := hx (by intro e; subst e; simp at hj)
 exact ⟨b, off, ha, hb, hat j x hj⟩
theorem Sl.form3 {α : Type} {k : Nat} {C : α -> List Value -> Prop} {w : World} {S : Nat -> Prop} {v : Value} {xs : List α} (h : Sl k C w S v xs) : ∃ a cap, v = .slice a xs.length cap := by
 obtain ⟨a, cap, hv, -⟩ := h
 exact ⟨a, cap, hv⟩
theorem At.p {w : World} {S : Nat -> Prop} {n b o : Nat} {x : Pt} (h : At 4 (CP w S n) w b o x) : w.cell? ⟨b, o, none⟩ = some (.int .i64 x.k) /\ w.cell? ⟨b, o + 1, none⟩ = some (.string x.t) /\ w.cell? ⟨b, o + 2, none⟩ = some (.string x.n) /\ ∃ m a cap, n = m + 1 /\ w.cell? ⟨b, o + 3, none⟩ = some (.slice a x.cs.length cap) /\ SlC w S m (.slice a x.cs.length cap) x.cs := by
 obtain ⟨cs, -, hx, hc⟩ := h
 obtain ⟨m, v, rfl, rfl, hs⟩ := hx.out
 obtain ⟨a, cap, rfl⟩ := hs.form3
 exact ⟨hc 0 _ rfl, hc 1 _ rfl, hc 2 _ rfl, m, a, cap, rfl, hc 3 _ rfl, hs⟩
theorem At.c {w : World} {S : Nat -> Prop} {n b o : Nat} {x : Cs} (h : At 2 (CC w S n) w b o x) : w.cell? ⟨b, o, none⟩ = some (.string x.key) /\ ∃ a cap, w.cell? ⟨b, o + 1, none⟩ = some (.slice a x.kids.length cap) /\ SlP w S n (.slice a x.kids.length cap) x.kids := by
 obtain ⟨cs, -, ⟨v, rfl, hs⟩, hc⟩ := h
 obtain ⟨a, cap, rfl⟩ := hs.form3
 exact ⟨hc 0 _ rfl, a, cap, hc 1 _ rfl, hs⟩
abbrev z0x (cb db vb : Nat) : Value := .func (.func 249) #[] #[.pointer (some ⟨cb, 0, none⟩), .pointer (some ⟨db, 0, none⟩), .pointer (some ⟨vb, 0, none⟩)]
structure VEnv (M cb db vb c d : Nat) (w : World) : Prop where
 cnt : Row w cb 3 [.int .i64 c]
 dep : Row w db 3 [.int .i64 d]
 vis : Row w vb 282 [z0x cb db vb]
 n1 : cb ≠ db
 n2 : vb ≠ cb
 n3 : vb ≠ db
 le : M <= cb /\ M <= db /\ M <= vb
section
variable {M cb db vb c d : Nat} {w w' : World}
theorem VEnv.alloc (h : VEnv M cb db vb c d w) (o : Obj) : VEnv M cb db vb c d (w.alloc o) := ⟨h.cnt.alloc o, h.dep.alloc o, h.vis.alloc o, h.n1, h.n2, h.n3, h.le⟩
theorem VEnv.set (h : VEnv M cb db vb c d w) (c' d' : Nat) : VEnv M cb db vb c' d' ((w.setCell ⟨cb, 0, none⟩ (.int .i64 c')).setCell ⟨db, 0, none⟩ (.int .i64 d')) :=
 ⟨(h.cnt.set 0 (.int .i64 c')).keep (Below.heap_setCell _ _ _ _ h.n1), Row.set (cs := [.int .i64 d]) (h.dep.keep (Below.heap_setCell _ _ _ _ h.n1.symm)) 0 (.int .i64 d'), h.vis.keep ((Below.heap_setCell _ _ _ _ h.n3).trans (Below.heap_setCell _ _ _ _ h.n2)), h.n1, h.n2, h.n3, h.le⟩
theorem VEnv.low (h : VEnv M cb db vb c d w) {a : World} (hf : Fr (fun k => k = cb ∨ k = db) a w') : ∀ b, b < M -> b < a.heap.size -> w'.heap[b]? = a.heap[b]? := fun b hb hlt => hf.block b hlt (fun e => by have := h.le; omega)
end
abbrev XX (cb db : Nat) (k : Nat) : Prop := k = cb ∨ k = db
abbrev Lt (M : Nat) (b : Nat) : Prop := b < M
theorem SlP.low {M cb db n : Nat} {w w' : World} {v : Value} {xs : List Pt} (h : SlP w (Lt M) n v xs) (hM : M <= w.heap.size) (hf : Fr (XX cb db) w w') (hc : M <= cb /\ M <= db) : SlP w' (Lt M) n v xs := h.keep (fun b hb => hf.block b (Nat.lt_of_lt_of_le hb hM) (fun e => by unfold Lt at hb; rcases e with e | e <;> omega)) (fun _ h => h)
theorem SlC.low {M cb db n : Nat} {w w' : World} {v : Value} {xs : List Cs} (h : SlC w (Lt M) n v xs) (hM : M <= w.heap.size) (hf : Fr (XX cb db) w w') (hc : M <= cb /\ M <= db) : SlC w' (Lt M) n v xs := h.keep (fun b hb => hf.block b (Nat.lt_of_lt_of_le hb hM) (fun e => by unfold Lt at hb; rcases e with e | e <;> omega)) (fun _ h => h)
def z2m (n : Nat) : Prop := ∀ (M cb db vb c d br : Nat) (w : World) (a : Option Addr) (cap : Nat) (xs : List Pt), VEnv M cb db vb c d w -> SlP w (Lt M) n (.slice a xs.length cap) xs -> c <= 1000 -> cntPs xs <= 2000 -> br + cntPs xs <= 4000 -> d <= 4000 ->
 Calls Tryz.prog 249 #[.slice a xs.length cap, .int .i64 br, .pointer (some ⟨cb, 0, none⟩), .pointer (some ⟨db, 0, none⟩), .pointer (some ⟨vb, 0, none⟩)] w fun e w' =>
  e = .returned (.tuple #[]) /\ (∃ C D, VEnv M cb db vb C D w' /\ Vi c d br (cntPs xs) (dpPs xs) C D /\ D <= 4000) /\ Fr (XX cb db) w w'
theorem z39 (n : Nat) (HV : ∀ m, m < n -> z2m m) : z2m n := by
 intro M cb db vb c d br w a cap xs env hxs hc hcn hbr hd
 have hlc := env.cnt.lt
 have hld := env.dep.lt
 have hlv := env.vis.lt
 have hM := env.le
 have hMw : M <= w.heap.size := by omega
 have hsub := z25 xs
 have c0 := env.cnt.cell (i := 0) rfl
 have c1 := env.dep.cell (i := 0) rfl
 have z0 := env.cnt.thaw 0
 have z1 := env.dep.thaw 0
 obtain ⟨L, HL⟩ : ∃ L, Hid (L = xs.length) := ⟨_, hid rfl⟩
 rw [<- HL.out] at hxs ⊢
 have hL2 : L <= 2000 := by have := HL.out; omega
 obtain ⟨C0, HC0⟩ : ∃ C0, Hid (C0 = c + L) := ⟨_, hid rfl⟩
 obtain ⟨D0, HD0⟩ : ∃ D0, Hid (D0 = max d br) := ⟨_, hid rfl⟩
 have hci : ((c : Int) + (L : Int)) = (C0 : Int) := by have := HC0.out; omega
 have hdi : max (d : Int) (br : Int) = (D0 : Int) := by have := HD0.out; omega
 have hcd1 : (w.setCell ⟨cb, 0, none⟩ (.int .i64 C0)).cell? ⟨db, 0, none⟩ = some (.int .i64 d) := (World.cell?_setCell_other w _ _ _ (fun e => by injection e with e; exact env.n1 e)).trans c1
 have HE0 : Hid (VEnv M cb db vb C0 D0 ((w.setCell ⟨cb, 0, none⟩ (.int .i64 C0)).setCell ⟨db, 0, none⟩ (.int .i64 D0))) := hid (env.set C0 D0)
 have HF0 : Hid (Fr (XX cb db) w ((w.setCell ⟨cb, 0, none⟩ (.int .i64 C0)).setCell ⟨db, 0, none⟩ (.int .i64 D0))) := hid (((Fr.refl _ w).setCell (p := ⟨cb, 0, none⟩) (.inr (.inl rfl)) _).setCell (p := ⟨db, 0, none⟩) (.inr (.inr rfl)) _)
 have HX0 := hid (hxs.low hMw HF0.out ⟨hM.1, hM.2.1⟩)
 have HVI : Hid (Vi c d br (L + 0) 0 C0 D0) := hid (by have := HC0.out; have := HD0.out; exact ⟨by omega, by omega, fun _ => ⟨by omega, by omega⟩⟩)
 have HD40 : Hid (D0 <= 4000) := hid (by have := HD0.out; omega)
 have hC0b : C0 <= 3000 := by have := HC0.out; omega
 have HSUB : Hid (cntPs xs = L + subs xs) := hid (by have := HL.out; omega)
 have HVV := hid HV
 clear env hxs HV
 go_enter Tryz.func249, Tryz.ntmps249
 go_wp2
 generalize hW : (w.setCell ⟨cb, 0, none⟩ (.int .i64 C0)).setCell ⟨db, 0, none⟩ (.int .i64 D0) = W2 at *
 clear hW hcd1 c0 c1 z0 z1 hci hdi
 go_loopw [20] (fun i wr => ∃ k C D : Nat, k <= L /\ i = .int .i64 k /\ Hid (VEnv M cb db vb C D wr) /\ Hid (Fr (XX cb db) w wr) /\ Hid (SlP wr (Lt M) n (.slice a L cap) xs) /\ Hid (Vi c d br (L + subs (xs.take k)) (dpPs (xs.take k)) C D) /\ Hid (D <= 4000)) (fun i _ => L - (intOf i).toNat)
 case atStart => exact ⟨0, C0, D0, Nat.zero_le _, rfl, HE0, HF0, HX0, hid (by simpa [subs, dpPs] using HVI.out), HD40⟩
 case round =>
  obtain ⟨k, C, D, hk, rfl, HE, HF, HX, HI, HD⟩ := hrel
  clear HE0 HF0 HX0 HVI HD40
  by_cases hlt : k < L
  ·obtain ⟨x, hx⟩ : ∃ x, xs[k]? = some x := ⟨_, List.getElem?_eq_getElem (by have := HL.out; omega)⟩
   obtain ⟨b, off, rfl, hb, hat⟩ := HX.out.at_ hx
   obtain ⟨h0, h1, h2, m, a1, p1, hnm, h3, hcs⟩ := hat.p
   have HXG := hid hx
   have HSA := hid (subs_at hx)
   have HST := hid (z6u hx)
   have HDT := hid (zd2 hx)
   obtain ⟨pk, pt, pn, cs⟩ := x
   simp only [Pt.k, Pt.t, Pt.n, Pt.cs] at h0 h1 h2 h3 hcs HSA HST HDT
   have hMr : M <= wr.heap.size := by have := HF.out.size; omega
   obtain ⟨L1, HL1⟩ : ∃ L1, Hid (L1 = cs.length) := ⟨_, hid rfl⟩
   rw [<- HL1.out] at h3 hcs
   have R := z01 wr #[.int .i64 pk, .string pt, .string pn, .slice a1 L1 p1] 263
   have g3 := R.cell (i := 3) rfl
   have HE1 : Hid (VEnv M cb db vb C D (wr.alloc (.cells #[.int .i64 pk, .string pt, .string pn, .slice a1 L1 p1] 263))) := hid (HE.out.alloc _)
   have HF1 : Hid (Fr (XX cb db) w (wr.alloc (.cells #[.int .i64 pk, .string pt, .string pn, .slice a1 L1 p1] 263))) := hid (HF.out.alloc _)
   have HX1 : Hid (SlP (wr.alloc (.cells #[.int .i64 pk, .string pt, .string pn, .slice a1 L1 p1] 263)) (Lt M) n (.slice (some ⟨b, off, none⟩) L cap) xs) := hid (HX.out.low hMr ((Fr.refl _ wr).alloc _) ⟨hM.1, hM.2.1⟩)
   have HC1 : Hid (SlC (wr.alloc (.cells #[.int .i64 pk, .string pt, .string pn, .slice a1 L1 p1] 263)) (Lt M) m (.slice a1 L1 p1) cs) := hid (hcs.low hMr ((Fr.refl _ wr).alloc _) ⟨hM.1, hM.2.1⟩)
   have HNM := hid hnm
   clear R hat hcs hx hb hnm
   go_wp2
   generalize wr.alloc (.cells #[.int .i64 pk, .string pt, .string pn, .slice a1 L1 p1] 263) = w3 at *
   clear g3 h0 h1 h2 h3
   have hLc : L1 <= 9223372036854775807 := by obtain ⟨_, _, hv, h1, h2, -⟩ := HC1.out; injection hv with _ e1 e2; omega
   go_loopw [27] (fun i wr => ∃ j C D : Nat, j <= L1 /\ i = .int .i64 j /\ Hid (VEnv M cb db vb C D wr) /\ Hid (Fr (XX cb db) w wr) /\ Hid (SlP wr (Lt M) n (.slice (some ⟨b, off, none⟩) L cap) xs) /\ Hid (SlC wr (Lt M) m (.slice a1 L1 p1) cs) /\ Hid (Vi c d br (L + subs (xs.take k) + cntCs (cs.take j)) (max (dpPs (xs.take k)) (dpCs (cs.take j))) C D) /\ Hid (D <= 4000)) (fun i _ => L1 - (intOf i).toNat)
   case atStart => exact ⟨0, C, D, Nat.zero_le _, rfl, HE1, HF1, HX1, HC1, hid (by simpa [cntCs, dpCs] using HI.out), HD⟩
   case round =>
    obtain ⟨j, C2, D2, hj, rfl, HE2, HF2, HX2, HC2, HI2, HD2⟩ := hrel
    clear HE1 HF1 HX1 HC1 HI HE HF HX HD
    by_cases hlj : j < L1
    ·obtain ⟨y, hy⟩ : ∃ y, cs[j]? = some y := ⟨_, List.getElem?_eq_getElem (by have := HL1.out; omega)⟩
     obtain ⟨b2, off2, rfl, hb2, hat2⟩ := HC2.out.at_ hy
     obtain ⟨i0, a3, p3, i1, hks⟩ := hat2.c
     have HKA := hid (kids_at hy)
     have HCT := hid (z5v hy)
     have HDC := hid (zd3 hy)
     have hMr2 : M <= wr.heap.size := by have := HF2.out.size; omega
     obtain ⟨key, kids⟩ := y
     simp only [Cs.key, Cs.kids] at i0 i1 hks HKA HCT HDC
     have hkc := len_cnt kids
     have hka := HKA.out
     have hsa := HSA.out
     have hsb := HSUB.out
     have hvi := HI2.out
     have hCb : C2 <= 4000 := by have := hvi.2.1; omega
     obtain ⟨L3, HL3⟩ : ∃ L3, Hid (L3 = kids.length) := ⟨_, hid rfl⟩
     have hks2 := hks
     rw [<- HL3.out] at i1
     have R := z01 wr #[.string key, .slice a3 L3 p3] 284
     have g0 := R.cell (i := 0) rfl
     have g1 := R.cell (i := 1) rfl
     have HE3 : Hid (VEnv M cb db vb C2 D2 (wr.alloc (.cells #[.string key, .slice a3 L3 p3] 284))) := hid (HE2.out.alloc _)
     have HF3 : Hid (Fr (XX cb db) w (wr.alloc (.cells #[.string key, .slice a3 L3 p3] 284))) := hid (HF2.out.alloc _)
     have HA := (Fr.refl (XX cb db) wr).alloc (.cells #[.string key, .slice a3 L3 p3] 284)
     have HX3 : Hid (SlP (wr.alloc (.cells #[.string key, .slice a3 L3 p3] 284)) (Lt M) n (.slice (some ⟨b, off, none⟩) L cap) xs) := hid (HX2.out.low hMr2 HA ⟨hM.1, hM.2.1⟩)
     have HC3 : Hid (SlC (wr.alloc (.cells #[.string key, .slice a3 L3 p3] 284)) (Lt M) m (.slice (some ⟨b2, off2, none⟩) L1 p1) cs) := hid (HC2.out.low hMr2 HA ⟨hM.1, hM.2.1⟩)
     have HK3 : Hid (SlP (wr.alloc (.cells #[.string key, .slice a3 L3 p3] 284)) (Lt M) m (.slice a3 kids.length p3) kids) := hid (hks.low hMr2 HA ⟨hM.1, hM.2.1⟩)
     clear R hat2 hks hks2 hy hb2 HA HX2 HC2 HF2
     have k0 := HE3.out.cnt.cell (i := 0) rfl
     have k2 := HE3.out.vis.cell (i := 0) rfl
     by_cases hbig : 1000 < C2
     ·have hB : ((C2 : Int) > 1000) := by omega
      go_wp2
      exact bodyPost_ret (v := .tuple #[]) (by simp [results, Tryz.results249, go_sem]) rfl ⟨rfl, ⟨C2, D2, HE3.out, by rw [hsb]; exact hvi.over hbig (by omega), HD2.out⟩, HF3.out⟩
     ·obtain ⟨B1, HB1⟩ : ∃ B1, Hid (B1 = br + 1) := ⟨_, hid rfl⟩
      have hbi : ((br : Int) + 1) = (B1 : Int) := by have := HB1.out; omega
      have hb1 := HB1.out
      have HCALL := hid (HVV.out m (by have := HNM.out; omega) M cb db vb C2 D2 B1 _ a3 p3 kids HE3.out HK3.out (by omega) (by omega) (by omega) HD2.out)
      rw [<- HL3.out] at HCALL
      clear hb1
      go_wp2_with fail
      generalize wr.alloc (.cells #[.string key, .slice a3 L3 p3] 284) = w4 at *
      refine HCALL.out.mono ?_
      rintro e w5 ⟨rfl, ⟨C5, D5, he5, hi5, hd5⟩, hf5⟩
      have hMw4 : M <= w4.heap.size := by have := HF3.out.size; omega
      have HE5 := hid he5
      have HF5 : Hid (Fr (XX cb db) w w5) := hid (HF3.out.trans hf5)
      have HX5 := hid (HX3.out.low hMw4 hf5 ⟨hM.1, hM.2.1⟩)
      have HC5 := hid (HC3.out.low hMw4 hf5 ⟨hM.1, hM.2.1⟩)
      have HI5 := hid (hvi.step (by omega) (by rw [HB1.out] at hi5; exact hi5))
      have HD5 := hid hd5
      clear he5 hi5 hd5 hf5 HCALL HF3 HX3 HC3 HE3 HK3
      go_wp2
      go_roundw
      case rel => exact ⟨j + 1, C5, D5, by omega, by go_num, HE5, HF5, HX5, HC5, hid (by rw [HCT.out, HDC.out, <- Nat.add_assoc, <- Nat.max_assoc]; exact HI5.out), HD5⟩
      case measure => simp [intOf]; omega
    ·have hcj : cs.take j = cs := List.take_of_length_le (by have := HL1.out; omega)
     have HI3 : Hid (Vi c d br (L + subs (xs.take (k + 1))) (dpPs (xs.take (k + 1))) C2 D2) := hid (by rw [HST.out, HDT.out, <- Nat.add_assoc]; have := HI2.out; rw [hcj] at this; exact this)
     clear hcj HI2
     go_wp2
     go_roundw
     case rel => exact ⟨k + 1, C2, D2, by omega, by go_num, HE2, HF2, HX2, HI3, HD2⟩
     case measure => simp [intOf]; omega
  ·have hkn : xs.take k = xs := List.take_of_length_le (by have := HL.out; omega)
   have HIE : Hid (Vi c d br (cntPs xs) (dpPs xs) C D) := hid (by have := HI.out; rw [hkn, <- HSUB.out] at this; exact this)
   clear hkn
   go_wp2
   go_end0
   exact ⟨rfl, ⟨C, D, HE.out, HIE.out, HD.out⟩, HF.out⟩
theorem zb7 : ∀ n, z2m n := fun n => by
 induction n using Nat.strongRecOn with
 | _ n ih => exact z39 n ih
end Go.Proofs.YtdkkkeoicekdgaaGreatDoor

end

section

namespace Go.Proofs.YtdkkkeoicekdgaaGreatDoor
set_option maxHeartbeats 3200000
set_option maxRecDepth 100000
open Go.Lib (hid)
open Go.RowKit
theorem Fr.to_belowX {a w w' : World} (hb : Below a.heap.size a w) (h : Fr (XX a.heap.size (a.heap.size + 1)) w w') : Below a.heap.size a w' :=
 ⟨h.os.trans hb.os, h.tape.trans hb.tape, h.output.trans hb.output, Nat.le_trans hb.size h.size, fun k hk => (h.block k (Nat.lt_of_lt_of_le hk hb.size) (fun e => by rcases e with e | e <;> omega)).trans (hb.block k hk)⟩
theorem z7g (n : Nat) (w : World) (a : Option Addr) (cap : Nat) (xs : List Pt) (hxs : SlP w (Old w) n (.slice a xs.length cap) xs) (hc : cntPs xs <= 2000) :
  Calls Tryz.prog 221 #[.slice a xs.length cap] w fun e w' => (∃ C D : Nat, e = .returned (.tuple #[.int .i64 C, .int .i64 D]) /\ Vi 0 0 0 (cntPs xs) (dpPs xs) C D) /\ Below w.heap.size w w' := by
 obtain ⟨L, HL⟩ : ∃ L, Hid (L = xs.length) := ⟨_, hid rfl⟩
 have R0 : Row (((w.alloc (.cells #[.int .i64 0] 3)).alloc (.cells #[.int .i64 0] 3)).alloc (.cells #[z0x w.heap.size (w.heap.size + 1) (w.heap.size + 1 + 1)] 282)) w.heap.size 3 [.int .i64 0] := ((z01 w #[.int .i64 0] 3).alloc _).alloc _
 have R1 : Row (((w.alloc (.cells #[.int .i64 0] 3)).alloc (.cells #[.int .i64 0] 3)).alloc (.cells #[z0x w.heap.size (w.heap.size + 1) (w.heap.size + 1 + 1)] 282)) (w.heap.size + 1) 3 [.int .i64 0] := by
  have := (z01 (w.alloc (.cells #[.int .i64 0] 3)) #[.int .i64 0] 3).alloc (.cells #[z0x w.heap.size (w.heap.size + 1) (w.heap.size + 1 + 1)] 282)
  rw [World.size_alloc] at this; exact this
 have R2 : Row (((w.alloc (.cells #[.int .i64 0] 3)).alloc (.cells #[.int .i64 0] 3)).alloc (.cells #[z0x w.heap.size (w.heap.size + 1) (w.heap.size + 1 + 1)] 282)) (w.heap.size + 1 + 1) 282 [z0x w.heap.size (w.heap.size + 1) (w.heap.size + 1 + 1)] := by
  have := z01 ((w.alloc (.cells #[.int .i64 0] 3)).alloc (.cells #[.int .i64 0] 3)) #[z0x w.heap.size (w.heap.size + 1) (w.heap.size + 1 + 1)] 282
  rw [World.size_alloc, World.size_alloc] at this; exact this
 have HB4 := hid (z49 w (.cells #[.int .i64 0] 3) (.cells #[.int .i64 0] 3) (.cells #[z0x w.heap.size (w.heap.size + 1) (w.heap.size + 1 + 1)] 282))
 have HE : Hid (VEnv w.heap.size w.heap.size (w.heap.size + 1) (w.heap.size + 1 + 1) 0 0 (((w.alloc (.cells #[.int .i64 0] 3)).alloc (.cells #[.int .i64 0] 3)).alloc (.cells #[z0x w.heap.size (w.heap.size + 1) (w.heap.size + 1 + 1)] 282))) := hid ⟨R0, R1, R2, by omega, by omega, by omega, by omega⟩
 have HX := hid (SlP.keep hxs (fun b hb => HB4.out.block b hb) (S' := Lt w.heap.size) (fun b hb => hb))
 have HC := hid (zb7 n w.heap.size w.heap.size (w.heap.size + 1) (w.heap.size + 1 + 1) 0 0 0 _ a cap xs HE.out HX.out (by omega) hc (by omega) (by omega))
 simp only [Int.natCast_zero] at HC
 rw [<- HL.out] at HC ⊢
 clear hxs R0 R1 R2 HE HX
 go_enter Tryz.func221, Tryz.ntmps221
 go_wp2_with fail
 generalize (((w.alloc (.cells #[.int .i64 0] 3)).alloc (.cells #[.int .i64 0] 3)).alloc (.cells #[z0x w.heap.size (w.heap.size + 1) (w.heap.size + 1 + 1)] 282)) = w4 at *
 refine HC.out.mono ?_
 rintro e w5 ⟨rfl, ⟨C, D, he5, hi5, -⟩, hf5⟩
 clear HC
 have HI5 := hid hi5
 have HB5 := hid (Fr.to_belowX HB4.out hf5)
 have k0 := he5.cnt.cell (i := 0) rfl
 have k1 := he5.dep.cell (i := 0) rfl
 have z0 := he5.cnt.thaw 0
 have z1 := he5.dep.thaw 0
 have hn : w.heap.size ≠ w.heap.size + 1 := by omega
 have HV := hid (he5.set C D)
 have k2 : (w5.setCell ⟨w.heap.size, 0, none⟩ (.int .i64 C)).cell? ⟨w.heap.size + 1, 0, none⟩ = some (.int .i64 D) := (World.cell?_setCell_other w5 _ _ _ (fun e => by injection e with e; omega)).trans k1
 clear he5 hi5 hf5
 go_wp2
 go_region
 have HB6 : Hid (Below w.heap.size w ((w5.setCell ⟨w.heap.size, 0, none⟩ (.int .i64 C)).setCell ⟨w.heap.size + 1, 0, none⟩ (.int .i64 D)).drew) := hid ((HB5.out.setCell (p := ⟨w.heap.size, 0, none⟩) (Nat.le_refl _) _).setCell (p := ⟨w.heap.size + 1, 0, none⟩) (Nat.le_succ _) _).drew
 have e0 : ((w5.setCell ⟨w.heap.size, 0, none⟩ (.int .i64 C)).setCell ⟨w.heap.size + 1, 0, none⟩ (.int .i64 D)).drew.cell? ⟨w.heap.size, 0, none⟩ = some (.int .i64 C) := HV.out.cnt.cell (i := 0) rfl
 have e1 : ((w5.setCell ⟨w.heap.size, 0, none⟩ (.int .i64 C)).setCell ⟨w.heap.size + 1, 0, none⟩ (.int .i64 D)).drew.cell? ⟨w.heap.size + 1, 0, none⟩ = some (.int .i64 D) := HV.out.dep.cell (i := 0) rfl
 generalize ((w5.setCell ⟨w.heap.size, 0, none⟩ (.int .i64 C)).setCell ⟨w.heap.size + 1, 0, none⟩ (.int .i64 D)).drew = w7 at *
 go_wp2
 exact bodyPost_ret (v := .tuple #[.int .i64 C, .int .i64 D]) (by simp [results, Tryz.results221, go_sem, e0, e1]) rfl ⟨⟨C, D, rfl, HI5.out⟩, HB6.out⟩
end Go.Proofs.YtdkkkeoicekdgaaGreatDoor

end

section

namespace Go.Proofs.YtdkkkeoicekdgaaGreatDoor
set_option maxHeartbeats 3200000
set_option maxRecDepth 100000
open Go.Lib (hid)
open Go.RowKit
def eqB (s : List UInt8) : Bool := match s with | 61 :: r => numB r | _ => false
theorem pkey_eq (s : List UInt8) : pkeyB s = (s == [122, 101, 114, 111] || s == [111, 110, 101] || s == [116, 119, 111] || s == [102, 101, 119] || s == [109, 97, 110, 121] || s == [111, 116, 104, 101, 114] || eqB s) := by
 unfold pkeyB eqB; rfl
theorem zas (s : BA) (c : UInt8) (w : World) : Calls Tryz.prog 212 #[.string s, .string ⟨#[c]⟩] w fun e w' => e = .returned (.bool (s.data.toList.head? == some c)) /\ w' = w := by
 by_cases h0 : s.size = 0
 ·have hs : s = ⟨#[]⟩ := by apply ByteArray.ext; exact Array.eq_empty_of_size_eq_zero h0
  subst hs
  go_enter Tryz.func212, Tryz.ntmps212
  go_wp2
  go_ret
  exact ⟨rfl, rfl⟩
 ·have h1 : (1 : Int) <= s.size := by omega
  have h2 : 1 <= s.size := by omega
  obtain ⟨d, r, hdr⟩ : ∃ d r, s.data.toList = d :: r := by
   cases h : s.data.toList with
   | nil => have := z08 s; rw [h] at this; simp at this; omega
   | cons d r => exact ⟨d, r, rfl⟩
  have hx : s.extract 0 1 = ⟨#[d]⟩ := by
   apply ByteArray.ext
   apply Array.toList_inj.1
   simp only [ByteArray.data_extract, Array.toList_extract, List.extract_eq_take_drop]
   rw [hdr]; rfl
  have HE : Hid ((s.data.toList.head? == some c) = (d == c)) := hid (by rw [hdr]; rfl)
  clear hdr
  go_enter Tryz.func212, Tryz.ntmps212
  go_wp2
  go_ret
  exact ⟨z03 HE.out.symm, rfl⟩
def cutB (s : BA) : BA := if s.data.toList.head? = some 61 then s.extract 1 s.size else s
theorem cutB_eq (s : BA) (h : s.data.toList.head? = some 61) : numB (cutB s).data.toList = eqB s.data.toList := by
 unfold cutB; rw [if_pos h]
 cases hs : s.data.toList with
 | nil => rw [hs] at h; cases h
 | cons d r =>
  rw [hs] at h
  obtain rfl : d = 61 := by simpa using h
  simp only [eqB, ByteArray.data_extract, Array.toList_extract, List.extract_eq_take_drop]
  rw [hs]
  have hl := z08 s
  rw [hs] at hl
  simp only [List.length_cons] at hl
  simp only [List.drop_succ_cons, List.drop_zero]
  rw [List.take_of_length_le (by omega)]
theorem zd8 (s : BA) (hs : s.size <= 140737488351232) (w : World) : Calls Tryz.prog 292 #[.string s, .string ⟨#[61]⟩] w fun e w' => e = .returned (.tuple #[.string (cutB s), .bool (s.data.toList.head? == some 61)]) /\ w' = w := by
 have HH := hid (zas s 61 w)
 cases hb : (s.data.toList.head? == some 61) with
 | true =>
  rw [hb] at HH
  have HE : Hid (cutB s = s.extract 1 s.size) := hid (by unfold cutB; rw [if_pos (beq_iff_eq.1 hb)])
  have h1 : (1 : Int) <= s.size := by
   cases h : s.data.toList with
   | nil => rw [h] at hb; cases hb
   | cons d r => have := z08 s; rw [h] at this; simp only [List.length_cons] at this; omega
  clear hb
  go_enter Tryz.func292, Tryz.ntmps292
  go_wp2_with fail
  refine HH.out.mono ?_
  rintro e w2 ⟨rfl, rfl⟩
  go_wp2
  exact bodyPost_ret (v := .tuple #[.string (s.extract 1 s.size), .bool true]) (by simp [results, Tryz.results292, go_sem]) rfl ⟨by rw [HE.out], rfl⟩
 | false =>
  rw [hb] at HH
  have HE : Hid (cutB s = s) := hid (by unfold cutB; rw [if_neg (by rw [beq_eq_false_iff_ne] at hb; exact hb)])
  clear hb
  go_enter Tryz.func292, Tryz.ntmps292
  go_wp2_with fail
  refine HH.out.mono ?_
  rintro e w2 ⟨rfl, rfl⟩
  go_wp2
  exact bodyPost_ret (v := .tuple #[.string s, .bool false]) (by simp [results, Tryz.results292, go_sem]) rfl ⟨by rw [HE.out], rfl⟩
theorem cut_any (s : BA) (hs : s.size <= 140737488351232) (w : World) : Calls Tryz.prog 286 #[.string s, .string ⟨#[61]⟩] w fun e w' => e = .returned (.tuple #[.string (cutB s), .bool (s.data.toList.head? == some 61)]) /\ w' = w := by
 have HH := hid (zd8 s hs w)
 generalize cutB s = c at *
 generalize (s.data.toList.head? == some 61) = b at *
 go_enter Tryz.func286, Tryz.ntmps286
 go_wp2_with fail
 refine HH.out.mono ?_
 rintro e w2 ⟨rfl, rfl⟩
 go_wp2
 exact bodyPost_ret (v := .tuple #[.string c, .bool b]) (by simp [results, Tryz.results286, go_sem]) rfl ⟨rfl, rfl⟩
theorem z42 {s : BA} {l : List UInt8} (h : s.data.toList = l) : s = ⟨l.toArray⟩ := by
 apply ByteArray.ext; apply Array.toList_inj.1; simpa using h
theorem z43 {s : BA} {l : List UInt8} (h : s.data.toList ≠ l) : (s.toList == l) = false := by rw [ByteArray.toList_eq]; exact beq_eq_false_iff_ne.2 h
theorem pkey_any (s : BA) (hs : s.size <= 140737488351232) (w : World) (hE : EnvW w) : Calls Tryz.prog 273 #[.string s] w fun e w' => e = .returned (.bool (pkeyB s.data.toList)) /\ Below w.heap.size w w' := by
 by_cases hzero : s.data.toList = [122, 101, 114, 111]
 ·have HE : Hid (pkeyB s.data.toList = true) := hid (by rw [hzero]; decide)
  obtain rfl := z42 hzero
  clear hzero
  go_enter Tryz.func273, Tryz.ntmps273
  go_wp2
  go_ret
  exact ⟨z03 HE.out.symm, Below.refl _ _⟩
 by_cases hone : s.data.toList = [111, 110, 101]
 ·have HE : Hid (pkeyB s.data.toList = true) := hid (by rw [hone]; decide)
  obtain rfl := z42 hone
  clear hone
  go_enter Tryz.func273, Tryz.ntmps273
  go_wp2
  go_ret
  exact ⟨z03 HE.out.symm, Below.refl _ _⟩
 by_cases htwo : s.data.toList = [116, 119, 111]
 ·have HE : Hid (pkeyB s.data.toList = true) := hid (by rw [htwo]; decide)
  obtain rfl := z42 htwo
  clear htwo
  go_enter Tryz.func273, Tryz.ntmps273
  go_wp2
  go_ret
  exact ⟨z03 HE.out.symm, Below.refl _ _⟩
 by_cases hfew : s.data.toList = [102, 101, 119]
 ·have HE : Hid (pkeyB s.data.toList = true) := hid (by rw [hfew]; decide)
  obtain rfl := z42 hfew
  clear hfew
  go_enter Tryz.func273, Tryz.ntmps273
  go_wp2
  go_ret
  exact ⟨z03 HE.out.symm, Below.refl _ _⟩
 by_cases hmany : s.data.toList = [109, 97, 110, 121]
 ·have HE : Hid (pkeyB s.data.toList = true) := hid (by rw [hmany]; decide)
  obtain rfl := z42 hmany
  clear hmany
  go_enter Tryz.func273, Tryz.ntmps273
  go_wp2
  go_ret
  exact ⟨z03 HE.out.symm, Below.refl _ _⟩
 by_cases hother : s.data.toList = [111, 116, 104, 101, 114]
 ·have HE : Hid (pkeyB s.data.toList = true) := hid (by rw [hother]; decide)
  obtain rfl := z42 hother
  clear hother
  go_enter Tryz.func273, Tryz.ntmps273
  go_wp2
  go_ret
  exact ⟨z03 HE.out.symm, Below.refl _ _⟩
 have Bzero := z43 hzero
 have Bone := z43 hone
 have Btwo := z43 htwo
 have Bfew := z43 hfew
 have Bmany := z43 hmany
 have Bother := z43 hother
 have HE0 : Hid (pkeyB s.data.toList = eqB s.data.toList) := hid (by rw [pkey_eq]; simp [hzero, hone, htwo, hfew, hmany, hother])
 have HC := hid (cut_any s hs w)
 have HN := hid (fun h => cutB_eq s h)
 have HEV := hid hE
 have hcs : (cutB s).size <= 140737488351232 := by
  by_cases h : s.data.toList.head? = some 61
  ·unfold cutB; rw [if_pos h, ByteArray.size_extract]; omega
  ·unfold cutB; rw [if_neg h]; exact hs
 have HNB := hid (z5m (cutB s) w hcs hE)
 have HNO : Hid (s.data.toList.head? ≠ some 61 -> eqB s.data.toList = false) := hid (fun h => by
  cases hl : s.data.toList with
  | nil => rfl
  | cons d r =>
   rw [hl] at h
   have hd : d ≠ 61 := fun e => h (by rw [e]; rfl)
   unfold eqB
   split
   ·rename_i e; injection e with e; exact absurd e hd
   ·rfl)
 clear hzero hone htwo hfew hmany hother hcs hE
 generalize cutB s = c at *
 cases hb : (s.data.toList.head? == some 61) with
 | true =>
  rw [hb] at HC
  have HE := hid (HE0.out.trans (HN.out (beq_iff_eq.1 hb)).symm)
  clear hb
  go_enter Tryz.func273, Tryz.ntmps273
  go_wp2_with fail
  refine HC.out.mono ?_
  rintro e w2 ⟨rfl, rfl⟩
  go_wp2_with fail
  refine HNB.out.mono ?_
  rintro e w3 ⟨rfl, hb3⟩
  have HB3 := hid hb3
  clear hb3
  go_wp2
  go_ret
  exact ⟨z03 HE.out.symm, HB3.out⟩
 | false =>
  rw [hb] at HC
  have HE := hid (HE0.out.trans (HNO.out (beq_eq_false_iff_ne.1 hb)))
  clear hb
  go_enter Tryz.func273, Tryz.ntmps273
  go_wp2_with fail
  refine HC.out.mono ?_
  rintro e w2 ⟨rfl, rfl⟩
  go_wp2
  go_ret
  exact ⟨z03 HE.out.symm, Below.refl _ _⟩
end Go.Proofs.YtdkkkeoicekdgaaGreatDoor

end
