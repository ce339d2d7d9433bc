/- Package code's Put: the closure that writes a value, at a list, and so at every value; Put's answer, whether the bytes fit or not. -/
import Derived.Laws.EntriesVeiled
import Derived.Lib.AppendStr
import Derived.Lib.SlBytesConst
import Derived.Lib.AppendZeros
import Derived.Deep.RegionHeld3
import Derived.Test.YtdkkkeoicekdgaaGreatDoorZBCWriteS
import Derived.Test.YtdkkkeoicekdgaaGreatDoorZBg43
import Derived.Test.YtdkkkeoicekdgaaGreatDoorZBCWrite

section

namespace Go.Proofs.YtdkkkeoicekdgaaGreatDoor.Co
set_option maxHeartbeats 1600000
set_option maxRecDepth 100000
open Go.Lib (hid)
open Go.RowKit
mutual
def Tx : Tree -> Prop
 | .num _ => True
 | .text bs => bs.length <= 140737488351232
 | .list ts => TxL ts
def TxL : List Tree -> Prop
 | [] => True
 | t :: ts => Tx t /\ TxL ts
end
def z4l (t : Tree) : Prop := ∀ (B b fb ab wb : Nat) (w : World) (st : St) (v : Value), WEnvS B b fb ab wb w -> HoldS B b fb st w -> Rep w (S24 w) t v ->
 Calls Tryz.prog 91 #[v, .pointer (some ⟨ab, 0, none⟩), .pointer (some ⟨wb, 0, none⟩)] w fun e w' => e = .returned (.tuple #[]) /\ WroteS B b fb (wrT t st) w w'
theorem z88 {ts : List Tree} (hts : ∀ t, t ∈ ts -> z4l t) (hlenb : ts.length <= 4000) : z4l (.list ts) := by
 intro B b fb ab wb w st v env hh hrep
 rw [wrT]
 rw [Rep] at hrep
 obtain ⟨L, xs, rfl, hown, -, hall⟩ := hrep
 obtain ⟨a, n, cap, rfl, hn⟩ : ∃ a n cap, L = .slice a n cap /\ n = ts.length := by
  rcases hown.2 with ⟨rfl, h0⟩ | ⟨g, cap, cur, rfl, -⟩
  ·exact ⟨_, _, _, rfl, h0.symm⟩
  ·exact ⟨_, _, _, rfl, rfl⟩
 subst hn
 have hla := z02 env.add
 have hca := cell_of_heap env.add
 have env0 := env.alloc (.cells #[.int .i64 3, .int .i64 0, .string ⟨#[]⟩, .slice a ts.length cap] 88)
 have hh0 := hh.alloc (.cells #[.int .i64 3, .int .i64 0, .string ⟨#[]⟩, .slice a ts.length cap] 88)
 have hb0 : (w.alloc (.cells #[.int .i64 3, .int .i64 0, .string ⟨#[]⟩, .slice a ts.length cap] 88)).heap[w.heap.size]? = some (.cells #[.int .i64 3, .int .i64 0, .string ⟨#[]⟩, .slice a ts.length cap] 88 (0, 0)) := heap_alloc_new _ _
 have HBL : Hid (Below w.heap.size w (w.alloc (.cells #[.int .i64 3, .int .i64 0, .string ⟨#[]⟩, .slice a ts.length cap] 88))) := hid (z04 w _)
 have HT := hid hts
 have HW := hid hown
 have HA := hid hall
 have HB := hid env.hB
 clear hts hown hall hh env
 go_enter Tryz.func91, Tryz.ntmps91
 go_wp2_with fail
 generalize hw0 : w.alloc (.cells #[.int .i64 3, .int .i64 0, .string ⟨#[]⟩, .slice a ts.length cap] 88) = w0 at *
 clear hw0 hca
 refine (z13 env0 hh0 ⟨#[108]⟩ (by decide)).mono ?_
 rintro e w1 ⟨rfl, hw1⟩
 have env1 := env0.after hw1
 have hb1 := hw1.oth _ _ _ _ hb0 (by decide) (by decide) (by decide)
 have hcL : w1.cell? ⟨w.heap.size, 3, none⟩ = some (.slice a ts.length cap) := by simp [World.cell?, hb1]
 have H1 : Hid (WroteS B b fb (addS st [108]) w w1) := hid (WroteS.ahead HBL.out HB.out hw1)
 have E1 := hid env1
 clear hb0 hh0 env0 hw1 env1 hb1
 go_wp2
 go_loopw [40] (fun i wr => ∃ k : Nat, k <= ts.length /\ i = .int .i64 k /\ Hid (WEnvS B b fb ab wb wr) /\ Hid (WroteS B b fb (wrL (ts.take k) (addS st [108])) w wr)) (fun i _ => ts.length - (intOf i).toNat)
 case atStart => exact ⟨0, Nat.zero_le _, rfl, E1, hid (by rw [List.take_zero, wrL]; exact H1.out)⟩
 case round =>
  obtain ⟨k, hk, rfl, E, H⟩ := hrel
  by_cases hlt : k < ts.length
  ·obtain ⟨c0, c1, c2, c3, x0, x1, x2, x3, hrep⟩ := z0a.get ts xs k ts[k] HA.out (List.getElem?_eq_getElem hlt)
   obtain ⟨g, rfl⟩ : ∃ g, a = some ⟨g, 0, none⟩ := by
    rcases HW.out.2 with ⟨-, h0⟩ | ⟨g, cap, cur, hv, -⟩
    ·omega
    ·injection hv with hv; exact ⟨g, hv⟩
   have hk24 : K24 w wr := H.out.oth.k24
   have hown := HW.out
   have hownr : wr.ownsRow 0 88 4 (.slice (some ⟨g, 0, none⟩) ts.length cap) ts.length xs := z0f hown (fun g' hg' => by obtain ⟨cur, hc⟩ := own24 hown g' hg'; exact (hk24 g' cur hc).trans hc.symm)
   have hcell0 : wr.cell? ⟨g, k * 4, none⟩ = some c0 := z1o hownr x0
   have hcell1 : wr.cell? ⟨g, k * 4 + 1, none⟩ = some c1 := z1o hownr x1
   have hcell2 : wr.cell? ⟨g, k * 4 + 2, none⟩ = some c2 := z1o hownr x2
   have hcell3 : wr.cell? ⟨g, k * 4 + 3, none⟩ = some c3 := z1o hownr x3
   have hrepr := hrep.k24 hk24
   obtain ⟨kd, n0, b0, a0, len0, cap0, hcv⟩ := Rep.cells _ _ hrep
   injection hcv with hcv
   injection hcv with hcv
   injection hcv with h0 hcv
   injection hcv with h1 hcv
   injection hcv with h2 hcv
   injection hcv with h3 hcv
   subst h0 h1 h2 h3
   have hcw : wr.cell? ⟨wb, 0, none⟩ = some (z2x ab wb) := cell_of_heap E.out.wr
   have hltw := z02 E.out.wr
   have HRr := hid hrepr
   clear x0 x1 x2 x3 hrep hrepr hcv hk24 hown hownr
   go_wp2_with fail
   have htk := wrL_take (ts := ts) (k := k) (List.getElem?_eq_getElem hlt) (addS st [108])
   refine (HT.out ts[k] (List.getElem_mem hlt) B b fb ab wb _ _ _ (E.out.alloc _) (H.out.holds.alloc _) (HRr.out.k24 ((K24.refl _).alloc _))).mono ?_
   rintro e w2 ⟨rfl, hw2⟩
   have hN : Hid (WEnvS B b fb ab wb w2 /\ WroteS B b fb (wrL (ts.take (k + 1)) (addS st [108])) w w2) := hid (by
    refine ⟨(E.out.alloc _).after hw2, ?_⟩
    rw [htk]
    exact H.out.trans (WroteS.ahead (z04 wr _) E.out.hB hw2))
   clear hw2 htk
   go_wp2
   go_roundw
   case rel => exact ⟨k + 1, by omega, by go_num, hid hN.out.1, hid hN.out.2⟩
   case measure => simp [intOf]; omega
  ·have hca : wr.cell? ⟨ab, 0, none⟩ = some (addFn fb b) := cell_of_heap E.out.add
   have hkn : ts.take k = ts := List.take_of_length_le (by omega)
   have HN := hid hkn
   clear hkn
   go_wp2_with fail
   refine (z13 E.out H.out.holds ⟨#[101]⟩ (by decide)).mono ?_
   rintro e w2 ⟨rfl, hw2⟩
   have hend : Hid (WroteS B b fb (addS (wrL ts (addS st [108])) [101]) w w2) := hid (by
    have h := H.out.trans hw2
    rw [HN.out] at h
    exact h)
   clear hw2
   go_wp2
   go_end0
   exact ⟨rfl, hend.out⟩
mutual
theorem z6r : ∀ t : Tree, Ok t -> Tx t -> nodes t <= 4000 -> z4l t
 | .num n, h, _, _ => fun B b fb ab wb w st v env hh hrep => by
  rw [Ok] at h; rw [Rep] at hrep; subst hrep
  exact zae env hh n h.1 h.2
 | .text bs, _, hx, _ => fun B b fb ab wb w st v env hh hrep => by
  rw [Rep] at hrep; subst hrep
  rw [Tx] at hx
  have hsz : (⟨bs.toArray⟩ : ByteArray).size = bs.length := by simp [ByteArray.size]
  have := z87 env hh ⟨bs.toArray⟩ (by rw [hsz]; exact hx)
  rw [hsz] at this
  rw [wrT]
  exact this
 | .list ts, h, hx, hn => z88 (z5e ts (by rw [Ok] at h; exact h) (by rw [Tx] at hx; exact hx) (by rw [nodes] at hn; omega)) (by have := z3v ts; rw [nodes] at hn; omega)
theorem z5e : ∀ ts : List Tree, OkL ts -> TxL ts -> z0s ts <= 4000 -> ∀ t, t ∈ ts -> z4l t
 | [], _, _, _, t, ht => by cases ht
 | u :: ts, h, hx, hn, t, ht => by
  rw [OkL] at h
  rw [TxL] at hx
  rw [z0s] at hn
  rcases List.mem_cons.1 ht with h' | h'
  ·rw [h']; exact z6r u h.1 hx.1 (by omega)
  ·exact z5e ts h.2 hx.2 (by omega) t h'
end
def putF (t : Tree) : List UInt8 × Int := if (enc t).length <= 131072 then (enc t, 0) else ([], 2)
theorem z9f {t : Tree} (h : (enc t).length <= 131072) : putF t = (enc t, 0) := by unfold putF; rw [if_pos h]
theorem zbu {t : Tree} (h : 131072 < (enc t).length) : putF t = ([], 2) := by unfold putF; rw [if_neg (by omega)]
theorem putS_any {t : Tree} {v : Value} {w : World} (hrep : Rep w (S24 w) t v) (hok : Ok t) (htx : Tx t) (hlev : Lev 1 t) (hn : nodes t <= 4000)
  (htab : Lib.TabIs Tryz.prog w "internal/strconv.uint64pow10" .u64 Lib.pow10Tab) : Calls Tryz.prog 51 #[v] w fun e w' => e = .returned (.tuple #[.string ⟨(putF t).1.toArray⟩, .int .i64 (putF t).2]) /\ Below w.heap.size w w' := by
 have hmf : ∀ (fn : Fn) (first cap : Array Value) (w : World), (Instr.makeFunc fn first cap).run Tryz.prog w = .ok (.func fn first cap) w := fun _ _ _ _ => rfl
 obtain ⟨kd, n0, b0, a, len, cap, rfl⟩ := Rep.cells t v hrep
 have HR : Hid (∀ W, K24 w W -> Calls Tryz.prog 88 #[.agg #[.int .i64 kd, .int .i64 n0, .string b0, .slice a len cap]] W fun e w' => e = .returned (.int .i64 0) /\ Below W.heap.size W w') :=
  hid (fun W hK => z1l (hrep.k24 hK) hlev hn)
 have HW : Hid (∀ (B b fb ab wb : Nat) (W : World), K24 w W -> WEnvS B b fb ab wb W -> HoldS B b fb ([], true) W -> Calls Tryz.prog 91 #[.agg #[.int .i64 kd, .int .i64 n0, .string b0, .slice a len cap], .pointer (some ⟨ab, 0, none⟩), .pointer (some ⟨wb, 0, none⟩)] W fun e w' => e = .returned (.tuple #[]) /\ WroteS B b fb (wrT t ([], true)) W w') :=
  hid (fun B b fb ab wb W hK hE hH => z6r t hok htx hn B b fb ab wb W _ _ hE hH (hrep.k24 hK))
 have HT := hid htab
 clear hrep hlev hok htx htab
 go_enter Tryz.func51, Tryz.ntmps51
 go_wp2_with fail
 refine (HR.out _ ((K24.refl _).alloc _)).mono ?_
 rintro e w1 ⟨rfl, hb1⟩
 have hbox : w1.heap[w.heap.size]? = some (.cells #[.int .i64 kd, .int .i64 n0, .string b0, .slice a len cap] 88 (0, 0)) := (hb1.block _ (by simp)).trans (heap_alloc_new _ _)
 have hbw : Below w.heap.size w w1 := (z04 w _).trans (hb1.mono (by simp))
 have hc0 : w1.cell? ⟨w.heap.size, 0, none⟩ = some (.int .i64 kd) := by simp [World.cell?, hbox]
 have hc1 : w1.cell? ⟨w.heap.size, 1, none⟩ = some (.int .i64 n0) := by simp [World.cell?, hbox]
 have hc2 : w1.cell? ⟨w.heap.size, 2, none⟩ = some (.string b0) := by simp [World.cell?, hbox]
 have hc3 : w1.cell? ⟨w.heap.size, 3, none⟩ = some (.slice a len cap) := by simp [World.cell?, hbox]
 have hlt := z02 hbox
 have hlt1 : w.heap.size < w1.heap.size + 1 := by omega
 have hlt2 : w.heap.size < w1.heap.size + 1 + 1 := by omega
 have hlt3 : w.heap.size < w1.heap.size + 1 + 1 + 1 := by omega
 have HB := hid hbw
 clear hb1 hbw hbox
 go_wp2_with fail
 obtain ⟨g0, g1, g2, g3⟩ := four_get w1 (.cells #[.pointer none, .slice none 0 0] 117) (.cells #[.bool true] 4) (.cells #[addFn (w1.heap.size + 1) w1.heap.size] 141) (.cells #[z2x (w1.heap.size + 1 + 1) (w1.heap.size + 1 + 1 + 1)] 142)
 have hbl := zat w1 (.cells #[.pointer none, .slice none 0 0] 117) (.cells #[.bool true] 4) (.cells #[addFn (w1.heap.size + 1) w1.heap.size] 141) (.cells #[z2x (w1.heap.size + 1 + 1) (w1.heap.size + 1 + 1 + 1)] 142)
 have hH : Holds w1.heap.size w1.heap.size [] ((((w1.alloc (.cells #[.pointer none, .slice none 0 0] 117)).alloc (.cells #[.bool true] 4)).alloc (.cells #[addFn (w1.heap.size + 1) w1.heap.size] 141)).alloc (.cells #[z2x (w1.heap.size + 1 + 1) (w1.heap.size + 1 + 1 + 1)] 142)) :=
  Lib.IsBuilderF.alloc (Lib.IsBuilderF.alloc (Lib.IsBuilderF.alloc (Lib.IsBuilderF.of (Lib.fresh_isBuilder 117 5 w1)) _) _) _
 generalize ((((w1.alloc (.cells #[.pointer none, .slice none 0 0] 117)).alloc (.cells #[.bool true] 4)).alloc (.cells #[addFn (w1.heap.size + 1) w1.heap.size] 141)).alloc (.cells #[z2x (w1.heap.size + 1 + 1) (w1.heap.size + 1 + 1 + 1)] 142)) = W at g0 g1 g2 g3 hbl hH ⊢
 have htab : Lib.TabBelow Tryz.prog w1.heap.size W "internal/strconv.uint64pow10" .u64 Lib.pow10Tab := fun w' hb => Lib.tabBelow_of_tabIs HT.out w' ((HB.out.trans (hbl.mono HB.out.size)).trans (hb.mono HB.out.size))
 have hE : WEnvS w1.heap.size w1.heap.size (w1.heap.size + 1) (w1.heap.size + 1 + 1) (w1.heap.size + 1 + 1 + 1) W := ⟨g2, g3, htab, hbl.size, by omega⟩
 have hHS : HoldS w1.heap.size w1.heap.size (w1.heap.size + 1) ([], true) W := ⟨hH, g1, by simp⟩
 refine Calls.mono (HW.out w1.heap.size w1.heap.size (w1.heap.size + 1) (w1.heap.size + 1 + 1) (w1.heap.size + 1 + 1 + 1) W (fun g cur e => (hbl.block g (by have := z02 e; have := HB.out.size; omega)).trans ((HB.out.block g (z02 e)).trans e)) hE hHS) ?_
 rintro e w2 ⟨rfl, hw2⟩
 have hcf := cell_of_heap hw2.holds.f
 have HE : Hid (Below w.heap.size w w2) := hid ((HB.out.trans (hbl.mono HB.out.size)).trans (hw2.below.mono HB.out.size))
 have HZ := hid HB.out.size
 have HH2 := hid hw2.holds
 have HS2 := hid (show w1.heap.size <= w2.heap.size by have := hw2.below.size; have := hbl.size; omega)
 clear hE hH hHS hw2 htab g0 g1 g2 g3 hbl hmf hc0 hc1 hc2 hc3 HW HR
 by_cases hfit : (enc t).length <= 131072
 ·have HP := hid (z9f hfit)
  have hw := (z35 t [] (by simp)).1 (by simpa using hfit)
  rw [List.nil_append] at hw
  rw [hw] at hcf HH2
  simp only at hcf
  have HS := hid (Tryz.Builder_String_any_k w1.heap.size w1.heap.size (enc t) w2 HH2.out.h HS2.out)
  clear hw
  go_wp2_with fail
  refine HS.out.mono ?_
  rintro e w3 ⟨rfl, -, hb3, -⟩
  have hend : Hid (Below w.heap.size w w3) := hid (HE.out.trans (hb3.mono HZ.out))
  clear hb3
  go_wp2
  go_ret2
  exact ⟨by rw [HP.out]; rfl, hend.out⟩
 ·have HP := hid (zbu (t := t) (by omega))
  obtain ⟨l', hw⟩ := (z35 t [] (by simp)).2 (by simpa using hfit)
  rw [hw] at hcf HH2
  simp only at hcf
  clear hw
  go_wp2
  go_ret2
  exact ⟨by rw [HP.out]; rfl, HE.out⟩
end Go.Proofs.YtdkkkeoicekdgaaGreatDoor.Co

end

section

namespace Go.Proofs.YtdkkkeoicekdgaaGreatDoor.Co
open Go.RowKit
theorem K24.below {w w' : World} (h : Below w.heap.size w w') : K24 w w' := fun g _ e => (h.block g (z02 e)).trans e
mutual
def dep : Tree -> Nat
 | .num _ => 1
 | .text _ => 1
 | .list ts => 1 + depL ts
def depL : List Tree -> Nat
 | [] => 0
 | t :: ts => max (dep t) (depL ts)
end
end Go.Proofs.YtdkkkeoicekdgaaGreatDoor.Co

end

section

namespace Go.Proofs.YtdkkkeoicekdgaaGreatDoor.Co
open Go.RowKit
end Go.Proofs.YtdkkkeoicekdgaaGreatDoor.Co

end

section

namespace Go.Proofs.YtdkkkeoicekdgaaGreatDoor.Co
open Go.RowKit Go.Lib
def OwnM (w : World) (base : Nat) (v : Value) (xs : List Value) : Prop :=
 ∃ g cap cur lo hi, v = .slice (some ⟨g, 0, none⟩) xs.length cap /\ base <= g /\ w.heap[g]? = some (.cells cur 5 (lo, hi)) /\ (∀ i, i < cur.size -> ¬ (lo <= i /\ i < hi)) /\ xs.length <= cap /\ cap <= maxLen /\ cur.size = cap /\ cur.toList.take xs.length = xs
theorem OwnM.lt {w : World} {base : Nat} {v : Value} {xs : List Value} (h : OwnM w base v xs) (g : Nat) (hg : v.ownBlock = some g) : base <= g /\ g < w.heap.size := by
 obtain ⟨g1, cap, cur, lo, hi, rfl, hb, hh, -⟩ := h
 obtain rfl : g1 = g := Option.some.inj hg
 exact ⟨hb, (Array.getElem?_eq_some_iff.1 hh).1⟩
theorem OwnM.below {w w' : World} {base : Nat} {v : Value} {xs : List Value} (h : OwnM w base v xs) (hb : Below w.heap.size w w') : OwnM w' base v xs := by
 obtain ⟨g, cap, cur, lo, hi, hv, hbs, hh, hr⟩ := h
 exact ⟨g, cap, cur, lo, hi, hv, hbs, (hb.block g (Array.getElem?_eq_some_iff.1 hh).1).trans hh, hr⟩
theorem OwnM.slice {w : World} {base : Nat} {v : Value} {xs : List Value} (h : OwnM w base v xs) : ∃ g cap, v = .slice (some ⟨g, 0, none⟩) xs.length cap /\ base <= g /\ g < w.heap.size /\ xs.length <= cap := by
 obtain ⟨g, cap, cur, lo, hi, hv, hb, hh, -, hc, -⟩ := h
 exact ⟨g, cap, hv, hb, (Array.getElem?_eq_some_iff.1 hh).1, hc⟩
theorem OwnM.cell {w : World} {base g n cap : Nat} {xs : List Value} (h : OwnM w base (.slice (some ⟨g, 0, none⟩) n cap) xs) {j : Nat} {u : Value} (hj : xs[j]? = some u) : w.cell? ⟨g, j, none⟩ = some u := by
 obtain ⟨g1, cap1, cur, lo, hi, hv, hb, hh, -, hc, -, hs, ht⟩ := h
 obtain ⟨h3, -, -⟩ := Value.slice.inj hv
 obtain rfl : g = g1 := by injection h3 with h; injection h
 have h1 : (cur.toList.take xs.length)[j]? = some u := by rw [ht]; exact hj
 rw [List.getElem?_take] at h1
 split at h1
 ·rw [Array.getElem?_toList] at h1
  simp [World.cell?, hh, h1]
 ·cases h1
section
variable {P : Program}
end
abbrev OwnB (w : World) (B : Nat) (v : Value) (l : List UInt8) : Prop := w.ownsRow B 5 1 v l.length (Lib.byteCells l)
def OwnX (w : World) (B : Nat) (v : Value) (l : List UInt8) : Prop :=
 (OwnB w B v l /\ v ≠ .slice none 0 0) ∨ ∃ g c, v = .slice (some ⟨g, 0, none⟩) 1 1 /\ B <= g /\ w.heap[g]? = some (.cells #[c] 5 (1, 2)) /\ l.length = 1 /\ Lib.byteCells l = [c]
theorem OwnX.below {w w' : World} {B : Nat} {v : Value} {l : List UInt8} (h : OwnX w B v l) (hb : Below w.heap.size w w') : OwnX w' B v l := by
 rcases h with ⟨h, hn⟩ | ⟨g, c, hv, hB, hh, hl⟩
 ·exact .inl ⟨z0f h (fun g hg => hb.block g (h.lt g hg).2), hn⟩
 ·exact .inr ⟨g, c, hv, hB, (hb.block g (z02 hh)).trans hh, hl⟩
theorem OwnX.lt {w : World} {B : Nat} {v : Value} {l : List UInt8} (h : OwnX w B v l) (g : Nat) (hg : v.ownBlock = some g) : B <= g /\ g < w.heap.size := by
 rcases h with ⟨h, -⟩ | ⟨g', c, rfl, hB, hh, -⟩
 ·exact h.lt g hg
 ·obtain rfl : g' = g := Option.some.inj hg
  exact ⟨hB, z02 hh⟩
theorem OwnX.slice {w : World} {B : Nat} {v : Value} {l : List UInt8} (h : OwnX w B v l) : ∃ a cap, v = .slice a l.length cap := by
 rcases h with ⟨h, -⟩ | ⟨g, c, rfl, -, -, hl, -⟩
 ·rcases h.2 with ⟨rfl, h0⟩ | ⟨g, cap, cur, rfl, -⟩
  ·exact ⟨none, 0, by rw [h0]⟩
  ·exact ⟨_, cap, rfl⟩
 ·exact ⟨_, 1, by rw [hl]⟩
end Go.Proofs.YtdkkkeoicekdgaaGreatDoor.Co

end

section

namespace Go.Proofs.YtdkkkeoicekdgaaGreatDoor.Co
open Go.RowKit
abbrev TabW (w : World) : Prop := Lib.TabIs Tryz.prog w "internal/strconv.uint64pow10" .u64 Lib.pow10Tab
theorem TabW.below {w w' : World} (h : TabW w) (hb : Below w.heap.size w w') : TabW w' := Lib.tabBelow_of_tabIs h w' hb
end Go.Proofs.YtdkkkeoicekdgaaGreatDoor.Co

end
