/- Right: how many parts, how deep. -/
import Derived.Laws.EntriesVeiled
import Derived.Test.YtdnedbcmgkilaaaGreatDoorZSg5
import Derived.Test.YtdnedbcmgkilaaaGreatDoorZSg38

section

namespace Go.Proofs.YtdnedbcmgkilaaaGreatDoor
set_option maxHeartbeats 3200000
set_option maxRecDepth 100000
open Go.Lib (hid)
open Go.RowKit
theorem Fr.to_belowX {a w w' : World} (hb : Below a.heap.size a w) (h : Fr (XX a.heap.size (a.heap.size + 1)) w w') : Below a.heap.size a w' :=
 ⟨h.os.trans hb.os, h.tape.trans hb.tape, h.output.trans hb.output, Nat.le_trans hb.size h.size, fun k hk => (h.block k (Nat.lt_of_lt_of_le hk hb.size) (fun e => by rcases e with e | e <;> omega)).trans (hb.block k hk)⟩
theorem zb7 (n : Nat) (w : World) (a : Option Addr) (cap : Nat) (xs : List Pt) (hxs : SlP w (Old w) n (.slice a xs.length cap) xs) (hc : cntPs xs <= 2000) :
  Calls Tryz.prog 117 #[.slice a xs.length cap] w fun e w' => (∃ C D : Nat, e = .returned (.tuple #[.int .i64 C, .int .i64 D]) /\ Vi 0 0 0 (cntPs xs) (dpPs xs) C D) /\ Below w.heap.size w w' := by
 obtain ⟨L, HL⟩ : ∃ L, Hid (L = xs.length) := ⟨_, hid rfl⟩
 have R0 : Row (((w.alloc (.cells #[.int .i64 0] 3)).alloc (.cells #[.int .i64 0] 3)).alloc (.cells #[z3b w.heap.size (w.heap.size + 1) (w.heap.size + 1 + 1)] 183)) w.heap.size 3 [.int .i64 0] := ((z04 w #[.int .i64 0] 3).alloc _).alloc _
 have R1 : Row (((w.alloc (.cells #[.int .i64 0] 3)).alloc (.cells #[.int .i64 0] 3)).alloc (.cells #[z3b w.heap.size (w.heap.size + 1) (w.heap.size + 1 + 1)] 183)) (w.heap.size + 1) 3 [.int .i64 0] := by
  have := (z04 (w.alloc (.cells #[.int .i64 0] 3)) #[.int .i64 0] 3).alloc (.cells #[z3b w.heap.size (w.heap.size + 1) (w.heap.size + 1 + 1)] 183)
  rw [World.size_alloc] at this; exact this
 have R2 : Row (((w.alloc (.cells #[.int .i64 0] 3)).alloc (.cells #[.int .i64 0] 3)).alloc (.cells #[z3b w.heap.size (w.heap.size + 1) (w.heap.size + 1 + 1)] 183)) (w.heap.size + 1 + 1) 183 [z3b w.heap.size (w.heap.size + 1) (w.heap.size + 1 + 1)] := by
  have := z04 ((w.alloc (.cells #[.int .i64 0] 3)).alloc (.cells #[.int .i64 0] 3)) #[z3b w.heap.size (w.heap.size + 1) (w.heap.size + 1 + 1)] 183
  rw [World.size_alloc, World.size_alloc] at this; exact this
 have HB4 := hid (below3 w (.cells #[.int .i64 0] 3) (.cells #[.int .i64 0] 3) (.cells #[z3b w.heap.size (w.heap.size + 1) (w.heap.size + 1 + 1)] 183))
 have HE : Hid (VEnv w.heap.size w.heap.size (w.heap.size + 1) (w.heap.size + 1 + 1) 0 0 (((w.alloc (.cells #[.int .i64 0] 3)).alloc (.cells #[.int .i64 0] 3)).alloc (.cells #[z3b w.heap.size (w.heap.size + 1) (w.heap.size + 1 + 1)] 183))) := hid ⟨R0, R1, R2, by omega, by omega, by omega, by omega⟩
 have HX := hid (SlP.keep hxs (fun b hb => HB4.out.block b hb) (S' := Lt w.heap.size) (fun b hb => hb))
 have HC := hid (zg5 n w.heap.size w.heap.size (w.heap.size + 1) (w.heap.size + 1 + 1) 0 0 0 _ a cap xs HE.out HX.out (by omega) hc (by omega) (by omega))
 simp only [Int.natCast_zero] at HC
 rw [<- HL.out] at HC ⊢
 clear hxs R0 R1 R2 HE HX
 go_enter Tryz.func117, Tryz.ntmps117
 go_wp2_with fail
 generalize (((w.alloc (.cells #[.int .i64 0] 3)).alloc (.cells #[.int .i64 0] 3)).alloc (.cells #[z3b w.heap.size (w.heap.size + 1) (w.heap.size + 1 + 1)] 183)) = w4 at *
 refine HC.out.mono ?_
 rintro e w5 ⟨rfl, ⟨C, D, he5, hi5, -⟩, hf5⟩
 clear HC
 have HI5 := hid hi5
 have HB5 := hid (Fr.to_belowX HB4.out hf5)
 have k0 := he5.cnt.cell (i := 0) rfl
 have k1 := he5.dep.cell (i := 0) rfl
 have z0 := he5.cnt.thaw 0
 have z1 := he5.dep.thaw 0
 have hn : w.heap.size ≠ w.heap.size + 1 := by omega
 have HV := hid (he5.set C D)
 have k2 : (w5.setCell ⟨w.heap.size, 0, none⟩ (.int .i64 C)).cell? ⟨w.heap.size + 1, 0, none⟩ = some (.int .i64 D) := (World.cell?_setCell_other w5 _ _ _ (fun e => by injection e with e; omega)).trans k1
 clear he5 hi5 hf5
 go_wp2
 go_region
 have HB6 : Hid (Below w.heap.size w ((w5.setCell ⟨w.heap.size, 0, none⟩ (.int .i64 C)).setCell ⟨w.heap.size + 1, 0, none⟩ (.int .i64 D)).drew) := hid ((HB5.out.setCell (p := ⟨w.heap.size, 0, none⟩) (Nat.le_refl _) _).setCell (p := ⟨w.heap.size + 1, 0, none⟩) (Nat.le_succ _) _).drew
 have e0 : ((w5.setCell ⟨w.heap.size, 0, none⟩ (.int .i64 C)).setCell ⟨w.heap.size + 1, 0, none⟩ (.int .i64 D)).drew.cell? ⟨w.heap.size, 0, none⟩ = some (.int .i64 C) := HV.out.cnt.cell (i := 0) rfl
 have e1 : ((w5.setCell ⟨w.heap.size, 0, none⟩ (.int .i64 C)).setCell ⟨w.heap.size + 1, 0, none⟩ (.int .i64 D)).drew.cell? ⟨w.heap.size + 1, 0, none⟩ = some (.int .i64 D) := HV.out.dep.cell (i := 0) rfl
 generalize ((w5.setCell ⟨w.heap.size, 0, none⟩ (.int .i64 C)).setCell ⟨w.heap.size + 1, 0, none⟩ (.int .i64 D)).drew = w7 at *
 go_wp2
 exact bodyPost_ret (v := .tuple #[.int .i64 C, .int .i64 D]) (by simp [results, Tryz.results117, go_sem, e0, e1]) rfl ⟨⟨C, D, rfl, HI5.out⟩, HB6.out⟩
end Go.Proofs.YtdnedbcmgkilaaaGreatDoor

end

section

namespace Go.Proofs.YtdnedbcmgkilaaaGreatDoor
set_option maxHeartbeats 3200000
set_option maxRecDepth 100000
open Go.Lib (hid)
open Go.RowKit
def eqB (s : List UInt8) : Bool := match s with | 61 :: r => numB r | _ => false
theorem zct (s : List UInt8) : pkeyB s = (s == [122, 101, 114, 111] || s == [111, 110, 101] || s == [116, 119, 111] || s == [102, 101, 119] || s == [109, 97, 110, 121] || s == [111, 116, 104, 101, 114] || eqB s) := by
 unfold pkeyB eqB; rfl
theorem zfv (s : BA) (c : UInt8) (w : World) : Calls Tryz.prog 189 #[.string s, .string ⟨#[c]⟩] w fun e w' => e = .returned (.bool (s.data.toList.head? == some c)) /\ w' = w := by
 by_cases h0 : s.size = 0
 ·have hs : s = ⟨#[]⟩ := by apply ByteArray.ext; exact Array.eq_empty_of_size_eq_zero h0
  subst hs
  go_enter Tryz.func189, Tryz.ntmps189
  go_wp2
  go_ret
  exact ⟨rfl, rfl⟩
 ·have h1 : (1 : Int) <= s.size := by omega
  have h2 : 1 <= s.size := by omega
  obtain ⟨d, r, hdr⟩ : ∃ d r, s.data.toList = d :: r := by
   cases h : s.data.toList with
   | nil => have := z05 s; rw [h] at this; simp at this; omega
   | cons d r => exact ⟨d, r, rfl⟩
  have hx : s.extract 0 1 = ⟨#[d]⟩ := by
   apply ByteArray.ext
   apply Array.toList_inj.1
   simp only [ByteArray.data_extract, Array.toList_extract, List.extract_eq_take_drop]
   rw [hdr]; rfl
  have HE : Hid ((s.data.toList.head? == some c) = (d == c)) := hid (by rw [hdr]; rfl)
  clear hdr
  go_enter Tryz.func189, Tryz.ntmps189
  go_wp2
  go_ret
  exact ⟨z01 HE.out.symm, rfl⟩
def cutB (s : BA) : BA := if s.data.toList.head? = some 61 then s.extract 1 s.size else s
theorem cutB_eq (s : BA) (h : s.data.toList.head? = some 61) : numB (cutB s).data.toList = eqB s.data.toList := by
 unfold cutB; rw [if_pos h]
 cases hs : s.data.toList with
 | nil => rw [hs] at h; cases h
 | cons d r =>
  rw [hs] at h
  obtain rfl : d = 61 := by simpa using h
  simp only [eqB, ByteArray.data_extract, Array.toList_extract, List.extract_eq_take_drop]
  rw [hs]
  have hl := z05 s
  rw [hs] at hl
  simp only [List.length_cons] at hl
  simp only [List.drop_succ_cons, List.drop_zero]
  rw [List.take_of_length_le (by omega)]
theorem zja (s : BA) (hs : s.size <= 140737488351232) (w : World) : Calls Tryz.prog 233 #[.string s, .string ⟨#[61]⟩] w fun e w' => e = .returned (.tuple #[.string (cutB s), .bool (s.data.toList.head? == some 61)]) /\ w' = w := by
 have HH := hid (zfv s 61 w)
 cases hb : (s.data.toList.head? == some 61) with
 | true =>
  rw [hb] at HH
  have HE : Hid (cutB s = s.extract 1 s.size) := hid (by unfold cutB; rw [if_pos (beq_iff_eq.1 hb)])
  have h1 : (1 : Int) <= s.size := by
   cases h : s.data.toList with
   | nil => rw [h] at hb; cases hb
   | cons d r => have := z05 s; rw [h] at this; simp only [List.length_cons] at this; omega
  clear hb
  go_enter Tryz.func233, Tryz.ntmps233
  go_wp2_with fail
  refine HH.out.mono ?_
  rintro e w2 ⟨rfl, rfl⟩
  go_wp2
  exact bodyPost_ret (v := .tuple #[.string (s.extract 1 s.size), .bool true]) (by simp [results, Tryz.results233, go_sem]) rfl ⟨by rw [HE.out], rfl⟩
 | false =>
  rw [hb] at HH
  have HE : Hid (cutB s = s) := hid (by unfold cutB; rw [if_neg (by rw [beq_eq_false_iff_ne] at hb; exact hb)])
  clear hb
  go_enter Tryz.func233, Tryz.ntmps233
  go_wp2_with fail
  refine HH.out.mono ?_
  rintro e w2 ⟨rfl, rfl⟩
  go_wp2
  exact bodyPost_ret (v := .tuple #[.string s, .bool false]) (by simp [results, Tryz.results233, go_sem]) rfl ⟨by rw [HE.out], rfl⟩
theorem cut_any (s : BA) (hs : s.size <= 140737488351232) (w : World) : Calls Tryz.prog 219 #[.string s, .string ⟨#[61]⟩] w fun e w' => e = .returned (.tuple #[.string (cutB s), .bool (s.data.toList.head? == some 61)]) /\ w' = w := by
 have HH := hid (zja s hs w)
 generalize cutB s = c at *
 generalize (s.data.toList.head? == some 61) = b at *
 go_enter Tryz.func219, Tryz.ntmps219
 go_wp2_with fail
 refine HH.out.mono ?_
 rintro e w2 ⟨rfl, rfl⟩
 go_wp2
 exact bodyPost_ret (v := .tuple #[.string c, .bool b]) (by simp [results, Tryz.results219, go_sem]) rfl ⟨rfl, rfl⟩
theorem z2a {s : BA} {l : List UInt8} (h : s.data.toList = l) : s = ⟨l.toArray⟩ := by
 apply ByteArray.ext; apply Array.toList_inj.1; simpa using h
theorem z2u {s : BA} {l : List UInt8} (h : s.data.toList ≠ l) : (s.toList == l) = false := by rw [ByteArray.toList_eq]; exact beq_eq_false_iff_ne.2 h
theorem pkey_any (s : BA) (hs : s.size <= 140737488351232) (w : World) (hE : EnvW w) : Calls Tryz.prog 196 #[.string s] w fun e w' => e = .returned (.bool (pkeyB s.data.toList)) /\ Below w.heap.size w w' := by
 by_cases hzero : s.data.toList = [122, 101, 114, 111]
 ·have HE : Hid (pkeyB s.data.toList = true) := hid (by rw [hzero]; decide)
  obtain rfl := z2a hzero
  clear hzero
  go_enter Tryz.func196, Tryz.ntmps196
  go_wp2
  go_ret
  exact ⟨z01 HE.out.symm, Below.refl _ _⟩
 by_cases hone : s.data.toList = [111, 110, 101]
 ·have HE : Hid (pkeyB s.data.toList = true) := hid (by rw [hone]; decide)
  obtain rfl := z2a hone
  clear hone
  go_enter Tryz.func196, Tryz.ntmps196
  go_wp2
  go_ret
  exact ⟨z01 HE.out.symm, Below.refl _ _⟩
 by_cases htwo : s.data.toList = [116, 119, 111]
 ·have HE : Hid (pkeyB s.data.toList = true) := hid (by rw [htwo]; decide)
  obtain rfl := z2a htwo
  clear htwo
  go_enter Tryz.func196, Tryz.ntmps196
  go_wp2
  go_ret
  exact ⟨z01 HE.out.symm, Below.refl _ _⟩
 by_cases hfew : s.data.toList = [102, 101, 119]
 ·have HE : Hid (pkeyB s.data.toList = true) := hid (by rw [hfew]; decide)
  obtain rfl := z2a hfew
  clear hfew
  go_enter Tryz.func196, Tryz.ntmps196
  go_wp2
  go_ret
  exact ⟨z01 HE.out.symm, Below.refl _ _⟩
 by_cases hmany : s.data.toList = [109, 97, 110, 121]
 ·have HE : Hid (pkeyB s.data.toList = true) := hid (by rw [hmany]; decide)
  obtain rfl := z2a hmany
  clear hmany
  go_enter Tryz.func196, Tryz.ntmps196
  go_wp2
  go_ret
  exact ⟨z01 HE.out.symm, Below.refl _ _⟩
 by_cases hother : s.data.toList = [111, 116, 104, 101, 114]
 ·have HE : Hid (pkeyB s.data.toList = true) := hid (by rw [hother]; decide)
  obtain rfl := z2a hother
  clear hother
  go_enter Tryz.func196, Tryz.ntmps196
  go_wp2
  go_ret
  exact ⟨z01 HE.out.symm, Below.refl _ _⟩
 have Bzero := z2u hzero
 have Bone := z2u hone
 have Btwo := z2u htwo
 have Bfew := z2u hfew
 have Bmany := z2u hmany
 have Bother := z2u hother
 have HE0 : Hid (pkeyB s.data.toList = eqB s.data.toList) := hid (by rw [zct]; simp [hzero, hone, htwo, hfew, hmany, hother])
 have HC := hid (cut_any s hs w)
 have HN := hid (fun h => cutB_eq s h)
 have HEV := hid hE
 have hcs : (cutB s).size <= 140737488351232 := by
  by_cases h : s.data.toList.head? = some 61
  ·unfold cutB; rw [if_pos h, ByteArray.size_extract]; omega
  ·unfold cutB; rw [if_neg h]; exact hs
 have HNB := hid (z2q (cutB s) w hcs hE)
 have HNO : Hid (s.data.toList.head? ≠ some 61 -> eqB s.data.toList = false) := hid (fun h => by
  cases hl : s.data.toList with
  | nil => rfl
  | cons d r =>
   rw [hl] at h
   have hd : d ≠ 61 := fun e => h (by rw [e]; rfl)
   unfold eqB
   split
   ·rename_i e; injection e with e; exact absurd e hd
   ·rfl)
 clear hzero hone htwo hfew hmany hother hcs hE
 generalize cutB s = c at *
 cases hb : (s.data.toList.head? == some 61) with
 | true =>
  rw [hb] at HC
  have HE := hid (HE0.out.trans (HN.out (beq_iff_eq.1 hb)).symm)
  clear hb
  go_enter Tryz.func196, Tryz.ntmps196
  go_wp2_with fail
  refine HC.out.mono ?_
  rintro e w2 ⟨rfl, rfl⟩
  go_wp2_with fail
  refine HNB.out.mono ?_
  rintro e w3 ⟨rfl, hb3⟩
  have HB3 := hid hb3
  clear hb3
  go_wp2
  go_ret
  exact ⟨z01 HE.out.symm, HB3.out⟩
 | false =>
  rw [hb] at HC
  have HE := hid (HE0.out.trans (HNO.out (beq_eq_false_iff_ne.1 hb)))
  clear hb
  go_enter Tryz.func196, Tryz.ntmps196
  go_wp2_with fail
  refine HC.out.mono ?_
  rintro e w2 ⟨rfl, rfl⟩
  go_wp2
  go_ret
  exact ⟨z01 HE.out.symm, Below.refl _ _⟩
end Go.Proofs.YtdnedbcmgkilaaaGreatDoor

end

section

namespace Go.Proofs.YtdnedbcmgkilaaaGreatDoor.Dr
set_option maxHeartbeats 3200000
set_option maxRecDepth 100000
open Go.Lib (hid)
open Go.RowKit Go.Proofs.YtdnedbcmgkilaaaGreatDoor
theorem z58 (t : BA) (w : World) (ht : t.size <= 140737488351232) : Calls Tryz.prog 133 #[.string t] w fun e w' => e = .returned (.bool (nameB t.data.toList)) /\ w' = w := by
 have hll := z05 t
 have HLL := hid hll
 clear hll
 go_enter Tryz.func133, Tryz.ntmps133
 go_wp2
 go_loop [3] (fun i => ∃ k : Nat, i = .int .i64 k /\ k <= t.size /\ Hid ((t.data.toList.take k).all isWrd = true)) (fun i => t.size - (intOf i).toNat)
 case atStart => exact ⟨0, rfl, by omega, hid rfl⟩
 case round =>
  obtain ⟨k, rfl, hk, HA⟩ := hrel
  by_cases hlt : k < t.size
  ·have hxk := hid (z1s t k hlt)
   have hlt2 : (k : Int) < (t.size : Int) := by omega
   obtain ⟨c, hcc⟩ : ∃ c, t[k] = c := ⟨_, rfl⟩
   rw [hcc] at hxk
   have HW := hid (fun W => z5o (c.toNat : Int) W)
   rw [z50] at HW
   have hwr := z24 c
   cases hc : isWrd c with
   | true =>
    have HA2 := hid (z54 hxk.out hc HA.out)
    rw [hc] at HW
    clear hc
    go_wp2_with fail
    refine (HW.out _).mono ?_
    rintro e w1 ⟨rfl, rfl⟩
    go_wp2
    go_round
    case rel => exact ⟨k + 1, by go_num, by omega, HA2⟩
    case measure => simp [intOf]; omega
   | false =>
    have HF := hid (z9a hxk.out hc)
    rw [hc] at HW
    clear hc
    go_wp2_with fail
    refine (HW.out _).mono ?_
    rintro e w1 ⟨rfl, rfl⟩
    go_wp2
    go_ret
    exact ⟨z01 HF.out.symm, rfl⟩
  ·have hge : ¬ (k : Int) < (t.size : Int) := by omega
   have hA : t.data.toList.all isWrd = true := by
    have := HA.out
    rw [List.take_of_length_le (by rw [HLL.out]; omega)] at this
    exact this
   by_cases h0 : t.size < 1
   ·have HF : Hid (nameB t.data.toList = false) := hid (by
     cases hl : t.data.toList with
     | nil => rfl
     | cons c r => have := HLL.out; rw [hl] at this; simp at this; omega)
    have b1 : ¬ (1 : Int) <= (t.size : Int) := by omega
    have b2 : decide ((1 : Int) <= (t.size : Int)) = false := decide_eq_false b1
    clear hA
    go_wp2
    go_ret
    exact ⟨z01 HF.out.symm, rfl⟩
   have hx0 := z1s t 0 (by omega)
   by_cases h1 : 32 < t.size
   ·have HF : Hid (nameB t.data.toList = false) := hid (by rw [z35 hx0, decide_eq_false (by rw [HLL.out]; omega)]; rfl)
    have b1 : (1 : Int) <= (t.size : Int) := by omega
    have b2 : ¬ (t.size : Int) <= 32 := by omega
    have b3 : decide ((1 : Int) <= (t.size : Int)) = true := decide_eq_true b1
    have b4 : decide ((t.size : Int) <= 32) = false := decide_eq_false b2
    clear hA hx0
    go_wp2
    go_ret
    exact ⟨z01 HF.out.symm, rfl⟩
   have hp0 : 0 < t.size := by omega
   have HF : Hid (nameB t.data.toList = isLet t[0]) := hid (by rw [z35 hx0, decide_eq_true (by rw [HLL.out]; omega), hA]; simp)
   obtain ⟨d, hd⟩ : ∃ d, t[0] = d := ⟨_, rfl⟩
   rw [hd] at HF
   have HW := hid (fun W => z2r (d.toNat : Int) W)
   rw [z4a] at HW
   have hwr := z24 d
   have b1 : (1 : Int) <= (t.size : Int) := by omega
   have b2 : (t.size : Int) <= 32 := by omega
   have b3 : decide ((1 : Int) <= (t.size : Int)) = true := decide_eq_true b1
   have b4 : decide ((t.size : Int) <= 32) = true := decide_eq_true b2
   clear hA hx0
   go_wp2_with fail
   refine (HW.out _).mono ?_
   rintro e w1 ⟨rfl, rfl⟩
   go_wp2
   go_ret
   exact ⟨z01 HF.out.symm, rfl⟩
theorem z9m : ∀ (r : List UInt8) (n m : Nat), r.all isDig = true -> n < 10 ^ m -> r.foldl nx n < 10 ^ (m + r.length)
 | [], n, m, _, h => by simpa using h
 | c :: r, n, m, ha, h => by
  simp only [List.all_cons, Bool.and_eq_true] at ha
  have hc := z29.1 ha.1
  have h1 : nx n c < 10 ^ (m + 1) := by rw [z4l, Nat.pow_succ]; omega
  have := z9m r (nx n c) (m + 1) ha.2 h1
  rw [List.foldl_cons, List.length_cons, show m + (r.length + 1) = m + 1 + r.length by omega]
  exact this
theorem rkey_no (t : BA) (w : World) (ht : t.size <= 140737488351232) : Calls Tryz.prog 203 #[.bool false, .string t] w fun e w' => e = .returned (.bool (nameB t.data.toList)) /\ w' = w := by
 have HN := hid (z58 t w ht)
 go_enter Tryz.func203, Tryz.ntmps203
 go_wp2_with fail
 refine HN.out.mono ?_
 rintro e w1 ⟨rfl, rfl⟩
 go_wp2
 go_ret
 exact ⟨rfl, rfl⟩
theorem zdu (t : BA) (w : World) (ht : t.size <= 140737488351232) : Calls Tryz.prog 203 #[.bool true, .string t] w fun e w' => e = .returned (.bool (pkeyB t.data.toList)) /\ w' = w := by
 by_cases hzero : t.data.toList = [122, 101, 114, 111]
 ·have HE : Hid (pkeyB t.data.toList = true) := hid (by rw [hzero]; decide)
  obtain rfl := z2a hzero
  clear hzero
  go_enter Tryz.func203, Tryz.ntmps203
  go_wp2
  go_ret
  exact ⟨z01 HE.out.symm, rfl⟩
 by_cases hone : t.data.toList = [111, 110, 101]
 ·have HE : Hid (pkeyB t.data.toList = true) := hid (by rw [hone]; decide)
  obtain rfl := z2a hone
  clear hone
  go_enter Tryz.func203, Tryz.ntmps203
  go_wp2
  go_ret
  exact ⟨z01 HE.out.symm, rfl⟩
 by_cases htwo : t.data.toList = [116, 119, 111]
 ·have HE : Hid (pkeyB t.data.toList = true) := hid (by rw [htwo]; decide)
  obtain rfl := z2a htwo
  clear htwo
  go_enter Tryz.func203, Tryz.ntmps203
  go_wp2
  go_ret
  exact ⟨z01 HE.out.symm, rfl⟩
 by_cases hfew : t.data.toList = [102, 101, 119]
 ·have HE : Hid (pkeyB t.data.toList = true) := hid (by rw [hfew]; decide)
  obtain rfl := z2a hfew
  clear hfew
  go_enter Tryz.func203, Tryz.ntmps203
  go_wp2
  go_ret
  exact ⟨z01 HE.out.symm, rfl⟩
 by_cases hmany : t.data.toList = [109, 97, 110, 121]
 ·have HE : Hid (pkeyB t.data.toList = true) := hid (by rw [hmany]; decide)
  obtain rfl := z2a hmany
  clear hmany
  go_enter Tryz.func203, Tryz.ntmps203
  go_wp2
  go_ret
  exact ⟨z01 HE.out.symm, rfl⟩
 by_cases hother : t.data.toList = [111, 116, 104, 101, 114]
 ·have HE : Hid (pkeyB t.data.toList = true) := hid (by rw [hother]; decide)
  obtain rfl := z2a hother
  clear hother
  go_enter Tryz.func203, Tryz.ntmps203
  go_wp2
  go_ret
  exact ⟨z01 HE.out.symm, rfl⟩
 have Bzero := z2u hzero
 have Bone := z2u hone
 have Btwo := z2u htwo
 have Bfew := z2u hfew
 have Bmany := z2u hmany
 have Bother := z2u hother
 have HE0 : Hid (pkeyB t.data.toList = eqB t.data.toList) := hid (by rw [zct]; simp [hzero, hone, htwo, hfew, hmany, hother])
 have HLL := hid (z05 t)
 clear hzero hone htwo hfew hmany hother
 by_cases h2 : t.size < 2
 ·have HF : Hid (pkeyB t.data.toList = false) := hid (by
   rw [HE0.out]
   cases hl : t.data.toList with
   | nil => rfl
   | cons c r =>
    have hlen := HLL.out
    rw [hl] at hlen
    simp only [List.length_cons] at hlen
    cases r with
    | nil =>
     unfold eqB
     split
     ·rename_i e; injection e with _ e2; rw [<- e2]; rfl
     ·rfl
    | cons d r => simp only [List.length_cons] at hlen; omega)
  have b1 : (t.size : Int) < 2 := by omega
  have b2 : decide ((t.size : Int) < 2) = true := decide_eq_true b1
  clear h2
  go_enter Tryz.func203, Tryz.ntmps203
  go_wp2
  go_ret
  exact ⟨z01 HF.out.symm, rfl⟩
 have hz0 : 0 < t.size := by omega
 have hz1 : 1 < t.size := by omega
 obtain ⟨c0, h0⟩ : ∃ c0, t[0] = c0 := ⟨_, rfl⟩
 obtain ⟨c1, h1⟩ : ∃ c1, t[1] = c1 := ⟨_, rfl⟩
 obtain ⟨r, HR⟩ : ∃ r, Hid (t.data.toList = c0 :: c1 :: r) := by
  have e0 := z1s t 0 hz0
  have e1 := z1s t 1 hz1
  rw [h0] at e0
  rw [h1] at e1
  cases hl : t.data.toList with
  | nil => rw [hl] at e0; cases e0
  | cons x xs =>
   rw [hl] at e0 e1
   cases xs with
   | nil => cases e1
   | cons y ys =>
    obtain rfl : x = c0 := by simpa using e0
    obtain rfl : y = c1 := by simpa using e1
    exact ⟨ys, hid rfl⟩
 have HRL : Hid (t.size = r.length + 2) := hid (by have := HLL.out; rw [HR.out] at this; simp only [List.length_cons] at this; omega)
 have hc0 := c0.toNat_lt
 have hc1 := c1.toNat_lt
 have b1 : ¬ (t.size : Int) < 2 := by omega
 have b2 : decide ((t.size : Int) < 2) = false := decide_eq_false b1
 clear h2
 by_cases h8 : 8 < t.size
 ·have HF : Hid (pkeyB t.data.toList = false) := hid (by
   rw [HE0.out, HR.out]
   unfold eqB
   split
   ·rename_i e
    injection e with e1 e2
    subst e2
    simp only [numB]
    have := HRL.out
    rw [decide_eq_false (show ¬ r.length <= 6 by omega)]
    simp
   ·rfl)
  have b3 : (8 : Int) < (t.size : Int) := by omega
  have b4 : decide ((8 : Int) < (t.size : Int)) = true := decide_eq_true b3
  clear h8
  go_enter Tryz.func203, Tryz.ntmps203
  go_wp2
  go_ret
  exact ⟨z01 HF.out.symm, rfl⟩
 have b3 : ¬ (8 : Int) < (t.size : Int) := by omega
 have b4 : decide ((8 : Int) < (t.size : Int)) = false := decide_eq_false b3
 by_cases h61 : c0 = 61
 rotate_left
 ·have HF : Hid (pkeyB t.data.toList = false) := hid (by
   rw [HE0.out, HR.out]
   unfold eqB
   split
   ·rename_i e; injection e with e1 e2; exact absurd e1 h61
   ·rfl)
  have b5 : ((c0.toNat : Int) != (61 : Int)) = true := by
   have := zfg (d := 61) h61
   rw [bne]
   rw [show ((c0.toNat : Int) == (61 : Int)) = false from this]; rfl
  clear h61
  go_enter Tryz.func203, Tryz.ntmps203
  go_wp2
  go_ret
  exact ⟨z01 HF.out.symm, rfl⟩
 have HNB : Hid (pkeyB t.data.toList = numB (c1 :: r)) := hid (by rw [HE0.out, HR.out, h61]; rfl)
 subst h61
 clear HE0
 by_cases h48 : c1 = 48 /\ 2 < t.size
 ·have HF : Hid (pkeyB t.data.toList = false) := hid (by
   rw [HNB.out, h48.1]
   have hrl := HRL.out
   have h3 := h48.2
   cases r with
   | nil => simp only [List.length_nil] at hrl; omega
   | cons d r => simp [numB])
  obtain ⟨q1, q2⟩ := h48
  subst q1
  have b5 : (2 : Int) < (t.size : Int) := by omega
  have b6 : decide ((2 : Int) < (t.size : Int)) = true := decide_eq_true b5
  clear q2
  go_enter Tryz.func203, Tryz.ntmps203
  go_wp2
  go_ret
  exact ⟨z01 HF.out.symm, rfl⟩
 have HN2 : Hid (numB (c1 :: r) = ((c1 :: r).all isDig && decide ((c1 :: r).foldl nx 0 <= 1000000))) := hid (by
  have hrl := HRL.out
  simp only [numB]
  rw [decide_eq_true (show r.length <= 6 by omega)]
  have : (c1 != 48 || r.isEmpty) = true := by
   by_cases e : c1 = 48
   ·have hr : r.length = 0 := by
     rcases Nat.eq_zero_or_pos r.length with z | z
     ·exact z
     ·exact absurd ⟨e, by omega⟩ h48
    rw [List.length_eq_zero_iff.1 hr]; simp
   ·simp [e]
  rw [this]; simp)
 have HB8 : Hid (t.size <= 8) := hid (by omega)
 by_cases hq : c1 = 48
 ·have hq2 : ¬ 2 < t.size := fun e => h48 ⟨hq, e⟩
  have b5 : ¬ (2 : Int) < (t.size : Int) := by omega
  have b6 : decide ((2 : Int) < (t.size : Int)) = false := decide_eq_false b5
  have hq8 : ((c1.toNat : Int) == (48 : Int)) = true := by rw [hq]; rfl
  clear h48 hq2 hq
  go_enter Tryz.func203, Tryz.ntmps203
  go_wp2
  go_loopw [5, 6] (fun nv i wr => ∃ (k N : Nat), 1 <= k /\ k <= t.size /\ i = .int .i64 k /\ nv = .int .i64 N /\ N < 100000000 /\ Hid (N = ((c1 :: r).take (k - 1)).foldl nx 0) /\ Hid (((c1 :: r).take (k - 1)).all isDig = true) /\ wr = w) (fun _ i _ => t.size - (intOf i).toNat)
  case atStart => exact ⟨1, 0, by omega, by omega, rfl, rfl, by omega, hid rfl, hid rfl, rfl⟩
  case round =>
   obtain ⟨k, N, hk1, hk, rfl, rfl, hN, HN, HA, rfl⟩ := hrel
   by_cases hlt : k < t.size
   ·have hxk := hid (z1s t k hlt)
    have hlt2 : (k : Int) < (t.size : Int) := by omega
    obtain ⟨c, hcc⟩ : ∃ c, t[k] = c := ⟨_, rfl⟩
    rw [hcc] at hxk
    have HG : Hid ((c1 :: r)[k - 1]? = some c) := hid (by
     have := hxk.out
     rw [HR.out, show k = (k - 1) + 1 by omega, List.getElem?_cons_succ] at this
     exact this)
    have HT := hid (take_one HG.out)
    have hc8 := c.toNat_lt
    by_cases hd : 48 <= c.toNat /\ c.toNat <= 57
    ·have g1 : ¬ (c.toNat : Int) < 48 := by omega
     have g2 : ¬ (57 : Int) < (c.toNat : Int) := by omega
     have g3 : decide ((c.toNat : Int) < 48) = false := decide_eq_false g1
     have g4 : decide ((57 : Int) < (c.toNat : Int)) = false := decide_eq_false g2
     have hdg : isDig c = true := z29.2 hd
     have HA2 : Hid (((c1 :: r).take (k + 1 - 1)).all isDig = true) := hid (by
      rw [show k + 1 - 1 = k - 1 + 1 by omega, HT.out, List.all_append, HA.out]; simp [hdg])
     obtain ⟨N2, HN2'⟩ : ∃ N2, Hid (N2 = nx N c) := ⟨_, hid rfl⟩
     have HNE : Hid (N2 = ((c1 :: r).take (k + 1 - 1)).foldl nx 0) := hid (by
      rw [show k + 1 - 1 = k - 1 + 1 by omega, HT.out, List.foldl_append, <- HN.out, HN2'.out]; rfl)
     have hni : 10 * (N : Int) + ((c.toNat : Int) - 48) = (N2 : Int) := by have := HN2'.out; rw [z4l] at this; omega
     have hnb : N2 < 100000000 := by
      have h1 := z9m _ 0 0 HA2.out (by omega)
      rw [<- HNE.out] at h1
      have h2 : ((c1 :: r).take (k + 1 - 1)).length <= 8 := by rw [List.length_take]; have := HB8.out; omega
      have h3 : 10 ^ (0 + ((c1 :: r).take (k + 1 - 1)).length) <= 10 ^ 8 := Nat.pow_le_pow_right (by omega) (by omega)
      exact Nat.lt_of_lt_of_le h1 h3
     clear hdg
     go_wp2
     go_roundw
     case rel => exact ⟨k + 1, N2, by omega, by omega, by go_num, by go_num, hnb, HNE, HA2, trivial⟩
     case measure => simp [intOf]; omega
    ·have HF : Hid (pkeyB t.data.toList = false) := hid (by
      rw [HNB.out, HN2.out]
      have : (c1 :: r).all isDig = false := by
       rw [List.all_eq_false]
       refine ⟨c, List.mem_iff_getElem?.2 ⟨_, HG.out⟩, ?_⟩
       intro e; exact hd (z29.1 e)
      rw [this]; rfl)
     by_cases h5 : c.toNat < 48
     ·have g1 : (c.toNat : Int) < 48 := by omega
      have g3 : decide ((c.toNat : Int) < 48) = true := decide_eq_true g1
      clear hd
      go_wp2
      go_ret
      exact ⟨z01 HF.out.symm, rfl⟩
     ·have g1 : ¬ (c.toNat : Int) < 48 := by omega
      have g2 : (57 : Int) < (c.toNat : Int) := by omega
      have g3 : decide ((c.toNat : Int) < 48) = false := decide_eq_false g1
      have g4 : decide ((57 : Int) < (c.toNat : Int)) = true := decide_eq_true g2
      clear hd
      go_wp2
      go_ret
      exact ⟨z01 HF.out.symm, rfl⟩
   ·have hge : ¬ (k : Int) < (t.size : Int) := by omega
    have HF : Hid (pkeyB t.data.toList = decide (N <= 1000000)) := hid (by
     have hrl := HRL.out
     have h1 : (c1 :: r).take (k - 1) = c1 :: r := List.take_of_length_le (by simp only [List.length_cons]; omega)
     have h2 := HA.out
     have h3 := HN.out
     rw [h1] at h2 h3
     rw [HNB.out, HN2.out, h2, <- h3]; rfl)
    go_wp2
    go_ret
    exact ⟨z01 (by rw [HF.out]; exact decide_eq_decide.2 (by omega)), rfl⟩
 ·have hq8 : ((c1.toNat : Int) == (48 : Int)) = false := zfg (d := 48) hq
  clear h48 hq
  go_enter Tryz.func203, Tryz.ntmps203
  go_wp2
  go_loopw [5, 6] (fun nv i wr => ∃ (k N : Nat), 1 <= k /\ k <= t.size /\ i = .int .i64 k /\ nv = .int .i64 N /\ N < 100000000 /\ Hid (N = ((c1 :: r).take (k - 1)).foldl nx 0) /\ Hid (((c1 :: r).take (k - 1)).all isDig = true) /\ wr = w) (fun _ i _ => t.size - (intOf i).toNat)
  case atStart => exact ⟨1, 0, by omega, by omega, rfl, rfl, by omega, hid rfl, hid rfl, rfl⟩
  case round =>
   obtain ⟨k, N, hk1, hk, rfl, rfl, hN, HN, HA, rfl⟩ := hrel
   by_cases hlt : k < t.size
   ·have hxk := hid (z1s t k hlt)
    have hlt2 : (k : Int) < (t.size : Int) := by omega
    obtain ⟨c, hcc⟩ : ∃ c, t[k] = c := ⟨_, rfl⟩
    rw [hcc] at hxk
    have HG : Hid ((c1 :: r)[k - 1]? = some c) := hid (by
     have := hxk.out
     rw [HR.out, show k = (k - 1) + 1 by omega, List.getElem?_cons_succ] at this
     exact this)
    have HT := hid (take_one HG.out)
    have hc8 := c.toNat_lt
    by_cases hd : 48 <= c.toNat /\ c.toNat <= 57
    ·have g1 : ¬ (c.toNat : Int) < 48 := by omega
     have g2 : ¬ (57 : Int) < (c.toNat : Int) := by omega
     have g3 : decide ((c.toNat : Int) < 48) = false := decide_eq_false g1
     have g4 : decide ((57 : Int) < (c.toNat : Int)) = false := decide_eq_false g2
     have hdg : isDig c = true := z29.2 hd
     have HA2 : Hid (((c1 :: r).take (k + 1 - 1)).all isDig = true) := hid (by
      rw [show k + 1 - 1 = k - 1 + 1 by omega, HT.out, List.all_append, HA.out]; simp [hdg])
     obtain ⟨N2, HN2'⟩ : ∃ N2, Hid (N2 = nx N c) := ⟨_, hid rfl⟩
     have HNE : Hid (N2 = ((c1 :: r).take (k + 1 - 1)).foldl nx 0) := hid (by
      rw [show k + 1 - 1 = k - 1 + 1 by omega, HT.out, List.foldl_append, <- HN.out, HN2'.out]; rfl)
     have hni : 10 * (N : Int) + ((c.toNat : Int) - 48) = (N2 : Int) := by have := HN2'.out; rw [z4l] at this; omega
     have hnb : N2 < 100000000 := by
      have h1 := z9m _ 0 0 HA2.out (by omega)
      rw [<- HNE.out] at h1
      have h2 : ((c1 :: r).take (k + 1 - 1)).length <= 8 := by rw [List.length_take]; have := HB8.out; omega
      have h3 : 10 ^ (0 + ((c1 :: r).take (k + 1 - 1)).length) <= 10 ^ 8 := Nat.pow_le_pow_right (by omega) (by omega)
      exact Nat.lt_of_lt_of_le h1 h3
     clear hdg
     go_wp2
     go_roundw
     case rel => exact ⟨k + 1, N2, by omega, by omega, by go_num, by go_num, hnb, HNE, HA2, trivial⟩
     case measure => simp [intOf]; omega
    ·have HF : Hid (pkeyB t.data.toList = false) := hid (by
      rw [HNB.out, HN2.out]
      have : (c1 :: r).all isDig = false := by
       rw [List.all_eq_false]
       refine ⟨c, List.mem_iff_getElem?.2 ⟨_, HG.out⟩, ?_⟩
       intro e; exact hd (z29.1 e)
      rw [this]; rfl)
     by_cases h5 : c.toNat < 48
     ·have g1 : (c.toNat : Int) < 48 := by omega
      have g3 : decide ((c.toNat : Int) < 48) = true := decide_eq_true g1
      clear hd
      go_wp2
      go_ret
      exact ⟨z01 HF.out.symm, rfl⟩
     ·have g1 : ¬ (c.toNat : Int) < 48 := by omega
      have g2 : (57 : Int) < (c.toNat : Int) := by omega
      have g3 : decide ((c.toNat : Int) < 48) = false := decide_eq_false g1
      have g4 : decide ((57 : Int) < (c.toNat : Int)) = true := decide_eq_true g2
      clear hd
      go_wp2
      go_ret
      exact ⟨z01 HF.out.symm, rfl⟩
   ·have hge : ¬ (k : Int) < (t.size : Int) := by omega
    have HF : Hid (pkeyB t.data.toList = decide (N <= 1000000)) := hid (by
     have hrl := HRL.out
     have h1 : (c1 :: r).take (k - 1) = c1 :: r := List.take_of_length_le (by simp only [List.length_cons]; omega)
     have h2 := HA.out
     have h3 := HN.out
     rw [h1] at h2 h3
     rw [HNB.out, HN2.out, h2, <- h3]; rfl)
    go_wp2
    go_ret
    exact ⟨z01 (by rw [HF.out]; exact decide_eq_decide.2 (by omega)), rfl⟩
end Go.Proofs.YtdnedbcmgkilaaaGreatDoor.Dr

end
