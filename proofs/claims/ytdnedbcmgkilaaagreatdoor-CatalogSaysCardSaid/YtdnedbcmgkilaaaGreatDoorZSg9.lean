/- The document's Name. -/
import Derived.Test.YtdnedbcmgkilaaaGreatDoorZSg31
import Derived.Test.YtdnedbcmgkilaaaGreatDoorZSRh

section

namespace Go.Proofs.YtdnedbcmgkilaaaGreatDoor
set_option maxHeartbeats 3200000
set_option maxRecDepth 100000
open Go.Lib (hid)
open Go.RowKit
theorem z24 (c : UInt8) : wrap64 (c.toNat : Int) = c.toNat := by
 have := c.toNat_lt
 unfold wrap64; omega
def ltI (n : Int) : Bool := decide (97 <= n) && decide (n <= 122)
def wrdI (n : Int) : Bool := ltI n || (decide (48 <= n) && decide (n <= 57)) || (n == 95)
theorem z4a (c : UInt8) : ltI c.toNat = isLet c := by
 unfold ltI isLet
 congr 1
 ·exact decide_eq_decide.2 (by omega)
 ·exact decide_eq_decide.2 (by omega)
theorem z50 (c : UInt8) : wrdI c.toNat = isWrd c := by
 unfold wrdI isWrd isDig
 rw [z4a]
 congr 1
 ·congr 1
  congr 1
  ·exact decide_eq_decide.2 (by omega)
  ·exact decide_eq_decide.2 (by omega)
 ·by_cases h : c = 95
  ·subst h; rfl
  ·rw [beq_eq_false_iff_ne.2 h, beq_eq_false_iff_ne]
   intro e; exact h (by rw [<- UInt8.toNat_inj]; exact Int.ofNat.inj e)
theorem z6x (n : Int) (w : World) : Calls Tryz.prog 172 #[.int .i64 n] w fun e w' => e = .returned (.bool (ltI n)) /\ w' = w := by
 by_cases h1 : 97 <= n
 ·by_cases h2 : n <= 122
  all_goals
   have HE : Hid (ltI n = decide (n <= 122)) := hid (by unfold ltI; rw [decide_eq_true h1]; rfl)
   go_enter Tryz.func172, Tryz.ntmps172
   go_wp2
   go_ret
   exact ⟨z01 (by rw [HE.out]; simp [h2]), rfl⟩
 ·have HE : Hid (ltI n = false) := hid (by unfold ltI; rw [decide_eq_false h1]; rfl)
  have h1' : decide (97 <= n) = false := decide_eq_false h1
  go_enter Tryz.func172, Tryz.ntmps172
  go_wp2
  go_ret
  exact ⟨z01 HE.out.symm, rfl⟩
theorem zcg (n : Int) (w : World) : Calls Tryz.prog 171 #[.int .i64 n] w fun e w' => e = .returned (.bool (wrdI n)) /\ w' = w := by
 have HL := hid (z6x n w)
 cases hl : ltI n with
 | true =>
  rw [hl] at HL
  have HE : Hid (wrdI n = true) := hid (by unfold wrdI; rw [hl]; rfl)
  clear hl
  go_enter Tryz.func171, Tryz.ntmps171
  go_wp2_with fail
  refine HL.out.mono ?_
  rintro e w2 ⟨rfl, rfl⟩
  go_wp2
  go_ret
  exact ⟨z01 HE.out.symm, rfl⟩
 | false =>
  rw [hl] at HL
  have HE : Hid (wrdI n = ((decide (48 <= n) && decide (n <= 57)) || (n == 95))) := hid (by unfold wrdI; rw [hl]; simp)
  clear hl
  by_cases h1 : 48 <= n
  ·by_cases h2 : n <= 57
   ·have HF : Hid (wrdI n = true) := hid (by rw [HE.out, decide_eq_true h1, decide_eq_true h2]; rfl)
    have b1 : decide (48 <= n) = true := decide_eq_true h1
    have b2 : decide (n <= 57) = true := decide_eq_true h2
    clear HE
    go_enter Tryz.func171, Tryz.ntmps171
    go_wp2_with fail
    refine HL.out.mono ?_
    rintro e w2 ⟨rfl, rfl⟩
    go_wp2
    go_ret
    exact ⟨z01 HF.out.symm, rfl⟩
   ·have HF : Hid (wrdI n = (n == 95)) := hid (by rw [HE.out, decide_eq_false h2]; simp)
    have b2 : decide (n <= 57) = false := decide_eq_false h2
    clear HE
    go_enter Tryz.func171, Tryz.ntmps171
    go_wp2_with fail
    refine HL.out.mono ?_
    rintro e w2 ⟨rfl, rfl⟩
    go_wp2
    go_ret
    exact ⟨z01 HF.out.symm, rfl⟩
  ·have HF : Hid (wrdI n = (n == 95)) := hid (by rw [HE.out, decide_eq_false h1]; simp)
   have b1 : decide (48 <= n) = false := decide_eq_false h1
   clear HE
   go_enter Tryz.func171, Tryz.ntmps171
   go_wp2_with fail
   refine HL.out.mono ?_
   rintro e w2 ⟨rfl, rfl⟩
   go_wp2
   go_ret
   exact ⟨z01 HF.out.symm, rfl⟩
theorem z58 (t : BA) (w : World) (ht : t.size <= 140737488351232) : Calls Tryz.prog 133 #[.string t] w fun e w' => e = .returned (.bool (nameB t.data.toList)) /\ w' = w := by
 have hll := z05 t
 have HLL := hid hll
 clear hll
 go_enter Tryz.func133, Tryz.ntmps133
 go_wp2
 go_loop [3] (fun i => ∃ k : Nat, i = .int .i64 k /\ k <= t.size /\ Hid ((t.data.toList.take k).all isWrd = true)) (fun i => t.size - (intOf i).toNat)
 case atStart => exact ⟨0, rfl, by omega, hid rfl⟩
 case round =>
  obtain ⟨k, rfl, hk, HA⟩ := hrel
  by_cases hlt : k < t.size
  ·have hxk := hid (z1s t k hlt)
   have hlt2 : (k : Int) < (t.size : Int) := by omega
   obtain ⟨c, hcc⟩ : ∃ c, t[k] = c := ⟨_, rfl⟩
   rw [hcc] at hxk
   have HW := hid (fun W => zcg (c.toNat : Int) W)
   rw [z50] at HW
   have hwr := z24 c
   cases hc : isWrd c with
   | true =>
    have HA2 := hid (z54 hxk.out hc HA.out)
    rw [hc] at HW
    clear hc
    go_wp2_with fail
    refine (HW.out _).mono ?_
    rintro e w1 ⟨rfl, rfl⟩
    go_wp2
    go_round
    case rel => exact ⟨k + 1, by go_num, by omega, HA2⟩
    case measure => simp [intOf]; omega
   | false =>
    have HF := hid (z9a hxk.out hc)
    rw [hc] at HW
    clear hc
    go_wp2_with fail
    refine (HW.out _).mono ?_
    rintro e w1 ⟨rfl, rfl⟩
    go_wp2
    go_ret
    exact ⟨z01 HF.out.symm, rfl⟩
  ·have hge : ¬ (k : Int) < (t.size : Int) := by omega
   have hA : t.data.toList.all isWrd = true := by
    have := HA.out
    rw [List.take_of_length_le (by rw [HLL.out]; omega)] at this
    exact this
   by_cases h0 : t.size < 1
   ·have HF : Hid (nameB t.data.toList = false) := hid (by
     cases hl : t.data.toList with
     | nil => rfl
     | cons c r => have := HLL.out; rw [hl] at this; simp at this; omega)
    have b1 : ¬ (1 : Int) <= (t.size : Int) := by omega
    have b2 : decide ((1 : Int) <= (t.size : Int)) = false := decide_eq_false b1
    clear hA
    go_wp2
    go_ret
    exact ⟨z01 HF.out.symm, rfl⟩
   have hx0 := z1s t 0 (by omega)
   by_cases h1 : 32 < t.size
   ·have HF : Hid (nameB t.data.toList = false) := hid (by rw [z35 hx0, decide_eq_false (by rw [HLL.out]; omega)]; rfl)
    have b1 : (1 : Int) <= (t.size : Int) := by omega
    have b2 : ¬ (t.size : Int) <= 32 := by omega
    have b3 : decide ((1 : Int) <= (t.size : Int)) = true := decide_eq_true b1
    have b4 : decide ((t.size : Int) <= 32) = false := decide_eq_false b2
    clear hA hx0
    go_wp2
    go_ret
    exact ⟨z01 HF.out.symm, rfl⟩
   have hp0 : 0 < t.size := by omega
   have HF : Hid (nameB t.data.toList = isLet t[0]) := hid (by rw [z35 hx0, decide_eq_true (by rw [HLL.out]; omega), hA]; simp)
   obtain ⟨d, hd⟩ : ∃ d, t[0] = d := ⟨_, rfl⟩
   rw [hd] at HF
   have HW := hid (fun W => z6x (d.toNat : Int) W)
   rw [z4a] at HW
   have hwr := z24 d
   have b1 : (1 : Int) <= (t.size : Int) := by omega
   have b2 : (t.size : Int) <= 32 := by omega
   have b3 : decide ((1 : Int) <= (t.size : Int)) = true := decide_eq_true b1
   have b4 : decide ((t.size : Int) <= 32) = true := decide_eq_true b2
   clear hA hx0
   go_wp2_with fail
   refine (HW.out _).mono ?_
   rintro e w1 ⟨rfl, rfl⟩
   go_wp2
   go_ret
   exact ⟨z01 HF.out.symm, rfl⟩
end Go.Proofs.YtdnedbcmgkilaaaGreatDoor

end

section

namespace Go.Proofs.YtdnedbcmgkilaaaGreatDoor
open Go.RowKit Go.Maps Go.WideShapes Go.WideMaps
structure Argm where
 nm : BA
 num : Bool
 n : Int
 s : BA
def CA (x : Argm) (cs : List Value) : Prop := cs = [.string x.nm, .bool x.num, .int .i64 x.n, .string x.s]
abbrev SlA (w : World) (S : Nat -> Prop) (v : Value) (xs : List Argm) : Prop := Sl 4 CA w S v xs
theorem SlA.old {w w' : World} {v : Value} {xs : List Argm} (h : SlA w (Old w) v xs) (hb : Below w.heap.size w w') : SlA w' (Old w') v xs := Sl.keep h (fun b hb2 => hb.block b hb2) (fun _ h => Nat.lt_of_lt_of_le h hb.size) (fun _ _ h => h)
theorem At.a {w : World} {b o : Nat} {x : Argm} (h : At 4 CA w b o x) : w.cell? ⟨b, o, none⟩ = some (.string x.nm) /\ w.cell? ⟨b, o + 1, none⟩ = some (.bool x.num) /\ w.cell? ⟨b, o + 2, none⟩ = some (.int .i64 x.n) /\ w.cell? ⟨b, o + 3, none⟩ = some (.string x.s) := by
 obtain ⟨cs, -, rfl, hc⟩ := h
 exact ⟨hc 0 _ rfl, hc 1 _ rfl, hc 2 _ rfl, hc 3 _ rfl⟩
theorem Sl.lenleA {w : World} {S : Nat -> Prop} {a : Option Addr} {n cap : Nat} {xs : List Argm} (h : SlA w S (.slice a n cap) xs) : n = xs.length /\ xs.length <= 9223372036854775807 := by
 obtain ⟨a', cap', hv, h1, h2, -⟩ := h
 injection hv with _ h3 _
 exact ⟨h3, by omega⟩
def valOK (x : Argm) : Prop := (x.num = true /\ x.s = ⟨#[]⟩) ∨ (x.num = false /\ x.n = 0 /\ x.s.size <= 8000)
structure ArgsOK (xs : List Argm) : Prop where
 len : xs.length <= 32
 each : ∀ (k : Nat) x, xs[k]? = some x -> nameB x.nm.data.toList = true /\ valOK x
 apart : ∀ (i j : Nat) x y, xs[i]? = some x -> xs[j]? = some y -> i < j -> x.nm ≠ y.nm
def nmsL (xs : List Argm) : List (List UInt8) := xs.map fun x => x.nm.data.toList
theorem nms_one {xs : List Argm} {k : Nat} {x : Argm} (h : xs[k]? = some x) : nmsL (xs.take (k + 1)) = nmsL (xs.take k) ++ [x.nm.data.toList] := by rw [take_one h]; unfold nmsL; rw [List.map_append]; rfl
theorem nms_not {xs : List Argm} (h : ArgsOK xs) {k : Nat} {x : Argm} (hx : xs[k]? = some x) : decide (x.nm.data.toList ∈ nmsL (xs.take k)) = false := by
 rw [decide_eq_false_iff_not]
 intro hm
 unfold nmsL at hm
 obtain ⟨y, hy, he⟩ := List.mem_map.1 hm
 obtain ⟨i, hi⟩ := List.mem_iff_getElem?.1 hy
 rw [List.getElem?_take] at hi
 split at hi
 ·rename_i hlt
  refine h.apart i k y x hi hx hlt ?_
  apply ByteArray.ext
  exact Array.toList_inj.1 he
 ·cases hi
theorem zc0 {s : BA} (h : s ≠ ⟨#[]⟩) : s.toList.isEmpty = false := by
 rw [ByteArray.toList_eq]
 cases hl : s.data.toList with
 | nil => exact absurd (ByteArray.ext (Array.toList_inj.1 (by rw [hl]))) h
 | cons => rfl
end Go.Proofs.YtdnedbcmgkilaaaGreatDoor

end
