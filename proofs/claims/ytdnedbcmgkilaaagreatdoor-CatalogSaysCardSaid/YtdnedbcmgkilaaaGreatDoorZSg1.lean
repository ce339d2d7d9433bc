/- Category. -/
import Derived.WalkLawsBesides
import Derived.Test.YtdnedbcmgkilaaaGreatDoorZSUTb
import Derived.Test.YtdnedbcmgkilaaaGreatDoorZSg2
import Derived.Test.YtdnedbcmgkilaaaGreatDoorZSAg

section

namespace Go.Proofs.YtdnedbcmgkilaaaGreatDoor.Pu
set_option maxHeartbeats 3200000
set_option maxRecDepth 100000
open Go.Lib (hid)
open Go.RowKit
def hB (r : Rule) (n : Int) : Bool := z0x r && z1g r (absF n)
def catL : List (BA × Rule) -> Int -> BA
 | [], _ => ⟨#[111, 116, 104, 101, 114]⟩
 | x :: r, n => if hB x.2 n then x.1 else catL r n
def catF (g : BA) (n : Int) : BA := catL (z4p (tabF g)) n
theorem zf7 : ∀ {l : List (BA × Rule)} {n : Int} {k : Nat} {x : BA × Rule}, (∀ (j : Nat) (y : BA × Rule), j < k -> l[j]? = some y -> hB y.2 n = false) -> l[k]? = some x -> hB x.2 n = true -> catL l n = x.1
 | [], _, k, x, _, h, _ => by simp at h
 | y :: r, n, 0, x, _, h, hx => by
  obtain rfl : y = x := by simpa using h
  rw [catL, if_pos hx]
 | y :: r, n, k + 1, x, ha, h, hx => by
  have h0 := ha 0 y (by omega) rfl
  rw [catL, h0, if_neg (by simp)]
  exact zf7 (k := k) (fun j z hj hz => ha (j + 1) z (by omega) (by simpa using hz)) (by simpa using h) hx
theorem zbz : ∀ {l : List (BA × Rule)} {n : Int}, (∀ (j : Nat) (y : BA × Rule), l[j]? = some y -> hB y.2 n = false) -> catL l n = ⟨#[111, 116, 104, 101, 114]⟩
 | [], _, _ => rfl
 | y :: r, n, ha => by
  have h0 := ha 0 y rfl
  rw [catL, h0, if_neg (by simp)]
  exact zbz (fun j z hz => ha (j + 1) z (by simpa using hz))
theorem cats_len (g : BA) : (z4p (tabF g)).length = (tabF g).length := by simp [z4p]
theorem zby (w : World) (g : BA) (n : Int) (h1 : -9223372036854775808 <= n) (h2 : n <= 9223372036854775807) (ht : TabW w) :
  Calls Tryz.prog 165 #[.string g, .int .i64 n] w fun e w' => e = .returned (.string (catF g n)) /\ Below w.heap.size w w' := by
 have HT := hid (zga w g ht)
 have HH := hid (fun (w : World) (a : Option Addr) (cap : Nat) (xs : Rule) (h : SlW w (Old w) (.slice a xs.length cap) xs) => zid w a cap xs n h1 h2 h)
 have HF : Hid (catF g n = catL (z4p (tabF g)) n) := hid rfl
 clear h1 h2 ht
 go_enter Tryz.func165, Tryz.ntmps165
 go_wp2_with fail
 refine HT.out.mono ?_
 rintro e w1 ⟨a, cap, rfl, hsl, hb1⟩
 have HIN := hid hsl
 have HB1 := hid hb1
 rw [<- cats_len]
 clear hsl hb1 HT
 generalize z4p (tabF g) = xs at *
 obtain ⟨a', cap', hv, hl, hm⟩ := HIN.out.form
 injection hv with hv1 hv2 hv3
 subst hv1; subst hv3
 clear hv2
 go_wp2
 go_loopw [10] (fun v wr => ∃ k : Nat, k <= xs.length /\ v = .int .i64 k /\ Hid (∀ (j : Nat) (y : BA × Rule), j < k -> xs[j]? = some y -> hB y.2 n = false) /\ Hid (Below w1.heap.size w1 wr)) (fun v _ => xs.length - (intOf v).toNat)
 case atStart => exact ⟨0, by omega, rfl, hid (fun j x hj => by omega), hid (Below.refl _ _)⟩
 case round =>
  obtain ⟨k, hk, rfl, HA, HB⟩ := hrel
  by_cases hlt : k < xs.length
  ·obtain ⟨x, hx⟩ : ∃ x, xs[k]? = some x := ⟨_, List.getElem?_eq_getElem hlt⟩
   obtain ⟨b, off, rfl, hb, hat⟩ := (HIN.out.below HB.out).at_ hx
   have HX := hid hx
   clear hx
   obtain ⟨h0, a1, p1, h9, hsl⟩ := hat.c
   obtain ⟨nm, rl⟩ := x
   simp only at h0 h9 hsl
   obtain ⟨m, HL⟩ : ∃ m, Hid (m = rl.length) := ⟨_, hid rfl⟩
   rw [<- HL.out] at h9
   have HR := hid (z04 wr #[.string nm, .slice a1 m p1] 210)
   have c0 := HR.out.cell (i := 0) rfl
   have c1 := HR.out.cell (i := 1) rfl
   have HC1 := hid (HH.out (wr.alloc (.cells #[.string nm, .slice a1 m p1] 210)) a1 p1 rl (hsl.below (z02 _ _)))
   rw [<- HL.out] at HC1
   clear hsl hat
   go_wp2_with fail
   refine HC1.out.mono ?_
   rintro e w5 ⟨rfl, hb5⟩
   have HB5 := hid (z00 HB.out (z00 (z02 _ _) hb5))
   have HR5 := hid (HR.out.below hb5)
   have HHB : Hid (hB rl n = (z0x rl && z1g rl (absF n))) := hid rfl
   rw [<- HHB.out]
   clear hb5 c0 c1 HC1
   have c0 := HR5.out.cell (i := 0) rfl
   cases hc : hB rl n with
   | true =>
    have HE := hid (zf7 HA.out HX.out hc)
    clear hc
    go_wp2
    go_ret
    exact ⟨by rw [HF.out, HE.out]; rfl, z00 HB1.out HB5.out⟩
   | false =>
    have HE := hid hc
    clear hc
    go_wp2
    go_roundw
    case rel => exact ⟨k + 1, by omega, by go_num, hid (fun j y hj hy => by
     by_cases hjk : j < k
     ·exact HA.out j y hjk hy
     ·obtain rfl : j = k := by omega
      rw [HX.out] at hy; obtain rfl := Option.some.inj hy; exact HE.out), HB5⟩
    case measure => simp [intOf]; omega
  ·have HE := hid (zbz (l := xs) (n := n) (fun j x hx => HA.out j x (by have := (List.getElem?_eq_some_iff.1 hx).1; omega) hx))
   go_wp2
   go_ret
   exact ⟨by rw [HF.out, HE.out]; rfl, z00 HB1.out HB.out⟩
end Go.Proofs.YtdnedbcmgkilaaaGreatDoor.Pu

end

section

namespace Go.Proofs.YtdnedbcmgkilaaaGreatDoor
open Go.RowKit
abbrev z19 : BA := ⟨#[111, 116, 104, 101, 114]⟩
def choF (cs : List Cs) : List BA -> List Pt
 | [] => []
 | k :: r => match cs.find? (fun c => decide (c.key = k)) with
  | some c => c.kids
  | none => choF cs r
theorem z4f {cs : List Cs} {k : BA} {r : List BA} {c : Cs} (h : cs.find? (fun c => decide (c.key = k)) = some c) : choF cs (k :: r) = c.kids := by rw [choF, h]
theorem z2z {cs : List Cs} {k : BA} {r : List BA} (h : cs.find? (fun c => decide (c.key = k)) = none) : choF cs (k :: r) = choF cs r := by rw [choF, h]
end Go.Proofs.YtdnedbcmgkilaaaGreatDoor

end

section

namespace Go.Proofs.YtdnedbcmgkilaaaGreatDoor
set_option maxHeartbeats 1600000
open Go.Lib (hid)
open Go.RowKit
theorem z5v (n : Int) (h1 : -9223372036854775808 <= n) (h2 : n <= 9223372036854775807) (w : World) (hE : EnvW w) : Calls Tryz.prog 162 #[.int .i64 n] w fun e w' => e = .returned (.string ⟨(Lib.itoa n).toArray⟩) /\ Below w.heap.size w w' := by
 have HF := hid (Tryz.strconv_FormatInt_10 n h1 h2 w hE.tab)
 clear h1 h2 hE
 go_enter Tryz.func162, Tryz.ntmps162
 go_wp2_with fail
 refine HF.out.mono ?_
 rintro e w2 ⟨rfl, k, os, rfl⟩
 have HB := hid (z2t w k os)
 go_wp2
 go_ret
 exact ⟨rfl, HB.out⟩
end Go.Proofs.YtdnedbcmgkilaaaGreatDoor

end

section

namespace Go.Proofs.YtdnedbcmgkilaaaGreatDoor
open Go.RowKit
def CSt (s : BA) (cs : List Value) : Prop := cs = [.string s]
abbrev SlS (w : World) (S : Nat -> Prop) (v : Value) (xs : List BA) : Prop := Sl 1 CSt w S v xs
theorem SlS.old {w w' : World} {v : Value} {xs : List BA} (h : SlS w (Old w) v xs) (hb : Below w.heap.size w w') : SlS w' (Old w') v xs := Sl.keep h (fun b hb2 => hb.block b hb2) (fun _ h => Nat.lt_of_lt_of_le h hb.size) (fun _ _ h => h)
theorem At.st {w : World} {b o : Nat} {x : BA} (h : At 1 CSt w b o x) : w.cell? ⟨b, o, none⟩ = some (.string x) := by
 obtain ⟨cs, -, rfl, hc⟩ := h
 exact hc 0 _ rfl
theorem Sl.lenleS {w : World} {S : Nat -> Prop} {a : Option Addr} {n cap : Nat} {xs : List BA} (h : SlS w S (.slice a n cap) xs) : xs.length <= 9223372036854775807 := by
 obtain ⟨a', cap', hv, h1, h2, -⟩ := h
 omega
abbrev ky (k : BA) (c : Cs) : Bool := decide (c.key = k)
theorem z7c {k : BA} : ∀ {cs : List Cs} {n : Nat} {c : Cs}, (∀ (q : Nat) y, q < n -> cs[q]? = some y -> y.key ≠ k) -> cs[n]? = some c -> c.key = k -> cs.find? (ky k) = some c
 | [], n, c, _, h, _ => by simp at h
 | x :: r, 0, c, _, h, hk => by
  obtain rfl : x = c := by simpa using h
  rw [List.find?_cons_of_pos (p := ky k) (decide_eq_true hk)]
 | x :: r, n + 1, c, ha, h, hk => by
  rw [List.find?_cons_of_neg (p := ky k) (fun e => ha 0 x (by omega) rfl (of_decide_eq_true e))]
  exact z7c (n := n) (fun q y hq hy => ha (q + 1) y (by omega) (by simpa using hy)) (by simpa using h) hk
theorem zit {k : BA} {cs : List Cs} (h : ∀ (q : Nat) y, cs[q]? = some y -> y.key ≠ k) : cs.find? (ky k) = none := by
 rw [List.find?_eq_none]
 intro x hx e
 obtain ⟨q, hq⟩ := List.mem_iff_getElem?.1 hx
 exact h q x hq (of_decide_eq_true e)
theorem cho_at {cs : List Cs} : ∀ {ks : List BA} {n : Nat} {k : BA} {c : Cs}, (∀ (j : Nat) y, j < n -> ks[j]? = some y -> cs.find? (ky y) = none) -> ks[n]? = some k -> cs.find? (ky k) = some c -> choF cs ks = c.kids
 | [], n, k, c, _, h, _ => by simp at h
 | x :: r, 0, k, c, _, h, hk => by
  obtain rfl : x = k := by simpa using h
  exact z4f hk
 | x :: r, n + 1, k, c, ha, h, hk => by
  rw [z2z (ha 0 x (by omega) rfl)]
  exact cho_at (n := n) (fun q y hq hy => ha (q + 1) y (by omega) (by simpa using hy)) (by simpa using h) hk
theorem cho_no {cs : List Cs} : ∀ {ks : List BA}, (∀ (j : Nat) y, ks[j]? = some y -> cs.find? (ky y) = none) -> choF cs ks = []
 | [], _ => rfl
 | x :: r, ha => by
  rw [z2z (ha 0 x rfl)]
  exact cho_no (fun q y hy => ha (q + 1) y (by simpa using hy))
end Go.Proofs.YtdnedbcmgkilaaaGreatDoor

end

section

namespace Go.Proofs.YtdnedbcmgkilaaaGreatDoor
open Go.RowKit
abbrev Ev := Except Nat (List UInt8)
def findA (gs : List Argm) (nm : BA) : Option Argm := gs.find? (fun a => decide (a.nm = nm))
def valL (a : Argm) : List UInt8 := if a.num then Lib.itoa a.n else a.s.data.toList
def addE (o s : List UInt8) : Ev := if 8000 < o.length + s.length then .error 2 else .ok (o ++ s)
def evP (g : BA) (gs : List Argm) (rc : Int -> List Pt -> List UInt8 -> Ev) (h : Int) (x : Pt) (o : List UInt8) : Ev :=
 if x.k = 1 then addE o x.t.data.toList
 else if x.k = 2 then (match findA gs x.n with | none => .error 100 | some a => addE o (valL a))
 else if x.k = 3 then addE o (Lib.itoa h)
 else if x.k = 4 then (match findA gs x.n with | none => .error 100 | some a => if a.num then rc a.n (choF x.cs [⟨(61 :: Lib.itoa a.n).toArray⟩, Pu.catF g a.n, z19]) o else .error 101)
 else if x.k = 5 then (match findA gs x.n with | none => .error 100 | some a => if a.num then .error 101 else rc h (choF x.cs [a.s, z19]) o)
 else .ok o
def evL (f : Pt -> List UInt8 -> Ev) : List Pt -> List UInt8 -> Ev
 | [], o => .ok o
 | x :: r, o => match f x o with
  | .ok o' => evL f r o'
  | .error e => .error e
def evPs (g : BA) (gs : List Argm) : Nat -> Int -> List Pt -> List UInt8 -> Ev
 | 0, _, _, o => .ok o
 | n + 1, h, xs, o => evL (evP g gs (evPs g gs n) h) xs o
theorem z7l {o s : List UInt8} (h : o.length + s.length <= 8000) : addE o s = .ok (o ++ s) := by unfold addE; rw [if_neg (by omega)]
theorem z7m {o s : List UInt8} (h : ¬ o.length + s.length <= 8000) : addE o s = .error 2 := by unfold addE; rw [if_pos (by omega)]
theorem z4h {o s o' : List UInt8} (h : addE o s = .ok o') : o'.length <= 8000 := by
 unfold addE at h
 split at h
 ·cases h
 ·cases h; rw [List.length_append]; omega
theorem z39 {f : Pt -> List UInt8 -> Ev} {x : Pt} {r : List Pt} {o o' : List UInt8} (h : f x o = .ok o') : evL f (x :: r) o = evL f r o' := by rw [evL, h]
theorem z1h {f : Pt -> List UInt8 -> Ev} {x : Pt} {r : List Pt} {o : List UInt8} {e : Nat} (h : f x o = .error e) : evL f (x :: r) o = .error e := by rw [evL, h]
theorem ziy {f : Pt -> List UInt8 -> Ev} (hf : ∀ x o o', o.length <= 8000 -> f x o = .ok o' -> o'.length <= 8000) : ∀ {xs : List Pt} {o o' : List UInt8}, o.length <= 8000 -> evL f xs o = .ok o' -> o'.length <= 8000
 | [], o, o', h, he => by rw [evL] at he; cases he; exact h
 | x :: r, o, o', h, he => by
  rw [evL] at he
  cases hx : f x o with
  | ok o2 => rw [hx] at he; exact ziy hf (hf x o o2 h hx) he
  | error e => rw [hx] at he; cases he
theorem evP_len {g : BA} {gs : List Argm} {rc : Int -> List Pt -> List UInt8 -> Ev} (hr : ∀ h xs o o', o.length <= 8000 -> rc h xs o = .ok o' -> o'.length <= 8000) {h : Int} {x : Pt} {o o' : List UInt8} (ho : o.length <= 8000) (he : evP g gs rc h x o = .ok o') : o'.length <= 8000 := by
 unfold evP at he
 split at he
 ·exact z4h he
 ·split at he
  ·split at he
   ·cases he
   ·exact z4h he
  ·split at he
   ·exact z4h he
   ·split at he
    ·split at he
     ·cases he
     ·split at he
      ·exact hr _ _ _ _ ho he
      ·cases he
    ·split at he
     ·split at he
      ·cases he
      ·split at he
       ·cases he
       ·exact hr _ _ _ _ ho he
     ·cases he; exact ho
theorem z3o {g : BA} {gs : List Argm} : ∀ {n : Nat} {h : Int} {xs : List Pt} {o o' : List UInt8}, o.length <= 8000 -> evPs g gs n h xs o = .ok o' -> o'.length <= 8000
 | 0, h, xs, o, o', ho, he => by rw [evPs] at he; cases he; exact ho
 | n + 1, h, xs, o, o', ho, he => by
  rw [evPs] at he
  exact ziy (fun x o o' h1 h2 => evP_len (fun _ _ _ _ h3 h4 => z3o (n := n) h3 h4) h1 h2) ho he
section
variable {g : BA} {gs : List Argm} {rc : Int -> List Pt -> List UInt8 -> Ev} {h : Int} {t nm : BA} {cs : List Cs} {o : List UInt8}
theorem evP_1 : evP g gs rc h (.mk 1 t nm cs) o = addE o t.data.toList := by simp [evP, Pt.k, Pt.t]
theorem evP_2n (hf : findA gs nm = none) : evP g gs rc h (.mk 2 t nm cs) o = .error 100 := by simp [evP, Pt.k, Pt.n, hf]
theorem evP_2s {a : Argm} (hf : findA gs nm = some a) : evP g gs rc h (.mk 2 t nm cs) o = addE o (valL a) := by simp [evP, Pt.k, Pt.n, hf]
theorem evP_3 : evP g gs rc h (.mk 3 t nm cs) o = addE o (Lib.itoa h) := by simp [evP, Pt.k]
theorem evP_4n (hf : findA gs nm = none) : evP g gs rc h (.mk 4 t nm cs) o = .error 100 := by simp [evP, Pt.k, Pt.n, hf]
theorem evP_4t {a : Argm} (hf : findA gs nm = some a) (hn : a.num = false) : evP g gs rc h (.mk 4 t nm cs) o = .error 101 := by simp [evP, Pt.k, Pt.n, hf, hn]
theorem evP_4 {a : Argm} (hf : findA gs nm = some a) (hn : a.num = true) : evP g gs rc h (.mk 4 t nm cs) o = rc a.n (choF cs [⟨(61 :: Lib.itoa a.n).toArray⟩, Pu.catF g a.n, z19]) o := by simp [evP, Pt.k, Pt.n, Pt.cs, hf, hn]
theorem evP_5n (hf : findA gs nm = none) : evP g gs rc h (.mk 5 t nm cs) o = .error 100 := by simp [evP, Pt.k, Pt.n, hf]
theorem evP_5t {a : Argm} (hf : findA gs nm = some a) (hn : a.num = true) : evP g gs rc h (.mk 5 t nm cs) o = .error 101 := by simp [evP, Pt.k, Pt.n, hf, hn]
theorem evP_5 {a : Argm} (hf : findA gs nm = some a) (hn : a.num = false) : evP g gs rc h (.mk 5 t nm cs) o = rc h (choF cs [a.s, z19]) o := by simp [evP, Pt.k, Pt.n, Pt.cs, hf, hn]
theorem evP_0 {k : Int} (h1 : k ≠ 1) (h2 : k ≠ 2) (h3 : k ≠ 3) (h4 : k ≠ 4) (h5 : k ≠ 5) : evP g gs rc h (.mk k t nm cs) o = .ok o := by simp [evP, Pt.k, h1, h2, h3, h4, h5]
end
theorem zeq {gs : List Argm} {nm : BA} : ∀ {k : Nat} {a : Argm}, (∀ (q : Nat) y, q < k -> gs[q]? = some y -> y.nm ≠ nm) -> gs[k]? = some a -> a.nm = nm -> findA gs nm = some a := by
 induction gs with
 | nil => intro k a _ h _; simp at h
 | cons x r ih =>
  intro k a ha h hk
  unfold findA at *
  match k, h with
  | 0, h =>
   obtain rfl : x = a := by simpa using h
   rw [List.find?_cons_of_pos (p := fun a : Argm => decide (a.nm = nm)) (decide_eq_true hk)]
  | k + 1, h =>
   rw [List.find?_cons_of_neg (p := fun a : Argm => decide (a.nm = nm)) (fun e => ha 0 x (by omega) rfl (of_decide_eq_true e))]
   exact ih (k := k) (fun q y hq hy => ha (q + 1) y (by omega) (by simpa using hy)) (by simpa using h) hk
theorem z9o {gs : List Argm} {nm : BA} (h : ∀ (q : Nat) y, gs[q]? = some y -> y.nm ≠ nm) : findA gs nm = none := by
 unfold findA
 rw [List.find?_eq_none]
 intro x hx e
 obtain ⟨q, hq⟩ := List.mem_iff_getElem?.1 hx
 exact h q x hq (of_decide_eq_true e)
theorem ziw {gs : List Argm} {nm : BA} {a : Argm} (h : findA gs nm = some a) : ∃ k : Nat, gs[k]? = some a := List.mem_iff_getElem?.1 (List.mem_of_find?_eq_some h)
end Go.Proofs.YtdnedbcmgkilaaaGreatDoor

end

section

namespace Go.Proofs.YtdnedbcmgkilaaaGreatDoor
set_option maxHeartbeats 3200000
set_option maxRecDepth 100000
open Go.Lib (hid)
open Go.RowKit
abbrev panE (k : Nat) : Ending := .panicked [{ v := .iface 25 (.int .i64 k), recovered := false }]
theorem add_long (B b : Nat) (l : List UInt8) (s : BA) (w : World) (h : OutAt B b l w) (hl : ¬ l.length + s.size <= 8000) (hs : s.size <= 140737488351232) (hl2 : l.length <= 8000) :
  Calls Tryz.prog 123 #[.pointer (some ⟨b, 0, none⟩), .string s] w fun e w' => e = panE 2 /\ w' = w := by
 have hlen : (Lib.byteCells l).length = l.length := Lib.byteCells_length _
 have HLN := hid (zi0 B b _ w h)
 rw [hlen] at HLN
 have hl3 : (8000 : Int) < (l.length : Int) + (s.size : Int) := by omega
 clear h hlen
 go_enter Tryz.func123, Tryz.ntmps123
 go_wp2_with fail
 refine HLN.out.mono ?_
 rintro e w2 ⟨rfl, rfl⟩
 go_wp2
 exact ⟨rfl, rfl, rfl⟩
def ArgB (gs : List Argm) : Prop := ∀ (k : Nat) x, gs[k]? = some x -> -9223372036854775808 <= x.n /\ x.n <= 9223372036854775807 /\ x.s.size <= 140737488351232
theorem ArgB.found {gs : List Argm} {nm : BA} {a : Argm} (h : ArgB gs) (hf : findA gs nm = some a) : -9223372036854775808 <= a.n /\ a.n <= 9223372036854775807 /\ a.s.size <= 140737488351232 := by
 obtain ⟨k, hk⟩ := ziw hf
 exact h k a hk
def ArgE (r : Option Argm) (e : Ending) : Prop := match r with
 | some a => e = .returned (.agg #[.string a.nm, .bool a.num, .int .i64 a.n, .string a.s])
 | none => e = panE 100
theorem z47 (w : World) (lang : BA) (b : Option Addr) (capb : Nat) (gs : List Argm) (nm : BA) (hx : SlA w (Old w) (.slice b gs.length capb) gs) :
  Calls Tryz.prog 161 #[.agg #[.string lang, .slice b gs.length capb], .string nm] w fun e w' => ArgE (findA gs nm) e /\ Below w.heap.size w w' := by
 have hmax := hx.lenleA.2
 obtain ⟨L, HL⟩ : ∃ L, Hid (L = gs.length) := ⟨_, hid rfl⟩
 have hL2 : L <= 9223372036854775807 := by have := HL.out; omega
 rw [<- HL.out] at hx ⊢
 have HX1 := hid (hx.old (z8d w (.cells #[.string lang, .slice b L capb] 115) (.cells #[.string ⟨#[]⟩, .bool false, .int .i64 0, .string ⟨#[]⟩] 148)))
 have HB1 := hid (z8d w (.cells #[.string lang, .slice b L capb] 115) (.cells #[.string ⟨#[]⟩, .bool false, .int .i64 0, .string ⟨#[]⟩] 148))
 have HR1 : Hid (Row ((w.alloc (.cells #[.string lang, .slice b L capb] 115)).alloc (.cells #[.string ⟨#[]⟩, .bool false, .int .i64 0, .string ⟨#[]⟩] 148)) (w.heap.size + 1) 148 [.string ⟨#[]⟩, .bool false, .int .i64 0, .string ⟨#[]⟩]) := hid (by
  have := z04 (w.alloc (.cells #[.string lang, .slice b L capb] 115)) #[.string ⟨#[]⟩, .bool false, .int .i64 0, .string ⟨#[]⟩] 148
  rw [World.size_alloc] at this; exact this)
 clear hx hmax
 go_enter Tryz.func161, Tryz.ntmps161
 go_wp2
 generalize (w.alloc (.cells #[.string lang, .slice b L capb] 115)).alloc (.cells #[.string ⟨#[]⟩, .bool false, .int .i64 0, .string ⟨#[]⟩] 148) = w1 at *
 go_loopw [10] (fun i wr => ∃ k : Nat, k <= L /\ i = .int .i64 k /\ Hid (Below w1.heap.size w1 wr) /\ Hid (∀ (q : Nat) y, q < k -> gs[q]? = some y -> y.nm ≠ nm)) (fun i _ => L - (intOf i).toNat)
 case atStart => exact ⟨0, Nat.zero_le _, rfl, hid (Below.refl _ _), hid (fun q y h => by omega)⟩
 case round =>
  obtain ⟨k, hk, rfl, HB, HN⟩ := hrel
  have HBW : Hid (Below w.heap.size w wr) := hid (HB1.out.trans (HB.out.mono HB1.out.size))
  by_cases hlt : k < L
  ·obtain ⟨x, hxk⟩ : ∃ x, gs[k]? = some x := ⟨_, List.getElem?_eq_getElem (by have := HL.out; omega)⟩
   obtain ⟨g, off, rfl, -, hat⟩ := (HX1.out.old HB.out).at_ hxk
   obtain ⟨h0, h1, h2, h3⟩ := hat.a
   have HXK := hid hxk
   obtain ⟨xn, num, n, s⟩ := x
   simp only at h0 h1 h2 h3
   have HR0 := hid (HR1.out.below HB.out)
   have R2 := HR0.out.alloc (.cells #[.string xn, .bool num, .int .i64 n, .string s] 148)
   have R3 := z04 wr #[.string xn, .bool num, .int .i64 n, .string s] 148
   have HB4 := hid (z00 HB.out (z02 wr (.cells #[.string xn, .bool num, .int .i64 n, .string s] 148)))
   have HB3 := hid (z00 HBW.out (z02 wr (.cells #[.string xn, .bool num, .int .i64 n, .string s] 148)))
   have HR2 := hid R2
   have c0 := R2.cell (i := 0) rfl
   have c1 := R2.cell (i := 1) rfl
   have c2 := R2.cell (i := 2) rfl
   have c3 := R2.cell (i := 3) rfl
   have d0 := R3.cell (i := 0) rfl
   have d1 := R3.cell (i := 1) rfl
   have d2 := R3.cell (i := 2) rfl
   have d3 := R3.cell (i := 3) rfl
   have z0 := R2.thaw 0
   have z1 := R2.thaw 1
   have z2 := R2.thaw 2
   have z3 := R2.thaw 3
   clear R2 R3 hat hxk
   by_cases he : xn = nm
   ·have HF : Hid (findA gs nm = some ⟨xn, num, n, s⟩) := hid (zeq HN.out HXK.out he)
    subst he
    go_wp2
    generalize wr.alloc (.cells #[.string xn, .bool num, .int .i64 n, .string s] 148) = w3 at *
    have R5 := (((HR2.out.set 0 (.string xn)).set 1 (.bool num)).set 2 (.int .i64 n)).set 3 (.string s)
    have HB5 := (((HB3.out.setCell (p := ⟨w.heap.size + 1, 0, none⟩) (Nat.le_succ _) (.string xn)).setCell (p := ⟨w.heap.size + 1, 1, none⟩) (Nat.le_succ _) (.bool num)).setCell (p := ⟨w.heap.size + 1, 2, none⟩) (Nat.le_succ _) (.int .i64 n)).setCell (p := ⟨w.heap.size + 1, 3, none⟩) (Nat.le_succ _) (.string s)
    generalize (((w3.setCell ⟨w.heap.size + 1, 0, none⟩ (.string xn)).setCell ⟨w.heap.size + 1, 1, none⟩ (.bool num)).setCell ⟨w.heap.size + 1, 2, none⟩ (.int .i64 n)).setCell ⟨w.heap.size + 1, 3, none⟩ (.string s) = w5 at R5 HB5 ⊢
    have e0 := R5.cell (i := 0) rfl
    have e1 := R5.cell (i := 1) rfl
    have e2 := R5.cell (i := 2) rfl
    have e3 := R5.cell (i := 3) rfl
    exact bodyPost_ret (v := .agg #[.string xn, .bool num, .int .i64 n, .string s]) (by simp [results, Tryz.results161, go_sem, e0, e1, e2, e3]) rfl ⟨by rw [HF.out]; rfl, HB5⟩
   ·have HN2 : Hid (∀ (q : Nat) y, q < k + 1 -> gs[q]? = some y -> y.nm ≠ nm) := hid (fun q y hq hqy => by
     rcases Nat.lt_or_eq_of_le (Nat.le_of_lt_succ hq) with h | rfl
     ·exact HN.out q y h hqy
     ·rw [HXK.out] at hqy
      obtain rfl := Option.some.inj hqy
      exact he)
    have hbe : (xn.toList == nm.toList) = false := by
     rw [ByteArray.toList_eq, ByteArray.toList_eq]
     exact beq_eq_false_iff_ne.2 (fun e => he (ByteArray.ext (Array.toList_inj.1 e)))
    clear he
    go_wp2
    go_roundw
    case rel => exact ⟨k + 1, by omega, by go_num, HB4, HN2⟩
    case measure => simp [intOf]; omega
  ·have HF : Hid (findA gs nm = none) := hid (z9o (fun q y hq => HN.out q y (by have := HL.out; have := (List.getElem?_eq_some_iff.1 hq).1; omega) hq))
   go_wp2
   exact ⟨rfl, by rw [HF.out]; rfl, HBW.out⟩
theorem val_any (a : Argm) (h1 : -9223372036854775808 <= a.n) (h2 : a.n <= 9223372036854775807) (w : World) (hE : EnvW w) : Calls Tryz.prog 160 #[.agg #[.string a.nm, .bool a.num, .int .i64 a.n, .string a.s]] w fun e w' => e = .returned (.string ⟨(valL a).toArray⟩) /\ Below w.heap.size w w' := by
 have HB := hid (z02 w (.cells #[.string a.nm, .bool a.num, .int .i64 a.n, .string a.s] 148))
 have R3 := z04 w #[.string a.nm, .bool a.num, .int .i64 a.n, .string a.s] 148
 have HD := hid (fun W (hb : Below w.heap.size w W) => z5v a.n h1 h2 W (hE.below hb))
 obtain ⟨nm, num, n, s⟩ := a
 simp only at HB R3 HD h1 h2 ⊢
 have d1 := R3.cell (i := 1) rfl
 have d2 := R3.cell (i := 2) rfl
 have d3 := R3.cell (i := 3) rfl
 clear R3 hE
 cases num with
 | true =>
  have HV : Hid (valL ⟨nm, true, n, s⟩ = Lib.itoa n) := hid rfl
  rw [HV.out]
  go_enter Tryz.func160, Tryz.ntmps160
  go_wp2_with fail
  refine (HD.out _ HB.out).mono ?_
  rintro e w3 ⟨rfl, hb3⟩
  have HB3 := hid (z00 HB.out hb3)
  go_wp2
  go_ret
  exact ⟨rfl, HB3.out⟩
 | false =>
  have HV : Hid ((⟨(valL ⟨nm, false, n, s⟩).toArray⟩ : BA) = s) := hid (zdq s)
  rw [HV.out]
  go_enter Tryz.func160, Tryz.ntmps160
  go_wp2
  go_ret
  exact ⟨rfl, HB.out⟩
def NumE (r : Option Argm) (e : Ending) : Prop := match r with
 | some a => if a.num then e = .returned (.int .i64 a.n) else e = panE 101
 | none => e = panE 100
def WordE (r : Option Argm) (e : Ending) : Prop := match r with
 | some a => if a.num then e = panE 101 else e = .returned (.string a.s)
 | none => e = panE 100
theorem numE_any (w : World) (lang : BA) (b : Option Addr) (capb : Nat) (gs : List Argm) (nm : BA) (hx : SlA w (Old w) (.slice b gs.length capb) gs) :
  Calls Tryz.prog 163 #[.agg #[.string lang, .slice b gs.length capb], .string nm] w fun e w' => NumE (findA gs nm) e /\ Below w.heap.size w w' := by
 have HA := hid (z47 (w.alloc (.cells #[.string lang, .slice b gs.length capb] 115)) lang b capb gs nm (hx.old (z02 _ _)))
 have HB1 := hid (z02 w (.cells #[.string lang, .slice b gs.length capb] 115))
 clear hx
 generalize gs.length = L at *
 cases hf : findA gs nm with
 | none =>
  rw [hf] at HA
  clear hf
  go_enter Tryz.func163, Tryz.ntmps163
  go_wp2_with fail
  refine HA.out.mono ?_
  rintro e w2 ⟨he, hb2⟩
  obtain rfl : e = panE 100 := he
  have HB2 := hid (z00 HB1.out hb2)
  clear hb2
  go_wp2
  exact ⟨rfl, rfl, HB2.out⟩
 | some a =>
  rw [hf] at HA
  clear hf
  obtain ⟨xn, num, n, s⟩ := a
  go_enter Tryz.func163, Tryz.ntmps163
  go_wp2_with fail
  refine HA.out.mono ?_
  rintro e w2 ⟨he, hb2⟩
  obtain rfl : e = .returned (.agg #[.string xn, .bool num, .int .i64 n, .string s]) := he
  have HB2 := hid (z00 HB1.out hb2)
  have HB3 := hid (z00 HB2.out (z02 w2 (.cells #[.string xn, .bool num, .int .i64 n, .string s] 148)))
  clear hb2
  have R3 := z04 w2 #[.string xn, .bool num, .int .i64 n, .string s] 148
  have d1 := R3.cell (i := 1) rfl
  have d2 := R3.cell (i := 2) rfl
  clear R3
  cases num with
  | true =>
   go_wp2
   go_ret
   exact ⟨rfl, HB3.out⟩
  | false =>
   go_wp2
   exact ⟨rfl, rfl, HB3.out⟩
theorem zg4 (w : World) (lang : BA) (b : Option Addr) (capb : Nat) (gs : List Argm) (nm : BA) (hx : SlA w (Old w) (.slice b gs.length capb) gs) :
  Calls Tryz.prog 166 #[.agg #[.string lang, .slice b gs.length capb], .string nm] w fun e w' => WordE (findA gs nm) e /\ Below w.heap.size w w' := by
 have HA := hid (z47 (w.alloc (.cells #[.string lang, .slice b gs.length capb] 115)) lang b capb gs nm (hx.old (z02 _ _)))
 have HB1 := hid (z02 w (.cells #[.string lang, .slice b gs.length capb] 115))
 clear hx
 generalize gs.length = L at *
 cases hf : findA gs nm with
 | none =>
  rw [hf] at HA
  clear hf
  go_enter Tryz.func166, Tryz.ntmps166
  go_wp2_with fail
  refine HA.out.mono ?_
  rintro e w2 ⟨he, hb2⟩
  obtain rfl : e = panE 100 := he
  have HB2 := hid (z00 HB1.out hb2)
  clear hb2
  go_wp2
  exact ⟨rfl, rfl, HB2.out⟩
 | some a =>
  rw [hf] at HA
  clear hf
  obtain ⟨xn, num, n, s⟩ := a
  go_enter Tryz.func166, Tryz.ntmps166
  go_wp2_with fail
  refine HA.out.mono ?_
  rintro e w2 ⟨he, hb2⟩
  obtain rfl : e = .returned (.agg #[.string xn, .bool num, .int .i64 n, .string s]) := he
  have HB2 := hid (z00 HB1.out hb2)
  have HB3 := hid (z00 HB2.out (z02 w2 (.cells #[.string xn, .bool num, .int .i64 n, .string s] 148)))
  clear hb2
  have R3 := z04 w2 #[.string xn, .bool num, .int .i64 n, .string s] 148
  have d1 := R3.cell (i := 1) rfl
  have d3 := R3.cell (i := 3) rfl
  clear R3
  cases num with
  | true =>
   go_wp2
   exact ⟨rfl, rfl, HB3.out⟩
  | false =>
   go_wp2
   go_ret
   exact ⟨rfl, HB3.out⟩
end Go.Proofs.YtdnedbcmgkilaaaGreatDoor

end

section

namespace Go.Proofs.YtdnedbcmgkilaaaGreatDoor.Ca
set_option maxRecDepth 100000
open Go.ChangeShapes Go.WideShapes Go.ChangeAt Go.WideMaps Go.WideElems Go.RowKit Go.Deep Go.Proofs.YtdnedbcmgkilaaaGreatDoor
theorem cellsArg : Tryz.prog.cellsOf 148 = 4 := by kernel_rfl
theorem cells2 : Tryz.prog.cellsOf 2 = 1 := by kernel_rfl
section
variable {H : Type} {enc : TypeId × Value -> H} {W : World}
theorem open_one {n : Nat} {cs : List Value} {y : DataW H × List MemPlace} (hl : cs.length = 4) (h : DataW.trod enc Tryz.prog W 0 (fun _ => true) true n 148 cs = some y) :
  ∃ x : Argm, cs = [.string x.nm, .bool x.num, .int .i64 x.n, .string x.s] /\ (-9223372036854775808 <= x.n /\ x.n <= 9223372036854775807) /\ x.nm.data.toList.length ∈ y.1.weights Tryz.prog 148 /\ x.s.data.toList.length ∈ y.1.weights Tryz.prog 148 := by
 obtain ⟨ys, n', -, hy, -, hyl, hg⟩ := DataW.trod_struct Tryz.underlying148 h
 match cs, hl with
 | [c0, c1, c2, c3], _ =>
  have g0 : DataW.trod enc Tryz.prog W 0 (fun _ => true) true n' 9 (([c0, c1, c2, c3].drop 0).take (Tryz.prog.cellsOf 9)) = ys[0]? := hg 0 _ rfl
  have g1 : DataW.trod enc Tryz.prog W 0 (fun _ => true) true n' 4 (([c0, c1, c2, c3].drop 1).take (Tryz.prog.cellsOf 4)) = ys[1]? := hg 1 _ rfl
  have g2 : DataW.trod enc Tryz.prog W 0 (fun _ => true) true n' 2 (([c0, c1, c2, c3].drop 2).take (Tryz.prog.cellsOf 2)) = ys[2]? := hg 2 _ rfl
  have g3 : DataW.trod enc Tryz.prog W 0 (fun _ => true) true n' 9 (([c0, c1, c2, c3].drop 3).take (Tryz.prog.cellsOf 9)) = ys[3]? := hg 3 _ rfl
  simp only [zf5, cells4, cells2, List.drop_zero, List.take_succ_cons, List.take_zero, List.drop_succ_cons] at g0 g1 g2 g3
  match ys, hyl with
  | [y0, y1, y2, y3], _ =>
   obtain ⟨k, hk, hk2, -⟩ := DataW.trod_string Tryz.underlying9 g0
   obtain ⟨b, hb, hb2⟩ := DataW.trod_bool Tryz.underlying4 g1
   obtain ⟨r, hr, hr2, hrw⟩ := DataW.trod_int Tryz.underlying2 g2
   obtain ⟨s, hs, hs2, -⟩ := DataW.trod_string Tryz.underlying9 g3
   simp only [List.cons.injEq, and_true] at hk hb hr hs
   refine ⟨⟨k, b, r, s⟩, by rw [hk, hb, hr, hs], bounds_i64 hrw, ?_, ?_⟩
   ·rw [hy]
    simp [DataW.weights, Tryz.underlying148, DataW.weightsEach, hk2]
   ·rw [hy]
    simp [DataW.weights, Tryz.underlying148, DataW.weightsEach, hs2]
theorem zhf {fuel : Nat} {c0 : Value} {y0 : DataW H × List MemPlace} (g1 : DataW.trod enc Tryz.prog W 0 (fun _ => true) true fuel 36 [c0] = some y0)
  (hlt2 : ∀ x ∈ y0.2, x.block < W.heap.size) (hw2 : ∀ n ∈ y0.1.weights Tryz.prog 36, n <= reachBytes) : ∃ (a : Option Addr) (cap : Nat) (xs : List Argm), c0 = .slice a xs.length cap /\ SlA W (Old W) (.slice a xs.length cap) xs /\ ∀ (k : Nat) x, xs[k]? = some x -> (-9223372036854775808 <= x.n /\ x.n <= 9223372036854775807) /\ x.nm.size <= 140737488351232 /\ x.s.size <= 140737488351232 := by
 rcases open_slice Tryz.underlying36 g1 with ⟨hcs, -⟩ | ⟨a, len, cap, m, n2, D, Pl, hcs, -, hl, hm, hmm, hx, hi⟩
 ·obtain rfl : c0 = .slice none 0 0 := by simpa using hcs
  exact ⟨none, 0, [], rfl, Sl.nil _ _ _ _, fun j x hj => by simp at hj⟩
 ·obtain rfl : c0 = .slice (some a) len cap := by simpa using hcs
  simp only [if_true] at hmm
  unfold maxLen at hm
  rw [cellsArg] at hi hx
  have hex : ∀ i, i < len -> ∃ x : Argm, (W.cell? (a.add (i * 4)) = some (.string x.nm) /\ W.cell? (a.add (i * 4 + 1)) = some (.bool x.num) /\ W.cell? (a.add (i * 4 + 2)) = some (.int .i64 x.n) /\ W.cell? (a.add (i * 4 + 3)) = some (.string x.s)) /\ (-9223372036854775808 <= x.n /\ x.n <= 9223372036854775807) /\ x.nm.size <= 140737488351232 /\ x.s.size <= 140737488351232 := fun i hil => by
   obtain ⟨cs', hc, ht'⟩ := hi i (by omega)
   obtain ⟨-, hcl, hat⟩ := World.cells?_some hc
   obtain ⟨x, rfl, hi9, hk, hs⟩ := open_one hcl ht'
   have hmem : D i ∈ (List.range len).map D := List.mem_map.2 ⟨i, List.mem_range.2 hil, rfl⟩
   have hwm : ∀ q ∈ (D i).weights Tryz.prog 148, q <= 140737488351232 := fun q hq => by
    have := hw2 q (by
     rw [hx]
     simp only [DataW.weights, Tryz.underlying36]
     exact List.mem_cons_of_mem _ (List.mem_append_left _ (z4q hmem hq)))
    simpa [reachBytes] using this
   have h0 := hat 0 (by omega)
   have h1 := hat 1 (by omega)
   have h2 := hat 2 (by omega)
   have h3 := hat 3 (by omega)
   rw [Go.Deep.add_add] at h0 h1 h2 h3
   exact ⟨x, ⟨h0, h1, h2, h3⟩, hi9, by have := hwm _ hk; rwa [z05] at this, by have := hwm _ hs; rwa [z05] at this⟩
  obtain ⟨xs, hxl, hxs⟩ := zd4 len hex
  refine ⟨some a, cap, xs, by rw [hxl], ⟨some a, cap, rfl, by omega, hm, fun hne => ?_⟩, fun j x hj => (hxs j x hj).2⟩
  have hpos : 0 < xs.length := List.length_pos_iff.2 hne
  have hc0 := (hxs 0 xs[0] (List.getElem?_eq_getElem hpos)).1.1
  obtain ⟨b, off, spot⟩ := a
  have hspot : spot = none := by simpa [Addr.add] using World.cell?_spot hc0
  subst hspot
  have hbW : b < W.heap.size := hlt2 (.cell b off) (by rw [hx]; exact List.mem_append_left _ (MemPlace.mem_row.2 ⟨0, by omega, by simp⟩))
  refine ⟨b, off, rfl, hbW, fun j x hj => ?_⟩
  obtain ⟨⟨h0, h1, h2, h3⟩, -⟩ := hxs j x hj
  rw [Addr.add_mid] at h0 h1 h2 h3
  refine ⟨[.string x.nm, .bool x.num, .int .i64 x.n, .string x.s], rfl, rfl, fun i u hu => ?_⟩
  match i, hu with
  | 0, hu => obtain rfl := Option.some.inj hu; exact h0
  | 1, hu => obtain rfl := Option.some.inj hu; rw [Nat.add_assoc]; exact h1
  | 2, hu => obtain rfl := Option.some.inj hu; rw [Nat.add_assoc]; exact h2
  | 3, hu => obtain rfl := Option.some.inj hu; rw [Nat.add_assoc]; exact h3
  | _ + 4, hu => simp at hu
end
end Go.Proofs.YtdnedbcmgkilaaaGreatDoor.Ca

end

section

namespace Go.Proofs.YtdnedbcmgkilaaaGreatDoor.Pu
open Go.RowKit
theorem it_0 : Lib.itoa 0 = [48] := by simp [Lib.itoa, Lib.decDigits]
theorem it_1 : Lib.itoa 1 = [49] := by simp [Lib.itoa, Lib.decDigits]
theorem it_2 : Lib.itoa 2 = [50] := by simp [Lib.itoa, Lib.decDigits]
theorem it_3 : Lib.itoa 3 = [51] := by simp [Lib.itoa, Lib.decDigits]
theorem it_4 : Lib.itoa 4 = [52] := by simp [Lib.itoa, Lib.decDigits]
theorem it_5 : Lib.itoa 5 = [53] := by simp [Lib.itoa, Lib.decDigits]
theorem it_6 : Lib.itoa 6 = [54] := by simp [Lib.itoa, Lib.decDigits]
theorem it_9 : Lib.itoa 9 = [57] := by simp [Lib.itoa, Lib.decDigits]
theorem zi6 : Lib.itoa 10 = [49, 48] := by simp [Lib.itoa, Lib.decDigits]
theorem it_11 : Lib.itoa 11 = [49, 49] := by simp [Lib.itoa, Lib.decDigits]
theorem it_12 : Lib.itoa 12 = [49, 50] := by simp [Lib.itoa, Lib.decDigits]
theorem it_14 : Lib.itoa 14 = [49, 52] := by simp [Lib.itoa, Lib.decDigits]
theorem it_99 : Lib.itoa 99 = [57, 57] := by simp [Lib.itoa, Lib.decDigits]
theorem z5f : Lib.itoa 100 = [49, 48, 48] := by simp [Lib.itoa, Lib.decDigits]
abbrev t0 : List UInt8 := [105, 32, 61, 32, 49]
abbrev t0R : Rule := [[⟨0, false, [⟨1, 1⟩]⟩]]
theorem z8q : ruleF t0 (0, false) = (t0R, (5, false)) := by kernel_rfl
theorem t0_tx : z0h t0R = t0 := by simp [z0h, txRow, joinF, txR, txS, it_1]
theorem t0_rg : z0x t0R = true := by decide
theorem t0_p : (z03 t0).1 = t0R := by
 have h := z0u (l := t0) (by decide) (by rw [z8q]) (by rw [z8q]; exact t0_rg) (by rw [z8q]; exact t0_tx)
 rw [h, z8q]
theorem t0_h (n i : Int) (hi : absF n = i) : hB (z03 t0).1 n = decide ((((1 <= i /\ i <= 1)))) := by
 rw [t0_p, hB, t0_rg, Bool.true_and, hi, Bool.eq_iff_iff]
 simp [z1g, hoRow, hoR, inS]
abbrev t1 : List UInt8 := [105, 32, 61, 32, 48, 44, 49]
abbrev t1R : Rule := [[⟨0, false, [⟨0, 0⟩, ⟨1, 1⟩]⟩]]
theorem z8p : ruleF t1 (0, false) = (t1R, (7, false)) := by kernel_rfl
theorem t1_tx : z0h t1R = t1 := by simp [z0h, txRow, joinF, txR, txS, it_0, it_1]
theorem t1_rg : z0x t1R = true := by decide
theorem t1_p : (z03 t1).1 = t1R := by
 have h := z0u (l := t1) (by decide) (by rw [z8p]) (by rw [z8p]; exact t1_rg) (by rw [z8p]; exact t1_tx)
 rw [h, z8p]
theorem t1_h (n i : Int) (hi : absF n = i) : hB (z03 t1).1 n = decide ((((0 <= i /\ i <= 0) ∨ (1 <= i /\ i <= 1)))) := by
 rw [t1_p, hB, t1_rg, Bool.true_and, hi, Bool.eq_iff_iff]
 simp [z1g, hoRow, hoR, inS]
abbrev t2 : List UInt8 := [105, 32, 37, 32, 49, 48, 32, 61, 32, 49, 32, 97, 110, 100, 32, 105, 32, 37, 32, 49, 48, 48, 32, 33, 61, 32, 49, 49]
abbrev t2R : Rule := [[⟨10, false, [⟨1, 1⟩]⟩, ⟨100, true, [⟨11, 11⟩]⟩]]
theorem z8o : ruleF t2 (0, false) = (t2R, (28, false)) := by kernel_rfl
theorem t2_tx : z0h t2R = t2 := by simp [z0h, txRow, joinF, txR, txS, it_1, zi6, it_11, z5f]
theorem t2_rg : z0x t2R = true := by decide
theorem t2_p : (z03 t2).1 = t2R := by
 have h := z0u (l := t2) (by decide) (by rw [z8o]) (by rw [z8o]; exact t2_rg) (by rw [z8o]; exact t2_tx)
 rw [h, z8o]
theorem t2_h (n i : Int) (hi : absF n = i) : hB (z03 t2).1 n = decide ((((1 <= (i % 10) /\ (i % 10) <= 1)) /\ ¬ ((11 <= (i % 100) /\ (i % 100) <= 11)))) := by
 rw [t2_p, hB, t2_rg, Bool.true_and, hi, Bool.eq_iff_iff]
 simp [z1g, hoRow, hoR, inS]
abbrev t3 : List UInt8 := [105, 32, 37, 32, 49, 48, 32, 61, 32, 50, 46, 46, 52, 32, 97, 110, 100, 32, 105, 32, 37, 32, 49, 48, 48, 32, 33, 61, 32, 49, 50, 46, 46, 49, 52]
abbrev t3R : Rule := [[⟨10, false, [⟨2, 4⟩]⟩, ⟨100, true, [⟨12, 14⟩]⟩]]
theorem z8n : ruleF t3 (0, false) = (t3R, (35, false)) := by kernel_rfl
theorem t3_tx : z0h t3R = t3 := by simp [z0h, txRow, joinF, txR, txS, it_2, it_4, zi6, it_12, it_14, z5f]
theorem t3_rg : z0x t3R = true := by decide
theorem t3_p : (z03 t3).1 = t3R := by
 have h := z0u (l := t3) (by decide) (by rw [z8n]) (by rw [z8n]; exact t3_rg) (by rw [z8n]; exact t3_tx)
 rw [h, z8n]
theorem t3_h (n i : Int) (hi : absF n = i) : hB (z03 t3).1 n = decide ((((2 <= (i % 10) /\ (i % 10) <= 4)) /\ ¬ ((12 <= (i % 100) /\ (i % 100) <= 14)))) := by
 rw [t3_p, hB, t3_rg, Bool.true_and, hi, Bool.eq_iff_iff]
 simp [z1g, hoRow, hoR, inS]
abbrev t4 : List UInt8 := [105, 32, 37, 32, 49, 48, 32, 61, 32, 48, 44, 53, 46, 46, 57, 32, 111, 114, 32, 105, 32, 37, 32, 49, 48, 48, 32, 61, 32, 49, 49, 46, 46, 49, 52]
abbrev t4R : Rule := [[⟨10, false, [⟨0, 0⟩, ⟨5, 9⟩]⟩], [⟨100, false, [⟨11, 14⟩]⟩]]
theorem z8m : ruleF t4 (0, false) = (t4R, (35, false)) := by kernel_rfl
theorem t4_tx : z0h t4R = t4 := by simp [z0h, txRow, joinF, txR, txS, it_0, it_5, it_9, zi6, it_11, it_14, z5f]
theorem t4_rg : z0x t4R = true := by decide
theorem t4_p : (z03 t4).1 = t4R := by
 have h := z0u (l := t4) (by decide) (by rw [z8m]) (by rw [z8m]; exact t4_rg) (by rw [z8m]; exact t4_tx)
 rw [h, z8m]
theorem t4_h (n i : Int) (hi : absF n = i) : hB (z03 t4).1 n = decide ((((0 <= (i % 10) /\ (i % 10) <= 0) ∨ (5 <= (i % 10) /\ (i % 10) <= 9))) ∨ (((11 <= (i % 100) /\ (i % 100) <= 14)))) := by
 rw [t4_p, hB, t4_rg, Bool.true_and, hi, Bool.eq_iff_iff]
 simp [z1g, hoRow, hoR, inS]
abbrev t5 : List UInt8 := [105, 32, 37, 32, 49, 48, 32, 61, 32, 48, 44, 49, 44, 53, 46, 46, 57, 32, 111, 114, 32, 105, 32, 37, 32, 49, 48, 48, 32, 61, 32, 49, 50, 46, 46, 49, 52]
abbrev t5R : Rule := [[⟨10, false, [⟨0, 0⟩, ⟨1, 1⟩, ⟨5, 9⟩]⟩], [⟨100, false, [⟨12, 14⟩]⟩]]
theorem z8l : ruleF t5 (0, false) = (t5R, (37, false)) := by kernel_rfl
theorem t5_tx : z0h t5R = t5 := by simp [z0h, txRow, joinF, txR, txS, it_0, it_1, it_5, it_9, zi6, it_12, it_14, z5f]
theorem t5_rg : z0x t5R = true := by decide
theorem t5_p : (z03 t5).1 = t5R := by
 have h := z0u (l := t5) (by decide) (by rw [z8l]) (by rw [z8l]; exact t5_rg) (by rw [z8l]; exact t5_tx)
 rw [h, z8l]
theorem t5_h (n i : Int) (hi : absF n = i) : hB (z03 t5).1 n = decide ((((0 <= (i % 10) /\ (i % 10) <= 0) ∨ (1 <= (i % 10) /\ (i % 10) <= 1) ∨ (5 <= (i % 10) /\ (i % 10) <= 9))) ∨ (((12 <= (i % 100) /\ (i % 100) <= 14)))) := by
 rw [t5_p, hB, t5_rg, Bool.true_and, hi, Bool.eq_iff_iff]
 simp [z1g, hoRow, hoR, inS]
abbrev t6 : List UInt8 := [105, 32, 61, 32, 50, 46, 46, 52]
abbrev t6R : Rule := [[⟨0, false, [⟨2, 4⟩]⟩]]
theorem z8k : ruleF t6 (0, false) = (t6R, (8, false)) := by kernel_rfl
theorem t6_tx : z0h t6R = t6 := by simp [z0h, txRow, joinF, txR, txS, it_2, it_4]
theorem t6_rg : z0x t6R = true := by decide
theorem t6_p : (z03 t6).1 = t6R := by
 have h := z0u (l := t6) (by decide) (by rw [z8k]) (by rw [z8k]; exact t6_rg) (by rw [z8k]; exact t6_tx)
 rw [h, z8k]
theorem t6_h (n i : Int) (hi : absF n = i) : hB (z03 t6).1 n = decide ((((2 <= i /\ i <= 4)))) := by
 rw [t6_p, hB, t6_rg, Bool.true_and, hi, Bool.eq_iff_iff]
 simp [z1g, hoRow, hoR, inS]
abbrev t7 : List UInt8 := [105, 32, 61, 32, 48]
abbrev t7R : Rule := [[⟨0, false, [⟨0, 0⟩]⟩]]
theorem z8j : ruleF t7 (0, false) = (t7R, (5, false)) := by kernel_rfl
theorem t7_tx : z0h t7R = t7 := by simp [z0h, txRow, joinF, txR, txS, it_0]
theorem t7_rg : z0x t7R = true := by decide
theorem t7_p : (z03 t7).1 = t7R := by
 have h := z0u (l := t7) (by decide) (by rw [z8j]) (by rw [z8j]; exact t7_rg) (by rw [z8j]; exact t7_tx)
 rw [h, z8j]
theorem t7_h (n i : Int) (hi : absF n = i) : hB (z03 t7).1 n = decide ((((0 <= i /\ i <= 0)))) := by
 rw [t7_p, hB, t7_rg, Bool.true_and, hi, Bool.eq_iff_iff]
 simp [z1g, hoRow, hoR, inS]
abbrev t8 : List UInt8 := [105, 32, 61, 32, 50]
abbrev t8R : Rule := [[⟨0, false, [⟨2, 2⟩]⟩]]
theorem z8i : ruleF t8 (0, false) = (t8R, (5, false)) := by kernel_rfl
theorem t8_tx : z0h t8R = t8 := by simp [z0h, txRow, joinF, txR, txS, it_2]
theorem t8_rg : z0x t8R = true := by decide
theorem t8_p : (z03 t8).1 = t8R := by
 have h := z0u (l := t8) (by decide) (by rw [z8i]) (by rw [z8i]; exact t8_rg) (by rw [z8i]; exact t8_tx)
 rw [h, z8i]
theorem t8_h (n i : Int) (hi : absF n = i) : hB (z03 t8).1 n = decide ((((2 <= i /\ i <= 2)))) := by
 rw [t8_p, hB, t8_rg, Bool.true_and, hi, Bool.eq_iff_iff]
 simp [z1g, hoRow, hoR, inS]
abbrev t9 : List UInt8 := [105, 32, 37, 32, 49, 48, 48, 32, 61, 32, 51, 46, 46, 49, 48]
abbrev t9R : Rule := [[⟨100, false, [⟨3, 10⟩]⟩]]
theorem z8h : ruleF t9 (0, false) = (t9R, (15, false)) := by kernel_rfl
theorem t9_tx : z0h t9R = t9 := by simp [z0h, txRow, joinF, txR, txS, it_3, zi6, z5f]
theorem t9_rg : z0x t9R = true := by decide
theorem t9_p : (z03 t9).1 = t9R := by
 have h := z0u (l := t9) (by decide) (by rw [z8h]) (by rw [z8h]; exact t9_rg) (by rw [z8h]; exact t9_tx)
 rw [h, z8h]
theorem t9_h (n i : Int) (hi : absF n = i) : hB (z03 t9).1 n = decide ((((3 <= (i % 100) /\ (i % 100) <= 10)))) := by
 rw [t9_p, hB, t9_rg, Bool.true_and, hi, Bool.eq_iff_iff]
 simp [z1g, hoRow, hoR, inS]
abbrev t10 : List UInt8 := [105, 32, 37, 32, 49, 48, 48, 32, 61, 32, 49, 49, 46, 46, 57, 57]
abbrev t10R : Rule := [[⟨100, false, [⟨11, 99⟩]⟩]]
theorem z6g : ruleF t10 (0, false) = (t10R, (16, false)) := by kernel_rfl
theorem t10_tx : z0h t10R = t10 := by simp [z0h, txRow, joinF, txR, txS, it_11, it_99, z5f]
theorem t10_rg : z0x t10R = true := by decide
theorem t10_p : (z03 t10).1 = t10R := by
 have h := z0u (l := t10) (by decide) (by rw [z6g]) (by rw [z6g]; exact t10_rg) (by rw [z6g]; exact t10_tx)
 rw [h, z6g]
theorem t10_h (n i : Int) (hi : absF n = i) : hB (z03 t10).1 n = decide ((((11 <= (i % 100) /\ (i % 100) <= 99)))) := by
 rw [t10_p, hB, t10_rg, Bool.true_and, hi, Bool.eq_iff_iff]
 simp [z1g, hoRow, hoR, inS]
abbrev t11 : List UInt8 := [105, 32, 37, 32, 49, 48, 48, 32, 61, 32, 49]
abbrev t11R : Rule := [[⟨100, false, [⟨1, 1⟩]⟩]]
theorem z6f : ruleF t11 (0, false) = (t11R, (11, false)) := by kernel_rfl
theorem t11_tx : z0h t11R = t11 := by simp [z0h, txRow, joinF, txR, txS, it_1, z5f]
theorem t11_rg : z0x t11R = true := by decide
theorem t11_p : (z03 t11).1 = t11R := by
 have h := z0u (l := t11) (by decide) (by rw [z6f]) (by rw [z6f]; exact t11_rg) (by rw [z6f]; exact t11_tx)
 rw [h, z6f]
theorem t11_h (n i : Int) (hi : absF n = i) : hB (z03 t11).1 n = decide ((((1 <= (i % 100) /\ (i % 100) <= 1)))) := by
 rw [t11_p, hB, t11_rg, Bool.true_and, hi, Bool.eq_iff_iff]
 simp [z1g, hoRow, hoR, inS]
abbrev t12 : List UInt8 := [105, 32, 37, 32, 49, 48, 48, 32, 61, 32, 50]
abbrev t12R : Rule := [[⟨100, false, [⟨2, 2⟩]⟩]]
theorem z6e : ruleF t12 (0, false) = (t12R, (11, false)) := by kernel_rfl
theorem t12_tx : z0h t12R = t12 := by simp [z0h, txRow, joinF, txR, txS, it_2, z5f]
theorem t12_rg : z0x t12R = true := by decide
theorem t12_p : (z03 t12).1 = t12R := by
 have h := z0u (l := t12) (by decide) (by rw [z6e]) (by rw [z6e]; exact t12_rg) (by rw [z6e]; exact t12_tx)
 rw [h, z6e]
theorem t12_h (n i : Int) (hi : absF n = i) : hB (z03 t12).1 n = decide ((((2 <= (i % 100) /\ (i % 100) <= 2)))) := by
 rw [t12_p, hB, t12_rg, Bool.true_and, hi, Bool.eq_iff_iff]
 simp [z1g, hoRow, hoR, inS]
abbrev t13 : List UInt8 := [105, 32, 37, 32, 49, 48, 48, 32, 61, 32, 51, 44, 52]
abbrev t13R : Rule := [[⟨100, false, [⟨3, 3⟩, ⟨4, 4⟩]⟩]]
theorem z6d : ruleF t13 (0, false) = (t13R, (13, false)) := by kernel_rfl
theorem t13_tx : z0h t13R = t13 := by simp [z0h, txRow, joinF, txR, txS, it_3, it_4, z5f]
theorem t13_rg : z0x t13R = true := by decide
theorem t13_p : (z03 t13).1 = t13R := by
 have h := z0u (l := t13) (by decide) (by rw [z6d]) (by rw [z6d]; exact t13_rg) (by rw [z6d]; exact t13_tx)
 rw [h, z6d]
theorem t13_h (n i : Int) (hi : absF n = i) : hB (z03 t13).1 n = decide ((((3 <= (i % 100) /\ (i % 100) <= 3) ∨ (4 <= (i % 100) /\ (i % 100) <= 4)))) := by
 rw [t13_p, hB, t13_rg, Bool.true_and, hi, Bool.eq_iff_iff]
 simp [z1g, hoRow, hoR, inS]
abbrev t14 : List UInt8 := [105, 32, 61, 32, 51]
abbrev t14R : Rule := [[⟨0, false, [⟨3, 3⟩]⟩]]
theorem z6c : ruleF t14 (0, false) = (t14R, (5, false)) := by kernel_rfl
theorem t14_tx : z0h t14R = t14 := by simp [z0h, txRow, joinF, txR, txS, it_3]
theorem t14_rg : z0x t14R = true := by decide
theorem t14_p : (z03 t14).1 = t14R := by
 have h := z0u (l := t14) (by decide) (by rw [z6c]) (by rw [z6c]; exact t14_rg) (by rw [z6c]; exact t14_tx)
 rw [h, z6c]
theorem t14_h (n i : Int) (hi : absF n = i) : hB (z03 t14).1 n = decide ((((3 <= i /\ i <= 3)))) := by
 rw [t14_p, hB, t14_rg, Bool.true_and, hi, Bool.eq_iff_iff]
 simp [z1g, hoRow, hoR, inS]
abbrev t15 : List UInt8 := [105, 32, 61, 32, 54]
abbrev t15R : Rule := [[⟨0, false, [⟨6, 6⟩]⟩]]
theorem z6b : ruleF t15 (0, false) = (t15R, (5, false)) := by kernel_rfl
theorem t15_tx : z0h t15R = t15 := by simp [z0h, txRow, joinF, txR, txS, it_6]
theorem t15_rg : z0x t15R = true := by decide
theorem t15_p : (z03 t15).1 = t15R := by
 have h := z0u (l := t15) (by decide) (by rw [z6b]) (by rw [z6b]; exact t15_rg) (by rw [z6b]; exact t15_tx)
 rw [h, z6b]
theorem t15_h (n i : Int) (hi : absF n = i) : hB (z03 t15).1 n = decide ((((6 <= i /\ i <= 6)))) := by
 rw [t15_p, hB, t15_rg, Bool.true_and, hi, Bool.eq_iff_iff]
 simp [z1g, hoRow, hoR, inS]
end Go.Proofs.YtdnedbcmgkilaaaGreatDoor.Pu

end
