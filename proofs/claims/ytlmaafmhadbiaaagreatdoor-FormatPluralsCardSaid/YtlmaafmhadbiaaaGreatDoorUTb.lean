/- The table of languages. -/
import Derived.Test.YtlmaafmhadbiaaaGreatDoorUCt
namespace Go.Proofs.YtlmaafmhadbiaaaGreatDoor.Pu
open Go.RowKit

abbrev tab_en : List (BA × List UInt8) := [(⟨#[111, 110, 101]⟩, [105, 32, 61, 32, 49])]
abbrev tab_de : List (BA × List UInt8) := [(⟨#[111, 110, 101]⟩, [105, 32, 61, 32, 49])]
abbrev tab_fr : List (BA × List UInt8) := [(⟨#[111, 110, 101]⟩, [105, 32, 61, 32, 48, 44, 49])]
abbrev tab_ru : List (BA × List UInt8) := [(⟨#[111, 110, 101]⟩, [105, 32, 37, 32, 49, 48, 32, 61, 32, 49, 32, 97, 110, 100, 32, 105, 32, 37, 32, 49, 48, 48, 32, 33, 61, 32, 49, 49]), (⟨#[102, 101, 119]⟩, [105, 32, 37, 32, 49, 48, 32, 61, 32, 50, 46, 46, 52, 32, 97, 110, 100, 32, 105, 32, 37, 32, 49, 48, 48, 32, 33, 61, 32, 49, 50, 46, 46, 49, 52]), (⟨#[109, 97, 110, 121]⟩, [105, 32, 37, 32, 49, 48, 32, 61, 32, 48, 44, 53, 46, 46, 57, 32, 111, 114, 32, 105, 32, 37, 32, 49, 48, 48, 32, 61, 32, 49, 49, 46, 46, 49, 52])]
abbrev tab_pl : List (BA × List UInt8) := [(⟨#[111, 110, 101]⟩, [105, 32, 61, 32, 49]), (⟨#[102, 101, 119]⟩, [105, 32, 37, 32, 49, 48, 32, 61, 32, 50, 46, 46, 52, 32, 97, 110, 100, 32, 105, 32, 37, 32, 49, 48, 48, 32, 33, 61, 32, 49, 50, 46, 46, 49, 52]), (⟨#[109, 97, 110, 121]⟩, [105, 32, 37, 32, 49, 48, 32, 61, 32, 48, 44, 49, 44, 53, 46, 46, 57, 32, 111, 114, 32, 105, 32, 37, 32, 49, 48, 48, 32, 61, 32, 49, 50, 46, 46, 49, 52])]
abbrev tab_cs : List (BA × List UInt8) := [(⟨#[111, 110, 101]⟩, [105, 32, 61, 32, 49]), (⟨#[102, 101, 119]⟩, [105, 32, 61, 32, 50, 46, 46, 52])]
abbrev tab_ar : List (BA × List UInt8) := [(⟨#[122, 101, 114, 111]⟩, [105, 32, 61, 32, 48]), (⟨#[111, 110, 101]⟩, [105, 32, 61, 32, 49]), (⟨#[116, 119, 111]⟩, [105, 32, 61, 32, 50]), (⟨#[102, 101, 119]⟩, [105, 32, 37, 32, 49, 48, 48, 32, 61, 32, 51, 46, 46, 49, 48]), (⟨#[109, 97, 110, 121]⟩, [105, 32, 37, 32, 49, 48, 48, 32, 61, 32, 49, 49, 46, 46, 57, 57])]
abbrev tab_sl : List (BA × List UInt8) := [(⟨#[111, 110, 101]⟩, [105, 32, 37, 32, 49, 48, 48, 32, 61, 32, 49]), (⟨#[116, 119, 111]⟩, [105, 32, 37, 32, 49, 48, 48, 32, 61, 32, 50]), (⟨#[102, 101, 119]⟩, [105, 32, 37, 32, 49, 48, 48, 32, 61, 32, 51, 44, 52])]
abbrev tab_cy : List (BA × List UInt8) := [(⟨#[122, 101, 114, 111]⟩, [105, 32, 61, 32, 48]), (⟨#[111, 110, 101]⟩, [105, 32, 61, 32, 49]), (⟨#[116, 119, 111]⟩, [105, 32, 61, 32, 50]), (⟨#[102, 101, 119]⟩, [105, 32, 61, 32, 51]), (⟨#[109, 97, 110, 121]⟩, [105, 32, 61, 32, 54])]
/-- The table: names and rules' texts. -/
def tabF (g : BA) : List (BA × List UInt8) :=
  if g = ⟨#[101, 110]⟩ then tab_en else
  if g = ⟨#[100, 101]⟩ then tab_de else
  if g = ⟨#[102, 114]⟩ then tab_fr else
  if g = ⟨#[114, 117]⟩ then tab_ru else
  if g = ⟨#[112, 108]⟩ then tab_pl else
  if g = ⟨#[99, 115]⟩ then tab_cs else
  if g = ⟨#[97, 114]⟩ then tab_ar else
  if g = ⟨#[115, 108]⟩ then tab_sl else
  if g = ⟨#[99, 121]⟩ then tab_cy else
  []
/-- The categories with their rules. -/
def catsOf (l : List (BA × List UInt8)) : List (BA × Rule) := l.map fun x => (x.1, (parseF x.2).1)
def TPost (g : BA) (w : World) (e : Ending) (w' : World) : Prop := ∃ a cap, e = .returned (.slice a (tabF g).length cap) ∧ SlC w' (Old w') (.slice a (catsOf (tabF g)).length cap) (catsOf (tabF g)) ∧ Below w.heap.size w w'
theorem cc_of {w w1 : World} {nm : BA} {t : List UInt8} {a : Option Addr} {cap n : Nat} (hn : n = (parseF t).1.length) (h : SlW w (Ty [130, 102, 76] w) (.slice a (parseF t).1.length cap) (parseF t).1) (hb : Below w.heap.size w w1) : CC w1 (Old w1) (nm, (parseF t).1) [.string nm, .slice a n cap] :=
  ⟨_, rfl, by rw [hn]; exact h.old.below hb⟩
theorem tpost_of {w w1 : World} {g : BA} {l : List (BA × List UInt8)} {cs : Array Value} {n : Nat} (hg : tabF g = l) (hn : n = l.length) (hs : cs.size = n * 2) (hm : n ≤ 9223372036854775807) (hb : Below w.heap.size w w1) (hc : Cat 2 (CC w1 (Old w1)) (catsOf l) cs.toList) :
    TPost g w (.returned (.slice (some ⟨w1.heap.size, 0, none⟩) n n)) (w1.alloc (.cells cs 52)) := by
  unfold TPost
  rw [hg]
  have hl : (catsOf l).length = n := by rw [hn]; simp [catsOf]
  refine ⟨_, n, by rw [hn], ?_, below_trans hb (below1 _ _)⟩
  have ho := owns_lit w1 cs 52 0 n 2 hs (Nat.zero_le _) hm
  rw [← hl] at ho
  have := Sl.of_owns (S := Old (w1.alloc (.cells cs 52))) ho (hc.mono (C' := CC (w1.alloc (.cells cs 52)) (Old (w1.alloc (.cells cs 52)))) (fun _ _ h => CC.keep (fun b h => Below.heap_alloc _ _ _ h) (fun b h => by show b < _; rw [World.size_alloc]; exact Nat.lt_succ_of_lt h) h)) (fun b cs z h => (Array.getElem?_eq_some_iff.1 h).1)
  rw [hl] at this ⊢
  exact this

set_option maxHeartbeats 3200000 in
set_option maxRecDepth 100000 in
theorem table_en (w : World) (ht : TabW w) : Calls Tryz.prog 15 #[.string ⟨#[101, 110]⟩] w (TPost ⟨#[101, 110]⟩ w) := by
  have HT := Lib.hid ht
  have HG : Hid (tabF ⟨#[101, 110]⟩ = tab_en) := Lib.hid (by decide)
  clear ht
  have HB0 := Lib.hid (Below.refl w.heap.size w)
  have HC := Lib.hid (cat_any w ⟨#[111, 110, 101]⟩ ⟨#[105, 32, 61, 32, 49]⟩ (by decide) HT.out)
  go_enter Tryz.func15, Tryz.ntmps15
  go_wp2_with fail
  refine HC.out.mono ?_
  rintro e w1 ⟨a1, p1, rfl, hsl, hb⟩
  have HSL1 := Lib.hid hsl
  have HB1 := Lib.hid (below_trans HB0.out hb)
  clear hb hsl HC
  obtain ⟨n1, HL1⟩ : ∃ n, Hid (n = (parseF [105, 32, 61, 32, 49]).1.length) := ⟨_, Lib.hid rfl⟩
  rw [← HL1.out]
  go_wp2
  go_ret
  exact tpost_of (cs := #[.string ⟨#[111, 110, 101]⟩, .slice a1 n1 p1]) HG.out rfl rfl (by decide) HB1.out ⟨_, _, rfl, rfl, cc_of HL1.out HSL1.out (Below.refl _ _), rfl⟩

set_option maxHeartbeats 3200000 in
set_option maxRecDepth 100000 in
theorem table_de (w : World) (ht : TabW w) : Calls Tryz.prog 15 #[.string ⟨#[100, 101]⟩] w (TPost ⟨#[100, 101]⟩ w) := by
  have HT := Lib.hid ht
  have HG : Hid (tabF ⟨#[100, 101]⟩ = tab_de) := Lib.hid (by decide)
  clear ht
  have HB0 := Lib.hid (Below.refl w.heap.size w)
  have HC := Lib.hid (cat_any w ⟨#[111, 110, 101]⟩ ⟨#[105, 32, 61, 32, 49]⟩ (by decide) HT.out)
  go_enter Tryz.func15, Tryz.ntmps15
  go_wp2_with fail
  refine HC.out.mono ?_
  rintro e w1 ⟨a1, p1, rfl, hsl, hb⟩
  have HSL1 := Lib.hid hsl
  have HB1 := Lib.hid (below_trans HB0.out hb)
  clear hb hsl HC
  obtain ⟨n1, HL1⟩ : ∃ n, Hid (n = (parseF [105, 32, 61, 32, 49]).1.length) := ⟨_, Lib.hid rfl⟩
  rw [← HL1.out]
  go_wp2
  go_ret
  exact tpost_of (cs := #[.string ⟨#[111, 110, 101]⟩, .slice a1 n1 p1]) HG.out rfl rfl (by decide) HB1.out ⟨_, _, rfl, rfl, cc_of HL1.out HSL1.out (Below.refl _ _), rfl⟩

set_option maxHeartbeats 3200000 in
set_option maxRecDepth 100000 in
theorem table_fr (w : World) (ht : TabW w) : Calls Tryz.prog 15 #[.string ⟨#[102, 114]⟩] w (TPost ⟨#[102, 114]⟩ w) := by
  have HT := Lib.hid ht
  have HG : Hid (tabF ⟨#[102, 114]⟩ = tab_fr) := Lib.hid (by decide)
  clear ht
  have HB0 := Lib.hid (Below.refl w.heap.size w)
  have HC := Lib.hid (cat_any w ⟨#[111, 110, 101]⟩ ⟨#[105, 32, 61, 32, 48, 44, 49]⟩ (by decide) HT.out)
  go_enter Tryz.func15, Tryz.ntmps15
  go_wp2_with fail
  refine HC.out.mono ?_
  rintro e w1 ⟨a1, p1, rfl, hsl, hb⟩
  have HSL1 := Lib.hid hsl
  have HB1 := Lib.hid (below_trans HB0.out hb)
  clear hb hsl HC
  obtain ⟨n1, HL1⟩ : ∃ n, Hid (n = (parseF [105, 32, 61, 32, 48, 44, 49]).1.length) := ⟨_, Lib.hid rfl⟩
  rw [← HL1.out]
  go_wp2
  go_ret
  exact tpost_of (cs := #[.string ⟨#[111, 110, 101]⟩, .slice a1 n1 p1]) HG.out rfl rfl (by decide) HB1.out ⟨_, _, rfl, rfl, cc_of HL1.out HSL1.out (Below.refl _ _), rfl⟩

set_option maxHeartbeats 3200000 in
set_option maxRecDepth 100000 in
theorem table_ru (w : World) (ht : TabW w) : Calls Tryz.prog 15 #[.string ⟨#[114, 117]⟩] w (TPost ⟨#[114, 117]⟩ w) := by
  have HT := Lib.hid ht
  have HG : Hid (tabF ⟨#[114, 117]⟩ = tab_ru) := Lib.hid (by decide)
  clear ht
  have HB0 := Lib.hid (Below.refl w.heap.size w)
  have HC := Lib.hid (cat_any w ⟨#[111, 110, 101]⟩ ⟨#[105, 32, 37, 32, 49, 48, 32, 61, 32, 49, 32, 97, 110, 100, 32, 105, 32, 37, 32, 49, 48, 48, 32, 33, 61, 32, 49, 49]⟩ (by decide) HT.out)
  go_enter Tryz.func15, Tryz.ntmps15
  go_wp2_with fail
  refine HC.out.mono ?_
  rintro e w1 ⟨a1, p1, rfl, hsl, hb⟩
  have HSL1 := Lib.hid hsl
  have HB1 := Lib.hid (below_trans HB0.out hb)
  clear hb hsl HC
  obtain ⟨n1, HL1⟩ : ∃ n, Hid (n = (parseF [105, 32, 37, 32, 49, 48, 32, 61, 32, 49, 32, 97, 110, 100, 32, 105, 32, 37, 32, 49, 48, 48, 32, 33, 61, 32, 49, 49]).1.length) := ⟨_, Lib.hid rfl⟩
  rw [← HL1.out]
  have HC := Lib.hid (cat_any w1 ⟨#[102, 101, 119]⟩ ⟨#[105, 32, 37, 32, 49, 48, 32, 61, 32, 50, 46, 46, 52, 32, 97, 110, 100, 32, 105, 32, 37, 32, 49, 48, 48, 32, 33, 61, 32, 49, 50, 46, 46, 49, 52]⟩ (by decide) (HT.out.below HB1.out))
  go_wp2_with fail
  refine HC.out.mono ?_
  rintro e w2 ⟨a2, p2, rfl, hsl, hb⟩
  have HSL2 := Lib.hid hsl
  have HB2 := Lib.hid (below_trans HB1.out hb)
  have HX1_2 := Lib.hid hb
  clear hb hsl HC
  obtain ⟨n2, HL2⟩ : ∃ n, Hid (n = (parseF [105, 32, 37, 32, 49, 48, 32, 61, 32, 50, 46, 46, 52, 32, 97, 110, 100, 32, 105, 32, 37, 32, 49, 48, 48, 32, 33, 61, 32, 49, 50, 46, 46, 49, 52]).1.length) := ⟨_, Lib.hid rfl⟩
  rw [← HL2.out]
  have HC := Lib.hid (cat_any w2 ⟨#[109, 97, 110, 121]⟩ ⟨#[105, 32, 37, 32, 49, 48, 32, 61, 32, 48, 44, 53, 46, 46, 57, 32, 111, 114, 32, 105, 32, 37, 32, 49, 48, 48, 32, 61, 32, 49, 49, 46, 46, 49, 52]⟩ (by decide) (HT.out.below HB2.out))
  go_wp2_with fail
  refine HC.out.mono ?_
  rintro e w3 ⟨a3, p3, rfl, hsl, hb⟩
  have HSL3 := Lib.hid hsl
  have HB3 := Lib.hid (below_trans HB2.out hb)
  have HX1_3 := Lib.hid (below_trans HX1_2.out hb)
  have HX2_3 := Lib.hid hb
  clear hb hsl HC
  obtain ⟨n3, HL3⟩ : ∃ n, Hid (n = (parseF [105, 32, 37, 32, 49, 48, 32, 61, 32, 48, 44, 53, 46, 46, 57, 32, 111, 114, 32, 105, 32, 37, 32, 49, 48, 48, 32, 61, 32, 49, 49, 46, 46, 49, 52]).1.length) := ⟨_, Lib.hid rfl⟩
  rw [← HL3.out]
  go_wp2
  go_ret
  exact tpost_of (cs := #[.string ⟨#[111, 110, 101]⟩, .slice a1 n1 p1, .string ⟨#[102, 101, 119]⟩, .slice a2 n2 p2, .string ⟨#[109, 97, 110, 121]⟩, .slice a3 n3 p3]) HG.out rfl rfl (by decide) HB3.out ⟨_, _, rfl, rfl, cc_of HL1.out HSL1.out HX1_3.out, ⟨_, _, rfl, rfl, cc_of HL2.out HSL2.out HX2_3.out, ⟨_, _, rfl, rfl, cc_of HL3.out HSL3.out (Below.refl _ _), rfl⟩⟩⟩

set_option maxHeartbeats 3200000 in
set_option maxRecDepth 100000 in
theorem table_pl (w : World) (ht : TabW w) : Calls Tryz.prog 15 #[.string ⟨#[112, 108]⟩] w (TPost ⟨#[112, 108]⟩ w) := by
  have HT := Lib.hid ht
  have HG : Hid (tabF ⟨#[112, 108]⟩ = tab_pl) := Lib.hid (by decide)
  clear ht
  have HB0 := Lib.hid (Below.refl w.heap.size w)
  have HC := Lib.hid (cat_any w ⟨#[111, 110, 101]⟩ ⟨#[105, 32, 61, 32, 49]⟩ (by decide) HT.out)
  go_enter Tryz.func15, Tryz.ntmps15
  go_wp2_with fail
  refine HC.out.mono ?_
  rintro e w1 ⟨a1, p1, rfl, hsl, hb⟩
  have HSL1 := Lib.hid hsl
  have HB1 := Lib.hid (below_trans HB0.out hb)
  clear hb hsl HC
  obtain ⟨n1, HL1⟩ : ∃ n, Hid (n = (parseF [105, 32, 61, 32, 49]).1.length) := ⟨_, Lib.hid rfl⟩
  rw [← HL1.out]
  have HC := Lib.hid (cat_any w1 ⟨#[102, 101, 119]⟩ ⟨#[105, 32, 37, 32, 49, 48, 32, 61, 32, 50, 46, 46, 52, 32, 97, 110, 100, 32, 105, 32, 37, 32, 49, 48, 48, 32, 33, 61, 32, 49, 50, 46, 46, 49, 52]⟩ (by decide) (HT.out.below HB1.out))
  go_wp2_with fail
  refine HC.out.mono ?_
  rintro e w2 ⟨a2, p2, rfl, hsl, hb⟩
  have HSL2 := Lib.hid hsl
  have HB2 := Lib.hid (below_trans HB1.out hb)
  have HX1_2 := Lib.hid hb
  clear hb hsl HC
  obtain ⟨n2, HL2⟩ : ∃ n, Hid (n = (parseF [105, 32, 37, 32, 49, 48, 32, 61, 32, 50, 46, 46, 52, 32, 97, 110, 100, 32, 105, 32, 37, 32, 49, 48, 48, 32, 33, 61, 32, 49, 50, 46, 46, 49, 52]).1.length) := ⟨_, Lib.hid rfl⟩
  rw [← HL2.out]
  have HC := Lib.hid (cat_any w2 ⟨#[109, 97, 110, 121]⟩ ⟨#[105, 32, 37, 32, 49, 48, 32, 61, 32, 48, 44, 49, 44, 53, 46, 46, 57, 32, 111, 114, 32, 105, 32, 37, 32, 49, 48, 48, 32, 61, 32, 49, 50, 46, 46, 49, 52]⟩ (by decide) (HT.out.below HB2.out))
  go_wp2_with fail
  refine HC.out.mono ?_
  rintro e w3 ⟨a3, p3, rfl, hsl, hb⟩
  have HSL3 := Lib.hid hsl
  have HB3 := Lib.hid (below_trans HB2.out hb)
  have HX1_3 := Lib.hid (below_trans HX1_2.out hb)
  have HX2_3 := Lib.hid hb
  clear hb hsl HC
  obtain ⟨n3, HL3⟩ : ∃ n, Hid (n = (parseF [105, 32, 37, 32, 49, 48, 32, 61, 32, 48, 44, 49, 44, 53, 46, 46, 57, 32, 111, 114, 32, 105, 32, 37, 32, 49, 48, 48, 32, 61, 32, 49, 50, 46, 46, 49, 52]).1.length) := ⟨_, Lib.hid rfl⟩
  rw [← HL3.out]
  go_wp2
  go_ret
  exact tpost_of (cs := #[.string ⟨#[111, 110, 101]⟩, .slice a1 n1 p1, .string ⟨#[102, 101, 119]⟩, .slice a2 n2 p2, .string ⟨#[109, 97, 110, 121]⟩, .slice a3 n3 p3]) HG.out rfl rfl (by decide) HB3.out ⟨_, _, rfl, rfl, cc_of HL1.out HSL1.out HX1_3.out, ⟨_, _, rfl, rfl, cc_of HL2.out HSL2.out HX2_3.out, ⟨_, _, rfl, rfl, cc_of HL3.out HSL3.out (Below.refl _ _), rfl⟩⟩⟩

set_option maxHeartbeats 3200000 in
set_option maxRecDepth 100000 in
theorem table_cs (w : World) (ht : TabW w) : Calls Tryz.prog 15 #[.string ⟨#[99, 115]⟩] w (TPost ⟨#[99, 115]⟩ w) := by
  have HT := Lib.hid ht
  have HG : Hid (tabF ⟨#[99, 115]⟩ = tab_cs) := Lib.hid (by decide)
  clear ht
  have HB0 := Lib.hid (Below.refl w.heap.size w)
  have HC := Lib.hid (cat_any w ⟨#[111, 110, 101]⟩ ⟨#[105, 32, 61, 32, 49]⟩ (by decide) HT.out)
  go_enter Tryz.func15, Tryz.ntmps15
  go_wp2_with fail
  refine HC.out.mono ?_
  rintro e w1 ⟨a1, p1, rfl, hsl, hb⟩
  have HSL1 := Lib.hid hsl
  have HB1 := Lib.hid (below_trans HB0.out hb)
  clear hb hsl HC
  obtain ⟨n1, HL1⟩ : ∃ n, Hid (n = (parseF [105, 32, 61, 32, 49]).1.length) := ⟨_, Lib.hid rfl⟩
  rw [← HL1.out]
  have HC := Lib.hid (cat_any w1 ⟨#[102, 101, 119]⟩ ⟨#[105, 32, 61, 32, 50, 46, 46, 52]⟩ (by decide) (HT.out.below HB1.out))
  go_wp2_with fail
  refine HC.out.mono ?_
  rintro e w2 ⟨a2, p2, rfl, hsl, hb⟩
  have HSL2 := Lib.hid hsl
  have HB2 := Lib.hid (below_trans HB1.out hb)
  have HX1_2 := Lib.hid hb
  clear hb hsl HC
  obtain ⟨n2, HL2⟩ : ∃ n, Hid (n = (parseF [105, 32, 61, 32, 50, 46, 46, 52]).1.length) := ⟨_, Lib.hid rfl⟩
  rw [← HL2.out]
  go_wp2
  go_ret
  exact tpost_of (cs := #[.string ⟨#[111, 110, 101]⟩, .slice a1 n1 p1, .string ⟨#[102, 101, 119]⟩, .slice a2 n2 p2]) HG.out rfl rfl (by decide) HB2.out ⟨_, _, rfl, rfl, cc_of HL1.out HSL1.out HX1_2.out, ⟨_, _, rfl, rfl, cc_of HL2.out HSL2.out (Below.refl _ _), rfl⟩⟩

set_option maxHeartbeats 3200000 in
set_option maxRecDepth 100000 in
theorem table_ar (w : World) (ht : TabW w) : Calls Tryz.prog 15 #[.string ⟨#[97, 114]⟩] w (TPost ⟨#[97, 114]⟩ w) := by
  have HT := Lib.hid ht
  have HG : Hid (tabF ⟨#[97, 114]⟩ = tab_ar) := Lib.hid (by decide)
  clear ht
  have HB0 := Lib.hid (Below.refl w.heap.size w)
  have HC := Lib.hid (cat_any w ⟨#[122, 101, 114, 111]⟩ ⟨#[105, 32, 61, 32, 48]⟩ (by decide) HT.out)
  go_enter Tryz.func15, Tryz.ntmps15
  go_wp2_with fail
  refine HC.out.mono ?_
  rintro e w1 ⟨a1, p1, rfl, hsl, hb⟩
  have HSL1 := Lib.hid hsl
  have HB1 := Lib.hid (below_trans HB0.out hb)
  clear hb hsl HC
  obtain ⟨n1, HL1⟩ : ∃ n, Hid (n = (parseF [105, 32, 61, 32, 48]).1.length) := ⟨_, Lib.hid rfl⟩
  rw [← HL1.out]
  have HC := Lib.hid (cat_any w1 ⟨#[111, 110, 101]⟩ ⟨#[105, 32, 61, 32, 49]⟩ (by decide) (HT.out.below HB1.out))
  go_wp2_with fail
  refine HC.out.mono ?_
  rintro e w2 ⟨a2, p2, rfl, hsl, hb⟩
  have HSL2 := Lib.hid hsl
  have HB2 := Lib.hid (below_trans HB1.out hb)
  have HX1_2 := Lib.hid hb
  clear hb hsl HC
  obtain ⟨n2, HL2⟩ : ∃ n, Hid (n = (parseF [105, 32, 61, 32, 49]).1.length) := ⟨_, Lib.hid rfl⟩
  rw [← HL2.out]
  have HC := Lib.hid (cat_any w2 ⟨#[116, 119, 111]⟩ ⟨#[105, 32, 61, 32, 50]⟩ (by decide) (HT.out.below HB2.out))
  go_wp2_with fail
  refine HC.out.mono ?_
  rintro e w3 ⟨a3, p3, rfl, hsl, hb⟩
  have HSL3 := Lib.hid hsl
  have HB3 := Lib.hid (below_trans HB2.out hb)
  have HX1_3 := Lib.hid (below_trans HX1_2.out hb)
  have HX2_3 := Lib.hid hb
  clear hb hsl HC
  obtain ⟨n3, HL3⟩ : ∃ n, Hid (n = (parseF [105, 32, 61, 32, 50]).1.length) := ⟨_, Lib.hid rfl⟩
  rw [← HL3.out]
  have HC := Lib.hid (cat_any w3 ⟨#[102, 101, 119]⟩ ⟨#[105, 32, 37, 32, 49, 48, 48, 32, 61, 32, 51, 46, 46, 49, 48]⟩ (by decide) (HT.out.below HB3.out))
  go_wp2_with fail
  refine HC.out.mono ?_
  rintro e w4 ⟨a4, p4, rfl, hsl, hb⟩
  have HSL4 := Lib.hid hsl
  have HB4 := Lib.hid (below_trans HB3.out hb)
  have HX1_4 := Lib.hid (below_trans HX1_3.out hb)
  have HX2_4 := Lib.hid (below_trans HX2_3.out hb)
  have HX3_4 := Lib.hid hb
  clear hb hsl HC
  obtain ⟨n4, HL4⟩ : ∃ n, Hid (n = (parseF [105, 32, 37, 32, 49, 48, 48, 32, 61, 32, 51, 46, 46, 49, 48]).1.length) := ⟨_, Lib.hid rfl⟩
  rw [← HL4.out]
  have HC := Lib.hid (cat_any w4 ⟨#[109, 97, 110, 121]⟩ ⟨#[105, 32, 37, 32, 49, 48, 48, 32, 61, 32, 49, 49, 46, 46, 57, 57]⟩ (by decide) (HT.out.below HB4.out))
  go_wp2_with fail
  refine HC.out.mono ?_
  rintro e w5 ⟨a5, p5, rfl, hsl, hb⟩
  have HSL5 := Lib.hid hsl
  have HB5 := Lib.hid (below_trans HB4.out hb)
  have HX1_5 := Lib.hid (below_trans HX1_4.out hb)
  have HX2_5 := Lib.hid (below_trans HX2_4.out hb)
  have HX3_5 := Lib.hid (below_trans HX3_4.out hb)
  have HX4_5 := Lib.hid hb
  clear hb hsl HC
  obtain ⟨n5, HL5⟩ : ∃ n, Hid (n = (parseF [105, 32, 37, 32, 49, 48, 48, 32, 61, 32, 49, 49, 46, 46, 57, 57]).1.length) := ⟨_, Lib.hid rfl⟩
  rw [← HL5.out]
  go_wp2
  go_ret
  exact tpost_of (cs := #[.string ⟨#[122, 101, 114, 111]⟩, .slice a1 n1 p1, .string ⟨#[111, 110, 101]⟩, .slice a2 n2 p2, .string ⟨#[116, 119, 111]⟩, .slice a3 n3 p3, .string ⟨#[102, 101, 119]⟩, .slice a4 n4 p4, .string ⟨#[109, 97, 110, 121]⟩, .slice a5 n5 p5]) HG.out rfl rfl (by decide) HB5.out ⟨_, _, rfl, rfl, cc_of HL1.out HSL1.out HX1_5.out, ⟨_, _, rfl, rfl, cc_of HL2.out HSL2.out HX2_5.out, ⟨_, _, rfl, rfl, cc_of HL3.out HSL3.out HX3_5.out, ⟨_, _, rfl, rfl, cc_of HL4.out HSL4.out HX4_5.out, ⟨_, _, rfl, rfl, cc_of HL5.out HSL5.out (Below.refl _ _), rfl⟩⟩⟩⟩⟩

set_option maxHeartbeats 3200000 in
set_option maxRecDepth 100000 in
theorem table_sl (w : World) (ht : TabW w) : Calls Tryz.prog 15 #[.string ⟨#[115, 108]⟩] w (TPost ⟨#[115, 108]⟩ w) := by
  have HT := Lib.hid ht
  have HG : Hid (tabF ⟨#[115, 108]⟩ = tab_sl) := Lib.hid (by decide)
  clear ht
  have HB0 := Lib.hid (Below.refl w.heap.size w)
  have HC := Lib.hid (cat_any w ⟨#[111, 110, 101]⟩ ⟨#[105, 32, 37, 32, 49, 48, 48, 32, 61, 32, 49]⟩ (by decide) HT.out)
  go_enter Tryz.func15, Tryz.ntmps15
  go_wp2_with fail
  refine HC.out.mono ?_
  rintro e w1 ⟨a1, p1, rfl, hsl, hb⟩
  have HSL1 := Lib.hid hsl
  have HB1 := Lib.hid (below_trans HB0.out hb)
  clear hb hsl HC
  obtain ⟨n1, HL1⟩ : ∃ n, Hid (n = (parseF [105, 32, 37, 32, 49, 48, 48, 32, 61, 32, 49]).1.length) := ⟨_, Lib.hid rfl⟩
  rw [← HL1.out]
  have HC := Lib.hid (cat_any w1 ⟨#[116, 119, 111]⟩ ⟨#[105, 32, 37, 32, 49, 48, 48, 32, 61, 32, 50]⟩ (by decide) (HT.out.below HB1.out))
  go_wp2_with fail
  refine HC.out.mono ?_
  rintro e w2 ⟨a2, p2, rfl, hsl, hb⟩
  have HSL2 := Lib.hid hsl
  have HB2 := Lib.hid (below_trans HB1.out hb)
  have HX1_2 := Lib.hid hb
  clear hb hsl HC
  obtain ⟨n2, HL2⟩ : ∃ n, Hid (n = (parseF [105, 32, 37, 32, 49, 48, 48, 32, 61, 32, 50]).1.length) := ⟨_, Lib.hid rfl⟩
  rw [← HL2.out]
  have HC := Lib.hid (cat_any w2 ⟨#[102, 101, 119]⟩ ⟨#[105, 32, 37, 32, 49, 48, 48, 32, 61, 32, 51, 44, 52]⟩ (by decide) (HT.out.below HB2.out))
  go_wp2_with fail
  refine HC.out.mono ?_
  rintro e w3 ⟨a3, p3, rfl, hsl, hb⟩
  have HSL3 := Lib.hid hsl
  have HB3 := Lib.hid (below_trans HB2.out hb)
  have HX1_3 := Lib.hid (below_trans HX1_2.out hb)
  have HX2_3 := Lib.hid hb
  clear hb hsl HC
  obtain ⟨n3, HL3⟩ : ∃ n, Hid (n = (parseF [105, 32, 37, 32, 49, 48, 48, 32, 61, 32, 51, 44, 52]).1.length) := ⟨_, Lib.hid rfl⟩
  rw [← HL3.out]
  go_wp2
  go_ret
  exact tpost_of (cs := #[.string ⟨#[111, 110, 101]⟩, .slice a1 n1 p1, .string ⟨#[116, 119, 111]⟩, .slice a2 n2 p2, .string ⟨#[102, 101, 119]⟩, .slice a3 n3 p3]) HG.out rfl rfl (by decide) HB3.out ⟨_, _, rfl, rfl, cc_of HL1.out HSL1.out HX1_3.out, ⟨_, _, rfl, rfl, cc_of HL2.out HSL2.out HX2_3.out, ⟨_, _, rfl, rfl, cc_of HL3.out HSL3.out (Below.refl _ _), rfl⟩⟩⟩

set_option maxHeartbeats 3200000 in
set_option maxRecDepth 100000 in
theorem table_cy (w : World) (ht : TabW w) : Calls Tryz.prog 15 #[.string ⟨#[99, 121]⟩] w (TPost ⟨#[99, 121]⟩ w) := by
  have HT := Lib.hid ht
  have HG : Hid (tabF ⟨#[99, 121]⟩ = tab_cy) := Lib.hid (by decide)
  clear ht
  have HB0 := Lib.hid (Below.refl w.heap.size w)
  have HC := Lib.hid (cat_any w ⟨#[122, 101, 114, 111]⟩ ⟨#[105, 32, 61, 32, 48]⟩ (by decide) HT.out)
  go_enter Tryz.func15, Tryz.ntmps15
  go_wp2_with fail
  refine HC.out.mono ?_
  rintro e w1 ⟨a1, p1, rfl, hsl, hb⟩
  have HSL1 := Lib.hid hsl
  have HB1 := Lib.hid (below_trans HB0.out hb)
  clear hb hsl HC
  obtain ⟨n1, HL1⟩ : ∃ n, Hid (n = (parseF [105, 32, 61, 32, 48]).1.length) := ⟨_, Lib.hid rfl⟩
  rw [← HL1.out]
  have HC := Lib.hid (cat_any w1 ⟨#[111, 110, 101]⟩ ⟨#[105, 32, 61, 32, 49]⟩ (by decide) (HT.out.below HB1.out))
  go_wp2_with fail
  refine HC.out.mono ?_
  rintro e w2 ⟨a2, p2, rfl, hsl, hb⟩
  have HSL2 := Lib.hid hsl
  have HB2 := Lib.hid (below_trans HB1.out hb)
  have HX1_2 := Lib.hid hb
  clear hb hsl HC
  obtain ⟨n2, HL2⟩ : ∃ n, Hid (n = (parseF [105, 32, 61, 32, 49]).1.length) := ⟨_, Lib.hid rfl⟩
  rw [← HL2.out]
  have HC := Lib.hid (cat_any w2 ⟨#[116, 119, 111]⟩ ⟨#[105, 32, 61, 32, 50]⟩ (by decide) (HT.out.below HB2.out))
  go_wp2_with fail
  refine HC.out.mono ?_
  rintro e w3 ⟨a3, p3, rfl, hsl, hb⟩
  have HSL3 := Lib.hid hsl
  have HB3 := Lib.hid (below_trans HB2.out hb)
  have HX1_3 := Lib.hid (below_trans HX1_2.out hb)
  have HX2_3 := Lib.hid hb
  clear hb hsl HC
  obtain ⟨n3, HL3⟩ : ∃ n, Hid (n = (parseF [105, 32, 61, 32, 50]).1.length) := ⟨_, Lib.hid rfl⟩
  rw [← HL3.out]
  have HC := Lib.hid (cat_any w3 ⟨#[102, 101, 119]⟩ ⟨#[105, 32, 61, 32, 51]⟩ (by decide) (HT.out.below HB3.out))
  go_wp2_with fail
  refine HC.out.mono ?_
  rintro e w4 ⟨a4, p4, rfl, hsl, hb⟩
  have HSL4 := Lib.hid hsl
  have HB4 := Lib.hid (below_trans HB3.out hb)
  have HX1_4 := Lib.hid (below_trans HX1_3.out hb)
  have HX2_4 := Lib.hid (below_trans HX2_3.out hb)
  have HX3_4 := Lib.hid hb
  clear hb hsl HC
  obtain ⟨n4, HL4⟩ : ∃ n, Hid (n = (parseF [105, 32, 61, 32, 51]).1.length) := ⟨_, Lib.hid rfl⟩
  rw [← HL4.out]
  have HC := Lib.hid (cat_any w4 ⟨#[109, 97, 110, 121]⟩ ⟨#[105, 32, 61, 32, 54]⟩ (by decide) (HT.out.below HB4.out))
  go_wp2_with fail
  refine HC.out.mono ?_
  rintro e w5 ⟨a5, p5, rfl, hsl, hb⟩
  have HSL5 := Lib.hid hsl
  have HB5 := Lib.hid (below_trans HB4.out hb)
  have HX1_5 := Lib.hid (below_trans HX1_4.out hb)
  have HX2_5 := Lib.hid (below_trans HX2_4.out hb)
  have HX3_5 := Lib.hid (below_trans HX3_4.out hb)
  have HX4_5 := Lib.hid hb
  clear hb hsl HC
  obtain ⟨n5, HL5⟩ : ∃ n, Hid (n = (parseF [105, 32, 61, 32, 54]).1.length) := ⟨_, Lib.hid rfl⟩
  rw [← HL5.out]
  go_wp2
  go_ret
  exact tpost_of (cs := #[.string ⟨#[122, 101, 114, 111]⟩, .slice a1 n1 p1, .string ⟨#[111, 110, 101]⟩, .slice a2 n2 p2, .string ⟨#[116, 119, 111]⟩, .slice a3 n3 p3, .string ⟨#[102, 101, 119]⟩, .slice a4 n4 p4, .string ⟨#[109, 97, 110, 121]⟩, .slice a5 n5 p5]) HG.out rfl rfl (by decide) HB5.out ⟨_, _, rfl, rfl, cc_of HL1.out HSL1.out HX1_5.out, ⟨_, _, rfl, rfl, cc_of HL2.out HSL2.out HX2_5.out, ⟨_, _, rfl, rfl, cc_of HL3.out HSL3.out HX3_5.out, ⟨_, _, rfl, rfl, cc_of HL4.out HSL4.out HX4_5.out, ⟨_, _, rfl, rfl, cc_of HL5.out HSL5.out (Below.refl _ _), rfl⟩⟩⟩⟩⟩

theorem tabF_no (g : BA) (hen : g ≠ ⟨#[101, 110]⟩) (hde : g ≠ ⟨#[100, 101]⟩) (hfr : g ≠ ⟨#[102, 114]⟩) (hru : g ≠ ⟨#[114, 117]⟩) (hpl : g ≠ ⟨#[112, 108]⟩) (hcs : g ≠ ⟨#[99, 115]⟩) (har : g ≠ ⟨#[97, 114]⟩) (hsl : g ≠ ⟨#[115, 108]⟩) (hcy : g ≠ ⟨#[99, 121]⟩) : tabF g = [] := by
  unfold tabF
  rw [if_neg hen, if_neg hde, if_neg hfr, if_neg hru, if_neg hpl, if_neg hcs, if_neg har, if_neg hsl, if_neg hcy]
theorem ba_ne_lit {g : BA} {l : List UInt8} (h : g ≠ ⟨l.toArray⟩) : (g.toList == l) = false := by
  rw [beq_eq_false_iff_ne]
  intro h2
  rw [ByteArray.toList_eq] at h2
  exact h (by subst h2; simp)
set_option maxHeartbeats 3200000 in
set_option maxRecDepth 100000 in
theorem table_no (w : World) (g : BA) (hen : g ≠ ⟨#[101, 110]⟩) (hde : g ≠ ⟨#[100, 101]⟩) (hfr : g ≠ ⟨#[102, 114]⟩) (hru : g ≠ ⟨#[114, 117]⟩) (hpl : g ≠ ⟨#[112, 108]⟩) (hcs : g ≠ ⟨#[99, 115]⟩) (har : g ≠ ⟨#[97, 114]⟩) (hsl : g ≠ ⟨#[115, 108]⟩) (hcy : g ≠ ⟨#[99, 121]⟩) : Calls Tryz.prog 15 #[.string g] w (TPost g w) := by
  have HE := Lib.hid (tabF_no g hen hde hfr hru hpl hcs har hsl hcy)
  have ben := ba_ne_lit (l := [101, 110]) hen
  have bde := ba_ne_lit (l := [100, 101]) hde
  have bfr := ba_ne_lit (l := [102, 114]) hfr
  have bru := ba_ne_lit (l := [114, 117]) hru
  have bpl := ba_ne_lit (l := [112, 108]) hpl
  have bcs := ba_ne_lit (l := [99, 115]) hcs
  have bar := ba_ne_lit (l := [97, 114]) har
  have bsl := ba_ne_lit (l := [115, 108]) hsl
  have bcy := ba_ne_lit (l := [99, 121]) hcy
  clear hen hde hfr hru hpl hcs har hsl hcy
  go_enter Tryz.func15, Tryz.ntmps15
  go_wp2
  go_ret
  unfold TPost
  rw [HE.out]
  exact ⟨none, 0, rfl, ⟨none, 0, rfl, Nat.le_refl _, by omega, fun h => absurd rfl h⟩, Below.refl _ _⟩
theorem table_any (w : World) (g : BA) (ht : TabW w) : Calls Tryz.prog 15 #[.string g] w (TPost g w) := by
  by_cases hen : g = ⟨#[101, 110]⟩
  · subst hen; exact table_en w ht
  by_cases hde : g = ⟨#[100, 101]⟩
  · subst hde; exact table_de w ht
  by_cases hfr : g = ⟨#[102, 114]⟩
  · subst hfr; exact table_fr w ht
  by_cases hru : g = ⟨#[114, 117]⟩
  · subst hru; exact table_ru w ht
  by_cases hpl : g = ⟨#[112, 108]⟩
  · subst hpl; exact table_pl w ht
  by_cases hcs : g = ⟨#[99, 115]⟩
  · subst hcs; exact table_cs w ht
  by_cases har : g = ⟨#[97, 114]⟩
  · subst har; exact table_ar w ht
  by_cases hsl : g = ⟨#[115, 108]⟩
  · subst hsl; exact table_sl w ht
  by_cases hcy : g = ⟨#[99, 121]⟩
  · subst hcy; exact table_cy w ht
  exact table_no w g hen hde hfr hru hpl hcs har hsl hcy
end Go.Proofs.YtlmaafmhadbiaaaGreatDoor.Pu
