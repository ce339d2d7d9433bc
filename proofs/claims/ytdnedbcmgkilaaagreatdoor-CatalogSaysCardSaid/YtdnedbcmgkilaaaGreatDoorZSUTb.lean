/- The table of languages. -/
import Derived.Test.YtdnedbcmgkilaaaGreatDoorZSg12

namespace Go.Proofs.YtdnedbcmgkilaaaGreatDoor.Pu
set_option maxHeartbeats 3200000
set_option maxRecDepth 100000
open Go.Lib (hid)
open Go.RowKit
abbrev zgf : List (BA × List UInt8) := [(⟨#[111, 110, 101]⟩, [105, 32, 61, 32, 49])]
abbrev zgg : List (BA × List UInt8) := [(⟨#[111, 110, 101]⟩, [105, 32, 61, 32, 49])]
abbrev zge : List (BA × List UInt8) := [(⟨#[111, 110, 101]⟩, [105, 32, 61, 32, 48, 44, 49])]
abbrev zgc : List (BA × List UInt8) := [(⟨#[111, 110, 101]⟩, [105, 32, 37, 32, 49, 48, 32, 61, 32, 49, 32, 97, 110, 100, 32, 105, 32, 37, 32, 49, 48, 48, 32, 33, 61, 32, 49, 49]), (⟨#[102, 101, 119]⟩, [105, 32, 37, 32, 49, 48, 32, 61, 32, 50, 46, 46, 52, 32, 97, 110, 100, 32, 105, 32, 37, 32, 49, 48, 48, 32, 33, 61, 32, 49, 50, 46, 46, 49, 52]), (⟨#[109, 97, 110, 121]⟩, [105, 32, 37, 32, 49, 48, 32, 61, 32, 48, 44, 53, 46, 46, 57, 32, 111, 114, 32, 105, 32, 37, 32, 49, 48, 48, 32, 61, 32, 49, 49, 46, 46, 49, 52])]
abbrev zgd : List (BA × List UInt8) := [(⟨#[111, 110, 101]⟩, [105, 32, 61, 32, 49]), (⟨#[102, 101, 119]⟩, [105, 32, 37, 32, 49, 48, 32, 61, 32, 50, 46, 46, 52, 32, 97, 110, 100, 32, 105, 32, 37, 32, 49, 48, 48, 32, 33, 61, 32, 49, 50, 46, 46, 49, 52]), (⟨#[109, 97, 110, 121]⟩, [105, 32, 37, 32, 49, 48, 32, 61, 32, 48, 44, 49, 44, 53, 46, 46, 57, 32, 111, 114, 32, 105, 32, 37, 32, 49, 48, 48, 32, 61, 32, 49, 50, 46, 46, 49, 52])]
abbrev zgi : List (BA × List UInt8) := [(⟨#[111, 110, 101]⟩, [105, 32, 61, 32, 49]), (⟨#[102, 101, 119]⟩, [105, 32, 61, 32, 50, 46, 46, 52])]
abbrev zgj : List (BA × List UInt8) := [(⟨#[122, 101, 114, 111]⟩, [105, 32, 61, 32, 48]), (⟨#[111, 110, 101]⟩, [105, 32, 61, 32, 49]), (⟨#[116, 119, 111]⟩, [105, 32, 61, 32, 50]), (⟨#[102, 101, 119]⟩, [105, 32, 37, 32, 49, 48, 48, 32, 61, 32, 51, 46, 46, 49, 48]), (⟨#[109, 97, 110, 121]⟩, [105, 32, 37, 32, 49, 48, 48, 32, 61, 32, 49, 49, 46, 46, 57, 57])]
abbrev zgb : List (BA × List UInt8) := [(⟨#[111, 110, 101]⟩, [105, 32, 37, 32, 49, 48, 48, 32, 61, 32, 49]), (⟨#[116, 119, 111]⟩, [105, 32, 37, 32, 49, 48, 48, 32, 61, 32, 50]), (⟨#[102, 101, 119]⟩, [105, 32, 37, 32, 49, 48, 48, 32, 61, 32, 51, 44, 52])]
abbrev zgh : List (BA × List UInt8) := [(⟨#[122, 101, 114, 111]⟩, [105, 32, 61, 32, 48]), (⟨#[111, 110, 101]⟩, [105, 32, 61, 32, 49]), (⟨#[116, 119, 111]⟩, [105, 32, 61, 32, 50]), (⟨#[102, 101, 119]⟩, [105, 32, 61, 32, 51]), (⟨#[109, 97, 110, 121]⟩, [105, 32, 61, 32, 54])]
def tabF (g : BA) : List (BA × List UInt8) :=
 if g = ⟨#[101, 110]⟩ then zgf else
 if g = ⟨#[100, 101]⟩ then zgg else
 if g = ⟨#[102, 114]⟩ then zge else
 if g = ⟨#[114, 117]⟩ then zgc else
 if g = ⟨#[112, 108]⟩ then zgd else
 if g = ⟨#[99, 115]⟩ then zgi else
 if g = ⟨#[97, 114]⟩ then zgj else
 if g = ⟨#[115, 108]⟩ then zgb else
 if g = ⟨#[99, 121]⟩ then zgh else
 []
def z4p (l : List (BA × List UInt8)) : List (BA × Rule) := l.map fun x => (x.1, (z03 x.2).1)
def TPost (g : BA) (w : World) (e : Ending) (w' : World) : Prop := ∃ a cap, e = .returned (.slice a (tabF g).length cap) /\ SlC w' (Old w') (.slice a (z4p (tabF g)).length cap) (z4p (tabF g)) /\ Below w.heap.size w w'
theorem z2l {w w1 : World} {nm : BA} {t : List UInt8} {a : Option Addr} {cap n : Nat} (hn : n = (z03 t).1.length) (h : SlW w (Ty [266, 245, 231] w) (.slice a (z03 t).1.length cap) (z03 t).1) (hb : Below w.heap.size w w1) : CC w1 (Old w1) (nm, (z03 t).1) [.string nm, .slice a n cap] :=
 ⟨_, rfl, by rw [hn]; exact h.old.below hb⟩
theorem z2f {w w1 : World} {g : BA} {l : List (BA × List UInt8)} {cs : Array Value} {n : Nat} (hg : tabF g = l) (hn : n = l.length) (hs : cs.size = n * 2) (hm : n <= 9223372036854775807) (hb : Below w.heap.size w w1) (hc : Cat 2 (CC w1 (Old w1)) (z4p l) cs.toList) :
  TPost g w (.returned (.slice (some ⟨w1.heap.size, 0, none⟩) n n)) (w1.alloc (.cells cs 210)) := by
 unfold TPost
 rw [hg]
 have hl : (z4p l).length = n := by rw [hn]; simp [z4p]
 refine ⟨_, n, by rw [hn], ?_, z00 hb (z02 _ _)⟩
 have ho := z2h w1 cs 210 0 n 2 hs (Nat.zero_le _) hm
 rw [<- hl] at ho
 have := Sl.of_owns (S := Old (w1.alloc (.cells cs 210))) ho (hc.mono (C' := CC (w1.alloc (.cells cs 210)) (Old (w1.alloc (.cells cs 210)))) (fun _ _ h => CC.keep (fun b h => Below.heap_alloc _ _ _ h) (fun b h => by show b < _; rw [World.size_alloc]; exact Nat.lt_succ_of_lt h) h)) (fun b cs z h => (Array.getElem?_eq_some_iff.1 h).1)
 rw [hl] at this ⊢
 exact this
theorem table_en (w : World) (ht : TabW w) : Calls Tryz.prog 197 #[.string ⟨#[101, 110]⟩] w (TPost ⟨#[101, 110]⟩ w) := by
 have HT := hid ht
 have HG : Hid (tabF ⟨#[101, 110]⟩ = zgf) := hid (by decide)
 clear ht
 have HB0 := hid (Below.refl w.heap.size w)
 have HC := hid (z0w w ⟨#[111, 110, 101]⟩ ⟨#[105, 32, 61, 32, 49]⟩ (by decide) HT.out)
 go_enter Tryz.func197, Tryz.ntmps197
 go_wp2_with fail
 refine HC.out.mono ?_
 rintro e w1 ⟨a1, p1, rfl, hsl, hb⟩
 have HSL1 := hid hsl
 have HB1 := hid (z00 HB0.out hb)
 clear hb hsl HC
 obtain ⟨n1, HL1⟩ : ∃ n, Hid (n = (z03 [105, 32, 61, 32, 49]).1.length) := ⟨_, hid rfl⟩
 rw [<- HL1.out]
 go_wp2
 go_ret
 exact z2f (cs := #[.string ⟨#[111, 110, 101]⟩, .slice a1 n1 p1]) HG.out rfl rfl (by decide) HB1.out ⟨_, _, rfl, rfl, z2l HL1.out HSL1.out (Below.refl _ _), rfl⟩
theorem table_de (w : World) (ht : TabW w) : Calls Tryz.prog 197 #[.string ⟨#[100, 101]⟩] w (TPost ⟨#[100, 101]⟩ w) := by
 have HT := hid ht
 have HG : Hid (tabF ⟨#[100, 101]⟩ = zgg) := hid (by decide)
 clear ht
 have HB0 := hid (Below.refl w.heap.size w)
 have HC := hid (z0w w ⟨#[111, 110, 101]⟩ ⟨#[105, 32, 61, 32, 49]⟩ (by decide) HT.out)
 go_enter Tryz.func197, Tryz.ntmps197
 go_wp2_with fail
 refine HC.out.mono ?_
 rintro e w1 ⟨a1, p1, rfl, hsl, hb⟩
 have HSL1 := hid hsl
 have HB1 := hid (z00 HB0.out hb)
 clear hb hsl HC
 obtain ⟨n1, HL1⟩ : ∃ n, Hid (n = (z03 [105, 32, 61, 32, 49]).1.length) := ⟨_, hid rfl⟩
 rw [<- HL1.out]
 go_wp2
 go_ret
 exact z2f (cs := #[.string ⟨#[111, 110, 101]⟩, .slice a1 n1 p1]) HG.out rfl rfl (by decide) HB1.out ⟨_, _, rfl, rfl, z2l HL1.out HSL1.out (Below.refl _ _), rfl⟩
theorem table_fr (w : World) (ht : TabW w) : Calls Tryz.prog 197 #[.string ⟨#[102, 114]⟩] w (TPost ⟨#[102, 114]⟩ w) := by
 have HT := hid ht
 have HG : Hid (tabF ⟨#[102, 114]⟩ = zge) := hid (by decide)
 clear ht
 have HB0 := hid (Below.refl w.heap.size w)
 have HC := hid (z0w w ⟨#[111, 110, 101]⟩ ⟨#[105, 32, 61, 32, 48, 44, 49]⟩ (by decide) HT.out)
 go_enter Tryz.func197, Tryz.ntmps197
 go_wp2_with fail
 refine HC.out.mono ?_
 rintro e w1 ⟨a1, p1, rfl, hsl, hb⟩
 have HSL1 := hid hsl
 have HB1 := hid (z00 HB0.out hb)
 clear hb hsl HC
 obtain ⟨n1, HL1⟩ : ∃ n, Hid (n = (z03 [105, 32, 61, 32, 48, 44, 49]).1.length) := ⟨_, hid rfl⟩
 rw [<- HL1.out]
 go_wp2
 go_ret
 exact z2f (cs := #[.string ⟨#[111, 110, 101]⟩, .slice a1 n1 p1]) HG.out rfl rfl (by decide) HB1.out ⟨_, _, rfl, rfl, z2l HL1.out HSL1.out (Below.refl _ _), rfl⟩
theorem table_ru (w : World) (ht : TabW w) : Calls Tryz.prog 197 #[.string ⟨#[114, 117]⟩] w (TPost ⟨#[114, 117]⟩ w) := by
 have HT := hid ht
 have HG : Hid (tabF ⟨#[114, 117]⟩ = zgc) := hid (by decide)
 clear ht
 have HB0 := hid (Below.refl w.heap.size w)
 have HC := hid (z0w w ⟨#[111, 110, 101]⟩ ⟨#[105, 32, 37, 32, 49, 48, 32, 61, 32, 49, 32, 97, 110, 100, 32, 105, 32, 37, 32, 49, 48, 48, 32, 33, 61, 32, 49, 49]⟩ (by decide) HT.out)
 go_enter Tryz.func197, Tryz.ntmps197
 go_wp2_with fail
 refine HC.out.mono ?_
 rintro e w1 ⟨a1, p1, rfl, hsl, hb⟩
 have HSL1 := hid hsl
 have HB1 := hid (z00 HB0.out hb)
 clear hb hsl HC
 obtain ⟨n1, HL1⟩ : ∃ n, Hid (n = (z03 [105, 32, 37, 32, 49, 48, 32, 61, 32, 49, 32, 97, 110, 100, 32, 105, 32, 37, 32, 49, 48, 48, 32, 33, 61, 32, 49, 49]).1.length) := ⟨_, hid rfl⟩
 rw [<- HL1.out]
 have HC := hid (z0w w1 ⟨#[102, 101, 119]⟩ ⟨#[105, 32, 37, 32, 49, 48, 32, 61, 32, 50, 46, 46, 52, 32, 97, 110, 100, 32, 105, 32, 37, 32, 49, 48, 48, 32, 33, 61, 32, 49, 50, 46, 46, 49, 52]⟩ (by decide) (HT.out.below HB1.out))
 go_wp2_with fail
 refine HC.out.mono ?_
 rintro e w2 ⟨a2, p2, rfl, hsl, hb⟩
 have HSL2 := hid hsl
 have HB2 := hid (z00 HB1.out hb)
 have HX1_2 := hid hb
 clear hb hsl HC
 obtain ⟨n2, HL2⟩ : ∃ n, Hid (n = (z03 [105, 32, 37, 32, 49, 48, 32, 61, 32, 50, 46, 46, 52, 32, 97, 110, 100, 32, 105, 32, 37, 32, 49, 48, 48, 32, 33, 61, 32, 49, 50, 46, 46, 49, 52]).1.length) := ⟨_, hid rfl⟩
 rw [<- HL2.out]
 have HC := hid (z0w w2 ⟨#[109, 97, 110, 121]⟩ ⟨#[105, 32, 37, 32, 49, 48, 32, 61, 32, 48, 44, 53, 46, 46, 57, 32, 111, 114, 32, 105, 32, 37, 32, 49, 48, 48, 32, 61, 32, 49, 49, 46, 46, 49, 52]⟩ (by decide) (HT.out.below HB2.out))
 go_wp2_with fail
 refine HC.out.mono ?_
 rintro e w3 ⟨a3, p3, rfl, hsl, hb⟩
 have HSL3 := hid hsl
 have HB3 := hid (z00 HB2.out hb)
 have HX1_3 := hid (z00 HX1_2.out hb)
 have HX2_3 := hid hb
 clear hb hsl HC
 obtain ⟨n3, HL3⟩ : ∃ n, Hid (n = (z03 [105, 32, 37, 32, 49, 48, 32, 61, 32, 48, 44, 53, 46, 46, 57, 32, 111, 114, 32, 105, 32, 37, 32, 49, 48, 48, 32, 61, 32, 49, 49, 46, 46, 49, 52]).1.length) := ⟨_, hid rfl⟩
 rw [<- HL3.out]
 go_wp2
 go_ret
 exact z2f (cs := #[.string ⟨#[111, 110, 101]⟩, .slice a1 n1 p1, .string ⟨#[102, 101, 119]⟩, .slice a2 n2 p2, .string ⟨#[109, 97, 110, 121]⟩, .slice a3 n3 p3]) HG.out rfl rfl (by decide) HB3.out ⟨_, _, rfl, rfl, z2l HL1.out HSL1.out HX1_3.out, ⟨_, _, rfl, rfl, z2l HL2.out HSL2.out HX2_3.out, ⟨_, _, rfl, rfl, z2l HL3.out HSL3.out (Below.refl _ _), rfl⟩⟩⟩
theorem table_pl (w : World) (ht : TabW w) : Calls Tryz.prog 197 #[.string ⟨#[112, 108]⟩] w (TPost ⟨#[112, 108]⟩ w) := by
 have HT := hid ht
 have HG : Hid (tabF ⟨#[112, 108]⟩ = zgd) := hid (by decide)
 clear ht
 have HB0 := hid (Below.refl w.heap.size w)
 have HC := hid (z0w w ⟨#[111, 110, 101]⟩ ⟨#[105, 32, 61, 32, 49]⟩ (by decide) HT.out)
 go_enter Tryz.func197, Tryz.ntmps197
 go_wp2_with fail
 refine HC.out.mono ?_
 rintro e w1 ⟨a1, p1, rfl, hsl, hb⟩
 have HSL1 := hid hsl
 have HB1 := hid (z00 HB0.out hb)
 clear hb hsl HC
 obtain ⟨n1, HL1⟩ : ∃ n, Hid (n = (z03 [105, 32, 61, 32, 49]).1.length) := ⟨_, hid rfl⟩
 rw [<- HL1.out]
 have HC := hid (z0w w1 ⟨#[102, 101, 119]⟩ ⟨#[105, 32, 37, 32, 49, 48, 32, 61, 32, 50, 46, 46, 52, 32, 97, 110, 100, 32, 105, 32, 37, 32, 49, 48, 48, 32, 33, 61, 32, 49, 50, 46, 46, 49, 52]⟩ (by decide) (HT.out.below HB1.out))
 go_wp2_with fail
 refine HC.out.mono ?_
 rintro e w2 ⟨a2, p2, rfl, hsl, hb⟩
 have HSL2 := hid hsl
 have HB2 := hid (z00 HB1.out hb)
 have HX1_2 := hid hb
 clear hb hsl HC
 obtain ⟨n2, HL2⟩ : ∃ n, Hid (n = (z03 [105, 32, 37, 32, 49, 48, 32, 61, 32, 50, 46, 46, 52, 32, 97, 110, 100, 32, 105, 32, 37, 32, 49, 48, 48, 32, 33, 61, 32, 49, 50, 46, 46, 49, 52]).1.length) := ⟨_, hid rfl⟩
 rw [<- HL2.out]
 have HC := hid (z0w w2 ⟨#[109, 97, 110, 121]⟩ ⟨#[105, 32, 37, 32, 49, 48, 32, 61, 32, 48, 44, 49, 44, 53, 46, 46, 57, 32, 111, 114, 32, 105, 32, 37, 32, 49, 48, 48, 32, 61, 32, 49, 50, 46, 46, 49, 52]⟩ (by decide) (HT.out.below HB2.out))
 go_wp2_with fail
 refine HC.out.mono ?_
 rintro e w3 ⟨a3, p3, rfl, hsl, hb⟩
 have HSL3 := hid hsl
 have HB3 := hid (z00 HB2.out hb)
 have HX1_3 := hid (z00 HX1_2.out hb)
 have HX2_3 := hid hb
 clear hb hsl HC
 obtain ⟨n3, HL3⟩ : ∃ n, Hid (n = (z03 [105, 32, 37, 32, 49, 48, 32, 61, 32, 48, 44, 49, 44, 53, 46, 46, 57, 32, 111, 114, 32, 105, 32, 37, 32, 49, 48, 48, 32, 61, 32, 49, 50, 46, 46, 49, 52]).1.length) := ⟨_, hid rfl⟩
 rw [<- HL3.out]
 go_wp2
 go_ret
 exact z2f (cs := #[.string ⟨#[111, 110, 101]⟩, .slice a1 n1 p1, .string ⟨#[102, 101, 119]⟩, .slice a2 n2 p2, .string ⟨#[109, 97, 110, 121]⟩, .slice a3 n3 p3]) HG.out rfl rfl (by decide) HB3.out ⟨_, _, rfl, rfl, z2l HL1.out HSL1.out HX1_3.out, ⟨_, _, rfl, rfl, z2l HL2.out HSL2.out HX2_3.out, ⟨_, _, rfl, rfl, z2l HL3.out HSL3.out (Below.refl _ _), rfl⟩⟩⟩
theorem table_cs (w : World) (ht : TabW w) : Calls Tryz.prog 197 #[.string ⟨#[99, 115]⟩] w (TPost ⟨#[99, 115]⟩ w) := by
 have HT := hid ht
 have HG : Hid (tabF ⟨#[99, 115]⟩ = zgi) := hid (by decide)
 clear ht
 have HB0 := hid (Below.refl w.heap.size w)
 have HC := hid (z0w w ⟨#[111, 110, 101]⟩ ⟨#[105, 32, 61, 32, 49]⟩ (by decide) HT.out)
 go_enter Tryz.func197, Tryz.ntmps197
 go_wp2_with fail
 refine HC.out.mono ?_
 rintro e w1 ⟨a1, p1, rfl, hsl, hb⟩
 have HSL1 := hid hsl
 have HB1 := hid (z00 HB0.out hb)
 clear hb hsl HC
 obtain ⟨n1, HL1⟩ : ∃ n, Hid (n = (z03 [105, 32, 61, 32, 49]).1.length) := ⟨_, hid rfl⟩
 rw [<- HL1.out]
 have HC := hid (z0w w1 ⟨#[102, 101, 119]⟩ ⟨#[105, 32, 61, 32, 50, 46, 46, 52]⟩ (by decide) (HT.out.below HB1.out))
 go_wp2_with fail
 refine HC.out.mono ?_
 rintro e w2 ⟨a2, p2, rfl, hsl, hb⟩
 have HSL2 := hid hsl
 have HB2 := hid (z00 HB1.out hb)
 have HX1_2 := hid hb
 clear hb hsl HC
 obtain ⟨n2, HL2⟩ : ∃ n, Hid (n = (z03 [105, 32, 61, 32, 50, 46, 46, 52]).1.length) := ⟨_, hid rfl⟩
 rw [<- HL2.out]
 go_wp2
 go_ret
 exact z2f (cs := #[.string ⟨#[111, 110, 101]⟩, .slice a1 n1 p1, .string ⟨#[102, 101, 119]⟩, .slice a2 n2 p2]) HG.out rfl rfl (by decide) HB2.out ⟨_, _, rfl, rfl, z2l HL1.out HSL1.out HX1_2.out, ⟨_, _, rfl, rfl, z2l HL2.out HSL2.out (Below.refl _ _), rfl⟩⟩
theorem table_ar (w : World) (ht : TabW w) : Calls Tryz.prog 197 #[.string ⟨#[97, 114]⟩] w (TPost ⟨#[97, 114]⟩ w) := by
 have HT := hid ht
 have HG : Hid (tabF ⟨#[97, 114]⟩ = zgj) := hid (by decide)
 clear ht
 have HB0 := hid (Below.refl w.heap.size w)
 have HC := hid (z0w w ⟨#[122, 101, 114, 111]⟩ ⟨#[105, 32, 61, 32, 48]⟩ (by decide) HT.out)
 go_enter Tryz.func197, Tryz.ntmps197
 go_wp2_with fail
 refine HC.out.mono ?_
 rintro e w1 ⟨a1, p1, rfl, hsl, hb⟩
 have HSL1 := hid hsl
 have HB1 := hid (z00 HB0.out hb)
 clear hb hsl HC
 obtain ⟨n1, HL1⟩ : ∃ n, Hid (n = (z03 [105, 32, 61, 32, 48]).1.length) := ⟨_, hid rfl⟩
 rw [<- HL1.out]
 have HC := hid (z0w w1 ⟨#[111, 110, 101]⟩ ⟨#[105, 32, 61, 32, 49]⟩ (by decide) (HT.out.below HB1.out))
 go_wp2_with fail
 refine HC.out.mono ?_
 rintro e w2 ⟨a2, p2, rfl, hsl, hb⟩
 have HSL2 := hid hsl
 have HB2 := hid (z00 HB1.out hb)
 have HX1_2 := hid hb
 clear hb hsl HC
 obtain ⟨n2, HL2⟩ : ∃ n, Hid (n = (z03 [105, 32, 61, 32, 49]).1.length) := ⟨_, hid rfl⟩
 rw [<- HL2.out]
 have HC := hid (z0w w2 ⟨#[116, 119, 111]⟩ ⟨#[105, 32, 61, 32, 50]⟩ (by decide) (HT.out.below HB2.out))
 go_wp2_with fail
 refine HC.out.mono ?_
 rintro e w3 ⟨a3, p3, rfl, hsl, hb⟩
 have HSL3 := hid hsl
 have HB3 := hid (z00 HB2.out hb)
 have HX1_3 := hid (z00 HX1_2.out hb)
 have HX2_3 := hid hb
 clear hb hsl HC
 obtain ⟨n3, HL3⟩ : ∃ n, Hid (n = (z03 [105, 32, 61, 32, 50]).1.length) := ⟨_, hid rfl⟩
 rw [<- HL3.out]
 have HC := hid (z0w w3 ⟨#[102, 101, 119]⟩ ⟨#[105, 32, 37, 32, 49, 48, 48, 32, 61, 32, 51, 46, 46, 49, 48]⟩ (by decide) (HT.out.below HB3.out))
 go_wp2_with fail
 refine HC.out.mono ?_
 rintro e w4 ⟨a4, p4, rfl, hsl, hb⟩
 have HSL4 := hid hsl
 have HB4 := hid (z00 HB3.out hb)
 have HX1_4 := hid (z00 HX1_3.out hb)
 have HX2_4 := hid (z00 HX2_3.out hb)
 have HX3_4 := hid hb
 clear hb hsl HC
 obtain ⟨n4, HL4⟩ : ∃ n, Hid (n = (z03 [105, 32, 37, 32, 49, 48, 48, 32, 61, 32, 51, 46, 46, 49, 48]).1.length) := ⟨_, hid rfl⟩
 rw [<- HL4.out]
 have HC := hid (z0w w4 ⟨#[109, 97, 110, 121]⟩ ⟨#[105, 32, 37, 32, 49, 48, 48, 32, 61, 32, 49, 49, 46, 46, 57, 57]⟩ (by decide) (HT.out.below HB4.out))
 go_wp2_with fail
 refine HC.out.mono ?_
 rintro e w5 ⟨a5, p5, rfl, hsl, hb⟩
 have HSL5 := hid hsl
 have HB5 := hid (z00 HB4.out hb)
 have HX1_5 := hid (z00 HX1_4.out hb)
 have HX2_5 := hid (z00 HX2_4.out hb)
 have HX3_5 := hid (z00 HX3_4.out hb)
 have HX4_5 := hid hb
 clear hb hsl HC
 obtain ⟨n5, HL5⟩ : ∃ n, Hid (n = (z03 [105, 32, 37, 32, 49, 48, 48, 32, 61, 32, 49, 49, 46, 46, 57, 57]).1.length) := ⟨_, hid rfl⟩
 rw [<- HL5.out]
 go_wp2
 go_ret
 exact z2f (cs := #[.string ⟨#[122, 101, 114, 111]⟩, .slice a1 n1 p1, .string ⟨#[111, 110, 101]⟩, .slice a2 n2 p2, .string ⟨#[116, 119, 111]⟩, .slice a3 n3 p3, .string ⟨#[102, 101, 119]⟩, .slice a4 n4 p4, .string ⟨#[109, 97, 110, 121]⟩, .slice a5 n5 p5]) HG.out rfl rfl (by decide) HB5.out ⟨_, _, rfl, rfl, z2l HL1.out HSL1.out HX1_5.out, ⟨_, _, rfl, rfl, z2l HL2.out HSL2.out HX2_5.out, ⟨_, _, rfl, rfl, z2l HL3.out HSL3.out HX3_5.out, ⟨_, _, rfl, rfl, z2l HL4.out HSL4.out HX4_5.out, ⟨_, _, rfl, rfl, z2l HL5.out HSL5.out (Below.refl _ _), rfl⟩⟩⟩⟩⟩
theorem table_sl (w : World) (ht : TabW w) : Calls Tryz.prog 197 #[.string ⟨#[115, 108]⟩] w (TPost ⟨#[115, 108]⟩ w) := by
 have HT := hid ht
 have HG : Hid (tabF ⟨#[115, 108]⟩ = zgb) := hid (by decide)
 clear ht
 have HB0 := hid (Below.refl w.heap.size w)
 have HC := hid (z0w w ⟨#[111, 110, 101]⟩ ⟨#[105, 32, 37, 32, 49, 48, 48, 32, 61, 32, 49]⟩ (by decide) HT.out)
 go_enter Tryz.func197, Tryz.ntmps197
 go_wp2_with fail
 refine HC.out.mono ?_
 rintro e w1 ⟨a1, p1, rfl, hsl, hb⟩
 have HSL1 := hid hsl
 have HB1 := hid (z00 HB0.out hb)
 clear hb hsl HC
 obtain ⟨n1, HL1⟩ : ∃ n, Hid (n = (z03 [105, 32, 37, 32, 49, 48, 48, 32, 61, 32, 49]).1.length) := ⟨_, hid rfl⟩
 rw [<- HL1.out]
 have HC := hid (z0w w1 ⟨#[116, 119, 111]⟩ ⟨#[105, 32, 37, 32, 49, 48, 48, 32, 61, 32, 50]⟩ (by decide) (HT.out.below HB1.out))
 go_wp2_with fail
 refine HC.out.mono ?_
 rintro e w2 ⟨a2, p2, rfl, hsl, hb⟩
 have HSL2 := hid hsl
 have HB2 := hid (z00 HB1.out hb)
 have HX1_2 := hid hb
 clear hb hsl HC
 obtain ⟨n2, HL2⟩ : ∃ n, Hid (n = (z03 [105, 32, 37, 32, 49, 48, 48, 32, 61, 32, 50]).1.length) := ⟨_, hid rfl⟩
 rw [<- HL2.out]
 have HC := hid (z0w w2 ⟨#[102, 101, 119]⟩ ⟨#[105, 32, 37, 32, 49, 48, 48, 32, 61, 32, 51, 44, 52]⟩ (by decide) (HT.out.below HB2.out))
 go_wp2_with fail
 refine HC.out.mono ?_
 rintro e w3 ⟨a3, p3, rfl, hsl, hb⟩
 have HSL3 := hid hsl
 have HB3 := hid (z00 HB2.out hb)
 have HX1_3 := hid (z00 HX1_2.out hb)
 have HX2_3 := hid hb
 clear hb hsl HC
 obtain ⟨n3, HL3⟩ : ∃ n, Hid (n = (z03 [105, 32, 37, 32, 49, 48, 48, 32, 61, 32, 51, 44, 52]).1.length) := ⟨_, hid rfl⟩
 rw [<- HL3.out]
 go_wp2
 go_ret
 exact z2f (cs := #[.string ⟨#[111, 110, 101]⟩, .slice a1 n1 p1, .string ⟨#[116, 119, 111]⟩, .slice a2 n2 p2, .string ⟨#[102, 101, 119]⟩, .slice a3 n3 p3]) HG.out rfl rfl (by decide) HB3.out ⟨_, _, rfl, rfl, z2l HL1.out HSL1.out HX1_3.out, ⟨_, _, rfl, rfl, z2l HL2.out HSL2.out HX2_3.out, ⟨_, _, rfl, rfl, z2l HL3.out HSL3.out (Below.refl _ _), rfl⟩⟩⟩
theorem table_cy (w : World) (ht : TabW w) : Calls Tryz.prog 197 #[.string ⟨#[99, 121]⟩] w (TPost ⟨#[99, 121]⟩ w) := by
 have HT := hid ht
 have HG : Hid (tabF ⟨#[99, 121]⟩ = zgh) := hid (by decide)
 clear ht
 have HB0 := hid (Below.refl w.heap.size w)
 have HC := hid (z0w w ⟨#[122, 101, 114, 111]⟩ ⟨#[105, 32, 61, 32, 48]⟩ (by decide) HT.out)
 go_enter Tryz.func197, Tryz.ntmps197
 go_wp2_with fail
 refine HC.out.mono ?_
 rintro e w1 ⟨a1, p1, rfl, hsl, hb⟩
 have HSL1 := hid hsl
 have HB1 := hid (z00 HB0.out hb)
 clear hb hsl HC
 obtain ⟨n1, HL1⟩ : ∃ n, Hid (n = (z03 [105, 32, 61, 32, 48]).1.length) := ⟨_, hid rfl⟩
 rw [<- HL1.out]
 have HC := hid (z0w w1 ⟨#[111, 110, 101]⟩ ⟨#[105, 32, 61, 32, 49]⟩ (by decide) (HT.out.below HB1.out))
 go_wp2_with fail
 refine HC.out.mono ?_
 rintro e w2 ⟨a2, p2, rfl, hsl, hb⟩
 have HSL2 := hid hsl
 have HB2 := hid (z00 HB1.out hb)
 have HX1_2 := hid hb
 clear hb hsl HC
 obtain ⟨n2, HL2⟩ : ∃ n, Hid (n = (z03 [105, 32, 61, 32, 49]).1.length) := ⟨_, hid rfl⟩
 rw [<- HL2.out]
 have HC := hid (z0w w2 ⟨#[116, 119, 111]⟩ ⟨#[105, 32, 61, 32, 50]⟩ (by decide) (HT.out.below HB2.out))
 go_wp2_with fail
 refine HC.out.mono ?_
 rintro e w3 ⟨a3, p3, rfl, hsl, hb⟩
 have HSL3 := hid hsl
 have HB3 := hid (z00 HB2.out hb)
 have HX1_3 := hid (z00 HX1_2.out hb)
 have HX2_3 := hid hb
 clear hb hsl HC
 obtain ⟨n3, HL3⟩ : ∃ n, Hid (n = (z03 [105, 32, 61, 32, 50]).1.length) := ⟨_, hid rfl⟩
 rw [<- HL3.out]
 have HC := hid (z0w w3 ⟨#[102, 101, 119]⟩ ⟨#[105, 32, 61, 32, 51]⟩ (by decide) (HT.out.below HB3.out))
 go_wp2_with fail
 refine HC.out.mono ?_
 rintro e w4 ⟨a4, p4, rfl, hsl, hb⟩
 have HSL4 := hid hsl
 have HB4 := hid (z00 HB3.out hb)
 have HX1_4 := hid (z00 HX1_3.out hb)
 have HX2_4 := hid (z00 HX2_3.out hb)
 have HX3_4 := hid hb
 clear hb hsl HC
 obtain ⟨n4, HL4⟩ : ∃ n, Hid (n = (z03 [105, 32, 61, 32, 51]).1.length) := ⟨_, hid rfl⟩
 rw [<- HL4.out]
 have HC := hid (z0w w4 ⟨#[109, 97, 110, 121]⟩ ⟨#[105, 32, 61, 32, 54]⟩ (by decide) (HT.out.below HB4.out))
 go_wp2_with fail
 refine HC.out.mono ?_
 rintro e w5 ⟨a5, p5, rfl, hsl, hb⟩
 have HSL5 := hid hsl
 have HB5 := hid (z00 HB4.out hb)
 have HX1_5 := hid (z00 HX1_4.out hb)
 have HX2_5 := hid (z00 HX2_4.out hb)
 have HX3_5 := hid (z00 HX3_4.out hb)
 have HX4_5 := hid hb
 clear hb hsl HC
 obtain ⟨n5, HL5⟩ : ∃ n, Hid (n = (z03 [105, 32, 61, 32, 54]).1.length) := ⟨_, hid rfl⟩
 rw [<- HL5.out]
 go_wp2
 go_ret
 exact z2f (cs := #[.string ⟨#[122, 101, 114, 111]⟩, .slice a1 n1 p1, .string ⟨#[111, 110, 101]⟩, .slice a2 n2 p2, .string ⟨#[116, 119, 111]⟩, .slice a3 n3 p3, .string ⟨#[102, 101, 119]⟩, .slice a4 n4 p4, .string ⟨#[109, 97, 110, 121]⟩, .slice a5 n5 p5]) HG.out rfl rfl (by decide) HB5.out ⟨_, _, rfl, rfl, z2l HL1.out HSL1.out HX1_5.out, ⟨_, _, rfl, rfl, z2l HL2.out HSL2.out HX2_5.out, ⟨_, _, rfl, rfl, z2l HL3.out HSL3.out HX3_5.out, ⟨_, _, rfl, rfl, z2l HL4.out HSL4.out HX4_5.out, ⟨_, _, rfl, rfl, z2l HL5.out HSL5.out (Below.refl _ _), rfl⟩⟩⟩⟩⟩
theorem zgk (g : BA) (hen : g ≠ ⟨#[101, 110]⟩) (hde : g ≠ ⟨#[100, 101]⟩) (hfr : g ≠ ⟨#[102, 114]⟩) (hru : g ≠ ⟨#[114, 117]⟩) (hpl : g ≠ ⟨#[112, 108]⟩) (hcs : g ≠ ⟨#[99, 115]⟩) (har : g ≠ ⟨#[97, 114]⟩) (hsl : g ≠ ⟨#[115, 108]⟩) (hcy : g ≠ ⟨#[99, 121]⟩) : tabF g = [] := by
 unfold tabF
 rw [if_neg hen, if_neg hde, if_neg hfr, if_neg hru, if_neg hpl, if_neg hcs, if_neg har, if_neg hsl, if_neg hcy]
theorem z0o {g : BA} {l : List UInt8} (h : g ≠ ⟨l.toArray⟩) : (g.toList == l) = false := by
 rw [beq_eq_false_iff_ne]
 intro h2
 rw [ByteArray.toList_eq] at h2
 exact h (by subst h2; simp)
theorem table_no (w : World) (g : BA) (hen : g ≠ ⟨#[101, 110]⟩) (hde : g ≠ ⟨#[100, 101]⟩) (hfr : g ≠ ⟨#[102, 114]⟩) (hru : g ≠ ⟨#[114, 117]⟩) (hpl : g ≠ ⟨#[112, 108]⟩) (hcs : g ≠ ⟨#[99, 115]⟩) (har : g ≠ ⟨#[97, 114]⟩) (hsl : g ≠ ⟨#[115, 108]⟩) (hcy : g ≠ ⟨#[99, 121]⟩) : Calls Tryz.prog 197 #[.string g] w (TPost g w) := by
 have HE := hid (zgk g hen hde hfr hru hpl hcs har hsl hcy)
 have ben := z0o (l := [101, 110]) hen
 have bde := z0o (l := [100, 101]) hde
 have bfr := z0o (l := [102, 114]) hfr
 have bru := z0o (l := [114, 117]) hru
 have bpl := z0o (l := [112, 108]) hpl
 have bcs := z0o (l := [99, 115]) hcs
 have bar := z0o (l := [97, 114]) har
 have bsl := z0o (l := [115, 108]) hsl
 have bcy := z0o (l := [99, 121]) hcy
 clear hen hde hfr hru hpl hcs har hsl hcy
 go_enter Tryz.func197, Tryz.ntmps197
 go_wp2
 go_ret
 unfold TPost
 rw [HE.out]
 exact ⟨none, 0, rfl, ⟨none, 0, rfl, Nat.le_refl _, by omega, fun h => absurd rfl h⟩, Below.refl _ _⟩
theorem zga (w : World) (g : BA) (ht : TabW w) : Calls Tryz.prog 197 #[.string g] w (TPost g w) := by
 by_cases hen : g = ⟨#[101, 110]⟩
 ·subst hen; exact table_en w ht
 by_cases hde : g = ⟨#[100, 101]⟩
 ·subst hde; exact table_de w ht
 by_cases hfr : g = ⟨#[102, 114]⟩
 ·subst hfr; exact table_fr w ht
 by_cases hru : g = ⟨#[114, 117]⟩
 ·subst hru; exact table_ru w ht
 by_cases hpl : g = ⟨#[112, 108]⟩
 ·subst hpl; exact table_pl w ht
 by_cases hcs : g = ⟨#[99, 115]⟩
 ·subst hcs; exact table_cs w ht
 by_cases har : g = ⟨#[97, 114]⟩
 ·subst har; exact table_ar w ht
 by_cases hsl : g = ⟨#[115, 108]⟩
 ·subst hsl; exact table_sl w ht
 by_cases hcy : g = ⟨#[99, 121]⟩
 ·subst hcy; exact table_cy w ht
 exact table_no w g hen hde hfr hru hpl hcs har hsl hcy
end Go.Proofs.YtdnedbcmgkilaaaGreatDoor.Pu
