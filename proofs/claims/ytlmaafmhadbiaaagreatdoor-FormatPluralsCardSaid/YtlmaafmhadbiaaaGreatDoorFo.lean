/- Package format: Format, where nothing is wrong; a locale has a language. -/
import Derived.Test.YtlmaafmhadbiaaaGreatDoorEe
import Derived.Test.YtlmaafmhadbiaaaGreatDoorAs
import Derived.Test.YtlmaafmhadbiaaaGreatDoorLLg
namespace Go.Proofs.YtlmaafmhadbiaaaGreatDoor
open Go.RowKit

theorem lang_de : Lc.langS ⟨#[100, 101, 45, 67, 72]⟩ = ⟨#[100, 101]⟩ := by
  have h : Lc.locB [100, 101, 45, 67, 72] = true := by decide
  have e := Lc.langS_yes (s := ⟨#[100, 101, 45, 67, 72]⟩) h
  rw [e]; rfl

set_option maxHeartbeats 1600000 in
theorem alive_any (m : Int) (w : World) (hm : Lc.MaxW m w) : Calls Tryz.prog 5 #[] w fun e w' => e = .returned (.bool true) ∧ Below w.heap.size w w' := by
  have HL := Lib.hid (Lc.lang_any ⟨#[100, 101, 45, 67, 72]⟩ m w hm)
  rw [lang_de] at HL
  clear hm
  go_enter Tryz.func5, Tryz.ntmps5
  go_wp2_with fail
  refine HL.out.mono ?_
  rintro e w1 ⟨rfl, hb⟩
  have HB := Lib.hid hb
  clear hb
  go_wp2
  go_ret
  exact ⟨rfl, HB.out⟩

set_option maxHeartbeats 3200000 in
set_option maxRecDepth 100000 in
/-- A pattern that is one, with arguments that may be. -/
theorem format_any (n : Nat) (w : World) (a : Option Addr) (cap : Nat) (xs : List Pt) (lang : BA) (b : Option Addr) (capb : Nat) (ags : List Argm) (l : List UInt8) (hxs : SlP w (Old w) n (.slice a xs.length cap) xs) (hc : cntPs xs ≤ 2000) (hsm : smPs 140737488351232 xs) (hE : EnvW w) (hr : rightE xs = 0)
    (has : SlA w (Old w) (.slice b ags.length capb) ags) (hok : ArgsOK ags) (hl : l ≠ []) (HP : ∀ W, Below w.heap.size w W → PartsOK W lang (.slice b ags.length capb) (.slice a xs.length cap) l) :
    Calls Tryz.prog 7 #[.slice a xs.length cap, .string lang, .slice b ags.length capb] w fun e w' => e = .returned (.tuple #[.string ⟨l.toArray⟩, .int .i64 0]) ∧ Below w.heap.size w w' := by
  have HR := Lib.hid (right_any n w a cap xs hxs hc hsm hE)
  rw [hr] at HR
  have HA := Lib.hid (fun W (hb : Below w.heap.size w W) => rightArgs_any W b capb ags (has.old hb) hok)
  have HV := Lib.hid (fun W (hb : Below w.heap.size w W) => evaluated_any W lang (.slice b ags.length capb) (.slice a xs.length cap) l hl (HP W hb))
  generalize xs.length = nx at *
  generalize ags.length = na at *
  clear hxs hc hsm hE hr has hok HP
  go_enter Tryz.func7, Tryz.ntmps7
  go_wp2_with fail
  refine HR.out.mono ?_
  rintro e w1 ⟨rfl, hb1⟩
  have HB1 := Lib.hid hb1
  clear hb1 HR
  go_wp2_with fail
  refine (HA.out w1 HB1.out).mono ?_
  rintro e w2 ⟨rfl, hb2⟩
  have HB2 := Lib.hid (below_trans HB1.out hb2)
  clear hb2 HA HB1
  go_wp2_with fail
  refine (HV.out w2 HB2.out).mono ?_
  rintro e w3 ⟨rfl, hb3⟩
  have HB3 := Lib.hid (below_trans HB2.out hb3)
  clear hb3 HV HB2
  go_wp2
  exact bodyPost_ret (v := .tuple #[.string ⟨l.toArray⟩, .int .i64 0]) (by simp [results, Tryz.results7, go_sem]) rfl ⟨rfl, HB3.out⟩
end Go.Proofs.YtlmaafmhadbiaaaGreatDoor
