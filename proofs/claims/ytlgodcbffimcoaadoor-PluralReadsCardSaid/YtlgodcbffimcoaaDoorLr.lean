/- The law PluralReads. -/
import Derived.Test.YtlgodcbffimcoaaDoorRu
import Derived.Test.YtlgodcbffimcoaaDoorLk
import Derived.Test.YtlgodcbffimcoaaDoorL1
namespace Go.Proofs.YtlgodcbffimcoaaDoor
open Go.RowKit

theorem parse_right (l : List UInt8) : (parseF l).1 = [] ∨ rgRule (parseF l).1 = true := by
  rw [← rParse_eq]
  unfold rParse
  by_cases h1 : 400 < l.length
  · rw [if_pos h1]; exact .inl rfl
  · rw [if_neg h1]
    by_cases h2 : (rRule l).2.1.2 = true
    · rw [if_pos h2]; exact .inl rfl
    · rw [if_neg h2]
      by_cases h3 : (rRule l).2.2 = true ∧ rgRule (rRule l).1 = true
      · rw [if_pos h3]; exact .inr h3.2
      · rw [if_neg h3]; exact .inl rfl
set_option maxHeartbeats 1600000 in
theorem like_none (w : World) (a1 a2 : Option Addr) (c1 c2 : Nat) : Calls Tryd.prog 12 #[.slice a1 0 c1, .slice a2 0 c2] w fun e w' => e = .returned (.bool true) ∧ Below w.heap.size w w' := by
  go_enter Tryd.func12, Tryd.ntmps12
  go_wp2
  go_loopw [17] (fun v wr => v = .int .i64 0 ∧ Hid (Below w.heap.size w wr)) (fun _ _ => 0)
  case atStart => exact ⟨rfl, Lib.hid (Below.refl _ _)⟩
  case round =>
    obtain ⟨rfl, HB⟩ := hrel
    go_wp2
    go_ret
    exact ⟨rfl, HB.out⟩
theorem like_both (w : World) (a1 a2 : Option Addr) (c1 c2 : Nat) (l : List UInt8) (h1 : SlW w (Old w) (.slice a1 (parseF l).1.length c1) (parseF l).1) (h2 : SlW w (Old w) (.slice a2 (parseF l).1.length c2) (parseF l).1) :
    Calls Tryd.prog 12 #[.slice a1 (parseF l).1.length c1, .slice a2 (parseF l).1.length c2] w fun e w' => e = .returned (.bool true) ∧ Below w.heap.size w w' := by
  rcases parse_right l with h | h
  · rw [h]; exact like_none w a1 a2 c1 c2
  · exact like_any w a1 a2 c1 c2 _ h1 h2 h

set_option maxHeartbeats 1600000 in
set_option maxRecDepth 100000 in
theorem reads_any (w : World) (s : BA) (hs : s.size ≤ 9223372036854775807) (ht : TabW w) :
    Calls Tryd.prog 3 #[.string s] w fun e w' => e = .returned (.bool true) ∧ Below w.heap.size w w' := by
  have HT := Lib.hid ht
  have HK := Lib.hid (parse_any w s hs ht)
  clear ht
  have HLB : Hid (∀ (w : World) (a1 a2 : Option Addr) (c1 c2 : Nat), _ → _ → _) := Lib.hid (fun w a1 a2 c1 c2 h1 h2 => like_both w a1 a2 c1 c2 s.data.toList h1 h2)
  unfold PPost at HK
  have HK2 := Lib.hid (fun w : World => rparse_any w s hs)
  unfold PPost at HK2
  generalize parseF s.data.toList = q at *
  obtain ⟨xs, er, at_⟩ := q
  simp only at HK HK2 HLB
  have he1 : ((er : Int) == (er : Int)) = true := by simp
  have he2 : ((at_ : Int) == (at_ : Int)) = true := by simp
  go_enter Tryd.func3, Tryd.ntmps3
  go_wp2_with fail
  refine HK.out.mono ?_
  rintro e w1 ⟨a1, c1, rfl, hsl, hb⟩
  have HB1 := Lib.hid hb
  have HS1 := Lib.hid hsl.old
  have HK3 := Lib.hid (HK2.out w1)
  clear hsl hb HK HK2
  go_wp2_with fail
  refine HK3.out.mono ?_
  rintro e w2 ⟨a2, c2, rfl, hsl, hb⟩
  have HB2 := Lib.hid (below_trans HB1.out hb)
  have HS2 := Lib.hid hsl.old
  have HS12 := Lib.hid (HS1.out.below hb)
  have HAL := Lib.hid (alive_any w2 (HT.out.below HB2.out))
  clear hsl hb HK3 HS1
  go_wp2_with fail
  refine HAL.out.mono ?_
  rintro e w3 ⟨rfl, hb⟩
  have HB3 := Lib.hid (below_trans HB2.out hb)
  have HL := Lib.hid (HLB.out w3 a1 a2 c1 c2 (HS12.out.below hb) (HS2.out.below hb))
  clear hb HAL HLB
  go_wp2_with fail
  refine HL.out.mono ?_
  rintro e w4 ⟨rfl, hb⟩
  have HB4 := Lib.hid (below_trans HB3.out hb)
  clear hb HL
  go_wp2
  go_ret
  exact ⟨rfl, HB4.out⟩
end Go.Proofs.YtlgodcbffimcoaaDoor
