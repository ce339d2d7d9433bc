/- The document's One: what the call answers. -/
import Derived.Test.YtljbbhbebplknaaRef
import Derived.Test.YtljbbhbebplknaaFirst
import Derived.Deep.RegionHeld3
namespace Go.Proofs.Ytljbbhbebplknaa
open Go.RowKit

/-- What One answers: a body and whether the text begins with its frame. -/
def OneIs (l : Bs) (e : Ending) : Prop := ∃ (b : ByteArray) (flag : Bool), e = .returned (.tuple #[.string b, .bool flag]) ∧ oneF l = if flag = true then some b.data.toList else none

theorem oneIs_no {l : Bs} {b : ByteArray} (h : oneF l = none) : OneIs l (.returned (.tuple #[.string b, .bool false])) := ⟨b, false, rfl, by simpa using h⟩

theorem take4 (s : ByteArray) (h : 4 ≤ s.size) : s.data.toList.take 4 = [s[0], s[1], s[2], s[3]] := by
  have e : s.data.toList = s[0] :: s[1] :: s[2] :: s[3] :: s.data.toList.drop 4 := by
    have h0 : s.data.toList.drop 0 = _ := drop_of s 0 (by omega)
    rw [drop_of s (0 + 1) (by omega), drop_of s (0 + 1 + 1) (by omega), drop_of s (0 + 1 + 1 + 1) (by omega)] at h0
    exact h0
  rw [e]; rfl

set_option maxHeartbeats 1600000 in
theorem one_any (s : ByteArray) (w : World) (hs : s.size ≤ 1000000) : Calls Try.prog 21 #[.string s] w fun e w' => OneIs s.data.toList e ∧ Below w.heap.size w w' := by
  by_cases h12 : s.size < 12
  · have HO : Hid (oneF s.data.toList = none) := Lib.hid (by unfold oneF; rw [if_pos (by rw [ba_len]; exact h12)])
    go_enter Try.func21, Try.ntmps21
    go_wp2
    go_ret2
    exact ⟨oneIs_no HO.out, Below.refl _ _⟩
  · have i0 : 0 < s.size := by omega
    have i1 : 1 < s.size := by omega
    have i2 : 2 < s.size := by omega
    have i3 : 3 < s.size := by omega
    have b0 := s[0].toNat_lt
    have b1 := s[1].toNat_lt
    have b2 := s[2].toNat_lt
    have b3 := s[3].toNat_lt
    have j0 : (0 : Int) < (s.size : Int) := by omega
    have j1 : (1 : Int) < (s.size : Int) := by omega
    have j2 : (2 : Int) < (s.size : Int) := by omega
    have j3 : (3 : Int) < (s.size : Int) := by omega
    obtain ⟨v, hv⟩ : ∃ v, v = val (s.data.toList.take 4) := ⟨_, rfl⟩
    have hvI : (s[0].toNat : Int) + (256 : Int) * (s[1].toNat : Int) + (65536 : Int) * (s[2].toNat : Int) + (16777216 : Int) * (s[3].toNat : Int) = (v : Int) := by
      rw [hv, take4 s (by omega)]
      show _ = ((s[0].toNat + 256 * s[1].toNat + 65536 * s[2].toNat + 16777216 * s[3].toNat : Nat) : Int)
      omega
    have HV := Lib.hid hv
    have HI := Lib.hid hvI
    clear hv hvI
    go_enter Try.func21, Try.ntmps21
    go_wp2
    go_quiet (fail)
    rw [HI.out]
    have HB5 : Hid (Below w.heap.size w (w.drewN nq)) := Lib.hid (below_drewN (Below.refl _ w) nq)
    have hsz5 : w.heap.size ≤ (w.drewN nq).heap.size := HB5.out.size
    generalize w.drewN nq = w5 at *
    have hvm : v < 4294967296 := by rw [HV.out]; exact val_lt _
    clear HI
    by_cases h1 : 65536 < v
    · have HO : Hid (oneF s.data.toList = none) := Lib.hid (by unfold oneF; rw [if_neg (by rw [ba_len]; exact h12), ← HV.out, if_pos (.inl h1)])
      go_wp2
      go_ret2
      exact ⟨oneIs_no HO.out, HB5.out⟩
    · by_cases h2 : s.size < v + 12
      · have HO : Hid (oneF s.data.toList = none) := Lib.hid (by unfold oneF; rw [if_neg (by rw [ba_len]; exact h12), ← HV.out, if_pos (.inr (by rw [ba_len]; exact h2))])
        go_wp2
        go_ret2
        exact ⟨oneIs_no HO.out, HB5.out⟩
      · have hb : (s.extract 8 (8 + v)).data.toList = (s.data.toList.drop 8).take v := by rw [extract_list]; congr 1; omega
        have hbs : (s.extract 8 (8 + v)).size = v := by rw [extract_size _ _ _ (by omega)]; omega
        have HO : Hid (oneF s.data.toList = if frameF (s.extract 8 (8 + v)).data.toList = (s.extract 0 (v + 12)).data.toList then some (s.extract 8 (8 + v)).data.toList else none) := Lib.hid (by
          unfold oneF
          rw [if_neg (by rw [ba_len]; exact h12), ← HV.out, if_neg (by rw [ba_len]; omega), hb, extract_list]
          simp)
        have HF : Hid (∀ W, Calls Try.prog 12 #[.string (s.extract 8 (8 + v))] W fun e w' => e = .returned (.string (str (frameF (s.extract 8 (8 + v)).data.toList))) ∧ True ∧ Hid (Below W.heap.size W w')) := Lib.hid (fun W => (rframe_any (s.extract 8 (8 + v)) W (by omega)).mono fun e w' ⟨he, hb⟩ => ⟨he, trivial, Lib.hid hb⟩)
        clear hb
        go_wp2
        generalize s.extract 8 (8 + v) = b at *
        have k0 : (0 : Int) ≤ (v : Int) + 12 := by omega
        have kw : IntKind.i64.wrap ((v : Int) + 12) = (v : Int) + 12 := IntWalk.i64_in _ (by omega)
        have k1 : (v : Int) + 12 ≤ (s.size : Int) := by omega
        go_region_held3 (fun _ => True) (first | trivial | go_keep) (first | (go_at_call 12; refine (HF.out _).mono ?_; rintro e w6 ⟨rfl, hq6, hb6⟩))
        have HB6 : Hid (Below w.heap.size w w6) := Lib.hid (HB5.out.drew.trans (hb6.out.mono hsz5))
        clear hb6
        go_wp2
        go_ret2
        refine ⟨⟨b, _, rfl, ?_⟩, HB6.out⟩
        rw [HO.out, show ((v : Int) + 12).toNat = v + 12 by omega, ByteArray.toList_eq]
        simp only [beq_iff_eq]
end Go.Proofs.Ytljbbhbebplknaa
