/- ChunkBehind: what the law answers. -/
import Derived.Test.YtagfnpakpncbmaaWhole
namespace Go.Proofs.Ytagfnpakpncbmaa
open Go.RowKit

/-- The string of these bytes. -/
def flat (xs : List ByteArray) : ByteArray := ⟨(lists xs).flatten.toArray⟩
theorem flat_list (xs : List ByteArray) : (flat xs).data.toList = (lists xs).flatten := by simp [flat]

/-- Two slices at different places of their rows, of the same strings. -/
def ReadsAt (w : World) (g o : Nat) (xs : List ByteArray) : Prop := ∀ j (h : j < xs.length), w.cell? ⟨g, o + j, none⟩ = some (.string xs[j])

set_option maxHeartbeats 1600000 in
theorem like_at (w : World) (a : Option Addr) (g o : Nat) (cap cap' : Nat) (xs : List ByteArray) (hlen : xs.length ≤ 1000000) (hcap : xs.length ≤ cap') (ha : Reads w a cap (strs xs)) (hb : ReadsAt w g o xs) :
    Calls Try.prog 15 #[.slice a xs.length cap, .slice (some ⟨g, o, none⟩) xs.length cap'] w fun e w' => e = .returned (.bool true) ∧ ∃ m, w' = w.drewN m := by
  have HA := Lib.hid ha
  have HB := Lib.hid hb
  clear ha hb
  go_enter Try.func15, Try.ntmps15
  go_wp2
  go_loopw [13] (fun i wr => ∃ k m : Nat, k ≤ xs.length ∧ i = .int .i64 k ∧ wr = w.drewN m) (fun i _ => xs.length - (intOf i).toNat)
  case atStart => exact ⟨0, 0, by omega, rfl, rfl⟩
  case round =>
    obtain ⟨k, m, hk, rfl, rfl⟩ := hrel
    by_cases hlt : k < xs.length
    · have hne : strs xs ≠ [] := by intro h; have := congrArg List.length h; simp at this; simp [this] at hlt
      obtain ⟨g1, rfl, -, hc1⟩ := HA.out.2 hne
      have h1 := hc1 k (by simpa using hlt)
      have h2 := HB.out k hlt
      have e2 : (strs xs)[k]'(by simpa using hlt) = .string xs[k] := by simp [strs]
      rw [e2] at h1
      clear hc1 hne e2
      generalize xs[k] = x at *
      go_wp2
      go_quiet (fail)
      go_wp2
      go_roundw
      case rel => exact ⟨k + 1, _, by omega, by go_num, rfl⟩
      case measure => simp [intOf]; omega
    · go_wp2
      go_ret
      exact ⟨rfl, m, rfl⟩

/-- What stays true while the law looks. -/
structure Beh (w : World) (g cap : Nat) (xs : List ByteArray) (W : World) : Prop where
  below : Below w.heap.size w W
  reads : Reads W (some ⟨g, 0, none⟩) cap (strs xs)
theorem Beh.call {w W W' : World} {g cap : Nat} {xs : List ByteArray} (h : Beh w g cap xs W) (hb : Below W.heap.size W W') : Beh w g cap xs W' := ⟨h.below.trans (hb.mono h.below.size), h.reads.below hb⟩
theorem Beh.drewN {w W : World} {g cap : Nat} {xs : List ByteArray} (h : Beh w g cap xs W) (m : Nat) : Beh w g cap xs (W.drewN m) := ⟨below_drewN h.below m, h.reads.below ((Same.refl W).drewN m).below⟩
theorem Beh.drew {w W : World} {g cap : Nat} {xs : List ByteArray} (h : Beh w g cap xs W) : Beh w g cap xs W.drew := ⟨h.below.drew, h.reads.below (Same.refl W).drew.below⟩

/-- The place that the law picks. -/
theorem at_nat (at_ : Int) (n : Nat) (hn : 0 < n) (hn2 : n ≤ 1000000) : ∃ k : Nat, k < n ∧ (at_.tmod n + (n : Int)).tmod n = (k : Int) ∧ -1000000 ≤ at_.tmod n ∧ at_.tmod n ≤ 1000000 := by
  have h1 := Int.tmod_lt_of_pos at_ (b := (n : Int)) (by omega)
  have h2 : -(n : Int) < at_.tmod n := Int.lt_tmod_of_pos at_ (by omega)
  rw [Int.tmod_eq_emod_of_nonneg (by omega)]
  have h3 := Int.emod_nonneg (at_.tmod n + (n : Int)) (b := (n : Int)) (by omega)
  have h4 := Int.emod_lt_of_pos (at_.tmod n + (n : Int)) (b := (n : Int)) (by omega)
  exact ⟨((at_.tmod n + (n : Int)) % (n : Int)).toNat, by omega, by omega, by omega, by omega⟩

set_option maxRecDepth 100000 in
set_option maxHeartbeats 3200000 in
theorem behind_any (s : ByteArray) (at_ : Int) (w : World) (hs : s.size ≤ 140737488351232) (hlo : -9223372036854775808 ≤ at_) (hhi : at_ ≤ 9223372036854775807) : Calls Try.prog 6 #[.string s, .int .i64 at_] w fun e w' => e = .returned (.bool true) ∧ Below w.heap.size w w' := by
  have hz := cutS_size s
  have HS := Lib.hid (fun W => short_any s W hs)
  generalize cutS s = c at *
  go_enter Try.func6, Try.ntmps6
  go_wp2_with fail
  refine (HS.out _).mono ?_
  rintro e w1 ⟨rfl, rfl⟩
  go_wp2_with fail
  refine (texts_any c _ (by omega)).mono ?_
  rintro e w1 ⟨a, cap, xs, hS, rfl, hr, hb1⟩
  have hcnt : xs.length ≤ c.size := by have := hS.count; simpa using this
  have HL := Lib.hid hS
  clear hS
  go_wp2_with fail
  refine (cuts_a _).mono ?_
  rintro e w2 ⟨a5, cap5, rfl, hb2⟩
  have HR := Lib.hid (hr.below hb2)
  have HB := Lib.hid (hb1.trans (hb2.mono hb1.size))
  clear hr hb1 hb2
  by_cases hx : xs.length = 0
  · have hx0 : xs = [] := List.length_eq_zero_iff.1 hx
    obtain rfl : c = ⟨#[]⟩ := ba_ext (by rw [← HL.out.flatten, hx0]; rfl)
    rw [hx]
    go_wp2_with fail
    refine (cuts_a _).mono ?_
    rintro e w3 ⟨a6, cap6, rfl, hb3⟩
    have hB := HB.out
    go_wp2
    go_ret
    exact ⟨rfl, hB.trans (hb3.mono hB.size)⟩
  · obtain ⟨k, hk, hat, hl1, hl2⟩ := at_nat at_ xs.length (by omega) (by omega)
    have hn0 : (xs.length : Int) ≠ 0 := by omega
    have hnb : ((xs.length : Int) == 0) = false := by rw [beq_eq_false_iff_ne]; omega
    have hne : strs xs ≠ [] := by intro h; have := congrArg List.length h; simp at this; simp [this] at hk
    obtain ⟨g, rfl, hg, hc⟩ := HR.out.2 hne
    have hcap : xs.length ≤ cap := by have := HR.out.1; simpa using this
    have hyl : (xs.drop k).length = xs.length - k := List.length_drop
    have hfl : ((lists (xs.drop k)).flatten).length ≤ c.size := by
      have := HL.out.flatten
      rw [← ba_len, ← this]
      have e : lists xs = lists (xs.take k) ++ lists (xs.drop k) := by rw [← List.map_append, List.take_append_drop]
      rw [e, List.flatten_append, List.length_append]; omega
    have hrz : (flat (xs.drop k)).size ≤ 5000 := by rw [← ba_len, flat_list]; omega
    have hsp : Split (flat (xs.drop k)).data.toList (lists (xs.drop k)) := by
      have := HL.out.drop k
      rw [flat_list]
      simpa [lists, List.map_drop] using this
    have H0 : Hid (Beh w g cap xs w2) := Lib.hid ⟨HB.out, HR.out⟩
    have HJ : Hid (∀ W, Beh w g cap xs W → Calls Try.prog 18 #[.slice (some ⟨g, k, none⟩) (xs.length - k) (cap - k), .string ⟨#[]⟩] W fun e w' => e = .returned (.string (flat (xs.drop k))) ∧ Beh w g cap xs w') := Lib.hid (fun W hW => by
      obtain ⟨g', hg', hgl, hc'⟩ := hW.reads.2 hne
      obtain rfl : g = g' := by injection hg' with h; injection h
      have h := join_at W g k (cap - k) xs (xs.drop k) hc' hgl rfl (by omega) (by omega) (flat (xs.drop k)) (flat_list _) (by omega)
      rw [hyl] at h
      exact h.mono fun e w' ⟨he, hb⟩ => ⟨he, hW.call hb⟩)
    have HT : Hid (∀ W, Beh w g cap xs W → Calls Try.prog 16 #[.string (flat (xs.drop k))] W fun e w' => ∃ a3 cap3, e = .returned (.slice a3 (xs.length - k) cap3) ∧ Beh w g cap xs w' ∧ Reads w' a3 cap3 (strs (xs.drop k))) := Lib.hid (fun W hW => by
      refine (texts_any _ W (by omega)).mono fun e w' h => ?_
      obtain ⟨a3, cap3, ys, hS3, he, hr3, hb3⟩ := h
      obtain rfl := lists_inj (hS3.unique hsp)
      rw [hyl] at he
      exact ⟨a3, cap3, he, hW.call hb3, hr3⟩)
    have HK : Hid (∀ W a3 cap3, Beh w g cap xs W → Reads W a3 cap3 (strs (xs.drop k)) → Calls Try.prog 15 #[.slice a3 (xs.length - k) cap3, .slice (some ⟨g, k, none⟩) (xs.length - k) (cap - k)] W fun e w' => e = .returned (.bool true) ∧ Beh w g cap xs w') := Lib.hid (fun W a3 cap3 hW h3 => by
      obtain ⟨g', hg', hgl, hc'⟩ := hW.reads.2 hne
      obtain rfl : g = g' := by injection hg' with h; injection h
      have h := like_at W a3 g k cap3 (cap - k) (xs.drop k) (by omega) (by omega) h3 (fun j hj => by
        rw [hc' (k + j) (by simp at hj ⊢; omega)]
        simp [strs])
      rw [hyl] at h
      exact h.mono fun e w' ⟨he, m, hm⟩ => ⟨he, by rw [hm]; exact hW.drewN m⟩)
    clear hc hg HB HR hsp hfl hyl
    have hck : ¬ cap = k := by omega
    have ki : (k : Int) ≤ (xs.length : Int) := by omega
    have hd0 : Beh w g cap xs w2.drew := H0.out.drew
    go_wp2
    go_region_held3 (fun W => Beh w g cap xs W) (first | assumption | (apply Beh.drew; assumption))
      (first
        | (go_at_call 18; refine (HJ.out _ ?_).mono ?_; assumption; rintro e w5 ⟨rfl, hb5⟩)
        | (go_at_call 16; refine (HT.out _ ?_).mono ?_; assumption; rintro e w6 ⟨a3, cap3, rfl, hb6, hr6⟩)
        | (go_at_call 15; refine (HK.out _ _ _ ?_ ?_).mono ?_; assumption; assumption; rintro e w7 ⟨rfl, hb7⟩)
        | fail)
    all_goals go_wp2
    all_goals go_ret
    all_goals exact ⟨rfl, hb7.below⟩
end Go.Proofs.Ytagfnpakpncbmaa
