/- Holds. -/
import Derived.Test.YtlmaafmhadbiaaaGreatDoorUTx
namespace Go.Proofs.YtlmaafmhadbiaaaGreatDoor.Pu
open Go.RowKit

theorem inS_yes {sp : List Sp} {i : Int} {j : Nat} {x : Sp} (hj : sp[j]? = some x) (h1 : x.lo ≤ i) (h2 : i ≤ x.hi) : inS sp i = true := by
  unfold inS; rw [List.any_eq_true]; exact ⟨x, List.mem_of_getElem? hj, by simp [h1, h2]⟩
theorem inS_no {sp : List Sp} {i : Int} (h : ∀ (j : Nat) (x : Sp), sp[j]? = some x → ¬ (x.lo ≤ i ∧ i ≤ x.hi)) : inS sp i = false := by
  unfold inS; rw [List.any_eq_false]; intro x hx
  obtain ⟨j, hj⟩ := List.mem_iff_getElem?.1 hx
  have := h j x hj
  simpa using this

set_option maxHeartbeats 3200000 in
set_option maxRecDepth 100000 in
theorem inSpans_any (w : World) (a : Option Addr) (cap : Nat) (xs : List Sp) (i : Int) (hi0 : 0 ≤ i) (hIn : SlS w (Old w) (.slice a xs.length cap) xs) (hr : allR rgS xs = true) :
    Calls Tryz.prog 63 #[.slice a xs.length cap, .int .u64 i] w fun e w' => e = .returned (.bool (inS xs i)) ∧ Below w.heap.size w w' := by
  have HIN := Lib.hid hIn
  obtain ⟨hg1, hg2, hg3⟩ := allR_get hr
  have HG := Lib.hid hg3
  clear hIn hr hg3
  go_enter Tryz.func63, Tryz.ntmps63
  go_wp2
  go_loopw [9] (fun v wr => ∃ k : Nat, k ≤ xs.length ∧ v = .int .i64 k ∧ Hid (∀ (j : Nat) (x : Sp), j < k → xs[j]? = some x → ¬ (x.lo ≤ i ∧ i ≤ x.hi)) ∧ Hid (Below w.heap.size w wr)) (fun v _ => xs.length - (intOf v).toNat)
  case atStart => exact ⟨0, by omega, rfl, Lib.hid (fun j x hj => by omega), Lib.hid (Below.refl _ _)⟩
  case round =>
    obtain ⟨k, hk, rfl, HA, HB⟩ := hrel
    by_cases hlt : k < xs.length
    · obtain ⟨x, hx⟩ : ∃ x, xs[k]? = some x := ⟨_, List.getElem?_eq_getElem hlt⟩
      obtain ⟨b, off, rfl, hb, hat⟩ := (HIN.out.below HB.out).at_ hx
      obtain ⟨hs0, hs1, hs2⟩ := rgS_true (HG.out x (List.mem_of_getElem? hx))
      have HX := Lib.hid hx
      clear hx
      obtain ⟨h0, h9⟩ := hat.s
      obtain ⟨lo, hi⟩ := x
      simp only at h0 h9 hs0 hs1 hs2
      have R := row_new wr #[.int .i64 lo, .int .i64 hi] 130
      have c0 := R.cell (i := 0) rfl
      have c1 := R.cell (i := 1) rfl
      have HB2 := Lib.hid (below_trans HB.out (below1 wr (.cells #[.int .i64 lo, .int .i64 hi] 130)))
      clear R hat
      by_cases h1 : lo ≤ i
      · by_cases h2 : i ≤ hi
        · have HE := Lib.hid (inS_yes HX.out h1 h2)
          go_wp2
          go_ret
          exact ⟨ret_bool HE.out.symm, HB2.out⟩
        · have HN : Hid (¬ (lo ≤ i ∧ i ≤ hi)) := Lib.hid (fun h => h2 h.2)
          go_wp2
          go_roundw
          case rel => exact ⟨k + 1, by omega, by go_num, Lib.hid (fun j y hj hy => by
            by_cases hjk : j < k
            · exact HA.out j y hjk hy
            · obtain rfl : j = k := by omega
              rw [HX.out] at hy; obtain rfl := Option.some.inj hy; exact HN.out), HB2⟩
          case measure => simp [intOf]; omega
      · have HN : Hid (¬ (lo ≤ i ∧ i ≤ hi)) := Lib.hid (fun h => h1 h.1)
        go_wp2
        go_roundw
        case rel => exact ⟨k + 1, by omega, by go_num, Lib.hid (fun j y hj hy => by
          by_cases hjk : j < k
          · exact HA.out j y hjk hy
          · obtain rfl : j = k := by omega
            rw [HX.out] at hy; obtain rfl := Option.some.inj hy; exact HN.out), HB2⟩
        case measure => simp [intOf]; omega
    · have HE := Lib.hid (inS_no (sp := xs) (i := i) (fun j x hx => HA.out j x (by have := (List.getElem?_eq_some_iff.1 hx).1; omega) hx))
      go_wp2
      go_ret
      exact ⟨ret_bool HE.out.symm, HB.out⟩

theorem hoR_mod {m i : Int} {ng : Bool} {sp : List Sp} (h : 0 < m) : hoR ⟨m, ng, sp⟩ i = (inS sp (i % m) != ng) := by unfold hoR; rw [if_pos h]
theorem hoR_all {m i : Int} {ng : Bool} {sp : List Sp} (h : ¬ 0 < m) : hoR ⟨m, ng, sp⟩ i = (inS sp i != ng) := by unfold hoR; rw [if_neg h]

set_option maxHeartbeats 3200000 in
set_option maxRecDepth 100000 in
theorem relHolds_any (w : World) (m : Int) (ng : Bool) (a : Option Addr) (cap : Nat) (sp : List Sp) (i : Int) (hi0 : 0 ≤ i) (hIn : SlS w (Old w) (.slice a sp.length cap) sp) (hr : rgR ⟨m, ng, sp⟩ = true) :
    Calls Tryz.prog 51 #[.agg #[.int .i64 m, .bool ng, .slice a sp.length cap], .int .u64 i] w fun e w' => e = .returned (.bool (hoR ⟨m, ng, sp⟩ i)) ∧ Below w.heap.size w w' := by
  obtain ⟨hm0, hm1, hsp⟩ := rgR_true hr
  simp only at hm0 hm1 hsp
  have HSP := Lib.hid hsp
  have HB0 := Lib.hid (below1 w (.cells #[.int .i64 m, .bool ng, .slice a sp.length cap] 102))
  have HIN := Lib.hid (hIn.below HB0.out)
  have HR := Lib.hid (row_new w #[.int .i64 m, .bool ng, .slice a sp.length cap] 102)
  have hrf := Below.refl (w.alloc (.cells #[.int .i64 m, .bool ng, .slice a sp.length cap] 102)).heap.size (w.alloc (.cells #[.int .i64 m, .bool ng, .slice a sp.length cap] 102))
  clear hIn hr hsp
  by_cases hm : 0 < m
  · have hmz : m ≠ 0 := by omega
    have c0 := HR.out.cell (i := 0) rfl
    go_enter Tryz.func51, Tryz.ntmps51
    go_wp2
    generalize w.alloc (.cells #[.int .i64 m, .bool ng, .slice a sp.length cap] 102) = W at *
    have HE := Lib.hid (hoR_mod (i := i) (ng := ng) (sp := sp) (by omega : 0 < m))
    have HC : Hid (∀ W2, Below W.heap.size W W2 → Calls Tryz.prog 63 #[.slice a sp.length cap, .int .u64 (i % m)] W2 fun e w' => e = .returned (.bool (inS sp (i % m))) ∧ w'.cell? ⟨w.heap.size, 1, none⟩ = some (.bool ng) ∧ w'.cell? ⟨w.heap.size, 2, none⟩ = some (.slice a sp.length cap) ∧ Below W.heap.size W w') := Lib.hid (fun W2 hb2 =>
      (inSpans_any W2 a cap sp (i % m) (Int.emod_nonneg _ (by omega)) (HIN.out.below hb2) HSP.out).mono fun e w' ⟨he, hb⟩ => ⟨he, (HR.out.below (below_trans hb2 hb)).cell (i := 1) rfl, (HR.out.below (below_trans hb2 hb)).cell (i := 2) rfl, below_trans hb2 hb⟩)
    have c1 := HR.out.cell (i := 1) rfl
    have c2 := HR.out.cell (i := 2) rfl
    clear c0
    go_region_held3 (fun w' => w'.cell? ⟨w.heap.size, 1, none⟩ = some (.bool ng) ∧ w'.cell? ⟨w.heap.size, 2, none⟩ = some (.slice a sp.length cap) ∧ Below W.heap.size W w') (refine ⟨?_, ?_, ?_⟩ <;> first | assumption | exact Below.drew (by assumption))
      (first
        | (go_at_call 63; refine (HC.out _ ?_).mono ?_; (first | assumption | exact Below.drew (by assumption) | exact Below.drew (Below.drew (by assumption))); rintro e w2 ⟨rfl, hM1, hN1, hb2⟩)
        | fail)
    all_goals go_wp2
    all_goals go_ret
    all_goals exact ⟨ret_bool HE.out.symm, below_trans HB0.out (by assumption)⟩
  · have hmz : m ≤ 0 := by omega
    have c0 := HR.out.cell (i := 0) rfl
    go_enter Tryz.func51, Tryz.ntmps51
    go_wp2
    generalize w.alloc (.cells #[.int .i64 m, .bool ng, .slice a sp.length cap] 102) = W at *
    have HE := Lib.hid (hoR_all (i := i) (ng := ng) (sp := sp) (by omega : ¬ 0 < m))
    have HC : Hid (∀ W2, Below W.heap.size W W2 → Calls Tryz.prog 63 #[.slice a sp.length cap, .int .u64 i] W2 fun e w' => e = .returned (.bool (inS sp i)) ∧ w'.cell? ⟨w.heap.size, 1, none⟩ = some (.bool ng) ∧ w'.cell? ⟨w.heap.size, 2, none⟩ = some (.slice a sp.length cap) ∧ Below W.heap.size W w') := Lib.hid (fun W2 hb2 =>
      (inSpans_any W2 a cap sp i (hi0) (HIN.out.below hb2) HSP.out).mono fun e w' ⟨he, hb⟩ => ⟨he, (HR.out.below (below_trans hb2 hb)).cell (i := 1) rfl, (HR.out.below (below_trans hb2 hb)).cell (i := 2) rfl, below_trans hb2 hb⟩)
    have c1 := HR.out.cell (i := 1) rfl
    have c2 := HR.out.cell (i := 2) rfl
    clear c0
    go_region_held3 (fun w' => w'.cell? ⟨w.heap.size, 1, none⟩ = some (.bool ng) ∧ w'.cell? ⟨w.heap.size, 2, none⟩ = some (.slice a sp.length cap) ∧ Below W.heap.size W w') (refine ⟨?_, ?_, ?_⟩ <;> first | assumption | exact Below.drew (by assumption))
      (first
        | (go_at_call 63; refine (HC.out _ ?_).mono ?_; (first | assumption | exact Below.drew (by assumption) | exact Below.drew (Below.drew (by assumption))); rintro e w2 ⟨rfl, hM1, hN1, hb2⟩)
        | fail)
    all_goals go_wp2
    all_goals go_ret
    all_goals exact ⟨ret_bool HE.out.symm, below_trans HB0.out (by assumption)⟩

theorem hoRow_no {r : List Rl} {i : Int} {j : Nat} {x : Rl} (hj : r[j]? = some x) (h : hoR x i = false) : hoRow r i = false := by
  unfold hoRow; rw [List.all_eq_false]; exact ⟨x, List.mem_of_getElem? hj, by simp [h]⟩
theorem hoRow_yes {r : List Rl} {i : Int} (h : ∀ (j : Nat) (x : Rl), r[j]? = some x → hoR x i = true) : hoRow r i = true := by
  unfold hoRow; rw [List.all_eq_true]; intro x hx
  obtain ⟨j, hj⟩ := List.mem_iff_getElem?.1 hx
  exact h j x hj
theorem hoRule_yes {r : Rule} {i : Int} {j : Nat} {x : List Rl} (hj : r[j]? = some x) (h : hoRow x i = true) : hoRule r i = true := by
  unfold hoRule; rw [List.any_eq_true]; exact ⟨x, List.mem_of_getElem? hj, h⟩
theorem hoRule_no {r : Rule} {i : Int} (h : ∀ (j : Nat) (x : List Rl), r[j]? = some x → hoRow x i = false) : hoRule r i = false := by
  unfold hoRule; rw [List.any_eq_false]; intro x hx
  obtain ⟨j, hj⟩ := List.mem_iff_getElem?.1 hx
  simp [h j x hj]

set_option maxHeartbeats 3200000 in
set_option maxRecDepth 100000 in
theorem rowHolds_any (w : World) (a : Option Addr) (cap : Nat) (xs : List Rl) (i : Int) (hi0 : 0 ≤ i) (hIn : SlR w (Old w) (.slice a xs.length cap) xs) (hr : rgRow xs = true) :
    Calls Tryz.prog 32 #[.slice a xs.length cap, .int .u64 i] w fun e w' => e = .returned (.bool (hoRow xs i)) ∧ Below w.heap.size w w' := by
  have HIN := Lib.hid hIn
  obtain ⟨hg1, hg2, hg3⟩ := allR_get hr
  have HG := Lib.hid hg3
  clear hIn hr hg3
  go_enter Tryz.func32, Tryz.ntmps32
  go_wp2
  go_loopw [9] (fun v wr => ∃ k : Nat, k ≤ xs.length ∧ v = .int .i64 k ∧ Hid (∀ (j : Nat) (x : Rl), j < k → xs[j]? = some x → hoR x i = true) ∧ Hid (Below w.heap.size w wr)) (fun v _ => xs.length - (intOf v).toNat)
  case atStart => exact ⟨0, by omega, rfl, Lib.hid (fun j x hj => by omega), Lib.hid (Below.refl _ _)⟩
  case round =>
    obtain ⟨k, hk, rfl, HA, HB⟩ := hrel
    by_cases hlt : k < xs.length
    · obtain ⟨x, hx⟩ : ∃ x, xs[k]? = some x := ⟨_, List.getElem?_eq_getElem hlt⟩
      obtain ⟨b, off, rfl, hb, hat⟩ := (HIN.out.below HB.out).at_ hx
      have HX := Lib.hid hx
      have HGX := Lib.hid (HG.out x (List.mem_of_getElem? hx))
      clear hx
      obtain ⟨h0, h1', a1, p1, h9, hsl⟩ := hat.r
      obtain ⟨m, ng, sp⟩ := x
      simp only at h0 h1' h9 hsl
      have R := row_new wr #[.int .i64 m, .bool ng, .slice a1 sp.length p1] 102
      have c0 := R.cell (i := 0) rfl
      have c1 := R.cell (i := 1) rfl
      have c2 := R.cell (i := 2) rfl
      have HC1 := Lib.hid (relHolds_any (wr.alloc (.cells #[.int .i64 m, .bool ng, .slice a1 sp.length p1] 102)) m ng a1 p1 sp i hi0 (hsl.below (below1 _ _)) HGX.out)
      clear R hsl hat
      go_wp2_with fail
      refine HC1.out.mono ?_
      rintro e w5 ⟨rfl, hb5⟩
      have HB5 := Lib.hid (below_trans HB.out (below_trans (below1 _ _) hb5))
      clear hb5
      cases hc : hoR ⟨m, ng, sp⟩ i with
      | true =>
        have HE := Lib.hid hc
        clear hc
        go_wp2
        go_roundw
        case rel => exact ⟨k + 1, by omega, by go_num, Lib.hid (fun j y hj hy => by
          by_cases hjk : j < k
          · exact HA.out j y hjk hy
          · obtain rfl : j = k := by omega
            rw [HX.out] at hy; obtain rfl := Option.some.inj hy; exact HE.out), HB5⟩
        case measure => simp [intOf]; omega
      | false =>
        have HE := Lib.hid (hoRow_no HX.out hc)
        clear hc
        go_wp2
        go_ret
        exact ⟨ret_bool HE.out.symm, HB5.out⟩
    · have HE := Lib.hid (hoRow_yes (r := xs) (i := i) (fun j x hx => HA.out j x (by have := (List.getElem?_eq_some_iff.1 hx).1; omega) hx))
      go_wp2
      go_ret
      exact ⟨ret_bool HE.out.symm, HB.out⟩

/-- The absolute value. -/
def absF (n : Int) : Int := if n < 0 then -n else n
theorem absF_neg {n : Int} (h : n < 0) : absF n = -n := if_pos h
theorem absF_pos {n : Int} (h : ¬ n < 0) : absF n = n := if_neg h
theorem absF_nn (n : Int) : 0 ≤ absF n := by unfold absF; split <;> omega

theorem wrap_neg {n : Int} (h1 : -9223372036854775808 ≤ n) (h : n < 0) : IntKind.u64.wrap (-IntKind.u64.wrap n) = -n := by
  simp [IntKind.wrap, IntKind.bits, IntKind.signed]
  omega

set_option maxHeartbeats 3200000 in
set_option maxRecDepth 100000 in
theorem absolute_any (n : Int) (w : World) (h1 : -9223372036854775808 ≤ n) (h2 : n ≤ 9223372036854775807) : Calls Tryz.prog 31 #[.int .i64 n] w fun e w' => e = .returned (.int .u64 (absF n)) ∧ w = w' := by
  by_cases h : n < 0
  · have HE := Lib.hid (absF_neg h)
    go_enter Tryz.func31, Tryz.ntmps31
    go_wp2
    go_ret
    exact ⟨by rw [HE.out]; exact congrArg (fun z => Ending.returned (.int .u64 z)) (wrap_neg h1 h), rfl⟩
  · have HE := Lib.hid (absF_pos h)
    go_enter Tryz.func31, Tryz.ntmps31
    go_wp2
    go_ret
    exact ⟨by rw [HE.out]; rfl, rfl⟩

set_option maxHeartbeats 3200000 in
set_option maxRecDepth 100000 in
theorem holds_any (w : World) (a : Option Addr) (cap : Nat) (xs : Rule) (n : Int) (h1 : -9223372036854775808 ≤ n) (h2 : n ≤ 9223372036854775807) (hIn : SlW w (Old w) (.slice a xs.length cap) xs) :
    Calls Tryz.prog 16 #[.slice a xs.length cap, .int .i64 n] w fun e w' => e = .returned (.bool (rgRule xs && hoRule xs (absF n))) ∧ Below w.heap.size w w' := by
  have HC := Lib.hid (right_any w a cap xs hIn)
  cases hr : rgRule xs with
  | false =>
    rw [hr] at HC
    clear hr hIn h1 h2
    go_enter Tryz.func16, Tryz.ntmps16
    go_wp2_with fail
    refine HC.out.mono ?_
    rintro e w5 ⟨rfl, hb5⟩
    go_wp2
    go_ret
    exact ⟨rfl, hb5⟩
  | true =>
    rw [hr] at HC
    obtain ⟨hg1, hg2, hg3⟩ := allR_get hr
    have HG := Lib.hid hg3
    have HA0 := Lib.hid (fun w => absolute_any n w h1 h2)
    have HNN := Lib.hid (absF_nn n)
    have HIN := Lib.hid hIn
    clear hr hIn h1 h2 hg3
    generalize absF n = i at *
    go_enter Tryz.func16, Tryz.ntmps16
    go_wp2_with fail
    refine HC.out.mono ?_
    rintro e w5 ⟨rfl, hb5⟩
    have HB5 := Lib.hid hb5
    have HIN5 := Lib.hid (HIN.out.below hb5)
    clear hb5
    go_wp2_with fail
    refine (HA0.out _).mono ?_
    rintro e w6 ⟨rfl, rfl⟩
    go_wp2
    go_loopw [15] (fun v wr => ∃ k : Nat, k ≤ xs.length ∧ v = .int .i64 k ∧ Hid (∀ (j : Nat) (x : List Rl), j < k → xs[j]? = some x → hoRow x i = false) ∧ Hid (Below w5.heap.size w5 wr)) (fun v _ => xs.length - (intOf v).toNat)
    case atStart => exact ⟨0, by omega, rfl, Lib.hid (fun j x hj => by omega), Lib.hid (Below.refl _ _)⟩
    case round =>
      obtain ⟨k, hk, rfl, HA, HB⟩ := hrel
      by_cases hlt : k < xs.length
      · obtain ⟨x, hx⟩ : ∃ x, xs[k]? = some x := ⟨_, List.getElem?_eq_getElem hlt⟩
        obtain ⟨b, off, rfl, hb, hat⟩ := (HIN5.out.below HB.out).at_ hx
        have HX := Lib.hid hx
        have HGX := Lib.hid (HG.out x (List.mem_of_getElem? hx))
        clear hx
        obtain ⟨a1, p1, h9, hsl⟩ := hat.w
        rw [Nat.mul_one] at h9
        have HC1 := Lib.hid (rowHolds_any wr a1 p1 x i HNN.out hsl HGX.out)
        clear hsl hat
        go_wp2_with fail
        refine HC1.out.mono ?_
        rintro e w7 ⟨rfl, hb7⟩
        have HB7 := Lib.hid (below_trans HB.out hb7)
        clear hb7
        cases hc : hoRow x i with
        | true =>
          have HE := Lib.hid (hoRule_yes HX.out hc)
          clear hc
          go_wp2
          go_ret
          exact ⟨ret_bool (by rw [HE.out]; rfl), below_trans HB5.out HB7.out⟩
        | false =>
          have HE := Lib.hid hc
          clear hc
          go_wp2
          go_roundw
          case rel => exact ⟨k + 1, by omega, by go_num, Lib.hid (fun j y hj hy => by
            by_cases hjk : j < k
            · exact HA.out j y hjk hy
            · obtain rfl : j = k := by omega
              rw [HX.out] at hy; obtain rfl := Option.some.inj hy; exact HE.out), HB7⟩
          case measure => simp [intOf]; omega
      · have HE := Lib.hid (hoRule_no (r := xs) (i := i) (fun j x hx => HA.out j x (by have := (List.getElem?_eq_some_iff.1 hx).1; omega) hx))
        go_wp2
        go_ret
        exact ⟨ret_bool (by rw [HE.out]; rfl), below_trans HB5.out HB.out⟩
end Go.Proofs.YtlmaafmhadbiaaaGreatDoor.Pu
