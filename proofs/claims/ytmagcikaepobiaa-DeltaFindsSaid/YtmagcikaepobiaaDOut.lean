/- What an operation yields, by package delta. -/
import Derived.Test.YtmagcikaepobiaaDSize
namespace Go.Proofs.Ytmagcikaepobiaa.Dl
open Go.RowKit

theorem ret_str2 {s t : BA} {b : Bool} (h : s = t) : Ending.returned (.tuple #[.string s, .bool b]) = .returned (.tuple #[.string t, .bool b]) := by rw [h]
set_option maxHeartbeats 1600000 in
theorem output_any (old : BA) (x : Opr) (w : World) (ho : old.size ≤ 140737488351232) (hx : okB x = true) (hf : fitB old x = true) : Calls Try.prog 17 #[.string old, opV x] w fun e w' => e = .returned (.tuple #[.string (outF old x), .bool true]) ∧ Below w.heap.size w w' := by
  have hs := okB_size hx
  obtain ⟨Q3, HE1⟩ := op_box w x
  have HC := Lib.hid (fun w => isInsert_any x w (by omega))
  cases hi : inB x with
  | true =>
    have HO : Hid (outF old x = x.t) := Lib.hid (by unfold outF; rw [if_pos hi])
    rw [hi] at HC
    clear hi hx hf
    obtain ⟨f, n, t⟩ := x
    simp only at Q3 HE1 hs HO
    rw [HO.out]
    have c0 := Q3.out.cell (i := 0) rfl
    have c1 := Q3.out.cell (i := 1) rfl
    have c2 := Q3.out.cell (i := 2) rfl
    go_enter Try.func17, Try.ntmps17
    go_wp2_with fail
    refine (HC.out _).mono ?_
    rintro e w5 ⟨rfl, hb5⟩
    have HB5 := Lib.hid (below_trans HE1.out hb5)
    have q5 := Q3.out.below hb5
    clear hb5 c0 c1 c2
    have c2 := q5.cell (i := 2) rfl
    clear q5
    go_wp2
    go_ret2
    exact ⟨rfl, HB5.out⟩
  | false =>
    have hc := cpB_true (cp_of_not hx hi)
    have HO : Hid (outF old x = old.extract x.f.toNat (x.f + x.n).toNat) := Lib.hid (by unfold outF; rw [hi]; rfl)
    have hfit : x.f + x.n ≤ (old.size : Int) := by
      unfold fitB at hf; rw [hi, Bool.false_or] at hf; exact of_decide_eq_true hf
    rw [hi] at HC
    clear hi hx hf
    obtain ⟨f, n, t⟩ := x
    simp only at Q3 HE1 hs HO hc hfit
    obtain ⟨h1, h2, h3, h4, -⟩ := hc
    rw [HO.out]
    have c0 := Q3.out.cell (i := 0) rfl
    have c1 := Q3.out.cell (i := 1) rfl
    have c2 := Q3.out.cell (i := 2) rfl
    have s1 : f ≤ f + n := by omega
    have s2 : 0 ≤ f + n := by omega
    go_enter Try.func17, Try.ntmps17
    go_wp2_with fail
    refine (HC.out _).mono ?_
    rintro e w5 ⟨rfl, hb5⟩
    have HB5 := Lib.hid (below_trans HE1.out hb5)
    have q5 := Q3.out.below hb5
    clear hb5 c0 c1 c2
    have c0 := q5.cell (i := 0) rfl
    have c1 := q5.cell (i := 1) rfl
    clear q5
    go_wp2
    go_ret2
    exact ⟨rfl, HB5.out⟩
set_option maxHeartbeats 1600000 in
theorem output_no (old : BA) (x : Opr) (w : World) (ho : old.size ≤ 140737488351232) (hx : okB x = true) (hf : fitB old x = false) : Calls Try.prog 17 #[.string old, opV x] w fun e w' => e = .returned (.tuple #[.string ⟨#[]⟩, .bool false]) ∧ Below w.heap.size w w' := by
  have hs := okB_size hx
  obtain ⟨Q3, HE1⟩ := op_box w x
  have HC := Lib.hid (fun w => isInsert_any x w (by omega))
  unfold fitB at hf
  rw [Bool.or_eq_false_iff] at hf
  obtain ⟨hi, hf⟩ := hf
  have hfit := of_decide_eq_false hf
  have hc := cpB_true (cp_of_not hx hi)
  rw [hi] at HC
  clear hi hx hf
  obtain ⟨f, n, t⟩ := x
  simp only at Q3 HE1 hs hc hfit
  obtain ⟨h1, h2, h3, h4, -⟩ := hc
  have c0 := Q3.out.cell (i := 0) rfl
  have c1 := Q3.out.cell (i := 1) rfl
  have c2 := Q3.out.cell (i := 2) rfl
  have hfit' : (old.size : Int) < f + n := by omega
  clear hfit
  go_enter Try.func17, Try.ntmps17
  go_wp2_with fail
  refine (HC.out _).mono ?_
  rintro e w5 ⟨rfl, hb5⟩
  have HB5 := Lib.hid (below_trans HE1.out hb5)
  have q5 := Q3.out.below hb5
  clear hb5 c0 c1 c2
  have c0 := q5.cell (i := 0) rfl
  have c1 := q5.cell (i := 1) rfl
  clear q5
  go_wp2
  go_ret2
  exact ⟨rfl, HB5.out⟩
end Go.Proofs.Ytmagcikaepobiaa.Dl
