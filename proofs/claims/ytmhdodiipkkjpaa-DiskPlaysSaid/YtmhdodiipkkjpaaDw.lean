/- Package disk: with, without; the document's. -/
import Derived.Test.YtmhdodiipkkjpaaDf
import Derived.Test.YtmhdodiipkkjpaaDi
namespace Go.Proofs.Ytmhdodiipkkjpaa.Dk
open Go.RowKit

theorem out_take {l : List Fil} {n : BA} {k : Nat} {x : Fil} (h : l[k]? = some x) : outF (l.take (k + 1)) n = outF (l.take k) n ++ (if x.nm = n then [] else [x]) := by
  rw [take_one h]
  unfold outF
  rw [List.filter_append]
  by_cases he : x.nm = n <;> simp [he]
theorem ins_at {x : Fil} : ∀ {l : List Fil} {k : Nat}, k ≤ l.length → (∀ (j : Nat) y, j < k → l[j]? = some y → ltB y.nm x.nm = true) → (∀ y, l[k]? = some y → ltB y.nm x.nm = false) → insN x l = l.take k ++ x :: l.drop k
  | [], k, hk, _, _ => by
    obtain rfl : k = 0 := by simpa using hk
    rfl
  | y :: r, 0, _, _, h => by
    have := h y rfl
    rw [insN, if_neg (by rw [this]; simp)]; rfl
  | y :: r, k + 1, hk, h1, h2 => by
    have h0 := h1 0 y (by omega) rfl
    rw [insN, if_pos h0, ins_at (k := k) (by simpa using hk) (fun j z hj hz => h1 (j + 1) z (by omega) (by simpa using hz)) (fun z hz => h2 z (by simpa using hz))]; rfl
theorem ins_all {x : Fil} {l : List Fil} (h : ∀ e, e ∈ l → ltB e.nm x.nm = true) : insN x l = l ++ [x] := by
  rw [ins_at (k := l.length) (Nat.le_refl _) (fun j y _ hy => h y (mem_at hy)) (fun y hy => by rw [List.getElem?_eq_none (Nat.le_refl _)] at hy; cases hy)]
  simp
theorem ins_snoc {x y : Fil} : ∀ {l : List Fil}, (∃ e, e ∈ l ∧ ltB e.nm x.nm = false) → insN x (l ++ [y]) = insN x l ++ [y]
  | [], h => by obtain ⟨e, he, _⟩ := h; cases he
  | z :: r, h => by
    rw [List.cons_append, insN, insN]
    by_cases hz : ltB z.nm x.nm = true
    · rw [if_pos hz, if_pos hz, ins_snoc (by
        obtain ⟨e, he, hl⟩ := h
        rcases List.mem_cons.1 he with rfl | he
        · rw [hz] at hl; cases hl
        · exact ⟨e, he, hl⟩)]; rfl
    · rw [if_neg hz, if_neg hz]; rfl
theorem ins_now {x y : Fil} {l : List Fil} (h : ∀ e, e ∈ l → ltB e.nm x.nm = true) (hy : ltB y.nm x.nm = false) : insN x (l ++ [y]) = l ++ [x] ++ [y] := by
  rw [ins_at (k := l.length) (by simp) (fun j z hj hz => by
    rw [List.getElem?_append_left hj] at hz; exact h z (mem_at hz)) (fun z hz => by
    rw [List.getElem?_append_right (Nat.le_refl _)] at hz; obtain rfl : y = z := by simpa using hz
    exact hy)]
  simp

set_option maxHeartbeats 1600000 in
theorem index_any (w : World) (a : Option Addr) (cap : Nat) (ns : List BA) (s : BA) (hS : SlS w (Old w) (.slice a ns.length cap) ns) :
    Calls Try.prog 50 #[.slice a ns.length cap, .string s] w fun e w' => (∃ i : Int, e = .returned (.int .i64 i) ∧ decide (0 ≤ i) = ns.any (fun x => decide (x = s))) ∧ w = w' := by
  have hl := hS.len
  have HS := Lib.hid hS
  obtain ⟨L, HL⟩ : ∃ L, Hid (L = ns.length) := ⟨_, Lib.hid rfl⟩
  have hL : L ≤ 9223372036854775807 := by have := HL.out; omega
  rw [← HL.out] at HS ⊢
  clear hS hl
  go_enter Try.func50, Try.ntmps50
  go_wp2
  go_loop [8] (fun i => ∃ k : Nat, k ≤ L ∧ i = .int .i64 k ∧ Hid ((ns.take k).any (fun x => decide (x = s)) = false)) (fun i => L - (intOf i).toNat)
  case atStart => exact ⟨0, Nat.zero_le _, rfl, Lib.hid rfl⟩
  case round =>
    obtain ⟨k, hk, rfl, HA⟩ := hrel
    by_cases hlt : k < L
    · obtain ⟨x, hx⟩ : ∃ x, ns[k]? = some x := ⟨_, List.getElem?_eq_getElem (by have := HL.out; omega)⟩
      obtain ⟨b, off, rfl, -, x0⟩ := HS.out.get hx
      by_cases he : x = s
      · have u1 : (s.toList == x.toList) = true := str_eq he.symm
        have HE : Hid (decide ((0 : Int) ≤ (k : Int)) = ns.any (fun x => decide (x = s))) := Lib.hid (by
          rw [decide_eq_true (by omega)]
          symm
          rw [List.any_eq_true]
          exact ⟨x, mem_at hx, by simpa using he⟩)
        clear hx he
        go_wp2
        go_ret
        exact ⟨⟨_, rfl, HE.out⟩, rfl⟩
      · have u1 : (s.toList == x.toList) = false := str_ne (fun h => he h.symm)
        have HT : Hid ((ns.take (k + 1)).any (fun x => decide (x = s)) = false) := Lib.hid (by
          rw [List.take_add_one, hx, List.any_append, HA.out]
          simpa using he)
        clear hx he
        go_wp2
        go_round
        case rel => exact ⟨k + 1, by omega, by go_num, HT⟩
        case measure => simp [intOf]; omega
    · have HE : Hid (decide ((0 : Int) ≤ -1) = ns.any (fun x => decide (x = s))) := Lib.hid (by
        have := HA.out
        rw [List.take_of_length_le (by have := HL.out; omega)] at this
        rw [this]; rfl)
      go_wp2
      go_ret
      exact ⟨⟨_, rfl, HE.out⟩, rfl⟩

theorem contains_any (w : World) (a : Option Addr) (cap : Nat) (n s : BA) (hS : SlS w (Old w) (.slice a 1 cap) [n]) :
    Calls Try.prog 46 #[.slice a 1 cap, .string s] w fun e w' => e = .returned (.bool (decide (n = s))) ∧ w = w' := by
  have HI := Lib.hid (index_any w a cap [n] s hS)
  simp only [List.length_singleton] at HI
  clear hS
  by_cases he : n = s
  · have HQ : Hid (decide (n = s) = true) := Lib.hid (decide_eq_true he)
    have HA : Hid ([n].any (fun x => decide (x = s)) = true) := Lib.hid (by simpa using he)
    clear he
    go_enter Try.func46, Try.ntmps46
    go_wp2_with fail
    refine HI.out.mono ?_
    rintro e w1 ⟨⟨i, rfl, hi⟩, rfl⟩
    rw [HA.out] at hi
    go_wp2
    go_ret
    exact ⟨by rw [HQ.out]; rfl, rfl⟩
  · have HQ : Hid (decide (n = s) = false) := Lib.hid (decide_eq_false he)
    have HA : Hid ([n].any (fun x => decide (x = s)) = false) := Lib.hid (by simpa using he)
    clear he
    go_enter Try.func46, Try.ntmps46
    go_wp2_with fail
    refine HI.out.mono ?_
    rintro e w1 ⟨⟨i, rfl, hi⟩, rfl⟩
    rw [HA.out] at hi
    go_wp2
    go_ret
    exact ⟨by rw [HQ.out]; rfl, rfl⟩

/-- One file more, out of a literal, in a row of the call's own. -/
theorem app_one (w wr : World) (v : Value) (xs : List Fil) (x : Fil) (hown : Own wr w.heap.size v xs) (hb : Below w.heap.size w wr) (hl : xs.length ≤ 1000) :
    ∃ v' w', (Builtin.append_ #[22, 22] 22 #[v, .slice (some ⟨wr.heap.size, 0, none⟩) 1 1]).run Try.prog (wr.alloc (.cells (fiC x) 44)) = .ok v' w' ∧ Hid (Own w' w.heap.size v' (xs ++ [x])) ∧ Hid (Below w.heap.size w w') ∧ Hid (Fr (fun b => v.ownBlock = some b) wr w') := by
  have hbo := below1 wr (.cells (fiC x) 44)
  obtain ⟨v', w', hr, ho, hg, -⟩ := run_append_fil (wr.alloc (.cells (fiC x) 44)) 22 w.heap.size v xs (ownsRow_below hown hbo) (some ⟨wr.heap.size, 0, none⟩) 1 [x] (one_sl (row_new wr (fiC x) _)) (by simp; omega) (by have := hb.size; simp; omega)
  refine ⟨v', w', hr, Lib.hid ho, Lib.hid ((below_trans hb hbo).grown hg (by have := hb.size; simp; omega) (fun k hk => (hown.lt k hk).1)), Lib.hid ?_⟩
  exact (Fr.of_below hbo).trans (grown_fr hg)

set_option maxHeartbeats 3200000 in
set_option maxRecDepth 100000 in
theorem without_any (w : World) (a : Option Addr) (cap : Nat) (fs : List Fil) (n : BA) (an : Option Addr) (cn : Nat) (hX : SlF w (Old w) (.slice a fs.length cap) fs) (hl : fs.length ≤ 1000) (hS : SlS w (Old w) (.slice an 1 cn) [n]) :
    Calls Try.prog 41 #[.slice a fs.length cap, .slice an 1 cn] w (OwnPost (outF fs n) w) := by
  have HX := Lib.hid hX
  have HC := Lib.hid (fun W s (h : Below w.heap.size w W) => contains_any W an cn n s (hS.old h))
  obtain ⟨L, HL⟩ : ∃ L, Hid (L = fs.length) := ⟨_, Lib.hid rfl⟩
  have hL : L ≤ 1000 := by have := HL.out; omega
  rw [← HL.out] at HX ⊢
  clear hX hl hS
  go_enter Try.func41, Try.ntmps41
  go_wp2
  go_loopw [5, 10] (fun t i wr => ∃ (k : Nat) (v : Value), k ≤ L ∧ i = .int .i64 k ∧ v = t ∧ Hid (Own wr w.heap.size v (outF (fs.take k) n)) ∧ Hid (Below w.heap.size w wr)) (fun _ i _ => L - (intOf i).toNat)
  case atStart => exact ⟨0, _, Nat.zero_le _, rfl, rfl, Lib.hid (World.ownsRow_nil _ _ _ _), Lib.hid (Below.refl _ _)⟩
  case round =>
    obtain ⟨k, v, hk, rfl, rfl, HO, HB⟩ := hrel
    by_cases hlt : k < L
    · obtain ⟨x, hx⟩ : ∃ x, fs[k]? = some x := ⟨_, List.getElem?_eq_getElem (by have := HL.out; omega)⟩
      obtain ⟨b, off, rfl, -, x0, x1, x2⟩ := (HX.out.old HB.out).get hx
      have hbo := below1 wr (.cells (fiC x) 44)
      have R := row_new wr (fiC x) 44
      have d0 := R.cell (i := 0) rfl
      have d1 := R.cell (i := 1) rfl
      have d2 := R.cell (i := 2) rfl
      have HB1 := Lib.hid (below_trans HB.out hbo)
      have HO1 := Lib.hid (ownsRow_below HO.out hbo)
      have HT := Lib.hid (out_take (n := n) hx)
      have HLT : Hid ((outF (fs.take k) n).length ≤ 1000) := Lib.hid (by have := len_out (fs.take k) n; rw [List.length_take] at this; omega)
      clear hx hbo R
      obtain ⟨xn, xs, xt⟩ := x
      simp only at x0 x1 x2 d0 d1 d2 HB1 HO1 HT
      go_wp2_with fail
      generalize hW1 : wr.alloc (.cells (fiC ⟨xn, xs, xt⟩) 44) = W1 at *
      clear hW1
      refine (HC.out W1 xn HB1.out).mono ?_
      rintro e w2 ⟨rfl, rfl⟩
      by_cases he : n = xn
      · have u1 : decide (n = xn) = true := decide_eq_true he
        have HN : Hid (Own W1 w.heap.size v (outF (fs.take (k + 1)) n)) := Lib.hid (by rw [HT.out, if_pos he.symm, List.append_nil]; exact HO1.out)
        clear he
        rw [u1]
        go_wp2
        go_roundw
        case rel => exact ⟨k + 1, _, by omega, by go_num, rfl, HN, HB1⟩
        case measure => simp [intOf]; omega
      · have u1 : decide (n = xn) = false := decide_eq_false he
        rw [u1]
        obtain ⟨v', w', hr, HO2, HB2, -⟩ := app_one w W1 v _ ⟨xn, xs, xt⟩ HO1.out HB1.out HLT.out
        have HR := Lib.hid hr
        have HN : Hid (Own w' w.heap.size v' (outF (fs.take (k + 1)) n)) := Lib.hid (by rw [HT.out, if_neg (fun h => he h.symm)]; exact HO2.out)
        clear he hr u1
        go_wp2_with (at_builtin; refine Lib.wpList_append_run _ rfl _ _ _ _ rfl _ _ rfl rfl _ _ HR.out ?_)
        go_roundw
        case rel => exact ⟨k + 1, _, by omega, by go_num, rfl, HN, HB2⟩
        case measure => simp [intOf]; omega
    · have HF : Hid (Own wr w.heap.size v (outF fs n)) := Lib.hid (by have := HO.out; rwa [List.take_of_length_le (by have := HL.out; omega)] at this)
      go_wp2
      go_ret
      exact ⟨v, rfl, HF.out, HB.out⟩

set_option maxHeartbeats 3200000 in
set_option maxRecDepth 100000 in
theorem rwithout_any (w : World) (a : Option Addr) (cap : Nat) (fs : List Fil) (n : BA) (hX : SlF w (Old w) (.slice a fs.length cap) fs) (hl : fs.length ≤ 1000) :
    Calls Try.prog 27 #[.slice a fs.length cap, .string n] w (OwnPost (outF fs n) w) := by
  have HX := Lib.hid hX
  obtain ⟨L, HL⟩ : ∃ L, Hid (L = fs.length) := ⟨_, Lib.hid rfl⟩
  have hL : L ≤ 1000 := by have := HL.out; omega
  rw [← HL.out] at HX ⊢
  clear hX hl
  have HO0 : Hid (Own (w.alloc (.cells #[] 44)) w.heap.size (.slice (some ⟨w.heap.size, 0, none⟩) 0 0) (outF (fs.take 0) n)) := Lib.hid (World.ownsRow_made w #[] 0 (Nat.le_refl _) (Nat.zero_le _) (by simp))
  have HB0 := Lib.hid (below1 w (.cells #[] 44))
  go_enter Try.func27, Try.ntmps27
  go_wp2
  go_loopw [5, 11] (fun t i wr => ∃ (k : Nat) (v : Value), k ≤ L ∧ i = .int .i64 k ∧ v = t ∧ Hid (Own wr w.heap.size v (outF (fs.take k) n)) ∧ Hid (Below w.heap.size w wr)) (fun _ i _ => L - (intOf i).toNat)
  case atStart => exact ⟨0, _, Nat.zero_le _, rfl, rfl, HO0, HB0⟩
  case round =>
    obtain ⟨k, v, hk, rfl, rfl, HO, HB⟩ := hrel
    by_cases hlt : k < L
    · obtain ⟨x, hx⟩ : ∃ x, fs[k]? = some x := ⟨_, List.getElem?_eq_getElem (by have := HL.out; omega)⟩
      obtain ⟨b, off, rfl, -, x0, x1, x2⟩ := (HX.out.old HB.out).get hx
      have hbo := below1 wr (.cells (fiC x) 44)
      have R := row_new wr (fiC x) 44
      have d0 := R.cell (i := 0) rfl
      have d1 := R.cell (i := 1) rfl
      have d2 := R.cell (i := 2) rfl
      have HB1 := Lib.hid (below_trans HB.out hbo)
      have HO1 := Lib.hid (ownsRow_below HO.out hbo)
      have HT := Lib.hid (out_take (n := n) hx)
      have HLT : Hid ((outF (fs.take k) n).length ≤ 1000) := Lib.hid (by have := len_out (fs.take k) n; rw [List.length_take] at this; omega)
      clear hx hbo R
      obtain ⟨xn, xs, xt⟩ := x
      simp only at x0 x1 x2 d0 d1 d2 HB1 HO1 HT
      by_cases he : xn = n
      · have u1 : (xn.toList == n.toList) = true := str_eq he
        have u2 : (xn.toList != n.toList) = false := by rw [bne, u1]; rfl
        have HN : Hid (Own (wr.alloc (.cells (fiC ⟨xn, xs, xt⟩) 44)) w.heap.size v (outF (fs.take (k + 1)) n)) := Lib.hid (by rw [HT.out, if_pos he, List.append_nil]; exact HO1.out)
        clear he
        go_wp2
        go_roundw
        case rel => exact ⟨k + 1, _, by omega, by go_num, rfl, HN, HB1⟩
        case measure => simp [intOf]; omega
      · have u1 : (xn.toList == n.toList) = false := str_ne he
        have u2 : (xn.toList != n.toList) = true := by rw [bne, u1]; rfl
        obtain ⟨v', w', hr, HO2, HB2, -⟩ := app_one w _ v _ ⟨xn, xs, xt⟩ HO1.out HB1.out HLT.out
        have HR := Lib.hid hr
        have HN : Hid (Own w' w.heap.size v' (outF (fs.take (k + 1)) n)) := Lib.hid (by rw [HT.out, if_neg he]; exact HO2.out)
        clear he hr
        rw [World.size_alloc] at HR
        go_wp2_with (at_builtin; refine Lib.wpList_append_run _ rfl _ _ _ _ rfl _ _ rfl rfl _ _ HR.out ?_)
        go_roundw
        case rel => exact ⟨k + 1, _, by omega, by go_num, rfl, HN, HB2⟩
        case measure => simp [intOf]; omega
    · have HF : Hid (Own wr w.heap.size v (outF fs n)) := Lib.hid (by have := HO.out; rwa [List.take_of_length_le (by have := HL.out; omega)] at this)
      go_wp2
      go_ret
      exact ⟨v, rfl, HF.out, HB.out⟩

end Go.Proofs.Ytmhdodiipkkjpaa.Dk
