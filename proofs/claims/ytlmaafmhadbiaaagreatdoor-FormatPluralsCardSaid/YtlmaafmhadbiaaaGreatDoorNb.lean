/- Numbers of keys. -/
import Derived.Test.YtlmaafmhadbiaaaGreatDoorNm
import Derived.Lib.ItoaNum
import Derived.Lib.ItoaLen
import Derived.Lib.AtoiAll
namespace Go.Proofs.YtlmaafmhadbiaaaGreatDoor
open Go.RowKit

theorem nx_def (n : Nat) (c : UInt8) : nx n c = n * 10 + (c.toNat - 48) := by unfold nx; rfl
theorem fold_ge : ∀ (r : List UInt8) (n : Nat), n ≤ r.foldl nx n
  | [], _ => Nat.le_refl _
  | c :: r, n => Nat.le_trans (by rw [nx_def]; omega) (fold_ge r (nx n c))
theorem dig_iff {c : UInt8} : isDig c = true ↔ 48 ≤ c.toNat ∧ c.toNat ≤ 57 := by unfold isDig; simp
theorem dec_step {n : Nat} {c : UInt8} (hn : 0 < n) (hc : isDig c = true) : Lib.decDigits (nx n c) = Lib.decDigits n ++ [c] := by
  have h := dig_iff.1 hc
  rw [nx_def, Lib.decDigits, dif_neg (by omega), show (n * 10 + (c.toNat - 48)) / 10 = n by omega, show (n * 10 + (c.toNat - 48)) % 10 = c.toNat - 48 by omega, show 48 + (c.toNat - 48) = c.toNat by omega, UInt8.ofNat_toNat]
theorem dec_one {c : UInt8} (hc : isDig c = true) : Lib.decDigits (c.toNat - 48) = [c] := by
  have h := dig_iff.1 hc
  rw [Lib.decDigits, dif_pos (by omega), show 48 + (c.toNat - 48) = c.toNat by omega, UInt8.ofNat_toNat]
theorem dec_run : ∀ (r : List UInt8) (n : Nat), 0 < n → r.all isDig = true → Lib.decDigits (r.foldl nx n) = Lib.decDigits n ++ r
  | [], n, _, _ => by simp
  | c :: r, n, hn, h => by
    rw [List.all_cons, Bool.and_eq_true] at h
    rw [List.foldl_cons, dec_run r (nx n c) (by rw [nx_def]; omega) h.2, dec_step hn h.1]; simp
theorem numB_dec {l : List UInt8} (h : numB l = true) : l = Lib.decDigits (l.foldl nx 0) ∧ l.foldl nx 0 ≤ 1000000 := by
  cases l with
  | nil => cases h
  | cons c r =>
    unfold numB at h
    simp only [Bool.and_eq_true, decide_eq_true_eq] at h
    obtain ⟨⟨⟨h1, h2⟩, h3⟩, h4⟩ := h
    rw [List.all_cons, Bool.and_eq_true] at h1
    refine ⟨?_, h4⟩
    have hd := dig_iff.1 h1.1
    have e0 : nx 0 c = c.toNat - 48 := by rw [nx_def]; omega
    rw [List.foldl_cons, e0]
    by_cases h48 : c = 48
    · subst h48
      have : r = [] := by simpa using h2
      subst this
      rw [List.foldl_nil]; exact (dec_one h1.1).symm
    · have : c.toNat ≠ 48 := fun e => h48 (UInt8.toNat_inj.1 e)
      rw [dec_run r _ (by omega) h1.2, dec_one h1.1]; rfl
theorem nd_le : ∀ (k u : Nat), u < 10 ^ (k + 1) → Lib.nDigits u ≤ k + 1
  | 0, u, h => by rw [Lib.nDigits_small (by simpa using h)]; omega
  | k + 1, u, h => by
    by_cases h10 : u < 10
    · rw [Lib.nDigits_small h10]; omega
    · rw [Lib.nDigits_big h10]
      have := nd_le k (u / 10) (by rw [Nat.pow_succ] at h; omega)
      omega
theorem dig_ofNat {d : Nat} (h : d < 10) : isDig (UInt8.ofNat (48 + d)) = true ∧ (UInt8.ofNat (48 + d)).toNat = 48 + d := by
  have : (UInt8.ofNat (48 + d)).toNat = 48 + d := by rw [UInt8.toNat_ofNat']; omega
  exact ⟨by rw [dig_iff, this]; omega, this⟩
theorem dec_facts (u : Nat) : (Lib.decDigits u).all isDig = true ∧ (Lib.decDigits u).foldl nx 0 = u ∧ 1 ≤ (Lib.decDigits u).length ∧ (0 < u → (Lib.decDigits u).head? ≠ some 48) := by
  induction u using Nat.strongRecOn with
  | _ u ih =>
    rw [Lib.decDigits]
    by_cases h : u < 10
    · rw [dif_pos h]
      obtain ⟨h1, h2⟩ := dig_ofNat h
      refine ⟨by simpa using h1, ?_, by simp, fun h0 hh => ?_⟩
      · rw [List.foldl_cons, List.foldl_nil, nx_def, h2]; omega
      · simp only [List.head?_cons, Option.some.injEq] at hh
        rw [hh] at h2
        have : (48 : UInt8).toNat = 48 := rfl
        omega
    · rw [dif_neg h]
      obtain ⟨i1, i2, i3, i4⟩ := ih (u / 10) (by omega)
      obtain ⟨h1, h2⟩ := dig_ofNat (show u % 10 < 10 by omega)
      refine ⟨by rw [List.all_append, i1]; simpa using h1, ?_, by simp, fun _ => ?_⟩
      · rw [List.foldl_append, i2, List.foldl_cons, List.foldl_nil, nx_def, h2]; omega
      · rw [List.head?_append]
        cases hh : (Lib.decDigits (u / 10)).head? with
        | none => rw [List.head?_eq_none_iff] at hh; rw [hh] at i3; simp at i3
        | some c => rw [hh] at i4; simpa using i4 (by omega)
theorem dec_numB {v : Nat} (h : v ≤ 1000000) : numB (Lib.decDigits v) = true := by
  obtain ⟨h1, h2, h3, h4⟩ := dec_facts v
  have h5 : (Lib.decDigits v).length ≤ 7 := by rw [Lib.decDigits_length]; exact nd_le 6 v (by omega)
  by_cases h0 : v = 0
  · subst h0; rw [Lib.decDigits_one (by omega)]; decide
  · have h4 := h4 (by omega)
    generalize Lib.decDigits v = l at *
    cases l with
    | nil => simp at h3
    | cons c r =>
      unfold numB
      simp only [Bool.and_eq_true, decide_eq_true_eq]
      refine ⟨⟨⟨h1, ?_⟩, by simp at h5; omega⟩, by omega⟩
      have : c ≠ 48 := fun e => h4 (by rw [e]; rfl)
      simp [this]
theorem parse_run : ∀ (r : List UInt8) (n : Nat), r.all isDig = true → r.foldl nx n ≤ 1000000 → Lib.parseUint10 n r = .ok (r.foldl nx n)
  | [], n, _, _ => rfl
  | c :: r, n, h, hm => by
    rw [List.all_cons, Bool.and_eq_true] at h
    have hd := dig_iff.1 h.1
    rw [List.foldl_cons] at hm
    have g1 := fold_ge r (nx n c)
    have e0 := nx_def n c
    rw [Lib.parseUint10, if_pos hd, if_neg (by omega), if_neg (by omega), List.foldl_cons, ← e0]
    exact parse_run r (nx n c) h.2 hm
theorem atoi_num {l : List UInt8} (h : numB l = true) : Lib.atoiAll l = .ok ((l.foldl nx 0 : Nat) : Int) ∧ Lib.itoa ((l.foldl nx 0 : Nat) : Int) = l := by
  obtain ⟨h1, h2⟩ := numB_dec h
  refine ⟨?_, by unfold Lib.itoa; rw [if_neg (by omega)]; exact h1.symm⟩
  cases l with
  | nil => cases h
  | cons c r =>
    unfold numB at h
    simp only [Bool.and_eq_true] at h
    have ha := h.1.1.1
    have ha2 := ha
    rw [List.all_cons, Bool.and_eq_true] at ha
    have hd := dig_iff.1 ha.1
    unfold Lib.atoiAll
    simp only
    rw [if_neg (by omega)]
    unfold Lib.parseMag
    rw [if_neg (by simp), parse_run _ 0 ha2 h2]
    simp only
    rw [if_neg (by omega), if_neg (by omega), if_neg (by omega)]
/-- A numeral that is written back is a number of a key. -/
theorem itoa_num {l : List UInt8} {v : Int} (h0 : 0 ≤ v) (h1 : v ≤ 1000000) (h : Lib.itoa v = l) : numB l = true := by
  subst h
  unfold Lib.itoa
  rw [if_neg (by omega)]
  exact dec_numB (by omega)

/-- The variables that the reader of numbers wants. -/
structure EnvW (w : World) : Prop where
  tab : Lib.TabIs Tryz.prog w "internal/strconv.uint64pow10" .u64 Lib.pow10Tab
  syn : ∃ tp p, w.cell? ⟨4, 0, none⟩ = some (.iface tp p)
  rng : ∃ tp p, w.cell? ⟨5, 0, none⟩ = some (.iface tp p)
theorem cell_lt {w : World} {b i : Nat} {v : Value} (h : w.cell? ⟨b, i, none⟩ = some v) : b < w.heap.size := by
  rcases Nat.lt_or_ge b w.heap.size with h' | h'
  · exact h'
  · simp [World.cell?, Array.getElem?_eq_none h'] at h
theorem EnvW.below {w w' : World} (h : EnvW w) (hb : Below w.heap.size w w') : EnvW w' := by
  obtain ⟨h1, ⟨t2, p2, h2⟩, ⟨t3, p3, h3⟩⟩ := h
  exact ⟨Lib.tabBelow_of_tabIs h1 w' hb, ⟨t2, p2, (World.cell?_of_block (hb.block 4 (cell_lt h2))).trans h2⟩, ⟨t3, p3, (World.cell?_of_block (hb.block 5 (cell_lt h3))).trans h3⟩⟩
/-- So, in a world where a block behind all that was there may be written. -/
def Env (w : World) (rb : Nat) : Prop := ∃ W, EnvW W ∧ Below W.heap.size W w ∧ W.heap.size ≤ rb
theorem Env.env {w : World} {rb : Nat} (h : Env w rb) : EnvW w := by
  obtain ⟨W, h1, h2, -⟩ := h
  exact h1.below h2
theorem Env.fr {w w' : World} {rb : Nat} (h : Env w rb) (hf : Fr (· = rb) w w') : Env w' rb := by
  obtain ⟨W, h1, h2, h3⟩ := h
  exact ⟨W, h1, Fr.to_below h2 hf h3, h3⟩
theorem Env.below {w w' : World} {rb : Nat} (h : Env w rb) (hf : Below w.heap.size w w') : Env w' rb := by
  obtain ⟨W, h1, h2, h3⟩ := h
  exact ⟨W, h1, h2.trans (hf.mono h2.size), h3⟩
theorem Env.same {w w' : World} {rb : Nat} (h : Env w rb) (hf : Same w w') : Env w' rb := h.below hf.below
theorem below_bytes (w : World) (t : ByteArray) : Below w.heap.size w (Lib.bytesWorld w 5 t) := Lib.bytesWorld_below w 5 t
theorem below_grow (w : World) (k : Nat) (os : Array Obj) : Below w.heap.size w (Sort.grow (w.drewN k) os) :=
  ⟨rfl, rfl, rfl, by show w.heap.size ≤ (w.heap ++ os).size; simp, fun i hi => by show (w.heap ++ os)[i]? = _; rw [Array.getElem?_append_left hi]⟩
theorem itoa_str {v : Int} {t : BA} (h : Lib.itoa v = t.data.toList) : (⟨(Lib.itoa v).toArray⟩ : BA) = t := by rw [h]

set_option maxHeartbeats 1600000 in
set_option maxRecDepth 100000 in
theorem number_any (t : BA) (w : World) (ht : t.size ≤ 140737488351232) (hE : EnvW w) : Calls Tryz.prog 73 #[.string t] w fun e w' => e = .returned (.bool (numB t.data.toList)) ∧ Below w.heap.size w w' := by
  rcases ha : Lib.atoiAll t.data.toList with v | _ | _
  · have HC := Lib.hid (Tryz.strconv_Atoi_ok t (by omega) v ha w)
    have HEN := Lib.hid hE
    clear hE
    have hbw : ∀ w', (w' = w ∨ ∃ t, w' = Lib.bytesWorld w 5 t) → Below w.heap.size w w' := fun w' h => by
      rcases h with rfl | ⟨t, rfl⟩
      · exact Below.refl _ _
      · exact below_bytes w t
    by_cases h0 : 0 ≤ v
    · by_cases h1 : v ≤ 1000000
      · have HI := Lib.hid (fun w1 (h : EnvW w1) => Tryz.strconv_Itoa v (by omega) (by omega) w1 h.tab)
        by_cases hi : Lib.itoa v = t.data.toList
        · have HE := Lib.hid (itoa_num h0 h1 hi)
          have HS := Lib.hid (itoa_str hi)
          clear ha hi
          go_enter Tryz.func73, Tryz.ntmps73
          go_wp2_with fail
          refine HC.out.mono ?_
          rintro e w1 ⟨rfl, hw1⟩
          have HB := Lib.hid (hbw w1 hw1)
          clear hw1 HC hbw
          go_wp2_with fail
          refine (HI.out _ (HEN.out.below HB.out)).mono ?_
          rintro e w2 ⟨rfl, k, os, rfl⟩
          have HB2 := Lib.hid (below_trans HB.out (below_grow w1 k os))
          generalize Go.Sort.grow (w1.drewN k) os = w3 at *
          rw [HS.out]
          go_wp2
          go_ret
          exact ⟨by rw [HE.out]; rfl, HB2.out⟩
        · have HE : Hid (numB t.data.toList = false) := Lib.hid (by
            cases hb : numB t.data.toList with
            | false => rfl
            | true =>
              obtain ⟨q1, q2⟩ := atoi_num hb
              rw [q1] at ha
              injection ha with ha
              rw [ha] at q2
              exact absurd q2 hi)
          have hB : ((⟨(Lib.itoa v).toArray⟩ : BA).toList == t.toList) = false := by
            rw [beq_eq_false_iff_ne, ByteArray.toList_eq, ByteArray.toList_eq]; exact hi
          clear ha hi
          go_enter Tryz.func73, Tryz.ntmps73
          go_wp2_with fail
          refine HC.out.mono ?_
          rintro e w1 ⟨rfl, hw1⟩
          have HB := Lib.hid (hbw w1 hw1)
          clear hw1 HC hbw
          go_wp2_with fail
          refine (HI.out _ (HEN.out.below HB.out)).mono ?_
          rintro e w2 ⟨rfl, k, os, rfl⟩
          have HB2 := Lib.hid (below_trans HB.out (below_grow w1 k os))
          generalize Go.Sort.grow (w1.drewN k) os = w3 at *
          generalize (⟨(Lib.itoa v).toArray⟩ : BA) = R at *
          go_wp2
          go_ret
          exact ⟨by rw [HE.out]; first | rfl | (simp [hB]), HB2.out⟩
      · have HE : Hid (numB t.data.toList = false) := Lib.hid (by
          cases hb : numB t.data.toList with
          | false => rfl
          | true =>
            obtain ⟨q1, q2⟩ := atoi_num hb
            have := (numB_dec hb).2
            rw [q1] at ha
            injection ha with ha
            omega)
        clear ha
        go_enter Tryz.func73, Tryz.ntmps73
        go_wp2_with fail
        refine HC.out.mono ?_
        rintro e w1 ⟨rfl, hw1⟩
        have HB := Lib.hid (hbw w1 hw1)
        clear hw1 HC hbw
        go_wp2
        go_ret
        exact ⟨by rw [HE.out]; rfl, HB.out⟩
    · have HE : Hid (numB t.data.toList = false) := Lib.hid (by
        cases hb : numB t.data.toList with
        | false => rfl
        | true =>
          obtain ⟨q1, q2⟩ := atoi_num hb
          rw [q1] at ha
          injection ha with ha
          omega)
      clear ha
      go_enter Tryz.func73, Tryz.ntmps73
      go_wp2_with fail
      refine HC.out.mono ?_
      rintro e w1 ⟨rfl, hw1⟩
      have HB := Lib.hid (hbw w1 hw1)
      clear hw1 HC hbw
      go_wp2
      go_ret
      exact ⟨by rw [HE.out]; rfl, HB.out⟩
  · have HE : Hid (numB t.data.toList = false) := Lib.hid (by
      cases hb : numB t.data.toList with
      | false => rfl
      | true => rw [(atoi_num hb).1] at ha; cases ha)
    obtain ⟨tp, p, hv⟩ := hE.syn
    have HC := Lib.hid (Tryz.strconv_Atoi_syntax t (by omega) ⟨fun e => by (rw [ha] at e; cases e), fun v e => by (rw [ha] at e; cases e)⟩ _ w hv (.inr ⟨tp, p, rfl⟩))
    clear ha hE hv
    go_enter Tryz.func73, Tryz.ntmps73
    go_wp2_with fail
    refine HC.out.mono ?_
    rintro e w1 ⟨M, rfl, -, -, hb⟩
    have HB := Lib.hid hb
    clear hb HC
    go_wp2
    go_ret
    exact ⟨by rw [HE.out]; rfl, HB.out⟩
  · have HE : Hid (numB t.data.toList = false) := Lib.hid (by
      cases hb : numB t.data.toList with
      | false => rfl
      | true => rw [(atoi_num hb).1] at ha; cases ha)
    obtain ⟨tp, p, hv⟩ := hE.rng
    have HC := Lib.hid (Tryz.strconv_Atoi_range t (by omega) ha _ w hv (.inr ⟨tp, p, rfl⟩))
    clear ha hE hv
    go_enter Tryz.func73, Tryz.ntmps73
    go_wp2_with fail
    refine HC.out.mono ?_
    rintro e w1 ⟨M, rfl, -, -, hb⟩
    have HB := Lib.hid hb
    clear hb HC
    go_wp2
    go_ret
    exact ⟨by rw [HE.out]; rfl, HB.out⟩
end Go.Proofs.YtlmaafmhadbiaaaGreatDoor
