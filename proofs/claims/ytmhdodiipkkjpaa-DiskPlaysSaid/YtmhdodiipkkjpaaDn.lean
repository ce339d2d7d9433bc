/- Package disk: which names may be; the document's. -/
import Derived.Test.YtmhdodiipkkjpaaDe
import Derived.Laws.EntriesVeiled
namespace Go.Proofs.Ytmhdodiipkkjpaa.Dk
open Go.RowKit

def CS (s : BA) (cs : List Value) : Prop := cs = [.string s]
/-- Names in memory. -/
abbrev SlS (w : World) (S : Nat → Prop) (v : Value) (xs : List BA) : Prop := Sl 1 CS w S v xs
theorem SlS.len {w : World} {S : Nat → Prop} {a : Option Addr} {n cap : Nat} {xs : List BA} (h : SlS w S (.slice a n cap) xs) : n = xs.length ∧ xs.length ≤ cap ∧ cap ≤ 9223372036854775807 := by
  obtain ⟨a', cap', hv, h1, h2, -⟩ := h
  injection hv with _ h3 h4
  exact ⟨h3, by omega, by omega⟩
theorem SlS.get {w : World} {S : Nat → Prop} {a : Option Addr} {n cap : Nat} {xs : List BA} (h : SlS w S (.slice a n cap) xs) {j : Nat} {x : BA} (hx : xs[j]? = some x) : ∃ b off, a = some ⟨b, off, none⟩ ∧ S b ∧ w.cell? ⟨b, off + j, none⟩ = some (.string x) := by
  obtain ⟨a', cap', hv, h1, h2, h3⟩ := h
  injection hv with h4 _ _
  subst h4
  obtain ⟨b, off, ha, hb, hat⟩ := h3 (fun e => by subst e; simp at hx)
  obtain ⟨cs, -, rfl, hc⟩ := hat j x hx
  have := hc 0 _ rfl
  rw [Nat.mul_one] at this
  exact ⟨b, off, ha, hb, this⟩
theorem SlS.old {w w' : World} {v : Value} {xs : List BA} (h : SlS w (Old w) v xs) (hb : Below w.heap.size w w') : SlS w' (Old w') v xs := Sl.keep h (fun b hb2 => hb.block b hb2) (fun _ h => Nat.lt_of_lt_of_le h hb.size) (fun _ _ h => h)
theorem SlS.one (w : World) (s : BA) (t : TypeId) : SlS (w.alloc (.cells #[.string s] t)) (Old (w.alloc (.cells #[.string s] t))) (.slice (some ⟨w.heap.size, 0, none⟩) 1 1) [s] :=
  ⟨_, 1, rfl, Nat.le_refl _, by omega, fun _ => ⟨w.heap.size, 0, rfl, by simp, fun j x hj => by
    cases j with
    | zero =>
      obtain rfl : s = x := by simpa using hj
      refine ⟨_, rfl, rfl, fun i u hu => ?_⟩
      cases i with
      | zero =>
        obtain rfl := Option.some.inj hu
        exact (row_new w #[.string s] t).cell rfl
      | succ i => simp at hu
    | succ j => simp at hj⟩⟩
theorem SlS.none (w : World) (S : Nat → Prop) : SlS w S (.slice none 0 0) [] := Sl.nil _ _ _ _
def ncN (n : Nat) : Bool := (decide (97 ≤ n) && decide (n ≤ 122)) || (decide (48 ≤ n) && decide (n ≤ 57)) || decide (n = 46)
theorem nc_eq (c : UInt8) : isNc c = ncN c.toNat := by
  have h : ∀ d : UInt8, (c == d) = decide (c.toNat = d.toNat) := fun d => by
    rw [Bool.eq_iff_iff, beq_iff_eq, decide_eq_true_eq, UInt8.toNat_inj]
  unfold isNc ncN
  rw [h]; rfl
theorem nms_take {ns : List BA} {k : Nat} {s : BA} (h : ns[k]? = some s) : nmsB (ns.take (k + 1)) = (nmsB (ns.take k) && nmB s) := by
  unfold nmsB
  rw [List.take_add_one, h, List.all_append]; simp
theorem nms_no {ns : List BA} {s : BA} (h : s ∈ ns) (hn : nmB s = false) : nmsB ns = false := by
  unfold nmsB
  rw [List.all_eq_false]
  exact ⟨s, h, by rw [hn]; simp⟩
theorem nm_no {s : BA} {k : Nat} {c : UInt8} (h : s.data.toList[k]? = some c) (hc : isNc c = false) : nmB s = false := by
  have : s.data.toList.all isNc = false := by
    rw [List.all_eq_false]
    exact ⟨c, List.mem_of_getElem? h, by rw [hc]; simp⟩
  unfold nmB
  rw [this, Bool.and_false]
theorem nm_long {s : BA} (h : ¬ (1 ≤ s.size ∧ s.size ≤ 16)) : nmB s = false := by
  unfold nmB
  by_cases h1 : 1 ≤ s.size
  · rw [decide_eq_false (show ¬ s.size ≤ 16 from fun h2 => h ⟨h1, h2⟩)]; simp
  · rw [decide_eq_false h1]; simp
theorem nm_yes {s : BA} (h1 : 1 ≤ s.size) (h2 : s.size ≤ 16) (h : s.data.toList.all isNc = true) : nmB s = true := by
  unfold nmB
  rw [decide_eq_true h1, decide_eq_true h2, h]; rfl
theorem all_take {s : BA} {k : Nat} (h : k < s.size) (ha : (s.data.toList.take k).all isNc = true) : (s.data.toList.take (k + 1)).all isNc = isNc s[k] := by
  rw [List.take_add_one, get_of s k h, List.all_append, ha]; simp

set_option maxHeartbeats 1600000 in
theorem rightByte_any (c : UInt8) (w : World) : Calls Try.prog 47 #[.int .u8 c.toNat] w fun e w' => e = .returned (.bool (isNc c)) ∧ w = w' := by
  rw [nc_eq]
  have hc := c.toNat_lt
  obtain ⟨n, hn⟩ : ∃ n, n = c.toNat := ⟨_, rfl⟩
  rw [← hn] at hc ⊢
  clear hn
  rcases (show (n < 46) ∨ (n = 46) ∨ (n = 47) ∨ (48 ≤ n ∧ n ≤ 57) ∨ (57 < n ∧ n < 97) ∨ (97 ≤ n ∧ n ≤ 122) ∨ (122 < n) by omega) with h | h | h | h | h | h | h
  · have e : ncN n = false := by unfold ncN; simp; omega
    rw [e]; clear e
    have h46 : ((n : Int) == 46) = false := by rw [beq_eq_false_iff_ne]; omega
    have u122 : decide ((n : Int) ≤ 122) = true := decide_eq_true (by omega)
    have u57 : decide ((n : Int) ≤ 57) = true := decide_eq_true (by omega)
    have l97 : decide (97 ≤ (n : Int)) = false := decide_eq_false (by omega)
    have l48 : decide (48 ≤ (n : Int)) = false := decide_eq_false (by omega)
    clear h
    go_enter Try.func47, Try.ntmps47
    go_wp2
    go_ret
    exact ⟨rfl, rfl⟩
  · have e : ncN n = true := by unfold ncN; simp; omega
    rw [e]; clear e
    have h46 : ((n : Int) == 46) = true := by rw [beq_iff_eq]; omega
    have u122 : decide ((n : Int) ≤ 122) = true := decide_eq_true (by omega)
    have u57 : decide ((n : Int) ≤ 57) = true := decide_eq_true (by omega)
    have l97 : decide (97 ≤ (n : Int)) = false := decide_eq_false (by omega)
    have l48 : decide (48 ≤ (n : Int)) = false := decide_eq_false (by omega)
    clear h
    go_enter Try.func47, Try.ntmps47
    go_wp2
    go_ret
    exact ⟨rfl, rfl⟩
  · have e : ncN n = false := by unfold ncN; simp; omega
    rw [e]; clear e
    have h46 : ((n : Int) == 46) = false := by rw [beq_eq_false_iff_ne]; omega
    have u122 : decide ((n : Int) ≤ 122) = true := decide_eq_true (by omega)
    have u57 : decide ((n : Int) ≤ 57) = true := decide_eq_true (by omega)
    have l97 : decide (97 ≤ (n : Int)) = false := decide_eq_false (by omega)
    have l48 : decide (48 ≤ (n : Int)) = false := decide_eq_false (by omega)
    clear h
    go_enter Try.func47, Try.ntmps47
    go_wp2
    go_ret
    exact ⟨rfl, rfl⟩
  · have e : ncN n = true := by unfold ncN; simp; omega
    rw [e]; clear e
    have h46 : ((n : Int) == 46) = false := by rw [beq_eq_false_iff_ne]; omega
    have u122 : decide ((n : Int) ≤ 122) = true := decide_eq_true (by omega)
    have u57 : decide ((n : Int) ≤ 57) = true := decide_eq_true (by omega)
    have l97 : decide (97 ≤ (n : Int)) = false := decide_eq_false (by omega)
    have l48 : decide (48 ≤ (n : Int)) = true := decide_eq_true (by omega)
    clear h
    go_enter Try.func47, Try.ntmps47
    go_wp2
    go_ret
    exact ⟨rfl, rfl⟩
  · have e : ncN n = false := by unfold ncN; simp; omega
    rw [e]; clear e
    have h46 : ((n : Int) == 46) = false := by rw [beq_eq_false_iff_ne]; omega
    have u122 : decide ((n : Int) ≤ 122) = true := decide_eq_true (by omega)
    have u57 : decide ((n : Int) ≤ 57) = false := decide_eq_false (by omega)
    have l97 : decide (97 ≤ (n : Int)) = false := decide_eq_false (by omega)
    have l48 : decide (48 ≤ (n : Int)) = true := decide_eq_true (by omega)
    clear h
    go_enter Try.func47, Try.ntmps47
    go_wp2
    go_ret
    exact ⟨rfl, rfl⟩
  · have e : ncN n = true := by unfold ncN; simp; omega
    rw [e]; clear e
    have h46 : ((n : Int) == 46) = false := by rw [beq_eq_false_iff_ne]; omega
    have u122 : decide ((n : Int) ≤ 122) = true := decide_eq_true (by omega)
    have u57 : decide ((n : Int) ≤ 57) = false := decide_eq_false (by omega)
    have l97 : decide (97 ≤ (n : Int)) = true := decide_eq_true (by omega)
    have l48 : decide (48 ≤ (n : Int)) = true := decide_eq_true (by omega)
    clear h
    go_enter Try.func47, Try.ntmps47
    go_wp2
    go_ret
    exact ⟨rfl, rfl⟩
  · have e : ncN n = false := by unfold ncN; simp; omega
    rw [e]; clear e
    have h46 : ((n : Int) == 46) = false := by rw [beq_eq_false_iff_ne]; omega
    have u122 : decide ((n : Int) ≤ 122) = false := decide_eq_false (by omega)
    have u57 : decide ((n : Int) ≤ 57) = false := decide_eq_false (by omega)
    have l97 : decide (97 ≤ (n : Int)) = true := decide_eq_true (by omega)
    have l48 : decide (48 ≤ (n : Int)) = true := decide_eq_true (by omega)
    clear h
    go_enter Try.func47, Try.ntmps47
    go_wp2
    go_ret
    exact ⟨rfl, rfl⟩

set_option maxHeartbeats 3200000 in
theorem rightNames_any (w : World) (a : Option Addr) (cap : Nat) (ns : List BA) (hS : SlS w (Old w) (.slice a ns.length cap) ns) (hf : ∀ s, s ∈ ns → s.size ≤ 140737488351232) :
    Calls Try.prog 43 #[.slice a ns.length cap] w fun e w' => e = .returned (.bool (nmsB ns)) ∧ w = w' := by
  have hl := hS.len
  have HS := Lib.hid hS
  have HF := Lib.hid hf
  obtain ⟨L, HL⟩ : ∃ L, Hid (L = ns.length) := ⟨_, Lib.hid rfl⟩
  have hL : L ≤ 9223372036854775807 := by have := HL.out; omega
  rw [← HL.out] at HS ⊢
  clear hS hf hl
  go_enter Try.func43, Try.ntmps43
  go_wp2
  go_loop [8] (fun i => ∃ k : Nat, k ≤ L ∧ i = .int .i64 k ∧ Hid (nmsB (ns.take k) = true)) (fun i => L - (intOf i).toNat)
  case atStart => exact ⟨0, Nat.zero_le _, rfl, Lib.hid rfl⟩
  case round =>
    obtain ⟨k, hk, rfl, HA⟩ := hrel
    by_cases hlt : k < L
    · obtain ⟨s, hs⟩ : ∃ s, ns[k]? = some s := ⟨_, List.getElem?_eq_getElem (by have := HL.out; omega)⟩
      obtain ⟨b, off, rfl, -, x0⟩ := HS.out.get hs
      have hsz := HF.out s (List.mem_of_getElem? hs)
      have HN : Hid (nmsB (ns.take (k + 1)) = nmB s) := Lib.hid (by rw [nms_take hs, HA.out]; rfl)
      have HX : Hid (nmB s = false → nmsB ns = false) := Lib.hid (nms_no (List.mem_of_getElem? hs))
      clear hs
      by_cases h1 : 1 ≤ s.size
      · by_cases h2 : s.size ≤ 16
        · have u1 : decide ((s.size : Int) < 1) = false := decide_eq_false (by omega)
          have u2 : decide (16 < (s.size : Int)) = false := decide_eq_false (by omega)
          have H1 := Lib.hid h1
          have H2 := Lib.hid h2
          clear h1 h2
          go_wp2
          go_loop [22] (fun i => ∃ j : Nat, j ≤ s.size ∧ i = .int .i64 j ∧ Hid ((s.data.toList.take j).all isNc = true)) (fun i => s.size - (intOf i).toNat)
          case atStart => exact ⟨0, Nat.zero_le _, rfl, Lib.hid rfl⟩
          case round =>
            obtain ⟨j, hj, rfl, HB⟩ := hrel
            by_cases hjl : j < s.size
            · have HT := Lib.hid (all_take hjl HB.out)
              have HQ := Lib.hid (nm_no (get_of s j hjl))
              have HC := Lib.hid (rightByte_any s[j] w)
              obtain ⟨q, Hq⟩ : ∃ q, Hid (q = isNc s[j]) := ⟨_, Lib.hid rfl⟩
              rw [← Hq.out] at HT HQ HC
              cases q with
              | true =>
                go_wp2_with fail
                refine HC.out.mono ?_
                rintro e w1 ⟨rfl, rfl⟩
                go_wp2
                go_round
                case rel => exact ⟨j + 1, by omega, by go_num, HT⟩
                case measure => simp [intOf]; omega
              | false =>
                go_wp2_with fail
                refine HC.out.mono ?_
                rintro e w1 ⟨rfl, rfl⟩
                go_wp2
                go_ret
                exact ⟨by rw [HX.out (HQ.out trivial)]; rfl, rfl⟩
            · have HV : Hid (nmB s = true) := Lib.hid (nm_yes H1.out H2.out (by
                have := HB.out; rwa [List.take_of_length_le (by rw [len_list]; omega)] at this))
              go_wp2
              go_round
              case rel => exact ⟨k + 1, by omega, by go_num, Lib.hid (by rw [HN.out, HV.out])⟩
              case measure => simp [intOf]; omega
        · have u1 : decide ((s.size : Int) < 1) = false := decide_eq_false (by omega)
          have u2 : decide (16 < (s.size : Int)) = true := decide_eq_true (by omega)
          have HV : Hid (nmB s = false) := Lib.hid (nm_long (fun h => h2 h.2))
          go_wp2
          go_ret
          exact ⟨by rw [HX.out HV.out]; rfl, rfl⟩
      · have u1 : decide ((s.size : Int) < 1) = true := decide_eq_true (by omega)
        have HV : Hid (nmB s = false) := Lib.hid (nm_long (fun h => h1 h.1))
        go_wp2
        go_ret
        exact ⟨by rw [HX.out HV.out]; rfl, rfl⟩
    · have HK : Hid (nmsB ns = true) := Lib.hid (by
        have := HA.out; rwa [List.take_of_length_le (by have := HL.out; omega)] at this)
      go_wp2
      go_ret
      exact ⟨by rw [HK.out]; rfl, rfl⟩

set_option maxHeartbeats 3200000 in
theorem rname_any (s : BA) (w : World) (hs : s.size ≤ 140737488351232) : Calls Try.prog 19 #[.string s] w fun e w' => e = .returned (.bool (nmB s)) ∧ w = w' := by
  go_enter Try.func19, Try.ntmps19
  go_wp2
  go_loop [3] (fun i => ∃ k : Nat, k ≤ s.size ∧ i = .int .i64 k ∧ Hid ((s.data.toList.take k).all isNc = true)) (fun i => s.size - (intOf i).toNat)
  case atStart => exact ⟨0, Nat.zero_le _, rfl, Lib.hid rfl⟩
  case round =>
    obtain ⟨k, hk, rfl, HA⟩ := hrel
    by_cases hlt : k < s.size
    · have HT := Lib.hid (all_take hlt HA.out)
      have HQ := Lib.hid (nm_no (get_of s k hlt))
      have HKC := Lib.hid (nc_eq s[k])
      have hc := (s[k]).toNat_lt
      rcases (show (s[k].toNat < 46) ∨ (s[k].toNat = 46) ∨ (s[k].toNat = 47) ∨ (48 ≤ s[k].toNat ∧ s[k].toNat ≤ 57) ∨ (57 < s[k].toNat ∧ s[k].toNat < 97) ∨ (97 ≤ s[k].toNat ∧ s[k].toNat ≤ 122) ∨ (122 < s[k].toNat) by omega) with h | h | h | h | h | h | h
      · have HV : Hid (isNc s[k] = false) := Lib.hid (by rw [HKC.out]; unfold ncN; simp; omega)
        have h46 : ((s[k].toNat : Int) == 46) = false := by rw [beq_eq_false_iff_ne]; omega
        have u122 : decide ((s[k].toNat : Int) ≤ 122) = true := decide_eq_true (by omega)
        have u57 : decide ((s[k].toNat : Int) ≤ 57) = true := decide_eq_true (by omega)
        have l97 : decide (97 ≤ (s[k].toNat : Int)) = false := decide_eq_false (by omega)
        have l48 : decide (48 ≤ (s[k].toNat : Int)) = false := decide_eq_false (by omega)
        clear h
        go_wp2
        go_ret
        exact ⟨by rw [HQ.out HV.out]; rfl, rfl⟩
      · have HV : Hid (isNc s[k] = true) := Lib.hid (by rw [HKC.out]; unfold ncN; simp; omega)
        have h46 : ((s[k].toNat : Int) == 46) = true := by rw [beq_iff_eq]; omega
        have u122 : decide ((s[k].toNat : Int) ≤ 122) = true := decide_eq_true (by omega)
        have u57 : decide ((s[k].toNat : Int) ≤ 57) = true := decide_eq_true (by omega)
        have l97 : decide (97 ≤ (s[k].toNat : Int)) = false := decide_eq_false (by omega)
        have l48 : decide (48 ≤ (s[k].toNat : Int)) = false := decide_eq_false (by omega)
        clear h
        go_wp2
        go_round
        case rel => exact ⟨k + 1, by omega, by go_num, Lib.hid (by rw [HT.out, HV.out])⟩
        case measure => simp [intOf]; omega
      · have HV : Hid (isNc s[k] = false) := Lib.hid (by rw [HKC.out]; unfold ncN; simp; omega)
        have h46 : ((s[k].toNat : Int) == 46) = false := by rw [beq_eq_false_iff_ne]; omega
        have u122 : decide ((s[k].toNat : Int) ≤ 122) = true := decide_eq_true (by omega)
        have u57 : decide ((s[k].toNat : Int) ≤ 57) = true := decide_eq_true (by omega)
        have l97 : decide (97 ≤ (s[k].toNat : Int)) = false := decide_eq_false (by omega)
        have l48 : decide (48 ≤ (s[k].toNat : Int)) = false := decide_eq_false (by omega)
        clear h
        go_wp2
        go_ret
        exact ⟨by rw [HQ.out HV.out]; rfl, rfl⟩
      · have HV : Hid (isNc s[k] = true) := Lib.hid (by rw [HKC.out]; unfold ncN; simp; omega)
        have h46 : ((s[k].toNat : Int) == 46) = false := by rw [beq_eq_false_iff_ne]; omega
        have u122 : decide ((s[k].toNat : Int) ≤ 122) = true := decide_eq_true (by omega)
        have u57 : decide ((s[k].toNat : Int) ≤ 57) = true := decide_eq_true (by omega)
        have l97 : decide (97 ≤ (s[k].toNat : Int)) = false := decide_eq_false (by omega)
        have l48 : decide (48 ≤ (s[k].toNat : Int)) = true := decide_eq_true (by omega)
        clear h
        go_wp2
        go_round
        case rel => exact ⟨k + 1, by omega, by go_num, Lib.hid (by rw [HT.out, HV.out])⟩
        case measure => simp [intOf]; omega
      · have HV : Hid (isNc s[k] = false) := Lib.hid (by rw [HKC.out]; unfold ncN; simp; omega)
        have h46 : ((s[k].toNat : Int) == 46) = false := by rw [beq_eq_false_iff_ne]; omega
        have u122 : decide ((s[k].toNat : Int) ≤ 122) = true := decide_eq_true (by omega)
        have u57 : decide ((s[k].toNat : Int) ≤ 57) = false := decide_eq_false (by omega)
        have l97 : decide (97 ≤ (s[k].toNat : Int)) = false := decide_eq_false (by omega)
        have l48 : decide (48 ≤ (s[k].toNat : Int)) = true := decide_eq_true (by omega)
        clear h
        go_wp2
        go_ret
        exact ⟨by rw [HQ.out HV.out]; rfl, rfl⟩
      · have HV : Hid (isNc s[k] = true) := Lib.hid (by rw [HKC.out]; unfold ncN; simp; omega)
        have h46 : ((s[k].toNat : Int) == 46) = false := by rw [beq_eq_false_iff_ne]; omega
        have u122 : decide ((s[k].toNat : Int) ≤ 122) = true := decide_eq_true (by omega)
        have u57 : decide ((s[k].toNat : Int) ≤ 57) = false := decide_eq_false (by omega)
        have l97 : decide (97 ≤ (s[k].toNat : Int)) = true := decide_eq_true (by omega)
        have l48 : decide (48 ≤ (s[k].toNat : Int)) = true := decide_eq_true (by omega)
        clear h
        go_wp2
        go_round
        case rel => exact ⟨k + 1, by omega, by go_num, Lib.hid (by rw [HT.out, HV.out])⟩
        case measure => simp [intOf]; omega
      · have HV : Hid (isNc s[k] = false) := Lib.hid (by rw [HKC.out]; unfold ncN; simp; omega)
        have h46 : ((s[k].toNat : Int) == 46) = false := by rw [beq_eq_false_iff_ne]; omega
        have u122 : decide ((s[k].toNat : Int) ≤ 122) = false := decide_eq_false (by omega)
        have u57 : decide ((s[k].toNat : Int) ≤ 57) = false := decide_eq_false (by omega)
        have l97 : decide (97 ≤ (s[k].toNat : Int)) = true := decide_eq_true (by omega)
        have l48 : decide (48 ≤ (s[k].toNat : Int)) = true := decide_eq_true (by omega)
        clear h
        go_wp2
        go_ret
        exact ⟨by rw [HQ.out HV.out]; rfl, rfl⟩
    · have HK : Hid (s.data.toList.all isNc = true) := Lib.hid (by
        have := HA.out; rwa [List.take_of_length_le (by rw [len_list]; omega)] at this)
      by_cases h1 : 1 ≤ s.size
      · have u1 : decide (1 ≤ (s.size : Int)) = true := decide_eq_true (by omega)
        by_cases h2 : s.size ≤ 16
        · have u2 : decide ((s.size : Int) ≤ 16) = true := decide_eq_true (by omega)
          go_wp2
          go_ret
          exact ⟨by rw [nm_yes h1 h2 HK.out]; rfl, rfl⟩
        · have u2 : decide ((s.size : Int) ≤ 16) = false := decide_eq_false (by omega)
          go_wp2
          go_ret
          exact ⟨by rw [nm_long (fun h => h2 h.2)]; rfl, rfl⟩
      · have u1 : decide (1 ≤ (s.size : Int)) = false := decide_eq_false (by omega)
        go_wp2
        go_ret
        exact ⟨by rw [nm_long (fun h => h1 h.1)]; rfl, rfl⟩
end Go.Proofs.Ytmhdodiipkkjpaa.Dk
