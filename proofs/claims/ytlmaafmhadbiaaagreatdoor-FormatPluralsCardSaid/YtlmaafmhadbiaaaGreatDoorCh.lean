/- Package format: the case that is chosen. -/
import Derived.Test.YtlmaafmhadbiaaaGreatDoorDg
namespace Go.Proofs.YtlmaafmhadbiaaaGreatDoor
open Go.RowKit

/-- A string's cell. -/
def CSt (s : BA) (cs : List Value) : Prop := cs = [.string s]
abbrev SlS (w : World) (S : Nat → Prop) (v : Value) (xs : List BA) : Prop := Sl 1 CSt w S v xs
theorem SlS.old {w w' : World} {v : Value} {xs : List BA} (h : SlS w (Old w) v xs) (hb : Below w.heap.size w w') : SlS w' (Old w') v xs := Sl.keep h (fun b hb2 => hb.block b hb2) (fun _ h => Nat.lt_of_lt_of_le h hb.size) (fun _ _ h => h)
theorem At.st {w : World} {b o : Nat} {x : BA} (h : At 1 CSt w b o x) : w.cell? ⟨b, o, none⟩ = some (.string x) := by
  obtain ⟨cs, -, rfl, hc⟩ := h
  exact hc 0 _ rfl
theorem Sl.lenleS {w : World} {S : Nat → Prop} {a : Option Addr} {n cap : Nat} {xs : List BA} (h : SlS w S (.slice a n cap) xs) : xs.length ≤ 9223372036854775807 := by
  obtain ⟨a', cap', hv, h1, h2, -⟩ := h
  omega

abbrev ky (k : BA) (c : Cs) : Bool := decide (c.key = k)
theorem find_at {k : BA} : ∀ {cs : List Cs} {n : Nat} {c : Cs}, (∀ (q : Nat) y, q < n → cs[q]? = some y → y.key ≠ k) → cs[n]? = some c → c.key = k → cs.find? (ky k) = some c
  | [], n, c, _, h, _ => by simp at h
  | x :: r, 0, c, _, h, hk => by
    obtain rfl : x = c := by simpa using h
    rw [List.find?_cons_of_pos (p := ky k) (decide_eq_true hk)]
  | x :: r, n + 1, c, ha, h, hk => by
    rw [List.find?_cons_of_neg (p := ky k) (fun e => ha 0 x (by omega) rfl (of_decide_eq_true e))]
    exact find_at (n := n) (fun q y hq hy => ha (q + 1) y (by omega) (by simpa using hy)) (by simpa using h) hk
theorem find_no {k : BA} {cs : List Cs} (h : ∀ (q : Nat) y, cs[q]? = some y → y.key ≠ k) : cs.find? (ky k) = none := by
  rw [List.find?_eq_none]
  intro x hx e
  obtain ⟨q, hq⟩ := List.mem_iff_getElem?.1 hx
  exact h q x hq (of_decide_eq_true e)
theorem cho_at {cs : List Cs} : ∀ {ks : List BA} {n : Nat} {k : BA} {c : Cs}, (∀ (j : Nat) y, j < n → ks[j]? = some y → cs.find? (ky y) = none) → ks[n]? = some k → cs.find? (ky k) = some c → choF cs ks = c.kids
  | [], n, k, c, _, h, _ => by simp at h
  | x :: r, 0, k, c, _, h, hk => by
    obtain rfl : x = k := by simpa using h
    exact choF_hit hk
  | x :: r, n + 1, k, c, ha, h, hk => by
    rw [choF_miss (ha 0 x (by omega) rfl)]
    exact cho_at (n := n) (fun q y hq hy => ha (q + 1) y (by omega) (by simpa using hy)) (by simpa using h) hk
theorem cho_no {cs : List Cs} : ∀ {ks : List BA}, (∀ (j : Nat) y, ks[j]? = some y → cs.find? (ky y) = none) → choF cs ks = []
  | [], _ => rfl
  | x :: r, ha => by
    rw [choF_miss (ha 0 x rfl)]
    exact cho_no (fun q y hy => ha (q + 1) y (by simpa using hy))

set_option maxHeartbeats 3200000 in
set_option maxRecDepth 100000 in
theorem chosen_any (m : Nat) (w : World) (a : Option Addr) (cap : Nat) (cs : List Cs) (b : Option Addr) (capb : Nat) (ks : List BA) (hcs : SlC w (Old w) m (.slice a cs.length cap) cs) (hks : SlS w (Old w) (.slice b ks.length capb) ks) :
    Calls Tryz.prog 44 #[.slice a cs.length cap, .slice b ks.length capb] w fun e w' => ∃ a1 p1, e = .returned (.slice a1 (choF cs ks).length p1) ∧ SlP w' (Old w') m (.slice a1 (choF cs ks).length p1) (choF cs ks) ∧ Below w.heap.size w w' := by
  have hl1 := hcs.lenle
  have hl2 := hks.lenleS
  have HC := Lib.hid hcs
  have HK := Lib.hid hks
  obtain ⟨L, HL⟩ : ∃ L, Hid (L = cs.length) := ⟨_, Lib.hid rfl⟩
  obtain ⟨M, HM⟩ : ∃ M, Hid (M = ks.length) := ⟨_, Lib.hid rfl⟩
  have hL : L ≤ 9223372036854775807 := by have := HL.out; omega
  have hM : M ≤ 9223372036854775807 := by have := HM.out; omega
  rw [← HL.out] at HC ⊢
  rw [← HM.out] at HK ⊢
  clear hcs hks hl1 hl2
  go_enter Tryz.func44, Tryz.ntmps44
  go_wp2
  go_loopw [11] (fun i wr => ∃ (k : Nat), k ≤ M ∧ i = .int .i64 k ∧ Hid (Below w.heap.size w wr) ∧ Hid (∀ (j : Nat) y, j < k → ks[j]? = some y → cs.find? (ky y) = none)) (fun i _ => M - (intOf i).toNat)
  case atStart => exact ⟨0, Nat.zero_le _, rfl, Lib.hid (Below.refl _ _), Lib.hid (fun j x h => by omega)⟩
  case round =>
    obtain ⟨k, hk, rfl, HB, HN⟩ := hrel
    by_cases hlt : k < M
    · obtain ⟨key, hkey⟩ : ∃ x, ks[k]? = some x := ⟨_, List.getElem?_eq_getElem (by have := HM.out; omega)⟩
      obtain ⟨g1, off1, rfl, -, hat⟩ := (HK.out.old HB.out).at_ hkey
      have h0 := hat.st
      simp only [Nat.mul_one] at h0
      have HKY := Lib.hid hkey
      have HBX := Lib.hid HB.out
      obtain ⟨wx, hwx⟩ : ∃ wx, Hid (wr = wx) := ⟨_, Lib.hid rfl⟩
      rw [hwx.out] at HBX
      clear hat hkey
      go_wp2
      clear h0
      go_loopw [17] (fun j w4 => ∃ k2 : Nat, k2 ≤ L ∧ j = .int .i64 k2 ∧ Hid (Below w.heap.size w w4) ∧ Hid (∀ (q : Nat) y, q < k2 → cs[q]? = some y → y.key ≠ key)) (fun j _ => L - (intOf j).toNat)
      case atStart => exact ⟨0, Nat.zero_le _, rfl, HB, Lib.hid (fun q y h => by omega)⟩
      case round =>
        obtain ⟨k2, hk2, rfl, HB4, HD⟩ := hrel
        by_cases hlt2 : k2 < L
        · obtain ⟨c, hc⟩ : ∃ y, cs[k2]? = some y := ⟨_, List.getElem?_eq_getElem (by have := HL.out; omega)⟩
          obtain ⟨g2, off2, hg2, -, hat2⟩ := ((HC.out.old HB4.out).at_ hc)
          subst hg2
          obtain ⟨y0, a1, p1, y1, hkid⟩ := hat2.c
          have HCC := Lib.hid hc
          obtain ⟨ck, kids⟩ := c
          simp only [Cs.key, Cs.kids] at y0 y1 hkid
          obtain ⟨nk, HNK⟩ : ∃ nk, Hid (nk = kids.length) := ⟨_, Lib.hid rfl⟩
          rw [← HNK.out] at y1 hkid
          have HKD := Lib.hid (SlP.old hkid (below1 wr (.cells #[.string ck, .slice a1 nk p1] 35)))
          have R := row_new wr #[.string ck, .slice a1 nk p1] 35
          have d0 := R.cell (i := 0) rfl
          have d1 := R.cell (i := 1) rfl
          have HB5 := Lib.hid (below_trans HB4.out (below1 wr (.cells #[.string ck, .slice a1 nk p1] 35)))
          clear hat2 hc hkid R
          by_cases he : ck = key
          · have HE : Hid (choF cs ks = kids) := Lib.hid (cho_at HN.out HKY.out (find_at HD.out HCC.out he))
            subst he
            go_wp2
            go_ret
            exact ⟨a1, p1, by rw [HE.out, HNK.out]; rfl, by rw [HE.out, ← HNK.out]; exact HKD.out, HB5.out⟩
          · have HN2 : Hid (∀ (q : Nat) y, q < k2 + 1 → cs[q]? = some y → y.key ≠ key) := Lib.hid (fun q y hq hqy => by
              rcases Nat.lt_or_eq_of_le (Nat.le_of_lt_succ hq) with h | rfl
              · exact HD.out q y h hqy
              · rw [HCC.out] at hqy
                obtain rfl := Option.some.inj hqy
                exact he)
            have hbe : (ck.toList == key.toList) = false := by
              rw [ByteArray.toList_eq, ByteArray.toList_eq]
              exact beq_eq_false_iff_ne.2 (fun e => he (ByteArray.ext (Array.toList_inj.1 e)))
            clear he
            go_wp2
            go_roundw
            case rel => exact ⟨k2 + 1, by omega, by go_num, HB5, HN2⟩
            case measure => simp [intOf]; omega
        · have HNN : Hid (∀ (j : Nat) y, j < k + 1 → ks[j]? = some y → cs.find? (ky y) = none) := Lib.hid (fun j y hj hy => by
            rcases Nat.lt_or_eq_of_le (Nat.le_of_lt_succ hj) with h | rfl
            · exact HN.out j y h hy
            · rw [HKY.out] at hy
              obtain rfl := Option.some.inj hy
              exact find_no (fun q y hq => HD.out q y (by have := HL.out; have := (List.getElem?_eq_some_iff.1 hq).1; omega) hq))
          go_wp2
          go_roundw
          case rel => exact ⟨k + 1, by omega, by go_num, HB4, HNN⟩
          case measure => simp [intOf]; omega
    · have HE : Hid (choF cs ks = []) := Lib.hid (cho_no (fun j y hy => HN.out j y (by have := HM.out; have := (List.getElem?_eq_some_iff.1 hy).1; omega) hy))
      go_wp2
      go_ret
      exact ⟨none, 0, by rw [HE.out]; rfl, by rw [HE.out]; exact Sl.nil _ _ _ _, HB.out⟩
end Go.Proofs.YtlmaafmhadbiaaaGreatDoor
