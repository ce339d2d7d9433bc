/- slices.Concat at items. -/
import Derived.Test.YtmaafhhdbhkplaaDoorGrw
namespace Go.Proofs.YtmaafhhdbhkplaaDoor
open Go.RowKit

/-- A row of slices of items. -/
def Lists (w : World) (B : Nat) (ls : List (List Itm)) : Prop := B < w.heap.size ∧ ∀ (k : Nat) (l : List Itm), ls[k]? = some l → ∃ a c, w.cell? ⟨B, k, none⟩ = some (.slice a l.length c) ∧ InI w a l
theorem Lists.below {w w' : World} {B : Nat} {ls : List (List Itm)} (h : Lists w B ls) (hb : Below w.heap.size w w') : Lists w' B ls :=
  ⟨Nat.lt_of_lt_of_le h.1 hb.size, fun k l hl => by
    obtain ⟨a, c, h1, h2⟩ := h.2 k l hl
    exact ⟨a, c, (hb.cell (p := ⟨B, k, none⟩) h.1).trans h1, h2.below hb⟩⟩
theorem take_flat {ls : List (List Itm)} {k : Nat} {l : List Itm} (h : ls[k]? = some l) : (ls.take (k + 1)).flatten = (ls.take k).flatten ++ l := by
  obtain ⟨hlt, rfl⟩ := List.getElem?_eq_some_iff.1 h
  rw [List.take_succ_eq_append_getElem hlt, List.flatten_append]; simp
theorem take_flat_le (ls : List (List Itm)) (k : Nat) : (ls.take k).flatten.length ≤ ls.flatten.length := by
  have : ls.flatten = (ls.take k).flatten ++ (ls.drop k).flatten := by rw [← List.flatten_append, List.take_append_drop]
  rw [this, List.length_append]; omega

set_option maxHeartbeats 1600000 in
theorem concat_any (w : World) (B c : Nat) (ls : List (List Itm)) (h : Lists w B ls) (hl : ls.length ≤ 1000) (h0 : 0 < ls.flatten.length) (hn : ls.flatten.length ≤ 1000000) :
    Calls Tryd.prog 38 #[.slice (some ⟨B, 0, none⟩) ls.length c] w (OwnPost ls.flatten w) := by
  have HL := Lib.hid h
  have hB := h.1
  clear h
  go_enter Tryd.func38, Tryd.ntmps38
  go_wp2
  go_loop [3, 11] (fun s i => ∃ k : Nat, k ≤ ls.length ∧ i = .int .i64 k ∧ s = .int .i64 ((ls.take k).flatten.length : Nat)) (fun _ i => ls.length - (intOf i).toNat)
  case atStart => exact ⟨0, by omega, rfl, rfl⟩
  case round =>
    obtain ⟨k, hk, rfl, rfl⟩ := hrel
    by_cases hlt : k < ls.length
    · obtain ⟨l, hl1⟩ : ∃ l, ls[k]? = some l := ⟨_, List.getElem?_eq_getElem hlt⟩
      obtain ⟨a, c1, hc, -⟩ := HL.out.2 k l hl1
      have HT : Hid ((ls.take (k + 1)).flatten.length = (ls.take k).flatten.length + l.length) := Lib.hid (by rw [take_flat hl1, List.length_append])
      have hle := take_flat_le ls (k + 1)
      rw [HT.out] at hle
      clear hl1
      generalize (ls.take k).flatten.length = m at *
      go_wp2
      go_round
      case rel => exact ⟨k + 1, by omega, by go_num, by rw [HT.out]; go_num⟩
      case measure => simp [intOf]; omega
    · have HK : Hid ((ls.take k).flatten = ls.flatten) := Lib.hid (by rw [List.take_of_length_le (by omega)])
      have e1 : (ls.take k).flatten.length = ls.flatten.length := by rw [HK.out]
      rw [e1]
      clear e1
      have HLEN : ∃ n, Hid (n = ls.flatten.length) ∧ 0 < n ∧ n ≤ 1000000 := ⟨_, Lib.hid rfl, h0, hn⟩
      obtain ⟨n, HN, hn0, hn1⟩ := HLEN
      rw [← HN.out]
      go_wp2_with fail
      refine (grow_any w n hn0 hn1).mono ?_
      rintro e w1 ⟨v, rfl, hown, hb1⟩
      have HO := Lib.hid hown
      have HB := Lib.hid hb1
      clear hown hb1
      go_wp2
      go_loopw [6, 27] (fun s i wr => ∃ k : Nat, k ≤ ls.length ∧ i = .int .i64 k ∧ Hid (Own wr w.heap.size s (ls.take k).flatten) ∧ Hid (Below w.heap.size w wr)) (fun _ i _ => ls.length - (intOf i).toNat)
      case atStart => exact ⟨0, by omega, rfl, Lib.hid (by simpa using HO.out), HB⟩
      case round =>
        obtain ⟨k, hk, rfl, HOr, HBr⟩ := hrel
        by_cases hlt : k < ls.length
        · obtain ⟨l, hl1⟩ : ∃ l, ls[k]? = some l := ⟨_, List.getElem?_eq_getElem hlt⟩
          obtain ⟨a, c1, hc, hIn⟩ := (HL.out.below HBr.out).2 k l hl1
          have hle := take_flat_le ls (k + 1)
          rw [take_flat hl1, List.length_append] at hle
          obtain ⟨v', w', hr, hown, hgrow⟩ := run_append_its wr 22 w.heap.size u6 (ls.take k).flatten HOr.out a c1 l hIn (by omega) HBr.out.size
          have HO2 : Hid (Own w' w.heap.size v' (ls.take (k + 1)).flatten) := Lib.hid (by rw [take_flat hl1]; exact hown)
          have HB2 : Hid (Below w.heap.size w w') := Lib.hid (HBr.out.grown hgrow (HBr.out.size) (by intro g hg; exact (HOr.out.lt g hg).1))
          have HR := Lib.hid hr
          clear hr hown hgrow hIn hl1 hle
          obtain ⟨a0, cap0, rfl, -⟩ := owns_form HOr.out
          go_wp2_with (at_builtin; refine Lib.wpList_append_run _ rfl _ _ _ _ rfl _ _ rfl rfl _ _ HR.out ?_)
          go_roundw
          case rel => exact ⟨k + 1, by omega, by go_num, HO2, HB2⟩
          case measure => simp [intOf]; omega
        · have HK2 : Hid (Own wr w.heap.size u6 ls.flatten) := Lib.hid (by have := HOr.out; rwa [List.take_of_length_le (by omega)] at this)
          go_wp2
          go_ret
          exact ⟨u6, rfl, HK2.out, HBr.out⟩
end Go.Proofs.YtmaafhhdbhkplaaDoor
