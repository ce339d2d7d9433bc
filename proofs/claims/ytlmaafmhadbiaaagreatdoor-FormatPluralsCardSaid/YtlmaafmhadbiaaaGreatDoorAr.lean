/- Arguments: what may be; rightArgs and the document's Args. -/
import Derived.Test.YtlmaafmhadbiaaaGreatDoorRn
import Derived.Test.YtlmaafmhadbiaaaGreatDoorRh
namespace Go.Proofs.YtlmaafmhadbiaaaGreatDoor
open Go.RowKit Go.Maps Go.WideShapes Go.WideMaps

/-- An argument. -/
structure Argm where
  nm : BA
  num : Bool
  n : Int
  s : BA
/-- Its cells. -/
def CA (x : Argm) (cs : List Value) : Prop := cs = [.string x.nm, .bool x.num, .int .i64 x.n, .string x.s]
abbrev SlA (w : World) (S : Nat → Prop) (v : Value) (xs : List Argm) : Prop := Sl 4 CA w S v xs
theorem SlA.old {w w' : World} {v : Value} {xs : List Argm} (h : SlA w (Old w) v xs) (hb : Below w.heap.size w w') : SlA w' (Old w') v xs := Sl.keep h (fun b hb2 => hb.block b hb2) (fun _ h => Nat.lt_of_lt_of_le h hb.size) (fun _ _ h => h)
theorem At.a {w : World} {b o : Nat} {x : Argm} (h : At 4 CA w b o x) : w.cell? ⟨b, o, none⟩ = some (.string x.nm) ∧ w.cell? ⟨b, o + 1, none⟩ = some (.bool x.num) ∧ w.cell? ⟨b, o + 2, none⟩ = some (.int .i64 x.n) ∧ w.cell? ⟨b, o + 3, none⟩ = some (.string x.s) := by
  obtain ⟨cs, -, rfl, hc⟩ := h
  exact ⟨hc 0 _ rfl, hc 1 _ rfl, hc 2 _ rfl, hc 3 _ rfl⟩
theorem Sl.lenleA {w : World} {S : Nat → Prop} {a : Option Addr} {n cap : Nat} {xs : List Argm} (h : SlA w S (.slice a n cap) xs) : n = xs.length ∧ xs.length ≤ 9223372036854775807 := by
  obtain ⟨a', cap', hv, h1, h2, -⟩ := h
  injection hv with _ h3 _
  exact ⟨h3, by omega⟩
/-- Its value may be. -/
def valOK (x : Argm) : Prop := (x.num = true ∧ x.s = ⟨#[]⟩) ∨ (x.num = false ∧ x.n = 0 ∧ x.s.size ≤ 8000)
/-- Arguments may be. -/
structure ArgsOK (xs : List Argm) : Prop where
  len : xs.length ≤ 32
  each : ∀ (k : Nat) x, xs[k]? = some x → nameB x.nm.data.toList = true ∧ valOK x
  apart : ∀ (i j : Nat) x y, xs[i]? = some x → xs[j]? = some y → i < j → x.nm ≠ y.nm
def nmsL (xs : List Argm) : List (List UInt8) := xs.map fun x => x.nm.data.toList
theorem nms_one {xs : List Argm} {k : Nat} {x : Argm} (h : xs[k]? = some x) : nmsL (xs.take (k + 1)) = nmsL (xs.take k) ++ [x.nm.data.toList] := by rw [take_one h]; unfold nmsL; rw [List.map_append]; rfl
theorem nms_not {xs : List Argm} (h : ArgsOK xs) {k : Nat} {x : Argm} (hx : xs[k]? = some x) : decide (x.nm.data.toList ∈ nmsL (xs.take k)) = false := by
  rw [decide_eq_false_iff_not]
  intro hm
  unfold nmsL at hm
  obtain ⟨y, hy, he⟩ := List.mem_map.1 hm
  obtain ⟨i, hi⟩ := List.mem_iff_getElem?.1 hy
  rw [List.getElem?_take] at hi
  split at hi
  · rename_i hlt
    refine h.apart i k y x hi hx hlt ?_
    apply ByteArray.ext
    exact Array.toList_inj.1 he
  · cases hi
theorem name_size {t : BA} (h : nameB t.data.toList = true) : t.size ≤ 32 := by
  have hl := len_list t
  cases he : t.data.toList with
  | nil => rw [he] at hl; simp at hl; omega
  | cons c r =>
    rw [he] at h hl
    simp only [nameB, Bool.and_eq_true, decide_eq_true_eq] at h
    simp only [List.length_cons] at hl
    omega
theorem ba_isE {s : BA} (h : s ≠ ⟨#[]⟩) : s.toList.isEmpty = false := by
  rw [ByteArray.toList_eq]
  cases hl : s.data.toList with
  | nil => exact absurd (ByteArray.ext (Array.toList_inj.1 (by rw [hl]))) h
  | cons => rfl

set_option maxHeartbeats 1600000 in
theorem value_any (x : Argm) (h : valOK x) (w : World) : Calls Tryz.prog 24 #[.agg #[.string x.nm, .bool x.num, .int .i64 x.n, .string x.s]] w fun e w' => e = .returned (.bool true) ∧ Below w.heap.size w w' := by
  have HB := Lib.hid (below1 w (.cells #[.string x.nm, .bool x.num, .int .i64 x.n, .string x.s] 38))
  obtain ⟨nm, num, n, s⟩ := x
  rcases h with ⟨h1, h2⟩ | ⟨h1, h2, h3⟩
  · simp only at h1 h2 HB
    subst h1 h2
    go_enter Tryz.func24, Tryz.ntmps24
    go_wp2
    go_ret
    exact ⟨rfl, HB.out⟩
  · simp only at h1 h2 h3 HB
    subst h1 h2
    have h4 : (s.size : Int) ≤ 8000 := by omega
    go_enter Tryz.func24, Tryz.ntmps24
    go_wp2
    go_ret
    exact ⟨ret_bool (by first | rfl | (simp; done) | (simp; omega)), HB.out⟩

set_option maxHeartbeats 3200000 in
set_option maxRecDepth 100000 in
theorem rightArgs_any (w : World) (a : Option Addr) (cap : Nat) (xs : List Argm) (hxs : SlA w (Old w) (.slice a xs.length cap) xs) (hok : ArgsOK xs) :
    Calls Tryz.prog 13 #[.slice a xs.length cap] w fun e w' => e = .returned (.bool true) ∧ Below w.heap.size w w' := by
  have hL1 := hok.len
  have HX := Lib.hid hxs
  have HK := Lib.hid hok
  obtain ⟨L, HL⟩ : ∃ L, Hid (L = xs.length) := ⟨_, Lib.hid rfl⟩
  have hL2 : L ≤ 32 := by have := HL.out; omega
  rw [← HL.out] at HX ⊢
  clear hxs hok hL1
  have hmm := @run_makeMap Tryz.prog
  go_enter Tryz.func13, Tryz.ntmps13
  go_wp2
  clear hmm
  go_loopw [14] (fun i wr => ∃ (k : Nat) (D : DataW Unit), k ≤ L ∧ i = .int .i64 k ∧ Hid (OM wr w.heap.size k D) ∧ Hid (SetD (nmsL (xs.take k)) D) ∧ Hid (Below w.heap.size w wr)) (fun i _ => L - (intOf i).toNat)
  case atStart => exact ⟨0, .map [], Nat.zero_le _, rfl, Lib.hid (World.ownsMap_made _ _ _ _), Lib.hid set_none, Lib.hid ((Below.refl _ _).alloc (Nat.le_refl _) _)⟩
  case round =>
    obtain ⟨k, D, hk, rfl, HO, HS, HB⟩ := hrel
    by_cases hlt : k < L
    · obtain ⟨x, hx⟩ : ∃ x, xs[k]? = some x := ⟨_, List.getElem?_eq_getElem (by have := HL.out; omega)⟩
      obtain ⟨g1, off1, rfl, -, hat⟩ := (HX.out.old HB.out).at_ hx
      obtain ⟨h0, h1, h2, h3⟩ := hat.a
      have HKO := Lib.hid (nms_one hx)
      have HNO := Lib.hid (nms_not HK.out hx)
      have HNB := Lib.hid (HK.out.each k x hx).1
      have HVL := Lib.hid (fun W => value_any x (HK.out.each k x hx).2 W)
      obtain ⟨nm, num, n, s⟩ := x
      simp only at h0 h1 h2 h3 HKO HNO HNB HVL
      have hns : nm.size ≤ 32 := name_size HNB.out
      have HKY : Hid (keyOf Tryz.prog 9 (.string nm) = some (.string nm.data.toList)) := Lib.hid (by
        have := keyOf_string_mk (P := Tryz.prog) Tryz.underlying9 (s := nm) (by unfold maxLen; omega)
        exact this)
      have HHA := Lib.hid (HS.out.2 nm.data.toList)
      have HPS := Lib.hid (set_put HS.out nm.data.toList (.agg []))
      rw [← HKO.out] at HPS
      have HKN : Hid (k < maxLen) := Lib.hid (by unfold maxLen; omega)
      have R := row_new wr #[.string nm, .bool num, .int .i64 n, .string s] 38
      have c0 := R.cell (i := 0) rfl
      have HB2 : Hid (Below w.heap.size w (wr.alloc (.cells #[.string nm, .bool num, .int .i64 n, .string s] 38))) := Lib.hid (below_trans HB.out (below1 _ _))
      have HO2 : Hid (OM (wr.alloc (.cells #[.string nm, .bool num, .int .i64 n, .string s] 38)) w.heap.size k D) := Lib.hid (HO.out.alloc _)
      have HRW : Hid (Row (wr.alloc (.cells #[.string nm, .bool num, .int .i64 n, .string s] 38)) wr.heap.size 38 [.string nm, .bool num, .int .i64 n, .string s]) := Lib.hid R
      have hH : Maps.has D (.string nm.data.toList) = false := by rw [HHA.out, HNO.out]
      clear R hat hx HO HB HHA HNO
      have HB4 : Hid (Below w.heap.size w ((wr.alloc (.cells #[.string nm, .bool num, .int .i64 n, .string s] 38)).alloc (.cells #[] 61))) := Lib.hid (below_trans HB2.out (below1 _ _))
      have HO4 : Hid (OM ((wr.alloc (.cells #[.string nm, .bool num, .int .i64 n, .string s] 38)).alloc (.cells #[] 61)) w.heap.size k D) := Lib.hid (HO2.out.alloc _)
      have HRW4 := Lib.hid (HRW.out.alloc (.cells #[] 61))
      have HNC := Lib.hid (name_any nm ((wr.alloc (.cells #[.string nm, .bool num, .int .i64 n, .string s] 38)).alloc (.cells #[] 61)) (by omega))
      rw [HNB.out] at HNC
      go_wp2_with (first
        | (at_lookup; refine wpList_lookup_own_unit _ rfl _ _ 60 rfl 9 61 lawS Tryz.underlying60 (zeroU _) w.heap.size k D rfl HO2.out _ _ rfl HKY.out ?_))
      generalize (wr.alloc (.cells #[.string nm, .bool num, .int .i64 n, .string s] 38)).alloc (.cells #[] 61) = w4 at *
      clear c0 hH HO2 HB2 HRW h0 h1 h2 h3
      refine HNC.out.mono ?_
      rintro e w5 ⟨rfl, rfl⟩
      have d0 := HRW4.out.cell (i := 0) rfl
      have d1 := HRW4.out.cell (i := 1) rfl
      have d2 := HRW4.out.cell (i := 2) rfl
      have d3 := HRW4.out.cell (i := 3) rfl
      clear HNC
      go_wp2_with fail
      refine (HVL.out _).mono ?_
      rintro e w6 ⟨rfl, hb6⟩
      have HB6 := Lib.hid (below_trans HB4.out hb6)
      have HO6 := Lib.hid (HO4.out.below hb6)
      have HRW6 := Lib.hid (HRW4.out.below hb6)
      clear hb6 HVL HB4 HO4 HRW4 d0 d1 d2 d3
      have c0 := HRW6.out.cell (i := 0) rfl
      go_wp2_with (first
        | (at_mapUpdate; refine wpList_mapUpdate_own _ rfl _ _ _ 60 rfl 9 61 lawS Tryz.underlying60 _ w.heap.size k D rfl HO6.out HKN.out _ _ _ rfl rfl HKY.out _ [] unitElem_mk ?_; intro w7 hown7 hgrow7))
      have HO7 := Lib.hid hown7
      have HB7 : Hid (Below w.heap.size w w7) := Lib.hid (HB6.out.grown hgrow7 HB6.out.size (fun j hj => by cases hj; exact Nat.le_refl _))
      clear hown7 hgrow7
      go_wp2
      go_roundw
      case rel => exact ⟨k + 1, _, by omega, by go_num, HO7, HPS, HB7⟩
      case measure => simp [intOf]; omega
    · go_wp2
      go_ret
      exact ⟨rfl, HB.out⟩
end Go.Proofs.YtlmaafmhadbiaaaGreatDoor
