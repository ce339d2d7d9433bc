/- The document's 'with'. -/
import Derived.Test.YtmaafhhdbhkplaaDoorRAt
import Derived.Test.YtmaafhhdbhkplaaDoorCnt
namespace Go.Proofs.YtmaafhhdbhkplaaDoor
open Go.RowKit

/-- A store that is made beside a boxed one and a place for the result: block M is the made one's. -/
structure MEnv (w wr : World) (M : Nat) (a : Option Addr) (cap : Nat) (xs ys : List Itm) : Prop where
  box : Row wr w.heap.size 24 [.slice a xs.length cap]
  res : Row wr (w.heap.size + 1) 24 [.slice none 0 0]
  its : InI wr a xs
  out : OutAt wr M ys
  bel : Below w.heap.size w wr
  old : ∀ ad : Addr, a = some ad → ad.block < w.heap.size ∨ xs = []
theorem inI_old {w : World} {a : Option Addr} {xs : List Itm} (h : InI w a xs) : ∀ ad : Addr, a = some ad → ad.block < w.heap.size ∨ xs = [] := fun ad ha => by
  by_cases hx : xs = []
  · exact .inr hx
  · obtain ⟨b, off, hb, hl, -⟩ := h hx
    rw [ha] at hb
    obtain rfl := Option.some.inj hb
    exact .inl hl
theorem MEnv.step {w wr w' : World} {M : Nat} {a : Option Addr} {cap : Nat} {xs ys ys' : List Itm} (h : MEnv w wr M a cap xs ys) (hM : w.heap.size + 1 < M) (hb : Below M wr w') (ho : OutAt w' M ys') : MEnv w w' M a cap xs ys' := by
  have hb0 : Below w.heap.size wr w' := hb.mono (by omega)
  refine ⟨h.box.keep (hb.block _ (by omega)), h.res.keep (hb.block _ (by omega)), fun hx => ?_, ho, h.bel.trans hb0, h.old⟩
  obtain ⟨b, off, ha, hl, hc⟩ := h.its hx
  have hlt : b < w.heap.size := by
    rcases h.old _ ha with h1 | h1
    · exact h1
    · exact absurd h1 hx
  exact ⟨b, off, ha, Nat.lt_of_lt_of_le hl hb.size, fun j x hj => (hc j x hj).keep (hb.block b (by omega))⟩
theorem MEnv.same {w wr w' : World} {M : Nat} {a : Option Addr} {cap : Nat} {xs ys : List Itm} (h : MEnv w wr M a cap xs ys) (hb : Below wr.heap.size wr w') : MEnv w w' M a cap xs ys :=
  ⟨h.box.below hb, h.res.below hb, h.its.below hb, h.out.below hb, below_trans h.bel hb, h.old⟩
theorem cell_new3b (w : World) (x y z : Value) (t : TypeId) {B : Nat} (hB : w.heap.size = B) : ∀ j v, [x, y, z][j]? = some v → (w.alloc (.cells #[x, y, z] t)).cell? (Addr.add ⟨B, 0, none⟩ j) = some v := by subst hB; exact cell_new3 w x y z t
theorem setR_take {xs : List Itm} {key : BA} {r : Int} {k : Nat} {x : Itm} (h : xs[k]? = some x) : setR (xs.take (k + 1)) key r = setR (xs.take k) key r ++ [if x.k.toList == key.toList then ⟨x.k, x.b, r⟩ else x] := by
  obtain ⟨hlt, rfl⟩ := List.getElem?_eq_some_iff.1 h
  unfold setR
  rw [List.take_succ_eq_append_getElem hlt, List.map_append]; simp
theorem setR_length (xs : List Itm) (key : BA) (r : Int) : (setR xs key r).length = xs.length := by simp [setR]

set_option maxHeartbeats 3200000 in
set_option maxRecDepth 100000 in
theorem with_any (w : World) (a : Option Addr) (cap : Nat) (xs : List Itm) (key : BA) (r : Int) (hIn : InI w a xs) (hl : xs.length ≤ 4096) (hk : key.size ≤ 140737488351232) (hr1 : -9223372036854775808 ≤ r) (hr2 : r ≤ 9223372036854775807) :
    Calls Tryd.prog 31 #[.agg #[.slice a xs.length cap], .string key, .int .i64 r] w (StPost (setR xs key r) w) := by
  obtain ⟨i0, hi, hz0, hz1, hz2⟩ := info_parts info29
  have E0 : Hid (MEnv w (((w.alloc (.cells #[.slice a xs.length cap] 24)).alloc (.cells #[.slice none 0 0] 24)).alloc (.cells #[.slice none 0 0] 24)) (w.heap.size + 1 + 1) a cap xs []) := Lib.hid
    ⟨((row_new w #[.slice a xs.length cap] 24).alloc _).alloc _, (by have := (row_new (w.alloc (.cells #[.slice a xs.length cap] 24)) #[.slice none 0 0] 24).alloc (.cells #[.slice none 0 0] 24); simpa using this), hIn.below (below3 _ _ _ _), (by have := out_new ((w.alloc (.cells #[.slice a xs.length cap] 24)).alloc (.cells #[.slice none 0 0] 24)); simpa using this), below3 _ _ _ _, inI_old hIn⟩
  clear hIn
  go_enter Tryd.func31, Tryd.ntmps31
  go_wp2
  generalize hW0 : ((w.alloc (.cells #[.slice a xs.length cap] 24)).alloc (.cells #[.slice none 0 0] 24)).alloc (.cells #[.slice none 0 0] 24) = W0 at *
  clear hW0
  go_loopw [14] (fun i wr => ∃ (k : Nat) (ys : List Itm), k ≤ xs.length ∧ i = .int .i64 k ∧ ys.length ≤ 4096 ∧ Hid (ys = setR (xs.take k) key r) ∧ Hid (MEnv w wr (w.heap.size + 1 + 1) a cap xs ys)) (fun i _ => xs.length - (intOf i).toNat)
  case atStart => exact ⟨0, [], by omega, rfl, by simp, Lib.hid (by simp [setR]), E0⟩
  case round =>
    obtain ⟨k, ys, hk, rfl, hyl, HY, E⟩ := hrel
    obtain ⟨ao, co, hrow, hown⟩ := E.out.out.form
    have hMl := hrow.lt
    have hcs : wr.cell? ⟨w.heap.size, 0, none⟩ = some (.slice a xs.length cap) := E.out.box.cell rfl
    by_cases hlt : k < xs.length
    · obtain ⟨x, hx⟩ : ∃ x, xs[k]? = some x := ⟨_, List.getElem?_eq_getElem hlt⟩
      obtain ⟨b, off, rfl, hbl, h0, h1, h2⟩ := E.out.its.at_ hx
      have HST := Lib.hid (setR_take (key := key) (r := r) hx)
      have HROW := Lib.hid hrow
      have HOWN := Lib.hid hown
      clear hx hrow hown

      by_cases he : (x.k.toList == key.toList) = true
      · have HY2 : Hid (ys ++ [⟨x.k, x.b, r⟩] = setR (xs.take (k + 1)) key r) := Lib.hid (by rw [HST.out, HY.out, if_pos he])
        have hB : (x.k.toList == key.toList) = true := by simpa using he
        clear he
        obtain ⟨kk, bb, rr⟩ := x
        simp only at h0 h1 h2 hB
        have q3 := row_new wr #[.string kk, .string bb, .int .i64 r] 29
        have hE : Below wr.heap.size wr (wr.alloc (.cells #[.string kk, .string bb, .int .i64 r] 29)) := below1 wr _
        have hrow := HROW.out.below hE
        have hown := ownsRow_below HOWN.out hE
        have E1 := Lib.hid (E.out.same hE)
        have c0 := q3.cell (i := 0) rfl
        have c1 := q3.cell (i := 1) rfl
        have c2 := q3.cell (i := 2) rfl
        have c3 := hrow.cell (i := 0) rfl
        have hsz : w.heap.size + 1 + 1 < (wr.alloc (.cells #[.string kk, .string bb, .int .i64 r] 29)).heap.size := Nat.lt_of_lt_of_le hMl hE.size
        have HR1 := Lib.hid hrow
        have HO1 := Lib.hid hown
        clear hE q3 hrow hown
        have hown := HO1.out
        go_wp2_with (at_builtin; refine wpList_append_lies _ rfl _ _ 22 rfl (w.heap.size + 1 + 1 + 1) 29 i0 _ 3 40 Tryd.underlying22 hi hz0 hz1 hz2 rfl (by decide) _ _ _ rfl (hown.alloc _) _ 1 1 [.string kk, .string bb, .int .i64 r] rfl rfl (cell_new3b _ _ _ _ _ (by simp)) (by simp [Value.oneCell']) (by decide) (by unfold maxLen; omega) (by omega) (by simp; omega) _ rfl ?_; intro g cap' w2 hown' hgrow hg hglt; obtain ⟨hcell, hfz, HA, HV⟩ := out_step (x := ⟨kk, bb, r⟩) HR1.out HO1.out hown' hgrow; clear hown' hgrow hg hglt)
        have HE2 := Lib.hid (E1.out.step (by omega) HV.out HA.out)
        go_roundw
        case rel => exact ⟨k + 1, ys ++ [⟨kk, bb, r⟩], by omega, by go_num, by have := HY2.out; rw [this, setR_length, List.length_take]; omega, HY2, HE2⟩
        case measure => simp [intOf]; omega
      · have HY2 : Hid (ys ++ [x] = setR (xs.take (k + 1)) key r) := Lib.hid (by rw [HST.out, HY.out, if_neg he])
        have hB : (x.k.toList == key.toList) = false := by simpa using he
        clear he
        obtain ⟨kk, bb, rr⟩ := x
        simp only at h0 h1 h2 hB
        have q3 := row_new wr #[.string kk, .string bb, .int .i64 rr] 29
        have hE : Below wr.heap.size wr (wr.alloc (.cells #[.string kk, .string bb, .int .i64 rr] 29)) := below1 wr _
        have hrow := HROW.out.below hE
        have hown := ownsRow_below HOWN.out hE
        have E1 := Lib.hid (E.out.same hE)
        have c0 := q3.cell (i := 0) rfl
        have c1 := q3.cell (i := 1) rfl
        have c2 := q3.cell (i := 2) rfl
        have c3 := hrow.cell (i := 0) rfl
        have hsz : w.heap.size + 1 + 1 < (wr.alloc (.cells #[.string kk, .string bb, .int .i64 rr] 29)).heap.size := Nat.lt_of_lt_of_le hMl hE.size
        have HR1 := Lib.hid hrow
        have HO1 := Lib.hid hown
        clear hE q3 hrow hown
        have hown := HO1.out
        go_wp2_with (at_builtin; refine wpList_append_lies _ rfl _ _ 22 rfl (w.heap.size + 1 + 1 + 1) 29 i0 _ 3 40 Tryd.underlying22 hi hz0 hz1 hz2 rfl (by decide) _ _ _ rfl (hown.alloc _) _ 1 1 [.string kk, .string bb, .int .i64 rr] rfl rfl (cell_new3b _ _ _ _ _ (by simp)) (by simp [Value.oneCell']) (by decide) (by unfold maxLen; omega) (by omega) (by simp; omega) _ rfl ?_; intro g cap' w2 hown' hgrow hg hglt; obtain ⟨hcell, hfz, HA, HV⟩ := out_step (x := ⟨kk, bb, rr⟩) HR1.out HO1.out hown' hgrow; clear hown' hgrow hg hglt)
        have HE2 := Lib.hid (E1.out.step (by omega) HV.out HA.out)
        go_roundw
        case rel => exact ⟨k + 1, ys ++ [⟨kk, bb, rr⟩], by omega, by go_num, by have := HY2.out; rw [this, setR_length, List.length_take]; omega, HY2, HE2⟩
        case measure => simp [intOf]; omega
    · have HYE : Hid (ys = setR xs key r) := Lib.hid (by rw [HY.out, List.take_of_length_le (by omega)])
      obtain ⟨n, HN⟩ : ∃ n, Hid (n = ys.length) := ⟨_, Lib.hid rfl⟩
      have c3 := hrow.cell (i := 0) rfl
      have f2 := E.out.res.cell (i := 0) rfl
      have f3 := E.out.res.thaw 0
      have hbut : But (w.heap.size + 1) wr (wr.setCell ⟨w.heap.size + 1, 0, none⟩ (.slice ao ys.length co)) := (But.refl _ _).set _ _
      have g1 := (E.out.res.set 0 (.slice ao ys.length co)).cell (i := 0) rfl
      obtain ⟨a5, c5, hv5, -, hI5⟩ := InI.of_owns (owns_but hown hbut (by omega))
      have HV5 := Lib.hid hv5
      have HI5 := Lib.hid hI5
      have HOWN := Lib.hid hown
      have HB5 := Lib.hid (E.out.bel.trans (hbut.below (B := w.heap.size) (by omega)))
      clear hrow hown hv5 hI5 hbut
      go_wp2
      exact bodyPost_ret (v := .agg #[.slice ao ys.length co]) (by simp [results, Tryd.results31, go_sem, g1]) rfl ⟨a5, c5, by rw [← HYE.out, HV5.out], by rw [← HYE.out]; exact HI5.out, fun ad had => by
        have h1 := HV5.out
        injection h1 with h1
        have := own_base HOWN.out ad (h1.trans had)
        omega, HB5.out⟩
end Go.Proofs.YtmaafhhdbhkplaaDoor
