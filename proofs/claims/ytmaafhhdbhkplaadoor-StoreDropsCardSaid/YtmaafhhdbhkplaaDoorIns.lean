/- Package store: an item inserted. -/
import Derived.Test.YtmaafhhdbhkplaaDoorCnt
namespace Go.Proofs.YtmaafhhdbhkplaaDoor
open Go.RowKit

theorem ins_flat (xs : List Itm) (p : Nat) (it : Itm) : [xs.take p, [it], xs.drop p].flatten = insF xs p it := by simp [insF]
theorem ins_flat0 (it : Itm) : [([] : List Itm), [it], ([] : List Itm)].flatten = insF [] 0 it := by simp [insF]
theorem own_inI {w : World} {a : Option Addr} {x : Itm} {g : Nat} (h : At3 w g 0 x) (hg : g < w.heap.size) (ha : a = some ⟨g, 0, none⟩) : InI w a [x] := fun _ => ⟨g, 0, ha, hg, fun j y hy => by
  cases j with
  | zero => obtain rfl := Option.some.inj hy; simpa using h
  | succ j => simp at hy⟩
theorem inI_shift {w : World} {ad : Addr} {xs : List Itm} (h : InI w (some ad) xs) (p : Nat) : InI w (some (ad.add (p * 3))) (xs.drop p) := fun hx => by
  obtain ⟨b, off, ha, -⟩ := h (by intro e; subst e; simp at hx)
  obtain rfl := Option.some.inj ha
  rw [Addr.add_mid]
  exact h.drop p hx

set_option maxHeartbeats 3200000 in
set_option maxRecDepth 100000 in
theorem inserted_some (w : World) (ad : Addr) (cap : Nat) (p : Nat) (xs : List Itm) (it : Itm) (hp : p ≤ xs.length) (hl : xs.length < 4096) (hIn : InI w (some ad) xs) (hc : xs.length ≤ cap) (hc2 : cap ≤ 9223372036854775807) (hck : ¬ cap = p) :
    Calls Tryd.prog 30 #[.agg #[.slice (some ad) xs.length cap], .int .i64 p, itV it] w (StPost (insF xs p it) w) := by
  have HIN := Lib.hid hIn
  clear hIn
  have hp0 : (0 : Int) ≤ (p : Int) := by omega
  have hp1 : (p : Int) ≤ (xs.length : Int) := by omega
  have hp2 : (p : Int) ≤ (cap : Int) := by omega
  have r0 := ((row_new w #[.slice (some ad) xs.length cap] 24).alloc (.cells #[.string it.k, .string it.b, .int .i64 it.r] 29)).alloc (.cells #[.slice none 0 0] 24)
  have r1 := (row_new (w.alloc (.cells #[.slice (some ad) xs.length cap] 24)) #[.string it.k, .string it.b, .int .i64 it.r] 29).alloc (.cells #[.slice none 0 0] 24)
  have r2 := row_new ((w.alloc (.cells #[.slice (some ad) xs.length cap] 24)).alloc (.cells #[.string it.k, .string it.b, .int .i64 it.r] 29)) #[.slice none 0 0] 24
  simp only [World.size_alloc] at r1 r2
  have HB0 : Hid (Below w.heap.size w (((w.alloc (.cells #[.slice (some ad) xs.length cap] 24)).alloc (.cells #[.string it.k, .string it.b, .int .i64 it.r] 29)).alloc (.cells #[.slice none 0 0] 24))) := Lib.hid (below3 _ _ _ _)
  have hz : w.heap.size + 1 + 1 < (((w.alloc (.cells #[.slice (some ad) xs.length cap] 24)).alloc (.cells #[.string it.k, .string it.b, .int .i64 it.r] 29)).alloc (.cells #[.slice none 0 0] 24)).heap.size := by simp
  obtain ⟨kk, bb, rr⟩ := it
  simp only at r0 r1 r2 HB0 hz
  go_enter Tryd.func30, Tryd.ntmps30
  go_wp2
  generalize hW1 : (((w.alloc (.cells #[.slice (some ad) xs.length cap] 24)).alloc (.cells #[.string kk, .string bb, .int .i64 rr] 29)).alloc (.cells #[.slice none 0 0] 24)) = W1 at *
  clear hW1
  have HD : Hid (∀ W, Hid (Below W1.heap.size W1 W) → (W.cell? ⟨w.heap.size, 0, none⟩ = some (.slice (some ad) xs.length cap) ∧ W.cell? ⟨w.heap.size + 1, 0, none⟩ = some (.string kk) ∧ W.cell? ⟨w.heap.size + 1, 1, none⟩ = some (.string bb) ∧ W.cell? ⟨w.heap.size + 1, 2, none⟩ = some (.int .i64 rr)) ∧ W.cell? ⟨w.heap.size + 1 + 1, 0, none⟩ = some (.slice none 0 0) ∧ W.frozen? ⟨w.heap.size + 1 + 1, 0, none⟩ = false) := Lib.hid (fun W h => by
    have q0 := r0.below h.out
    have q1 := r1.below h.out
    have q2 := r2.below h.out
    exact ⟨⟨q0.cell rfl, q1.cell rfl, q1.cell rfl, q1.cell rfl⟩, q2.cell rfl, q2.thaw 0⟩)
  have hd0 : Hid (Below W1.heap.size W1 W1.drew) := Lib.hid (Below.refl _ _).drew
  obtain ⟨⟨d0, d1, d2, d3⟩, d4, d5⟩ := HD.out _ hd0
  have HR2 := Lib.hid r2
  clear r0 r1 r2
  have HB2 : Hid (Below W1.heap.size W1 (W1.alloc (.cells #[.string kk, .string bb, .int .i64 rr] 29)).drew) := Lib.hid (below1 _ _).drew
  have HB3 : Hid (Below W1.heap.size W1 ((W1.alloc (.cells #[.string kk, .string bb, .int .i64 rr] 29)).alloc (.cells #[.slice (some ad) p cap, .slice (some ⟨W1.heap.size, 0, none⟩) 1 1, .slice (some (ad.add (p * 3))) (xs.length - p) (cap - p)] 22)).drew) := Lib.hid (below2 _ _ _).drew
  have k2 := (HD.out _ HB2).1
  have k3 := (HD.out _ HB3).1
  have HL : Hid (Lists ((W1.alloc (.cells #[.string kk, .string bb, .int .i64 rr] 29)).alloc (.cells #[.slice (some ad) p cap, .slice (some ⟨W1.heap.size, 0, none⟩) 1 1, .slice (some (ad.add (p * 3))) (xs.length - p) (cap - p)] 22)).drew (W1.heap.size + 1) [xs.take p, [⟨kk, bb, rr⟩], xs.drop p]) := Lib.hid (by
    have hi1 := (HIN.out.below HB0.out).below HB3.out
    have q1 := (row_new W1 #[.string kk, .string bb, .int .i64 rr] 29).alloc (.cells #[.slice (some ad) p cap, .slice (some ⟨W1.heap.size, 0, none⟩) 1 1, .slice (some (ad.add (p * 3))) (xs.length - p) (cap - p)] 22)
    have q2 := row_new (W1.alloc (.cells #[.string kk, .string bb, .int .i64 rr] 29)) #[.slice (some ad) p cap, .slice (some ⟨W1.heap.size, 0, none⟩) 1 1, .slice (some (ad.add (p * 3))) (xs.length - p) (cap - p)] 22
    simp only [World.size_alloc] at q2
    refine ⟨by simp, fun k l hk => ?_⟩
    match k, hk with
    | 0, hk =>
      obtain rfl := Option.some.inj hk
      exact ⟨some ad, cap, by rw [List.length_take, Nat.min_eq_left hp]; exact q2.cell rfl, hi1.take p⟩
    | 1, hk =>
      obtain rfl := Option.some.inj hk
      exact ⟨some ⟨W1.heap.size, 0, none⟩, 1, q2.cell rfl, own_inI ⟨q1.cell rfl, q1.cell rfl, q1.cell rfl⟩ (by simp; omega) rfl⟩
    | 2, hk =>
      obtain rfl := Option.some.inj hk
      exact ⟨some (ad.add (p * 3)), cap - p, by rw [List.length_drop]; exact q2.cell rfl, inI_shift hi1 p⟩
    | k + 3, hk => simp at hk)
  have HLEN : Hid ((insF xs p ⟨kk, bb, rr⟩).length = xs.length + 1) := Lib.hid (insF_length hp)
  have HC : Hid (Calls Tryd.prog 38 #[.slice (some ⟨W1.heap.size + 1, 0, none⟩) 3 3] ((W1.alloc (.cells #[.string kk, .string bb, .int .i64 rr] 29)).alloc (.cells #[.slice (some ad) p cap, .slice (some ⟨W1.heap.size, 0, none⟩) 1 1, .slice (some (ad.add (p * 3))) (xs.length - p) (cap - p)] 22)).drew fun e w' => ∃ a c, e = .returned (.slice a (xs.length + 1) c) ∧ (w'.cell? ⟨w.heap.size, 0, none⟩ = some (.slice (some ad) xs.length cap) ∧ w'.cell? ⟨w.heap.size + 1, 0, none⟩ = some (.string kk) ∧ w'.cell? ⟨w.heap.size + 1, 1, none⟩ = some (.string bb) ∧ w'.cell? ⟨w.heap.size + 1, 2, none⟩ = some (.int .i64 rr)) ∧ w'.cell? ⟨w.heap.size + 1 + 1, 0, none⟩ = some (.slice none 0 0) ∧ w'.frozen? ⟨w.heap.size + 1 + 1, 0, none⟩ = false ∧ Hid (Own w' W1.heap.size (.slice a (xs.length + 1) c) (insF xs p ⟨kk, bb, rr⟩)) ∧ Hid (Below W1.heap.size W1 w') ∧ Hid (Row w' (w.heap.size + 1 + 1) 24 [.slice none 0 0])) := Lib.hid (by
    have h := concat_any _ (W1.heap.size + 1) 3 [xs.take p, [⟨kk, bb, rr⟩], xs.drop p] HL.out (by simp) (by rw [ins_flat, HLEN.out]; omega) (by rw [ins_flat, HLEN.out]; omega)
    refine h.mono fun e w' hh => ?_
    obtain ⟨v, he, hown, hb⟩ := hh
    rw [ins_flat] at hown
    obtain ⟨a, c, rfl, -⟩ := owns_form hown
    have hb' := below_trans HB3.out hb
    obtain ⟨g1, g2, g3⟩ := HD.out w' (Lib.hid hb')
    rw [HLEN.out] at he hown
    refine ⟨a, c, he, g1, g2, g3, Lib.hid ?_, Lib.hid hb', Lib.hid (HR2.out.below hb')⟩
    refine ⟨hown.1, hown.2.imp id ?_⟩
    rintro ⟨g, cap, cur, h1, h2, h3⟩
    exact ⟨g, cap, cur, h1, by simp at h2; omega, h3⟩)
  have hne1 : ¬ (w.heap.size + 1 + 1 = w.heap.size) := by omega
  have hne2 : ¬ (w.heap.size + 1 + 1 = w.heap.size + 1) := by omega
  go_region_held3 (fun W => W.cell? ⟨w.heap.size, 0, none⟩ = some (.slice (some ad) xs.length cap) ∧ W.cell? ⟨w.heap.size + 1, 0, none⟩ = some (.string kk) ∧ W.cell? ⟨w.heap.size + 1, 1, none⟩ = some (.string bb) ∧ W.cell? ⟨w.heap.size + 1, 2, none⟩ = some (.int .i64 rr)) (first | go_keep | assumption)
    (first | (go_at_call 38; refine HC.out.mono ?_; rintro e w4 ⟨a4, c4, rfl, hq4, hc4, hf4, HO4, HB4, HR4⟩) | fail)
  have hbut : But (w.heap.size + 1 + 1) w4 (w4.setCell ⟨w.heap.size + 1 + 1, 0, none⟩ (.slice a4 (xs.length + 1) c4)) := (But.refl _ _).set _ _
  obtain ⟨a5, c5, hv5, -, hI5⟩ := InI.of_owns (xs := insF xs p ⟨kk, bb, rr⟩) (owns_but HO4.out hbut hz)
  have r5 := (HR4.out.set 0 (.slice a4 (xs.length + 1) c4)).cell (i := 0) rfl
  have HB5 := (below_trans HB0.out (HB4.out)).trans (hbut.below (B := w.heap.size) (by omega))
  have HV5 := Lib.hid hv5
  clear hv5 k2 k3 hq4 hc4 d0 d1 d2 d3 d4 hbut
  go_wp2
  exact bodyPost_ret (v := .agg #[.slice a4 (xs.length + 1) c4]) (by simp [results, Tryd.results30, go_sem, r5]) rfl ⟨a5, c5, by rw [HV5.out], hI5, fun ad had => by
    have h1 := HV5.out
    injection h1 with h1
    have := own_base HO4.out ad (h1.trans had)
    have := HB0.out.size
    omega, HB5⟩

set_option maxHeartbeats 3200000 in
set_option maxRecDepth 100000 in
theorem inserted_full (w : World) (ad : Addr) (p : Nat) (xs : List Itm) (it : Itm) (hp : p ≤ xs.length) (hl : xs.length < 4096) (hIn : InI w (some ad) xs) (HPN : Hid (xs.length = p)) :
    Calls Tryd.prog 30 #[.agg #[.slice (some ad) p p], .int .i64 p, itV it] w (StPost (insF xs p it) w) := by
  have HIN := Lib.hid hIn
  clear hIn
  have hp0 : (0 : Int) ≤ (p : Int) := by omega
  have r0 := ((row_new w #[.slice (some ad) p p] 24).alloc (.cells #[.string it.k, .string it.b, .int .i64 it.r] 29)).alloc (.cells #[.slice none 0 0] 24)
  have r1 := (row_new (w.alloc (.cells #[.slice (some ad) p p] 24)) #[.string it.k, .string it.b, .int .i64 it.r] 29).alloc (.cells #[.slice none 0 0] 24)
  have r2 := row_new ((w.alloc (.cells #[.slice (some ad) p p] 24)).alloc (.cells #[.string it.k, .string it.b, .int .i64 it.r] 29)) #[.slice none 0 0] 24
  simp only [World.size_alloc] at r1 r2
  have HB0 : Hid (Below w.heap.size w (((w.alloc (.cells #[.slice (some ad) p p] 24)).alloc (.cells #[.string it.k, .string it.b, .int .i64 it.r] 29)).alloc (.cells #[.slice none 0 0] 24))) := Lib.hid (below3 _ _ _ _)
  have hz : w.heap.size + 1 + 1 < (((w.alloc (.cells #[.slice (some ad) p p] 24)).alloc (.cells #[.string it.k, .string it.b, .int .i64 it.r] 29)).alloc (.cells #[.slice none 0 0] 24)).heap.size := by simp
  obtain ⟨kk, bb, rr⟩ := it
  simp only at r0 r1 r2 HB0 hz
  go_enter Tryd.func30, Tryd.ntmps30
  go_wp2
  generalize hW1 : (((w.alloc (.cells #[.slice (some ad) p p] 24)).alloc (.cells #[.string kk, .string bb, .int .i64 rr] 29)).alloc (.cells #[.slice none 0 0] 24)) = W1 at *
  clear hW1
  have HD : Hid (∀ W, Hid (Below W1.heap.size W1 W) → (W.cell? ⟨w.heap.size, 0, none⟩ = some (.slice (some ad) p p) ∧ W.cell? ⟨w.heap.size + 1, 0, none⟩ = some (.string kk) ∧ W.cell? ⟨w.heap.size + 1, 1, none⟩ = some (.string bb) ∧ W.cell? ⟨w.heap.size + 1, 2, none⟩ = some (.int .i64 rr)) ∧ W.cell? ⟨w.heap.size + 1 + 1, 0, none⟩ = some (.slice none 0 0) ∧ W.frozen? ⟨w.heap.size + 1 + 1, 0, none⟩ = false) := Lib.hid (fun W h => by
    have q0 := r0.below h.out
    have q1 := r1.below h.out
    have q2 := r2.below h.out
    exact ⟨⟨q0.cell rfl, q1.cell rfl, q1.cell rfl, q1.cell rfl⟩, q2.cell rfl, q2.thaw 0⟩)
  have hd0 : Hid (Below W1.heap.size W1 W1.drew) := Lib.hid (Below.refl _ _).drew
  obtain ⟨⟨d0, d1, d2, d3⟩, d4, d5⟩ := HD.out _ hd0
  have HR2 := Lib.hid r2
  clear r0 r1 r2
  have HB2 : Hid (Below W1.heap.size W1 (W1.alloc (.cells #[.string kk, .string bb, .int .i64 rr] 29)).drew) := Lib.hid (below1 _ _).drew
  have HB3 : Hid (Below W1.heap.size W1 ((W1.alloc (.cells #[.string kk, .string bb, .int .i64 rr] 29)).alloc (.cells #[.slice (some ad) p p, .slice (some ⟨W1.heap.size, 0, none⟩) 1 1, .slice (some ad) 0 0] 22)).drew) := Lib.hid (below2 _ _ _).drew
  have k2 := (HD.out _ HB2).1
  have k3 := (HD.out _ HB3).1
  have HL : Hid (Lists ((W1.alloc (.cells #[.string kk, .string bb, .int .i64 rr] 29)).alloc (.cells #[.slice (some ad) p p, .slice (some ⟨W1.heap.size, 0, none⟩) 1 1, .slice (some ad) 0 0] 22)).drew (W1.heap.size + 1) [xs.take p, [⟨kk, bb, rr⟩], xs.drop p]) := Lib.hid (by
    have hi1 := (HIN.out.below HB0.out).below HB3.out
    have q1 := (row_new W1 #[.string kk, .string bb, .int .i64 rr] 29).alloc (.cells #[.slice (some ad) p p, .slice (some ⟨W1.heap.size, 0, none⟩) 1 1, .slice (some ad) 0 0] 22)
    have q2 := row_new (W1.alloc (.cells #[.string kk, .string bb, .int .i64 rr] 29)) #[.slice (some ad) p p, .slice (some ⟨W1.heap.size, 0, none⟩) 1 1, .slice (some ad) 0 0] 22
    simp only [World.size_alloc] at q2
    refine ⟨by simp, fun k l hk => ?_⟩
    match k, hk with
    | 0, hk =>
      obtain rfl := Option.some.inj hk
      exact ⟨some ad, p, by rw [List.length_take, Nat.min_eq_left hp]; exact q2.cell rfl, hi1.take p⟩
    | 1, hk =>
      obtain rfl := Option.some.inj hk
      exact ⟨some ⟨W1.heap.size, 0, none⟩, 1, q2.cell rfl, own_inI ⟨q1.cell rfl, q1.cell rfl, q1.cell rfl⟩ (by simp; omega) rfl⟩
    | 2, hk =>
      obtain rfl := Option.some.inj hk
      exact ⟨some ad, 0, by rw [List.length_drop, HPN.out, Nat.sub_self]; exact q2.cell rfl, (by rw [List.drop_of_length_le (by rw [HPN.out]; exact Nat.le_refl _)]; exact InI.nil _ _)⟩
    | k + 3, hk => simp at hk)
  have HLEN : Hid ((insF xs p ⟨kk, bb, rr⟩).length = xs.length + 1) := Lib.hid (insF_length hp)
  have HC : Hid (Calls Tryd.prog 38 #[.slice (some ⟨W1.heap.size + 1, 0, none⟩) 3 3] ((W1.alloc (.cells #[.string kk, .string bb, .int .i64 rr] 29)).alloc (.cells #[.slice (some ad) p p, .slice (some ⟨W1.heap.size, 0, none⟩) 1 1, .slice (some ad) 0 0] 22)).drew fun e w' => ∃ a c, e = .returned (.slice a (xs.length + 1) c) ∧ (w'.cell? ⟨w.heap.size, 0, none⟩ = some (.slice (some ad) p p) ∧ w'.cell? ⟨w.heap.size + 1, 0, none⟩ = some (.string kk) ∧ w'.cell? ⟨w.heap.size + 1, 1, none⟩ = some (.string bb) ∧ w'.cell? ⟨w.heap.size + 1, 2, none⟩ = some (.int .i64 rr)) ∧ w'.cell? ⟨w.heap.size + 1 + 1, 0, none⟩ = some (.slice none 0 0) ∧ w'.frozen? ⟨w.heap.size + 1 + 1, 0, none⟩ = false ∧ Hid (Own w' W1.heap.size (.slice a (xs.length + 1) c) (insF xs p ⟨kk, bb, rr⟩)) ∧ Hid (Below W1.heap.size W1 w') ∧ Hid (Row w' (w.heap.size + 1 + 1) 24 [.slice none 0 0])) := Lib.hid (by
    have h := concat_any _ (W1.heap.size + 1) 3 [xs.take p, [⟨kk, bb, rr⟩], xs.drop p] HL.out (by simp) (by rw [ins_flat, HLEN.out]; omega) (by rw [ins_flat, HLEN.out]; omega)
    refine h.mono fun e w' hh => ?_
    obtain ⟨v, he, hown, hb⟩ := hh
    rw [ins_flat] at hown
    obtain ⟨a, c, rfl, -⟩ := owns_form hown
    have hb' := below_trans HB3.out hb
    obtain ⟨g1, g2, g3⟩ := HD.out w' (Lib.hid hb')
    rw [HLEN.out] at he hown
    refine ⟨a, c, he, g1, g2, g3, Lib.hid ?_, Lib.hid hb', Lib.hid (HR2.out.below hb')⟩
    refine ⟨hown.1, hown.2.imp id ?_⟩
    rintro ⟨g, cap, cur, h1, h2, h3⟩
    exact ⟨g, cap, cur, h1, by simp at h2; omega, h3⟩)
  have hne1 : ¬ (w.heap.size + 1 + 1 = w.heap.size) := by omega
  have hne2 : ¬ (w.heap.size + 1 + 1 = w.heap.size + 1) := by omega
  go_region_held3 (fun W => W.cell? ⟨w.heap.size, 0, none⟩ = some (.slice (some ad) p p) ∧ W.cell? ⟨w.heap.size + 1, 0, none⟩ = some (.string kk) ∧ W.cell? ⟨w.heap.size + 1, 1, none⟩ = some (.string bb) ∧ W.cell? ⟨w.heap.size + 1, 2, none⟩ = some (.int .i64 rr)) (first | go_keep | assumption)
    (first | (go_at_call 38; refine HC.out.mono ?_; rintro e w4 ⟨a4, c4, rfl, hq4, hc4, hf4, HO4, HB4, HR4⟩) | fail)
  have hbut : But (w.heap.size + 1 + 1) w4 (w4.setCell ⟨w.heap.size + 1 + 1, 0, none⟩ (.slice a4 (xs.length + 1) c4)) := (But.refl _ _).set _ _
  obtain ⟨a5, c5, hv5, -, hI5⟩ := InI.of_owns (xs := insF xs p ⟨kk, bb, rr⟩) (owns_but HO4.out hbut hz)
  have r5 := (HR4.out.set 0 (.slice a4 (xs.length + 1) c4)).cell (i := 0) rfl
  have HB5 := (below_trans HB0.out (HB4.out)).trans (hbut.below (B := w.heap.size) (by omega))
  have HV5 := Lib.hid hv5
  clear hv5 k2 k3 hq4 hc4 d0 d1 d2 d3 d4 hbut
  go_wp2
  exact bodyPost_ret (v := .agg #[.slice a4 (xs.length + 1) c4]) (by simp [results, Tryd.results30, go_sem, r5]) rfl ⟨a5, c5, by rw [HV5.out], hI5, fun ad had => by
    have h1 := HV5.out
    injection h1 with h1
    have := own_base HO4.out ad (h1.trans had)
    have := HB0.out.size
    omega, HB5⟩

set_option maxHeartbeats 3200000 in
set_option maxRecDepth 100000 in
theorem inserted_nil (w : World)  (it : Itm)  :
    Calls Tryd.prog 30 #[.agg #[.slice none 0 0], .int .i64 0, itV it] w (StPost (insF [] 0 it) w) := by
  have HIN : Hid (InI w none []) := Lib.hid (InI.nil _ _)
  have r0 := ((row_new w #[.slice none 0 0] 24).alloc (.cells #[.string it.k, .string it.b, .int .i64 it.r] 29)).alloc (.cells #[.slice none 0 0] 24)
  have r1 := (row_new (w.alloc (.cells #[.slice none 0 0] 24)) #[.string it.k, .string it.b, .int .i64 it.r] 29).alloc (.cells #[.slice none 0 0] 24)
  have r2 := row_new ((w.alloc (.cells #[.slice none 0 0] 24)).alloc (.cells #[.string it.k, .string it.b, .int .i64 it.r] 29)) #[.slice none 0 0] 24
  simp only [World.size_alloc] at r1 r2
  have HB0 : Hid (Below w.heap.size w (((w.alloc (.cells #[.slice none 0 0] 24)).alloc (.cells #[.string it.k, .string it.b, .int .i64 it.r] 29)).alloc (.cells #[.slice none 0 0] 24))) := Lib.hid (below3 _ _ _ _)
  have hz : w.heap.size + 1 + 1 < (((w.alloc (.cells #[.slice none 0 0] 24)).alloc (.cells #[.string it.k, .string it.b, .int .i64 it.r] 29)).alloc (.cells #[.slice none 0 0] 24)).heap.size := by simp
  obtain ⟨kk, bb, rr⟩ := it
  try simp only at r0 r1 r2 HB0 hz
  go_enter Tryd.func30, Tryd.ntmps30
  go_wp2
  generalize hW1 : (((w.alloc (.cells #[.slice none 0 0] 24)).alloc (.cells #[.string kk, .string bb, .int .i64 rr] 29)).alloc (.cells #[.slice none 0 0] 24)) = W1 at *
  clear hW1
  have HD : Hid (∀ W, Hid (Below W1.heap.size W1 W) → (W.cell? ⟨w.heap.size, 0, none⟩ = some (.slice none 0 0) ∧ W.cell? ⟨w.heap.size + 1, 0, none⟩ = some (.string kk) ∧ W.cell? ⟨w.heap.size + 1, 1, none⟩ = some (.string bb) ∧ W.cell? ⟨w.heap.size + 1, 2, none⟩ = some (.int .i64 rr)) ∧ W.cell? ⟨w.heap.size + 1 + 1, 0, none⟩ = some (.slice none 0 0) ∧ W.frozen? ⟨w.heap.size + 1 + 1, 0, none⟩ = false) := Lib.hid (fun W h => by
    have q0 := r0.below h.out
    have q1 := r1.below h.out
    have q2 := r2.below h.out
    exact ⟨⟨q0.cell rfl, q1.cell rfl, q1.cell rfl, q1.cell rfl⟩, q2.cell rfl, q2.thaw 0⟩)
  have hd0 : Hid (Below W1.heap.size W1 W1.drew) := Lib.hid (Below.refl _ _).drew
  obtain ⟨⟨d0, d1, d2, d3⟩, d4, d5⟩ := HD.out _ hd0
  have HR2 := Lib.hid r2
  clear r0 r1 r2
  have HB2 : Hid (Below W1.heap.size W1 (W1.alloc (.cells #[.string kk, .string bb, .int .i64 rr] 29)).drew) := Lib.hid (below1 _ _).drew
  have HB3 : Hid (Below W1.heap.size W1 ((W1.alloc (.cells #[.string kk, .string bb, .int .i64 rr] 29)).alloc (.cells #[.slice none 0 0, .slice (some ⟨W1.heap.size, 0, none⟩) 1 1, .slice none 0 0] 22)).drew) := Lib.hid (below2 _ _ _).drew
  have k2 := (HD.out _ HB2).1
  have k3 := (HD.out _ HB3).1
  have HL : Hid (Lists ((W1.alloc (.cells #[.string kk, .string bb, .int .i64 rr] 29)).alloc (.cells #[.slice none 0 0, .slice (some ⟨W1.heap.size, 0, none⟩) 1 1, .slice none 0 0] 22)).drew (W1.heap.size + 1) [([] : List Itm), [⟨kk, bb, rr⟩], ([] : List Itm)]) := Lib.hid (by
    have hi1 := (HIN.out.below HB0.out).below HB3.out
    have q1 := (row_new W1 #[.string kk, .string bb, .int .i64 rr] 29).alloc (.cells #[.slice none 0 0, .slice (some ⟨W1.heap.size, 0, none⟩) 1 1, .slice none 0 0] 22)
    have q2 := row_new (W1.alloc (.cells #[.string kk, .string bb, .int .i64 rr] 29)) #[.slice none 0 0, .slice (some ⟨W1.heap.size, 0, none⟩) 1 1, .slice none 0 0] 22
    simp only [World.size_alloc] at q2
    refine ⟨by simp, fun k l hk => ?_⟩
    match k, hk with
    | 0, hk =>
      obtain rfl := Option.some.inj hk
      exact ⟨none, 0, q2.cell rfl, InI.nil _ _⟩
    | 1, hk =>
      obtain rfl := Option.some.inj hk
      exact ⟨some ⟨W1.heap.size, 0, none⟩, 1, q2.cell rfl, own_inI ⟨q1.cell rfl, q1.cell rfl, q1.cell rfl⟩ (by simp; omega) rfl⟩
    | 2, hk =>
      obtain rfl := Option.some.inj hk
      exact ⟨none, 0, q2.cell rfl, (InI.nil _ _)⟩
    | k + 3, hk => simp at hk)
  have HLEN : Hid ((insF [] 0 ⟨kk, bb, rr⟩).length = 1) := Lib.hid (insF_length (Nat.le_refl 0))
  have HC : Hid (Calls Tryd.prog 38 #[.slice (some ⟨W1.heap.size + 1, 0, none⟩) 3 3] ((W1.alloc (.cells #[.string kk, .string bb, .int .i64 rr] 29)).alloc (.cells #[.slice none 0 0, .slice (some ⟨W1.heap.size, 0, none⟩) 1 1, .slice none 0 0] 22)).drew fun e w' => ∃ a c, e = .returned (.slice a 1 c) ∧ (w'.cell? ⟨w.heap.size, 0, none⟩ = some (.slice none 0 0) ∧ w'.cell? ⟨w.heap.size + 1, 0, none⟩ = some (.string kk) ∧ w'.cell? ⟨w.heap.size + 1, 1, none⟩ = some (.string bb) ∧ w'.cell? ⟨w.heap.size + 1, 2, none⟩ = some (.int .i64 rr)) ∧ w'.cell? ⟨w.heap.size + 1 + 1, 0, none⟩ = some (.slice none 0 0) ∧ w'.frozen? ⟨w.heap.size + 1 + 1, 0, none⟩ = false ∧ Hid (Own w' W1.heap.size (.slice a 1 c) (insF [] 0 ⟨kk, bb, rr⟩)) ∧ Hid (Below W1.heap.size W1 w') ∧ Hid (Row w' (w.heap.size + 1 + 1) 24 [.slice none 0 0])) := Lib.hid (by
    have h := concat_any _ (W1.heap.size + 1) 3 [([] : List Itm), [⟨kk, bb, rr⟩], ([] : List Itm)] HL.out (by simp) (by rw [ins_flat0, HLEN.out]; omega) (by rw [ins_flat0, HLEN.out]; omega)
    refine h.mono fun e w' hh => ?_
    obtain ⟨v, he, hown, hb⟩ := hh
    rw [ins_flat0] at hown
    obtain ⟨a, c, rfl, -⟩ := owns_form hown
    have hb' := below_trans HB3.out hb
    obtain ⟨g1, g2, g3⟩ := HD.out w' (Lib.hid hb')
    rw [HLEN.out] at he hown
    refine ⟨a, c, he, g1, g2, g3, Lib.hid ?_, Lib.hid hb', Lib.hid (HR2.out.below hb')⟩
    refine ⟨hown.1, hown.2.imp id ?_⟩
    rintro ⟨g, cap, cur, h1, h2, h3⟩
    exact ⟨g, cap, cur, h1, by simp at h2; omega, h3⟩)
  have hne1 : ¬ (w.heap.size + 1 + 1 = w.heap.size) := by omega
  have hne2 : ¬ (w.heap.size + 1 + 1 = w.heap.size + 1) := by omega
  go_region_held3 (fun W => W.cell? ⟨w.heap.size, 0, none⟩ = some (.slice none 0 0) ∧ W.cell? ⟨w.heap.size + 1, 0, none⟩ = some (.string kk) ∧ W.cell? ⟨w.heap.size + 1, 1, none⟩ = some (.string bb) ∧ W.cell? ⟨w.heap.size + 1, 2, none⟩ = some (.int .i64 rr)) (first | go_keep | assumption)
    (first | (go_at_call 38; refine HC.out.mono ?_; rintro e w4 ⟨a4, c4, rfl, hq4, hc4, hf4, HO4, HB4, HR4⟩) | fail)
  have hbut : But (w.heap.size + 1 + 1) w4 (w4.setCell ⟨w.heap.size + 1 + 1, 0, none⟩ (.slice a4 1 c4)) := (But.refl _ _).set _ _
  obtain ⟨a5, c5, hv5, -, hI5⟩ := InI.of_owns (xs := insF [] 0 ⟨kk, bb, rr⟩) (owns_but HO4.out hbut hz)
  have r5 := (HR4.out.set 0 (.slice a4 1 c4)).cell (i := 0) rfl
  have HB5 := (below_trans HB0.out (HB4.out)).trans (hbut.below (B := w.heap.size) (by omega))
  have HV5 := Lib.hid hv5
  clear hv5 k2 k3 hq4 hc4 d0 d1 d2 d3 d4 hbut
  go_wp2
  exact bodyPost_ret (v := .agg #[.slice a4 1 c4]) (by simp [results, Tryd.results30, go_sem, r5]) rfl ⟨a5, c5, by rw [HV5.out], hI5, fun ad had => by
    have h1 := HV5.out
    injection h1 with h1
    have := own_base HO4.out ad (h1.trans had)
    have := HB0.out.size
    omega, HB5⟩

theorem inserted_any (w : World) (a : Option Addr) (cap p : Nat) (xs : List Itm) (it : Itm) (hp : p ≤ xs.length) (hl : xs.length < 4096) (hIn : InI w a xs) (hc : xs.length ≤ cap) (hc2 : cap ≤ 9223372036854775807) (hnil : a = none → cap = 0) :
    Calls Tryd.prog 30 #[.agg #[.slice a xs.length cap], .int .i64 p, itV it] w (StPost (insF xs p it) w) := by
  cases a with
  | none =>
    have h0 := hnil rfl
    subst h0
    have hx : xs = [] := List.length_eq_zero_iff.1 (by omega)
    subst hx
    have hp0 : p = 0 := by simpa using hp
    subst hp0
    exact inserted_nil w it
  | some ad =>
    by_cases hck : cap = p
    · subst hck
      have he : xs.length = cap := by omega
      have h := inserted_full w ad cap xs it hp hl hIn (Lib.hid he)
      rw [he]
      exact h
    · exact inserted_some w ad cap p xs it hp hl hIn hc hc2 hck
end Go.Proofs.YtmaafhhdbhkplaaDoor
