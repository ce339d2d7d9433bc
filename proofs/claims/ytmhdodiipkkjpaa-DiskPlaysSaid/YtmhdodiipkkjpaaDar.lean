/- Disks, calls and numbers that are handed in: what they hold. -/
import Derived.Test.YtmhdodiipkkjpaaDu
import Derived.Deep.Slices
import Derived.Deep.Fields
import Derived.SizedLaws
import Derived.ShutString
import Derived.WideShapes4
import Derived.ProofKit
import Derived.OpenShut
namespace Go.Proofs.Ytmhdodiipkkjpaa.Dk
open Go.ChangeShapes Go.WideShapes Go.ChangeAt Go.WideMaps Go.WideElems Go.RowKit Go.Deep

theorem arg_laidOut : laidOutB Try.prog = true := by kernel_rfl
theorem cells9 : Try.prog.cellsOf 9 = 1 := by kernel_rfl
theorem cells3 : Try.prog.cellsOf 3 = 1 := by kernel_rfl
theorem cells4 : Try.prog.cellsOf 4 = 1 := by kernel_rfl
theorem cellsFil : Try.prog.cellsOf 44 = 3 := by kernel_rfl
theorem cellsDsk : Try.prog.cellsOf 24 = 4 := by kernel_rfl
theorem cellsCal : Try.prog.cellsOf 26 = 4 := by kernel_rfl
theorem cellsFs : Try.prog.cellsOf 22 = 1 := by kernel_rfl
theorem list_of {α : Type} {Q : Nat → α → Prop} : ∀ n : Nat, (∀ i, i < n → ∃ x, Q i x) → ∃ xs : List α, xs.length = n ∧ ∀ (j : Nat) (x : α), xs[j]? = some x → Q j x
  | 0, _ => ⟨[], rfl, fun j x h => by simp at h⟩
  | n + 1, h => by
    obtain ⟨xs, hl, hx⟩ := list_of n (fun i hi => h i (by omega))
    obtain ⟨y, hy⟩ := h n (by omega)
    refine ⟨xs ++ [y], by simp [hl], fun j x hj => ?_⟩
    by_cases hjn : j < n
    · rw [List.getElem?_append_left (by omega)] at hj
      exact hx j x hj
    · have hlt := (List.getElem?_eq_some_iff.1 hj).1
      simp at hlt
      obtain rfl : j = n := by omega
      rw [List.getElem?_append_right (by omega), hl] at hj
      simp at hj
      rw [← hj]; exact hy
theorem weights_all {H : Type} {P : Program} {e : TypeId} {n : Nat} : ∀ {l : List (DataW H)} {d : DataW H}, d ∈ l → n ∈ d.weights P e → n ∈ DataW.weightsAll P e l
  | x :: l, d, h, hn => by
    rw [DataW.weightsAll]
    rcases List.mem_cons.1 h with rfl | h
    · exact List.mem_append_left _ hn
    · exact List.mem_append_right _ (weights_all h hn)
/-- A call that is handed in. -/
structure Cal where
  what : Int
  n : BA
  m : BA
  k : Int
abbrev I64 (n : Int) : Prop := -9223372036854775808 ≤ n ∧ n ≤ 9223372036854775807
structure FitC (x : Cal) : Prop where
  n : x.n.size ≤ 140737488351232
  m : x.m.size ≤ 140737488351232
  k : I64 x.k
theorem wf_i64 {n : Int} (h : (Lit.int .i64 n).wf = true) : I64 n := bounds_i64 h
def CCal (x : Cal) (cs : List Value) : Prop := cs = [.int .i64 x.what, .string x.n, .string x.m, .int .i64 x.k]
abbrev caV (x : Cal) : Value := .agg #[.int .i64 x.what, .string x.n, .string x.m, .int .i64 x.k]
abbrev SlK (w : World) (S : Nat → Prop) (v : Value) (xs : List Cal) : Prop := Sl 4 CCal w S v xs

section
variable {H : Type} {enc : TypeId × Value → H} {W : World}

set_option maxRecDepth 100000 in
theorem open_fil {n : Nat} {cs : List Value} {y : DataW H × List MemPlace} (hl : cs.length = 3) (h : DataW.trod enc Try.prog W 0 (fun _ => true) true n 44 cs = some y) :
    ∃ x : Fil, cs = [.string x.nm, .string x.sy, .string x.tl] ∧ x.nm.data.toList.length ∈ y.1.weights Try.prog 44 ∧ x.sy.data.toList.length ∈ y.1.weights Try.prog 44 ∧ x.tl.data.toList.length ∈ y.1.weights Try.prog 44 := by
  obtain ⟨ys, n', -, hy, -, hyl, hg⟩ := DataW.trod_struct Try.underlying44 h
  match cs, hl with
  | [c0, c1, c2], _ =>
    have g0 : DataW.trod enc Try.prog W 0 (fun _ => true) true n' 9 (([c0, c1, c2].drop 0).take (Try.prog.cellsOf 9)) = ys[0]? := hg 0 _ rfl
    have g1 : DataW.trod enc Try.prog W 0 (fun _ => true) true n' 9 (([c0, c1, c2].drop 1).take (Try.prog.cellsOf 9)) = ys[1]? := hg 1 _ rfl
    have g2 : DataW.trod enc Try.prog W 0 (fun _ => true) true n' 9 (([c0, c1, c2].drop 2).take (Try.prog.cellsOf 9)) = ys[2]? := hg 2 _ rfl
    simp only [cells9, List.drop_zero, List.take_succ_cons, List.take_zero, List.drop_succ_cons] at g0 g1 g2
    match ys, hyl with
    | [y0, y1, y2], _ =>
      obtain ⟨k0, hk0, hw0, hf0⟩ := DataW.trod_string Try.underlying9 g0
      obtain ⟨k1, hk1, hw1, hf1⟩ := DataW.trod_string Try.underlying9 g1
      obtain ⟨k2, hk2, hw2, hf2⟩ := DataW.trod_string Try.underlying9 g2
      simp only [List.cons.injEq, and_true] at hk0 hk1 hk2
      refine ⟨⟨k0, k1, k2⟩, by rw [hk0, hk1, hk2], ?_, ?_, ?_⟩
      · rw [hy]
        simp [DataW.weights, Try.underlying44, DataW.weightsEach, hw0]
      · rw [hy]
        simp [DataW.weights, Try.underlying44, DataW.weightsEach, hw1]
      · rw [hy]
        simp [DataW.weights, Try.underlying44, DataW.weightsEach, hw2]
set_option maxRecDepth 100000 in
theorem open_fils {fuel : Nat} {c0 : Value} {y0 : DataW H × List MemPlace} (g1 : DataW.trod enc Try.prog W 0 (fun _ => true) true fuel 22 [c0] = some y0)
    (hlt2 : ∀ x ∈ y0.2, x.block < W.heap.size) (hw2 : ∀ n ∈ y0.1.weights Try.prog 22, n ≤ reachBytes) : ∃ (a : Option Addr) (cap : Nat) (xs : List Fil), c0 = .slice a xs.length cap ∧ SlF W (Old W) (.slice a xs.length cap) xs ∧ ∀ x, x ∈ xs → FitF x := by
  rcases open_slice Try.underlying22 g1 with ⟨hcs, -⟩ | ⟨a, len, cap, m, n2, D, Pl, hcs, -, hl, hm, hmm, hx, hi⟩
  · obtain rfl : c0 = .slice none 0 0 := by simpa using hcs
    exact ⟨none, 0, [], rfl, Sl.nil _ _ _ _, fun x hx => by cases hx⟩
  · obtain rfl : c0 = .slice (some a) len cap := by simpa using hcs
    simp only [if_true] at hmm
    unfold maxLen at hm
    rw [cellsFil] at hi hx
    have hex : ∀ i, i < len → ∃ x : Fil, (W.cell? (a.add (i * 3)) = some (.string x.nm) ∧ W.cell? (a.add (i * 3 + 1)) = some (.string x.sy) ∧ W.cell? (a.add (i * 3 + 2)) = some (.string x.tl)) ∧ FitF x := fun i hil => by
      obtain ⟨cs', hc, ht'⟩ := hi i (by omega)
      obtain ⟨-, hcl, hat⟩ := World.cells?_some hc
      obtain ⟨x, rfl, h0, h1, h2⟩ := open_fil hcl ht'
      have hmem : D i ∈ (List.range len).map D := List.mem_map.2 ⟨i, List.mem_range.2 hil, rfl⟩
      have hwm : ∀ q ∈ (D i).weights Try.prog 44, q ≤ 140737488351232 := fun q hq => by
        have := hw2 q (by
          rw [hx]
          simp only [DataW.weights, Try.underlying22]
          exact List.mem_cons_of_mem _ (List.mem_append_left _ (weights_all hmem hq)))
        simpa [reachBytes] using this
      have k0 := hat 0 (by omega)
      have k1 := hat 1 (by omega)
      have k2 := hat 2 (by omega)
      rw [Go.Deep.add_add] at k0 k1 k2
      exact ⟨x, ⟨k0, k1, k2⟩, by have := hwm _ h0; rwa [len_list] at this, by have := hwm _ h1; rwa [len_list] at this, by have := hwm _ h2; rwa [len_list] at this⟩
    obtain ⟨xs, hxl, hxs⟩ := list_of len hex
    refine ⟨some a, cap, xs, by rw [hxl], ⟨some a, cap, rfl, by omega, hm, fun hne => ?_⟩, fun x hx => by
      obtain ⟨j, hj⟩ := List.mem_iff_getElem?.1 hx
      exact (hxs j x hj).2⟩
    have hpos : 0 < xs.length := List.length_pos_iff.2 hne
    have hc0 := (hxs 0 xs[0] (List.getElem?_eq_getElem hpos)).1.1
    obtain ⟨b, off, spot⟩ := a
    have hspot : spot = none := by simpa [Addr.add] using World.cell?_spot hc0
    subst hspot
    have hbW : b < W.heap.size := hlt2 (.cell b off) (by rw [hx]; exact List.mem_append_left _ (MemPlace.mem_row.2 ⟨0, by omega, by simp⟩))
    refine ⟨b, off, rfl, hbW, fun j x hj => ?_⟩
    obtain ⟨⟨h0, h1, h2⟩, -⟩ := hxs j x hj
    rw [Addr.add_mid] at h0 h1 h2
    refine ⟨[.string x.nm, .string x.sy, .string x.tl], rfl, rfl, fun i u hu => ?_⟩
    match i, hu with
    | 0, hu => obtain rfl := Option.some.inj hu; exact h0
    | 1, hu => obtain rfl := Option.some.inj hu; rw [Nat.add_assoc]; exact h1
    | 2, hu => obtain rfl := Option.some.inj hu; rw [Nat.add_assoc]; exact h2
    | _ + 3, hu => simp at hu
set_option maxRecDepth 100000 in
theorem open_cal {n : Nat} {cs : List Value} {y : DataW H × List MemPlace} (hl : cs.length = 4) (h : DataW.trod enc Try.prog W 0 (fun _ => true) true n 26 cs = some y) :
    ∃ x : Cal, cs = [.int .i64 x.what, .string x.n, .string x.m, .int .i64 x.k] ∧ (Lit.int .i64 x.what).wf = true ∧ x.n.data.toList.length ∈ y.1.weights Try.prog 26 ∧ x.m.data.toList.length ∈ y.1.weights Try.prog 26 ∧ (Lit.int .i64 x.k).wf = true := by
  obtain ⟨ys, n', -, hy, -, hyl, hg⟩ := DataW.trod_struct Try.underlying26 h
  match cs, hl with
  | [c0, c1, c2, c3], _ =>
    have g0 : DataW.trod enc Try.prog W 0 (fun _ => true) true n' 3 (([c0, c1, c2, c3].drop 0).take (Try.prog.cellsOf 3)) = ys[0]? := hg 0 _ rfl
    have g1 : DataW.trod enc Try.prog W 0 (fun _ => true) true n' 9 (([c0, c1, c2, c3].drop 1).take (Try.prog.cellsOf 9)) = ys[1]? := hg 1 _ rfl
    have g2 : DataW.trod enc Try.prog W 0 (fun _ => true) true n' 9 (([c0, c1, c2, c3].drop 2).take (Try.prog.cellsOf 9)) = ys[2]? := hg 2 _ rfl
    have g3 : DataW.trod enc Try.prog W 0 (fun _ => true) true n' 3 (([c0, c1, c2, c3].drop 3).take (Try.prog.cellsOf 3)) = ys[3]? := hg 3 _ rfl
    simp only [cells3, cells9, List.drop_zero, List.take_succ_cons, List.take_zero, List.drop_succ_cons] at g0 g1 g2 g3
    match ys, hyl with
    | [y0, y1, y2, y3], _ =>
      obtain ⟨k0, hk0, hw0, hf0⟩ := DataW.trod_int Try.underlying3 g0
      obtain ⟨k1, hk1, hw1, hf1⟩ := DataW.trod_string Try.underlying9 g1
      obtain ⟨k2, hk2, hw2, hf2⟩ := DataW.trod_string Try.underlying9 g2
      obtain ⟨k3, hk3, hw3, hf3⟩ := DataW.trod_int Try.underlying3 g3
      simp only [List.cons.injEq, and_true] at hk0 hk1 hk2 hk3
      refine ⟨⟨k0, k1, k2, k3⟩, by rw [hk0, hk1, hk2, hk3], ?_, ?_, ?_, ?_⟩
      · exact hf0
      · rw [hy]
        simp [DataW.weights, Try.underlying26, DataW.weightsEach, hw1]
      · rw [hy]
        simp [DataW.weights, Try.underlying26, DataW.weightsEach, hw2]
      · exact hf3
set_option maxRecDepth 100000 in
theorem open_cals {fuel : Nat} {c0 : Value} {y0 : DataW H × List MemPlace} (g1 : DataW.trod enc Try.prog W 0 (fun _ => true) true fuel 48 [c0] = some y0)
    (hlt2 : ∀ x ∈ y0.2, x.block < W.heap.size) (hw2 : ∀ n ∈ y0.1.weights Try.prog 48, n ≤ reachBytes) : ∃ (a : Option Addr) (cap : Nat) (xs : List Cal), c0 = .slice a xs.length cap ∧ SlK W (Old W) (.slice a xs.length cap) xs ∧ ∀ x, x ∈ xs → FitC x := by
  rcases open_slice Try.underlying48 g1 with ⟨hcs, -⟩ | ⟨a, len, cap, m, n2, D, Pl, hcs, -, hl, hm, hmm, hx, hi⟩
  · obtain rfl : c0 = .slice none 0 0 := by simpa using hcs
    exact ⟨none, 0, [], rfl, Sl.nil _ _ _ _, fun x hx => by cases hx⟩
  · obtain rfl : c0 = .slice (some a) len cap := by simpa using hcs
    simp only [if_true] at hmm
    unfold maxLen at hm
    rw [cellsCal] at hi hx
    have hex : ∀ i, i < len → ∃ x : Cal, (W.cell? (a.add (i * 4)) = some (.int .i64 x.what) ∧ W.cell? (a.add (i * 4 + 1)) = some (.string x.n) ∧ W.cell? (a.add (i * 4 + 2)) = some (.string x.m) ∧ W.cell? (a.add (i * 4 + 3)) = some (.int .i64 x.k)) ∧ FitC x := fun i hil => by
      obtain ⟨cs', hc, ht'⟩ := hi i (by omega)
      obtain ⟨-, hcl, hat⟩ := World.cells?_some hc
      obtain ⟨x, rfl, h0, h1, h2, h3⟩ := open_cal hcl ht'
      have hmem : D i ∈ (List.range len).map D := List.mem_map.2 ⟨i, List.mem_range.2 hil, rfl⟩
      have hwm : ∀ q ∈ (D i).weights Try.prog 26, q ≤ 140737488351232 := fun q hq => by
        have := hw2 q (by
          rw [hx]
          simp only [DataW.weights, Try.underlying48]
          exact List.mem_cons_of_mem _ (List.mem_append_left _ (weights_all hmem hq)))
        simpa [reachBytes] using this
      have k0 := hat 0 (by omega)
      have k1 := hat 1 (by omega)
      have k2 := hat 2 (by omega)
      have k3 := hat 3 (by omega)
      rw [Go.Deep.add_add] at k0 k1 k2 k3
      exact ⟨x, ⟨k0, k1, k2, k3⟩, by have := hwm _ h1; rwa [len_list] at this, by have := hwm _ h2; rwa [len_list] at this, wf_i64 h3⟩
    obtain ⟨xs, hxl, hxs⟩ := list_of len hex
    refine ⟨some a, cap, xs, by rw [hxl], ⟨some a, cap, rfl, by omega, hm, fun hne => ?_⟩, fun x hx => by
      obtain ⟨j, hj⟩ := List.mem_iff_getElem?.1 hx
      exact (hxs j x hj).2⟩
    have hpos : 0 < xs.length := List.length_pos_iff.2 hne
    have hc0 := (hxs 0 xs[0] (List.getElem?_eq_getElem hpos)).1.1
    obtain ⟨b, off, spot⟩ := a
    have hspot : spot = none := by simpa [Addr.add] using World.cell?_spot hc0
    subst hspot
    have hbW : b < W.heap.size := hlt2 (.cell b off) (by rw [hx]; exact List.mem_append_left _ (MemPlace.mem_row.2 ⟨0, by omega, by simp⟩))
    refine ⟨b, off, rfl, hbW, fun j x hj => ?_⟩
    obtain ⟨⟨h0, h1, h2, h3⟩, -⟩ := hxs j x hj
    rw [Addr.add_mid] at h0 h1 h2 h3
    refine ⟨[.int .i64 x.what, .string x.n, .string x.m, .int .i64 x.k], rfl, rfl, fun i u hu => ?_⟩
    match i, hu with
    | 0, hu => obtain rfl := Option.some.inj hu; exact h0
    | 1, hu => obtain rfl := Option.some.inj hu; rw [Nat.add_assoc]; exact h1
    | 2, hu => obtain rfl := Option.some.inj hu; rw [Nat.add_assoc]; exact h2
    | 3, hu => obtain rfl := Option.some.inj hu; rw [Nat.add_assoc]; exact h3
    | _ + 4, hu => simp at hu
set_option maxRecDepth 100000 in
theorem open_nums {fuel : Nat} {c0 : Value} {y0 : DataW H × List MemPlace} (g1 : DataW.trod enc Try.prog W 0 (fun _ => true) true fuel 35 [c0] = some y0)
    (hlt2 : ∀ x ∈ y0.2, x.block < W.heap.size) : ∃ (a : Option Addr) (cap : Nat) (xs : List Int), c0 = .slice a xs.length cap ∧ SlI W (Old W) (.slice a xs.length cap) xs ∧ ∀ x, x ∈ xs → I64 x := by
  rcases open_slice Try.underlying35 g1 with ⟨hcs, -⟩ | ⟨a, len, cap, m, n2, D, Pl, hcs, -, hl, hm, hmm, hx, hi⟩
  · obtain rfl : c0 = .slice none 0 0 := by simpa using hcs
    exact ⟨none, 0, [], rfl, Sl.nil _ _ _ _, fun x hx => by cases hx⟩
  · obtain rfl : c0 = .slice (some a) len cap := by simpa using hcs
    simp only [if_true] at hmm
    unfold maxLen at hm
    rw [cells3] at hi hx
    have hex : ∀ i, i < len → ∃ x : Int, W.cell? (a.add (i * 1)) = some (.int .i64 x) ∧ I64 x := fun i hil => by
      obtain ⟨cs', hc, ht'⟩ := hi i (by omega)
      obtain ⟨-, hcl, hat⟩ := World.cells?_some hc
      obtain ⟨x, rfl, -, hf⟩ := DataW.trod_int Try.underlying3 ht'
      have k0 := hat 0 (by simp)
      rw [Go.Deep.add_add] at k0
      exact ⟨x, k0, wf_i64 hf⟩
    obtain ⟨xs, hxl, hxs⟩ := list_of len hex
    refine ⟨some a, cap, xs, by rw [hxl], ⟨some a, cap, rfl, by omega, hm, fun hne => ?_⟩, fun x hx => by
      obtain ⟨j, hj⟩ := List.mem_iff_getElem?.1 hx
      exact (hxs j x hj).2⟩
    have hpos : 0 < xs.length := List.length_pos_iff.2 hne
    have hc0 := (hxs 0 xs[0] (List.getElem?_eq_getElem hpos)).1
    obtain ⟨b, off, spot⟩ := a
    have hspot : spot = none := by simpa [Addr.add] using World.cell?_spot hc0
    subst hspot
    have hbW : b < W.heap.size := hlt2 (.cell b off) (by rw [hx]; exact List.mem_append_left _ (MemPlace.mem_row.2 ⟨0, by omega, by simp⟩))
    refine ⟨b, off, rfl, hbW, fun j x hj => ?_⟩
    obtain ⟨h0, -⟩ := hxs j x hj
    rw [Addr.add_mid] at h0
    refine ⟨[.int .i64 x], rfl, rfl, fun i u hu => ?_⟩
    match i, hu with
    | 0, hu => obtain rfl := Option.some.inj hu; exact h0
    | _ + 1, hu => simp at hu
set_option maxRecDepth 100000 in
theorem open_call {r : Reach} {b0 : Nat} {v : Value} {d : DataW H} {p : List MemPlace} (hv : Value.okWide Try.prog W r b0 26 v) (h : DataW.Trod enc Try.prog W 0 (fun _ => true) true 26 v d p)
    (hw : ∀ n ∈ d.weights Try.prog 26, n ≤ reachBytes) : ∃ x : Cal, v = caV x ∧ FitC x := by
  obtain ⟨cs, rfl, hsz⟩ := okWide_struct Try.underlying26 hv
  rw [cellsCal] at hsz
  obtain ⟨l⟩ := cs
  obtain ⟨fuel, hf⟩ := h
  obtain ⟨x, hx, h0, h1, h2, h3⟩ := open_cal (cs := l) (by simpa using hsz) hf
  subst hx
  have hwm : ∀ q ∈ d.weights Try.prog 26, q ≤ 140737488351232 := fun q hq => by simpa [reachBytes] using hw q hq
  exact ⟨x, rfl, by have := hwm _ h1; rwa [len_list] at this, by have := hwm _ h2; rwa [len_list] at this, wf_i64 h3⟩
set_option maxRecDepth 100000 in
theorem open_disk {r : Reach} {b0 : Nat} {v : Value} {d : DataW H} {p : List MemPlace} (hv : Value.okWide Try.prog W r b0 24 v) (h : DataW.Trod enc Try.prog W 0 (fun _ => true) true 24 v d p)
    (hlt : ∀ x ∈ p, x.block < W.heap.size) (hw : ∀ n ∈ d.weights Try.prog 24, n ≤ reachBytes) : ∃ (x : Dsk) (a : Option Addr) (cap : Nat), v = diV x (.slice a x.fs.length cap) ∧ DAt W x a cap := by
  obtain ⟨cs, rfl, hsz⟩ := okWide_struct Try.underlying24 hv
  rw [cellsDsk] at hsz
  obtain ⟨l⟩ := cs
  match l, hsz with
  | [c0, c1, c2, c3], _ =>
    obtain ⟨fuel, hf⟩ := h
    obtain ⟨ys, n', -, hx, -, hyl, hg⟩ := DataW.trod_struct Try.underlying24 hf
    have g0 : DataW.trod enc Try.prog W 0 (fun _ => true) true n' 3 (([c0, c1, c2, c3].drop 0).take (Try.prog.cellsOf 3)) = ys[0]? := hg 0 _ rfl
    have g1 : DataW.trod enc Try.prog W 0 (fun _ => true) true n' 22 (([c0, c1, c2, c3].drop 1).take (Try.prog.cellsOf 22)) = ys[1]? := hg 1 _ rfl
    have g2 : DataW.trod enc Try.prog W 0 (fun _ => true) true n' 3 (([c0, c1, c2, c3].drop 2).take (Try.prog.cellsOf 3)) = ys[2]? := hg 2 _ rfl
    have g3 : DataW.trod enc Try.prog W 0 (fun _ => true) true n' 4 (([c0, c1, c2, c3].drop 3).take (Try.prog.cellsOf 4)) = ys[3]? := hg 3 _ rfl
    simp only [cells3, cells4, cellsFs, List.drop_zero, List.take_succ_cons, List.take_zero, List.drop_succ_cons] at g0 g1 g2 g3
    match ys, hyl with
    | [y0, y1, y2, y3], _ =>
      simp only [Prod.mk.injEq] at hx
      obtain ⟨hx1, hx2⟩ := hx
      obtain ⟨k0, hk0, -, -⟩ := DataW.trod_int Try.underlying3 g0
      obtain ⟨k2, hk2, -, -⟩ := DataW.trod_int Try.underlying3 g2
      obtain ⟨k3, hk3, -⟩ := DataW.trod_bool Try.underlying4 g3
      have g1' : DataW.trod enc Try.prog W 0 (fun _ => true) true n' 22 [c1] = some y1 := by simpa using g1
      obtain ⟨a, cap, xs, rfl, hs, hft⟩ := open_fils g1' (fun x hxm => hlt x (by rw [hx2]; simp [hxm])) (fun m hm => hw m (by
        rw [hx1]
        simp [DataW.weights, Try.underlying24, DataW.weightsEach, hm]))
      simp only [List.cons.injEq, and_true] at hk0 hk2 hk3
      subst hk0 hk2 hk3
      exact ⟨⟨k0, xs, k2, k3⟩, a, cap, rfl, hs, hft⟩
end
end Go.Proofs.Ytmhdodiipkkjpaa.Dk
