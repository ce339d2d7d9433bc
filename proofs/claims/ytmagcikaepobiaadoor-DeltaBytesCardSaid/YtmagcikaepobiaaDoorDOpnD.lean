/- A delta that is handed in: what it holds. -/
import Derived.Test.YtmagcikaepobiaaDoorDArg
import Derived.Deep.Slices
import Derived.Deep.Fields
import Derived.SizedLaws
import Derived.ShutString
import Derived.WideShapes4
import Derived.ProofKit
import Derived.OpenShut
namespace Go.Proofs.YtmagcikaepobiaaDoor.Dl
open Go.ChangeShapes Go.WideShapes Go.ChangeAt Go.WideMaps Go.WideElems Go.RowKit Go.Deep

theorem arg_laidOut : laidOutB Tryd.prog = true := by kernel_rfl
theorem cellsO : Tryd.prog.cellsOf 22 = 1 := by kernel_rfl
theorem cellsOp : Tryd.prog.cellsOf 32 = 3 := by kernel_rfl
theorem bytesOp : Tryd.prog.bytesOf 32 = 32 := by kernel_rfl
theorem cells9 : Tryd.prog.cellsOf 9 = 1 := by kernel_rfl
theorem cells3 : Tryd.prog.cellsOf 3 = 1 := by kernel_rfl

theorem list_of {Q : Nat → Opr → Prop} : ∀ n : Nat, (∀ i, i < n → ∃ x, Q i x) → ∃ xs : List Opr, xs.length = n ∧ ∀ (j : Nat) (x : Opr), xs[j]? = some x → Q j x
  | 0, _ => ⟨[], rfl, fun j x h => by simp at h⟩
  | n + 1, h => by
    obtain ⟨xs, hl, hx⟩ := list_of n (fun i hi => h i (by omega))
    obtain ⟨y, hy⟩ := h n (by omega)
    refine ⟨xs ++ [y], by simp [hl], fun j x hj => ?_⟩
    by_cases hjn : j < n
    · rw [List.getElem?_append_left (by omega)] at hj
      exact hx j x hj
    · have hlt := (List.getElem?_eq_some_iff.1 hj).1
      simp at hlt
      obtain rfl : j = n := by omega
      rw [List.getElem?_append_right (by omega), hl] at hj
      simp at hj
      rw [← hj]; exact hy
theorem weights_all {H : Type} {P : Program} {e : TypeId} {n : Nat} : ∀ {l : List (DataW H)} {d : DataW H}, d ∈ l → n ∈ d.weights P e → n ∈ DataW.weightsAll P e l
  | x :: l, d, h, hn => by
    rw [DataW.weightsAll]
    rcases List.mem_cons.1 h with rfl | h
    · exact List.mem_append_left _ hn
    · exact List.mem_append_right _ (weights_all h hn)

section
variable {H : Type} {enc : TypeId × Value → H} {W : World}
set_option maxRecDepth 100000 in
theorem open_op {n : Nat} {cs : List Value} {y : DataW H × List MemPlace} (hl : cs.length = 3) (h : DataW.trod enc Tryd.prog W 0 (fun _ => true) true n 32 cs = some y) :
    ∃ x : Opr, cs = [.int .i64 x.f, .int .i64 x.n, .string x.t] ∧ x.t.data.toList.length ∈ y.1.weights Tryd.prog 32 := by
  obtain ⟨ys, n', -, hy, -, hyl, hg⟩ := DataW.trod_struct Tryd.underlying32 h
  match cs, hl with
  | [c0, c1, c2], _ =>
    have g0 : DataW.trod enc Tryd.prog W 0 (fun _ => true) true n' 3 (([c0, c1, c2].drop 0).take (Tryd.prog.cellsOf 3)) = ys[0]? := hg 0 _ rfl
    have g1 : DataW.trod enc Tryd.prog W 0 (fun _ => true) true n' 3 (([c0, c1, c2].drop 1).take (Tryd.prog.cellsOf 3)) = ys[1]? := hg 1 _ rfl
    have g2 : DataW.trod enc Tryd.prog W 0 (fun _ => true) true n' 9 (([c0, c1, c2].drop 2).take (Tryd.prog.cellsOf 9)) = ys[2]? := hg 2 _ rfl
    simp only [cells9, cells3, List.drop_zero, List.take_succ_cons, List.take_zero, List.drop_succ_cons] at g0 g1 g2
    match ys, hyl with
    | [y0, y1, y2], _ =>
      obtain ⟨k, hk, hk2, -⟩ := DataW.trod_int Tryd.underlying3 g0
      obtain ⟨b, hb, hb2, -⟩ := DataW.trod_int Tryd.underlying3 g1
      obtain ⟨r, hr, hr2, -⟩ := DataW.trod_string Tryd.underlying9 g2
      simp only [List.cons.injEq, and_true] at hk hb hr
      refine ⟨⟨k, b, r⟩, by rw [hk, hb, hr], ?_⟩
      rw [hy]
      simp [DataW.weights, Tryd.underlying32, DataW.weightsEach, hr2]
set_option maxRecDepth 100000 in
theorem open_ops {fuel : Nat} {c0 : Value} {y0 : DataW H × List MemPlace} (g1 : DataW.trod enc Tryd.prog W 0 (fun _ => true) true fuel 22 [c0] = some y0)
    (hlt2 : ∀ x ∈ y0.2, x.block < W.heap.size) (hw2 : ∀ n ∈ y0.1.weights Tryd.prog 22, n ≤ reachBytes) : ∃ a cap xs, c0 = .slice a xs.length cap ∧ ArgO W a cap xs := by
  rcases open_slice Tryd.underlying22 g1 with ⟨hcs, -⟩ | ⟨a, len, cap, m, n2, D, Pl, hcs, -, hl, hm, hmm, hx, hi⟩
  · obtain rfl : c0 = .slice none 0 0 := by simpa using hcs
    exact ⟨none, 0, [], rfl, InI.nil _ _, fun j x hj => by simp at hj, by simp, by simp, by simp, fun _ => rfl, by simp⟩
  · obtain rfl : c0 = .slice (some a) len cap := by simpa using hcs
    simp only [if_true] at hmm
    unfold maxLen at hm
    have hlr : len ≤ 140737488351232 := by
      have h9 := hw2 ((((List.range len).map D).length + ((List.range' len (cap - len)).map D).length) * Tryd.prog.bytesOf 32) (by
        rw [hx]
        simp [DataW.weights, Tryd.underlying22]
        left; rw [hmm])
      rw [bytesOp] at h9
      simp only [List.length_map, List.length_range, reachBytes] at h9
      omega
    rw [cellsOp] at hi hx
    have hex : ∀ i, i < len → ∃ x : Opr, (W.cell? (a.add (i * 3)) = some (.int .i64 x.f) ∧ W.cell? (a.add (i * 3 + 1)) = some (.int .i64 x.n) ∧ W.cell? (a.add (i * 3 + 2)) = some (.string x.t)) ∧ x.t.size ≤ 140737488351232 := fun i hil => by
      obtain ⟨cs', hc, ht'⟩ := hi i (by omega)
      obtain ⟨-, hcl, hat⟩ := World.cells?_some hc
      obtain ⟨x, rfl, hk⟩ := open_op hcl ht'
      have hmem : D i ∈ (List.range len).map D := List.mem_map.2 ⟨i, List.mem_range.2 hil, rfl⟩
      have hwm : ∀ q ∈ (D i).weights Tryd.prog 32, q ≤ 140737488351232 := fun q hq => by
        have := hw2 q (by
          rw [hx]
          simp only [DataW.weights, Tryd.underlying22]
          exact List.mem_cons_of_mem _ (List.mem_append_left _ (weights_all hmem hq)))
        simpa [reachBytes] using this
      have h0 := hat 0 (by omega)
      have h1 := hat 1 (by omega)
      have h2 := hat 2 (by omega)
      rw [Go.Deep.add_add] at h0 h1 h2
      exact ⟨x, ⟨h0, h1, h2⟩, by have := hwm _ hk; rwa [BA.len] at this⟩
    obtain ⟨xs, hxl, hxs⟩ := list_of len hex
    refine ⟨some a, cap, xs, by rw [hxl], fun hne => ?_, fun j x hj => (hxs j x hj).2, by omega, by omega, hm, (fun h => by cases h), by omega⟩
    have hpos : 0 < xs.length := List.length_pos_iff.2 hne
    have hc0 := (hxs 0 xs[0] (List.getElem?_eq_getElem hpos)).1.1
    obtain ⟨b, off, spot⟩ := a
    have hspot : spot = none := by simpa [Addr.add] using World.cell?_spot hc0
    subst hspot
    have hbW : b < W.heap.size := hlt2 (.cell b off) (by rw [hx]; exact List.mem_append_left _ (MemPlace.mem_row.2 ⟨0, by omega, by simp⟩))
    refine ⟨b, off, rfl, hbW, fun j x hj => ?_⟩
    obtain ⟨⟨h0, h1, h2⟩, -⟩ := hxs j x hj
    rw [Addr.add_mid] at h0 h1 h2
    exact ⟨h0, by rw [Nat.add_assoc]; exact h1, by rw [Nat.add_assoc]; exact h2⟩
end
end Go.Proofs.YtmagcikaepobiaaDoor.Dl
