/- What is handed in: a rule; the table of powers. -/
import Derived.Test.YtlgodcbffimcoaaDoorRg
import Derived.Test.YtlgodcbffimcoaaDoorRows
import Derived.Test.YtlgodcbffimcoaaDoorTie
import Derived.Test.YtlgodcbffimcoaaDoorCards
import Derived.Deep.Slices
import Derived.Deep.Fields
import Derived.SizedLaws
import Derived.ShutString
import Derived.WideShapes4
import Derived.ProofKit
import Derived.LaidMore
import Derived.OpenShut
import Derived.Stop.Joined
import Derived.SevenTiedAt
import Derived.Lib.LaidTab
import Derived.ChangeMaps5
namespace Go.Proofs.YtlgodcbffimcoaaDoor
open Go.ChangeShapes Go.WideShapes Go.ChangeAt Go.WideMaps Go.WideElems Go.RowKit Go.Deep

theorem own : ownKnob Tryd.prog.godebug = none := by kernel_rfl
theorem arg_laidOut : laidOutB Tryd.prog = true := by kernel_rfl
abbrev tabLaid : List (String × DataW Unit) := [("math/bits.deBruijn32tab", Rows.laid_math_bits_deBruijn32tab), ("math/bits.deBruijn64tab", Rows.laid_math_bits_deBruijn64tab), ("internal/strconv.uint64pow10", Rows.laid_internal_strconv_uint64pow10)]
theorem pow_data : (Rows.laid_internal_strconv_uint64pow10 : DataW Unit) = Lib.tabData .u64 Lib.pow10Tab := rfl
theorem tab_door (os : Os) (args : Array Value) : laidMetH Tryd.prog tabLaid ((World.doorLaid Tryd.prog 4000 os).forCall (fun _ _ => 0) ⟨#[], args, []⟩).memory :=
  laidMetH_of_parts3 (fuel := 8) (laidMet_of_run' 8 (by kernel_rfl) (by kernel_rfl)) (by kernel_rfl) (by kernel_rfl)
theorem gPow : Tryd.prog.globalNamed "internal/strconv.uint64pow10" = some 0 := by kernel_rfl
theorem tPow : (Tryd.prog.globals[0]?).map (·.type) = some 103 := by kernel_rfl
theorem tab_of {W : World} (h : laidMetH Tryd.prog tabLaid W) : TabW W := by
  rw [MakeChecks.laidMetH_plain _ _ _ (by kernel_rfl)] at h
  obtain ⟨ps, ⟨g0, t0, cs0, f0, p0, q0, hg0, ht0, hv0, hd0, ⟨g1, t1, cs1, f1, p1, q1, hg1, ht1, hv1, hd1, ⟨g2, t2, cs2, f2, p2, q2, hg2, ht2, hv2, hd2, _, _⟩, _⟩, _⟩, _, _⟩ := h
  obtain rfl := Option.some.inj (gPow.symm.trans hg2)
  obtain rfl := Option.some.inj (tPow.symm.trans ht2)
  rw [pow_data] at hd2
  unfold TabW Lib.TabIs
  rw [hv2, ← Lib.cells_of_tab Tryd.underlying103 Tryd.underlying59 (by kernel_rfl) (by kernel_rfl) hd2]

theorem cells55 : Tryd.prog.cellsOf 55 = 2 := by kernel_rfl
theorem cells49 : Tryd.prog.cellsOf 49 = 3 := by kernel_rfl
theorem cells51 : Tryd.prog.cellsOf 51 = 1 := by kernel_rfl
theorem cells3 : Tryd.prog.cellsOf 3 = 1 := by kernel_rfl
theorem cells4 : Tryd.prog.cellsOf 4 = 1 := by kernel_rfl
theorem cells47 : Tryd.prog.cellsOf 47 = 1 := by kernel_rfl

theorem list_of {α : Type} {Q : Nat → α → Prop} : ∀ n : Nat, (∀ i, i < n → ∃ x, Q i x) → ∃ xs : List α, xs.length = n ∧ ∀ (j : Nat) (x : α), xs[j]? = some x → Q j x
  | 0, _ => ⟨[], rfl, fun j x h => by simp at h⟩
  | n + 1, h => by
    obtain ⟨xs, hl, hx⟩ := list_of n (fun i hi => h i (by omega))
    obtain ⟨y, hy⟩ := h n (by omega)
    refine ⟨xs ++ [y], by simp [hl], fun j x hj => ?_⟩
    by_cases hjn : j < n
    · rw [List.getElem?_append_left (by omega)] at hj
      exact hx j x hj
    · have hlt := (List.getElem?_eq_some_iff.1 hj).1
      simp at hlt
      obtain rfl : j = n := by omega
      rw [List.getElem?_append_right (by omega), hl] at hj
      simp at hj
      rw [← hj]; exact hy

section
variable {H : Type} {enc : TypeId × Value → H} {W : World}
theorem open_gen {α : Type} {C : α → List Value → Prop} {t e k : Nat} (ht : Tryd.prog.underlying t = some (.slice e)) (hC : Tryd.prog.cellsOf e = k) (hk : 0 < k)
    (hel : ∀ (n : Nat) (cs : List Value) (y : DataW H × List MemPlace), cs.length = k → DataW.trod enc Tryd.prog W 0 (fun _ => true) true n e cs = some y → (∀ x ∈ y.2, x.block < W.heap.size) → ∃ x, C x cs)
    {fuel : Nat} {c0 : Value} {y0 : DataW H × List MemPlace} (g1 : DataW.trod enc Tryd.prog W 0 (fun _ => true) true fuel t [c0] = some y0) (hlt2 : ∀ x ∈ y0.2, x.block < W.heap.size) :
    ∃ a cap, ∃ xs : List α, c0 = .slice a xs.length cap ∧ Sl k C W (Old W) (.slice a xs.length cap) xs := by
  rcases open_slice ht g1 with ⟨hcs, -⟩ | ⟨a, len, cap, m, n2, D, Pl, hcs, -, hl, hm, hmm, hx, hi⟩
  · obtain rfl : c0 = .slice none 0 0 := by simpa using hcs
    exact ⟨none, 0, [], rfl, none, 0, rfl, Nat.le_refl _, by omega, fun h => absurd rfl h⟩
  · obtain rfl : c0 = .slice (some a) len cap := by simpa using hcs
    simp only [if_true] at hmm
    unfold maxLen at hm
    rw [hC] at hi hx
    have hex : ∀ i, i < len → ∃ x : α, ∃ cs, cs.length = k ∧ C x cs ∧ ∀ j u, cs[j]? = some u → W.cell? (a.add (i * k + j)) = some u := fun i hil => by
      obtain ⟨cs', hc, ht'⟩ := hi i (by omega)
      obtain ⟨-, hcl, hat⟩ := World.cells?_some hc
      obtain ⟨x, hx'⟩ := hel _ _ _ hcl ht' (fun z hz => hlt2 z (by rw [hx]; exact List.mem_append_right _ (List.mem_flatMap.2 ⟨i, List.mem_range.2 (by omega), hz⟩)))
      refine ⟨x, cs', hcl, hx', fun j u hu => ?_⟩
      have hj := (List.getElem?_eq_some_iff.1 hu).1
      rw [← Go.Deep.add_add, hat j (by omega), hu]
    obtain ⟨xs, hxl, hxs⟩ := list_of len hex
    refine ⟨some a, cap, xs, by rw [hxl], some a, cap, rfl, by omega, hm, fun hne => ?_⟩
    have hpos : 0 < xs.length := List.length_pos_iff.2 hne
    obtain ⟨cs0, hl0, -, hc0⟩ := hxs 0 xs[0] (List.getElem?_eq_getElem hpos)
    have hc00 := hc0 0 (cs0[0]'(by omega)) (List.getElem?_eq_getElem (by omega))
    obtain ⟨b, off, spot⟩ := a
    have hspot : spot = none := by simpa [Addr.add] using World.cell?_spot hc00
    subst hspot
    have hbW : b < W.heap.size := hlt2 (.cell b off) (by rw [hx]; exact List.mem_append_left _ (MemPlace.mem_row.2 ⟨0, Nat.mul_pos (by omega) hk, by simp⟩))
    refine ⟨b, off, rfl, hbW, fun j x hj => ?_⟩
    obtain ⟨cs, hcl, hx', hcc⟩ := hxs j x hj
    exact ⟨cs, hcl, hx', fun i u hu => by
      have := hcc i u hu
      rw [Addr.add_mid] at this
      rw [Nat.add_assoc]; exact this⟩
set_option maxRecDepth 100000 in
theorem open_span (n : Nat) (cs : List Value) (y : DataW H × List MemPlace) (hl : cs.length = 2) (h : DataW.trod enc Tryd.prog W 0 (fun _ => true) true n 55 cs = some y) (_ : ∀ x ∈ y.2, x.block < W.heap.size) : ∃ x, CS x cs := by
  obtain ⟨ys, n', -, hy, -, hyl, hg⟩ := DataW.trod_struct Tryd.underlying55 h
  match cs, hl with
  | [c0, c1], _ =>
    have g0 : DataW.trod enc Tryd.prog W 0 (fun _ => true) true n' 3 (([c0, c1].drop 0).take (Tryd.prog.cellsOf 3)) = ys[0]? := hg 0 _ rfl
    have g1 : DataW.trod enc Tryd.prog W 0 (fun _ => true) true n' 3 (([c0, c1].drop 1).take (Tryd.prog.cellsOf 3)) = ys[1]? := hg 1 _ rfl
    simp only [cells3, List.drop_zero, List.take_succ_cons, List.take_zero, List.drop_succ_cons] at g0 g1
    match ys, hyl with
    | [y0, y1], _ =>
      obtain ⟨k, hk, -, -⟩ := DataW.trod_int Tryd.underlying3 g0
      obtain ⟨b, hb, -, -⟩ := DataW.trod_int Tryd.underlying3 g1
      simp only [List.cons.injEq, and_true] at hk hb
      exact ⟨⟨k, b⟩, by rw [hk, hb]; rfl⟩
set_option maxRecDepth 100000 in
theorem open_rel (n : Nat) (cs : List Value) (y : DataW H × List MemPlace) (hl : cs.length = 3) (h : DataW.trod enc Tryd.prog W 0 (fun _ => true) true n 49 cs = some y) (hlt : ∀ x ∈ y.2, x.block < W.heap.size) : ∃ x, CR W (Old W) x cs := by
  obtain ⟨ys, n', -, hy, -, hyl, hg⟩ := DataW.trod_struct Tryd.underlying49 h
  match cs, hl with
  | [c0, c1, c2], _ =>
    have g0 : DataW.trod enc Tryd.prog W 0 (fun _ => true) true n' 3 (([c0, c1, c2].drop 0).take (Tryd.prog.cellsOf 3)) = ys[0]? := hg 0 _ rfl
    have g1 : DataW.trod enc Tryd.prog W 0 (fun _ => true) true n' 4 (([c0, c1, c2].drop 1).take (Tryd.prog.cellsOf 4)) = ys[1]? := hg 1 _ rfl
    have g2 : DataW.trod enc Tryd.prog W 0 (fun _ => true) true n' 47 (([c0, c1, c2].drop 2).take (Tryd.prog.cellsOf 47)) = ys[2]? := hg 2 _ rfl
    simp only [cells3, cells4, cells47, List.drop_zero, List.take_succ_cons, List.take_zero, List.drop_succ_cons] at g0 g1 g2
    match ys, hyl with
    | [y0, y1, y2], _ =>
      obtain ⟨k, hk, -, -⟩ := DataW.trod_int Tryd.underlying3 g0
      obtain ⟨b, hb, -⟩ := DataW.trod_bool Tryd.underlying4 g1
      have g2' : DataW.trod enc Tryd.prog W 0 (fun _ => true) true n' 47 [c2] = some y2 := g2
      obtain ⟨a, cap, sp, rfl, hsp⟩ := open_gen (C := CS) Tryd.underlying47 cells55 (by decide) open_span g2' (fun x hx => hlt x (by rw [hy]; simp [hx]))
      simp only [List.cons.injEq, and_true] at hk hb
      exact ⟨⟨k, b, sp⟩, _, by rw [hk, hb], hsp⟩
set_option maxRecDepth 100000 in
theorem open_row (n : Nat) (cs : List Value) (y : DataW H × List MemPlace) (hl : cs.length = 1) (h : DataW.trod enc Tryd.prog W 0 (fun _ => true) true n 51 cs = some y) (hlt : ∀ x ∈ y.2, x.block < W.heap.size) : ∃ x, CW W (Old W) x cs := by
  match cs, hl with
  | [c0], _ =>
    obtain ⟨a, cap, xs, rfl, hx⟩ := open_gen (C := CR W (Old W)) Tryd.underlying51 cells49 (by decide) open_rel h hlt
    exact ⟨xs, _, rfl, hx⟩
theorem open_rule {fuel : Nat} {c0 : Value} {y0 : DataW H × List MemPlace} (g1 : DataW.trod enc Tryd.prog W 0 (fun _ => true) true fuel 22 [c0] = some y0) (hlt : ∀ x ∈ y0.2, x.block < W.heap.size) :
    ∃ a cap, ∃ xs : Rule, c0 = .slice a xs.length cap ∧ SlW W (Old W) (.slice a xs.length cap) xs :=
  open_gen (C := CW W (Old W)) Tryd.underlying22 cells51 (by decide) open_row g1 hlt
end
end Go.Proofs.YtlgodcbffimcoaaDoor
