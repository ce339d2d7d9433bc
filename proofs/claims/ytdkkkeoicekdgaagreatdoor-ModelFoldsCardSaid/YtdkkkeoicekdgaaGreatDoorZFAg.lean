/- What the listed variables hold; entries and changes that come in. -/
import Derived.Test.YtdkkkeoicekdgaaGreatDoorTie
import Derived.Test.YtdkkkeoicekdgaaGreatDoorCards
import Derived.Deep.Fields
import Derived.ShutString
import Derived.WideShapes4
import Derived.ProofKit
import Derived.LaidMore
import Derived.OpenShut
import Derived.Stop.LaidErr
import Derived.HandedShaped
import Derived.Lay
import Derived.Test.YtdkkkeoicekdgaaGreatDoorZFg52

namespace Go.Proofs.YtdkkkeoicekdgaaGreatDoor.Ca
set_option maxRecDepth 100000
open Go.ChangeShapes Go.WideShapes Go.ChangeAt Go.WideMaps Go.WideElems Go.RowKit Go.Deep Go.Proofs.YtdkkkeoicekdgaaGreatDoor
theorem own : ownKnob Tryz.prog.godebug = none := by kernel_rfl
theorem zcx : laidOutB Tryz.prog = true := by kernel_rfl
abbrev z5m : List (String × DataW Unit) := [("math/bits.deBruijn32tab", Rows.laid_math_bits_deBruijn32tab), ("math/bits.deBruijn64tab", Rows.laid_math_bits_deBruijn64tab), ("internal/strconv.uint64pow10", Rows.laid_internal_strconv_uint64pow10), ("unicode/utf8.acceptRanges", Rows.laid_unicode_utf8_acceptRanges), ("strconv.ErrRange", Rows.laid_strconv_ErrRange), ("strconv.ErrSyntax", Rows.laid_strconv_ErrSyntax), ("unicode/utf8.first", Rows.laid_unicode_utf8_first)]
theorem pow_data : (Rows.laid_internal_strconv_uint64pow10 : DataW Unit) = Lib.tabData .u64 Lib.pow10Tab := rfl
theorem gSyn : Tryz.prog.globalNamed "strconv.ErrSyntax" = some 5 := by kernel_rfl
theorem gRng : Tryz.prog.globalNamed "strconv.ErrRange" = some 6 := by kernel_rfl
theorem gSynType : (Tryz.prog.globals[5]?).map (·.type) = some 120 := by kernel_rfl
theorem gRngType : (Tryz.prog.globals[6]?).map (·.type) = some 120 := by kernel_rfl
theorem zet : Tryz.prog.cellsOf 303 = 1 := by kernel_rfl
theorem zir : Tryz.prog.cellsOf 9 = 1 := by kernel_rfl
theorem starE : "*" ++ "errors.errorString" = "*errors.errorString" := by decide
theorem rowE (u : TypeId) (h : Tryz.prog.typeName? 3 u = some "*errors.errorString") : u = 301 :=
 typeName_ptr_named (nm := "errors.errorString") (by rw [starE]; kernel_rfl) (by kernel_rfl) (by decide) u (by rw [starE]; exact h)
theorem gPow : Tryz.prog.globalNamed "internal/strconv.uint64pow10" = some 1 := by kernel_rfl
theorem tPow : (Tryz.prog.globals[1]?).map (·.type) = some 244 := by kernel_rfl
theorem env_of {W : World} (h0 : laidMetH Tryz.prog z5m W) : EnvW W := by
 have h : laidMet Tryz.prog z5m W := by rw [MakeChecks.laidMetH_plain _ _ _ (by kernel_rfl)] at h0; exact h0
 obtain ⟨a1, s1, b, -⟩ := laid_sentinel h.tail.tail.tail.tail gRng gRngType Tryz.underlying120 rowE Tryz.underlying301 Tryz.underlying303 rfl rfl Tryz.underlying9 zet zir;obtain ⟨a2, s2, a, -⟩ := laid_sentinel h.tail.tail.tail.tail.tail gSyn gSynType Tryz.underlying120 rowE Tryz.underlying301 Tryz.underlying303 rfl rfl Tryz.underlying9 zet zir;refine ⟨?_, ⟨301, .pointer (some a2), by simpa using World.var?_cell gSyn a 0⟩, ⟨301, .pointer (some a1), by simpa using World.var?_cell gRng b 0⟩⟩;obtain ⟨ps, ⟨g0, t0, g, f0, p0, q0, i, j, k, l, ⟨g1, t1, m, f1, p1, q1, n, o, b, p, ⟨g2, t2, q, f2, p2, q2, d, f, a, c, _, _⟩, _⟩, _⟩, _, _⟩ := h;obtain rfl := Option.some.inj (gPow.symm.trans d);obtain rfl := Option.some.inj (tPow.symm.trans f);rw [pow_data] at c
 unfold Lib.TabIs
 rw [a, <- Lib.cells_of_tab Tryz.underlying244 Tryz.underlying184 (by kernel_rfl) (by kernel_rfl) c]
theorem cells4 : Tryz.prog.cellsOf 4 = 1 := by kernel_rfl
theorem cells38 : Tryz.prog.cellsOf 81 = 3 := by kernel_rfl
theorem cells44 : Tryz.prog.cellsOf 83 = 4 := by kernel_rfl
theorem zcg {α : Type} {Q : Nat -> α -> Prop} : ∀ n : Nat, (∀ i, i < n -> ∃ x, Q i x) -> ∃ xs : List α, xs.length = n /\ ∀ (j : Nat) (x : α), xs[j]? = some x -> Q j x
 | 0, _ => ⟨[], rfl, fun j x h => by simp at h⟩
 | n + 1, h => by
  obtain ⟨xs, hl, hx⟩ := zcg n (fun i hi => h i (by omega));obtain ⟨y, hy⟩ := h n (by omega);refine ⟨xs ++ [y], by simp [hl], fun j x hj => ?_⟩
  by_cases hjn : j < n
  ·rw [List.getElem?_append_left (by omega)] at hj
   exact hx j x hj
  ·have a := (List.getElem?_eq_some_iff.1 hj).1
   simp at a
   obtain rfl : j = n := by omega
   rw [List.getElem?_append_right (by omega), hl] at hj
   simp at hj
   rw [<- hj]; exact hy
theorem z4o {H : Type} {P : Program} {e : TypeId} {n : Nat} : ∀ {l : List (DataW H)} {d : DataW H}, d ∈ l -> n ∈ d.weights P e -> n ∈ DataW.weightsAll P e l
 | x :: l, d, h, hn => by
  rw [DataW.weightsAll]
  rcases List.mem_cons.1 h with rfl | h
  ·exact List.mem_append_left _ hn
  ·exact List.mem_append_right _ (z4o h hn)
section
variable {H : Type} {enc : TypeId × Value -> H} {W : World}
theorem open_ent {n : Nat} {cs : List Value} {y : DataW H × List MemPlace} (hl : cs.length = 3) (h : DataW.trod enc Tryz.prog W 0 (fun _ => true) true n 81 cs = some y) :
  ∃ x : Ent, cs = [.string x.loc, .string x.key, .string x.pat] /\ x.loc.data.toList.length ∈ y.1.weights Tryz.prog 81 /\ x.key.data.toList.length ∈ y.1.weights Tryz.prog 81 /\ x.pat.data.toList.length ∈ y.1.weights Tryz.prog 81 := by
 obtain ⟨ys, n', -, hy, -, a, hg⟩ := DataW.trod_struct Tryz.underlying81 h
 match cs, hl with
 | [c0, c1, c2], _ =>
  have g0 : DataW.trod enc Tryz.prog W 0 (fun _ => true) true n' 9 (([c0, c1, c2].drop 0).take (Tryz.prog.cellsOf 9)) = ys[0]? := hg 0 _ rfl;have g1 : DataW.trod enc Tryz.prog W 0 (fun _ => true) true n' 9 (([c0, c1, c2].drop 1).take (Tryz.prog.cellsOf 9)) = ys[1]? := hg 1 _ rfl;have g2 : DataW.trod enc Tryz.prog W 0 (fun _ => true) true n' 9 (([c0, c1, c2].drop 2).take (Tryz.prog.cellsOf 9)) = ys[2]? := hg 2 _ rfl;simp only [zir, List.drop_zero, List.take_succ_cons, List.take_zero, List.drop_succ_cons] at g0 g1 g2
  match ys, a with
  | [y0, y1, y2], _ =>
   obtain ⟨k, hk, c, -⟩ := DataW.trod_string Tryz.underlying9 g0;obtain ⟨b, hb, d, -⟩ := DataW.trod_string Tryz.underlying9 g1;obtain ⟨r, hr, f, -⟩ := DataW.trod_string Tryz.underlying9 g2;simp only [List.cons.injEq, and_true] at hk hb hr;refine ⟨⟨k, b, r⟩, by rw [hk, hb, hr], ?_, ?_, ?_⟩
   ·rw [hy]
    simp [DataW.weights, Tryz.underlying81, DataW.weightsEach, c]
   ·rw [hy]
    simp [DataW.weights, Tryz.underlying81, DataW.weightsEach, d]
   ·rw [hy]
    simp [DataW.weights, Tryz.underlying81, DataW.weightsEach, f]
theorem open_chg {n : Nat} {cs : List Value} {y : DataW H × List MemPlace} (hl : cs.length = 4) (h : DataW.trod enc Tryz.prog W 0 (fun _ => true) true n 83 cs = some y) :
  ∃ x : Chg, cs = [.bool x.drop, .string x.e.loc, .string x.e.key, .string x.e.pat] /\ x.e.loc.data.toList.length ∈ y.1.weights Tryz.prog 83 /\ x.e.key.data.toList.length ∈ y.1.weights Tryz.prog 83 /\ x.e.pat.data.toList.length ∈ y.1.weights Tryz.prog 83 := by
 obtain ⟨ys, n', -, hy, -, a, hg⟩ := DataW.trod_struct Tryz.underlying83 h
 match cs, hl with
 | [c0, c1, c2, c3], _ =>
  have g0 : DataW.trod enc Tryz.prog W 0 (fun _ => true) true n' 4 (([c0, c1, c2, c3].drop 0).take (Tryz.prog.cellsOf 4)) = ys[0]? := hg 0 _ rfl;have g1 : DataW.trod enc Tryz.prog W 0 (fun _ => true) true n' 81 (([c0, c1, c2, c3].drop 1).take (Tryz.prog.cellsOf 81)) = ys[1]? := hg 1 _ rfl;simp only [cells4, cells38, List.drop_zero, List.take_succ_cons, List.take_zero, List.drop_succ_cons] at g0 g1
  match ys, a with
  | [y0, y1], _ =>
   obtain ⟨b, hb, c⟩ := DataW.trod_bool Tryz.underlying4 g0;obtain ⟨x, hx, h1, h2, h3⟩ := open_ent (cs := [c1, c2, c3]) (y := y1) rfl g1;simp only [List.cons.injEq, and_true] at hb hx;refine ⟨⟨b, x⟩, by rw [hb, hx.1, hx.2.1, hx.2.2], ?_, ?_, ?_⟩
   all_goals
    rw [hy];simp only [DataW.weights, Tryz.underlying83, DataW.weightsEach, List.map_cons, List.map_nil, List.mem_append]
    first | exact .inr (.inl h1) | exact .inr (.inl h2) | exact .inr (.inl h3)
theorem zai {fuel : Nat} {c0 : Value} {y0 : DataW H × List MemPlace} (g1 : DataW.trod enc Tryz.prog W 0 (fun _ => true) true fuel 26 [c0] = some y0)
  (hlt2 : ∀ x ∈ y0.2, x.block < W.heap.size) (hw2 : ∀ n ∈ y0.1.weights Tryz.prog 26, n <= reachBytes) : ∃ (a : Option Addr) (cap : Nat) (xs : List Chg), c0 = .slice a xs.length cap /\ SlH W (Old W) (.slice a xs.length cap) xs /\ ∀ x, x ∈ xs -> FitE x.e := by
 rcases open_slice Tryz.underlying26 g1 with ⟨hcs, -⟩ | ⟨a, len, cap, m, n2, D, Pl, hcs, -, hl, hm, hmm, hx, hi⟩
 ·obtain rfl : c0 = .slice none 0 0 := by simpa using hcs
  exact ⟨none, 0, [], rfl, Sl.nil _ _ _ _, fun x hx => by cases hx⟩
 ·obtain rfl : c0 = .slice (some a) len cap := by simpa using hcs
  simp only [if_true] at hmm
  unfold maxLen at hm
  rw [cells44] at hi hx
  have p : ∀ i, i < len -> ∃ x : Chg, (W.cell? (a.add (i * 4)) = some (.bool x.drop) /\ W.cell? (a.add (i * 4 + 1)) = some (.string x.e.loc) /\ W.cell? (a.add (i * 4 + 2)) = some (.string x.e.key) /\ W.cell? (a.add (i * 4 + 3)) = some (.string x.e.pat)) /\ FitE x.e := fun i hil => by
   obtain ⟨y, hc, r⟩ := hi i (by omega);obtain ⟨-, s, c⟩ := World.cells?_some hc;obtain ⟨x, rfl, h1, h2, h3⟩ := open_chg s r;have h : D i ∈ (List.range len).map D := List.mem_map.2 ⟨i, List.mem_range.2 hil, rfl⟩
   have d : ∀ q ∈ (D i).weights Tryz.prog 83, q <= 140737488351232 := fun q hq => by
    have := hw2 q (by
     rw [hx];simp only [DataW.weights, Tryz.underlying26]
     exact List.mem_cons_of_mem _ (List.mem_append_left _ (z4o h hq)))
    simpa [reachBytes] using this
   have k0 := c 0 (by omega);have k1 := c 1 (by omega);have k2 := c 2 (by omega);have k3 := c 3 (by omega);rw [Go.Deep.add_add] at k0 k1 k2 k3;exact ⟨x, ⟨k0, k1, k2, k3⟩, by have := d _ h1; rwa [z07] at this, by have := d _ h2; rwa [z07] at this, by have := d _ h3; rwa [z07] at this⟩
  obtain ⟨xs, t, f⟩ := zcg len p
  refine ⟨some a, cap, xs, by rw [t], ⟨some a, cap, rfl, by omega, hm, fun hne => ?_⟩, fun x hx => by
   obtain ⟨j, hj⟩ := List.mem_iff_getElem?.1 hx
   exact (f j x hj).2⟩
  have k : 0 < xs.length := List.length_pos_iff.2 hne;have v := (f 0 xs[0] (List.getElem?_eq_getElem k)).1.1;obtain ⟨b, l, o⟩ := a
  have g : o = none := by simpa [Addr.add] using World.cell?_spot v
  subst g;have w : b < W.heap.size := hlt2 (.cell b l) (by rw [hx]; exact List.mem_append_left _ (MemPlace.mem_row.2 ⟨0, by omega, by simp⟩));refine ⟨b, l, rfl, w, fun j x hj => ?_⟩;obtain ⟨⟨h0, h1, h2, h3⟩, -⟩ := f j x hj;rw [Addr.add_mid] at h0 h1 h2 h3;refine ⟨[.bool x.drop, .string x.e.loc, .string x.e.key, .string x.e.pat], rfl, rfl, fun i u hu => ?_⟩
  match i, hu with
  | 0, hu => obtain rfl := Option.some.inj hu; exact h0
  | 1, hu => obtain rfl := Option.some.inj hu; rw [Nat.add_assoc]; exact h1
  | 2, hu => obtain rfl := Option.some.inj hu; rw [Nat.add_assoc]; exact h2
  | 3, hu => obtain rfl := Option.some.inj hu; rw [Nat.add_assoc]; exact h3
  | _ + 4, hu => simp at hu
end
end Go.Proofs.YtdkkkeoicekdgaaGreatDoor.Ca
