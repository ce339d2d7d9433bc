/- Models and commands that come in. -/
import Derived.Test.YtdkkkeoicekdgaaGreatDoorZBg50
import Derived.Test.YtdkkkeoicekdgaaGreatDoorZBAg
import Derived.Test.YtdkkkeoicekdgaaGreatDoorZBMrd
import Derived.Test.YtdkkkeoicekdgaaGreatDoorZBg29

section

namespace Go.Proofs.YtdkkkeoicekdgaaGreatDoor.Md
set_option maxRecDepth 100000
open Go.ChangeShapes Go.WideShapes Go.ChangeAt Go.WideMaps Go.WideElems Go.RowKit Go.Deep Go.Proofs.YtdkkkeoicekdgaaGreatDoor Go.Proofs.YtdkkkeoicekdgaaGreatDoor.Ca
theorem cells3 : Tryz.prog.cellsOf 3 = 1 := by kernel_rfl
theorem cellsHs : Tryz.prog.cellsOf 26 = 1 := by kernel_rfl
theorem cellsD : Tryz.prog.cellsOf 28 = 3 := by kernel_rfl
section
variable {H : Type} {enc : TypeId × Value -> H} {W : World}
theorem open_cmd {n : Nat} {cs : List Value} {y : DataW H × List MemPlace} (hl : cs.length = 3) (h : DataW.trod enc Tryz.prog W 0 (fun _ => true) true n 28 cs = some y)
  (hlt : ∀ x ∈ y.2, x.block < W.heap.size) (hw : ∀ n ∈ y.1.weights Tryz.prog 28, n <= reachBytes) : ∃ (c : Cmd) (b : Option Addr) (capc : Nat), cs = [.int .i64 c.cl, .int .i64 c.sq, .slice b c.ch.length capc] /\ SlH W (Old W) (.slice b c.ch.length capc) c.ch /\ ∀ x, x ∈ c.ch -> FitE x.e := by
 obtain ⟨ys, n', -, hx, -, hyl, hg⟩ := DataW.trod_struct Tryz.underlying28 h
 match cs, hl with
 | [c0, c1, c2], _ =>
  have g0 : DataW.trod enc Tryz.prog W 0 (fun _ => true) true n' 3 (([c0, c1, c2].drop 0).take (Tryz.prog.cellsOf 3)) = ys[0]? := hg 0 _ rfl
  have g1 : DataW.trod enc Tryz.prog W 0 (fun _ => true) true n' 3 (([c0, c1, c2].drop 1).take (Tryz.prog.cellsOf 3)) = ys[1]? := hg 1 _ rfl
  have g2 : DataW.trod enc Tryz.prog W 0 (fun _ => true) true n' 26 (([c0, c1, c2].drop 2).take (Tryz.prog.cellsOf 26)) = ys[2]? := hg 2 _ rfl
  simp only [cells3, cellsHs, List.drop_zero, List.take_succ_cons, List.take_zero, List.drop_succ_cons] at g0 g1 g2
  match ys, hyl with
  | [y0, y1, y2], _ =>
   obtain rfl := hx
   obtain ⟨k0, hk0, -, -⟩ := DataW.trod_int Tryz.underlying3 g0
   obtain ⟨k1, hk1, -, -⟩ := DataW.trod_int Tryz.underlying3 g1
   have g2' : DataW.trod enc Tryz.prog W 0 (fun _ => true) true n' 26 [c2] = some y2 := by simpa using g2
   obtain ⟨a, cap, xs, rfl, hs, hft⟩ := z7d g2' (fun x hxm => hlt x (by simp [hxm])) (fun m hm => hw m (by
    simp [DataW.weights, Tryz.underlying28, DataW.weightsEach, hm]))
   simp only [List.cons.injEq, and_true] at hk0 hk1
   subst hk0 hk1
   exact ⟨⟨k0, k1, xs⟩, a, cap, rfl, hs, hft⟩
end
end Go.Proofs.YtdkkkeoicekdgaaGreatDoor.Md

end

section

namespace Go.Proofs.YtdkkkeoicekdgaaGreatDoor.Md
set_option maxRecDepth 100000
open Go.ChangeShapes Go.WideShapes Go.ChangeAt Go.WideMaps Go.WideElems Go.RowKit Go.Deep Go.Proofs.YtdkkkeoicekdgaaGreatDoor Go.Proofs.YtdkkkeoicekdgaaGreatDoor.Ca
def CM (w : World) (S : Nat -> Prop) (c : Cmd) (cs : List Value) : Prop := ∃ b cap, cs = [.int .i64 c.cl, .int .i64 c.sq, .slice b c.ch.length cap] /\ SlH w S (.slice b c.ch.length cap) c.ch
abbrev SlM (w : World) (S : Nat -> Prop) (v : Value) (xs : List Cmd) : Prop := Sl 3 (CM w S) w S v xs
theorem SlM.old {w w' : World} {v : Value} {xs : List Cmd} (h : SlM w (Old w) v xs) (hb : Below w.heap.size w w') : SlM w' (Old w') v xs := Sl.keep h (fun b hb2 => hb.block b hb2) (fun _ h => Nat.lt_of_lt_of_le h hb.size) (fun _ _ ⟨b, cap, h1, h2⟩ => ⟨b, cap, h1, h2.old hb⟩)
theorem SlM.len {w : World} {S : Nat -> Prop} {a : Option Addr} {n cap : Nat} {xs : List Cmd} (h : SlM w S (.slice a n cap) xs) : n = xs.length /\ xs.length <= cap /\ cap <= 9223372036854775807 := by
 obtain ⟨a', cap', hv, h1, h2, -⟩ := h
 injection hv with _ h3 h4
 exact ⟨h3, by omega, by omega⟩
theorem SlM.get {w : World} {S : Nat -> Prop} {a : Option Addr} {n cap : Nat} {xs : List Cmd} (h : SlM w S (.slice a n cap) xs) {j : Nat} {x : Cmd} (hx : xs[j]? = some x) :
  ∃ b off hb capc, a = some ⟨b, off, none⟩ /\ S b /\ w.cell? ⟨b, off + j * 3, none⟩ = some (.int .i64 x.cl) /\ w.cell? ⟨b, off + j * 3 + 1, none⟩ = some (.int .i64 x.sq) /\ w.cell? ⟨b, off + j * 3 + 2, none⟩ = some (.slice hb x.ch.length capc) /\ SlH w S (.slice hb x.ch.length capc) x.ch := by
 obtain ⟨a', cap', hv, h1, h2, h3⟩ := h
 injection hv with h4 _ _
 subst h4
 obtain ⟨b, off, ha, hb, hat⟩ := h3 (fun e => by subst e; simp at hx)
 obtain ⟨cs, -, ⟨hb2, capc, rfl, hsl⟩, hc⟩ := hat j x hx
 exact ⟨b, off, hb2, capc, ha, hb, hc 0 _ rfl, hc 1 _ rfl, hc 2 _ rfl, hsl⟩
theorem SlM.take {w : World} {S : Nat -> Prop} {a : Option Addr} {n cap : Nat} {xs : List Cmd} (h : SlM w S (.slice a n cap) xs) (k : Nat) (hk : k <= xs.length) : SlM w S (.slice a k cap) (xs.take k) := by
 obtain ⟨a', cap', hv, h1, h2, h3⟩ := h
 injection hv with h4 _ h5
 subst h4 h5
 refine ⟨a, cap, by rw [List.length_take, Nat.min_eq_left hk], by rw [List.length_take]; omega, h2, fun hne => ?_⟩
 obtain ⟨b, off, ha, hb, hat⟩ := h3 (fun e => by subst e; simp at hne)
 refine ⟨b, off, ha, hb, fun j x hj => hat j x ?_⟩
 have hlt := (List.getElem?_eq_some_iff.1 hj).1
 rw [List.length_take] at hlt
 rw [List.getElem?_take, if_pos (by omega)] at hj
 exact hj
theorem SlM.drop {w : World} {S : Nat -> Prop} {ad : Addr} {n cap : Nat} {xs : List Cmd} (h : SlM w S (.slice (some ad) n cap) xs) (k : Nat) (hk : k <= xs.length) : SlM w S (.slice (some (ad.add (k * 3))) (xs.length - k) (cap - k)) (xs.drop k) := by
 obtain ⟨a', cap', hv, h1, h2, h3⟩ := h
 injection hv with h4 _ h5
 subst h4 h5
 refine ⟨some (ad.add (k * 3)), cap - k, by rw [List.length_drop], by rw [List.length_drop]; omega, by omega, fun hne => ?_⟩
 obtain ⟨b, off, ha, hb, hat⟩ := h3 (fun e => by subst e; simp at hne)
 obtain rfl := Option.some.inj ha
 refine ⟨b, off + k * 3, by rw [Addr.add_mid], hb, fun j x hj => ?_⟩
 have := hat (k + j) x (by rw [List.getElem?_drop] at hj; exact hj)
 rw [show off + k * 3 + j * 3 = off + (k + j) * 3 by omega]
 exact this
section
variable {H : Type} {enc : TypeId × Value -> H} {W : World}
theorem zc3 {fuel : Nat} {c0 : Value} {y0 : DataW H × List MemPlace} (g1 : DataW.trod enc Tryz.prog W 0 (fun _ => true) true fuel 41 [c0] = some y0)
  (hlt2 : ∀ x ∈ y0.2, x.block < W.heap.size) (hw2 : ∀ n ∈ y0.1.weights Tryz.prog 41, n <= reachBytes) : ∃ (a : Option Addr) (cap : Nat) (xs : List Cmd), c0 = .slice a xs.length cap /\ SlM W (Old W) (.slice a xs.length cap) xs /\ ∀ c, c ∈ xs -> ∀ x, x ∈ c.ch -> FitE x.e := by
 rcases open_slice Tryz.underlying41 g1 with ⟨hcs, -⟩ | ⟨a, len, cap, m, n2, D, Pl, hcs, -, hl, hm, hmm, hx, hi⟩
 ·obtain rfl : c0 = .slice none 0 0 := by simpa using hcs
  exact ⟨none, 0, [], rfl, Sl.nil _ _ _ _, fun x hx => by cases hx⟩
 ·obtain rfl : c0 = .slice (some a) len cap := by simpa using hcs
  simp only [if_true] at hmm
  unfold maxLen at hm
  rw [cellsD] at hi hx
  have hex : ∀ i, i < len -> ∃ x : Cmd, (∃ b capc, (W.cell? (a.add (i * 3)) = some (.int .i64 x.cl) /\ W.cell? (a.add (i * 3 + 1)) = some (.int .i64 x.sq) /\ W.cell? (a.add (i * 3 + 2)) = some (.slice b x.ch.length capc)) /\ SlH W (Old W) (.slice b x.ch.length capc) x.ch) /\ ∀ y, y ∈ x.ch -> FitE y.e := fun i hil => by
   obtain ⟨cs', hc, ht'⟩ := hi i (by omega)
   obtain ⟨-, hcl, hat⟩ := World.cells?_some hc
   have hmem : D i ∈ (List.range len).map D := List.mem_map.2 ⟨i, List.mem_range.2 hil, rfl⟩
   obtain ⟨x, b, capc, rfl, h1, h2⟩ := open_cmd hcl ht' (fun z hz => hlt2 z (by rw [hx]; exact List.mem_append_right _ (List.mem_flatMap.2 ⟨i, List.mem_range.2 (by omega), hz⟩))) (fun q hq => hw2 q (by
     rw [hx]
     simp only [DataW.weights, Tryz.underlying41]
     exact List.mem_cons_of_mem _ (List.mem_append_left _ (z2y hmem hq))))
   have k0 := hat 0 (by simp)
   have k1 := hat 1 (by simp)
   have k2 := hat 2 (by simp)
   rw [Go.Deep.add_add] at k0 k1 k2
   exact ⟨x, ⟨b, capc, ⟨k0, k1, k2⟩, h1⟩, h2⟩
  obtain ⟨xs, hxl, hxs⟩ := z8m len hex
  refine ⟨some a, cap, xs, by rw [hxl], ⟨some a, cap, rfl, by omega, hm, fun hne => ?_⟩, fun x hx => by
   obtain ⟨j, hj⟩ := List.mem_iff_getElem?.1 hx
   exact (hxs j x hj).2⟩
  have hpos : 0 < xs.length := List.length_pos_iff.2 hne
  obtain ⟨b1, capc1, ⟨hc0, -⟩, -⟩ := (hxs 0 xs[0] (List.getElem?_eq_getElem hpos)).1
  obtain ⟨b, off, spot⟩ := a
  have hspot : spot = none := by simpa [Addr.add] using World.cell?_spot hc0
  subst hspot
  have hbW : b < W.heap.size := hlt2 (.cell b off) (by rw [hx]; exact List.mem_append_left _ (MemPlace.mem_row.2 ⟨0, by omega, by simp⟩))
  refine ⟨b, off, rfl, hbW, fun j x hj => ?_⟩
  obtain ⟨⟨hb, capc, ⟨h0, h1, h2⟩, hsl⟩, -⟩ := hxs j x hj
  rw [Addr.add_mid] at h0 h1 h2
  refine ⟨[.int .i64 x.cl, .int .i64 x.sq, .slice hb x.ch.length capc], rfl, ⟨hb, capc, rfl, hsl⟩, fun i u hu => ?_⟩
  match i, hu with
  | 0, hu => obtain rfl := Option.some.inj hu; exact h0
  | 1, hu => obtain rfl := Option.some.inj hu; rw [Nat.add_assoc]; exact h1
  | 2, hu => obtain rfl := Option.some.inj hu; rw [Nat.add_assoc]; exact h2
  | _ + 3, hu => simp at hu
end
end Go.Proofs.YtdkkkeoicekdgaaGreatDoor.Md

end

section

namespace Go.Proofs.YtdkkkeoicekdgaaGreatDoor.Md
set_option maxHeartbeats 12800000
set_option maxRecDepth 100000
open Go.Lib (hid)
open Go.RowKit Go.Maps Go.WideShapes Go.WideMaps Go.Proofs.YtdkkkeoicekdgaaGreatDoor Go.Proofs.YtdkkkeoicekdgaaGreatDoor.Ca
def FoldP (l : List Cmd) (w : World) (e : Ending) (w' : World) : Prop := Below w.heap.size w w' /\ match foldM zeroM l with
 | none => e = .returned (.tuple #[.agg #[.int .i64 0, .slice none 0 0, .slice none 0 0], .int .i64 120])
 | some m => ∃ ae ce ac cc, e = .returned (.tuple #[.agg (mdC m.vr (.slice ae m.es.length ce) (.slice ac m.cs.length cc)), .int .i64 0]) /\ SlE w' (Old w') (.slice ae m.es.length ce) m.es /\ SlL w' (Old w') (.slice ac m.cs.length cc) m.cs
theorem z7n {m : Mdl} {l : List Cmd} {k : Nat} {c : Cmd} (hc : l[k]? = some c) (hM : mayC c = true) : foldM m (l.drop k) = foldM (doF m c).1 (l.drop (k + 1)) := by
 obtain ⟨h1, h2⟩ := List.getElem?_eq_some_iff.1 hc
 rw [List.drop_eq_getElem_cons h1, h2, foldM, if_pos hM]
theorem zcv {m : Mdl} {l : List Cmd} {k : Nat} {c : Cmd} (hc : l[k]? = some c) (hM : mayC c = false) : foldM m (l.drop k) = none := by
 obtain ⟨h1, h2⟩ := List.getElem?_eq_some_iff.1 hc
 rw [List.drop_eq_getElem_cons h1, h2, foldM, hM]; simp
theorem zai {w : World} {S : Nat -> Prop} {v : Value} {xs : List Cli} {A : Nat} {t : TypeId} {n : Int} {a c : Option Addr} {p q r s : Nat} (h : SlL w S v xs) (hA : Row w A t [.int .i64 n, .slice a p q, .slice c r s]) : SlL w (fun b => S b /\ b ≠ A) v xs := by
 obtain ⟨a', cap, hv, k1, k2, k3⟩ := h
 refine ⟨a', cap, hv, k1, k2, fun hne => ?_⟩
 obtain ⟨b, off, ha, hb, hat⟩ := k3 hne
 refine ⟨b, off, ha, ⟨hb, fun e => ?_⟩, hat⟩
 subst e
 have hx := (atL (hat 0 (xs[0]'(List.length_pos_iff.2 hne)) (List.getElem?_eq_getElem _))).2.1
 have hcell : w.cell? ⟨b, off + 0 * 4 + 1, none⟩ = [Value.int .i64 n, Value.slice a p q, Value.slice c r s][off + 0 * 4 + 1]? := by
  have hh : w.heap[b]? = some (.cells [Value.int .i64 n, Value.slice a p q, Value.slice c r s].toArray t (0, 0)) := hA
  simp [World.cell?, hh]
 rw [hcell] at hx
 match off, hx with
 | 0, hx => have := Option.some.inj hx; cases this
 | 1, hx => have := Option.some.inj hx; cases this
 | _ + 2, hx => simp at hx
theorem sll_but {w w' : World} {v : Value} {xs : List Cli} {A : Nat} {t : TypeId} {n : Int} {a c : Option Addr} {p q r s : Nat} (h : SlL w (Old w) v xs) (hA : Row w A t [.int .i64 n, .slice a p q, .slice c r s]) (hb : But A w w') : SlL w' (Old w') v xs :=
 Sl.keep (zai h hA) (fun b hb2 => hb.block b hb2.2) (fun b hb2 => by have h1 : b < w.heap.size := hb2.1; have h2 := hb.size; show b < _; omega) (fun _ _ h => h)
theorem z7b (w : World) (a : Option Addr) (cap : Nat) (l : List Cmd) (hX : SlM w (Old w) (.slice a l.length cap) l) (hF : ∀ c, c ∈ l -> ∀ x, x ∈ c.ch -> FitE x.e) (hV : EnvC w) :
  Calls Tryz.prog 20 #[.slice a l.length cap] w (FoldP l w) := by
 obtain ⟨L, HL⟩ : ∃ L, Hid (L = l.length) := ⟨_, hid rfl⟩
 have HX := hid hX
 have hln := hX.len
 have HF := hid hF
 have HV := hid hV
 rw [<- HL.out] at HX hln ⊢
 have hL : L <= 9223372036854775807 := by omega
 clear hX hF hV hln
 have HSO := hid (fun W => z27 W 0 none 0 [] none 0 [] (Sl.nil _ _ _ _) (Sl.nil _ _ _ _) (by simp) (by simp) List.Pairwise.nil (fun x hx => by cases hx))
 simp only [List.length_nil] at HSO
 obtain ⟨W1, HW1⟩ : ∃ W, Hid (W = w.alloc (.cells #[.int .i64 0, .slice none 0 0, .slice none 0 0] 25)) := ⟨_, hid rfl⟩
 have HB1 : Hid (Below w.heap.size w W1) := hid (by rw [HW1.out]; exact z04 _ _)
 have HR1 : Hid (Row W1 w.heap.size 25 [.int .i64 0, .slice none 0 0, .slice none 0 0]) := hid (by rw [HW1.out]; exact z01 w #[.int .i64 0, .slice none 0 0, .slice none 0 0] 25)
 go_enter Tryz.func20, Tryz.ntmps20
 go_wp2_with fail
 rw [<- HW1.out]
 clear HW1
 refine (HSO.out W1).mono ?_
 rintro e w2 ⟨ae, ce, ac, cc, M, rfl, hst, -, hb2⟩
 simp only [List.length_nil] at hst ⊢
 obtain ⟨w3, HW3⟩ : ∃ W, Hid (W = w2.alloc (.cells (stC 0 (.slice ae 0 ce) (.slice ac 0 cc) M) 73)) := ⟨_, hid rfl⟩
 obtain ⟨S, HS⟩ : ∃ n, Hid (n = w2.heap.size) := ⟨_, hid rfl⟩
 have hal : Below w2.heap.size w2 w3 := by rw [HW3.out]; exact z04 _ _
 have HRS : Hid (Row w3 S 73 [.int .i64 0, .slice ae 0 ce, .slice ac 0 cc, .map (some M)]) := hid (by rw [HW3.out, HS.out]; exact z01 w2 (stC 0 (.slice ae 0 ce) (.slice ac 0 cc) M) 73)
 have HST := hid (hst.old hal)
 have HRR := hid ((HR1.out.below hb2).below hal)
 have HB3 := hid (z00 (z00 HB1.out hb2) hal)
 have hS : w.heap.size < S := by have h1 := HR1.out.lt; have h2 := hb2.size; have h3 := HS.out; omega
 clear hst hal hb2 HR1 HB1 HSO
 go_wp2
 rw [<- HS.out, <- HW3.out]
 clear HW3 HS
 go_loopw [11] (fun i wr => ∃ k : Nat, k <= L /\ i = .int .i64 k /\ ∃ (m : Mdl) (ae : Option Addr) (ce : Nat) (ac : Option Addr) (cc M : Nat), Hid (Row wr S 73 [.int .i64 m.vr, .slice ae m.es.length ce, .slice ac m.cs.length cc, .map (some M)]) /\ Hid (StAt wr m ae ce ac cc M) /\ Hid (RgtM m) /\ Hid (foldM m (l.drop k) = foldM zeroM l) /\ Hid (Row wr w.heap.size 25 [.int .i64 0, .slice none 0 0, .slice none 0 0]) /\ Hid (Below w.heap.size w wr)) (fun i _ => L - (intOf i).toNat)
 case atStart => exact ⟨0, Nat.zero_le _, rfl, zeroM, ae, ce, ac, cc, M, HRS, HST, hid z5j, hid (by rw [List.drop_zero]), HRR, HB3⟩
 case round =>
  clear HRS HST HRR HB3
  obtain ⟨k, hk, rfl, m, ae, ce, ac, cc, M, HRS, HST, HRG, HFO, HRR, HBr⟩ := hrel
  by_cases hlt : k < L
  ·obtain ⟨c, hc⟩ : ∃ c, l[k]? = some c := ⟨_, List.getElem?_eq_getElem (by have := HL.out; omega)⟩
   have HC := hid hc
   obtain ⟨b0, off, hb, capc, rfl, -, x0, x1, x2, hsh⟩ := (HX.out.old HBr.out).get hc
   have HFC := hid (HF.out c (List.mem_of_getElem? hc))
   clear hc
   obtain ⟨Lh, HLh⟩ : ∃ L, Hid (L = c.ch.length) := ⟨_, hid rfl⟩
   have HMY := hid (fun W => z3j W c hb capc)
   obtain ⟨wc, HWC⟩ : ∃ W, Hid (W = wr.alloc (.cells #[.int .i64 c.cl, .int .i64 c.sq, .slice hb Lh capc] 28)) := ⟨_, hid rfl⟩
   obtain ⟨oc, HOC⟩ : ∃ n, Hid (n = wr.heap.size) := ⟨_, hid rfl⟩
   have hal : Below wr.heap.size wr wc := by rw [HWC.out]; exact z04 _ _
   have HSH := hid (hsh.old hal)
   have HRCc : Hid (Row wc oc 28 [.int .i64 c.cl, .int .i64 c.sq, .slice hb Lh capc]) := hid (by rw [HWC.out, HOC.out]; exact z01 wr #[.int .i64 c.cl, .int .i64 c.sq, .slice hb Lh capc] 28)
   have HRSc := hid (HRS.out.below hal)
   have HSTc := hid (HST.out.old hal)
   have HRRc := hid (HRR.out.below hal)
   have HBc := hid (z00 HBr.out hal)
   rw [<- HLh.out] at HMY x2 HSH
   clear hal hsh
   go_wp2_with fail
   rw [<- HOC.out, <- HWC.out]
   clear x0 x1 x2 HWC HOC
   refine (HMY.out wc).mono ?_
   rintro e w5 ⟨rfl, hb5⟩
   have HSH5 := hid (HSH.out.old hb5)
   have HRC5 := hid (HRCc.out.below hb5)
   have HRS5 := hid (HRSc.out.below hb5)
   have HST5 := hid (HSTc.out.old hb5)
   have HRR5 := hid (HRRc.out.below hb5)
   have HB5 := hid (z00 HBc.out hb5)
   clear hb5 HMY HSH HRCc HRSc HSTc HRRc HBc
   cases hm : mayC c with
   | false =>
    have HFN : Hid (foldM zeroM l = none) := hid (by rw [<- HFO.out]; exact zcv HC.out hm)
    have HPR := hid (z3f HRR5.out 0 (.slice none 0 0) (.slice none 0 0))
    have HBE : Hid (Below w.heap.size w (putM w5 w.heap.size 0 (.slice none 0 0) (.slice none 0 0))) := hid (HB5.out.trans ((z28 w5 w.heap.size 0 (.slice none 0 0) (.slice none 0 0)).below (B := w.heap.size) (Nat.le_refl _)))
    have r0 := HRR5.out.cell (i := 0) rfl
    have r1 := HRR5.out.cell (i := 1) rfl
    have r2 := HRR5.out.cell (i := 2) rfl
    have t0 := HRR5.out.thaw 0
    have t1 := HRR5.out.thaw 1
    have t2 := HRR5.out.thaw 2
    clear hm
    go_wp2
    have e0 := HPR.out.cell (i := 0) rfl
    have e1 := HPR.out.cell (i := 1) rfl
    have e2 := HPR.out.cell (i := 2) rfl
    exact bodyPost_ret (v := .tuple #[.agg #[.int .i64 0, .slice none 0 0, .slice none 0 0], .int .i64 120]) (by simp [results, Tryz.results20, go_sem, e0, e1, e2]) rfl ⟨HBE.out, by rw [HFN.out]⟩
   | true =>
    have HFN := hid (z7n (m := m) HC.out hm)
    have HM := hid hm
    have HRN := hid (z4k HRG.out hm)
    have HEX := hid (z45 w5 m ae ce ac cc M c hb capc HST5.out HRG.out hm (by rw [<- HLh.out]; exact HSH5.out) HFC.out (HV.out.below HB5.out))
    rw [<- HLh.out] at HEX
    have p0 := HRS5.out.cell (i := 0) rfl
    have p1 := HRS5.out.cell (i := 1) rfl
    have p2 := HRS5.out.cell (i := 2) rfl
    have p3 := HRS5.out.cell (i := 3) rfl
    have q0 := HRC5.out.cell (i := 0) rfl
    have q1 := HRC5.out.cell (i := 1) rfl
    have q2 := HRC5.out.cell (i := 2) rfl
    clear hm
    go_wp2_with fail
    clear p0 p1 p2 p3 q0 q1 q2
    refine HEX.out.mono ?_
    clear HEX
    rintro e w6 ⟨ae6, ce6, ac6, cc6, M6, rfl, hst, hb6⟩
    obtain ⟨m6, HM6⟩ : ∃ m6, Hid (m6 = (doF m c).1) := ⟨_, hid rfl⟩
    rw [<- HM6.out] at hst HFN HRN ⊢
    have HST6 := hid hst
    have HRS6 := hid (HRS5.out.below hb6)
    have HRR6 := hid (HRR5.out.below hb6)
    have HB6 := hid (z00 HB5.out hb6)
    clear hst hb6 HRS5 HRR5 HB5 HST5
    have hbt := z0e w6 S m6.vr (.slice ae6 m6.es.length ce6) (.slice ac6 m6.cs.length cc6) M6
    have HRS7 := hid (z16 HRS6.out m6.vr (.slice ae6 m6.es.length ce6) (.slice ac6 m6.cs.length cc6) M6)
    have HST7 := hid (StAt.but HST6.out HRS6.out (fun _ => Value.noConfusion) (fun _ => Value.noConfusion) (fun _ => Value.noConfusion) (fun _ => Value.noConfusion) (fun _ => Value.noConfusion) (fun _ => Value.noConfusion) (fun _ => Value.noConfusion) hbt)
    have HRR7 := hid (HRR6.out.keep (hbt.block w.heap.size (by omega)))
    have HB7 := hid (HB6.out.trans (hbt.below (B := w.heap.size) (by omega)))
    have p0 := HRS6.out.cell (i := 0) rfl
    have p1 := HRS6.out.cell (i := 1) rfl
    have p2 := HRS6.out.cell (i := 2) rfl
    have p3 := HRS6.out.cell (i := 3) rfl
    have t0 := HRS6.out.thaw 0
    have t1 := HRS6.out.thaw 1
    have t2 := HRS6.out.thaw 2
    have t3 := HRS6.out.thaw 3
    have HFO7 : Hid (foldM m6 (l.drop (k + 1)) = foldM zeroM l) := hid (by rw [<- HFN.out, HFO.out])
    clear hbt HRS HST HRR
    obtain ⟨L6e, HL6e⟩ : ∃ L, Hid (L = m6.es.length) := ⟨_, hid rfl⟩
    obtain ⟨L6c, HL6c⟩ : ∃ L, Hid (L = m6.cs.length) := ⟨_, hid rfl⟩
    obtain ⟨v6, HV6⟩ : ∃ v, Hid (v = m6.vr) := ⟨_, hid rfl⟩
    rw [<- HL6e.out, <- HL6c.out, <- HV6.out] at HRS7 HST7 HRR7 HB7 ⊢
    go_wp2
    go_roundw
    case rel => exact ⟨k + 1, by omega, by go_num, m6, ae6, ce6, ac6, cc6, M6, by rw [<- HL6e.out, <- HL6c.out, <- HV6.out]; exact HRS7, by exact HST7, HRN, HFO7, HRR7, HB7⟩
    case measure => simp [intOf]; omega
  ·have HFN : Hid (foldM zeroM l = some m) := hid (by rw [<- HFO.out, List.drop_of_length_le (by have := HL.out; omega), foldM])
   have HPR := hid (z3f HRR.out m.vr (.slice ae m.es.length ce) (.slice ac m.cs.length cc))
   have hbt := z28 wr w.heap.size m.vr (.slice ae m.es.length ce) (.slice ac m.cs.length cc)
   have HST7 := hid (HST.out.butR HRR.out hbt)
   have HBE := hid (HBr.out.trans (hbt.below (B := w.heap.size) (Nat.le_refl _)))
   have p0 := HRS.out.cell (i := 0) rfl
   have p1 := HRS.out.cell (i := 1) rfl
   have p2 := HRS.out.cell (i := 2) rfl
   have r0 := HRR.out.cell (i := 0) rfl
   have r1 := HRR.out.cell (i := 1) rfl
   have r2 := HRR.out.cell (i := 2) rfl
   have t0 := HRR.out.thaw 0
   have t1 := HRR.out.thaw 1
   have t2 := HRR.out.thaw 2
   clear hbt
   go_wp2
   have e0 := HPR.out.cell (i := 0) rfl
   have e1 := HPR.out.cell (i := 1) rfl
   have e2 := HPR.out.cell (i := 2) rfl
   exact bodyPost_ret (v := .tuple #[.agg (mdC m.vr (.slice ae m.es.length ce) (.slice ac m.cs.length cc)), .int .i64 0]) (by simp [results, Tryz.results20, go_sem, e0, e1, e2]) rfl ⟨HBE.out, by rw [HFN.out]; exact ⟨ae, ce, ac, cc, rfl, HST7.out.es, HST7.out.cs⟩⟩
end Go.Proofs.YtdkkkeoicekdgaaGreatDoor.Md

end

section

namespace Go.Proofs.YtdkkkeoicekdgaaGreatDoor.Md
set_option maxHeartbeats 1600000
set_option maxRecDepth 100000
open Go.Lib (hid)
open Go.RowKit Go.Maps Go.WideShapes Go.WideMaps Go.Proofs.YtdkkkeoicekdgaaGreatDoor Go.Proofs.YtdkkkeoicekdgaaGreatDoor.Ca
theorem z7o : ∀ {l : List Cmd} {m n : Mdl}, foldM m l = some n -> ∀ c, c ∈ l -> mayC c = true
 | [], m, n, _, c, hc => by cases hc
 | d :: r, m, n, h, c, hc => by
  rw [foldM] at h
  split at h
  ·rename_i hd
   rcases List.mem_cons.1 hc with rfl | hc
   ·exact hd
   ·exact z7o h c hc
  ·cases h
theorem zbi (w : World) (a : Option Addr) (cap : Nat) (l : List Cmd) (hX : SlM w (Old w) (.slice a l.length cap) l) : Calls Tryz.prog 19 #[.slice a l.length cap] w fun e w' => e = .returned (.slice a (l.take 20).length cap) /\ w' = w := by
 have hl := hX.len
 obtain ⟨n, HN⟩ : ∃ n, Hid (n = (l.take 20).length) := ⟨_, hid rfl⟩
 have hn := HN.out
 rw [List.length_take] at hn
 rw [<- HN.out]
 obtain ⟨L, HL⟩ : ∃ L, Hid (L = l.length) := ⟨_, hid rfl⟩
 rw [<- HL.out] at hn hl ⊢
 clear hX
 by_cases h20 : 20 < L
 ·have h1 : (20 : Int) < L := by omega
  have h2 : (20 : Int) <= cap := by omega
  obtain rfl : n = 20 := by omega
  clear hn hl HN
  go_enter Tryz.func19, Tryz.ntmps19
  go_wp2
  go_ret
  exact ⟨rfl, rfl⟩
 ·have h1 : ¬ (20 : Int) < L := by omega
  obtain rfl : n = L := by omega
  clear hn hl HN
  go_enter Tryz.func19, Tryz.ntmps19
  go_wp2
  go_ret
  exact ⟨rfl, rfl⟩
theorem short_sl {w : World} {a : Option Addr} {cap : Nat} {l : List Cmd} (hX : SlM w (Old w) (.slice a l.length cap) l) : SlM w (Old w) (.slice a (l.take 20).length cap) (l.take 20) := by
 by_cases h : 20 <= l.length
 ·have h2 := hX.take 20 h
  rwa [show (l.take 20).length = 20 by rw [List.length_take]; omega]
 ·rw [List.take_of_length_le (by omega)]; exact hX
end Go.Proofs.YtdkkkeoicekdgaaGreatDoor.Md

end

section

namespace Go.Proofs.YtdkkkeoicekdgaaGreatDoor.Md
set_option maxHeartbeats 12800000
set_option maxRecDepth 100000
open Go.Lib (hid)
open Go.RowKit Go.Maps Go.WideShapes Go.WideMaps Go.Proofs.YtdkkkeoicekdgaaGreatDoor Go.Proofs.YtdkkkeoicekdgaaGreatDoor.Ca
theorem at_lt {n : Int} {L : Nat} (h : 0 < L) (h2 : L <= 20) : ∃ (x : Int) (p : Nat), Hid (n.tmod L = x) /\ -20 < x /\ x < 20 /\ Hid ((x + L).tmod L = p) /\ p < L := by
 have h0 : (0 : Int) < L := by omega
 have h3 : n.tmod L < L := by have := Int.tmod_lt_of_pos n h0; exact this
 have h4 : -(L : Int) < n.tmod L := by
  have h5 := Int.tmod_lt_of_pos (-n) h0
  rw [Int.neg_tmod] at h5
  omega
 refine ⟨n.tmod L, ((n.tmod L + L).tmod L).toNat, hid rfl, by omega, by omega, hid ?_, ?_⟩
 ·have h6 : 0 <= (n.tmod L + L).tmod L := Int.tmod_nonneg _ (by omega)
  omega
 ·have h6 : 0 <= (n.tmod L + L).tmod L := Int.tmod_nonneg _ (by omega)
  have h7 : (n.tmod L + L).tmod L < L := Int.tmod_lt_of_pos _ h0
  omega
theorem zao (w : World) (a : Option Addr) (cap : Nat) (l0 : List Cmd) (n : Int) (hX0 : SlM w (Old w) (.slice a l0.length cap) l0) (hF0 : ∀ c, c ∈ l0 -> ∀ x, x ∈ c.ch -> FitE x.e) (hV : EnvC w) :
  Calls Tryz.prog 8 #[.slice a l0.length cap, .int .i64 n] w fun e w' => e = .returned (.bool true) /\ Below w.heap.size w w' := by
 have HSH := hid (zbi w a cap l0 hX0)
 have hX := short_sl hX0
 have hF : ∀ c, c ∈ l0.take 20 -> ∀ x, x ∈ c.ch -> FitE x.e := fun c hc => hF0 c (List.mem_of_mem_take hc)
 have hl20 : (l0.take 20).length <= 20 := by rw [List.length_take]; omega
 obtain ⟨L0, HL0⟩ : ∃ L, Hid (L = l0.length) := ⟨_, hid rfl⟩
 rw [<- HL0.out] at HSH ⊢
 generalize l0.take 20 = l at *
 clear hX0 hF0 HL0
 have HAL := hid (fun W => zb4 W)
 have hln := hX.len
 obtain ⟨L, HL⟩ : ∃ L, Hid (L = l.length) := ⟨_, hid rfl⟩
 have hL : L <= 20 := by rw [HL.out]; exact hl20
 rw [<- HL.out] at HSH
 clear hl20
 by_cases hL0 : L = 0
 ·have HL0 := hid hL0
  have u0 : ((L : Int) == 0) = true := by rw [beq_iff_eq]; omega
  clear hX hF hV hln hL0 hL
  go_enter Tryz.func8, Tryz.ntmps8
  go_wp2_with fail
  refine HSH.out.mono ?_
  rintro e w1 ⟨rfl, rfl⟩
  go_wp2_with fail
  refine (HAL.out w1).mono ?_
  rintro e w2 ⟨rfl, hb2⟩
  have HB2 := hid hb2
  clear hb2
  go_wp2
  go_ret
  exact ⟨rfl, HB2.out⟩
 have hL1 : 0 < L := by omega
 clear hL0
 have u0 : ((L : Int) == 0) = false := by rw [beq_eq_false_iff_ne]; omega
 obtain ⟨x, p, HX1, hx1, hx2, HX2, hp⟩ := at_lt (n := n) hL1 hL
 have hcap : L <= cap := by rw [HL.out]; exact hln.2.1
 have hcap2 : cap <= 9223372036854775807 := hln.2.2
 have HFO := hid (z7b w a cap l hX hF hV)
 have HFP := hid (fun W (hb : Below w.heap.size w W) => z7b W a cap (l.take p) (by
  have h := (hX.old hb).take p (by rw [<- HL.out]; omega)
  rwa [show (l.take p).length = p by rw [List.length_take, <- HL.out]; omega]) (fun c hc => hF c (List.mem_of_mem_take hc)) (hV.below hb))
 have HPL : Hid ((l.take p).length = p) := hid (by rw [List.length_take, <- HL.out]; omega)
 rw [HPL.out] at HFP
 have HX := hid hX
 have HF := hid hF
 have HV := hid hV
 rw [<- HL.out] at HX HFO
 have HAPP : Hid (foldM zeroM l = (foldM zeroM (l.take p)).bind (fun m => foldM m (l.drop p))) := hid (by rw [<- z9x, List.take_append_drop])
 clear hX hF hV hln
 unfold FoldP at HFO HFP
 have hq1 := HX1.out
 have hq2 := HX2.out
 have hp1 : (0 : Int) <= (p : Int) := by omega
 have hp2 : (p : Int) <= (L : Int) := by omega
 have hp3 : (p : Int) <= (cap : Int) := by omega
 go_enter Tryz.func8, Tryz.ntmps8
 go_wp2_with fail
 refine HSH.out.mono ?_
 rintro e w1 ⟨rfl, rfl⟩
 clear HSH
 go_wp2_with fail
 clear hq1 hq2
 refine HFO.out.mono ?_
 clear HFO
 rintro e w2 ⟨hb2, hfo⟩
 cases hfm : foldM zeroM l with
 | none =>
  rw [hfm] at hfo
  simp only at hfo
  subst hfo
  obtain ⟨w3, HW3⟩ : ∃ W, Hid (W = w2.alloc (.cells #[.int .i64 0, .slice none 0 0, .slice none 0 0] 25)) := ⟨_, hid rfl⟩
  have HB3 : Hid (Below w1.heap.size w1 w3) := hid (z00 hb2 (by rw [HW3.out]; exact z04 _ _))
  clear hb2 hfm
  go_wp2_with fail
  rw [<- HW3.out]
  clear HW3
  refine (HFP.out w3 HB3.out).mono ?_
  rintro e w4 ⟨hb4, hfo⟩
  have HB4 := hid (z00 HB3.out hb4)
  clear hb4
  cases hfp : foldM zeroM (l.take p) with
  | none =>
   rw [hfp] at hfo
   simp only at hfo
   subst hfo
   clear hfp
   go_wp2_with fail
   refine (HAL.out _).mono ?_
   rintro e w6 ⟨rfl, hb6⟩
   have HB6 := hid (z00 (z00 HB4.out (z04 _ _)) hb6)
   clear hb6
   go_wp2
   go_ret
   exact ⟨rfl, HB6.out⟩
  | some m =>
   rw [hfp] at hfo
   simp only at hfo
   obtain ⟨ae, ce, ac, cc, rfl, -, -⟩ := hfo
   clear hfp
   go_wp2_with fail
   refine (HAL.out _).mono ?_
   rintro e w6 ⟨rfl, hb6⟩
   have HB6 := hid (z00 (z00 HB4.out (z04 _ _)) hb6)
   clear hb6
   go_wp2
   go_ret
   exact ⟨rfl, HB6.out⟩
 | some m =>
  rw [hfm] at hfo
  simp only at hfo
  obtain ⟨ae, ce, ac, cc, rfl, he2, hc2⟩ := hfo
  obtain ⟨m1, hfp, hfd⟩ : ∃ m1, foldM zeroM (l.take p) = some m1 /\ foldM m1 (l.drop p) = some m := by
   have h := HAPP.out
   rw [hfm] at h
   cases hq : foldM zeroM (l.take p) with
   | none => rw [hq] at h; cases h
   | some m1 => rw [hq] at h; exact ⟨m1, rfl, h.symm⟩
  have HR1 := hid (z52 z5j hfp)
  have HFD := hid hfd
  clear hfm hfd HAPP
  obtain ⟨mv, mes, mcs⟩ := m
  simp only at he2 hc2 ⊢
  obtain ⟨Me, HMe⟩ : ∃ L, Hid (L = mes.length) := ⟨_, hid rfl⟩
  obtain ⟨Mc, HMc⟩ : ∃ L, Hid (L = mcs.length) := ⟨_, hid rfl⟩
  rw [<- HMe.out] at he2 ⊢
  rw [<- HMc.out] at hc2 ⊢
  obtain ⟨w3, HW3⟩ : ∃ W, Hid (W = w2.alloc (.cells #[.int .i64 mv, .slice ae Me ce, .slice ac Mc cc] 25)) := ⟨_, hid rfl⟩
  obtain ⟨N5, HN5⟩ : ∃ n, Hid (n = w2.heap.size) := ⟨_, hid rfl⟩
  have hal : Below w2.heap.size w2 w3 := by rw [HW3.out]; exact z04 _ _
  have HRN5 : Hid (Row w3 N5 25 [.int .i64 mv, .slice ae Me ce, .slice ac Mc cc]) := hid (by rw [HW3.out, HN5.out]; exact z01 w2 #[.int .i64 mv, .slice ae Me ce, .slice ac Mc cc] 25)
  have HB3 : Hid (Below w1.heap.size w1 w3) := hid (z00 hb2 hal)
  have HE3 := hid (he2.old hal)
  have HC3 := hid (hc2.old hal)
  clear hal hb2 he2 hc2
  go_wp2_with fail
  rw [<- HN5.out, <- HW3.out]
  clear HW3 HN5
  refine (HFP.out w3 HB3.out).mono ?_
  clear HFP
  rintro e w4 ⟨hb4, hfo⟩
  rw [hfp] at hfo
  simp only at hfo
  obtain ⟨ae4, ce4, ac4, cc4, rfl, he4, hc4⟩ := hfo
  clear hfp
  obtain ⟨w5, HW5⟩ : ∃ W, Hid (W = w4.alloc (.cells #[.int .i64 m1.vr, .slice ae4 m1.es.length ce4, .slice ac4 m1.cs.length cc4] 25)) := ⟨_, hid rfl⟩
  obtain ⟨Q, HQN⟩ : ∃ n, Hid (n = w4.heap.size) := ⟨_, hid rfl⟩
  have hal : Below w4.heap.size w4 w5 := by rw [HW5.out]; exact z04 _ _
  have HQ5 : Hid (Row w5 Q 25 [.int .i64 m1.vr, .slice ae4 m1.es.length ce4, .slice ac4 m1.cs.length cc4]) := hid (by rw [HW5.out, HQN.out]; exact z01 w4 #[.int .i64 m1.vr, .slice ae4 m1.es.length ce4, .slice ac4 m1.cs.length cc4] 25)
  have HB5 : Hid (Below w3.heap.size w3 w5) := hid (z00 hb4 hal)
  have HE5 := hid (he4.old hal)
  have HC5 := hid (hc4.old hal)
  have hQ : w3.heap.size <= Q := by have h1 := hb4.size; have h2 := HQN.out; omega
  clear hal hb4 he4 hc4
  obtain ⟨c00, hc00⟩ : ∃ c, l[0]? = some c := ⟨_, List.getElem?_eq_getElem (by have := HL.out; omega)⟩
  obtain ⟨b0, off0, -, -, rfl, -⟩ := HX.out.get hc00
  clear hc00 c00
  obtain ⟨R, HR⟩ : ∃ n, Hid (n = L - p) := ⟨_, hid rfl⟩
  obtain ⟨cr, HCR⟩ : ∃ n, Hid (n = cap - p) := ⟨_, hid rfl⟩
  have HXD : Hid (SlM w1 (Old w1) (.slice (some ⟨b0, off0 + p * 3, none⟩) R cr) (l.drop p)) := hid (by
   have h := HX.out.drop p (by rw [<- HL.out]; omega)
   rw [Addr.add_mid, <- HL.out, <- HR.out, <- HCR.out] at h
   exact h)
  have HRL : Hid (R = (l.drop p).length) := hid (by rw [List.length_drop, <- HL.out]; exact HR.out)
  have hR : R <= 20 := by have := HR.out; omega
  have hck : ¬ cap = p := by omega
  go_wp2
  rw [<- HQN.out, <- HW5.out, <- HR.out]
  clear HW5 HQN
  go_loopw [57] (fun i wr => ∃ k : Nat, k <= R /\ i = .int .i64 k /\ ∃ (m : Mdl) (ae : Option Addr) (ce : Nat) (ac : Option Addr) (cc : Nat), Hid (Row wr Q 25 [.int .i64 m.vr, .slice ae m.es.length ce, .slice ac m.cs.length cc]) /\ Hid (SlE wr (Old wr) (.slice ae m.es.length ce) m.es) /\ Hid (SlL wr (Old wr) (.slice ac m.cs.length cc) m.cs) /\ Hid (RgtM m) /\ Hid (foldM m ((l.drop p).drop k) = some ⟨mv, mes, mcs⟩) /\ Hid (Below w3.heap.size w3 wr)) (fun i _ => R - (intOf i).toNat)
  case atStart => exact ⟨0, Nat.zero_le _, rfl, m1, ae4, ce4, ac4, cc4, HQ5, HE5, HC5, HR1, hid (by rw [List.drop_zero]; exact HFD.out), HB5⟩
  case round =>
   clear HQ5 HE5 HC5 HR1 HFD HB5
   obtain ⟨k, hk, rfl, m, ae9, ce9, ac9, cc9, HQ, HE, HC, HRG, HFK, HBr⟩ := hrel
   by_cases hlt : k < R
   ·obtain ⟨c, hc⟩ : ∃ c, (l.drop p)[k]? = some c := ⟨_, List.getElem?_eq_getElem (by have := HRL.out; omega)⟩
    have HCK := hid hc
    obtain ⟨b1, off1, hb, capc, hab, -, x0, x1, x2, hsh⟩ := (HXD.out.old (z00 HB3.out HBr.out)).get hc
    injection hab with hab
    injection hab with hab1 hab2
    subst hab1 hab2
    have HFC := hid (HF.out c (List.mem_of_mem_drop (List.mem_of_getElem? hc)))
    have HMC : Hid (mayC c = true) := hid (z7o HFK.out c (List.mem_of_getElem? (i := 0) (by rw [List.getElem?_drop]; exact hc)))
    clear hc
    obtain ⟨Lh, HLh⟩ : ∃ L, Hid (L = c.ch.length) := ⟨_, hid rfl⟩
    obtain ⟨wc, HWC⟩ : ∃ W, Hid (W = wr.alloc (.cells #[.int .i64 c.cl, .int .i64 c.sq, .slice hb Lh capc] 28)) := ⟨_, hid rfl⟩
    have hal : Below wr.heap.size wr wc := by rw [HWC.out]; exact z04 _ _
    have HQc := hid (HQ.out.below hal)
    have HBc := hid (z00 HBr.out hal)
    have HRD := hid (doy_any wc m ae9 ce9 ac9 cc9 c hb capc (HE.out.old hal) (HC.out.old hal) (HV.out.below (z00 HB3.out HBc.out)) (hsh.old hal) HFC.out HRG.out HMC.out)
    have HFN := hid (z7n (m := m) HCK.out HMC.out)
    have HRN := hid (z4k HRG.out HMC.out)
    have q0 : (wr.alloc (.cells #[.int .i64 c.cl, .int .i64 c.sq, .slice hb Lh capc] 28)).cell? ⟨Q, 0, none⟩ = some (.int .i64 m.vr) := by rw [<- HWC.out]; exact HQc.out.cell rfl
    have q1 : (wr.alloc (.cells #[.int .i64 c.cl, .int .i64 c.sq, .slice hb Lh capc] 28)).cell? ⟨Q, 1, none⟩ = some (.slice ae9 m.es.length ce9) := by rw [<- HWC.out]; exact HQc.out.cell rfl
    have q2 : (wr.alloc (.cells #[.int .i64 c.cl, .int .i64 c.sq, .slice hb Lh capc] 28)).cell? ⟨Q, 2, none⟩ = some (.slice ac9 m.cs.length cc9) := by rw [<- HWC.out]; exact HQc.out.cell rfl
    rw [<- HLh.out] at HRD x2
    clear hal hsh
    go_wp2_with fail
    rw [<- HWC.out]
    clear x0 x1 x2 q0 q1 q2 HWC
    refine HRD.out.mono ?_
    clear HRD
    rintro e w5 ⟨a1, c1, a2, c2, rfl, he5, hc5, hb5⟩
    obtain ⟨m6, r6, HM6⟩ : ∃ m6 r6, Hid (doF m c = (m6, r6)) := ⟨_, _, hid rfl⟩
    rw [HM6.out] at he5 hc5 HFN HRN ⊢
    simp only at he5 hc5 HFN HRN ⊢
    obtain ⟨v6, es6, cs6⟩ := m6
    obtain ⟨ri, rq, ra, rv⟩ := r6
    simp only at he5 hc5 HFN HRN ⊢
    obtain ⟨L6e, HL6e⟩ : ∃ L, Hid (L = es6.length) := ⟨_, hid rfl⟩
    obtain ⟨L6c, HL6c⟩ : ∃ L, Hid (L = cs6.length) := ⟨_, hid rfl⟩
    rw [<- HL6e.out] at he5 ⊢
    rw [<- HL6c.out] at hc5 ⊢
    go_wp2_with (with_reducible refine is_wpl ?_; refine hid ?_; refine z5g (ty := 25) (x := .tmp 11) (y := .tmp 65) rfl ?_)
    refine hid ?_
    obtain ⟨V1, HWV1⟩ : ∃ W, Hid (W = (w5.alloc (.cells #[.int .i64 0, .slice none 0 0, .slice none 0 0] 25)).alloc (.cells #[.int .i64 0, .int .i64 0, .int .i64 0, .int .i64 0] 32)) := ⟨_, hid rfl⟩
    rw [<- HWV1.out]
    obtain ⟨hst, hr1, hr2, hbb⟩ := two_box w5 v6 (.slice a1 L6e c1) (.slice a2 L6c c2) ⟨ri, rq, ra, rv⟩
    rw [<- HWV1.out] at hst hr1 hr2 hbb
    clear HWV1
    have HRN1 : Hid (Row ((((((((V1).setCell ⟨w5.heap.size, 0, none⟩ (.int .i64 v6)).setCell ⟨w5.heap.size, 1, none⟩ (.slice a1 L6e c1)).setCell ⟨w5.heap.size, 2, none⟩ (.slice a2 L6c c2)).setCell ⟨w5.heap.size + 1, 0, none⟩ (.int .i64 ri)).setCell ⟨w5.heap.size + 1, 1, none⟩ (.int .i64 rq)).setCell ⟨w5.heap.size + 1, 2, none⟩ (.int .i64 ra)).setCell ⟨w5.heap.size + 1, 3, none⟩ (.int .i64 rv)) w5.heap.size 25 [.int .i64 v6, .slice a1 L6e c1, .slice a2 L6c c2]) := hid hr1
    have HBX : Hid (Below w5.heap.size w5 ((((((((V1).setCell ⟨w5.heap.size, 0, none⟩ (.int .i64 v6)).setCell ⟨w5.heap.size, 1, none⟩ (.slice a1 L6e c1)).setCell ⟨w5.heap.size, 2, none⟩ (.slice a2 L6c c2)).setCell ⟨w5.heap.size + 1, 0, none⟩ (.int .i64 ri)).setCell ⟨w5.heap.size + 1, 1, none⟩ (.int .i64 rq)).setCell ⟨w5.heap.size + 1, 2, none⟩ (.int .i64 ra)).setCell ⟨w5.heap.size + 1, 3, none⟩ (.int .i64 rv))) := hid hbb
    obtain ⟨c0, c1', c2'⟩ := hst.c1
    obtain ⟨s0, s1, s2⟩ := hst.f1
    obtain ⟨z0, z1, z2, z3⟩ := hst.c2
    obtain ⟨y0, y1, y2, y3⟩ := hst.f2
    clear hst hr1 hr2 hbb
    have HQ7 : Hid (Row ((((((((V1).setCell ⟨w5.heap.size, 0, none⟩ (.int .i64 v6)).setCell ⟨w5.heap.size, 1, none⟩ (.slice a1 L6e c1)).setCell ⟨w5.heap.size, 2, none⟩ (.slice a2 L6c c2)).setCell ⟨w5.heap.size + 1, 0, none⟩ (.int .i64 ri)).setCell ⟨w5.heap.size + 1, 1, none⟩ (.int .i64 rq)).setCell ⟨w5.heap.size + 1, 2, none⟩ (.int .i64 ra)).setCell ⟨w5.heap.size + 1, 3, none⟩ (.int .i64 rv)) Q 25 [.int .i64 m.vr, .slice ae9 m.es.length ce9, .slice ac9 m.cs.length cc9]) := hid ((HQc.out.below hb5).below HBX.out)
    have HB7 : Hid (Below w3.heap.size w3 ((((((((V1).setCell ⟨w5.heap.size, 0, none⟩ (.int .i64 v6)).setCell ⟨w5.heap.size, 1, none⟩ (.slice a1 L6e c1)).setCell ⟨w5.heap.size, 2, none⟩ (.slice a2 L6c c2)).setCell ⟨w5.heap.size + 1, 0, none⟩ (.int .i64 ri)).setCell ⟨w5.heap.size + 1, 1, none⟩ (.int .i64 rq)).setCell ⟨w5.heap.size + 1, 2, none⟩ (.int .i64 ra)).setCell ⟨w5.heap.size + 1, 3, none⟩ (.int .i64 rv))) := hid (z00 (z00 HBc.out hb5) HBX.out)
    have HE7 : Hid (SlE ((((((((V1).setCell ⟨w5.heap.size, 0, none⟩ (.int .i64 v6)).setCell ⟨w5.heap.size, 1, none⟩ (.slice a1 L6e c1)).setCell ⟨w5.heap.size, 2, none⟩ (.slice a2 L6c c2)).setCell ⟨w5.heap.size + 1, 0, none⟩ (.int .i64 ri)).setCell ⟨w5.heap.size + 1, 1, none⟩ (.int .i64 rq)).setCell ⟨w5.heap.size + 1, 2, none⟩ (.int .i64 ra)).setCell ⟨w5.heap.size + 1, 3, none⟩ (.int .i64 rv)) (Old ((((((((V1).setCell ⟨w5.heap.size, 0, none⟩ (.int .i64 v6)).setCell ⟨w5.heap.size, 1, none⟩ (.slice a1 L6e c1)).setCell ⟨w5.heap.size, 2, none⟩ (.slice a2 L6c c2)).setCell ⟨w5.heap.size + 1, 0, none⟩ (.int .i64 ri)).setCell ⟨w5.heap.size + 1, 1, none⟩ (.int .i64 rq)).setCell ⟨w5.heap.size + 1, 2, none⟩ (.int .i64 ra)).setCell ⟨w5.heap.size + 1, 3, none⟩ (.int .i64 rv))) (.slice a1 L6e c1) es6) := hid (he5.old HBX.out)
    have HC7 : Hid (SlL ((((((((V1).setCell ⟨w5.heap.size, 0, none⟩ (.int .i64 v6)).setCell ⟨w5.heap.size, 1, none⟩ (.slice a1 L6e c1)).setCell ⟨w5.heap.size, 2, none⟩ (.slice a2 L6c c2)).setCell ⟨w5.heap.size + 1, 0, none⟩ (.int .i64 ri)).setCell ⟨w5.heap.size + 1, 1, none⟩ (.int .i64 rq)).setCell ⟨w5.heap.size + 1, 2, none⟩ (.int .i64 ra)).setCell ⟨w5.heap.size + 1, 3, none⟩ (.int .i64 rv)) (Old ((((((((V1).setCell ⟨w5.heap.size, 0, none⟩ (.int .i64 v6)).setCell ⟨w5.heap.size, 1, none⟩ (.slice a1 L6e c1)).setCell ⟨w5.heap.size, 2, none⟩ (.slice a2 L6c c2)).setCell ⟨w5.heap.size + 1, 0, none⟩ (.int .i64 ri)).setCell ⟨w5.heap.size + 1, 1, none⟩ (.int .i64 rq)).setCell ⟨w5.heap.size + 1, 2, none⟩ (.int .i64 ra)).setCell ⟨w5.heap.size + 1, 3, none⟩ (.int .i64 rv))) (.slice a2 L6c c2) cs6) := hid (hc5.old HBX.out)
    clear he5 hc5 hb5 HQc HBc
    have hbt := z28 ((((((((V1).setCell ⟨w5.heap.size, 0, none⟩ (.int .i64 v6)).setCell ⟨w5.heap.size, 1, none⟩ (.slice a1 L6e c1)).setCell ⟨w5.heap.size, 2, none⟩ (.slice a2 L6c c2)).setCell ⟨w5.heap.size + 1, 0, none⟩ (.int .i64 ri)).setCell ⟨w5.heap.size + 1, 1, none⟩ (.int .i64 rq)).setCell ⟨w5.heap.size + 1, 2, none⟩ (.int .i64 ra)).setCell ⟨w5.heap.size + 1, 3, none⟩ (.int .i64 rv)) Q v6 (.slice a1 L6e c1) (.slice a2 L6c c2)
    have HQ8 := hid (z3f HQ7.out v6 (.slice a1 L6e c1) (.slice a2 L6c c2))
    have HE8 := hid (sle_but HE7.out HQ7.out no_textM hbt)
    have HC8 := hid (sll_but HC7.out HQ7.out hbt)
    have HB8 := hid (HB7.out.trans (hbt.below (B := w3.heap.size) (by omega)))
    have n0 := HRN1.out.cell (i := 0) rfl
    have n1 := HRN1.out.cell (i := 1) rfl
    have n2 := HRN1.out.cell (i := 2) rfl
    have q0 := HQ7.out.cell (i := 0) rfl
    have q1 := HQ7.out.cell (i := 1) rfl
    have q2 := HQ7.out.cell (i := 2) rfl
    have t0 := HQ7.out.thaw 0
    have t1 := HQ7.out.thaw 1
    have t2 := HQ7.out.thaw 2
    clear hbt
    go_wp2
    go_roundw
    case rel => exact ⟨k + 1, by omega, by go_num, ⟨v6, es6, cs6⟩, a1, c1, a2, c2, by simp only; rw [<- HL6e.out, <- HL6c.out]; exact HQ8, by simp only; rw [<- HL6e.out]; exact HE8, by simp only; rw [<- HL6c.out]; exact HC8, HRN, hid (by rw [<- HFN.out]; exact HFK.out), HB8⟩
    case measure => simp [intOf]; omega
   ·have hmm : m = ⟨mv, mes, mcs⟩ := by have h := HFK.out; rw [List.drop_of_length_le (by have := HRL.out; omega), foldM] at h; exact Option.some.inj h
    subst hmm
    simp only at HQ HE HC
    rw [<- HMe.out] at HQ HE
    rw [<- HMc.out] at HQ HC
    clear HFK HRG
    go_wp2_with fail
    refine (HAL.out wr).mono ?_
    rintro e w6 ⟨rfl, hb6⟩
    have HB6 := hid (z00 HBr.out hb6)
    have HQ6 := hid (HQ.out.below hb6)
    have HN6 := hid (HRN5.out.below HB6.out)
    have HE6 := hid (HE.out.old hb6)
    have HC6 := hid (HC.out.old hb6)
    clear hb6
    have n0 := HN6.out.cell (i := 0) rfl
    have n1 := HN6.out.cell (i := 1) rfl
    have n2 := HN6.out.cell (i := 2) rfl
    have q0 := HQ6.out.cell (i := 0) rfl
    have q1 := HQ6.out.cell (i := 1) rfl
    have q2 := HQ6.out.cell (i := 2) rfl
    go_wp2_with fail
    clear n0 n1 n2 q0 q1 q2
    have HK := zcd w6 ⟨mv, mes, mcs⟩ ae ae9 ac ac9 ce ce9 cc cc9 (by simp only; rw [<- HMe.out]; exact HE3.out.old HB6.out) (by simp only; rw [<- HMe.out]; exact HE6.out) (by simp only; rw [<- HMc.out]; exact HC3.out.old HB6.out) (by simp only; rw [<- HMc.out]; exact HC6.out)
    simp only at HK
    rw [<- HMe.out, <- HMc.out] at HK
    refine HK.mono ?_
    clear HK
    rintro e w7 ⟨rfl, hb7⟩
    have HB7 := hid (z00 HB3.out (z00 HB6.out hb7))
    clear hb7
    go_wp2
    go_ret
    exact ⟨rfl, HB7.out⟩
end Go.Proofs.YtdkkkeoicekdgaaGreatDoor.Md

end
