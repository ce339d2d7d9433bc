/- The document's Ahead, At, Like; the law's few. -/
import Derived.WalkLawsBesides
import Derived.Test.YtdkkkeoicekdgaaGreatDoorZEEr

section

namespace Go.Proofs.YtdkkkeoicekdgaaGreatDoor.Ca
set_option maxHeartbeats 3200000
set_option maxRecDepth 100000
open Go.Lib (hid)
open Go.RowKit Go.Proofs.YtdkkkeoicekdgaaGreatDoor
theorem zch {a b : BA} (h : a ≠ b) : (a.toList == b.toList) = false := by rw [beq_eq_false_iff_ne]; exact fun e => h (baExt e)
theorem zbi (a b : Ent) (w : World) : Calls Tryz.prog 131 #[enV a, enV b] w fun e w' => e = .returned (.bool (ahB a b)) /\ Below w.heap.size w w' := by
 have HB := hid (z3s w (.cells (enC a) 81) (.cells (enC b) 81));have r1 := (z02 w (enC a) 81).alloc (.cells (enC b) 81);have r2 := z02 (w.alloc (.cells (enC a) 81)) (enC b) 81;rw [World.size_alloc] at r2;have c0 := r1.c0;have c1 := r1.c1;have d0 := r2.c0;have d1 := r2.c1;have HA : Hid (ahB a b = (ltB a.loc b.loc || (decide (a.loc = b.loc) && ltB a.key b.key))) := hid rfl;clear r1 r2;obtain ⟨al, ak, ap⟩ := a;obtain ⟨bl, bk, bp⟩ := b;simp only at c0 c1 d0 d1 HA HB
 cases hl : ltB al bl with
 | true =>
  have hB : Op.bytesLess al.toList bl.toList = true := hl;have HH : Hid (ahB ⟨al, ak, ap⟩ ⟨bl, bk, bp⟩ = true) := hid (by rw [HA.out, hl]; rfl);clear hl
  go_enter Tryz.func131, Tryz.ntmps131
  go_wp2;go_ret;exact ⟨by rw [HH.out]; rfl, HB.out⟩
 | false =>
  have hB : Op.bytesLess al.toList bl.toList = false := hl
  by_cases he : al = bl
  ·subst he
   cases hk : ltB ak bk with
   | true =>
    have hK : Op.bytesLess ak.toList bk.toList = true := hk;have HH : Hid (ahB ⟨al, ak, ap⟩ ⟨al, bk, bp⟩ = true) := hid (by rw [HA.out, hl, hk]; simp);clear hl hk
    go_enter Tryz.func131, Tryz.ntmps131
    go_wp2;go_ret;exact ⟨by rw [HH.out]; rfl, HB.out⟩
   | false =>
    have hK : Op.bytesLess ak.toList bk.toList = false := hk;have HH : Hid (ahB ⟨al, ak, ap⟩ ⟨al, bk, bp⟩ = false) := hid (by rw [HA.out, hl, hk]; simp);clear hl hk
    go_enter Tryz.func131, Tryz.ntmps131
    go_wp2;go_ret;exact ⟨by rw [HH.out]; rfl, HB.out⟩
  ·have c := zch he
   have HH : Hid (ahB ⟨al, ak, ap⟩ ⟨bl, bk, bp⟩ = false) := hid (by rw [HA.out, hl, decide_eq_false he]; rfl);clear hl he
   go_enter Tryz.func131, Tryz.ntmps131
   go_wp2;go_ret;exact ⟨by rw [HH.out]; rfl, HB.out⟩
def AtP (xs : List Ent) (loc key : BA) (w : World) (e : Ending) (w' : World) : Prop := ∃ i : Int, e = .returned (.int .i64 i) /\ ((∃ (k : Nat) (y : Ent), i = k /\ xs[k]? = some y /\ y.loc = loc /\ y.key = key) ∨ (i = -1 /\ ∀ y, y ∈ xs -> ¬ (y.loc = loc /\ y.key = key))) /\ Below w.heap.size w w'
theorem at_any (w : World) (a : Option Addr) (cap : Nat) (xs : List Ent) (loc key : BA) (hX : SlE w (Old w) (.slice a xs.length cap) xs) :
  Calls Tryz.prog 132 #[.slice a xs.length cap, .string loc, .string key] w (AtP xs loc key w) := by
 have hl := hX.len;have HX := hid hX;obtain ⟨L, HL⟩ := nmd (xs.length)
 have l : L <= 9223372036854775807 := by have := HL.out; omega
 rw [<- HL.out] at HX ⊢;clear hX hl
 go_enter Tryz.func132, Tryz.ntmps132
 go_wp2
 go_loopw [11] (fun i wr => ∃ k : Nat, k <= L /\ i = .int .i64 k /\ Hid (Below w.heap.size w wr) /\ Hid (∀ (j : Nat) x, j < k -> xs[j]? = some x -> ¬ (x.loc = loc /\ x.key = key))) (fun i _ => L - (intOf i).toNat)
 case atStart => exact ⟨0, by omega, rfl, hid (Below.refl _ _), hid (fun j x h => by omega)⟩
 case round =>
  obtain ⟨k, hk, rfl, HB, HA⟩ := hrel
  by_cases hlt : k < L
  ·obtain ⟨x, hx⟩ : ∃ x, xs[k]? = some x := ⟨_, List.getElem?_eq_getElem (by have := HL.out; omega)⟩
   obtain ⟨b, m, rfl, -, x0, x1, x2⟩ := (HX.out.old HB.out).get hx;have d := hid hx
   have HN : Hid (¬ (x.loc = loc /\ x.key = key) -> ∀ (j : Nat) y, j < k + 1 -> xs[j]? = some y -> ¬ (y.loc = loc /\ y.key = key)) := hid (fun hn j y hj hy => by
    rcases Nat.lt_or_eq_of_le (Nat.le_of_lt_succ hj) with h1 | rfl
    ·exact HA.out j y h1 hy
    ·rw [d.out] at hy
     obtain rfl := Option.some.inj hy
     exact hn)
   have c := hid (z00 HB.out (z03 wr (.cells (enC x) 81)));have R := z02 wr (enC x) 81;have c0 := R.c0;have c1 := R.c1;clear R hx;obtain ⟨xl, xk, xp⟩ := x;simp only at x0 x1 x2 HN d c0 c1 c
   by_cases h1 : xl = loc
   ·subst h1
    by_cases h2 : xk = key
    ·subst h2
     go_wp2;go_ret;exact ⟨k, rfl, .inl ⟨k, _, rfl, d.out, rfl, rfl⟩, c.out⟩
    ·have g := zch h2
     have f := hid (HN.out (fun h => h2 h.2));clear h2;go_wp2;go_roundw
     case rel => exact ⟨k + 1, by omega, by go_num, c, f⟩
     case measure => simp [intOf]; omega
   ·have g := zch h1
    have f := hid (HN.out (fun h => h1 h.1));clear h1;go_wp2;go_roundw
    case rel => exact ⟨k + 1, by omega, by go_num, c, f⟩
    case measure => simp [intOf]; omega
  ·have HQ : Hid (∀ x, x ∈ xs -> ¬ (x.loc = loc /\ x.key = key)) := hid (fun x hx => by
    obtain ⟨j, hj⟩ := List.mem_iff_getElem?.1 hx
    exact HA.out j x (by have := (List.getElem?_eq_some_iff.1 hj).1; have := HL.out; omega) hj)
   go_wp2;go_ret;exact ⟨-1, rfl, .inr ⟨rfl, HQ.out⟩, HB.out⟩
theorem AtP.yes {xs : List Ent} {loc key : BA} {i : Int} (hs : Srt xs) (h : (∃ (k : Nat) (y : Ent), i = k /\ xs[k]? = some y /\ y.loc = loc /\ y.key = key) ∨ (i = -1 /\ ∀ y, y ∈ xs -> ¬ (y.loc = loc /\ y.key = key))) :
  (∃ (k : Nat) (y : Ent), i = k /\ xs[k]? = some y /\ findC xs loc key = some y) ∨ (i = -1 /\ findC xs loc key = none) := by
 rcases h with ⟨k, y, h1, h2, h3, h4⟩ | ⟨h1, h2⟩
 ·exact .inl ⟨k, y, h1, h2, zb3 hs (List.mem_of_getElem? h2) h3 h4⟩
 ·exact .inr ⟨h1, z47.2 h2⟩
theorem neq38 (w : World) (a b c : BA) : (binOp .neq 81 (.agg #[.string a, .string b, .string c]) (.agg #[.string a, .string b, .string c])).run Tryz.prog w = .ok (.bool false) w := by
 have hS : Tryz.prog.underlying 81 = some (.struct (Tryz.prog.fieldsOf 81)) := by kernel_rfl
 have hp : Tryz.prog.stoodInHeld 81 = false := by kernel_rfl
 have u9 := Tryz.underlying9;have a9 := Tryz.isAgg9;have z9 := Tryz.sizeOf9;rw [run_neq_struct, show (10000 : Nat) = 9999 + 1 from rfl, run_equalIn_agg w 9999 81 _ _ hS hp];simp only [Program.fieldsOf, Tryz.underlying81]
 go_simp
theorem guard38 : Tryz.prog.eqGuardType Tryz.prog.depth 81 = false := by kernel_rfl
theorem like_any (w : World) (a1 a2 : Option Addr) (c1 c2 : Nat) (xs : List Ent) (h1 : SlE w (Old w) (.slice a1 xs.length c1) xs) (h2 : SlE w (Old w) (.slice a2 xs.length c2) xs) :
  Calls Tryz.prog 36 #[.slice a1 xs.length c1, .slice a2 xs.length c2] w fun e w' => e = .returned (.bool true) /\ Below w.heap.size w w' := by
 have hl := h1.len;have H1 := hid h1;have H2 := hid h2;obtain ⟨L, HL⟩ := nmd (xs.length)
 have a : L <= 9223372036854775807 := by have := HL.out; omega
 rw [<- HL.out] at H1 H2 ⊢;clear h1 h2 hl
 go_enter Tryz.func36, Tryz.ntmps36
 go_wp2
 go_loopw [13] (fun i wr => ∃ k m : Nat, k <= L /\ i = .int .i64 k /\ wr = w.drewN m) (fun i _ => L - (intOf i).toNat)
 case atStart => exact ⟨0, 0, by omega, rfl, rfl⟩
 case round =>
  obtain ⟨k, m, hk, rfl, rfl⟩ := hrel
  by_cases hlt : k < L
  ·obtain ⟨x, hx⟩ : ∃ x, xs[k]? = some x := ⟨_, List.getElem?_eq_getElem (by have := HL.out; omega)⟩
   obtain ⟨b1, o1, rfl, b, i1, i2, i3⟩ := H1.out.get hx;obtain ⟨b2, o2, rfl, c, j1, j2, j3⟩ := H2.out.get hx;have d := neq38;have f := guard38;obtain ⟨kk, bb, rr⟩ := x;simp only at i1 i2 i3 j1 j2 j3;clear hx;go_wp2
   go_quiet (fail)
   go_wp2;go_roundw
   case rel => exact ⟨k + 1, _, by omega, by go_num, rfl⟩
   case measure => simp [intOf]; omega
  ·go_wp2
   go_ret;exact ⟨rfl, z0a (Below.refl _ _) m⟩

set_option maxHeartbeats 6400000
set_option maxRecDepth 100000
theorem zbm {P : Program} {ops : Array Oper} {Q : Exit -> Act -> World -> Prop} {md : Region.Mode} {S : World -> Prop} {i d fuel : Nat} {listed : Array Bool} {a : Act} {w : World}
  (hi : (ops[i]?).map (fun o => (o.dst, Region.wanted o (yielded ops a.tmps))) = some (some d, false)) (hs : Region.noSelect ops = true) (hf : Region.free md ops listed i = true) (hr : (Region.ready md ops listed).contains i = true)
  (hQ : ∀ c a w, Q (.panic c) (a.put (some d) undef) w -> Q (.panic c) a w) (hS : S w) (h : wpAnyH P md ops Q S fuel (listed.setIfInBounds i true) (a.put (some d) undef) w) : wpAnyH P md ops Q S (fuel + 1) listed a w := by
 cases ho : ops[i]? with
 | none => rw [ho] at hi; cases hi
 | some o =>
  rw [ho] at hi;simp only [Option.map_some, Option.some.injEq, Prod.mk.injEq] at hi;exact wpAnyH_take (v := undef) ho hs hf hr (by rw [hi.1]; exact hQ) (Or.inr ⟨hi.2, rfl⟩) hS (by rw [hi.1]; exact h)
theorem wS {P : Program} {ops : Array Oper} {Q : Exit -> Act -> World -> Prop} {md : Region.Mode} {S : World -> Prop} (i d : Nat) {fuel : Nat} {listed : Array Bool} {a : Act} {w : World} (h : wpAnyH P md ops Q S fuel (listed.setIfInBounds i true) (a.put (some d) undef) w)
  (hi : (ops[i]?).map (fun o => (o.dst, Region.wanted o (yielded ops a.tmps))) = some (some d, false) := by kernel_rfl) (hs : Region.noSelect ops = true := by kernel_rfl) (hf : Region.free md ops listed i = true := by kernel_rfl) (hr : (Region.ready md ops listed).contains i = true := by kernel_rfl)
  (hQ : ∀ c a w, Q (.panic c) (a.put (some d) undef) w -> Q (.panic c) a w := by exact fun _ _ _ h => h) (hS : S w := by assumption) : wpAnyH P md ops Q S (fuel + 1) listed a w := zbm hi hs hf hr hQ hS h
theorem z2p (w : World) (a : Option Addr) (cap : Nat) (xs : List Ent) (hX : SlE w (Old w) (.slice a xs.length cap) xs) (hF : ∀ x, x ∈ xs -> FitE x) (hE : EnvC w) :
  Calls Tryz.prog 86 #[.slice a xs.length cap] w fun e w' => e = .returned (.int .i64 (z0o xs)) /\ Below w.heap.size w w' := by
 by_cases hlen : 200 < xs.length
 ·have HR := hid (z73 hlen)
  have h1 : (200 : Int) < xs.length := by omega
  clear hlen hX hF hE
  generalize xs.length = L at *
  go_enter Tryz.func86, Tryz.ntmps86
  go_wp2;go_ret;exact ⟨by rw [HR.out]; rfl, Below.refl _ _⟩
 ·have h1 : ¬ (200 : Int) < xs.length := by omega
  have Y : Hid (¬ ((∀ e, e ∈ xs -> mayB e = true) /\ Srt xs) -> z0o xs = 110) := hid (z83 hlen);have aa : Hid ((∀ e, e ∈ xs -> mayB e = true) /\ Srt xs -> z0o xs = 0) := hid (zab hlen);have HX := hid hX;have HF := hid hF;have HE := hid hE;obtain ⟨L, HL⟩ := nmd (xs.length)
  have ai : L <= 200 := by have := HL.out; omega
  rw [<- HL.out] at HX h1 ⊢;clear hX hF hE hlen
  go_enter Tryz.func86, Tryz.ntmps86
  go_wp2
  go_loopw [10] (fun i wr => ∃ k : Nat, k <= L /\ i = .int .i64 k /\ Hid (Below w.heap.size w wr) /\ Hid (∀ (j : Nat) x, j < k -> xs[j]? = some x -> mayB x = true) /\ Hid (∀ (j : Nat) x y, j + 1 < k -> xs[j]? = some x -> xs[j + 1]? = some y -> ahB x y = true)) (fun i _ => L - (intOf i).toNat)
  case atStart => exact ⟨0, by omega, rfl, hid (Below.refl _ _), hid (fun j x h => by omega), hid (fun j x y h => by omega)⟩
  case round =>
   obtain ⟨k, hk, rfl, HB, HA, HO⟩ := hrel
   by_cases hlt : k < L
   ·obtain ⟨x, hx⟩ : ∃ x, xs[k]? = some x := ⟨_, List.getElem?_eq_getElem (by have := HL.out; omega)⟩
    have Z := hid (HX.out.old HB.out);obtain ⟨b, d, rfl, N, x0, x1, x2⟩ := Z.out.get hx;have r := hid hx;have F := hid (HF.out x (List.mem_of_getElem? hx));have af := hid (HE.out.below HB.out);have n := hid (z00 HB.out (z03 wr (.cells (enC x) 81)))
    have s : Hid (mayB x = true -> ∀ (j : Nat) y, j < k + 1 -> xs[j]? = some y -> mayB y = true) := hid (fun hm j y hj hy => by
     rcases Nat.lt_or_eq_of_le (Nat.le_of_lt_succ hj) with h1 | rfl
     ·exact HA.out j y h1 hy
     ·rw [r.out] at hy
      obtain rfl := Option.some.inj hy
      exact hm)
    have G : Hid (mayB x = false -> z0o xs = 110) := hid (fun hm => Y.out (fun h => by rw [h.1 x (List.mem_of_getElem? r.out)] at hm; cases hm));have R := z02 wr (enC x) 81
    have g : b < (wr.alloc (.cells (enC x) 81)).heap.size := by rw [World.size_alloc]; have : b < wr.heap.size := N; omega
    have c : wr.heap.size < (wr.alloc (.cells (enC x) 81)).heap.size := by rw [World.size_alloc]; omega
    have l := hid (af.out.below (z03 wr (.cells (enC x) 81)));have f : Hid (∀ W, Hid (Below (wr.alloc (.cells (enC x) 81)).heap.size (wr.alloc (.cells (enC x) 81)) W) -> Calls Tryz.prog 130 #[enV x] W fun e w' => e = .returned (.bool (mayB x)) /\ Below W.heap.size W w') := hid (fun W h => zci x W (l.out.below h.out) F.out);have c0 := R.c0;have c1 := R.c1;have c2 := R.c2
    cases hm : mayB x with
    | false =>
     rw [hm] at f;have H := hid (G.out hm);obtain ⟨xl, xk, xp⟩ := x;simp only at x0 x1 x2 c0 c1 c2 f n g c l;clear hm R hx G s r F;go_wp2
     generalize wr.alloc (.cells #[.string xl, .string xk, .string xp] 81) = W1 at *
     have HD : Hid (∀ W, Hid (Below W1.heap.size W1 W) -> (W.cell? ⟨wr.heap.size, 0, none⟩ = some (.string xl) /\ W.cell? ⟨wr.heap.size, 1, none⟩ = some (.string xk) /\ W.cell? ⟨wr.heap.size, 2, none⟩ = some (.string xp))) := hid (fun W h => ⟨(h.out.cell c).trans c0, (h.out.cell c).trans c1, (h.out.cell c).trans c2⟩);have t : Hid (∀ W, Hid (Below W1.heap.size W1 W) -> Calls Tryz.prog 130 #[.agg #[.string xl, .string xk, .string xp]] W fun e w' => e = .returned (.bool false) /\ (w'.cell? ⟨wr.heap.size, 0, none⟩ = some (.string xl) /\ w'.cell? ⟨wr.heap.size, 1, none⟩ = some (.string xk) /\ w'.cell? ⟨wr.heap.size, 2, none⟩ = some (.string xp)) /\ Hid (Below W1.heap.size W1 w')) := hid (fun W h => (f.out W h).mono fun e w' ⟨he, hb⟩ => ⟨he, HD.out w' (hid (z00 h.out hb)), hid (z00 h.out hb)⟩);have m : Hid (Below W1.heap.size W1 W1.drew) := hid (Below.refl _ _).drew;clear c0 c1 c2 x0 x1 x2 f l;refine wp_region_held_drew (S := fun W => W.cell? ⟨wr.heap.size, 0, none⟩ = some (.string xl) /\ W.cell? ⟨wr.heap.size, 1, none⟩ = some (.string xk) /\ W.cell? ⟨wr.heap.size, 2, none⟩ = some (.string xp)) (by kernel_rfl) (HD.out _ m) (fun hHeld => ?_);refine wT 0 { dst := some 15, op := Go.Op.load 81 (Go.Operand.tmp 4), type := 81, pos := "ref.go:41", after := #[], guard := none } (v := ?_) (Or.inl ⟨by rfl, ?_⟩) ?_
     rotate_left
     ·(intro w hSw; (try dsimp only at hSw); go_simp) <;> with_reducible rfl
     simp only [Act.put, la, lb, lc];refine wR 1 { dst := some 16, op := Go.Op.call { callee := Go.Callee.value (Go.Operand.func 130), args := #[Go.Operand.tmp 15], argTypes := #[81] }, type := 4, pos := "ref.go:41", after := #[{ on := 0, ground := Go.Ground.data }], guard := none } (fun K hK => ?_)
     go_simp
     refine (t.out _ m).mono ?_;rintro e w2 ⟨rfl, I, u⟩
     go_wp2_with fail
     refine hK.out _ _ I (fun hHeld => ?_);clear hK K
     try simp only [Act.put, la, lb, lc]
     refine wT 2 { dst := some 17, op := Go.Op.unOp Go.UnOp.not 4 (Go.Operand.tmp 16), type := 4, pos := "ref.go:41", after := #[{ on := 1, ground := Go.Ground.data }], guard := none } (v := ?_) (Or.inl ⟨by rfl, ?_⟩) ?_
     rotate_left
     ·(intro w hSw; (try dsimp only at hSw); go_simp) <;> with_reducible rfl
     simp only [Act.put, la, lb, lc];refine wT 3 { dst := some 18, op := Go.Op.move (Go.Operand.tmp 17), type := 4, pos := "ref.go:41", after := #[{ on := 2, ground := Go.Ground.data }, { on := 1, ground := Go.Ground.chain }], guard := none } (v := ?_) (Or.inl ⟨by rfl, ?_⟩) ?_
     rotate_left
     ·(intro w hSw; (try dsimp only at hSw); go_simp) <;> with_reducible rfl
     simp only [Act.put, la, lb, lc];refine wS 4 19 ?_;simp only [Act.put, la, lb, lc];refine wS 5 20 ?_;simp only [Act.put, la, lb, lc];refine wS 6 21 ?_;simp only [Act.put, la, lb, lc];refine wS 7 22 ?_;simp only [Act.put, la, lb, lc];refine wS 8 23 ?_;simp only [Act.put, la, lb, lc];refine wS 9 24 ?_;simp only [Act.put, la, lb, lc];refine wS 10 25 ?_;simp only [Act.put, la, lb, lc];refine wS 11 26 ?_;simp only [Act.put, la, lb, lc];refine wS 12 27 ?_;simp only [Act.put, la, lb, lc];refine wS 13 28 ?_;simp only [Act.put, la, lb, lc];refine wS 14 29 ?_;simp only [Act.put, la, lb, lc];refine wS 15 30 ?_;simp only [Act.put, la, lb, lc];refine wT 16 { dst := some 31, op := Go.Op.pick (Go.Operand.tmp 18) (Go.Operand.const (Go.Value.bool true)) (Go.Operand.tmp 30), type := 4, pos := "ref.go:41", after := #[{ on := 3, ground := Go.Ground.data }, { on := 15, ground := Go.Ground.data }], guard := none } (v := ?_) (Or.inl ⟨by rfl, ?_⟩) ?_
     rotate_left
     ·(intro w hSw; (try dsimp only at hSw); go_simp) <;> with_reducible rfl
     simp only [Act.put, la, lb, lc];refine wpAnyH_done (by kernel_rfl) ?_ _;go_wp2;go_ret;exact ⟨by rw [H.out]; rfl, z00 n.out u.out⟩
    | true =>
     by_cases hk0 : 0 < k
     ·obtain ⟨p, hp⟩ : ∃ p, xs[k - 1]? = some p := ⟨_, List.getElem?_eq_getElem (by have := HL.out; omega)⟩
      have J : Hid (xs[k - 1 + 1]? = some x) := hid (by rw [show k - 1 + 1 = k by omega]; exact r.out);obtain ⟨b', ah, O, -, p0, p1, p2⟩ := Z.out.get hp
      injection O with O
      injection O with hb1 u
      subst hb1 u;have HP := hid hp;obtain ⟨q, HQ⟩ := nmd (k - 1);rw [<- HQ.out] at p0 p1 p2 HP J;have q1 : IntKind.i64.wrap ((k : Int) - 1) = (k : Int) - 1 := IntWalk.i64_in _ (by omega)
      have q2 : ((k : Int) - 1).toNat = q := by have := HQ.out; omega
      have q3 : (0 : Int) <= (k : Int) - 1 := by omega
      have aj : (1 : Int) <= (k : Int) := by omega
      have q4 : (k : Int) - 1 < (L : Int) := by omega
      have B := (Below.cell (z03 wr (.cells (enC x) 81)) (p := ⟨b, _, none⟩) N).trans p0;have C := (Below.cell (z03 wr (.cells (enC x) 81)) (p := ⟨b, _, none⟩) N).trans p1;have D := (Below.cell (z03 wr (.cells (enC x) 81)) (p := ⟨b, _, none⟩) N).trans p2;have o := hid (fun W => zbi p x W)
      have E : Hid (ahB p x = true -> ∀ (j : Nat) y z, j + 1 < k + 1 -> xs[j]? = some y -> xs[j + 1]? = some z -> ahB y z = true) := hid (fun h j y z hj hy hz => by
       by_cases hjk : j + 1 < k
       ·exact HO.out j y z hjk hy hz
       ·obtain rfl : j = q := by have := HQ.out; omega
        rw [HP.out] at hy; rw [J.out] at hz
        obtain rfl := Option.some.inj hy;obtain rfl := Option.some.inj hz
        exact h)
      have T : Hid (ahB p x = false -> z0o xs = 110) := hid (fun h => Y.out (fun hs => by rw [z6x hs.2 HP.out J.out] at h; cases h))
      cases hah : ahB p x with
      | true =>
       rw [hm] at f;have A := hid (s.out hm);have M := hid (E.out hah);rw [hah] at o;obtain ⟨pl, pk, pp⟩ := p;obtain ⟨xl, xk, xp⟩ := x;simp only at x0 x1 x2 c0 c1 c2 f n g c l p0 p1 p2 B C D o;clear hm R hx G s r F hah E T HP J hp;go_wp2
       generalize wr.alloc (.cells #[.string xl, .string xk, .string xp] 81) = W1 at *
       have HD : Hid (∀ W, Hid (Below W1.heap.size W1 W) -> (W.cell? ⟨wr.heap.size, 0, none⟩ = some (.string xl) /\ W.cell? ⟨wr.heap.size, 1, none⟩ = some (.string xk) /\ W.cell? ⟨wr.heap.size, 2, none⟩ = some (.string xp) /\ W.cell? ⟨b, d + q * 3, none⟩ = some (.string pl) /\ W.cell? ⟨b, d + q * 3 + 1, none⟩ = some (.string pk) /\ W.cell? ⟨b, d + q * 3 + 2, none⟩ = some (.string pp))) := hid (fun W h => ⟨(h.out.cell c).trans c0, (h.out.cell c).trans c1, (h.out.cell c).trans c2, (h.out.cell g).trans B, (h.out.cell g).trans C, (h.out.cell g).trans D⟩);have t : Hid (∀ W, Hid (Below W1.heap.size W1 W) -> Calls Tryz.prog 130 #[.agg #[.string xl, .string xk, .string xp]] W fun e w' => e = .returned (.bool true) /\ (w'.cell? ⟨wr.heap.size, 0, none⟩ = some (.string xl) /\ w'.cell? ⟨wr.heap.size, 1, none⟩ = some (.string xk) /\ w'.cell? ⟨wr.heap.size, 2, none⟩ = some (.string xp) /\ w'.cell? ⟨b, d + q * 3, none⟩ = some (.string pl) /\ w'.cell? ⟨b, d + q * 3 + 1, none⟩ = some (.string pk) /\ w'.cell? ⟨b, d + q * 3 + 2, none⟩ = some (.string pp)) /\ Hid (Below W1.heap.size W1 w')) := hid (fun W h => (f.out W h).mono fun e w' ⟨he, hb⟩ => ⟨he, HD.out w' (hid (z00 h.out hb)), hid (z00 h.out hb)⟩);have U : Hid (∀ W, Hid (Below W1.heap.size W1 W) -> Calls Tryz.prog 131 #[.agg #[.string pl, .string pk, .string pp], .agg #[.string xl, .string xk, .string xp]] W fun e w' => e = .returned (.bool true) /\ (w'.cell? ⟨wr.heap.size, 0, none⟩ = some (.string xl) /\ w'.cell? ⟨wr.heap.size, 1, none⟩ = some (.string xk) /\ w'.cell? ⟨wr.heap.size, 2, none⟩ = some (.string xp) /\ w'.cell? ⟨b, d + q * 3, none⟩ = some (.string pl) /\ w'.cell? ⟨b, d + q * 3 + 1, none⟩ = some (.string pk) /\ w'.cell? ⟨b, d + q * 3 + 2, none⟩ = some (.string pp)) /\ Hid (Below W1.heap.size W1 w')) := hid (fun W h => (o.out W).mono fun e w' ⟨he, hb⟩ => ⟨he, HD.out w' (hid (z00 h.out hb)), hid (z00 h.out hb)⟩)
       have m : Hid (Below W1.heap.size W1 W1.drew) := hid (Below.refl _ _).drew;have dd := HD.out _ m;clear c0 c1 c2 p0 p1 p2 B C D x0 x1 x2 f o l
       go_region_held3 (fun W => W.cell? ⟨wr.heap.size, 0, none⟩ = some (.string xl) /\ W.cell? ⟨wr.heap.size, 1, none⟩ = some (.string xk) /\ W.cell? ⟨wr.heap.size, 2, none⟩ = some (.string xp) /\ W.cell? ⟨b, d + q * 3, none⟩ = some (.string pl) /\ W.cell? ⟨b, d + q * 3 + 1, none⟩ = some (.string pk) /\ W.cell? ⟨b, d + q * 3 + 2, none⟩ = some (.string pp)) (first | go_keep | assumption)
        (first | (go_at_call 130; refine (t.out _ ?_).mono ?_; assumption; rintro e w2 ⟨rfl, I, u⟩) | (go_at_call 131; refine (U.out _ ?_).mono ?_; assumption; rintro e w3 ⟨rfl, ag, V⟩) | fail)
       have X := hid (z00 n.out V.out);go_wp2;go_roundw
       case rel => exact ⟨k + 1, by omega, by go_num, X, A, M⟩
       case measure => simp [intOf]; omega
      | false =>
       rw [hm] at f;have A := hid (s.out hm);have H := hid (T.out hah);rw [hah] at o;obtain ⟨pl, pk, pp⟩ := p;obtain ⟨xl, xk, xp⟩ := x;simp only at x0 x1 x2 c0 c1 c2 f n g c l p0 p1 p2 B C D o;clear hm R hx G s r F hah E T HP J hp;go_wp2
       generalize wr.alloc (.cells #[.string xl, .string xk, .string xp] 81) = W1 at *
       have HD : Hid (∀ W, Hid (Below W1.heap.size W1 W) -> (W.cell? ⟨wr.heap.size, 0, none⟩ = some (.string xl) /\ W.cell? ⟨wr.heap.size, 1, none⟩ = some (.string xk) /\ W.cell? ⟨wr.heap.size, 2, none⟩ = some (.string xp) /\ W.cell? ⟨b, d + q * 3, none⟩ = some (.string pl) /\ W.cell? ⟨b, d + q * 3 + 1, none⟩ = some (.string pk) /\ W.cell? ⟨b, d + q * 3 + 2, none⟩ = some (.string pp))) := hid (fun W h => ⟨(h.out.cell c).trans c0, (h.out.cell c).trans c1, (h.out.cell c).trans c2, (h.out.cell g).trans B, (h.out.cell g).trans C, (h.out.cell g).trans D⟩);have t : Hid (∀ W, Hid (Below W1.heap.size W1 W) -> Calls Tryz.prog 130 #[.agg #[.string xl, .string xk, .string xp]] W fun e w' => e = .returned (.bool true) /\ (w'.cell? ⟨wr.heap.size, 0, none⟩ = some (.string xl) /\ w'.cell? ⟨wr.heap.size, 1, none⟩ = some (.string xk) /\ w'.cell? ⟨wr.heap.size, 2, none⟩ = some (.string xp) /\ w'.cell? ⟨b, d + q * 3, none⟩ = some (.string pl) /\ w'.cell? ⟨b, d + q * 3 + 1, none⟩ = some (.string pk) /\ w'.cell? ⟨b, d + q * 3 + 2, none⟩ = some (.string pp)) /\ Hid (Below W1.heap.size W1 w')) := hid (fun W h => (f.out W h).mono fun e w' ⟨he, hb⟩ => ⟨he, HD.out w' (hid (z00 h.out hb)), hid (z00 h.out hb)⟩);have U : Hid (∀ W, Hid (Below W1.heap.size W1 W) -> Calls Tryz.prog 131 #[.agg #[.string pl, .string pk, .string pp], .agg #[.string xl, .string xk, .string xp]] W fun e w' => e = .returned (.bool false) /\ (w'.cell? ⟨wr.heap.size, 0, none⟩ = some (.string xl) /\ w'.cell? ⟨wr.heap.size, 1, none⟩ = some (.string xk) /\ w'.cell? ⟨wr.heap.size, 2, none⟩ = some (.string xp) /\ w'.cell? ⟨b, d + q * 3, none⟩ = some (.string pl) /\ w'.cell? ⟨b, d + q * 3 + 1, none⟩ = some (.string pk) /\ w'.cell? ⟨b, d + q * 3 + 2, none⟩ = some (.string pp)) /\ Hid (Below W1.heap.size W1 w')) := hid (fun W h => (o.out W).mono fun e w' ⟨he, hb⟩ => ⟨he, HD.out w' (hid (z00 h.out hb)), hid (z00 h.out hb)⟩)
       have m : Hid (Below W1.heap.size W1 W1.drew) := hid (Below.refl _ _).drew;have dd := HD.out _ m;clear c0 c1 c2 p0 p1 p2 B C D x0 x1 x2 f o l
       go_region_held3 (fun W => W.cell? ⟨wr.heap.size, 0, none⟩ = some (.string xl) /\ W.cell? ⟨wr.heap.size, 1, none⟩ = some (.string xk) /\ W.cell? ⟨wr.heap.size, 2, none⟩ = some (.string xp) /\ W.cell? ⟨b, d + q * 3, none⟩ = some (.string pl) /\ W.cell? ⟨b, d + q * 3 + 1, none⟩ = some (.string pk) /\ W.cell? ⟨b, d + q * 3 + 2, none⟩ = some (.string pp)) (first | go_keep | assumption)
        (first | (go_at_call 130; refine (t.out _ ?_).mono ?_; assumption; rintro e w2 ⟨rfl, I, u⟩) | (go_at_call 131; refine (U.out _ ?_).mono ?_; assumption; rintro e w3 ⟨rfl, ag, V⟩) | fail)
       go_wp2;go_ret;exact ⟨by rw [H.out]; rfl, z00 n.out V.out⟩
     ·have aq : decide (0 < k) = false := decide_eq_false hk0
      have E : Hid (∀ (j : Nat) y z, j + 1 < k + 1 -> xs[j]? = some y -> xs[j + 1]? = some z -> ahB y z = true) := hid (fun j y z hj => by omega);rw [hm] at f;have A := hid (s.out hm);have M := hid E.out;obtain ⟨xl, xk, xp⟩ := x;simp only at x0 x1 x2 c0 c1 c2 f n g c l;clear hm R hx G s r F E;go_wp2
      generalize wr.alloc (.cells #[.string xl, .string xk, .string xp] 81) = W1 at *
      have HD : Hid (∀ W, Hid (Below W1.heap.size W1 W) -> (W.cell? ⟨wr.heap.size, 0, none⟩ = some (.string xl) /\ W.cell? ⟨wr.heap.size, 1, none⟩ = some (.string xk) /\ W.cell? ⟨wr.heap.size, 2, none⟩ = some (.string xp))) := hid (fun W h => ⟨(h.out.cell c).trans c0, (h.out.cell c).trans c1, (h.out.cell c).trans c2⟩);have t : Hid (∀ W, Hid (Below W1.heap.size W1 W) -> Calls Tryz.prog 130 #[.agg #[.string xl, .string xk, .string xp]] W fun e w' => e = .returned (.bool true) /\ (w'.cell? ⟨wr.heap.size, 0, none⟩ = some (.string xl) /\ w'.cell? ⟨wr.heap.size, 1, none⟩ = some (.string xk) /\ w'.cell? ⟨wr.heap.size, 2, none⟩ = some (.string xp)) /\ Hid (Below W1.heap.size W1 w')) := hid (fun W h => (f.out W h).mono fun e w' ⟨he, hb⟩ => ⟨he, HD.out w' (hid (z00 h.out hb)), hid (z00 h.out hb)⟩);have m : Hid (Below W1.heap.size W1 W1.drew) := hid (Below.refl _ _).drew;clear c0 c1 c2 x0 x1 x2 f l;refine wp_region_held_drew (S := fun W => W.cell? ⟨wr.heap.size, 0, none⟩ = some (.string xl) /\ W.cell? ⟨wr.heap.size, 1, none⟩ = some (.string xk) /\ W.cell? ⟨wr.heap.size, 2, none⟩ = some (.string xp)) (by kernel_rfl) (HD.out _ m) (fun hHeld => ?_);refine wT 0 { dst := some 15, op := Go.Op.load 81 (Go.Operand.tmp 4), type := 81, pos := "ref.go:41", after := #[], guard := none } (v := ?_) (Or.inl ⟨by rfl, ?_⟩) ?_
      rotate_left
      ·(intro w hSw; (try dsimp only at hSw); go_simp) <;> with_reducible rfl
      simp only [Act.put, la, lb, lc];refine wR 1 { dst := some 16, op := Go.Op.call { callee := Go.Callee.value (Go.Operand.func 130), args := #[Go.Operand.tmp 15], argTypes := #[81] }, type := 4, pos := "ref.go:41", after := #[{ on := 0, ground := Go.Ground.data }], guard := none } (fun K hK => ?_)
      go_simp
      refine (t.out _ m).mono ?_;rintro e w2 ⟨rfl, I, u⟩
      go_wp2_with fail
      refine hK.out _ _ I (fun hHeld => ?_);clear hK K
      try simp only [Act.put, la, lb, lc]
      refine wT 2 { dst := some 17, op := Go.Op.unOp Go.UnOp.not 4 (Go.Operand.tmp 16), type := 4, pos := "ref.go:41", after := #[{ on := 1, ground := Go.Ground.data }], guard := none } (v := ?_) (Or.inl ⟨by rfl, ?_⟩) ?_
      rotate_left
      ·(intro w hSw; (try dsimp only at hSw); go_simp) <;> with_reducible rfl
      simp only [Act.put, la, lb, lc];refine wT 3 { dst := some 18, op := Go.Op.move (Go.Operand.tmp 17), type := 4, pos := "ref.go:41", after := #[{ on := 2, ground := Go.Ground.data }, { on := 1, ground := Go.Ground.chain }], guard := none } (v := ?_) (Or.inl ⟨by rfl, ?_⟩) ?_
      rotate_left
      ·(intro w hSw; (try dsimp only at hSw); go_simp) <;> with_reducible rfl
      simp only [Act.put, la, lb, lc];refine wT 4 { dst := some 19, op := Go.Op.move (Go.Operand.tmp 3), type := 3, pos := "ref.go:41", after := #[{ on := 3, ground := Go.Ground.guard }], guard := some (3, false) } (v := ?_) (Or.inl ⟨by rfl, ?_⟩) ?_
      rotate_left
      ·(intro w hSw; (try dsimp only at hSw); go_simp) <;> with_reducible rfl
      simp only [Act.put, la, lb, lc];refine wT 5 { dst := some 20, op := Go.Op.binOp Go.BinOp.gtr 3 (Go.Operand.tmp 19) (Go.Operand.const (Go.Value.int Go.IntKind.i64 0)) 3, type := 4, pos := "ref.go:41", after := #[{ on := 4, ground := Go.Ground.data }, { on := 3, ground := Go.Ground.guard }], guard := some (3, false) } (v := ?_) (Or.inl ⟨by rfl, ?_⟩) ?_
      rotate_left
      ·(intro w hSw; (try dsimp only at hSw); go_simp) <;> with_reducible rfl
      simp only [Act.put, la, lb, lc];refine wT 6 { dst := some 21, op := Go.Op.move (Go.Operand.tmp 20), type := 4, pos := "ref.go:41", after := #[{ on := 5, ground := Go.Ground.data }, { on := 3, ground := Go.Ground.chain }, { on := 3, ground := Go.Ground.guard }], guard := some (3, false) } (v := ?_) (Or.inl ⟨by rfl, ?_⟩) ?_
      rotate_left
      ·(intro w hSw; (try dsimp only at hSw); go_simp) <;> with_reducible rfl
      simp only [Act.put, la, lb, lc];refine wS 7 22 ?_;simp only [Act.put, la, lb, lc];refine wS 8 23 ?_;simp only [Act.put, la, lb, lc];refine wS 9 24 ?_;simp only [Act.put, la, lb, lc];refine wS 10 25 ?_;simp only [Act.put, la, lb, lc];refine wS 11 26 ?_;simp only [Act.put, la, lb, lc];refine wS 12 27 ?_;simp only [Act.put, la, lb, lc];refine wS 13 28 ?_;simp only [Act.put, la, lb, lc];refine wS 14 29 ?_;simp only [Act.put, la, lb, lc];refine wT 15 { dst := some 30, op := Go.Op.pick (Go.Operand.tmp 21) (Go.Operand.tmp 29) (Go.Operand.const (Go.Value.bool false)), type := 4, pos := "ref.go:41", after := #[{ on := 6, ground := Go.Ground.data }, { on := 14, ground := Go.Ground.data }, { on := 3, ground := Go.Ground.guard }], guard := some (3, false) } (v := ?_) (Or.inl ⟨by rfl, ?_⟩) ?_
      rotate_left
      ·(intro w hSw; (try dsimp only at hSw); go_simp) <;> with_reducible rfl
      simp only [Act.put, la, lb, lc];refine wT 16 { dst := some 31, op := Go.Op.pick (Go.Operand.tmp 18) (Go.Operand.const (Go.Value.bool true)) (Go.Operand.tmp 30), type := 4, pos := "ref.go:41", after := #[{ on := 3, ground := Go.Ground.data }, { on := 15, ground := Go.Ground.data }], guard := none } (v := ?_) (Or.inl ⟨by rfl, ?_⟩) ?_
      rotate_left
      ·(intro w hSw; (try dsimp only at hSw); go_simp) <;> with_reducible rfl
      simp only [Act.put, la, lb, lc];refine wpAnyH_done (by kernel_rfl) ?_ _;have X := hid (z00 n.out u.out);go_wp2;go_roundw
      case rel => exact ⟨k + 1, by omega, by go_num, X, A, M⟩
      case measure => simp [intOf]; omega
   ·have HQ : Hid (z0o xs = 0) := hid (aa.out ⟨fun x hx => by
     obtain ⟨j, hj⟩ := List.mem_iff_getElem?.1 hx
     exact HA.out j x (by have := (List.getElem?_eq_some_iff.1 hj).1; have := HL.out; omega) hj, z66 (fun i a b ha hb => HO.out i a b (by have := (List.getElem?_eq_some_iff.1 hb).1; have := HL.out; omega) ha hb)⟩)
    go_wp2;go_ret;exact ⟨by rw [HQ.out]; rfl, HB.out⟩
end Go.Proofs.YtdkkkeoicekdgaaGreatDoor.Ca

end
