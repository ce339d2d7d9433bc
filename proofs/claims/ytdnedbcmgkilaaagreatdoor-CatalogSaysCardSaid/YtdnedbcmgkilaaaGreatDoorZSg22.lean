/- The document's Ahead, At, Like; the law's few. -/
import Derived.Laws.StructEq
import Derived.Deep.QuietTactic
import Derived.BigQuiet
import Derived.WalkLawsBesides
import Derived.Deep.RegionHeld3
import Derived.Test.YtdnedbcmgkilaaaGreatDoorZSEr

section

namespace Go.Proofs.YtdnedbcmgkilaaaGreatDoor.Ca
set_option maxHeartbeats 3200000
set_option maxRecDepth 100000
open Go.Lib (hid)
open Go.RowKit Go.Proofs.YtdnedbcmgkilaaaGreatDoor
theorem zd0 {a b : BA} (h : a ≠ b) : (a.toList == b.toList) = false := by rw [beq_eq_false_iff_ne]; exact fun e => h (baExt e)
theorem zjq (a b : Ent) (w : World) : Calls Tryz.prog 34 #[enV a, enV b] w fun e w' => e = .returned (.bool (ahB a b)) /\ Below w.heap.size w w' := by
 have HB := hid (z8d w (.cells (enC a) 38) (.cells (enC b) 38))
 have r1 := (z04 w (enC a) 38).alloc (.cells (enC b) 38)
 have r2 := z04 (w.alloc (.cells (enC a) 38)) (enC b) 38
 rw [World.size_alloc] at r2
 have c0 := r1.cell (i := 0) rfl
 have c1 := r1.cell (i := 1) rfl
 have d0 := r2.cell (i := 0) rfl
 have d1 := r2.cell (i := 1) rfl
 have HA : Hid (ahB a b = (ltB a.loc b.loc || (decide (a.loc = b.loc) && ltB a.key b.key))) := hid rfl
 clear r1 r2
 obtain ⟨al, ak, ap⟩ := a
 obtain ⟨bl, bk, bp⟩ := b
 simp only at c0 c1 d0 d1 HA HB
 cases hl : ltB al bl with
 | true =>
  have hB : Op.bytesLess al.toList bl.toList = true := hl
  have HH : Hid (ahB ⟨al, ak, ap⟩ ⟨bl, bk, bp⟩ = true) := hid (by rw [HA.out, hl]; rfl)
  clear hl
  go_enter Tryz.func34, Tryz.ntmps34
  go_wp2
  go_ret
  exact ⟨by rw [HH.out]; rfl, HB.out⟩
 | false =>
  have hB : Op.bytesLess al.toList bl.toList = false := hl
  by_cases he : al = bl
  ·subst he
   cases hk : ltB ak bk with
   | true =>
    have hK : Op.bytesLess ak.toList bk.toList = true := hk
    have HH : Hid (ahB ⟨al, ak, ap⟩ ⟨al, bk, bp⟩ = true) := hid (by rw [HA.out, hl, hk]; simp)
    clear hl hk
    go_enter Tryz.func34, Tryz.ntmps34
    go_wp2
    go_ret
    exact ⟨by rw [HH.out]; rfl, HB.out⟩
   | false =>
    have hK : Op.bytesLess ak.toList bk.toList = false := hk
    have HH : Hid (ahB ⟨al, ak, ap⟩ ⟨al, bk, bp⟩ = false) := hid (by rw [HA.out, hl, hk]; simp)
    clear hl hk
    go_enter Tryz.func34, Tryz.ntmps34
    go_wp2
    go_ret
    exact ⟨by rw [HH.out]; rfl, HB.out⟩
  ·have hne := zd0 he
   have HH : Hid (ahB ⟨al, ak, ap⟩ ⟨bl, bk, bp⟩ = false) := hid (by rw [HA.out, hl, decide_eq_false he]; rfl)
   clear hl he
   go_enter Tryz.func34, Tryz.ntmps34
   go_wp2
   go_ret
   exact ⟨by rw [HH.out]; rfl, HB.out⟩
def AtP (xs : List Ent) (loc key : BA) (w : World) (e : Ending) (w' : World) : Prop := ∃ i : Int, e = .returned (.int .i64 i) /\ ((∃ (k : Nat) (y : Ent), i = k /\ xs[k]? = some y /\ y.loc = loc /\ y.key = key) ∨ (i = -1 /\ ∀ y, y ∈ xs -> ¬ (y.loc = loc /\ y.key = key))) /\ Below w.heap.size w w'
theorem at_any (w : World) (a : Option Addr) (cap : Nat) (xs : List Ent) (loc key : BA) (hX : SlE w (Old w) (.slice a xs.length cap) xs) :
  Calls Tryz.prog 24 #[.slice a xs.length cap, .string loc, .string key] w (AtP xs loc key w) := by
 have hl := hX.len
 have HX := hid hX
 obtain ⟨L, HL⟩ : ∃ L, Hid (L = xs.length) := ⟨_, hid rfl⟩
 have hL2 : L <= 9223372036854775807 := by have := HL.out; omega
 rw [<- HL.out] at HX ⊢
 clear hX hl
 go_enter Tryz.func24, Tryz.ntmps24
 go_wp2
 go_loopw [11] (fun i wr => ∃ k : Nat, k <= L /\ i = .int .i64 k /\ Hid (Below w.heap.size w wr) /\ Hid (∀ (j : Nat) x, j < k -> xs[j]? = some x -> ¬ (x.loc = loc /\ x.key = key))) (fun i _ => L - (intOf i).toNat)
 case atStart => exact ⟨0, by omega, rfl, hid (Below.refl _ _), hid (fun j x h => by omega)⟩
 case round =>
  obtain ⟨k, hk, rfl, HB, HA⟩ := hrel
  by_cases hlt : k < L
  ·obtain ⟨x, hx⟩ : ∃ x, xs[k]? = some x := ⟨_, List.getElem?_eq_getElem (by have := HL.out; omega)⟩
   obtain ⟨b, off, rfl, -, x0, x1, x2⟩ := (HX.out.old HB.out).get hx
   have HXK := hid hx
   have HN : Hid (¬ (x.loc = loc /\ x.key = key) -> ∀ (j : Nat) y, j < k + 1 -> xs[j]? = some y -> ¬ (y.loc = loc /\ y.key = key)) := hid (fun hn j y hj hy => by
    rcases Nat.lt_or_eq_of_le (Nat.le_of_lt_succ hj) with h1 | rfl
    ·exact HA.out j y h1 hy
    ·rw [HXK.out] at hy
     obtain rfl := Option.some.inj hy
     exact hn)
   have HB1 := hid (z00 HB.out (z02 wr (.cells (enC x) 38)))
   have R := z04 wr (enC x) 38
   have c0 := R.cell (i := 0) rfl
   have c1 := R.cell (i := 1) rfl
   clear R hx
   obtain ⟨xl, xk, xp⟩ := x
   simp only at x0 x1 x2 HN HXK c0 c1 HB1
   by_cases h1 : xl = loc
   ·subst h1
    by_cases h2 : xk = key
    ·subst h2
     go_wp2
     go_ret
     exact ⟨k, rfl, .inl ⟨k, _, rfl, HXK.out, rfl, rfl⟩, HB1.out⟩
    ·have hne := zd0 h2
     have HN2 := hid (HN.out (fun h => h2 h.2))
     clear h2
     go_wp2
     go_roundw
     case rel => exact ⟨k + 1, by omega, by go_num, HB1, HN2⟩
     case measure => simp [intOf]; omega
   ·have hne := zd0 h1
    have HN2 := hid (HN.out (fun h => h1 h.1))
    clear h1
    go_wp2
    go_roundw
    case rel => exact ⟨k + 1, by omega, by go_num, HB1, HN2⟩
    case measure => simp [intOf]; omega
  ·have HQ : Hid (∀ x, x ∈ xs -> ¬ (x.loc = loc /\ x.key = key)) := hid (fun x hx => by
    obtain ⟨j, hj⟩ := List.mem_iff_getElem?.1 hx
    exact HA.out j x (by have := (List.getElem?_eq_some_iff.1 hj).1; have := HL.out; omega) hj)
   go_wp2
   go_ret
   exact ⟨-1, rfl, .inr ⟨rfl, HQ.out⟩, HB.out⟩
theorem AtP.yes {xs : List Ent} {loc key : BA} {i : Int} (hs : Srt xs) (h : (∃ (k : Nat) (y : Ent), i = k /\ xs[k]? = some y /\ y.loc = loc /\ y.key = key) ∨ (i = -1 /\ ∀ y, y ∈ xs -> ¬ (y.loc = loc /\ y.key = key))) :
  (∃ (k : Nat) (y : Ent), i = k /\ xs[k]? = some y /\ findC xs loc key = some y) ∨ (i = -1 /\ findC xs loc key = none) := by
 rcases h with ⟨k, y, h1, h2, h3, h4⟩ | ⟨h1, h2⟩
 ·exact .inl ⟨k, y, h1, h2, zbk hs (List.mem_of_getElem? h2) h3 h4⟩
 ·exact .inr ⟨h1, z5g.2 h2⟩
theorem guard38 : Tryz.prog.eqGuardType Tryz.prog.depth 38 = false := by kernel_rfl
def fewF (xs : List Ent) : List Ent := if 40 < xs.length /\ xs.length < 200 then xs.take 40 else xs
theorem few_mem {xs : List Ent} {x : Ent} (h : x ∈ fewF xs) : x ∈ xs := by
 unfold fewF at h
 split at h
 ·exact List.mem_of_mem_take h
 ·exact h
theorem few_any (w : World) (a : Option Addr) (cap : Nat) (xs : List Ent) (hX : SlE w (Old w) (.slice a xs.length cap) xs) :
  Calls Tryz.prog 9 #[.slice a xs.length cap] w fun e w' => e = .returned (.slice a (fewF xs).length cap) /\ w = w' /\ SlE w (Old w) (.slice a (fewF xs).length cap) (fewF xs) := by
 have hl := hX.len
 by_cases hf : 40 < xs.length /\ xs.length < 200
 ·have HF : Hid ((fewF xs).length = 40) := hid (by unfold fewF; rw [if_pos hf, List.length_take]; omega)
  have HT : Hid (SlE w (Old w) (.slice a 40 cap) (fewF xs)) := hid (by unfold fewF; rw [if_pos hf]; exact hX.take 40 (by omega))
  obtain ⟨hf1, hf2⟩ := hf
  obtain ⟨x, hx⟩ : ∃ x, xs[0]? = some x := ⟨_, List.getElem?_eq_getElem (by omega)⟩
  obtain ⟨b, off, rfl, -⟩ := hX.get hx
  have h6 : (40 : Int) < (xs.length : Int) := by omega
  have h7 : (40 : Int) <= (cap : Int) := by omega
  have h8 : (xs.length : Int) < 200 := by omega
  clear hX hx hl
  generalize xs.length = L at *
  go_enter Tryz.func9, Tryz.ntmps9
  go_wp2
  go_ret
  exact ⟨by rw [HF.out]; rfl, rfl, by rw [HF.out]; exact HT.out⟩
 ·have HF : Hid (fewF xs = xs) := hid (by unfold fewF; rw [if_neg hf])
  have HX := hid hX
  clear hX
  by_cases h1 : 40 < xs.length
  ·have h2 : ¬ xs.length < 200 := fun h => hf ⟨h1, h⟩
   have h3 : (40 : Int) < (xs.length : Int) := by omega
   have h4 : ¬ (xs.length : Int) < 200 := by omega
   clear hf h1 h2
   obtain ⟨L, HL⟩ : ∃ L, Hid (L = xs.length) := ⟨_, hid rfl⟩
   rw [HF.out]
   rw [<- HL.out] at h3 h4 hl HX ⊢
   go_enter Tryz.func9, Tryz.ntmps9
   go_wp2
   go_ret
   exact ⟨rfl, rfl, HX.out⟩
  ·have h3 : ¬ (40 : Int) < (xs.length : Int) := by omega
   clear hf h1
   obtain ⟨L, HL⟩ : ∃ L, Hid (L = xs.length) := ⟨_, hid rfl⟩
   rw [HF.out]
   rw [<- HL.out] at h3 hl HX ⊢
   go_enter Tryz.func9, Tryz.ntmps9
   go_wp2
   go_ret
   exact ⟨rfl, rfl, HX.out⟩
end Go.Proofs.YtdnedbcmgkilaaaGreatDoor.Ca

end

section

namespace Go.Proofs.YtdnedbcmgkilaaaGreatDoor.Ca
set_option maxHeartbeats 6400000
set_option maxRecDepth 100000
open Go.Lib (hid)
open Go.RowKit Go.Proofs.YtdnedbcmgkilaaaGreatDoor
theorem z0g {P : Program} {ops : Array Oper} {Q : Exit -> Act -> World -> Prop} {md : Region.Mode} {S : World -> Prop} {i d fuel : Nat} {listed : Array Bool} {a : Act} {w : World}
  (hi : (ops[i]?).map (fun o => (o.dst, Region.wanted o (yielded ops a.tmps))) = some (some d, false)) (hs : Region.noSelect ops = true) (hf : Region.free md ops listed i = true) (hr : (Region.ready md ops listed).contains i = true)
  (hQ : ∀ c a w, Q (.panic c) (a.put (some d) undef) w -> Q (.panic c) a w) (hS : S w) (h : wpAnyH P md ops Q S fuel (listed.setIfInBounds i true) (a.put (some d) undef) w) : wpAnyH P md ops Q S (fuel + 1) listed a w := by
 cases ho : ops[i]? with
 | none => rw [ho] at hi; cases hi
 | some o =>
  rw [ho] at hi
  simp only [Option.map_some, Option.some.injEq, Prod.mk.injEq] at hi
  exact wpAnyH_take (v := undef) ho hs hf hr (by rw [hi.1]; exact hQ) (Or.inr ⟨hi.2, rfl⟩) hS (by rw [hi.1]; exact h)
theorem z49 (w : World) (a : Option Addr) (cap : Nat) (xs : List Ent) (hX : SlE w (Old w) (.slice a xs.length cap) xs) (hF : ∀ x, x ∈ xs -> FitE x) (hE : EnvC w) :
  Calls Tryz.prog 14 #[.slice a xs.length cap] w fun e w' => e = .returned (.int .i64 (z0n xs)) /\ Below w.heap.size w w' := by
 by_cases hlen : 200 < xs.length
 ·have HR := hid (z6y hlen)
  have h1 : (200 : Int) < xs.length := by omega
  clear hlen hX hF hE
  generalize xs.length = L at *
  go_enter Tryz.func14, Tryz.ntmps14
  go_wp2
  go_ret
  exact ⟨by rw [HR.out]; rfl, Below.refl _ _⟩
 ·have h1 : ¬ (200 : Int) < xs.length := by omega
  have HRB : Hid (¬ ((∀ e, e ∈ xs -> mayB e = true) /\ Srt xs) -> z0n xs = 110) := hid (z7v hlen)
  have HRO : Hid ((∀ e, e ∈ xs -> mayB e = true) /\ Srt xs -> z0n xs = 0) := hid (zat hlen)
  have HX := hid hX
  have HF := hid hF
  have HE := hid hE
  obtain ⟨L, HL⟩ : ∃ L, Hid (L = xs.length) := ⟨_, hid rfl⟩
  have hL2 : L <= 200 := by have := HL.out; omega
  rw [<- HL.out] at HX h1 ⊢
  clear hX hF hE hlen
  go_enter Tryz.func14, Tryz.ntmps14
  go_wp2
  go_loopw [10] (fun i wr => ∃ k : Nat, k <= L /\ i = .int .i64 k /\ Hid (Below w.heap.size w wr) /\ Hid (∀ (j : Nat) x, j < k -> xs[j]? = some x -> mayB x = true) /\ Hid (∀ (j : Nat) x y, j + 1 < k -> xs[j]? = some x -> xs[j + 1]? = some y -> ahB x y = true)) (fun i _ => L - (intOf i).toNat)
  case atStart => exact ⟨0, by omega, rfl, hid (Below.refl _ _), hid (fun j x h => by omega), hid (fun j x y h => by omega)⟩
  case round =>
   obtain ⟨k, hk, rfl, HB, HA, HO⟩ := hrel
   by_cases hlt : k < L
   ·obtain ⟨x, hx⟩ : ∃ x, xs[k]? = some x := ⟨_, List.getElem?_eq_getElem (by have := HL.out; omega)⟩
    have HXr := hid (HX.out.old HB.out)
    obtain ⟨b, off, rfl, hbo, x0, x1, x2⟩ := HXr.out.get hx
    have HXK := hid hx
    have HFX := hid (HF.out x (List.mem_of_getElem? hx))
    have HEr := hid (HE.out.below HB.out)
    have HBN := hid (z00 HB.out (z02 wr (.cells (enC x) 38)))
    have HAN : Hid (mayB x = true -> ∀ (j : Nat) y, j < k + 1 -> xs[j]? = some y -> mayB y = true) := hid (fun hm j y hj hy => by
     rcases Nat.lt_or_eq_of_le (Nat.le_of_lt_succ hj) with h1 | rfl
     ·exact HA.out j y h1 hy
     ·rw [HXK.out] at hy
      obtain rfl := Option.some.inj hy
      exact hm)
    have HNO : Hid (mayB x = false -> z0n xs = 110) := hid (fun hm => HRB.out (fun h => by rw [h.1 x (List.mem_of_getElem? HXK.out)] at hm; cases hm))
    have R := z04 wr (enC x) 38
    have hbo2 : b < (wr.alloc (.cells (enC x) 38)).heap.size := by rw [World.size_alloc]; have : b < wr.heap.size := hbo; omega
    have hwo2 : wr.heap.size < (wr.alloc (.cells (enC x) 38)).heap.size := by rw [World.size_alloc]; omega
    have HEn := hid (HEr.out.below (z02 wr (.cells (enC x) 38)))
    have HMC : Hid (∀ W, Hid (Below (wr.alloc (.cells (enC x) 38)).heap.size (wr.alloc (.cells (enC x) 38)) W) -> Calls Tryz.prog 33 #[enV x] W fun e w' => e = .returned (.bool (mayB x)) /\ Below W.heap.size W w') := hid (fun W h => may_any x W (HEn.out.below h.out) HFX.out)
    have c0 := R.cell (i := 0) rfl
    have c1 := R.cell (i := 1) rfl
    have c2 := R.cell (i := 2) rfl
    cases hm : mayB x with
    | false =>
     rw [hm] at HMC
     have HFIN := hid (HNO.out hm)
     obtain ⟨xl, xk, xp⟩ := x
     simp only at x0 x1 x2 c0 c1 c2 HMC HBN hbo2 hwo2 HEn
     clear hm R hx HNO HAN HXK HFX
     go_wp2
     generalize wr.alloc (.cells #[.string xl, .string xk, .string xp] 38) = W1 at *
     have HD : Hid (∀ W, Hid (Below W1.heap.size W1 W) -> (W.cell? ⟨wr.heap.size, 0, none⟩ = some (.string xl) /\ W.cell? ⟨wr.heap.size, 1, none⟩ = some (.string xk) /\ W.cell? ⟨wr.heap.size, 2, none⟩ = some (.string xp))) := hid (fun W h => ⟨(h.out.cell hwo2).trans c0, (h.out.cell hwo2).trans c1, (h.out.cell hwo2).trans c2⟩)
     have HC1 : Hid (∀ W, Hid (Below W1.heap.size W1 W) -> Calls Tryz.prog 33 #[.agg #[.string xl, .string xk, .string xp]] W fun e w' => e = .returned (.bool false) /\ (w'.cell? ⟨wr.heap.size, 0, none⟩ = some (.string xl) /\ w'.cell? ⟨wr.heap.size, 1, none⟩ = some (.string xk) /\ w'.cell? ⟨wr.heap.size, 2, none⟩ = some (.string xp)) /\ Hid (Below W1.heap.size W1 w')) := hid (fun W h => (HMC.out W h).mono fun e w' ⟨he, hb⟩ => ⟨he, HD.out w' (hid (z00 h.out hb)), hid (z00 h.out hb)⟩)
     have hd0 : Hid (Below W1.heap.size W1 W1.drew) := hid (Below.refl _ _).drew
     clear c0 c1 c2 x0 x1 x2 HMC HEn
     refine wp_region_held_drew (S := fun W => W.cell? ⟨wr.heap.size, 0, none⟩ = some (.string xl) /\ W.cell? ⟨wr.heap.size, 1, none⟩ = some (.string xk) /\ W.cell? ⟨wr.heap.size, 2, none⟩ = some (.string xp)) (by kernel_rfl) (HD.out _ hd0) (fun hHeld => ?_)
     refine wpAnyH_take (i := 0) (oi := { dst := some 15, op := Go.Op.load 38 (Go.Operand.tmp 4), type := 38, pos := "ref.go:41", after := #[], guard := none }) (v := ?_) rfl (by kernel_rfl) (by kernel_rfl) (by kernel_rfl) (fun _ _ _ h => h) (Or.inl ⟨by rfl, ?_⟩) (by assumption) ?_
     rotate_left
     ·(intro w hSw; (try dsimp only at hSw); go_simp) <;> with_reducible rfl
     simp only [Act.put, List.setIfInBounds_toArray, List.set_cons_zero, List.set_cons_succ]
     refine wpAnyH_ready (rs := [1]) (by kernel_rfl) (by simp) ?_
     refine AllReadyH.cons (o := { dst := some 16, op := Go.Op.call { callee := Go.Callee.value (Go.Operand.func 33), args := #[Go.Operand.tmp 15], argTypes := #[38] }, type := 4, pos := "ref.go:41", after := #[{ on := 0, ground := Go.Ground.data }], guard := none }) rfl (fun K hK => ?_) AllReadyH.nil
     go_simp
     refine (HC1.out _ hd0).mono ?_
     rintro e w2 ⟨rfl, hq2, hb2⟩
     go_wp2_with fail
     refine hK.out _ _ hq2 (fun hHeld => ?_)
     clear hK K 
     try simp only [Act.put, List.setIfInBounds_toArray, List.set_cons_zero, List.set_cons_succ]
     refine wpAnyH_take (i := 2) (oi := { dst := some 17, op := Go.Op.unOp Go.UnOp.not 4 (Go.Operand.tmp 16), type := 4, pos := "ref.go:41", after := #[{ on := 1, ground := Go.Ground.data }], guard := none }) (v := ?_) rfl (by kernel_rfl) (by kernel_rfl) (by kernel_rfl) (fun _ _ _ h => h) (Or.inl ⟨by rfl, ?_⟩) (by assumption) ?_
     rotate_left
     ·(intro w hSw; (try dsimp only at hSw); go_simp) <;> with_reducible rfl
     simp only [Act.put, List.setIfInBounds_toArray, List.set_cons_zero, List.set_cons_succ]
     refine wpAnyH_take (i := 3) (oi := { dst := some 18, op := Go.Op.move (Go.Operand.tmp 17), type := 4, pos := "ref.go:41", after := #[{ on := 2, ground := Go.Ground.data }, { on := 1, ground := Go.Ground.chain }], guard := none }) (v := ?_) rfl (by kernel_rfl) (by kernel_rfl) (by kernel_rfl) (fun _ _ _ h => h) (Or.inl ⟨by rfl, ?_⟩) (by assumption) ?_
     rotate_left
     ·(intro w hSw; (try dsimp only at hSw); go_simp) <;> with_reducible rfl
     simp only [Act.put, List.setIfInBounds_toArray, List.set_cons_zero, List.set_cons_succ]
     refine z0g (i := 4) (d := 19) (by kernel_rfl) (by kernel_rfl) (by kernel_rfl) (by kernel_rfl) (fun _ _ _ h => h) (by assumption) ?_
     simp only [Act.put, List.setIfInBounds_toArray, List.set_cons_zero, List.set_cons_succ]
     refine z0g (i := 5) (d := 20) (by kernel_rfl) (by kernel_rfl) (by kernel_rfl) (by kernel_rfl) (fun _ _ _ h => h) (by assumption) ?_
     simp only [Act.put, List.setIfInBounds_toArray, List.set_cons_zero, List.set_cons_succ]
     refine z0g (i := 6) (d := 21) (by kernel_rfl) (by kernel_rfl) (by kernel_rfl) (by kernel_rfl) (fun _ _ _ h => h) (by assumption) ?_
     simp only [Act.put, List.setIfInBounds_toArray, List.set_cons_zero, List.set_cons_succ]
     refine z0g (i := 7) (d := 22) (by kernel_rfl) (by kernel_rfl) (by kernel_rfl) (by kernel_rfl) (fun _ _ _ h => h) (by assumption) ?_
     simp only [Act.put, List.setIfInBounds_toArray, List.set_cons_zero, List.set_cons_succ]
     refine z0g (i := 8) (d := 23) (by kernel_rfl) (by kernel_rfl) (by kernel_rfl) (by kernel_rfl) (fun _ _ _ h => h) (by assumption) ?_
     simp only [Act.put, List.setIfInBounds_toArray, List.set_cons_zero, List.set_cons_succ]
     refine z0g (i := 9) (d := 24) (by kernel_rfl) (by kernel_rfl) (by kernel_rfl) (by kernel_rfl) (fun _ _ _ h => h) (by assumption) ?_
     simp only [Act.put, List.setIfInBounds_toArray, List.set_cons_zero, List.set_cons_succ]
     refine z0g (i := 10) (d := 25) (by kernel_rfl) (by kernel_rfl) (by kernel_rfl) (by kernel_rfl) (fun _ _ _ h => h) (by assumption) ?_
     simp only [Act.put, List.setIfInBounds_toArray, List.set_cons_zero, List.set_cons_succ]
     refine z0g (i := 11) (d := 26) (by kernel_rfl) (by kernel_rfl) (by kernel_rfl) (by kernel_rfl) (fun _ _ _ h => h) (by assumption) ?_
     simp only [Act.put, List.setIfInBounds_toArray, List.set_cons_zero, List.set_cons_succ]
     refine z0g (i := 12) (d := 27) (by kernel_rfl) (by kernel_rfl) (by kernel_rfl) (by kernel_rfl) (fun _ _ _ h => h) (by assumption) ?_
     simp only [Act.put, List.setIfInBounds_toArray, List.set_cons_zero, List.set_cons_succ]
     refine z0g (i := 13) (d := 28) (by kernel_rfl) (by kernel_rfl) (by kernel_rfl) (by kernel_rfl) (fun _ _ _ h => h) (by assumption) ?_
     simp only [Act.put, List.setIfInBounds_toArray, List.set_cons_zero, List.set_cons_succ]
     refine z0g (i := 14) (d := 29) (by kernel_rfl) (by kernel_rfl) (by kernel_rfl) (by kernel_rfl) (fun _ _ _ h => h) (by assumption) ?_
     simp only [Act.put, List.setIfInBounds_toArray, List.set_cons_zero, List.set_cons_succ]
     refine z0g (i := 15) (d := 30) (by kernel_rfl) (by kernel_rfl) (by kernel_rfl) (by kernel_rfl) (fun _ _ _ h => h) (by assumption) ?_
     simp only [Act.put, List.setIfInBounds_toArray, List.set_cons_zero, List.set_cons_succ]
     refine wpAnyH_take (i := 16) (oi := { dst := some 31, op := Go.Op.pick (Go.Operand.tmp 18) (Go.Operand.const (Go.Value.bool true)) (Go.Operand.tmp 30), type := 4, pos := "ref.go:41", after := #[{ on := 3, ground := Go.Ground.data }, { on := 15, ground := Go.Ground.data }], guard := none }) (v := ?_) rfl (by kernel_rfl) (by kernel_rfl) (by kernel_rfl) (fun _ _ _ h => h) (Or.inl ⟨by rfl, ?_⟩) (by assumption) ?_
     rotate_left
     ·(intro w hSw; (try dsimp only at hSw); go_simp) <;> with_reducible rfl
     simp only [Act.put, List.setIfInBounds_toArray, List.set_cons_zero, List.set_cons_succ]
     refine wpAnyH_done (by kernel_rfl) ?_ _
     go_wp2
     go_ret
     exact ⟨by rw [HFIN.out]; rfl, z00 HBN.out hb2.out⟩
    | true =>
     by_cases hk0 : 0 < k
     ·obtain ⟨p, hp⟩ : ∃ p, xs[k - 1]? = some p := ⟨_, List.getElem?_eq_getElem (by have := HL.out; omega)⟩
      have HPK : Hid (xs[k - 1 + 1]? = some x) := hid (by rw [show k - 1 + 1 = k by omega]; exact HXK.out)
      obtain ⟨b', off', hbb, -, p0, p1, p2⟩ := HXr.out.get hp
      injection hbb with hbb
      injection hbb with hb1 hb2
      subst hb1 hb2
      have HP := hid hp
      obtain ⟨q, HQ⟩ : ∃ q, Hid (q = k - 1) := ⟨_, hid rfl⟩
      rw [<- HQ.out] at p0 p1 p2 HP HPK
      have q1 : IntKind.i64.wrap ((k : Int) - 1) = (k : Int) - 1 := IntWalk.i64_in _ (by omega)
      have q2 : ((k : Int) - 1).toNat = q := by have := HQ.out; omega
      have q3 : (0 : Int) <= (k : Int) - 1 := by omega
      have q3b : (1 : Int) <= (k : Int) := by omega
      have q4 : (k : Int) - 1 < (L : Int) := by omega
      have p0' := (Below.cell (z02 wr (.cells (enC x) 38)) (p := ⟨b, _, none⟩) hbo).trans p0
      have p1' := (Below.cell (z02 wr (.cells (enC x) 38)) (p := ⟨b, _, none⟩) hbo).trans p1
      have p2' := (Below.cell (z02 wr (.cells (enC x) 38)) (p := ⟨b, _, none⟩) hbo).trans p2
      have HAC := hid (fun W => zjq p x W)
      have HGO : Hid (ahB p x = true -> ∀ (j : Nat) y z, j + 1 < k + 1 -> xs[j]? = some y -> xs[j + 1]? = some z -> ahB y z = true) := hid (fun h j y z hj hy hz => by
       by_cases hjk : j + 1 < k
       ·exact HO.out j y z hjk hy hz
       ·obtain rfl : j = q := by have := HQ.out; omega
        rw [HP.out] at hy; rw [HPK.out] at hz
        obtain rfl := Option.some.inj hy
        obtain rfl := Option.some.inj hz
        exact h)
      have HLO : Hid (ahB p x = false -> z0n xs = 110) := hid (fun h => HRB.out (fun hs => by rw [z6v hs.2 HP.out HPK.out] at h; cases h))
      cases hah : ahB p x with
      | true =>
       rw [hm] at HMC
       have HAN2 := hid (HAN.out hm)
       have HGO2 := hid (HGO.out hah)
       rw [hah] at HAC
       obtain ⟨pl, pk, pp⟩ := p
       obtain ⟨xl, xk, xp⟩ := x
       simp only at x0 x1 x2 c0 c1 c2 HMC HBN hbo2 hwo2 HEn p0 p1 p2 p0' p1' p2' HAC
       clear hm R hx HNO HAN HXK HFX hah HGO HLO HP HPK hp
       go_wp2
       generalize wr.alloc (.cells #[.string xl, .string xk, .string xp] 38) = W1 at *
       have HD : Hid (∀ W, Hid (Below W1.heap.size W1 W) -> (W.cell? ⟨wr.heap.size, 0, none⟩ = some (.string xl) /\ W.cell? ⟨wr.heap.size, 1, none⟩ = some (.string xk) /\ W.cell? ⟨wr.heap.size, 2, none⟩ = some (.string xp) /\ W.cell? ⟨b, off + q * 3, none⟩ = some (.string pl) /\ W.cell? ⟨b, off + q * 3 + 1, none⟩ = some (.string pk) /\ W.cell? ⟨b, off + q * 3 + 2, none⟩ = some (.string pp))) := hid (fun W h => ⟨(h.out.cell hwo2).trans c0, (h.out.cell hwo2).trans c1, (h.out.cell hwo2).trans c2, (h.out.cell hbo2).trans p0', (h.out.cell hbo2).trans p1', (h.out.cell hbo2).trans p2'⟩)
       have HC1 : Hid (∀ W, Hid (Below W1.heap.size W1 W) -> Calls Tryz.prog 33 #[.agg #[.string xl, .string xk, .string xp]] W fun e w' => e = .returned (.bool true) /\ (w'.cell? ⟨wr.heap.size, 0, none⟩ = some (.string xl) /\ w'.cell? ⟨wr.heap.size, 1, none⟩ = some (.string xk) /\ w'.cell? ⟨wr.heap.size, 2, none⟩ = some (.string xp) /\ w'.cell? ⟨b, off + q * 3, none⟩ = some (.string pl) /\ w'.cell? ⟨b, off + q * 3 + 1, none⟩ = some (.string pk) /\ w'.cell? ⟨b, off + q * 3 + 2, none⟩ = some (.string pp)) /\ Hid (Below W1.heap.size W1 w')) := hid (fun W h => (HMC.out W h).mono fun e w' ⟨he, hb⟩ => ⟨he, HD.out w' (hid (z00 h.out hb)), hid (z00 h.out hb)⟩)
       have HC2 : Hid (∀ W, Hid (Below W1.heap.size W1 W) -> Calls Tryz.prog 34 #[.agg #[.string pl, .string pk, .string pp], .agg #[.string xl, .string xk, .string xp]] W fun e w' => e = .returned (.bool true) /\ (w'.cell? ⟨wr.heap.size, 0, none⟩ = some (.string xl) /\ w'.cell? ⟨wr.heap.size, 1, none⟩ = some (.string xk) /\ w'.cell? ⟨wr.heap.size, 2, none⟩ = some (.string xp) /\ w'.cell? ⟨b, off + q * 3, none⟩ = some (.string pl) /\ w'.cell? ⟨b, off + q * 3 + 1, none⟩ = some (.string pk) /\ w'.cell? ⟨b, off + q * 3 + 2, none⟩ = some (.string pp)) /\ Hid (Below W1.heap.size W1 w')) := hid (fun W h => (HAC.out W).mono fun e w' ⟨he, hb⟩ => ⟨he, HD.out w' (hid (z00 h.out hb)), hid (z00 h.out hb)⟩)
       have hd0 : Hid (Below W1.heap.size W1 W1.drew) := hid (Below.refl _ _).drew
       have dd := HD.out _ hd0
       clear c0 c1 c2 p0 p1 p2 p0' p1' p2' x0 x1 x2 HMC HAC HEn
       go_region_held3 (fun W => W.cell? ⟨wr.heap.size, 0, none⟩ = some (.string xl) /\ W.cell? ⟨wr.heap.size, 1, none⟩ = some (.string xk) /\ W.cell? ⟨wr.heap.size, 2, none⟩ = some (.string xp) /\ W.cell? ⟨b, off + q * 3, none⟩ = some (.string pl) /\ W.cell? ⟨b, off + q * 3 + 1, none⟩ = some (.string pk) /\ W.cell? ⟨b, off + q * 3 + 2, none⟩ = some (.string pp)) (first | go_keep | assumption)
        (first | (go_at_call 33; refine (HC1.out _ ?_).mono ?_; assumption; rintro e w2 ⟨rfl, hq2, hb2⟩) | (go_at_call 34; refine (HC2.out _ ?_).mono ?_; assumption; rintro e w3 ⟨rfl, hq3, hb3⟩) | fail)
       have HB2 := hid (z00 HBN.out hb3.out)
       go_wp2
       go_roundw
       case rel => exact ⟨k + 1, by omega, by go_num, HB2, HAN2, HGO2⟩
       case measure => simp [intOf]; omega
      | false =>
       rw [hm] at HMC
       have HAN2 := hid (HAN.out hm)
       have HFIN := hid (HLO.out hah)
       rw [hah] at HAC
       obtain ⟨pl, pk, pp⟩ := p
       obtain ⟨xl, xk, xp⟩ := x
       simp only at x0 x1 x2 c0 c1 c2 HMC HBN hbo2 hwo2 HEn p0 p1 p2 p0' p1' p2' HAC
       clear hm R hx HNO HAN HXK HFX hah HGO HLO HP HPK hp
       go_wp2
       generalize wr.alloc (.cells #[.string xl, .string xk, .string xp] 38) = W1 at *
       have HD : Hid (∀ W, Hid (Below W1.heap.size W1 W) -> (W.cell? ⟨wr.heap.size, 0, none⟩ = some (.string xl) /\ W.cell? ⟨wr.heap.size, 1, none⟩ = some (.string xk) /\ W.cell? ⟨wr.heap.size, 2, none⟩ = some (.string xp) /\ W.cell? ⟨b, off + q * 3, none⟩ = some (.string pl) /\ W.cell? ⟨b, off + q * 3 + 1, none⟩ = some (.string pk) /\ W.cell? ⟨b, off + q * 3 + 2, none⟩ = some (.string pp))) := hid (fun W h => ⟨(h.out.cell hwo2).trans c0, (h.out.cell hwo2).trans c1, (h.out.cell hwo2).trans c2, (h.out.cell hbo2).trans p0', (h.out.cell hbo2).trans p1', (h.out.cell hbo2).trans p2'⟩)
       have HC1 : Hid (∀ W, Hid (Below W1.heap.size W1 W) -> Calls Tryz.prog 33 #[.agg #[.string xl, .string xk, .string xp]] W fun e w' => e = .returned (.bool true) /\ (w'.cell? ⟨wr.heap.size, 0, none⟩ = some (.string xl) /\ w'.cell? ⟨wr.heap.size, 1, none⟩ = some (.string xk) /\ w'.cell? ⟨wr.heap.size, 2, none⟩ = some (.string xp) /\ w'.cell? ⟨b, off + q * 3, none⟩ = some (.string pl) /\ w'.cell? ⟨b, off + q * 3 + 1, none⟩ = some (.string pk) /\ w'.cell? ⟨b, off + q * 3 + 2, none⟩ = some (.string pp)) /\ Hid (Below W1.heap.size W1 w')) := hid (fun W h => (HMC.out W h).mono fun e w' ⟨he, hb⟩ => ⟨he, HD.out w' (hid (z00 h.out hb)), hid (z00 h.out hb)⟩)
       have HC2 : Hid (∀ W, Hid (Below W1.heap.size W1 W) -> Calls Tryz.prog 34 #[.agg #[.string pl, .string pk, .string pp], .agg #[.string xl, .string xk, .string xp]] W fun e w' => e = .returned (.bool false) /\ (w'.cell? ⟨wr.heap.size, 0, none⟩ = some (.string xl) /\ w'.cell? ⟨wr.heap.size, 1, none⟩ = some (.string xk) /\ w'.cell? ⟨wr.heap.size, 2, none⟩ = some (.string xp) /\ w'.cell? ⟨b, off + q * 3, none⟩ = some (.string pl) /\ w'.cell? ⟨b, off + q * 3 + 1, none⟩ = some (.string pk) /\ w'.cell? ⟨b, off + q * 3 + 2, none⟩ = some (.string pp)) /\ Hid (Below W1.heap.size W1 w')) := hid (fun W h => (HAC.out W).mono fun e w' ⟨he, hb⟩ => ⟨he, HD.out w' (hid (z00 h.out hb)), hid (z00 h.out hb)⟩)
       have hd0 : Hid (Below W1.heap.size W1 W1.drew) := hid (Below.refl _ _).drew
       have dd := HD.out _ hd0
       clear c0 c1 c2 p0 p1 p2 p0' p1' p2' x0 x1 x2 HMC HAC HEn
       go_region_held3 (fun W => W.cell? ⟨wr.heap.size, 0, none⟩ = some (.string xl) /\ W.cell? ⟨wr.heap.size, 1, none⟩ = some (.string xk) /\ W.cell? ⟨wr.heap.size, 2, none⟩ = some (.string xp) /\ W.cell? ⟨b, off + q * 3, none⟩ = some (.string pl) /\ W.cell? ⟨b, off + q * 3 + 1, none⟩ = some (.string pk) /\ W.cell? ⟨b, off + q * 3 + 2, none⟩ = some (.string pp)) (first | go_keep | assumption)
        (first | (go_at_call 33; refine (HC1.out _ ?_).mono ?_; assumption; rintro e w2 ⟨rfl, hq2, hb2⟩) | (go_at_call 34; refine (HC2.out _ ?_).mono ?_; assumption; rintro e w3 ⟨rfl, hq3, hb3⟩) | fail)
       go_wp2
       go_ret
       exact ⟨by rw [HFIN.out]; rfl, z00 HBN.out hb3.out⟩
     ·have hgt : decide (0 < k) = false := decide_eq_false hk0
      have HGO : Hid (∀ (j : Nat) y z, j + 1 < k + 1 -> xs[j]? = some y -> xs[j + 1]? = some z -> ahB y z = true) := hid (fun j y z hj => by omega)
      rw [hm] at HMC
      have HAN2 := hid (HAN.out hm)
      have HGO2 := hid HGO.out
      obtain ⟨xl, xk, xp⟩ := x
      simp only at x0 x1 x2 c0 c1 c2 HMC HBN hbo2 hwo2 HEn
      clear hm R hx HNO HAN HXK HFX HGO
      go_wp2
      generalize wr.alloc (.cells #[.string xl, .string xk, .string xp] 38) = W1 at *
      have HD : Hid (∀ W, Hid (Below W1.heap.size W1 W) -> (W.cell? ⟨wr.heap.size, 0, none⟩ = some (.string xl) /\ W.cell? ⟨wr.heap.size, 1, none⟩ = some (.string xk) /\ W.cell? ⟨wr.heap.size, 2, none⟩ = some (.string xp))) := hid (fun W h => ⟨(h.out.cell hwo2).trans c0, (h.out.cell hwo2).trans c1, (h.out.cell hwo2).trans c2⟩)
      have HC1 : Hid (∀ W, Hid (Below W1.heap.size W1 W) -> Calls Tryz.prog 33 #[.agg #[.string xl, .string xk, .string xp]] W fun e w' => e = .returned (.bool true) /\ (w'.cell? ⟨wr.heap.size, 0, none⟩ = some (.string xl) /\ w'.cell? ⟨wr.heap.size, 1, none⟩ = some (.string xk) /\ w'.cell? ⟨wr.heap.size, 2, none⟩ = some (.string xp)) /\ Hid (Below W1.heap.size W1 w')) := hid (fun W h => (HMC.out W h).mono fun e w' ⟨he, hb⟩ => ⟨he, HD.out w' (hid (z00 h.out hb)), hid (z00 h.out hb)⟩)
      have hd0 : Hid (Below W1.heap.size W1 W1.drew) := hid (Below.refl _ _).drew
      clear c0 c1 c2 x0 x1 x2 HMC HEn
      refine wp_region_held_drew (S := fun W => W.cell? ⟨wr.heap.size, 0, none⟩ = some (.string xl) /\ W.cell? ⟨wr.heap.size, 1, none⟩ = some (.string xk) /\ W.cell? ⟨wr.heap.size, 2, none⟩ = some (.string xp)) (by kernel_rfl) (HD.out _ hd0) (fun hHeld => ?_)
      refine wpAnyH_take (i := 0) (oi := { dst := some 15, op := Go.Op.load 38 (Go.Operand.tmp 4), type := 38, pos := "ref.go:41", after := #[], guard := none }) (v := ?_) rfl (by kernel_rfl) (by kernel_rfl) (by kernel_rfl) (fun _ _ _ h => h) (Or.inl ⟨by rfl, ?_⟩) (by assumption) ?_
      rotate_left
      ·(intro w hSw; (try dsimp only at hSw); go_simp) <;> with_reducible rfl
      simp only [Act.put, List.setIfInBounds_toArray, List.set_cons_zero, List.set_cons_succ]
      refine wpAnyH_ready (rs := [1]) (by kernel_rfl) (by simp) ?_
      refine AllReadyH.cons (o := { dst := some 16, op := Go.Op.call { callee := Go.Callee.value (Go.Operand.func 33), args := #[Go.Operand.tmp 15], argTypes := #[38] }, type := 4, pos := "ref.go:41", after := #[{ on := 0, ground := Go.Ground.data }], guard := none }) rfl (fun K hK => ?_) AllReadyH.nil
      go_simp
      refine (HC1.out _ hd0).mono ?_
      rintro e w2 ⟨rfl, hq2, hb2⟩
      go_wp2_with fail
      refine hK.out _ _ hq2 (fun hHeld => ?_)
      clear hK K 
      try simp only [Act.put, List.setIfInBounds_toArray, List.set_cons_zero, List.set_cons_succ]
      refine wpAnyH_take (i := 2) (oi := { dst := some 17, op := Go.Op.unOp Go.UnOp.not 4 (Go.Operand.tmp 16), type := 4, pos := "ref.go:41", after := #[{ on := 1, ground := Go.Ground.data }], guard := none }) (v := ?_) rfl (by kernel_rfl) (by kernel_rfl) (by kernel_rfl) (fun _ _ _ h => h) (Or.inl ⟨by rfl, ?_⟩) (by assumption) ?_
      rotate_left
      ·(intro w hSw; (try dsimp only at hSw); go_simp) <;> with_reducible rfl
      simp only [Act.put, List.setIfInBounds_toArray, List.set_cons_zero, List.set_cons_succ]
      refine wpAnyH_take (i := 3) (oi := { dst := some 18, op := Go.Op.move (Go.Operand.tmp 17), type := 4, pos := "ref.go:41", after := #[{ on := 2, ground := Go.Ground.data }, { on := 1, ground := Go.Ground.chain }], guard := none }) (v := ?_) rfl (by kernel_rfl) (by kernel_rfl) (by kernel_rfl) (fun _ _ _ h => h) (Or.inl ⟨by rfl, ?_⟩) (by assumption) ?_
      rotate_left
      ·(intro w hSw; (try dsimp only at hSw); go_simp) <;> with_reducible rfl
      simp only [Act.put, List.setIfInBounds_toArray, List.set_cons_zero, List.set_cons_succ]
      refine wpAnyH_take (i := 4) (oi := { dst := some 19, op := Go.Op.move (Go.Operand.tmp 3), type := 3, pos := "ref.go:41", after := #[{ on := 3, ground := Go.Ground.guard }], guard := some (3, false) }) (v := ?_) rfl (by kernel_rfl) (by kernel_rfl) (by kernel_rfl) (fun _ _ _ h => h) (Or.inl ⟨by rfl, ?_⟩) (by assumption) ?_
      rotate_left
      ·(intro w hSw; (try dsimp only at hSw); go_simp) <;> with_reducible rfl
      simp only [Act.put, List.setIfInBounds_toArray, List.set_cons_zero, List.set_cons_succ]
      refine wpAnyH_take (i := 5) (oi := { dst := some 20, op := Go.Op.binOp Go.BinOp.gtr 3 (Go.Operand.tmp 19) (Go.Operand.const (Go.Value.int Go.IntKind.i64 0)) 3, type := 4, pos := "ref.go:41", after := #[{ on := 4, ground := Go.Ground.data }, { on := 3, ground := Go.Ground.guard }], guard := some (3, false) }) (v := ?_) rfl (by kernel_rfl) (by kernel_rfl) (by kernel_rfl) (fun _ _ _ h => h) (Or.inl ⟨by rfl, ?_⟩) (by assumption) ?_
      rotate_left
      ·(intro w hSw; (try dsimp only at hSw); go_simp) <;> with_reducible rfl
      simp only [Act.put, List.setIfInBounds_toArray, List.set_cons_zero, List.set_cons_succ]
      refine wpAnyH_take (i := 6) (oi := { dst := some 21, op := Go.Op.move (Go.Operand.tmp 20), type := 4, pos := "ref.go:41", after := #[{ on := 5, ground := Go.Ground.data }, { on := 3, ground := Go.Ground.chain }, { on := 3, ground := Go.Ground.guard }], guard := some (3, false) }) (v := ?_) rfl (by kernel_rfl) (by kernel_rfl) (by kernel_rfl) (fun _ _ _ h => h) (Or.inl ⟨by rfl, ?_⟩) (by assumption) ?_
      rotate_left
      ·(intro w hSw; (try dsimp only at hSw); go_simp) <;> with_reducible rfl
      simp only [Act.put, List.setIfInBounds_toArray, List.set_cons_zero, List.set_cons_succ]
      refine z0g (i := 7) (d := 22) (by kernel_rfl) (by kernel_rfl) (by kernel_rfl) (by kernel_rfl) (fun _ _ _ h => h) (by assumption) ?_
      simp only [Act.put, List.setIfInBounds_toArray, List.set_cons_zero, List.set_cons_succ]
      refine z0g (i := 8) (d := 23) (by kernel_rfl) (by kernel_rfl) (by kernel_rfl) (by kernel_rfl) (fun _ _ _ h => h) (by assumption) ?_
      simp only [Act.put, List.setIfInBounds_toArray, List.set_cons_zero, List.set_cons_succ]
      refine z0g (i := 9) (d := 24) (by kernel_rfl) (by kernel_rfl) (by kernel_rfl) (by kernel_rfl) (fun _ _ _ h => h) (by assumption) ?_
      simp only [Act.put, List.setIfInBounds_toArray, List.set_cons_zero, List.set_cons_succ]
      refine z0g (i := 10) (d := 25) (by kernel_rfl) (by kernel_rfl) (by kernel_rfl) (by kernel_rfl) (fun _ _ _ h => h) (by assumption) ?_
      simp only [Act.put, List.setIfInBounds_toArray, List.set_cons_zero, List.set_cons_succ]
      refine z0g (i := 11) (d := 26) (by kernel_rfl) (by kernel_rfl) (by kernel_rfl) (by kernel_rfl) (fun _ _ _ h => h) (by assumption) ?_
      simp only [Act.put, List.setIfInBounds_toArray, List.set_cons_zero, List.set_cons_succ]
      refine z0g (i := 12) (d := 27) (by kernel_rfl) (by kernel_rfl) (by kernel_rfl) (by kernel_rfl) (fun _ _ _ h => h) (by assumption) ?_
      simp only [Act.put, List.setIfInBounds_toArray, List.set_cons_zero, List.set_cons_succ]
      refine z0g (i := 13) (d := 28) (by kernel_rfl) (by kernel_rfl) (by kernel_rfl) (by kernel_rfl) (fun _ _ _ h => h) (by assumption) ?_
      simp only [Act.put, List.setIfInBounds_toArray, List.set_cons_zero, List.set_cons_succ]
      refine z0g (i := 14) (d := 29) (by kernel_rfl) (by kernel_rfl) (by kernel_rfl) (by kernel_rfl) (fun _ _ _ h => h) (by assumption) ?_
      simp only [Act.put, List.setIfInBounds_toArray, List.set_cons_zero, List.set_cons_succ]
      refine wpAnyH_take (i := 15) (oi := { dst := some 30, op := Go.Op.pick (Go.Operand.tmp 21) (Go.Operand.tmp 29) (Go.Operand.const (Go.Value.bool false)), type := 4, pos := "ref.go:41", after := #[{ on := 6, ground := Go.Ground.data }, { on := 14, ground := Go.Ground.data }, { on := 3, ground := Go.Ground.guard }], guard := some (3, false) }) (v := ?_) rfl (by kernel_rfl) (by kernel_rfl) (by kernel_rfl) (fun _ _ _ h => h) (Or.inl ⟨by rfl, ?_⟩) (by assumption) ?_
      rotate_left
      ·(intro w hSw; (try dsimp only at hSw); go_simp) <;> with_reducible rfl
      simp only [Act.put, List.setIfInBounds_toArray, List.set_cons_zero, List.set_cons_succ]
      refine wpAnyH_take (i := 16) (oi := { dst := some 31, op := Go.Op.pick (Go.Operand.tmp 18) (Go.Operand.const (Go.Value.bool true)) (Go.Operand.tmp 30), type := 4, pos := "ref.go:41", after := #[{ on := 3, ground := Go.Ground.data }, { on := 15, ground := Go.Ground.data }], guard := none }) (v := ?_) rfl (by kernel_rfl) (by kernel_rfl) (by kernel_rfl) (fun _ _ _ h => h) (Or.inl ⟨by rfl, ?_⟩) (by assumption) ?_
      rotate_left
      ·(intro w hSw; (try dsimp only at hSw); go_simp) <;> with_reducible rfl
      simp only [Act.put, List.setIfInBounds_toArray, List.set_cons_zero, List.set_cons_succ]
      refine wpAnyH_done (by kernel_rfl) ?_ _
      have HB2 := hid (z00 HBN.out hb2.out)
      go_wp2
      go_roundw
      case rel => exact ⟨k + 1, by omega, by go_num, HB2, HAN2, HGO2⟩
      case measure => simp [intOf]; omega
   ·have HQ : Hid (z0n xs = 0) := hid (HRO.out ⟨fun x hx => by
     obtain ⟨j, hj⟩ := List.mem_iff_getElem?.1 hx
     exact HA.out j x (by have := (List.getElem?_eq_some_iff.1 hj).1; have := HL.out; omega) hj, z62 (fun i a b ha hb => HO.out i a b (by have := (List.getElem?_eq_some_iff.1 hb).1; have := HL.out; omega) ha hb)⟩)
    go_wp2
    go_ret
    exact ⟨by rw [HQ.out]; rfl, HB.out⟩
end Go.Proofs.YtdnedbcmgkilaaaGreatDoor.Ca

end
