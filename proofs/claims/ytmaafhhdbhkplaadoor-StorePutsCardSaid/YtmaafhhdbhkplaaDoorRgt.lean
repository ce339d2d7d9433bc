/- Package store's Right. -/
import Derived.Test.YtmaafhhdbhkplaaDoorSnd
import Derived.Deep.RegionHeld3
import Derived.IntWalk
import Derived.WalkSpells
namespace Go.Proofs.YtmaafhhdbhkplaaDoor
open Go.RowKit

/-- An operation that its guard does not want, taken first. -/
theorem wpAnyH_skip {P : Program} {ops : Array Oper} {Q : Exit → Act → World → Prop} {md : Region.Mode} {S : World → Prop} {i d fuel : Nat} {listed : Array Bool} {a : Act} {w : World}
    (hi : (ops[i]?).map (fun o => (o.dst, Region.wanted o (yielded ops a.tmps))) = some (some d, false)) (hs : Region.noSelect ops = true) (hf : Region.free md ops listed i = true) (hr : (Region.ready md ops listed).contains i = true)
    (hQ : ∀ c a w, Q (.panic c) (a.put (some d) undef) w → Q (.panic c) a w) (hS : S w) (h : wpAnyH P md ops Q S fuel (listed.setIfInBounds i true) (a.put (some d) undef) w) : wpAnyH P md ops Q S (fuel + 1) listed a w := by
  cases ho : ops[i]? with
  | none => rw [ho] at hi; cases hi
  | some o =>
    rw [ho] at hi
    simp only [Option.map_some, Option.some.injEq, Prod.mk.injEq] at hi
    exact wpAnyH_take (v := undef) ho hs hf hr (by rw [hi.1]; exact hQ) (Or.inr ⟨hi.2, rfl⟩) hS (by rw [hi.1]; exact h)

/-- What a Right answers. -/
def RPost (xs : List Itm) (w : World) (e : Ending) (w' : World) : Prop := ∃ b : Bool, e = .returned (.bool b) ∧ (b = true ↔ Rgt xs) ∧ Below w.heap.size w w'
theorem RPost.yes {xs : List Itm} {w w' : World} (h : Rgt xs) (hb : Below w.heap.size w w') : RPost xs w (.returned (.bool true)) w' := ⟨true, rfl, ⟨fun _ => h, fun _ => rfl⟩, hb⟩
theorem RPost.no {xs : List Itm} {w w' : World} (h : ¬ Rgt xs) (hb : Below w.heap.size w w') : RPost xs w (.returned (.bool false)) w' := ⟨false, rfl, ⟨fun h => by (cases h), fun k => absurd k h⟩, hb⟩
/-- Texts that fit into memory. -/
def Szs (xs : List Itm) : Prop := ∀ (j : Nat) (x : Itm), xs[j]? = some x → x.k.size ≤ 140737488351232 ∧ x.b.size ≤ 140737488351232

theorem alloc_cells3 (w : World) (a b c : Value) (t : TypeId) : (w.alloc (.cells #[a, b, c] t)).cell? ⟨w.heap.size, 0, none⟩ = some a ∧ (w.alloc (.cells #[a, b, c] t)).cell? ⟨w.heap.size, 1, none⟩ = some b ∧ (w.alloc (.cells #[a, b, c] t)).cell? ⟨w.heap.size, 2, none⟩ = some c :=
  ⟨(row_new w #[a, b, c] t).cell rfl, (row_new w #[a, b, c] t).cell rfl, (row_new w #[a, b, c] t).cell rfl⟩

theorem env_of {w wr : World} {a : Option Addr} {xs : List Itm} {v : Value} (hIn : InI w a xs) (hb : Below (w.heap.size + 1) (w.alloc (.cells #[v] 24)) wr) :
    wr.cell? ⟨w.heap.size, 0, none⟩ = some v ∧ InI wr a xs ∧ w.heap.size < wr.heap.size ∧ Below w.heap.size w wr := by
  have h1 : Below (w.alloc (.cells #[v] 24)).heap.size (w.alloc (.cells #[v] 24)) wr := by simpa using hb
  refine ⟨?_, (hIn.below (below1 w _)).below h1, by have := hb.size; simp at this; omega, below_trans (below1 w _) h1⟩
  exact ((row_new w #[v] 24).below h1).cell rfl

set_option maxHeartbeats 3200000 in
set_option maxRecDepth 100000 in
theorem right_any (w : World) (a : Option Addr) (cap : Nat) (xs : List Itm) (hxl : xs.length ≤ 9223372036854775807) (hz : Szs xs) (hIn : InI w a xs) :
    Calls Tryd.prog 11 #[.agg #[.slice a xs.length cap]] w (RPost xs w) := by
  have HIN := Lib.hid hIn
  have HZ := Lib.hid hz
  clear hIn hz
  by_cases hlong : 4096 < xs.length
  · go_enter Tryd.func11, Tryd.ntmps11
    go_wp2
    go_ret
    exact RPost.no (fun h => by have := h.1; omega) (below1 _ _)
  · go_enter Tryd.func11, Tryd.ntmps11
    go_wp2
    go_loopw [12] (fun i wr => ∃ k : Nat, k ≤ xs.length ∧ i = .int .i64 k ∧ Hid (∀ j, j < k → OkAt xs j) ∧ Hid (Below (w.heap.size + 1) (w.alloc (.cells #[.slice a xs.length cap] 24)) wr)) (fun i _ => xs.length - (intOf i).toNat)
    case atStart => exact ⟨0, by omega, rfl, Lib.hid (fun j hj => by omega), Lib.hid (Below.refl _ _)⟩
    case round =>
      obtain ⟨k, hk, rfl, HA, HB⟩ := hrel
      obtain ⟨hcs, hInr, hszr, hbr⟩ := env_of HIN.out HB.out
      have HIR := Lib.hid hInr
      have HBR := Lib.hid hbr
      clear hInr hbr
      by_cases hlt : k < xs.length
      · obtain ⟨x, hx⟩ : ∃ x, xs[k]? = some x := ⟨_, List.getElem?_eq_getElem hlt⟩
        obtain ⟨b, off, rfl, hbl, h0, h1, h2⟩ := HIR.out.at_ hx
        obtain ⟨hzk, hzb⟩ := HZ.out k x hx
        have HX := Lib.hid hx
        clear hx
        by_cases hS : Snd x
        · have HC := Lib.hid (fun W => sound_yes x W hS)
          by_cases hk0 : 0 < k
          · obtain ⟨q, HQ⟩ : ∃ q, Hid (k = q + 1) := ⟨k - 1, Lib.hid (by omega)⟩
            obtain ⟨y, hy⟩ : ∃ y, xs[q]? = some y := ⟨_, List.getElem?_eq_getElem (by have := HQ.out; omega)⟩
            obtain ⟨b', off', hab, -, hp0, -⟩ := HIR.out.at_ hy
            obtain ⟨rfl, rfl⟩ : b = b' ∧ off = off' := by simpa using hab
            clear hab
            have hgt : decide (0 < k) = true := by simpa using hk0
            have hq0 : (0 : Int) ≤ (q : Int) := by omega
            have hq1 : (q : Int) < (xs.length : Int) := by have := HQ.out; omega
            have hqw : IntKind.i64.wrap ((k : Int) - 1) = (q : Int) := by rw [IntWalk.i64_in _ (by omega)]; have := HQ.out; omega
            have HY := Lib.hid hy
            clear hy
            obtain ⟨pk, pb, pr⟩ := y
            simp only at hp0
            by_cases hlow : ltB pk x.k = true
            · have HA2 : Hid (∀ j, j < k + 1 → OkAt xs j) := Lib.hid (fun j hj => by
                by_cases hjk : j < k
                · exact HA.out j hjk
                · obtain rfl : j = k := by omega
                  intro z hz
                  rw [HX.out] at hz
                  obtain rfl := Option.some.inj hz
                  refine ⟨hS, fun z2 _ hz2 => ?_⟩
                  rw [HQ.out, Nat.add_sub_cancel, HY.out] at hz2
                  obtain rfl := Option.some.inj hz2
                  exact hlow)
              have hle1 : Op.bytesLess x.k.toList pk.toList = false := by
                cases h : Op.bytesLess x.k.toList pk.toList with
                | false => rfl
                | true => have := ltB_trans hlow h; rw [ltB_irr] at this; cases this
              have hle2 : (x.k.toList == pk.toList) = false := by
                rw [beq_eq_false_iff_ne]
                intro h
                rw [BA.ext' h, ltB_irr] at hlow; cases hlow
              have HSS := Lib.hid hS
              clear hS hlow
              obtain ⟨kk, bb, rr⟩ := x
              simp only at h0 h1 h2 hzk hzb hle1 hle2
              have bc := alloc_cells3 wr (.string kk) (.string bb) (.int .i64 rr) 29
              have hcs1 := (Below.cell (below1 wr (.cells #[.string kk, .string bb, .int .i64 rr] 29)) (p := ⟨w.heap.size, 0, none⟩) hszr).trans hcs
              have hp1 := (Below.cell (below1 wr (.cells #[.string kk, .string bb, .int .i64 rr] 29)) (p := ⟨b, off + q * 3, none⟩) hbl).trans hp0
              have HW1 : Hid (Below wr.heap.size wr (wr.alloc (.cells #[.string kk, .string bb, .int .i64 rr] 29))) := Lib.hid (below1 _ _)
              have hl1 : wr.heap.size < (wr.alloc (.cells #[.string kk, .string bb, .int .i64 rr] 29)).heap.size := by simp
              have hl2 : w.heap.size < (wr.alloc (.cells #[.string kk, .string bb, .int .i64 rr] 29)).heap.size := by simp; omega
              have hl3 : b < (wr.alloc (.cells #[.string kk, .string bb, .int .i64 rr] 29)).heap.size := by simp; omega
              go_wp2
              generalize wr.alloc (.cells #[.string kk, .string bb, .int .i64 rr] 29) = W1 at *
              have HD : Hid (∀ W, Hid (Below W1.heap.size W1 W) → W.cell? ⟨wr.heap.size, 0, none⟩ = some (.string kk) ∧ W.cell? ⟨wr.heap.size, 1, none⟩ = some (.string bb) ∧ W.cell? ⟨wr.heap.size, 2, none⟩ = some (.int .i64 rr) ∧ W.cell? ⟨w.heap.size, 0, none⟩ = some (.slice (some ⟨b, off, none⟩) xs.length cap) ∧ W.cell? ⟨b, off + q * 3, none⟩ = some (.string pk)) := Lib.hid (fun W h => ⟨(h.out.cell hl1).trans bc.1, (h.out.cell hl1).trans bc.2.1, (h.out.cell hl1).trans bc.2.2, (h.out.cell hl2).trans hcs1, (h.out.cell hl3).trans hp1⟩)
              have HC1 : Hid (∀ W, Hid (Below W1.heap.size W1 W) → Calls Tryd.prog 24 #[.agg #[.string kk, .string bb, .int .i64 rr]] W fun e w' => e = .returned (.bool true) ∧ (w'.cell? ⟨wr.heap.size, 0, none⟩ = some (.string kk) ∧ w'.cell? ⟨wr.heap.size, 1, none⟩ = some (.string bb) ∧ w'.cell? ⟨wr.heap.size, 2, none⟩ = some (.int .i64 rr) ∧ w'.cell? ⟨w.heap.size, 0, none⟩ = some (.slice (some ⟨b, off, none⟩) xs.length cap) ∧ w'.cell? ⟨b, off + q * 3, none⟩ = some (.string pk)) ∧ Hid (Below W1.heap.size W1 w')) := Lib.hid (fun W h => (HC.out W).mono fun e w' ⟨he, hb⟩ => ⟨he, HD.out w' (Lib.hid (below_trans h.out hb)), Lib.hid (below_trans h.out hb)⟩)
              have hd0 : Hid (Below W1.heap.size W1 W1.drew) := Lib.hid (Below.refl _ _).drew
              obtain ⟨d0, d1, d2, d3, d4⟩ := HD.out _ hd0
              clear bc hcs1 hp1
              go_region_held3 (fun W => W.cell? ⟨wr.heap.size, 0, none⟩ = some (.string kk) ∧ W.cell? ⟨wr.heap.size, 1, none⟩ = some (.string bb) ∧ W.cell? ⟨wr.heap.size, 2, none⟩ = some (.int .i64 rr) ∧ W.cell? ⟨w.heap.size, 0, none⟩ = some (.slice (some ⟨b, off, none⟩) xs.length cap) ∧ W.cell? ⟨b, off + q * 3, none⟩ = some (.string pk)) (first | go_keep | assumption)
                (first | (go_at_call 24; refine (HC1.out _ ?_).mono ?_; assumption; rintro e w2 ⟨rfl, hq2, hb2⟩) | fail)
              have HB2 : Hid (Below (w.heap.size + 1) (w.alloc (.cells #[.slice (some ⟨b, off, none⟩) xs.length cap] 24)) w2) := Lib.hid (HB.out.trans ((below_trans HW1.out hb2.out).mono hszr))
              clear hq2 hb2 d0 d1 d2 d3 d4
              go_wp2
              go_roundw
              case rel => exact ⟨k + 1, by omega, by go_num, HA2, HB2⟩
              case measure => simp [intOf]; omega
            · have HN : Hid (¬ Rgt xs) := Lib.hid (fun h => hlow (h.lt HY.out HX.out (by have := HQ.out; omega)))
              have hle : (Op.bytesLess x.k.toList pk.toList || x.k.toList == pk.toList) = true := by
                cases h : Op.bytesLess x.k.toList pk.toList with
                | true => rfl
                | false =>
                  have h2 : ltB pk x.k = false := by simpa using hlow
                  rw [ltB_tri (a := x.k) (b := pk) h h2]; simp
              have HSS := Lib.hid hS
              clear hS hlow
              obtain ⟨kk, bb, rr⟩ := x
              simp only at h0 h1 h2 hzk hzb hle
              have bc := alloc_cells3 wr (.string kk) (.string bb) (.int .i64 rr) 29
              have hcs1 := (Below.cell (below1 wr (.cells #[.string kk, .string bb, .int .i64 rr] 29)) (p := ⟨w.heap.size, 0, none⟩) hszr).trans hcs
              have hp1 := (Below.cell (below1 wr (.cells #[.string kk, .string bb, .int .i64 rr] 29)) (p := ⟨b, off + q * 3, none⟩) hbl).trans hp0
              have HW1 : Hid (Below wr.heap.size wr (wr.alloc (.cells #[.string kk, .string bb, .int .i64 rr] 29))) := Lib.hid (below1 _ _)
              have hl1 : wr.heap.size < (wr.alloc (.cells #[.string kk, .string bb, .int .i64 rr] 29)).heap.size := by simp
              have hl2 : w.heap.size < (wr.alloc (.cells #[.string kk, .string bb, .int .i64 rr] 29)).heap.size := by simp; omega
              have hl3 : b < (wr.alloc (.cells #[.string kk, .string bb, .int .i64 rr] 29)).heap.size := by simp; omega
              go_wp2
              generalize wr.alloc (.cells #[.string kk, .string bb, .int .i64 rr] 29) = W1 at *
              have HD : Hid (∀ W, Hid (Below W1.heap.size W1 W) → W.cell? ⟨wr.heap.size, 0, none⟩ = some (.string kk) ∧ W.cell? ⟨wr.heap.size, 1, none⟩ = some (.string bb) ∧ W.cell? ⟨wr.heap.size, 2, none⟩ = some (.int .i64 rr) ∧ W.cell? ⟨w.heap.size, 0, none⟩ = some (.slice (some ⟨b, off, none⟩) xs.length cap) ∧ W.cell? ⟨b, off + q * 3, none⟩ = some (.string pk)) := Lib.hid (fun W h => ⟨(h.out.cell hl1).trans bc.1, (h.out.cell hl1).trans bc.2.1, (h.out.cell hl1).trans bc.2.2, (h.out.cell hl2).trans hcs1, (h.out.cell hl3).trans hp1⟩)
              have HC1 : Hid (∀ W, Hid (Below W1.heap.size W1 W) → Calls Tryd.prog 24 #[.agg #[.string kk, .string bb, .int .i64 rr]] W fun e w' => e = .returned (.bool true) ∧ (w'.cell? ⟨wr.heap.size, 0, none⟩ = some (.string kk) ∧ w'.cell? ⟨wr.heap.size, 1, none⟩ = some (.string bb) ∧ w'.cell? ⟨wr.heap.size, 2, none⟩ = some (.int .i64 rr) ∧ w'.cell? ⟨w.heap.size, 0, none⟩ = some (.slice (some ⟨b, off, none⟩) xs.length cap) ∧ w'.cell? ⟨b, off + q * 3, none⟩ = some (.string pk)) ∧ Hid (Below W1.heap.size W1 w')) := Lib.hid (fun W h => (HC.out W).mono fun e w' ⟨he, hb⟩ => ⟨he, HD.out w' (Lib.hid (below_trans h.out hb)), Lib.hid (below_trans h.out hb)⟩)
              have hd0 : Hid (Below W1.heap.size W1 W1.drew) := Lib.hid (Below.refl _ _).drew
              obtain ⟨d0, d1, d2, d3, d4⟩ := HD.out _ hd0
              clear bc hcs1 hp1
              go_region_held3 (fun W => W.cell? ⟨wr.heap.size, 0, none⟩ = some (.string kk) ∧ W.cell? ⟨wr.heap.size, 1, none⟩ = some (.string bb) ∧ W.cell? ⟨wr.heap.size, 2, none⟩ = some (.int .i64 rr) ∧ W.cell? ⟨w.heap.size, 0, none⟩ = some (.slice (some ⟨b, off, none⟩) xs.length cap) ∧ W.cell? ⟨b, off + q * 3, none⟩ = some (.string pk)) (first | go_keep | assumption)
                (first | (go_at_call 24; refine (HC1.out _ ?_).mono ?_; assumption; rintro e w2 ⟨rfl, hq2, hb2⟩) | fail)
              go_wp2
              go_ret
              exact RPost.no HN.out (below_trans HBR.out (below_trans HW1.out hb2.out))
          · have hgt : decide (0 < k) = false := by simpa using hk0
            have HA2 : Hid (∀ j, j < k + 1 → OkAt xs j) := Lib.hid (fun j hj => by
              obtain rfl : j = k := by omega
              intro y hy
              rw [HX.out] at hy
              obtain rfl := Option.some.inj hy
              exact ⟨hS, fun z hz => by omega⟩)
            have HSS := Lib.hid hS
            clear hS
            obtain ⟨kk, bb, rr⟩ := x
            simp only at h0 h1 h2 hzk hzb
            have bc := alloc_cells3 wr (.string kk) (.string bb) (.int .i64 rr) 29
            have HW1 : Hid (Below wr.heap.size wr (wr.alloc (.cells #[.string kk, .string bb, .int .i64 rr] 29))) := Lib.hid (below1 _ _)
            have hl1 : wr.heap.size < (wr.alloc (.cells #[.string kk, .string bb, .int .i64 rr] 29)).heap.size := by simp
            go_wp2
            generalize wr.alloc (.cells #[.string kk, .string bb, .int .i64 rr] 29) = W1 at *
            have HD : Hid (∀ W, Hid (Below W1.heap.size W1 W) → W.cell? ⟨wr.heap.size, 0, none⟩ = some (.string kk) ∧ W.cell? ⟨wr.heap.size, 1, none⟩ = some (.string bb) ∧ W.cell? ⟨wr.heap.size, 2, none⟩ = some (.int .i64 rr)) := Lib.hid (fun W h => ⟨(h.out.cell hl1).trans bc.1, (h.out.cell hl1).trans bc.2.1, (h.out.cell hl1).trans bc.2.2⟩)
            have HC1 : Hid (∀ W, Hid (Below W1.heap.size W1 W) → Calls Tryd.prog 24 #[.agg #[.string kk, .string bb, .int .i64 rr]] W fun e w' => e = .returned (.bool true) ∧ (w'.cell? ⟨wr.heap.size, 0, none⟩ = some (.string kk) ∧ w'.cell? ⟨wr.heap.size, 1, none⟩ = some (.string bb) ∧ w'.cell? ⟨wr.heap.size, 2, none⟩ = some (.int .i64 rr)) ∧ Hid (Below W1.heap.size W1 w')) := Lib.hid (fun W h => (HC.out W).mono fun e w' ⟨he, hb⟩ => ⟨he, HD.out w' (Lib.hid (below_trans h.out hb)), Lib.hid (below_trans h.out hb)⟩)
            have hd0 : Hid (Below W1.heap.size W1 W1.drew) := Lib.hid (Below.refl _ _).drew
            clear bc
            refine wp_region_held_drew (S := fun W => W.cell? ⟨wr.heap.size, 0, none⟩ = some (.string kk) ∧ W.cell? ⟨wr.heap.size, 1, none⟩ = some (.string bb) ∧ W.cell? ⟨wr.heap.size, 2, none⟩ = some (.int .i64 rr)) (by kernel_rfl) (HD.out _ hd0) (fun hHeld => ?_)
            refine wpAnyH_take (i := 0) (oi := { dst := some 17, op := Go.Op.load 29 (Go.Operand.tmp 4), type := 29, pos := "store.go:23", after := #[], guard := none }) (v := ?_) rfl (by kernel_rfl) (by kernel_rfl) (by kernel_rfl) (fun _ _ _ h => h) (Or.inl ⟨by rfl, ?_⟩) (by assumption) ?_
            rotate_left
            · (intro w hSw; (try dsimp only at hSw); go_simp) <;> with_reducible rfl
            simp only [Act.put, List.setIfInBounds_toArray, List.set_cons_zero, List.set_cons_succ]
            refine wpAnyH_ready (rs := [1]) (by kernel_rfl) (by simp) ?_
            refine AllReadyH.cons (o := { dst := some 18, op := Go.Op.call { callee := Go.Callee.value (Go.Operand.func 24), args := #[Go.Operand.tmp 17], argTypes := #[29] }, type := 4, pos := "store.go:23", after := #[{ on := 0, ground := Go.Ground.data }], guard := none }) rfl (fun K hK => ?_) AllReadyH.nil
            go_simp
            refine (HC1.out _ hd0).mono ?_
            rintro e w2 ⟨rfl, hq2, hb2⟩
            go_wp2_with fail
            refine hK.out _ _ hq2 (fun hHeld => ?_)
            clear hK K 
            try simp only [Act.put, List.setIfInBounds_toArray, List.set_cons_zero, List.set_cons_succ]
            refine wpAnyH_take (i := 2) (oi := { dst := some 19, op := Go.Op.unOp Go.UnOp.not 4 (Go.Operand.tmp 18), type := 4, pos := "store.go:23", after := #[{ on := 1, ground := Go.Ground.data }], guard := none }) (v := ?_) rfl (by kernel_rfl) (by kernel_rfl) (by kernel_rfl) (fun _ _ _ h => h) (Or.inl ⟨by rfl, ?_⟩) (by assumption) ?_
            rotate_left
            · (intro w hSw; (try dsimp only at hSw); go_simp) <;> with_reducible rfl
            simp only [Act.put, List.setIfInBounds_toArray, List.set_cons_zero, List.set_cons_succ]
            refine wpAnyH_take (i := 3) (oi := { dst := some 20, op := Go.Op.move (Go.Operand.tmp 19), type := 4, pos := "store.go:23", after := #[{ on := 2, ground := Go.Ground.data }, { on := 1, ground := Go.Ground.chain }], guard := none }) (v := ?_) rfl (by kernel_rfl) (by kernel_rfl) (by kernel_rfl) (fun _ _ _ h => h) (Or.inl ⟨by rfl, ?_⟩) (by assumption) ?_
            rotate_left
            · (intro w hSw; (try dsimp only at hSw); go_simp) <;> with_reducible rfl
            simp only [Act.put, List.setIfInBounds_toArray, List.set_cons_zero, List.set_cons_succ]
            refine wpAnyH_take (i := 4) (oi := { dst := some 21, op := Go.Op.move (Go.Operand.tmp 3), type := 3, pos := "store.go:23", after := #[{ on := 3, ground := Go.Ground.guard }], guard := some (3, false) }) (v := ?_) rfl (by kernel_rfl) (by kernel_rfl) (by kernel_rfl) (fun _ _ _ h => h) (Or.inl ⟨by rfl, ?_⟩) (by assumption) ?_
            rotate_left
            · (intro w hSw; (try dsimp only at hSw); go_simp) <;> with_reducible rfl
            simp only [Act.put, List.setIfInBounds_toArray, List.set_cons_zero, List.set_cons_succ]
            refine wpAnyH_take (i := 5) (oi := { dst := some 22, op := Go.Op.binOp Go.BinOp.gtr 3 (Go.Operand.tmp 21) (Go.Operand.const (Go.Value.int Go.IntKind.i64 0)) 3, type := 4, pos := "store.go:23", after := #[{ on := 4, ground := Go.Ground.data }, { on := 3, ground := Go.Ground.guard }], guard := some (3, false) }) (v := ?_) rfl (by kernel_rfl) (by kernel_rfl) (by kernel_rfl) (fun _ _ _ h => h) (Or.inl ⟨by rfl, ?_⟩) (by assumption) ?_
            rotate_left
            · (intro w hSw; (try dsimp only at hSw); go_simp) <;> with_reducible rfl
            simp only [Act.put, List.setIfInBounds_toArray, List.set_cons_zero, List.set_cons_succ]
            refine wpAnyH_take (i := 6) (oi := { dst := some 23, op := Go.Op.move (Go.Operand.tmp 22), type := 4, pos := "store.go:23", after := #[{ on := 5, ground := Go.Ground.data }, { on := 3, ground := Go.Ground.chain }, { on := 3, ground := Go.Ground.guard }], guard := some (3, false) }) (v := ?_) rfl (by kernel_rfl) (by kernel_rfl) (by kernel_rfl) (fun _ _ _ h => h) (Or.inl ⟨by rfl, ?_⟩) (by assumption) ?_
            rotate_left
            · (intro w hSw; (try dsimp only at hSw); go_simp) <;> with_reducible rfl
            simp only [Act.put, List.setIfInBounds_toArray, List.set_cons_zero, List.set_cons_succ]
            refine wpAnyH_skip (i := 7) (d := 24) (by kernel_rfl) (by kernel_rfl) (by kernel_rfl) (by kernel_rfl) (fun _ _ _ h => h) (by assumption) ?_
            simp only [Act.put, List.setIfInBounds_toArray, List.set_cons_zero, List.set_cons_succ]
            refine wpAnyH_skip (i := 8) (d := 25) (by kernel_rfl) (by kernel_rfl) (by kernel_rfl) (by kernel_rfl) (fun _ _ _ h => h) (by assumption) ?_
            simp only [Act.put, List.setIfInBounds_toArray, List.set_cons_zero, List.set_cons_succ]
            refine wpAnyH_skip (i := 9) (d := 26) (by kernel_rfl) (by kernel_rfl) (by kernel_rfl) (by kernel_rfl) (fun _ _ _ h => h) (by assumption) ?_
            simp only [Act.put, List.setIfInBounds_toArray, List.set_cons_zero, List.set_cons_succ]
            refine wpAnyH_skip (i := 10) (d := 27) (by kernel_rfl) (by kernel_rfl) (by kernel_rfl) (by kernel_rfl) (fun _ _ _ h => h) (by assumption) ?_
            simp only [Act.put, List.setIfInBounds_toArray, List.set_cons_zero, List.set_cons_succ]
            refine wpAnyH_skip (i := 11) (d := 28) (by kernel_rfl) (by kernel_rfl) (by kernel_rfl) (by kernel_rfl) (fun _ _ _ h => h) (by assumption) ?_
            simp only [Act.put, List.setIfInBounds_toArray, List.set_cons_zero, List.set_cons_succ]
            refine wpAnyH_skip (i := 12) (d := 29) (by kernel_rfl) (by kernel_rfl) (by kernel_rfl) (by kernel_rfl) (fun _ _ _ h => h) (by assumption) ?_
            simp only [Act.put, List.setIfInBounds_toArray, List.set_cons_zero, List.set_cons_succ]
            refine wpAnyH_skip (i := 13) (d := 30) (by kernel_rfl) (by kernel_rfl) (by kernel_rfl) (by kernel_rfl) (fun _ _ _ h => h) (by assumption) ?_
            simp only [Act.put, List.setIfInBounds_toArray, List.set_cons_zero, List.set_cons_succ]
            refine wpAnyH_skip (i := 14) (d := 31) (by kernel_rfl) (by kernel_rfl) (by kernel_rfl) (by kernel_rfl) (fun _ _ _ h => h) (by assumption) ?_
            simp only [Act.put, List.setIfInBounds_toArray, List.set_cons_zero, List.set_cons_succ]
            refine wpAnyH_skip (i := 15) (d := 32) (by kernel_rfl) (by kernel_rfl) (by kernel_rfl) (by kernel_rfl) (fun _ _ _ h => h) (by assumption) ?_
            simp only [Act.put, List.setIfInBounds_toArray, List.set_cons_zero, List.set_cons_succ]
            refine wpAnyH_skip (i := 16) (d := 33) (by kernel_rfl) (by kernel_rfl) (by kernel_rfl) (by kernel_rfl) (fun _ _ _ h => h) (by assumption) ?_
            simp only [Act.put, List.setIfInBounds_toArray, List.set_cons_zero, List.set_cons_succ]
            refine wpAnyH_take (i := 17) (oi := { dst := some 34, op := Go.Op.pick (Go.Operand.tmp 23) (Go.Operand.tmp 33) (Go.Operand.const (Go.Value.bool false)), type := 4, pos := "store.go:23", after := #[{ on := 6, ground := Go.Ground.data }, { on := 16, ground := Go.Ground.data }, { on := 3, ground := Go.Ground.guard }], guard := some (3, false) }) (v := ?_) rfl (by kernel_rfl) (by kernel_rfl) (by kernel_rfl) (fun _ _ _ h => h) (Or.inl ⟨by rfl, ?_⟩) (by assumption) ?_
            rotate_left
            · (intro w hSw; (try dsimp only at hSw); go_simp) <;> with_reducible rfl
            simp only [Act.put, List.setIfInBounds_toArray, List.set_cons_zero, List.set_cons_succ]
            refine wpAnyH_take (i := 18) (oi := { dst := some 35, op := Go.Op.pick (Go.Operand.tmp 20) (Go.Operand.const (Go.Value.bool true)) (Go.Operand.tmp 34), type := 4, pos := "store.go:23", after := #[{ on := 3, ground := Go.Ground.data }, { on := 17, ground := Go.Ground.data }], guard := none }) (v := ?_) rfl (by kernel_rfl) (by kernel_rfl) (by kernel_rfl) (fun _ _ _ h => h) (Or.inl ⟨by rfl, ?_⟩) (by assumption) ?_
            rotate_left
            · (intro w hSw; (try dsimp only at hSw); go_simp) <;> with_reducible rfl
            simp only [Act.put, List.setIfInBounds_toArray, List.set_cons_zero, List.set_cons_succ]
            refine wpAnyH_done (by kernel_rfl) ?_ _
            have HB2 : Hid (Below (w.heap.size + 1) (w.alloc (.cells #[.slice (some ⟨b, off, none⟩) xs.length cap] 24)) w2) := Lib.hid (HB.out.trans ((below_trans HW1.out hb2.out).mono hszr))
            clear hq2 hb2
            go_wp2
            go_roundw
            case rel => exact ⟨k + 1, by omega, by go_num, HA2, HB2⟩
            case measure => simp [intOf]; omega
        · have HS := Lib.hid hS
          have HC := Lib.hid (fun W => sound_no x W HS.out (by omega) (by omega))
          clear hS
          have HN : Hid (¬ Rgt xs) := Lib.hid (fun h => HS.out (h.snd HX.out))
          obtain ⟨kk, bb, rr⟩ := x
          simp only at h0 h1 h2 hzk hzb
          have bc := alloc_cells3 wr (.string kk) (.string bb) (.int .i64 rr) 29
          have HW1 : Hid (Below wr.heap.size wr (wr.alloc (.cells #[.string kk, .string bb, .int .i64 rr] 29))) := Lib.hid (below1 _ _)
          have hl1 : wr.heap.size < (wr.alloc (.cells #[.string kk, .string bb, .int .i64 rr] 29)).heap.size := by simp
          go_wp2
          generalize wr.alloc (.cells #[.string kk, .string bb, .int .i64 rr] 29) = W1 at *
          have HD : Hid (∀ W, Hid (Below W1.heap.size W1 W) → W.cell? ⟨wr.heap.size, 0, none⟩ = some (.string kk) ∧ W.cell? ⟨wr.heap.size, 1, none⟩ = some (.string bb) ∧ W.cell? ⟨wr.heap.size, 2, none⟩ = some (.int .i64 rr)) := Lib.hid (fun W h => ⟨(h.out.cell hl1).trans bc.1, (h.out.cell hl1).trans bc.2.1, (h.out.cell hl1).trans bc.2.2⟩)
          have HC1 : Hid (∀ W, Hid (Below W1.heap.size W1 W) → Calls Tryd.prog 24 #[.agg #[.string kk, .string bb, .int .i64 rr]] W fun e w' => e = .returned (.bool false) ∧ (w'.cell? ⟨wr.heap.size, 0, none⟩ = some (.string kk) ∧ w'.cell? ⟨wr.heap.size, 1, none⟩ = some (.string bb) ∧ w'.cell? ⟨wr.heap.size, 2, none⟩ = some (.int .i64 rr)) ∧ Hid (Below W1.heap.size W1 w')) := Lib.hid (fun W h => (HC.out W).mono fun e w' ⟨he, hb⟩ => ⟨he, HD.out w' (Lib.hid (below_trans h.out hb)), Lib.hid (below_trans h.out hb)⟩)
          have hd0 : Hid (Below W1.heap.size W1 W1.drew) := Lib.hid (Below.refl _ _).drew
          clear bc
          refine wp_region_held_drew (S := fun W => W.cell? ⟨wr.heap.size, 0, none⟩ = some (.string kk) ∧ W.cell? ⟨wr.heap.size, 1, none⟩ = some (.string bb) ∧ W.cell? ⟨wr.heap.size, 2, none⟩ = some (.int .i64 rr)) (by kernel_rfl) (HD.out _ hd0) (fun hHeld => ?_)
          refine wpAnyH_take (i := 0) (oi := { dst := some 17, op := Go.Op.load 29 (Go.Operand.tmp 4), type := 29, pos := "store.go:23", after := #[], guard := none }) (v := ?_) rfl (by kernel_rfl) (by kernel_rfl) (by kernel_rfl) (fun _ _ _ h => h) (Or.inl ⟨by rfl, ?_⟩) (by assumption) ?_
          rotate_left
          · (intro w hSw; (try dsimp only at hSw); go_simp) <;> with_reducible rfl
          simp only [Act.put, List.setIfInBounds_toArray, List.set_cons_zero, List.set_cons_succ]
          refine wpAnyH_ready (rs := [1]) (by kernel_rfl) (by simp) ?_
          refine AllReadyH.cons (o := { dst := some 18, op := Go.Op.call { callee := Go.Callee.value (Go.Operand.func 24), args := #[Go.Operand.tmp 17], argTypes := #[29] }, type := 4, pos := "store.go:23", after := #[{ on := 0, ground := Go.Ground.data }], guard := none }) rfl (fun K hK => ?_) AllReadyH.nil
          go_simp
          refine (HC1.out _ hd0).mono ?_
          rintro e w2 ⟨rfl, hq2, hb2⟩
          go_wp2_with fail
          refine hK.out _ _ hq2 (fun hHeld => ?_)
          clear hK K 
          try simp only [Act.put, List.setIfInBounds_toArray, List.set_cons_zero, List.set_cons_succ]
          refine wpAnyH_take (i := 2) (oi := { dst := some 19, op := Go.Op.unOp Go.UnOp.not 4 (Go.Operand.tmp 18), type := 4, pos := "store.go:23", after := #[{ on := 1, ground := Go.Ground.data }], guard := none }) (v := ?_) rfl (by kernel_rfl) (by kernel_rfl) (by kernel_rfl) (fun _ _ _ h => h) (Or.inl ⟨by rfl, ?_⟩) (by assumption) ?_
          rotate_left
          · (intro w hSw; (try dsimp only at hSw); go_simp) <;> with_reducible rfl
          simp only [Act.put, List.setIfInBounds_toArray, List.set_cons_zero, List.set_cons_succ]
          refine wpAnyH_take (i := 3) (oi := { dst := some 20, op := Go.Op.move (Go.Operand.tmp 19), type := 4, pos := "store.go:23", after := #[{ on := 2, ground := Go.Ground.data }, { on := 1, ground := Go.Ground.chain }], guard := none }) (v := ?_) rfl (by kernel_rfl) (by kernel_rfl) (by kernel_rfl) (fun _ _ _ h => h) (Or.inl ⟨by rfl, ?_⟩) (by assumption) ?_
          rotate_left
          · (intro w hSw; (try dsimp only at hSw); go_simp) <;> with_reducible rfl
          simp only [Act.put, List.setIfInBounds_toArray, List.set_cons_zero, List.set_cons_succ]
          refine wpAnyH_skip (i := 4) (d := 21) (by kernel_rfl) (by kernel_rfl) (by kernel_rfl) (by kernel_rfl) (fun _ _ _ h => h) (by assumption) ?_
          simp only [Act.put, List.setIfInBounds_toArray, List.set_cons_zero, List.set_cons_succ]
          refine wpAnyH_skip (i := 5) (d := 22) (by kernel_rfl) (by kernel_rfl) (by kernel_rfl) (by kernel_rfl) (fun _ _ _ h => h) (by assumption) ?_
          simp only [Act.put, List.setIfInBounds_toArray, List.set_cons_zero, List.set_cons_succ]
          refine wpAnyH_skip (i := 6) (d := 23) (by kernel_rfl) (by kernel_rfl) (by kernel_rfl) (by kernel_rfl) (fun _ _ _ h => h) (by assumption) ?_
          simp only [Act.put, List.setIfInBounds_toArray, List.set_cons_zero, List.set_cons_succ]
          refine wpAnyH_skip (i := 7) (d := 24) (by kernel_rfl) (by kernel_rfl) (by kernel_rfl) (by kernel_rfl) (fun _ _ _ h => h) (by assumption) ?_
          simp only [Act.put, List.setIfInBounds_toArray, List.set_cons_zero, List.set_cons_succ]
          refine wpAnyH_skip (i := 8) (d := 25) (by kernel_rfl) (by kernel_rfl) (by kernel_rfl) (by kernel_rfl) (fun _ _ _ h => h) (by assumption) ?_
          simp only [Act.put, List.setIfInBounds_toArray, List.set_cons_zero, List.set_cons_succ]
          refine wpAnyH_skip (i := 9) (d := 26) (by kernel_rfl) (by kernel_rfl) (by kernel_rfl) (by kernel_rfl) (fun _ _ _ h => h) (by assumption) ?_
          simp only [Act.put, List.setIfInBounds_toArray, List.set_cons_zero, List.set_cons_succ]
          refine wpAnyH_skip (i := 10) (d := 27) (by kernel_rfl) (by kernel_rfl) (by kernel_rfl) (by kernel_rfl) (fun _ _ _ h => h) (by assumption) ?_
          simp only [Act.put, List.setIfInBounds_toArray, List.set_cons_zero, List.set_cons_succ]
          refine wpAnyH_skip (i := 11) (d := 28) (by kernel_rfl) (by kernel_rfl) (by kernel_rfl) (by kernel_rfl) (fun _ _ _ h => h) (by assumption) ?_
          simp only [Act.put, List.setIfInBounds_toArray, List.set_cons_zero, List.set_cons_succ]
          refine wpAnyH_skip (i := 12) (d := 29) (by kernel_rfl) (by kernel_rfl) (by kernel_rfl) (by kernel_rfl) (fun _ _ _ h => h) (by assumption) ?_
          simp only [Act.put, List.setIfInBounds_toArray, List.set_cons_zero, List.set_cons_succ]
          refine wpAnyH_skip (i := 13) (d := 30) (by kernel_rfl) (by kernel_rfl) (by kernel_rfl) (by kernel_rfl) (fun _ _ _ h => h) (by assumption) ?_
          simp only [Act.put, List.setIfInBounds_toArray, List.set_cons_zero, List.set_cons_succ]
          refine wpAnyH_skip (i := 14) (d := 31) (by kernel_rfl) (by kernel_rfl) (by kernel_rfl) (by kernel_rfl) (fun _ _ _ h => h) (by assumption) ?_
          simp only [Act.put, List.setIfInBounds_toArray, List.set_cons_zero, List.set_cons_succ]
          refine wpAnyH_skip (i := 15) (d := 32) (by kernel_rfl) (by kernel_rfl) (by kernel_rfl) (by kernel_rfl) (fun _ _ _ h => h) (by assumption) ?_
          simp only [Act.put, List.setIfInBounds_toArray, List.set_cons_zero, List.set_cons_succ]
          refine wpAnyH_skip (i := 16) (d := 33) (by kernel_rfl) (by kernel_rfl) (by kernel_rfl) (by kernel_rfl) (fun _ _ _ h => h) (by assumption) ?_
          simp only [Act.put, List.setIfInBounds_toArray, List.set_cons_zero, List.set_cons_succ]
          refine wpAnyH_skip (i := 17) (d := 34) (by kernel_rfl) (by kernel_rfl) (by kernel_rfl) (by kernel_rfl) (fun _ _ _ h => h) (by assumption) ?_
          simp only [Act.put, List.setIfInBounds_toArray, List.set_cons_zero, List.set_cons_succ]
          refine wpAnyH_take (i := 18) (oi := { dst := some 35, op := Go.Op.pick (Go.Operand.tmp 20) (Go.Operand.const (Go.Value.bool true)) (Go.Operand.tmp 34), type := 4, pos := "store.go:23", after := #[{ on := 3, ground := Go.Ground.data }, { on := 17, ground := Go.Ground.data }], guard := none }) (v := ?_) rfl (by kernel_rfl) (by kernel_rfl) (by kernel_rfl) (fun _ _ _ h => h) (Or.inl ⟨by rfl, ?_⟩) (by assumption) ?_
          rotate_left
          · (intro w hSw; (try dsimp only at hSw); go_simp) <;> with_reducible rfl
          simp only [Act.put, List.setIfInBounds_toArray, List.set_cons_zero, List.set_cons_succ]
          refine wpAnyH_done (by kernel_rfl) ?_ _
          go_wp2
          go_ret
          exact RPost.no HN.out (below_trans HBR.out (below_trans HW1.out hb2.out))
      · have HR : Hid (Rgt xs) := Lib.hid ⟨by omega, fun j hj => HA.out j (by omega)⟩
        go_wp2
        go_ret
        exact RPost.yes HR.out HBR.out
end Go.Proofs.YtmaafhhdbhkplaaDoor
