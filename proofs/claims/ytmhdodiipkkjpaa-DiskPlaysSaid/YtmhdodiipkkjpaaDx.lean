/- Package disk: with; the document's With. -/
import Derived.Test.YtmhdodiipkkjpaaDw
namespace Go.Proofs.Ytmhdodiipkkjpaa.Dk
open Go.RowKit

theorem owns_low {w : World} {B B' : Nat} {e : TypeId} {k n : Nat} {v : Value} {xs : List Value} (h : w.ownsRow B e k v n xs) (hB : B' ≤ B) : w.ownsRow B' e k v n xs := by
  refine ⟨h.1, ?_⟩
  rcases h.2 with h0 | ⟨g, cap, cur, hv, hb, hr⟩
  · exact .inl h0
  · exact .inr ⟨g, cap, cur, hv, Nat.le_trans hB hb, hr⟩

set_option maxHeartbeats 6400000 in
set_option maxRecDepth 100000 in
theorem with_any (w : World) (a : Option Addr) (cap : Nat) (fs : List Fil) (x : Fil) (hX : SlF w (Old w) (.slice a fs.length cap) fs) (hl : fs.length ≤ 900) :
    Calls Try.prog 36 #[.slice a fs.length cap, fiV x] w (OwnPost (withF fs x) w) := by
  have HWO := Lib.hid (without_any ((w.alloc (.cells (fiC x) 44)).alloc (.cells #[.string x.nm] 9)) a cap fs x.nm (some ⟨(w.alloc (.cells (fiC x) 44)).heap.size, 0, none⟩) 1 (hX.old (below2 _ _ _)) (by omega) (SlS.one _ x.nm 9))
  rw [World.size_alloc] at HWO
  have HB2 := Lib.hid (below2 w (.cells (fiC x) 44) (.cells #[.string x.nm] 9))
  have R := row_new w (fiC x) 44
  have HR2 : Hid (Row ((w.alloc (.cells (fiC x) 44)).alloc (.cells #[.string x.nm] 9)) w.heap.size 44 [.string x.nm, .string x.sy, .string x.tl]) := Lib.hid (R.alloc _)
  have d0 := R.cell (i := 0) rfl
  have hlen : (outF fs x.nm).length ≤ 900 := by have := len_out fs x.nm; omega
  obtain ⟨L, HL⟩ : ∃ L, Hid (L = fs.length) := ⟨_, Lib.hid rfl⟩
  rw [← HL.out] at HWO ⊢
  have HWF : Hid (withF fs x = insN x (outF fs x.nm)) := Lib.hid rfl
  clear hX hl R
  generalize outF fs x.nm = A at *
  obtain ⟨xn, xs, xt⟩ := x
  simp only at d0 HR2 HWO
  go_enter Try.func36, Try.ntmps36
  go_wp2_with fail
  generalize hW2 : (w.alloc (.cells (fiC ⟨xn, xs, xt⟩) 44)).alloc (.cells #[.string xn] 9) = W2 at *
  clear hW2 d0
  refine HWO.out.mono ?_
  rintro e w3 ⟨v, rfl, hown, hb⟩
  obtain ⟨aA, cA, rfl, hcA, hcA2, -⟩ := owns_form hown
  have HO := Lib.hid hown
  have HB3 := Lib.hid hb
  have HRB := Lib.hid (HR2.out.below hb)
  obtain ⟨M, HM⟩ : ∃ M, Hid (M = A.length) := ⟨_, Lib.hid rfl⟩
  rw [← HM.out] at HO hlen hcA ⊢
  clear hown hb HWO
  go_wp2
  go_loopw [6] (fun i wr => ∃ k : Nat, k ≤ M ∧ i = .int .i64 k ∧ Hid (∀ (j : Nat) y, j < k → A[j]? = some y → ltB y.nm xn = true) ∧ Hid (Below w3.heap.size w3 wr)) (fun i _ => M - (intOf i).toNat)
  case atStart => exact ⟨0, Nat.zero_le _, rfl, Lib.hid (fun j y h => by omega), Lib.hid (Below.refl _ _)⟩
  case round =>
    obtain ⟨k, hk, rfl, HA, HB⟩ := hrel
    have HRr := Lib.hid (HRB.out.below HB.out)
    have HOr := Lib.hid (ownsRow_below HO.out HB.out)
    by_cases hlt : k < M
    · obtain ⟨y, hy⟩ : ∃ y, A[k]? = some y := ⟨_, List.getElem?_eq_getElem (by have := HM.out; omega)⟩
      have hsl := Own.sl (xs := A) (by have := HOr.out; rw [HM.out] at this; exact this)
      obtain ⟨b, off, rfl, hbo, y0, -, -⟩ := hsl.get hy
      have HYY := Lib.hid hy
      obtain ⟨yn, ys, yt⟩ := y
      simp only at y0
      have q1 : decide (k < M) = true := decide_eq_true hlt
      have q2 : (k : Int) < (M : Int) := by omega
      clear hy hsl
      obtain ⟨l, Hl⟩ : ∃ l, Hid (l = ltB yn xn) := ⟨_, Lib.hid rfl⟩
      cases l with
      | true =>
        have hl1 : Op.bytesLess yn.toList xn.toList = true := Hl.out.symm
        have HA2 : Hid (∀ (j : Nat) y, j < k + 1 → A[j]? = some y → ltB y.nm xn = true) := Lib.hid (fun j y hj hy => by
          rcases Nat.lt_or_eq_of_le (Nat.le_of_lt_succ hj) with h1 | rfl
          · exact HA.out j y h1 hy
          · rw [HYY.out] at hy; obtain rfl := Option.some.inj hy; exact Hl.out.symm)
        have HDR := Lib.hid (Below.refl wr.heap.size wr).drew
        have HB5 := Lib.hid (below_trans HB.out HDR.out)
        have hs0 : (fun W : World => W.cell? ⟨w.heap.size, 0, none⟩ = some (.string xn) ∧ W.cell? ⟨b, off + k * 3, none⟩ = some (.string yn)) wr.drew := ⟨(HRr.out.below HDR.out).cell (i := 0) rfl, y0⟩
        go_wp2
        refine wp_region_noPanic ?_
        refine wp_region_held_drew (S := fun W => W.cell? ⟨w.heap.size, 0, none⟩ = some (.string xn) ∧ W.cell? ⟨b, off + k * 3, none⟩ = some (.string yn)) (by kernel_rfl) hs0 (fun hHeld => ?_)
        clear hs0
        generalize wr.drew = w5 at *
        refine wpAnyH_take (i := 0) (oi := { dst := some 12, op := Go.Op.move (Go.Operand.tmp 6), type := 3, pos := "files.go:61", after := #[], guard := none }) (v := ?_) rfl (by kernel_rfl) (by kernel_rfl) (by kernel_rfl) (fun _ _ _ h => h) (Or.inl ⟨by rfl, ?_⟩) (by assumption) ?_
        rotate_left
        · (intro w hSw; (try dsimp only at hSw); go_simp) <;> with_reducible rfl
        simp only [Act.put, List.setIfInBounds_toArray, List.set_cons_zero, List.set_cons_succ]
        refine wpAnyH_take (i := 1) (oi := { dst := some 13, op := Go.Op.move (Go.Operand.tmp 5), type := 22, pos := "files.go:61", after := #[], guard := none }) (v := ?_) rfl (by kernel_rfl) (by kernel_rfl) (by kernel_rfl) (fun _ _ _ h => h) (Or.inl ⟨by rfl, ?_⟩) (by assumption) ?_
        rotate_left
        · (intro w hSw; (try dsimp only at hSw); go_simp) <;> with_reducible rfl
        simp only [Act.put, List.setIfInBounds_toArray, List.set_cons_zero, List.set_cons_succ]
        refine wpAnyH_take (i := 2) (oi := { dst := some 14, op := Go.Op.call { callee := Go.Callee.builtin Go.Builtin.len, args := #[Go.Operand.tmp 13], argTypes := #[22] }, type := 3, pos := "files.go:61", after := #[{ on := 1, ground := Go.Ground.data }], guard := none }) (v := ?_) rfl (by kernel_rfl) (by kernel_rfl) (by kernel_rfl) (fun _ _ _ h => h) (Or.inl ⟨by rfl, ?_⟩) (by assumption) ?_
        rotate_left
        · (intro w hSw; (try dsimp only at hSw); go_simp) <;> with_reducible rfl
        simp only [Act.put, List.setIfInBounds_toArray, List.set_cons_zero, List.set_cons_succ]
        refine wpAnyH_take (i := 3) (oi := { dst := some 15, op := Go.Op.binOp Go.BinOp.lss 3 (Go.Operand.tmp 12) (Go.Operand.tmp 14) 3, type := 4, pos := "files.go:61", after := #[{ on := 0, ground := Go.Ground.data }, { on := 2, ground := Go.Ground.data }], guard := none }) (v := ?_) rfl (by kernel_rfl) (by kernel_rfl) (by kernel_rfl) (fun _ _ _ h => h) (Or.inl ⟨by rfl, ?_⟩) (by assumption) ?_
        rotate_left
        · (intro w hSw; (try dsimp only at hSw); go_simp) <;> with_reducible rfl
        simp only [Act.put, List.setIfInBounds_toArray, List.set_cons_zero, List.set_cons_succ]
        refine wpAnyH_take (i := 4) (oi := { dst := some 16, op := Go.Op.move (Go.Operand.tmp 15), type := 4, pos := "files.go:61", after := #[{ on := 3, ground := Go.Ground.data }], guard := none }) (v := ?_) rfl (by kernel_rfl) (by kernel_rfl) (by kernel_rfl) (fun _ _ _ h => h) (Or.inl ⟨by rfl, ?_⟩) (by assumption) ?_
        rotate_left
        · (intro w hSw; (try dsimp only at hSw); go_simp) <;> with_reducible rfl
        simp only [Act.put, List.setIfInBounds_toArray, List.set_cons_zero, List.set_cons_succ]
        refine wpAnyH_take (i := 5) (oi := { dst := some 17, op := Go.Op.move (Go.Operand.tmp 5), type := 22, pos := "files.go:61", after := #[{ on := 4, ground := Go.Ground.guard }], guard := some (4, true) }) (v := ?_) rfl (by kernel_rfl) (by kernel_rfl) (by kernel_rfl) (fun _ _ _ h => h) (Or.inl ⟨by rfl, ?_⟩) (by assumption) ?_
        rotate_left
        · (intro w hSw; (try dsimp only at hSw); go_simp) <;> with_reducible rfl
        simp only [Act.put, List.setIfInBounds_toArray, List.set_cons_zero, List.set_cons_succ]
        refine wpAnyH_take (i := 6) (oi := { dst := some 18, op := Go.Op.move (Go.Operand.tmp 6), type := 3, pos := "files.go:61", after := #[{ on := 4, ground := Go.Ground.guard }], guard := some (4, true) }) (v := ?_) rfl (by kernel_rfl) (by kernel_rfl) (by kernel_rfl) (fun _ _ _ h => h) (Or.inl ⟨by rfl, ?_⟩) (by assumption) ?_
        rotate_left
        · (intro w hSw; (try dsimp only at hSw); go_simp) <;> with_reducible rfl
        simp only [Act.put, List.setIfInBounds_toArray, List.set_cons_zero, List.set_cons_succ]
        refine wpAnyH_take (i := 7) (oi := { dst := some 19, op := Go.Op.indexAddr 22 (Go.Operand.tmp 17) (Go.Operand.tmp 18), type := 0, pos := "files.go:61", after := #[{ on := 5, ground := Go.Ground.data }, { on := 6, ground := Go.Ground.data }, { on := 4, ground := Go.Ground.guard }], guard := some (4, true) }) (v := ?_) rfl (by kernel_rfl) (by kernel_rfl) (by kernel_rfl) (fun _ _ _ h => h) (Or.inl ⟨by rfl, ?_⟩) (by assumption) ?_
        rotate_left
        · (intro w hSw; (try dsimp only at hSw); go_simp) <;> with_reducible rfl
        simp only [Act.put, List.setIfInBounds_toArray, List.set_cons_zero, List.set_cons_succ]
        refine wpAnyH_take (i := 8) (oi := { dst := some 20, op := Go.Op.fieldAddr 44 (Go.Operand.tmp 19) 0, type := 0, pos := "files.go:61", after := #[{ on := 7, ground := Go.Ground.data }, { on := 4, ground := Go.Ground.guard }], guard := some (4, true) }) (v := ?_) rfl (by kernel_rfl) (by kernel_rfl) (by kernel_rfl) (fun _ _ _ h => h) (Or.inl ⟨by rfl, ?_⟩) (by assumption) ?_
        rotate_left
        · (intro w hSw; (try dsimp only at hSw); go_simp) <;> with_reducible rfl
        simp only [Act.put, List.setIfInBounds_toArray, List.set_cons_zero, List.set_cons_succ]
        refine wpAnyH_take (i := 9) (oi := { dst := some 21, op := Go.Op.load 9 (Go.Operand.tmp 20), type := 9, pos := "files.go:61", after := #[{ on := 8, ground := Go.Ground.data }, { on := 4, ground := Go.Ground.guard }], guard := some (4, true) }) (v := ?_) rfl (by kernel_rfl) (by kernel_rfl) (by kernel_rfl) (fun _ _ _ h => h) (Or.inl ⟨by rfl, ?_⟩) (by assumption) ?_
        rotate_left
        · (intro w hSw; (try dsimp only at hSw); go_simp) <;> with_reducible rfl
        simp only [Act.put, List.setIfInBounds_toArray, List.set_cons_zero, List.set_cons_succ]
        refine wpAnyH_take (i := 10) (oi := { dst := some 22, op := Go.Op.fieldAddr 44 (Go.Operand.tmp 3) 0, type := 0, pos := "files.go:61", after := #[{ on := 4, ground := Go.Ground.guard }], guard := some (4, true) }) (v := ?_) rfl (by kernel_rfl) (by kernel_rfl) (by kernel_rfl) (fun _ _ _ h => h) (Or.inl ⟨by rfl, ?_⟩) (by assumption) ?_
        rotate_left
        · (intro w hSw; (try dsimp only at hSw); go_simp) <;> with_reducible rfl
        simp only [Act.put, List.setIfInBounds_toArray, List.set_cons_zero, List.set_cons_succ]
        refine wpAnyH_take (i := 11) (oi := { dst := some 23, op := Go.Op.load 9 (Go.Operand.tmp 22), type := 9, pos := "files.go:61", after := #[{ on := 10, ground := Go.Ground.data }, { on := 4, ground := Go.Ground.guard }], guard := some (4, true) }) (v := ?_) rfl (by kernel_rfl) (by kernel_rfl) (by kernel_rfl) (fun _ _ _ h => h) (Or.inl ⟨by rfl, ?_⟩) (by assumption) ?_
        rotate_left
        · (intro w hSw; (try dsimp only at hSw); go_simp) <;> with_reducible rfl
        simp only [Act.put, List.setIfInBounds_toArray, List.set_cons_zero, List.set_cons_succ]
        refine wpAnyH_take (i := 12) (oi := { dst := some 24, op := Go.Op.binOp Go.BinOp.lss 9 (Go.Operand.tmp 21) (Go.Operand.tmp 23) 9, type := 4, pos := "files.go:61", after := #[{ on := 9, ground := Go.Ground.data }, { on := 11, ground := Go.Ground.data }, { on := 4, ground := Go.Ground.guard }], guard := some (4, true) }) (v := ?_) rfl (by kernel_rfl) (by kernel_rfl) (by kernel_rfl) (fun _ _ _ h => h) (Or.inl ⟨by rfl, ?_⟩) (by assumption) ?_
        rotate_left
        · (intro w hSw; (try dsimp only at hSw); go_simp) <;> with_reducible rfl
        simp only [Act.put, List.setIfInBounds_toArray, List.set_cons_zero, List.set_cons_succ]
        refine wpAnyH_take (i := 13) (oi := { dst := some 25, op := Go.Op.pick (Go.Operand.tmp 16) (Go.Operand.tmp 24) (Go.Operand.const (Go.Value.bool false)), type := 4, pos := "files.go:61", after := #[{ on := 4, ground := Go.Ground.data }, { on := 12, ground := Go.Ground.data }], guard := none }) (v := ?_) rfl (by kernel_rfl) (by kernel_rfl) (by kernel_rfl) (fun _ _ _ h => h) (Or.inl ⟨by rfl, ?_⟩) (by assumption) ?_
        rotate_left
        · (intro w hSw; (try dsimp only at hSw); go_simp) <;> with_reducible rfl
        simp only [Act.put, List.setIfInBounds_toArray, List.set_cons_zero, List.set_cons_succ]
        refine wpAnyH_done (by kernel_rfl) ?_ _
        refine NoPanic.normal ?_
        go_wp2
        go_roundw
        case rel => exact ⟨k + 1, by omega, by go_num, HA2, HB5⟩
        case measure => simp [intOf]; omega
      | false =>
        have hl1 : Op.bytesLess yn.toList xn.toList = false := Hl.out.symm
        have HINS : Hid (insN ⟨xn, xs, xt⟩ A = insF A k ⟨xn, xs, xt⟩) := Lib.hid (ins_at (by have := HM.out; omega) HA.out (fun y hy => by rw [HYY.out] at hy; obtain rfl := Option.some.inj hy; exact Hl.out.symm))
        have HDR := Lib.hid (Below.refl wr.heap.size wr).drew
        have HB5 := Lib.hid (below_trans HB.out HDR.out)
        have hs0 : (fun W : World => W.cell? ⟨w.heap.size, 0, none⟩ = some (.string xn) ∧ W.cell? ⟨b, off + k * 3, none⟩ = some (.string yn)) wr.drew := ⟨(HRr.out.below HDR.out).cell (i := 0) rfl, y0⟩
        go_wp2
        refine wp_region_noPanic ?_
        refine wp_region_held_drew (S := fun W => W.cell? ⟨w.heap.size, 0, none⟩ = some (.string xn) ∧ W.cell? ⟨b, off + k * 3, none⟩ = some (.string yn)) (by kernel_rfl) hs0 (fun hHeld => ?_)
        clear hs0
        generalize wr.drew = w5 at *
        refine wpAnyH_take (i := 0) (oi := { dst := some 12, op := Go.Op.move (Go.Operand.tmp 6), type := 3, pos := "files.go:61", after := #[], guard := none }) (v := ?_) rfl (by kernel_rfl) (by kernel_rfl) (by kernel_rfl) (fun _ _ _ h => h) (Or.inl ⟨by rfl, ?_⟩) (by assumption) ?_
        rotate_left
        · (intro w hSw; (try dsimp only at hSw); go_simp) <;> with_reducible rfl
        simp only [Act.put, List.setIfInBounds_toArray, List.set_cons_zero, List.set_cons_succ]
        refine wpAnyH_take (i := 1) (oi := { dst := some 13, op := Go.Op.move (Go.Operand.tmp 5), type := 22, pos := "files.go:61", after := #[], guard := none }) (v := ?_) rfl (by kernel_rfl) (by kernel_rfl) (by kernel_rfl) (fun _ _ _ h => h) (Or.inl ⟨by rfl, ?_⟩) (by assumption) ?_
        rotate_left
        · (intro w hSw; (try dsimp only at hSw); go_simp) <;> with_reducible rfl
        simp only [Act.put, List.setIfInBounds_toArray, List.set_cons_zero, List.set_cons_succ]
        refine wpAnyH_take (i := 2) (oi := { dst := some 14, op := Go.Op.call { callee := Go.Callee.builtin Go.Builtin.len, args := #[Go.Operand.tmp 13], argTypes := #[22] }, type := 3, pos := "files.go:61", after := #[{ on := 1, ground := Go.Ground.data }], guard := none }) (v := ?_) rfl (by kernel_rfl) (by kernel_rfl) (by kernel_rfl) (fun _ _ _ h => h) (Or.inl ⟨by rfl, ?_⟩) (by assumption) ?_
        rotate_left
        · (intro w hSw; (try dsimp only at hSw); go_simp) <;> with_reducible rfl
        simp only [Act.put, List.setIfInBounds_toArray, List.set_cons_zero, List.set_cons_succ]
        refine wpAnyH_take (i := 3) (oi := { dst := some 15, op := Go.Op.binOp Go.BinOp.lss 3 (Go.Operand.tmp 12) (Go.Operand.tmp 14) 3, type := 4, pos := "files.go:61", after := #[{ on := 0, ground := Go.Ground.data }, { on := 2, ground := Go.Ground.data }], guard := none }) (v := ?_) rfl (by kernel_rfl) (by kernel_rfl) (by kernel_rfl) (fun _ _ _ h => h) (Or.inl ⟨by rfl, ?_⟩) (by assumption) ?_
        rotate_left
        · (intro w hSw; (try dsimp only at hSw); go_simp) <;> with_reducible rfl
        simp only [Act.put, List.setIfInBounds_toArray, List.set_cons_zero, List.set_cons_succ]
        refine wpAnyH_take (i := 4) (oi := { dst := some 16, op := Go.Op.move (Go.Operand.tmp 15), type := 4, pos := "files.go:61", after := #[{ on := 3, ground := Go.Ground.data }], guard := none }) (v := ?_) rfl (by kernel_rfl) (by kernel_rfl) (by kernel_rfl) (fun _ _ _ h => h) (Or.inl ⟨by rfl, ?_⟩) (by assumption) ?_
        rotate_left
        · (intro w hSw; (try dsimp only at hSw); go_simp) <;> with_reducible rfl
        simp only [Act.put, List.setIfInBounds_toArray, List.set_cons_zero, List.set_cons_succ]
        refine wpAnyH_take (i := 5) (oi := { dst := some 17, op := Go.Op.move (Go.Operand.tmp 5), type := 22, pos := "files.go:61", after := #[{ on := 4, ground := Go.Ground.guard }], guard := some (4, true) }) (v := ?_) rfl (by kernel_rfl) (by kernel_rfl) (by kernel_rfl) (fun _ _ _ h => h) (Or.inl ⟨by rfl, ?_⟩) (by assumption) ?_
        rotate_left
        · (intro w hSw; (try dsimp only at hSw); go_simp) <;> with_reducible rfl
        simp only [Act.put, List.setIfInBounds_toArray, List.set_cons_zero, List.set_cons_succ]
        refine wpAnyH_take (i := 6) (oi := { dst := some 18, op := Go.Op.move (Go.Operand.tmp 6), type := 3, pos := "files.go:61", after := #[{ on := 4, ground := Go.Ground.guard }], guard := some (4, true) }) (v := ?_) rfl (by kernel_rfl) (by kernel_rfl) (by kernel_rfl) (fun _ _ _ h => h) (Or.inl ⟨by rfl, ?_⟩) (by assumption) ?_
        rotate_left
        · (intro w hSw; (try dsimp only at hSw); go_simp) <;> with_reducible rfl
        simp only [Act.put, List.setIfInBounds_toArray, List.set_cons_zero, List.set_cons_succ]
        refine wpAnyH_take (i := 7) (oi := { dst := some 19, op := Go.Op.indexAddr 22 (Go.Operand.tmp 17) (Go.Operand.tmp 18), type := 0, pos := "files.go:61", after := #[{ on := 5, ground := Go.Ground.data }, { on := 6, ground := Go.Ground.data }, { on := 4, ground := Go.Ground.guard }], guard := some (4, true) }) (v := ?_) rfl (by kernel_rfl) (by kernel_rfl) (by kernel_rfl) (fun _ _ _ h => h) (Or.inl ⟨by rfl, ?_⟩) (by assumption) ?_
        rotate_left
        · (intro w hSw; (try dsimp only at hSw); go_simp) <;> with_reducible rfl
        simp only [Act.put, List.setIfInBounds_toArray, List.set_cons_zero, List.set_cons_succ]
        refine wpAnyH_take (i := 8) (oi := { dst := some 20, op := Go.Op.fieldAddr 44 (Go.Operand.tmp 19) 0, type := 0, pos := "files.go:61", after := #[{ on := 7, ground := Go.Ground.data }, { on := 4, ground := Go.Ground.guard }], guard := some (4, true) }) (v := ?_) rfl (by kernel_rfl) (by kernel_rfl) (by kernel_rfl) (fun _ _ _ h => h) (Or.inl ⟨by rfl, ?_⟩) (by assumption) ?_
        rotate_left
        · (intro w hSw; (try dsimp only at hSw); go_simp) <;> with_reducible rfl
        simp only [Act.put, List.setIfInBounds_toArray, List.set_cons_zero, List.set_cons_succ]
        refine wpAnyH_take (i := 9) (oi := { dst := some 21, op := Go.Op.load 9 (Go.Operand.tmp 20), type := 9, pos := "files.go:61", after := #[{ on := 8, ground := Go.Ground.data }, { on := 4, ground := Go.Ground.guard }], guard := some (4, true) }) (v := ?_) rfl (by kernel_rfl) (by kernel_rfl) (by kernel_rfl) (fun _ _ _ h => h) (Or.inl ⟨by rfl, ?_⟩) (by assumption) ?_
        rotate_left
        · (intro w hSw; (try dsimp only at hSw); go_simp) <;> with_reducible rfl
        simp only [Act.put, List.setIfInBounds_toArray, List.set_cons_zero, List.set_cons_succ]
        refine wpAnyH_take (i := 10) (oi := { dst := some 22, op := Go.Op.fieldAddr 44 (Go.Operand.tmp 3) 0, type := 0, pos := "files.go:61", after := #[{ on := 4, ground := Go.Ground.guard }], guard := some (4, true) }) (v := ?_) rfl (by kernel_rfl) (by kernel_rfl) (by kernel_rfl) (fun _ _ _ h => h) (Or.inl ⟨by rfl, ?_⟩) (by assumption) ?_
        rotate_left
        · (intro w hSw; (try dsimp only at hSw); go_simp) <;> with_reducible rfl
        simp only [Act.put, List.setIfInBounds_toArray, List.set_cons_zero, List.set_cons_succ]
        refine wpAnyH_take (i := 11) (oi := { dst := some 23, op := Go.Op.load 9 (Go.Operand.tmp 22), type := 9, pos := "files.go:61", after := #[{ on := 10, ground := Go.Ground.data }, { on := 4, ground := Go.Ground.guard }], guard := some (4, true) }) (v := ?_) rfl (by kernel_rfl) (by kernel_rfl) (by kernel_rfl) (fun _ _ _ h => h) (Or.inl ⟨by rfl, ?_⟩) (by assumption) ?_
        rotate_left
        · (intro w hSw; (try dsimp only at hSw); go_simp) <;> with_reducible rfl
        simp only [Act.put, List.setIfInBounds_toArray, List.set_cons_zero, List.set_cons_succ]
        refine wpAnyH_take (i := 12) (oi := { dst := some 24, op := Go.Op.binOp Go.BinOp.lss 9 (Go.Operand.tmp 21) (Go.Operand.tmp 23) 9, type := 4, pos := "files.go:61", after := #[{ on := 9, ground := Go.Ground.data }, { on := 11, ground := Go.Ground.data }, { on := 4, ground := Go.Ground.guard }], guard := some (4, true) }) (v := ?_) rfl (by kernel_rfl) (by kernel_rfl) (by kernel_rfl) (fun _ _ _ h => h) (Or.inl ⟨by rfl, ?_⟩) (by assumption) ?_
        rotate_left
        · (intro w hSw; (try dsimp only at hSw); go_simp) <;> with_reducible rfl
        simp only [Act.put, List.setIfInBounds_toArray, List.set_cons_zero, List.set_cons_succ]
        refine wpAnyH_take (i := 13) (oi := { dst := some 25, op := Go.Op.pick (Go.Operand.tmp 16) (Go.Operand.tmp 24) (Go.Operand.const (Go.Value.bool false)), type := 4, pos := "files.go:61", after := #[{ on := 4, ground := Go.Ground.data }, { on := 12, ground := Go.Ground.data }], guard := none }) (v := ?_) rfl (by kernel_rfl) (by kernel_rfl) (by kernel_rfl) (fun _ _ _ h => h) (Or.inl ⟨by rfl, ?_⟩) (by assumption) ?_
        rotate_left
        · (intro w hSw; (try dsimp only at hSw); go_simp) <;> with_reducible rfl
        simp only [Act.put, List.setIfInBounds_toArray, List.set_cons_zero, List.set_cons_succ]
        refine wpAnyH_done (by kernel_rfl) ?_ _
        refine NoPanic.normal ?_
        have HRw := Lib.hid (HRB.out.below HB5.out)
        have HOw := Lib.hid (ownsRow_below HO.out HB5.out)
        have g0 := HRw.out.cell (i := 0) rfl
        have g1 := HRw.out.cell (i := 1) rfl
        have g2 := HRw.out.cell (i := 2) rfl
        have HXI := Lib.hid (insert_any (w5.alloc (.cells (fiC ⟨xn, xs, xt⟩) 44)) W2.heap.size (.slice (some ⟨b, off, none⟩) M cA) A ⟨xn, xs, xt⟩ k w5.heap.size (by rw [HM.out] at HOw ⊢; exact ownsRow_below HOw.out (below1 _ _)) (by have h1 := HB3.out.size; have h2 := HB5.out.size; simp; omega) (by have := HM.out; omega) (by have := HM.out; omega) (row_new w5 (fiC ⟨xn, xs, xt⟩) _) (fun e => by have := (HOw.out.lt _ e).2; omega))
        have HBO := Lib.hid (below1 w5 (.cells (fiC ⟨xn, xs, xt⟩) 44))
        clear HOr HRr
        go_wp2_with fail
        generalize hW6 : w5.alloc (.cells (fiC ⟨xn, xs, xt⟩) 44) = W6 at *
        clear hW6 g0 g1 g2
        refine HXI.out.mono ?_
        rintro e w7 ⟨v7, rfl, ho7, hg7⟩
        have HB6 := Lib.hid (below_trans HB5.out HBO.out)
        have HF : Hid (Own w7 w.heap.size v7 (withF fs ⟨xn, xs, xt⟩)) := Lib.hid (by
          rw [HWF.out, HINS.out]
          exact owns_low ho7 (by have := HB2.out.size; omega))
        have HBF : Hid (Below w.heap.size w w7) := Lib.hid ((((HB2.out.trans (HB3.out.mono (by have := HB2.out.size; omega))).trans (HB6.out.mono (by have h1 := HB2.out.size; have h2 := HB3.out.size; omega)))).grown hg7 (by have h1 := HB2.out.size; have h2 := HB3.out.size; have h3 := HB6.out.size; omega) (fun g hg => by have := (HO.out.lt g hg).1; have := HB2.out.size; omega))
        clear ho7 hg7 HXI
        go_wp2
        go_ret
        exact ⟨v7, rfl, HF.out, HBF.out⟩
    · have q1 : decide (k < M) = false := decide_eq_false hlt
      have q2 : ¬ (k : Int) < (M : Int) := by omega
      have HINS : Hid (insN ⟨xn, xs, xt⟩ A = insF A k ⟨xn, xs, xt⟩) := Lib.hid (ins_at (by have := HM.out; omega) HA.out (fun y hy => by have := (List.getElem?_eq_some_iff.1 hy).1; have := HM.out; omega))
      have HDR := Lib.hid (Below.refl wr.heap.size wr).drew
      have HB5 := Lib.hid (below_trans HB.out HDR.out)
      have hs0 : (fun W : World => W.cell? ⟨w.heap.size, 0, none⟩ = some (.string xn)) wr.drew := (HRr.out.below HDR.out).cell (i := 0) rfl
      go_wp2
      refine wp_region_noPanic ?_
      refine wp_region_held_drew (S := fun W => W.cell? ⟨w.heap.size, 0, none⟩ = some (.string xn)) (by kernel_rfl) hs0 (fun hHeld => ?_)
      clear hs0
      generalize wr.drew = w5 at *
      refine wpAnyH_take (i := 0) (oi := { dst := some 12, op := Go.Op.move (Go.Operand.tmp 6), type := 3, pos := "files.go:61", after := #[], guard := none }) (v := ?_) rfl (by kernel_rfl) (by kernel_rfl) (by kernel_rfl) (fun _ _ _ h => h) (Or.inl ⟨by rfl, ?_⟩) (by assumption) ?_
      rotate_left
      · (intro w hSw; (try dsimp only at hSw); go_simp) <;> with_reducible rfl
      simp only [Act.put, List.setIfInBounds_toArray, List.set_cons_zero, List.set_cons_succ]
      refine wpAnyH_take (i := 1) (oi := { dst := some 13, op := Go.Op.move (Go.Operand.tmp 5), type := 22, pos := "files.go:61", after := #[], guard := none }) (v := ?_) rfl (by kernel_rfl) (by kernel_rfl) (by kernel_rfl) (fun _ _ _ h => h) (Or.inl ⟨by rfl, ?_⟩) (by assumption) ?_
      rotate_left
      · (intro w hSw; (try dsimp only at hSw); go_simp) <;> with_reducible rfl
      simp only [Act.put, List.setIfInBounds_toArray, List.set_cons_zero, List.set_cons_succ]
      refine wpAnyH_take (i := 2) (oi := { dst := some 14, op := Go.Op.call { callee := Go.Callee.builtin Go.Builtin.len, args := #[Go.Operand.tmp 13], argTypes := #[22] }, type := 3, pos := "files.go:61", after := #[{ on := 1, ground := Go.Ground.data }], guard := none }) (v := ?_) rfl (by kernel_rfl) (by kernel_rfl) (by kernel_rfl) (fun _ _ _ h => h) (Or.inl ⟨by rfl, ?_⟩) (by assumption) ?_
      rotate_left
      · (intro w hSw; (try dsimp only at hSw); go_simp) <;> with_reducible rfl
      simp only [Act.put, List.setIfInBounds_toArray, List.set_cons_zero, List.set_cons_succ]
      refine wpAnyH_take (i := 3) (oi := { dst := some 15, op := Go.Op.binOp Go.BinOp.lss 3 (Go.Operand.tmp 12) (Go.Operand.tmp 14) 3, type := 4, pos := "files.go:61", after := #[{ on := 0, ground := Go.Ground.data }, { on := 2, ground := Go.Ground.data }], guard := none }) (v := ?_) rfl (by kernel_rfl) (by kernel_rfl) (by kernel_rfl) (fun _ _ _ h => h) (Or.inl ⟨by rfl, ?_⟩) (by assumption) ?_
      rotate_left
      · (intro w hSw; (try dsimp only at hSw); go_simp) <;> with_reducible rfl
      simp only [Act.put, List.setIfInBounds_toArray, List.set_cons_zero, List.set_cons_succ]
      refine wpAnyH_take (i := 4) (oi := { dst := some 16, op := Go.Op.move (Go.Operand.tmp 15), type := 4, pos := "files.go:61", after := #[{ on := 3, ground := Go.Ground.data }], guard := none }) (v := ?_) rfl (by kernel_rfl) (by kernel_rfl) (by kernel_rfl) (fun _ _ _ h => h) (Or.inl ⟨by rfl, ?_⟩) (by assumption) ?_
      rotate_left
      · (intro w hSw; (try dsimp only at hSw); go_simp) <;> with_reducible rfl
      simp only [Act.put, List.setIfInBounds_toArray, List.set_cons_zero, List.set_cons_succ]
      refine wpAnyH_skip (i := 5) (d := 17) (by kernel_rfl) (by kernel_rfl) (by kernel_rfl) (by kernel_rfl) (fun _ _ _ h => h) (by assumption) ?_
      simp only [Act.put, List.setIfInBounds_toArray, List.set_cons_zero, List.set_cons_succ]
      refine wpAnyH_skip (i := 6) (d := 18) (by kernel_rfl) (by kernel_rfl) (by kernel_rfl) (by kernel_rfl) (fun _ _ _ h => h) (by assumption) ?_
      simp only [Act.put, List.setIfInBounds_toArray, List.set_cons_zero, List.set_cons_succ]
      refine wpAnyH_skip (i := 7) (d := 19) (by kernel_rfl) (by kernel_rfl) (by kernel_rfl) (by kernel_rfl) (fun _ _ _ h => h) (by assumption) ?_
      simp only [Act.put, List.setIfInBounds_toArray, List.set_cons_zero, List.set_cons_succ]
      refine wpAnyH_skip (i := 8) (d := 20) (by kernel_rfl) (by kernel_rfl) (by kernel_rfl) (by kernel_rfl) (fun _ _ _ h => h) (by assumption) ?_
      simp only [Act.put, List.setIfInBounds_toArray, List.set_cons_zero, List.set_cons_succ]
      refine wpAnyH_skip (i := 9) (d := 21) (by kernel_rfl) (by kernel_rfl) (by kernel_rfl) (by kernel_rfl) (fun _ _ _ h => h) (by assumption) ?_
      simp only [Act.put, List.setIfInBounds_toArray, List.set_cons_zero, List.set_cons_succ]
      refine wpAnyH_skip (i := 10) (d := 22) (by kernel_rfl) (by kernel_rfl) (by kernel_rfl) (by kernel_rfl) (fun _ _ _ h => h) (by assumption) ?_
      simp only [Act.put, List.setIfInBounds_toArray, List.set_cons_zero, List.set_cons_succ]
      refine wpAnyH_skip (i := 11) (d := 23) (by kernel_rfl) (by kernel_rfl) (by kernel_rfl) (by kernel_rfl) (fun _ _ _ h => h) (by assumption) ?_
      simp only [Act.put, List.setIfInBounds_toArray, List.set_cons_zero, List.set_cons_succ]
      refine wpAnyH_skip (i := 12) (d := 24) (by kernel_rfl) (by kernel_rfl) (by kernel_rfl) (by kernel_rfl) (fun _ _ _ h => h) (by assumption) ?_
      simp only [Act.put, List.setIfInBounds_toArray, List.set_cons_zero, List.set_cons_succ]
      refine wpAnyH_take (i := 13) (oi := { dst := some 25, op := Go.Op.pick (Go.Operand.tmp 16) (Go.Operand.tmp 24) (Go.Operand.const (Go.Value.bool false)), type := 4, pos := "files.go:61", after := #[{ on := 4, ground := Go.Ground.data }, { on := 12, ground := Go.Ground.data }], guard := none }) (v := ?_) rfl (by kernel_rfl) (by kernel_rfl) (by kernel_rfl) (fun _ _ _ h => h) (Or.inl ⟨by rfl, ?_⟩) (by assumption) ?_
      rotate_left
      · (intro w hSw; (try dsimp only at hSw); go_simp) <;> with_reducible rfl
      simp only [Act.put, List.setIfInBounds_toArray, List.set_cons_zero, List.set_cons_succ]
      refine wpAnyH_done (by kernel_rfl) ?_ _
      refine NoPanic.normal ?_
      have HRw := Lib.hid (HRB.out.below HB5.out)
      have HOw := Lib.hid (ownsRow_below HO.out HB5.out)
      have g0 := HRw.out.cell (i := 0) rfl
      have g1 := HRw.out.cell (i := 1) rfl
      have g2 := HRw.out.cell (i := 2) rfl
      have HXI := Lib.hid (insert_any (w5.alloc (.cells (fiC ⟨xn, xs, xt⟩) 44)) W2.heap.size (.slice aA M cA) A ⟨xn, xs, xt⟩ k w5.heap.size (by rw [HM.out] at HOw ⊢; exact ownsRow_below HOw.out (below1 _ _)) (by have h1 := HB3.out.size; have h2 := HB5.out.size; simp; omega) (by have := HM.out; omega) (by have := HM.out; omega) (row_new w5 (fiC ⟨xn, xs, xt⟩) _) (fun e => by have := (HOw.out.lt _ e).2; omega))
      have HBO := Lib.hid (below1 w5 (.cells (fiC ⟨xn, xs, xt⟩) 44))
      clear HOr HRr
      go_wp2_with fail
      generalize hW6 : w5.alloc (.cells (fiC ⟨xn, xs, xt⟩) 44) = W6 at *
      clear hW6 g0 g1 g2
      refine HXI.out.mono ?_
      rintro e w7 ⟨v7, rfl, ho7, hg7⟩
      have HB6 := Lib.hid (below_trans HB5.out HBO.out)
      have HF : Hid (Own w7 w.heap.size v7 (withF fs ⟨xn, xs, xt⟩)) := Lib.hid (by
        rw [HWF.out, HINS.out]
        exact owns_low ho7 (by have := HB2.out.size; omega))
      have HBF : Hid (Below w.heap.size w w7) := Lib.hid ((((HB2.out.trans (HB3.out.mono (by have := HB2.out.size; omega))).trans (HB6.out.mono (by have h1 := HB2.out.size; have h2 := HB3.out.size; omega)))).grown hg7 (by have h1 := HB2.out.size; have h2 := HB3.out.size; have h3 := HB6.out.size; omega) (fun g hg => by have := (HO.out.lt g hg).1; have := HB2.out.size; omega))
      clear ho7 hg7 HXI
      go_wp2
      go_ret
      exact ⟨v7, rfl, HF.out, HBF.out⟩

/-- The first few, and one more among them, if it stands there. -/
def rwO (x : Fil) (A : List Fil) (k : Nat) (put : Bool) : List Fil := if put = true then insN x (A.take k) else A.take k
/-- When that has been put in. -/
def rwP (x : Fil) (A : List Fil) (k : Nat) (put : Bool) : Prop := if put = true then ∃ e, e ∈ A.take k ∧ ltB e.nm x.nm = false else ∀ e, e ∈ A.take k → ltB e.nm x.nm = true
theorem rw_len {x : Fil} {A : List Fil} {k : Nat} {put : Bool} : (rwO x A k put).length ≤ A.length + 1 := by
  unfold rwO
  split
  · rw [len_ins, List.length_take]; omega
  · rw [List.length_take]; omega
theorem rw_put {x y : Fil} {A : List Fil} {k : Nat} (h : rwP x A k true) (hy : A[k]? = some y) : rwP x A (k + 1) true ∧ rwO x A (k + 1) true = rwO x A k true ++ [y] := by
  unfold rwP rwO at *
  simp only [if_true] at *
  rw [take_one hy]
  refine ⟨?_, ins_snoc h⟩
  obtain ⟨e, he, hl⟩ := h
  exact ⟨e, by simp [he], hl⟩
theorem rw_less {x y : Fil} {A : List Fil} {k : Nat} (h : rwP x A k false) (hy : A[k]? = some y) (hl : ltB y.nm x.nm = true) : rwP x A (k + 1) false ∧ rwO x A (k + 1) false = rwO x A k false ++ [y] := by
  unfold rwP rwO at *
  simp only [Bool.false_eq_true, if_false] at *
  rw [take_one hy]
  refine ⟨fun e he => ?_, rfl⟩
  rcases List.mem_append.1 he with he | he
  · exact h e he
  · rw [List.mem_singleton] at he; rw [he]; exact hl
theorem rw_now {x y : Fil} {A : List Fil} {k : Nat} (h : rwP x A k false) (hy : A[k]? = some y) (hl : ltB y.nm x.nm = false) : rwP x A (k + 1) true ∧ rwO x A (k + 1) true = rwO x A k false ++ [x] ++ [y] := by
  unfold rwP rwO at *
  simp only [Bool.false_eq_true, if_false, if_true] at *
  rw [take_one hy]
  exact ⟨⟨y, by simp, hl⟩, ins_now h hl⟩
theorem rw_endY {x : Fil} {A : List Fil} {k : Nat} (hk : A.length ≤ k) : rwO x A k true = insN x A := by
  unfold rwO; simp only [if_true]; rw [List.take_of_length_le hk]
theorem rw_endN {x : Fil} {A : List Fil} {k : Nat} (hk : A.length ≤ k) (h : rwP x A k false) : insN x A = rwO x A k false ++ [x] := by
  unfold rwP rwO at *
  simp only [Bool.false_eq_true, if_false] at *
  rw [List.take_of_length_le hk] at *
  exact ins_all h

theorem fr_below {w wr w' : World} {X : Nat → Prop} (hb : Below w.heap.size w wr) (hf : Fr X wr w') (hX : ∀ k, X k → w.heap.size ≤ k) : Below w.heap.size w w' :=
  ⟨hf.os.trans hb.os, hf.tape.trans hb.tape, hf.output.trans hb.output, Nat.le_trans hb.size hf.size, fun k hk => (hf.block k (Nat.lt_of_lt_of_le hk hb.size) (fun h => by have := hX k h; omega)).trans (hb.block k hk)⟩
/-- A list under way beside the one that is read, and a file in a box. -/
structure RW (w : World) (x : Fil) (A : List Fil) (aA : Option Addr) (cA : Nat) (xs : List Fil) (v : Value) (wr : World) : Prop where
  own : Own wr (w.heap.size + 1) v xs
  low : Below w.heap.size w wr
  src : SlF wr (fun b => b < wr.heap.size ∧ v.ownBlock ≠ some b) (.slice aA A.length cA) A
  box : Row wr w.heap.size 44 [.string x.nm, .string x.sy, .string x.tl]
theorem RW.below {w : World} {x : Fil} {A : List Fil} {aA : Option Addr} {cA : Nat} {xs : List Fil} {v : Value} {wr w' : World} (h : RW w x A aA cA xs v wr) (hb : Below wr.heap.size wr w') : RW w x A aA cA xs v w' :=
  ⟨ownsRow_below h.own hb, below_trans h.low hb, Sl.keep h.src (fun b hb2 => hb.block b hb2.1) (fun _ hb2 => ⟨Nat.lt_of_lt_of_le hb2.1 hb.size, hb2.2⟩) (fun _ _ h => h), h.box.below hb⟩
theorem RW.push {w : World} {x : Fil} {A : List Fil} {aA : Option Addr} {cA : Nat} {xs : List Fil} {v : Value} {wr : World} (h : RW w x A aA cA xs v wr) (y : Fil) (hl : xs.length ≤ 1000) :
    ∃ v' w', (Builtin.append_ #[22, 22] 22 #[v, .slice (some ⟨wr.heap.size, 0, none⟩) 1 1]).run Try.prog (wr.alloc (.cells (fiC y) 44)) = .ok v' w' ∧ Hid (RW w x A aA cA (xs ++ [y]) v' w') ∧ Hid (∀ b t cs, Row wr b t cs → v.ownBlock ≠ some b → Row w' b t cs) := by
  have hbo := below1 wr (.cells (fiC y) 44)
  have hsz : w.heap.size + 1 ≤ wr.heap.size := h.box.lt
  obtain ⟨v', w', hr, ho, hg, hv⟩ := run_append_fil (wr.alloc (.cells (fiC y) 44)) 22 (w.heap.size + 1) v xs (ownsRow_below h.own hbo) (some ⟨wr.heap.size, 0, none⟩) 1 [y] (one_sl (row_new wr (fiC y) _)) (by simp; omega) (by simp; omega)
  have hf : Fr (fun b => v.ownBlock = some b) wr w' := (Fr.of_below hbo).trans (grown_fr hg)
  refine ⟨v', w', hr, Lib.hid ⟨ho, fr_below h.low hf (fun k hk => by have := (h.own.lt k hk).1; omega), Sl.keep h.src (fun b hb => hf.block b hb.1 hb.2) (fun b hb => ⟨Nat.lt_of_lt_of_le hb.1 hf.size, fun e => ?_⟩) (fun _ _ h => h), h.box.keep (hf.block _ (by omega) (fun e => by have := (h.own.lt _ e).1; omega))⟩, Lib.hid (fun b t cs hR hne => hR.keep (hf.block b hR.lt hne))⟩
  rcases hv with hv | hv
  · exact hb.2 (hv.symm.trans e)
  · rw [hv] at e
    have h1 := hb.1
    simp at e
    omega

set_option maxHeartbeats 6400000 in
set_option maxRecDepth 100000 in
theorem rwith_any (w : World) (a : Option Addr) (cap : Nat) (fs : List Fil) (x : Fil) (hX : SlF w (Old w) (.slice a fs.length cap) fs) (hl : fs.length ≤ 900) :
    Calls Try.prog 26 #[.slice a fs.length cap, fiV x] w (OwnPost (withF fs x) w) := by
  have HWO := Lib.hid (fun W (h : Below w.heap.size w W) => rwithout_any W a cap fs x.nm (hX.old h) (by omega))
  have R := row_new w (fiC x) 44
  have HRX : Hid (Row ((w.alloc (.cells (fiC x) 44)).alloc (.cells #[] 44)) w.heap.size 44 [.string x.nm, .string x.sy, .string x.tl]) := Lib.hid (R.alloc _)
  have d0 := HRX.out.cell (i := 0) rfl
  have HO0 : Hid (Own ((w.alloc (.cells (fiC x) 44)).alloc (.cells #[] 44)) (w.heap.size + 1) (.slice (some ⟨w.heap.size + 1, 0, none⟩) 0 0) []) := Lib.hid (by
    have h : (w.alloc (.cells (fiC x) 44)).heap.size = w.heap.size + 1 := by simp
    rw [← h]
    exact World.ownsRow_made _ #[] 0 (by simp) (Nat.zero_le _) (by simp))
  have HB0 := Lib.hid (below2 w (.cells (fiC x) 44) (.cells #[] 44))
  have HSZ : Hid (((w.alloc (.cells (fiC x) 44)).alloc (.cells #[] 44)).heap.size = w.heap.size + 2) := Lib.hid (by simp)
  have HNE : Hid (∀ e, e ∈ outF fs x.nm → e.nm ≠ x.nm) := Lib.hid out_ne
  have hlen : (outF fs x.nm).length ≤ 900 := by have := len_out fs x.nm; omega
  obtain ⟨L, HL⟩ : ∃ L, Hid (L = fs.length) := ⟨_, Lib.hid rfl⟩
  rw [← HL.out] at HWO ⊢
  have HWF : Hid (withF fs x = insN x (outF fs x.nm)) := Lib.hid rfl
  clear hX hl R
  generalize outF fs x.nm = A at *
  obtain ⟨xn, xs, xt⟩ := x
  simp only at d0 HRX HWO HNE
  go_enter Try.func26, Try.ntmps26
  go_wp2_with fail
  generalize hW1 : (w.alloc (.cells (fiC ⟨xn, xs, xt⟩) 44)).alloc (.cells #[] 44) = W1 at *
  clear hW1 d0
  refine (HWO.out W1 HB0.out).mono ?_
  rintro e w3 ⟨v3, rfl, hown, hb⟩
  obtain ⟨aA, cA, rfl, hcA, hcA2, -⟩ := owns_form hown
  have HR3 : Hid (RW w ⟨xn, xs, xt⟩ A aA cA [] (.slice (some ⟨w.heap.size + 1, 0, none⟩) 0 0) w3) := Lib.hid ⟨ownsRow_below HO0.out hb, below_trans HB0.out hb, Sl.keep (Own.fsh hown) (fun _ _ => rfl) (fun b hb2 => ⟨hb2.2, fun e => by
    have h1 := hb2.1
    have h2 := HSZ.out
    injection e with e
    simp only at e
    omega⟩) (fun _ _ h => h), HRX.out.below hb⟩
  obtain ⟨M, HM⟩ : ∃ M, Hid (M = A.length) := ⟨_, Lib.hid rfl⟩
  rw [← HM.out] at hlen hcA ⊢
  clear hown hb HWO
  obtain ⟨v0, HV0⟩ : ∃ v, Hid (v = Value.slice (some ⟨w.heap.size + 1, 0, none⟩) 0 0) := ⟨_, Lib.hid rfl⟩
  rw [← HV0.out] at HR3 ⊢
  go_wp2
  go_loopw [5, 6, 15] (fun t p i wr => ∃ (k : Nat) (v : Value) (put : Bool), k ≤ M ∧ i = .int .i64 k ∧ v = t ∧ p = .bool put ∧ Hid (RW w ⟨xn, xs, xt⟩ A aA cA (rwO ⟨xn, xs, xt⟩ A k put) v wr) ∧ Hid (rwP ⟨xn, xs, xt⟩ A k put)) (fun _ _ i _ => M - (intOf i).toNat)
  case atStart => exact ⟨0, _, false, Nat.zero_le _, rfl, rfl, rfl, HR3, Lib.hid (fun e he => by simp at he)⟩
  case round =>
    obtain ⟨k, v, put, hk, rfl, rfl, rfl, HR, HP⟩ := hrel
    have HLT : Hid ((rwO ⟨xn, xs, xt⟩ A k put).length ≤ 901) := Lib.hid (by have := rw_len (x := ⟨xn, xs, xt⟩) (A := A) (k := k) (put := put); have := HM.out; omega)
    have hbx := HR.out.box
    by_cases hlt : k < M
    · obtain ⟨y, hy⟩ : ∃ y, A[k]? = some y := ⟨_, List.getElem?_eq_getElem (by have := HM.out; omega)⟩
      obtain ⟨b, off, rfl, -, y0, y1, y2⟩ := (show SlF wr _ (.slice aA M cA) A by rw [HM.out]; exact HR.out.src).get hy
      have HRY : Hid (Row (wr.alloc (.cells (fiC y) 44)) wr.heap.size 44 [.string y.nm, .string y.sy, .string y.tl]) := Lib.hid (row_new wr (fiC y) _)
      have HVB : Hid (v.ownBlock ≠ some wr.heap.size) := Lib.hid (fun e => by have := (HR.out.own.lt _ e).2; omega)
      have HR1 := Lib.hid (HR.out.below (below1 wr (.cells (fiC y) 44)))
      have d0 := HRY.out.cell (i := 0) rfl
      have d1 := HRY.out.cell (i := 1) rfl
      have d2 := HRY.out.cell (i := 2) rfl
      have g0 := HR1.out.box.cell (i := 0) rfl
      have g1 := HR1.out.box.cell (i := 1) rfl
      have g2 := HR1.out.box.cell (i := 2) rfl
      have HYY := Lib.hid hy
      obtain ⟨yn, ys, yt⟩ := y
      simp only at y0 y1 y2 d0 d1 d2 HRY g0 g1 g2
      clear hy hbx
      cases put with
      | true =>
        have HN := Lib.hid (rw_put HP.out HYY.out)
        obtain ⟨v', w', hr, HR2, -⟩ := HR1.out.push ⟨yn, ys, yt⟩ (by have := HLT.out; omega)
        rw [World.size_alloc] at hr
        have HRUN := Lib.hid hr
        have HR3 : Hid (RW w ⟨xn, xs, xt⟩ A (some ⟨b, off, none⟩) cA (rwO ⟨xn, xs, xt⟩ A (k + 1) true) v' w') := Lib.hid (by rw [HN.out.2]; exact HR2.out)
        clear hr
        go_wp2_with (at_builtin; refine Lib.wpList_append_run _ rfl _ _ _ _ rfl _ _ rfl rfl _ _ HRUN.out ?_)
        go_roundw
        case rel => exact ⟨k + 1, _, true, by omega, by go_num, rfl, rfl, HR3, Lib.hid HN.out.1⟩
        case measure => simp [intOf]; omega
      | false =>
        obtain ⟨l, Hl⟩ : ∃ l, Hid (l = ltB yn xn) := ⟨_, Lib.hid rfl⟩
        cases l with
        | true =>
          have hl1 : Op.bytesLess yn.toList xn.toList = true := Hl.out.symm
          have HN := Lib.hid (rw_less HP.out HYY.out Hl.out.symm)
          obtain ⟨v', w', hr, HR2, -⟩ := HR1.out.push ⟨yn, ys, yt⟩ (by have := HLT.out; omega)
          rw [World.size_alloc] at hr
          have HRUN := Lib.hid hr
          have HR3 : Hid (RW w ⟨xn, xs, xt⟩ A (some ⟨b, off, none⟩) cA (rwO ⟨xn, xs, xt⟩ A (k + 1) false) v' w') := Lib.hid (by rw [HN.out.2]; exact HR2.out)
          clear hr
          go_wp2_with (at_builtin; refine Lib.wpList_append_run _ rfl _ _ _ _ rfl _ _ rfl rfl _ _ HRUN.out ?_)
          go_roundw
          case rel => exact ⟨k + 1, _, false, by omega, by go_num, rfl, rfl, HR3, Lib.hid HN.out.1⟩
          case measure => simp [intOf]; omega
        | false =>
          have hl1 : Op.bytesLess yn.toList xn.toList = false := Hl.out.symm
          have hl2 : (yn.toList == xn.toList) = false := str_ne (HNE.out _ (mem_at HYY.out))
          have HN := Lib.hid (rw_now HP.out HYY.out Hl.out.symm)
          obtain ⟨v', w', hr, HR2, HK⟩ := HR1.out.push ⟨xn, xs, xt⟩ (by have := HLT.out; omega)
          rw [World.size_alloc] at hr
          have HRUN := Lib.hid hr
          have HRY2 := Lib.hid (HK.out _ _ _ HRY.out HVB.out)
          obtain ⟨v2, w2, hr2, HR4, -⟩ := HR2.out.push ⟨yn, ys, yt⟩ (by have := HLT.out; simp; omega)
          have HRUN2 := Lib.hid hr2
          have HR3 : Hid (RW w ⟨xn, xs, xt⟩ A (some ⟨b, off, none⟩) cA (rwO ⟨xn, xs, xt⟩ A (k + 1) true) v2 w2) := Lib.hid (by rw [HN.out.2]; exact HR4.out)
          have e0 := HRY2.out.cell (i := 0) rfl
          have e1 := HRY2.out.cell (i := 1) rfl
          have e2 := HRY2.out.cell (i := 2) rfl
          clear hr hr2
          go_wp2_with (first
            | (at_builtin; refine Lib.wpList_append_run _ rfl _ _ _ _ rfl _ _ rfl rfl _ _ HRUN.out ?_)
            | (at_builtin; refine Lib.wpList_append_run _ rfl _ _ _ _ rfl _ _ rfl rfl _ _ HRUN2.out ?_))
          go_roundw
          case rel => exact ⟨k + 1, _, true, by omega, by go_num, rfl, rfl, HR3, Lib.hid HN.out.1⟩
          case measure => simp [intOf]; omega
    · cases put with
      | true =>
        have HF : Hid (OwnPost (withF fs ⟨xn, xs, xt⟩) w (.returned v) wr) := Lib.hid (by
          refine ⟨v, rfl, ?_, HR.out.low⟩
          rw [HWF.out, ← rw_endY (k := k) (by have := HM.out; omega)]
          exact owns_low HR.out.own (by omega))
        clear hbx
        go_wp2
        go_ret
        exact HF.out
      | false =>
        have HE := Lib.hid (rw_endN (k := k) (by have := HM.out; omega) HP.out)
        have g0 := HR.out.box.cell (i := 0) rfl
        have g1 := HR.out.box.cell (i := 1) rfl
        have g2 := HR.out.box.cell (i := 2) rfl
        obtain ⟨v', w', hr, HR2, -⟩ := HR.out.push ⟨xn, xs, xt⟩ (by have := HLT.out; omega)
        have HRUN := Lib.hid hr
        have HF : Hid (OwnPost (withF fs ⟨xn, xs, xt⟩) w (.returned v') w') := Lib.hid (by
          refine ⟨v', rfl, ?_, HR2.out.low⟩
          rw [HWF.out, HE.out]
          exact owns_low HR2.out.own (by omega))
        clear hbx hr
        go_wp2_with (at_builtin; refine Lib.wpList_append_run _ rfl _ _ _ _ rfl _ _ rfl rfl _ _ HRUN.out ?_)
        go_ret
        exact HF.out

end Go.Proofs.Ytmhdodiipkkjpaa.Dk
