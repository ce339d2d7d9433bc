/- The document's Ahead, At, Like; the law's few. -/
import Derived.Laws.StructEq
import Derived.Deep.QuietTactic
import Derived.BigQuiet
import Derived.WalkLawsBesides
import Derived.Test.YtdnedbcmgkilaaaGreatDoorZEr

namespace Go.Proofs.YtdnedbcmgkilaaaGreatDoor.Ca
open Go.RowKit Go.Proofs.YtdnedbcmgkilaaaGreatDoor

theorem ne_list {a b : BA} (h : a ≠ b) : (a.toList == b.toList) = false := by rw [beq_eq_false_iff_ne]; exact fun e => h (baExt e)

set_option maxHeartbeats 1600000 in
theorem ahead_any (a b : Ent) (w : World) : Calls Tryz.prog 34 #[enV a, enV b] w fun e w' => e = .returned (.bool (ahB a b)) ∧ Below w.heap.size w w' := by
  have HB := Lib.hid (below2 w (.cells (enC a) 38) (.cells (enC b) 38))
  have r1 := (row_new w (enC a) 38).alloc (.cells (enC b) 38)
  have r2 := row_new (w.alloc (.cells (enC a) 38)) (enC b) 38
  rw [World.size_alloc] at r2
  have c0 := r1.cell (i := 0) rfl
  have c1 := r1.cell (i := 1) rfl
  have d0 := r2.cell (i := 0) rfl
  have d1 := r2.cell (i := 1) rfl
  have HA : Hid (ahB a b = (ltB a.loc b.loc || (decide (a.loc = b.loc) && ltB a.key b.key))) := Lib.hid rfl
  clear r1 r2
  obtain ⟨al, ak, ap⟩ := a
  obtain ⟨bl, bk, bp⟩ := b
  simp only at c0 c1 d0 d1 HA HB
  cases hl : ltB al bl with
  | true =>
    have hB : Op.bytesLess al.toList bl.toList = true := hl
    have HH : Hid (ahB ⟨al, ak, ap⟩ ⟨bl, bk, bp⟩ = true) := Lib.hid (by rw [HA.out, hl]; rfl)
    clear hl
    go_enter Tryz.func34, Tryz.ntmps34
    go_wp2
    go_ret
    exact ⟨by rw [HH.out]; rfl, HB.out⟩
  | false =>
    have hB : Op.bytesLess al.toList bl.toList = false := hl
    by_cases he : al = bl
    · subst he
      cases hk : ltB ak bk with
      | true =>
        have hK : Op.bytesLess ak.toList bk.toList = true := hk
        have HH : Hid (ahB ⟨al, ak, ap⟩ ⟨al, bk, bp⟩ = true) := Lib.hid (by rw [HA.out, hl, hk]; simp)
        clear hl hk
        go_enter Tryz.func34, Tryz.ntmps34
        go_wp2
        go_ret
        exact ⟨by rw [HH.out]; rfl, HB.out⟩
      | false =>
        have hK : Op.bytesLess ak.toList bk.toList = false := hk
        have HH : Hid (ahB ⟨al, ak, ap⟩ ⟨al, bk, bp⟩ = false) := Lib.hid (by rw [HA.out, hl, hk]; simp)
        clear hl hk
        go_enter Tryz.func34, Tryz.ntmps34
        go_wp2
        go_ret
        exact ⟨by rw [HH.out]; rfl, HB.out⟩
    · have hne := ne_list he
      have HH : Hid (ahB ⟨al, ak, ap⟩ ⟨bl, bk, bp⟩ = false) := Lib.hid (by rw [HA.out, hl, decide_eq_false he]; rfl)
      clear hl he
      go_enter Tryz.func34, Tryz.ntmps34
      go_wp2
      go_ret
      exact ⟨by rw [HH.out]; rfl, HB.out⟩

/-- The place of a locale's key. -/
def AtP (xs : List Ent) (loc key : BA) (w : World) (e : Ending) (w' : World) : Prop := ∃ i : Int, e = .returned (.int .i64 i) ∧ ((∃ (k : Nat) (y : Ent), i = k ∧ xs[k]? = some y ∧ y.loc = loc ∧ y.key = key) ∨ (i = -1 ∧ ∀ y, y ∈ xs → ¬ (y.loc = loc ∧ y.key = key))) ∧ Below w.heap.size w w'

set_option maxHeartbeats 3200000 in
set_option maxRecDepth 100000 in
theorem at_any (w : World) (a : Option Addr) (cap : Nat) (xs : List Ent) (loc key : BA) (hX : SlE w (Old w) (.slice a xs.length cap) xs) :
    Calls Tryz.prog 24 #[.slice a xs.length cap, .string loc, .string key] w (AtP xs loc key w) := by
  have hl := hX.len
  have HX := Lib.hid hX
  obtain ⟨L, HL⟩ : ∃ L, Hid (L = xs.length) := ⟨_, Lib.hid rfl⟩
  have hL2 : L ≤ 9223372036854775807 := by have := HL.out; omega
  rw [← HL.out] at HX ⊢
  clear hX hl
  go_enter Tryz.func24, Tryz.ntmps24
  go_wp2
  go_loopw [11] (fun i wr => ∃ k : Nat, k ≤ L ∧ i = .int .i64 k ∧ Hid (Below w.heap.size w wr) ∧ Hid (∀ (j : Nat) x, j < k → xs[j]? = some x → ¬ (x.loc = loc ∧ x.key = key))) (fun i _ => L - (intOf i).toNat)
  case atStart => exact ⟨0, by omega, rfl, Lib.hid (Below.refl _ _), Lib.hid (fun j x h => by omega)⟩
  case round =>
    obtain ⟨k, hk, rfl, HB, HA⟩ := hrel
    by_cases hlt : k < L
    · obtain ⟨x, hx⟩ : ∃ x, xs[k]? = some x := ⟨_, List.getElem?_eq_getElem (by have := HL.out; omega)⟩
      obtain ⟨b, off, rfl, -, x0, x1, x2⟩ := (HX.out.old HB.out).get hx
      have HXK := Lib.hid hx
      have HN : Hid (¬ (x.loc = loc ∧ x.key = key) → ∀ (j : Nat) y, j < k + 1 → xs[j]? = some y → ¬ (y.loc = loc ∧ y.key = key)) := Lib.hid (fun hn j y hj hy => by
        rcases Nat.lt_or_eq_of_le (Nat.le_of_lt_succ hj) with h1 | rfl
        · exact HA.out j y h1 hy
        · rw [HXK.out] at hy
          obtain rfl := Option.some.inj hy
          exact hn)
      have HB1 := Lib.hid (below_trans HB.out (below1 wr (.cells (enC x) 38)))
      have R := row_new wr (enC x) 38
      have c0 := R.cell (i := 0) rfl
      have c1 := R.cell (i := 1) rfl
      clear R hx
      obtain ⟨xl, xk, xp⟩ := x
      simp only at x0 x1 x2 HN HXK c0 c1 HB1
      by_cases h1 : xl = loc
      · subst h1
        by_cases h2 : xk = key
        · subst h2
          go_wp2
          go_ret
          exact ⟨k, rfl, .inl ⟨k, _, rfl, HXK.out, rfl, rfl⟩, HB1.out⟩
        · have hne := ne_list h2
          have HN2 := Lib.hid (HN.out (fun h => h2 h.2))
          clear h2
          go_wp2
          go_roundw
          case rel => exact ⟨k + 1, by omega, by go_num, HB1, HN2⟩
          case measure => simp [intOf]; omega
      · have hne := ne_list h1
        have HN2 := Lib.hid (HN.out (fun h => h1 h.1))
        clear h1
        go_wp2
        go_roundw
        case rel => exact ⟨k + 1, by omega, by go_num, HB1, HN2⟩
        case measure => simp [intOf]; omega
    · have HQ : Hid (∀ x, x ∈ xs → ¬ (x.loc = loc ∧ x.key = key)) := Lib.hid (fun x hx => by
        obtain ⟨j, hj⟩ := List.mem_iff_getElem?.1 hx
        exact HA.out j x (by have := (List.getElem?_eq_some_iff.1 hj).1; have := HL.out; omega) hj)
      go_wp2
      go_ret
      exact ⟨-1, rfl, .inr ⟨rfl, HQ.out⟩, HB.out⟩
theorem AtP.yes {xs : List Ent} {loc key : BA} {i : Int} (hs : Srt xs) (h : (∃ (k : Nat) (y : Ent), i = k ∧ xs[k]? = some y ∧ y.loc = loc ∧ y.key = key) ∨ (i = -1 ∧ ∀ y, y ∈ xs → ¬ (y.loc = loc ∧ y.key = key))) :
    (∃ (k : Nat) (y : Ent), i = k ∧ xs[k]? = some y ∧ findC xs loc key = some y) ∨ (i = -1 ∧ findC xs loc key = none) := by
  rcases h with ⟨k, y, h1, h2, h3, h4⟩ | ⟨h1, h2⟩
  · exact .inl ⟨k, y, h1, h2, find_some hs (List.mem_of_getElem? h2) h3 h4⟩
  · exact .inr ⟨h1, find_none.2 h2⟩

theorem neq38 (w : World) (a b c : BA) : (binOp .neq 38 (.agg #[.string a, .string b, .string c]) (.agg #[.string a, .string b, .string c])).run Tryz.prog w = .ok (.bool false) w := by
  have hS : Tryz.prog.underlying 38 = some (.struct (Tryz.prog.fieldsOf 38)) := by kernel_rfl
  have hp : Tryz.prog.stoodInHeld 38 = false := by kernel_rfl
  have u9 := Tryz.underlying9
  have a9 := Tryz.isAgg9
  have z9 := Tryz.sizeOf9
  rw [run_neq_struct, show (10000 : Nat) = 9999 + 1 from rfl, run_equalIn_agg w 9999 38 _ _ hS hp]
  simp only [Program.fieldsOf, Tryz.underlying38]
  go_simp
theorem guard38 : Tryz.prog.eqGuardType Tryz.prog.depth 38 = false := by kernel_rfl

set_option maxHeartbeats 1600000 in
set_option maxRecDepth 100000 in
theorem like_any (w : World) (a1 a2 : Option Addr) (c1 c2 : Nat) (xs : List Ent) (h1 : SlE w (Old w) (.slice a1 xs.length c1) xs) (h2 : SlE w (Old w) (.slice a2 xs.length c2) xs) :
    Calls Tryz.prog 15 #[.slice a1 xs.length c1, .slice a2 xs.length c2] w fun e w' => e = .returned (.bool true) ∧ Below w.heap.size w w' := by
  have hl := h1.len
  have H1 := Lib.hid h1
  have H2 := Lib.hid h2
  obtain ⟨L, HL⟩ : ∃ L, Hid (L = xs.length) := ⟨_, Lib.hid rfl⟩
  have hL2 : L ≤ 9223372036854775807 := by have := HL.out; omega
  rw [← HL.out] at H1 H2 ⊢
  clear h1 h2 hl
  go_enter Tryz.func15, Tryz.ntmps15
  go_wp2
  go_loopw [13] (fun i wr => ∃ k m : Nat, k ≤ L ∧ i = .int .i64 k ∧ wr = w.drewN m) (fun i _ => L - (intOf i).toNat)
  case atStart => exact ⟨0, 0, by omega, rfl, rfl⟩
  case round =>
    obtain ⟨k, m, hk, rfl, rfl⟩ := hrel
    by_cases hlt : k < L
    · obtain ⟨x, hx⟩ : ∃ x, xs[k]? = some x := ⟨_, List.getElem?_eq_getElem (by have := HL.out; omega)⟩
      obtain ⟨b1, o1, rfl, hb1, i1, i2, i3⟩ := H1.out.get hx
      obtain ⟨b2, o2, rfl, hb2, j1, j2, j3⟩ := H2.out.get hx
      have hne := neq38
      have hgd := guard38
      obtain ⟨kk, bb, rr⟩ := x
      simp only at i1 i2 i3 j1 j2 j3
      clear hx
      go_wp2
      go_quiet (fail)
      go_wp2
      go_roundw
      case rel => exact ⟨k + 1, _, by omega, by go_num, rfl⟩
      case measure => simp [intOf]; omega
    · go_wp2
      go_ret
      exact ⟨rfl, below_drewN (Below.refl _ _) m⟩

/-- The entries that the law looks at. -/
def fewF (xs : List Ent) : List Ent := if 40 < xs.length ∧ xs.length < 200 then xs.take 40 else xs
theorem few_mem {xs : List Ent} {x : Ent} (h : x ∈ fewF xs) : x ∈ xs := by
  unfold fewF at h
  split at h
  · exact List.mem_of_mem_take h
  · exact h
set_option maxHeartbeats 1600000 in
set_option maxRecDepth 100000 in
theorem few_any (w : World) (a : Option Addr) (cap : Nat) (xs : List Ent) (hX : SlE w (Old w) (.slice a xs.length cap) xs) :
    Calls Tryz.prog 9 #[.slice a xs.length cap] w fun e w' => e = .returned (.slice a (fewF xs).length cap) ∧ w = w' ∧ SlE w (Old w) (.slice a (fewF xs).length cap) (fewF xs) := by
  have hl := hX.len
  by_cases hf : 40 < xs.length ∧ xs.length < 200
  · have HF : Hid ((fewF xs).length = 40) := Lib.hid (by unfold fewF; rw [if_pos hf, List.length_take]; omega)
    have HT : Hid (SlE w (Old w) (.slice a 40 cap) (fewF xs)) := Lib.hid (by unfold fewF; rw [if_pos hf]; exact hX.take 40 (by omega))
    obtain ⟨hf1, hf2⟩ := hf
    obtain ⟨x, hx⟩ : ∃ x, xs[0]? = some x := ⟨_, List.getElem?_eq_getElem (by omega)⟩
    obtain ⟨b, off, rfl, -⟩ := hX.get hx
    have h6 : (40 : Int) < (xs.length : Int) := by omega
    have h7 : (40 : Int) ≤ (cap : Int) := by omega
    have h8 : (xs.length : Int) < 200 := by omega
    clear hX hx hl
    generalize xs.length = L at *
    go_enter Tryz.func9, Tryz.ntmps9
    go_wp2
    go_ret
    exact ⟨by rw [HF.out]; rfl, rfl, by rw [HF.out]; exact HT.out⟩
  · have HF : Hid (fewF xs = xs) := Lib.hid (by unfold fewF; rw [if_neg hf])
    have HX := Lib.hid hX
    clear hX
    by_cases h1 : 40 < xs.length
    · have h2 : ¬ xs.length < 200 := fun h => hf ⟨h1, h⟩
      have h3 : (40 : Int) < (xs.length : Int) := by omega
      have h4 : ¬ (xs.length : Int) < 200 := by omega
      clear hf h1 h2
      obtain ⟨L, HL⟩ : ∃ L, Hid (L = xs.length) := ⟨_, Lib.hid rfl⟩
      rw [HF.out]
      rw [← HL.out] at h3 h4 hl HX ⊢
      go_enter Tryz.func9, Tryz.ntmps9
      go_wp2
      go_ret
      exact ⟨rfl, rfl, HX.out⟩
    · have h3 : ¬ (40 : Int) < (xs.length : Int) := by omega
      clear hf h1
      obtain ⟨L, HL⟩ : ∃ L, Hid (L = xs.length) := ⟨_, Lib.hid rfl⟩
      rw [HF.out]
      rw [← HL.out] at h3 hl HX ⊢
      go_enter Tryz.func9, Tryz.ntmps9
      go_wp2
      go_ret
      exact ⟨rfl, rfl, HX.out⟩
end Go.Proofs.YtdnedbcmgkilaaaGreatDoor.Ca
