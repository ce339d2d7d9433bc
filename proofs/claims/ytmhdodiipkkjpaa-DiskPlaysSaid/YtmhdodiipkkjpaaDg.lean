/- Package disk: Right; the document's Size and Right. -/
import Derived.Test.YtmhdodiipkkjpaaDr
namespace Go.Proofs.Ytmhdodiipkkjpaa.Dk
open Go.RowKit

abbrev diV (d : Dsk) (v : Value) : Value := .agg #[.int .i64 d.room, v, .int .i64 d.left, .bool d.down]
abbrev diC (d : Dsk) (v : Value) : Array Value := #[.int .i64 d.room, v, .int .i64 d.left, .bool d.down]
/-- A disk in memory. -/
structure DAt (w : World) (d : Dsk) (a : Option Addr) (cap : Nat) : Prop where
  fs : SlF w (Old w) (.slice a d.fs.length cap) d.fs
  fit : ∀ x, x ∈ d.fs → FitF x
theorem DAt.old {w w' : World} {d : Dsk} {a : Option Addr} {cap : Nat} (h : DAt w d a cap) (hb : Below w.heap.size w w') : DAt w' d a cap := ⟨h.fs.old hb, h.fit⟩
theorem siz_mem {x : Fil} : ∀ {l : List Fil}, x ∈ l → x.sy.size + x.tl.size ≤ sizF l
  | y :: r, h => by
    rw [sizF]
    rcases List.mem_cons.1 h with rfl | h
    · omega
    · have := siz_mem h; omega
theorem RgtD.fit {d : Dsk} (h : RgtD d) {x : Fil} (hx : x ∈ d.fs) : x.nm.size ≤ 16 ∧ x.sy.size + x.tl.size ≤ 1048576 := by
  have h1 := (nmB_size (h.fs.nms x hx)).2
  have h2 := siz_mem hx
  have h3 := h.sz
  have h4 := h.hi
  exact ⟨h1, by omega⟩
theorem RgtD.fits {d : Dsk} (h : RgtD d) : ∀ x, x ∈ d.fs → FitF x := fun x hx => by
  obtain ⟨h1, h2⟩ := h.fit hx
  exact ⟨by omega, by omega, by omega⟩
/-- Whether a disk may be. -/
def RgtP (d : Dsk) (w : World) (e : Ending) (w' : World) : Prop := ∃ q : Bool, e = .returned (.bool q) ∧ (q = true ↔ RgtD d) ∧ Below w.heap.size w w'
theorem RgtP.no {d : Dsk} {w w' : World} (h : ¬ RgtD d) (hb : Below w.heap.size w w') : RgtP d w (.returned (.bool false)) w' := ⟨false, rfl, ⟨fun h => (by cases h), fun k => absurd k h⟩, hb⟩
theorem RgtP.of {d : Dsk} {w w' : World} {q : Bool} (h : q = true ↔ RgtD d) (hb : Below w.heap.size w w') : RgtP d w (.returned (.bool q)) w' := ⟨q, rfl, h, hb⟩

set_option maxHeartbeats 3200000 in
set_option maxRecDepth 100000 in
theorem right_any (w : World) (d : Dsk) (a : Option Addr) (cap : Nat) (h : DAt w d a cap) :
    Calls Try.prog 11 #[diV d (.slice a d.fs.length cap)] w (RgtP d w) := by
  obtain ⟨rm, fs, lf, dn⟩ := d
  have HRF := Lib.hid (fun W (hb : Below w.heap.size w W) => rightFiles_any W a cap fs rm (h.fs.old hb) h.fit)
  obtain ⟨L, HL⟩ : ∃ L, Hid (L = fs.length) := ⟨_, Lib.hid rfl⟩
  simp only
  rw [← HL.out] at HRF ⊢
  clear h
  have R := row_new w #[.int .i64 rm, .slice a L cap, .int .i64 lf, .bool dn] 24
  have c0 := R.cell (i := 0) rfl
  have c1 := R.cell (i := 1) rfl
  have c2 := R.cell (i := 2) rfl
  have HB := Lib.hid (below1 w (.cells #[.int .i64 rm, .slice a L cap, .int .i64 lf, .bool dn] 24))
  clear R
  by_cases h1 : 0 ≤ rm
  · have u1 : decide (0 ≤ rm) = true := decide_eq_true h1
    by_cases h2 : rm ≤ 1048576
    · have u2 : decide (rm ≤ 1048576) = true := decide_eq_true h2
      have HRL := Lib.hid (fun W => rightLeft_any lf W)
      obtain ⟨q, Hq⟩ : ∃ q, Hid (q = lfB lf) := ⟨_, Lib.hid rfl⟩
      rw [← Hq.out] at HRL
      have HQ : Hid (∀ p : Bool, q = true → (p = true ↔ RgtF fs ∧ (sizF fs : Int) ≤ rm) → (p = true ↔ RgtD ⟨rm, fs, lf, dn⟩)) := Lib.hid (fun p hq hp =>
        ⟨fun hh => ⟨h1, h2, (hp.1 hh).1, (hp.1 hh).2, by rw [← hq]; exact Hq.out.symm⟩, fun hh => hp.2 ⟨hh.fs, hh.sz⟩⟩)
      have HN : Hid (q = false → ¬ RgtD ⟨rm, fs, lf, dn⟩) := Lib.hid (fun hq hh => by have := hh.left; simp only at this; rw [← Hq.out, hq] at this; cases this)
      clear h1 h2
      cases q with
      | true =>
        go_enter Try.func11, Try.ntmps11
        go_wp2_with fail
        refine (HRL.out _).mono ?_
        rintro e w1 ⟨rfl, rfl⟩
        go_wp2_with fail
        refine (HRF.out _ HB.out).mono ?_
        rintro e w2 ⟨p, rfl, hp, hb⟩
        have HFIN : Hid (RgtP ⟨rm, fs, lf, dn⟩ w (.returned (.bool p)) w2) := Lib.hid (RgtP.of (HQ.out p trivial hp) (below_trans HB.out hb))
        clear hp hb HQ HN
        cases p with
        | true =>
          go_wp2
          go_ret
          exact HFIN.out
        | false =>
          go_wp2
          go_ret
          exact HFIN.out
      | false =>
        go_enter Try.func11, Try.ntmps11
        go_wp2_with fail
        refine (HRL.out _).mono ?_
        rintro e w1 ⟨rfl, rfl⟩
        go_wp2
        go_ret
        exact RgtP.no (HN.out trivial) HB.out
    · have u2 : decide (rm ≤ 1048576) = false := decide_eq_false h2
      have HN : Hid (¬ RgtD ⟨rm, fs, lf, dn⟩) := Lib.hid (fun hh => h2 hh.hi)
      clear h1 h2
      go_enter Try.func11, Try.ntmps11
      go_wp2
      go_ret
      exact RgtP.no HN.out HB.out
  · have u1 : decide (0 ≤ rm) = false := decide_eq_false h1
    have HN : Hid (¬ RgtD ⟨rm, fs, lf, dn⟩) := Lib.hid (fun hh => h1 hh.lo)
    clear h1
    go_enter Try.func11, Try.ntmps11
    go_wp2
    go_ret
    exact RgtP.no HN.out HB.out

/-- A size, as far as it is not too much. -/
def SzK (n m : Nat) : Prop := (n ≤ 1048576 ∧ n = m) ∨ (1048576 < n ∧ 1048576 < m ∧ n ≤ 281474976710656)
theorem SzK.le {n m : Nat} (h : SzK n m) {r : Int} (hr : r ≤ 1048576) : (n : Int) ≤ r ↔ (m : Int) ≤ r := by
  rcases h with ⟨_, rfl⟩ | ⟨_, _, _⟩
  · exact Iff.rfl
  · constructor <;> intro h <;> omega
theorem SzK.small {n m : Nat} (h : SzK n m) : n ≤ 281474976710656 := by
  rcases h with ⟨_, rfl⟩ | ⟨_, _, _⟩ <;> omega
def SzP (fs : List Fil) (w : World) (e : Ending) (w' : World) : Prop := ∃ n : Nat, e = .returned (.int .i64 n) ∧ SzK n (sizF fs) ∧ Below w.heap.size w w'
theorem siz_part {l : List Fil} {k : Nat} {x : Fil} (h : l[k]? = some x) : sizF (l.take k) + (x.sy.size + x.tl.size) ≤ sizF l := by
  have h1 := siz_take h
  have h2 : ∀ (l : List Fil) (k : Nat), sizF (l.take k) ≤ sizF l := by
    intro l
    induction l with
    | nil => simp
    | cons y r ih =>
      intro k
      cases k with
      | zero => simp [sizF]
      | succ k => rw [List.take_succ_cons, sizF, sizF]; have := ih k; omega
  have := h2 l (k + 1)
  omega

set_option maxHeartbeats 3200000 in
theorem rsize_any (w : World) (a : Option Addr) (cap : Nat) (fs : List Fil) (hX : SlF w (Old w) (.slice a fs.length cap) fs) (hF : ∀ x, x ∈ fs → FitF x) :
    Calls Try.prog 25 #[.slice a fs.length cap] w (SzP fs w) := by
  have hl := hX.len
  have HX := Lib.hid hX
  have HF := Lib.hid hF
  obtain ⟨L, HL⟩ : ∃ L, Hid (L = fs.length) := ⟨_, Lib.hid rfl⟩
  have hL : L ≤ 9223372036854775807 := by have := HL.out; omega
  rw [← HL.out] at HX ⊢
  clear hX hF hl
  go_enter Try.func25, Try.ntmps25
  go_wp2
  go_loopw [3, 8] (fun t i wr => ∃ k n : Nat, k ≤ L ∧ i = .int .i64 k ∧ t = .int .i64 n ∧ n ≤ 281474976710656 ∧ Hid (SzK n (sizF (fs.take k))) ∧ Hid (Below w.heap.size w wr)) (fun _ i _ => L - (intOf i).toNat)
  case atStart => exact ⟨0, 0, Nat.zero_le _, rfl, rfl, by omega, Lib.hid (.inl ⟨by omega, rfl⟩), Lib.hid (Below.refl _ _)⟩
  case round =>
    obtain ⟨k, n, hk, rfl, rfl, hn, HN, HB⟩ := hrel
    by_cases hlt : k < L
    · obtain ⟨x, hx⟩ : ∃ x, fs[k]? = some x := ⟨_, List.getElem?_eq_getElem (by have := HL.out; omega)⟩
      obtain ⟨b, off, rfl, -, x0, x1, x2⟩ := (HX.out.old HB.out).get hx
      have hfit := HF.out x (mem_at hx)
      have hf1 := hfit.sy
      have hf2 := hfit.tl
      have HT := Lib.hid (siz_take hx)
      have hbo := below1 wr (.cells (fiC x) 44)
      have R := row_new wr (fiC x) 44
      have d1 := R.cell (i := 1) rfl
      have d2 := R.cell (i := 2) rfl
      have HB2 := Lib.hid (below_trans HB.out hbo)
      obtain ⟨xn, xs, xt⟩ := x
      simp only at x0 x1 x2 d1 d2 hf1 hf2 HT HB2
      clear R hbo hx hfit
      by_cases h1 : n ≤ 1048576
      · have u1 : decide ((n : Int) ≤ 1048576) = true := decide_eq_true (by omega)
        by_cases h2 : n + xs.size ≤ 1048576
        · have u2 : decide ((n : Int) + (xs.size : Int) ≤ 1048576) = true := decide_eq_true (by omega)
          have HV : Hid (SzK (n + xs.size + xt.size) (sizF (fs.take (k + 1)))) := Lib.hid (by
            rw [HT.out]
            rcases HN.out with ⟨_, h⟩ | ⟨_, _, _⟩
            · unfold SzK; omega
            · omega)
          clear h1 h2
          go_wp2
          go_roundw
          case rel => exact ⟨k + 1, n + xs.size + xt.size, by omega, by go_num, congrArg (Value.int .i64) (by push_cast; omega), HV.out.small, HV, HB2⟩
          case measure => simp [intOf]; omega
        · have u2 : decide ((n : Int) + (xs.size : Int) ≤ 1048576) = false := decide_eq_false (by omega)
          have HV : Hid (SzK (n + xs.size) (sizF (fs.take (k + 1)))) := Lib.hid (by
            rw [HT.out]
            rcases HN.out with ⟨_, h⟩ | ⟨_, _, _⟩
            · unfold SzK; omega
            · omega)
          clear h1 h2
          go_wp2
          go_roundw
          case rel => exact ⟨k + 1, n + xs.size, by omega, by go_num, congrArg (Value.int .i64) (by push_cast; omega), HV.out.small, HV, HB2⟩
          case measure => simp [intOf]; omega
      · have u1 : decide ((n : Int) ≤ 1048576) = false := decide_eq_false (by omega)
        have HV : Hid (SzK n (sizF (fs.take (k + 1)))) := Lib.hid (by
          rw [HT.out]
          rcases HN.out with ⟨_, h⟩ | ⟨_, _, _⟩
          · omega
          · unfold SzK; omega)
        clear h1
        go_wp2
        go_roundw
        case rel => exact ⟨k + 1, n, by omega, by go_num, rfl, HV.out.small, HV, HB2⟩
        case measure => simp [intOf]; omega
    · have HK : Hid (SzK n (sizF fs)) := Lib.hid (by have := HN.out; rwa [List.take_of_length_le (by have := HL.out; omega)] at this)
      go_wp2
      go_ret
      exact ⟨n, rfl, HK.out, HB.out⟩

set_option maxHeartbeats 6400000 in
set_option maxRecDepth 100000 in
theorem rright_any (w : World) (d : Dsk) (a : Option Addr) (cap : Nat) (h : DAt w d a cap) :
    Calls Try.prog 12 #[diV d (.slice a d.fs.length cap)] w (RgtP d w) := by
  obtain ⟨rm, fs, lf, dn⟩ := d
  have HX := Lib.hid h.fs
  have HF := Lib.hid h.fit
  have hll := h.fs.len
  have HZ := Lib.hid (fun W (hb : Below w.heap.size w W) => rsize_any W a cap fs (h.fs.old hb) h.fit)
  obtain ⟨L, HL⟩ : ∃ L, Hid (L = fs.length) := ⟨_, Lib.hid rfl⟩
  have hL : L ≤ 9223372036854775807 := by have := HL.out; simp only at hll; omega
  simp only at HX HF hll ⊢
  rw [← HL.out] at HX HZ ⊢
  clear h hll
  have R := row_new w #[.int .i64 rm, .slice a L cap, .int .i64 lf, .bool dn] 24
  have c0 := R.cell (i := 0) rfl
  have c1 := R.cell (i := 1) rfl
  have c2 := R.cell (i := 2) rfl
  have HB0 := Lib.hid (below1 w (.cells #[.int .i64 rm, .slice a L cap, .int .i64 lf, .bool dn] 24))
  have HD := Lib.hid R
  clear R
  by_cases h0 : 0 ≤ rm
  · have u0 : decide (rm < 0) = false := decide_eq_false (by omega)
    by_cases h1 : rm ≤ 1048576
    · have u1 : decide (1048576 < rm) = false := decide_eq_false (by omega)
      by_cases h2 : L ≤ 8
      · have u2 : decide (8 < (L : Int)) = false := decide_eq_false (by omega)
        by_cases h3 : -1 ≤ lf
        · have u3 : decide (lf < -1) = false := decide_eq_false (by omega)
          by_cases h4 : lf ≤ 1073741824
          · have u4 : decide (1073741824 < lf) = false := decide_eq_false (by omega)
            have HQ : Hid (RgtF fs → ∀ n : Nat, SzK n (sizF fs) → ((n : Int) ≤ rm ↔ RgtD ⟨rm, fs, lf, dn⟩)) := Lib.hid (fun hf n hn => by
              rw [hn.le h1]
              exact ⟨fun hh => ⟨h0, h1, hf, hh, lfB_iff.2 ⟨h3, h4⟩⟩, fun hh => hh.sz⟩)
            have HNF : Hid (¬ RgtF fs → ¬ RgtD ⟨rm, fs, lf, dn⟩) := Lib.hid (fun h hh => h hh.fs)
            have HRM := Lib.hid h1
            clear h0 h1 h3 h4
            go_enter Try.func12, Try.ntmps12
            go_wp2
            generalize hW0 : w.alloc (.cells #[.int .i64 rm, .slice a L cap, .int .i64 lf, .bool dn] 24) = W0 at *
            clear hW0 c0 c1 c2
            go_loopw [32] (fun i wr => ∃ k : Nat, k ≤ L ∧ i = .int .i64 k ∧ Hid (RgtK fs k) ∧ Hid (Below W0.heap.size W0 wr)) (fun i _ => L - (intOf i).toNat)
            case atStart => exact ⟨0, Nat.zero_le _, rfl, Lib.hid (RgtK.zero _), Lib.hid (Below.refl _ _)⟩
            case round =>
              obtain ⟨k, hk, rfl, HR, HB⟩ := hrel
              by_cases hlt : k < L
              · obtain ⟨x, hx⟩ : ∃ x, fs[k]? = some x := ⟨_, List.getElem?_eq_getElem (by have := HL.out; omega)⟩
                have HXr := Lib.hid (HX.out.old (below_trans HB0.out HB.out))
                obtain ⟨b, off, rfl, hbo, x0, x1, x2⟩ := HXr.out.get hx
                have HFN := Lib.hid (HF.out x (mem_at hx)).nm
                have hbo1 := below1 wr (.cells (fiC x) 44)
                have R := row_new wr (fiC x) 44
                have HNX := Lib.hid (HR.out.next hx)
                have HNO : Hid (nmB x.nm = false → ¬ RgtF fs) := Lib.hid (fun h hr => by have := hr.nms x (mem_at hx); rw [h] at this; cases this)
                have HB1 := Lib.hid (below_trans HB.out hbo1)
                have HROW := Lib.hid R
                have HD1 := Lib.hid (HD.out.below HB1.out)
                have HX1 := Lib.hid (HXr.out.old hbo1)
                have HXX := Lib.hid hx
                obtain ⟨xn, xs, xt⟩ := x
                simp only at x0 x1 x2 HFN HNX HNO HB1 HROW HD1
                clear R hbo1 hx
                go_wp2
                generalize hW1 : wr.alloc (.cells (fiC ⟨xn, xs, xt⟩) 44) = W1 at *
                clear hW1 x0 x1 x2
                have HC1 : Hid (∀ W, Below W1.heap.size W1 W → W.cell? ⟨wr.heap.size, 0, none⟩ = some (.string xn) ∧ W.cell? ⟨w.heap.size, 1, none⟩ = some (.slice (some ⟨b, off, none⟩) L cap)) := Lib.hid (fun W h => ⟨(HROW.out.below h).cell (i := 0) rfl, (HD1.out.below h).cell (i := 1) rfl⟩)
                have HRN := Lib.hid (fun W => rname_any xn W HFN.out)
                obtain ⟨q, Hq⟩ : ∃ q, Hid (q = nmB xn) := ⟨_, Lib.hid rfl⟩
                rw [← Hq.out] at HRN HNX HNO
                cases q with
                | false =>
                  have HDR := Lib.hid (Below.refl W1.heap.size W1).drew
                  have HS := HC1
                  have hs0 := HS.out _ HDR.out
                  refine wp_region_noPanic ?_
                  refine wp_region_held_drew (S := fun W => W.cell? ⟨wr.heap.size, 0, none⟩ = some (.string xn) ∧ W.cell? ⟨w.heap.size, 1, none⟩ = some (.slice (some ⟨b, off, none⟩) L cap)) (by kernel_rfl) hs0 (fun hHeld => ?_)
                  clear hs0
                  generalize W1.drew = w4 at *
                  refine wpAnyH_take (i := 0) (oi := { dst := some 37, op := Go.Op.fieldAddr 44 (Go.Operand.tmp 4) 0, type := 0, pos := "ref.go:37", after := #[], guard := none }) (v := ?_) rfl (by kernel_rfl) (by kernel_rfl) (by kernel_rfl) (fun _ _ _ h => h) (Or.inl ⟨by rfl, ?_⟩) (by assumption) ?_
                  rotate_left
                  · (intro w hSw; (try dsimp only at hSw); go_simp) <;> with_reducible rfl
                  simp only [Act.put, List.setIfInBounds_toArray, List.set_cons_zero, List.set_cons_succ]
                  refine wpAnyH_take (i := 1) (oi := { dst := some 38, op := Go.Op.load 9 (Go.Operand.tmp 37), type := 9, pos := "ref.go:37", after := #[{ on := 0, ground := Go.Ground.data }], guard := none }) (v := ?_) rfl (by kernel_rfl) (by kernel_rfl) (by kernel_rfl) (fun _ _ _ h => h) (Or.inl ⟨by rfl, ?_⟩) (by assumption) ?_
                  rotate_left
                  · (intro w hSw; (try dsimp only at hSw); go_simp) <;> with_reducible rfl
                  simp only [Act.put, List.setIfInBounds_toArray, List.set_cons_zero, List.set_cons_succ]
                  refine wpAnyH_ready (rs := [2]) (by kernel_rfl) (by simp) ?_
                  refine AllReadyH.cons (o := { dst := some 39, op := Go.Op.call { callee := Go.Callee.value (Go.Operand.func 19), args := #[Go.Operand.tmp 38], argTypes := #[9] }, type := 4, pos := "ref.go:37", after := #[{ on := 1, ground := Go.Ground.data }], guard := none }) rfl (fun K hK => ?_) AllReadyH.nil
                  go_simp
                  refine (HRN.out w4).mono ?_
                  rintro e w5 ⟨rfl, rfl⟩
                  go_wp2_with fail
                  refine hK.out _ _ ?_ (fun hz2 => ?_)
                  · exact HS.out _ HDR.out
                  clear hK K hHeld 
                  try simp only [Act.put, List.setIfInBounds_toArray, List.set_cons_zero, List.set_cons_succ]
                  refine wpAnyH_take (i := 3) (oi := { dst := some 40, op := Go.Op.unOp Go.UnOp.not 4 (Go.Operand.tmp 39), type := 4, pos := "ref.go:37", after := #[{ on := 2, ground := Go.Ground.data }], guard := none }) (v := ?_) rfl (by kernel_rfl) (by kernel_rfl) (by kernel_rfl) (fun _ _ _ h => h) (Or.inl ⟨by rfl, ?_⟩) (by assumption) ?_
                  rotate_left
                  · (intro w hSw; (try dsimp only at hSw); go_simp) <;> with_reducible rfl
                  simp only [Act.put, List.setIfInBounds_toArray, List.set_cons_zero, List.set_cons_succ]
                  refine wpAnyH_take (i := 4) (oi := { dst := some 41, op := Go.Op.move (Go.Operand.tmp 40), type := 4, pos := "ref.go:37", after := #[{ on := 3, ground := Go.Ground.data }, { on := 2, ground := Go.Ground.chain }], guard := none }) (v := ?_) rfl (by kernel_rfl) (by kernel_rfl) (by kernel_rfl) (fun _ _ _ h => h) (Or.inl ⟨by rfl, ?_⟩) (by assumption) ?_
                  rotate_left
                  · (intro w hSw; (try dsimp only at hSw); go_simp) <;> with_reducible rfl
                  simp only [Act.put, List.setIfInBounds_toArray, List.set_cons_zero, List.set_cons_succ]
                  refine wpAnyH_skip (i := 5) (d := 42) (by kernel_rfl) (by kernel_rfl) (by kernel_rfl) (by kernel_rfl) (fun _ _ _ h => h) (by assumption) ?_
                  simp only [Act.put, List.setIfInBounds_toArray, List.set_cons_zero, List.set_cons_succ]
                  refine wpAnyH_skip (i := 6) (d := 43) (by kernel_rfl) (by kernel_rfl) (by kernel_rfl) (by kernel_rfl) (fun _ _ _ h => h) (by assumption) ?_
                  simp only [Act.put, List.setIfInBounds_toArray, List.set_cons_zero, List.set_cons_succ]
                  refine wpAnyH_skip (i := 7) (d := 44) (by kernel_rfl) (by kernel_rfl) (by kernel_rfl) (by kernel_rfl) (fun _ _ _ h => h) (by assumption) ?_
                  simp only [Act.put, List.setIfInBounds_toArray, List.set_cons_zero, List.set_cons_succ]
                  refine wpAnyH_skip (i := 8) (d := 45) (by kernel_rfl) (by kernel_rfl) (by kernel_rfl) (by kernel_rfl) (fun _ _ _ h => h) (by assumption) ?_
                  simp only [Act.put, List.setIfInBounds_toArray, List.set_cons_zero, List.set_cons_succ]
                  refine wpAnyH_skip (i := 9) (d := 46) (by kernel_rfl) (by kernel_rfl) (by kernel_rfl) (by kernel_rfl) (fun _ _ _ h => h) (by assumption) ?_
                  simp only [Act.put, List.setIfInBounds_toArray, List.set_cons_zero, List.set_cons_succ]
                  refine wpAnyH_skip (i := 10) (d := 47) (by kernel_rfl) (by kernel_rfl) (by kernel_rfl) (by kernel_rfl) (fun _ _ _ h => h) (by assumption) ?_
                  simp only [Act.put, List.setIfInBounds_toArray, List.set_cons_zero, List.set_cons_succ]
                  refine wpAnyH_skip (i := 11) (d := 48) (by kernel_rfl) (by kernel_rfl) (by kernel_rfl) (by kernel_rfl) (fun _ _ _ h => h) (by assumption) ?_
                  simp only [Act.put, List.setIfInBounds_toArray, List.set_cons_zero, List.set_cons_succ]
                  refine wpAnyH_skip (i := 12) (d := 49) (by kernel_rfl) (by kernel_rfl) (by kernel_rfl) (by kernel_rfl) (fun _ _ _ h => h) (by assumption) ?_
                  simp only [Act.put, List.setIfInBounds_toArray, List.set_cons_zero, List.set_cons_succ]
                  refine wpAnyH_skip (i := 13) (d := 50) (by kernel_rfl) (by kernel_rfl) (by kernel_rfl) (by kernel_rfl) (fun _ _ _ h => h) (by assumption) ?_
                  simp only [Act.put, List.setIfInBounds_toArray, List.set_cons_zero, List.set_cons_succ]
                  refine wpAnyH_skip (i := 14) (d := 51) (by kernel_rfl) (by kernel_rfl) (by kernel_rfl) (by kernel_rfl) (fun _ _ _ h => h) (by assumption) ?_
                  simp only [Act.put, List.setIfInBounds_toArray, List.set_cons_zero, List.set_cons_succ]
                  refine wpAnyH_skip (i := 15) (d := 52) (by kernel_rfl) (by kernel_rfl) (by kernel_rfl) (by kernel_rfl) (fun _ _ _ h => h) (by assumption) ?_
                  simp only [Act.put, List.setIfInBounds_toArray, List.set_cons_zero, List.set_cons_succ]
                  refine wpAnyH_skip (i := 16) (d := 53) (by kernel_rfl) (by kernel_rfl) (by kernel_rfl) (by kernel_rfl) (fun _ _ _ h => h) (by assumption) ?_
                  simp only [Act.put, List.setIfInBounds_toArray, List.set_cons_zero, List.set_cons_succ]
                  refine wpAnyH_skip (i := 17) (d := 54) (by kernel_rfl) (by kernel_rfl) (by kernel_rfl) (by kernel_rfl) (fun _ _ _ h => h) (by assumption) ?_
                  simp only [Act.put, List.setIfInBounds_toArray, List.set_cons_zero, List.set_cons_succ]
                  refine wpAnyH_skip (i := 18) (d := 55) (by kernel_rfl) (by kernel_rfl) (by kernel_rfl) (by kernel_rfl) (fun _ _ _ h => h) (by assumption) ?_
                  simp only [Act.put, List.setIfInBounds_toArray, List.set_cons_zero, List.set_cons_succ]
                  refine wpAnyH_take (i := 19) (oi := { dst := some 56, op := Go.Op.pick (Go.Operand.tmp 41) (Go.Operand.const (Go.Value.bool true)) (Go.Operand.tmp 55), type := 4, pos := "ref.go:37", after := #[{ on := 4, ground := Go.Ground.data }, { on := 18, ground := Go.Ground.data }], guard := none }) (v := ?_) rfl (by kernel_rfl) (by kernel_rfl) (by kernel_rfl) (fun _ _ _ h => h) (Or.inl ⟨by rfl, ?_⟩) (by assumption) ?_
                  rotate_left
                  · (intro w hSw; (try dsimp only at hSw); go_simp) <;> with_reducible rfl
                  simp only [Act.put, List.setIfInBounds_toArray, List.set_cons_zero, List.set_cons_succ]
                  refine wpAnyH_done (by kernel_rfl) ?_ _
                  refine NoPanic.normal ?_
                  go_wp2
                  go_ret
                  exact RgtP.no (HNF.out (HNO.out trivial)) (below_trans HB0.out (below_trans HB1.out HDR.out))
                | true =>
                  by_cases hk0 : k = 0
                  · subst hk0
                    have HN2 := Lib.hid (HNX.out rfl (fun j y h => by omega))
                    have HDR := Lib.hid (Below.refl W1.heap.size W1).drew
                    have HS := HC1
                    have hs0 := HS.out _ HDR.out
                    refine wp_region_noPanic ?_
                    refine wp_region_held_drew (S := fun W => W.cell? ⟨wr.heap.size, 0, none⟩ = some (.string xn) ∧ W.cell? ⟨w.heap.size, 1, none⟩ = some (.slice (some ⟨b, off, none⟩) L cap)) (by kernel_rfl) hs0 (fun hHeld => ?_)
                    clear hs0
                    generalize W1.drew = w4 at *
                    refine wpAnyH_take (i := 0) (oi := { dst := some 37, op := Go.Op.fieldAddr 44 (Go.Operand.tmp 4) 0, type := 0, pos := "ref.go:37", after := #[], guard := none }) (v := ?_) rfl (by kernel_rfl) (by kernel_rfl) (by kernel_rfl) (fun _ _ _ h => h) (Or.inl ⟨by rfl, ?_⟩) (by assumption) ?_
                    rotate_left
                    · (intro w hSw; (try dsimp only at hSw); go_simp) <;> with_reducible rfl
                    simp only [Act.put, List.setIfInBounds_toArray, List.set_cons_zero, List.set_cons_succ]
                    refine wpAnyH_take (i := 1) (oi := { dst := some 38, op := Go.Op.load 9 (Go.Operand.tmp 37), type := 9, pos := "ref.go:37", after := #[{ on := 0, ground := Go.Ground.data }], guard := none }) (v := ?_) rfl (by kernel_rfl) (by kernel_rfl) (by kernel_rfl) (fun _ _ _ h => h) (Or.inl ⟨by rfl, ?_⟩) (by assumption) ?_
                    rotate_left
                    · (intro w hSw; (try dsimp only at hSw); go_simp) <;> with_reducible rfl
                    simp only [Act.put, List.setIfInBounds_toArray, List.set_cons_zero, List.set_cons_succ]
                    refine wpAnyH_ready (rs := [2]) (by kernel_rfl) (by simp) ?_
                    refine AllReadyH.cons (o := { dst := some 39, op := Go.Op.call { callee := Go.Callee.value (Go.Operand.func 19), args := #[Go.Operand.tmp 38], argTypes := #[9] }, type := 4, pos := "ref.go:37", after := #[{ on := 1, ground := Go.Ground.data }], guard := none }) rfl (fun K hK => ?_) AllReadyH.nil
                    go_simp
                    refine (HRN.out w4).mono ?_
                    rintro e w5 ⟨rfl, rfl⟩
                    go_wp2_with fail
                    refine hK.out _ _ ?_ (fun hz2 => ?_)
                    · exact HS.out _ HDR.out
                    clear hK K hHeld 
                    try simp only [Act.put, List.setIfInBounds_toArray, List.set_cons_zero, List.set_cons_succ]
                    refine wpAnyH_take (i := 3) (oi := { dst := some 40, op := Go.Op.unOp Go.UnOp.not 4 (Go.Operand.tmp 39), type := 4, pos := "ref.go:37", after := #[{ on := 2, ground := Go.Ground.data }], guard := none }) (v := ?_) rfl (by kernel_rfl) (by kernel_rfl) (by kernel_rfl) (fun _ _ _ h => h) (Or.inl ⟨by rfl, ?_⟩) (by assumption) ?_
                    rotate_left
                    · (intro w hSw; (try dsimp only at hSw); go_simp) <;> with_reducible rfl
                    simp only [Act.put, List.setIfInBounds_toArray, List.set_cons_zero, List.set_cons_succ]
                    refine wpAnyH_take (i := 4) (oi := { dst := some 41, op := Go.Op.move (Go.Operand.tmp 40), type := 4, pos := "ref.go:37", after := #[{ on := 3, ground := Go.Ground.data }, { on := 2, ground := Go.Ground.chain }], guard := none }) (v := ?_) rfl (by kernel_rfl) (by kernel_rfl) (by kernel_rfl) (fun _ _ _ h => h) (Or.inl ⟨by rfl, ?_⟩) (by assumption) ?_
                    rotate_left
                    · (intro w hSw; (try dsimp only at hSw); go_simp) <;> with_reducible rfl
                    simp only [Act.put, List.setIfInBounds_toArray, List.set_cons_zero, List.set_cons_succ]
                    refine wpAnyH_take (i := 5) (oi := { dst := some 42, op := Go.Op.move (Go.Operand.tmp 3), type := 3, pos := "ref.go:37", after := #[{ on := 4, ground := Go.Ground.guard }], guard := some (4, false) }) (v := ?_) rfl (by kernel_rfl) (by kernel_rfl) (by kernel_rfl) (fun _ _ _ h => h) (Or.inl ⟨by rfl, ?_⟩) (by assumption) ?_
                    rotate_left
                    · (intro w hSw; (try dsimp only at hSw); go_simp) <;> with_reducible rfl
                    simp only [Act.put, List.setIfInBounds_toArray, List.set_cons_zero, List.set_cons_succ]
                    refine wpAnyH_take (i := 6) (oi := { dst := some 43, op := Go.Op.binOp Go.BinOp.gtr 3 (Go.Operand.tmp 42) (Go.Operand.const (Go.Value.int Go.IntKind.i64 0)) 3, type := 4, pos := "ref.go:37", after := #[{ on := 5, ground := Go.Ground.data }, { on := 4, ground := Go.Ground.guard }], guard := some (4, false) }) (v := ?_) rfl (by kernel_rfl) (by kernel_rfl) (by kernel_rfl) (fun _ _ _ h => h) (Or.inl ⟨by rfl, ?_⟩) (by assumption) ?_
                    rotate_left
                    · (intro w hSw; (try dsimp only at hSw); go_simp) <;> with_reducible rfl
                    simp only [Act.put, List.setIfInBounds_toArray, List.set_cons_zero, List.set_cons_succ]
                    refine wpAnyH_take (i := 7) (oi := { dst := some 44, op := Go.Op.move (Go.Operand.tmp 43), type := 4, pos := "ref.go:37", after := #[{ on := 6, ground := Go.Ground.data }, { on := 4, ground := Go.Ground.chain }, { on := 4, ground := Go.Ground.guard }], guard := some (4, false) }) (v := ?_) rfl (by kernel_rfl) (by kernel_rfl) (by kernel_rfl) (fun _ _ _ h => h) (Or.inl ⟨by rfl, ?_⟩) (by assumption) ?_
                    rotate_left
                    · (intro w hSw; (try dsimp only at hSw); go_simp) <;> with_reducible rfl
                    simp only [Act.put, List.setIfInBounds_toArray, List.set_cons_zero, List.set_cons_succ]
                    refine wpAnyH_skip (i := 8) (d := 45) (by kernel_rfl) (by kernel_rfl) (by kernel_rfl) (by kernel_rfl) (fun _ _ _ h => h) (by assumption) ?_
                    simp only [Act.put, List.setIfInBounds_toArray, List.set_cons_zero, List.set_cons_succ]
                    refine wpAnyH_skip (i := 9) (d := 46) (by kernel_rfl) (by kernel_rfl) (by kernel_rfl) (by kernel_rfl) (fun _ _ _ h => h) (by assumption) ?_
                    simp only [Act.put, List.setIfInBounds_toArray, List.set_cons_zero, List.set_cons_succ]
                    refine wpAnyH_skip (i := 10) (d := 47) (by kernel_rfl) (by kernel_rfl) (by kernel_rfl) (by kernel_rfl) (fun _ _ _ h => h) (by assumption) ?_
                    simp only [Act.put, List.setIfInBounds_toArray, List.set_cons_zero, List.set_cons_succ]
                    refine wpAnyH_skip (i := 11) (d := 48) (by kernel_rfl) (by kernel_rfl) (by kernel_rfl) (by kernel_rfl) (fun _ _ _ h => h) (by assumption) ?_
                    simp only [Act.put, List.setIfInBounds_toArray, List.set_cons_zero, List.set_cons_succ]
                    refine wpAnyH_skip (i := 12) (d := 49) (by kernel_rfl) (by kernel_rfl) (by kernel_rfl) (by kernel_rfl) (fun _ _ _ h => h) (by assumption) ?_
                    simp only [Act.put, List.setIfInBounds_toArray, List.set_cons_zero, List.set_cons_succ]
                    refine wpAnyH_skip (i := 13) (d := 50) (by kernel_rfl) (by kernel_rfl) (by kernel_rfl) (by kernel_rfl) (fun _ _ _ h => h) (by assumption) ?_
                    simp only [Act.put, List.setIfInBounds_toArray, List.set_cons_zero, List.set_cons_succ]
                    refine wpAnyH_skip (i := 14) (d := 51) (by kernel_rfl) (by kernel_rfl) (by kernel_rfl) (by kernel_rfl) (fun _ _ _ h => h) (by assumption) ?_
                    simp only [Act.put, List.setIfInBounds_toArray, List.set_cons_zero, List.set_cons_succ]
                    refine wpAnyH_skip (i := 15) (d := 52) (by kernel_rfl) (by kernel_rfl) (by kernel_rfl) (by kernel_rfl) (fun _ _ _ h => h) (by assumption) ?_
                    simp only [Act.put, List.setIfInBounds_toArray, List.set_cons_zero, List.set_cons_succ]
                    refine wpAnyH_skip (i := 16) (d := 53) (by kernel_rfl) (by kernel_rfl) (by kernel_rfl) (by kernel_rfl) (fun _ _ _ h => h) (by assumption) ?_
                    simp only [Act.put, List.setIfInBounds_toArray, List.set_cons_zero, List.set_cons_succ]
                    refine wpAnyH_skip (i := 17) (d := 54) (by kernel_rfl) (by kernel_rfl) (by kernel_rfl) (by kernel_rfl) (fun _ _ _ h => h) (by assumption) ?_
                    simp only [Act.put, List.setIfInBounds_toArray, List.set_cons_zero, List.set_cons_succ]
                    refine wpAnyH_take (i := 18) (oi := { dst := some 55, op := Go.Op.pick (Go.Operand.tmp 44) (Go.Operand.tmp 54) (Go.Operand.const (Go.Value.bool false)), type := 4, pos := "ref.go:37", after := #[{ on := 7, ground := Go.Ground.data }, { on := 17, ground := Go.Ground.data }, { on := 4, ground := Go.Ground.guard }], guard := some (4, false) }) (v := ?_) rfl (by kernel_rfl) (by kernel_rfl) (by kernel_rfl) (fun _ _ _ h => h) (Or.inl ⟨by rfl, ?_⟩) (by assumption) ?_
                    rotate_left
                    · (intro w hSw; (try dsimp only at hSw); go_simp) <;> with_reducible rfl
                    simp only [Act.put, List.setIfInBounds_toArray, List.set_cons_zero, List.set_cons_succ]
                    refine wpAnyH_take (i := 19) (oi := { dst := some 56, op := Go.Op.pick (Go.Operand.tmp 41) (Go.Operand.const (Go.Value.bool true)) (Go.Operand.tmp 55), type := 4, pos := "ref.go:37", after := #[{ on := 4, ground := Go.Ground.data }, { on := 18, ground := Go.Ground.data }], guard := none }) (v := ?_) rfl (by kernel_rfl) (by kernel_rfl) (by kernel_rfl) (fun _ _ _ h => h) (Or.inl ⟨by rfl, ?_⟩) (by assumption) ?_
                    rotate_left
                    · (intro w hSw; (try dsimp only at hSw); go_simp) <;> with_reducible rfl
                    simp only [Act.put, List.setIfInBounds_toArray, List.set_cons_zero, List.set_cons_succ]
                    refine wpAnyH_done (by kernel_rfl) ?_ _
                    refine NoPanic.normal ?_
                    go_wp2
                    go_roundw
                    case rel => exact ⟨0 + 1, by omega, by go_num, HN2, Lib.hid (below_trans HB1.out HDR.out)⟩
                    case measure => simp [intOf]; omega
                  · obtain ⟨j, hj⟩ : ∃ j, k = j + 1 := ⟨k - 1, by omega⟩
                    obtain ⟨y, hy⟩ : ∃ y, fs[j]? = some y := ⟨_, List.getElem?_eq_getElem (by have := HL.out; omega)⟩
                    have HC2 : Hid (∀ W, Below W1.heap.size W1 W → W.cell? ⟨b, off + j * 3, none⟩ = some (.string y.nm)) := Lib.hid (fun W h => by
                      obtain ⟨b2, off2, hb2, -, y0, -⟩ := (HX1.out.old h).get hy
                      injection hb2 with hb2
                      injection hb2 with e1 e2
                      subst e1 e2
                      exact y0)
                    have HLE : Hid (ltB y.nm xn = true → RgtK fs (k + 1)) := Lib.hid (fun h => HNX.out rfl (fun i z hi hz => by
                      obtain rfl : i = j := by omega
                      rw [hy] at hz; obtain rfl := Option.some.inj hz; exact h))
                    have HLN : Hid (ltB y.nm xn = false → ¬ RgtF fs) := Lib.hid (fun h hr => by
                      have := srt_step hr.srt hy (by rw [← hj]; exact HXX.out)
                      simp only at this; rw [h] at this; cases this)
                    have q1 : IntKind.i64.wrap ((k : Int) - 1) = (j : Int) := by rw [show (k : Int) - 1 = (j : Int) by omega]; exact IntWalk.i64_in _ (by omega)
                    have q5 : 0 < k := by omega
                    have q7 : decide (0 < k) = true := decide_eq_true q5
                    have q6 : (j : Int) < (L : Int) := by omega
                    have HYN : Hid (y.nm.size ≤ 140737488351232) := Lib.hid (HF.out y (mem_at hy)).nm
                    obtain ⟨yn, ys, yt⟩ := y
                    simp only at HC2 HLE HLN HYN
                    clear hy hj hk0
                    obtain ⟨l, Hl⟩ : ∃ l, Hid (l = ltB yn xn) := ⟨_, Lib.hid rfl⟩
                    rw [← Hl.out] at HLE HLN
                    cases l with
                    | true =>
                      have hl1 : Op.bytesLess yn.toList xn.toList = true := Hl.out.symm
                      have HDR := Lib.hid (Below.refl W1.heap.size W1).drew
                      have HS : Hid (∀ W, Below W1.heap.size W1 W → W.cell? ⟨wr.heap.size, 0, none⟩ = some (.string xn) ∧ W.cell? ⟨w.heap.size, 1, none⟩ = some (.slice (some ⟨b, off, none⟩) L cap) ∧ W.cell? ⟨b, off + j * 3, none⟩ = some (.string yn)) := Lib.hid (fun W h => ⟨(HC1.out W h).1, (HC1.out W h).2, HC2.out W h⟩)
                      have hs0 := HS.out _ HDR.out
                      refine wp_region_noPanic ?_
                      refine wp_region_held_drew (S := fun W => W.cell? ⟨wr.heap.size, 0, none⟩ = some (.string xn) ∧ W.cell? ⟨w.heap.size, 1, none⟩ = some (.slice (some ⟨b, off, none⟩) L cap) ∧ W.cell? ⟨b, off + j * 3, none⟩ = some (.string yn)) (by kernel_rfl) hs0 (fun hHeld => ?_)
                      clear hs0
                      generalize W1.drew = w4 at *
                      refine wpAnyH_take (i := 0) (oi := { dst := some 37, op := Go.Op.fieldAddr 44 (Go.Operand.tmp 4) 0, type := 0, pos := "ref.go:37", after := #[], guard := none }) (v := ?_) rfl (by kernel_rfl) (by kernel_rfl) (by kernel_rfl) (fun _ _ _ h => h) (Or.inl ⟨by rfl, ?_⟩) (by assumption) ?_
                      rotate_left
                      · (intro w hSw; (try dsimp only at hSw); go_simp) <;> with_reducible rfl
                      simp only [Act.put, List.setIfInBounds_toArray, List.set_cons_zero, List.set_cons_succ]
                      refine wpAnyH_take (i := 1) (oi := { dst := some 38, op := Go.Op.load 9 (Go.Operand.tmp 37), type := 9, pos := "ref.go:37", after := #[{ on := 0, ground := Go.Ground.data }], guard := none }) (v := ?_) rfl (by kernel_rfl) (by kernel_rfl) (by kernel_rfl) (fun _ _ _ h => h) (Or.inl ⟨by rfl, ?_⟩) (by assumption) ?_
                      rotate_left
                      · (intro w hSw; (try dsimp only at hSw); go_simp) <;> with_reducible rfl
                      simp only [Act.put, List.setIfInBounds_toArray, List.set_cons_zero, List.set_cons_succ]
                      refine wpAnyH_ready (rs := [2]) (by kernel_rfl) (by simp) ?_
                      refine AllReadyH.cons (o := { dst := some 39, op := Go.Op.call { callee := Go.Callee.value (Go.Operand.func 19), args := #[Go.Operand.tmp 38], argTypes := #[9] }, type := 4, pos := "ref.go:37", after := #[{ on := 1, ground := Go.Ground.data }], guard := none }) rfl (fun K hK => ?_) AllReadyH.nil
                      go_simp
                      refine (HRN.out w4).mono ?_
                      rintro e w5 ⟨rfl, rfl⟩
                      go_wp2_with fail
                      refine hK.out _ _ ?_ (fun hz2 => ?_)
                      · exact HS.out _ HDR.out
                      clear hK K hHeld 
                      try simp only [Act.put, List.setIfInBounds_toArray, List.set_cons_zero, List.set_cons_succ]
                      refine wpAnyH_take (i := 3) (oi := { dst := some 40, op := Go.Op.unOp Go.UnOp.not 4 (Go.Operand.tmp 39), type := 4, pos := "ref.go:37", after := #[{ on := 2, ground := Go.Ground.data }], guard := none }) (v := ?_) rfl (by kernel_rfl) (by kernel_rfl) (by kernel_rfl) (fun _ _ _ h => h) (Or.inl ⟨by rfl, ?_⟩) (by assumption) ?_
                      rotate_left
                      · (intro w hSw; (try dsimp only at hSw); go_simp) <;> with_reducible rfl
                      simp only [Act.put, List.setIfInBounds_toArray, List.set_cons_zero, List.set_cons_succ]
                      refine wpAnyH_take (i := 4) (oi := { dst := some 41, op := Go.Op.move (Go.Operand.tmp 40), type := 4, pos := "ref.go:37", after := #[{ on := 3, ground := Go.Ground.data }, { on := 2, ground := Go.Ground.chain }], guard := none }) (v := ?_) rfl (by kernel_rfl) (by kernel_rfl) (by kernel_rfl) (fun _ _ _ h => h) (Or.inl ⟨by rfl, ?_⟩) (by assumption) ?_
                      rotate_left
                      · (intro w hSw; (try dsimp only at hSw); go_simp) <;> with_reducible rfl
                      simp only [Act.put, List.setIfInBounds_toArray, List.set_cons_zero, List.set_cons_succ]
                      refine wpAnyH_take (i := 5) (oi := { dst := some 42, op := Go.Op.move (Go.Operand.tmp 3), type := 3, pos := "ref.go:37", after := #[{ on := 4, ground := Go.Ground.guard }], guard := some (4, false) }) (v := ?_) rfl (by kernel_rfl) (by kernel_rfl) (by kernel_rfl) (fun _ _ _ h => h) (Or.inl ⟨by rfl, ?_⟩) (by assumption) ?_
                      rotate_left
                      · (intro w hSw; (try dsimp only at hSw); go_simp) <;> with_reducible rfl
                      simp only [Act.put, List.setIfInBounds_toArray, List.set_cons_zero, List.set_cons_succ]
                      refine wpAnyH_take (i := 6) (oi := { dst := some 43, op := Go.Op.binOp Go.BinOp.gtr 3 (Go.Operand.tmp 42) (Go.Operand.const (Go.Value.int Go.IntKind.i64 0)) 3, type := 4, pos := "ref.go:37", after := #[{ on := 5, ground := Go.Ground.data }, { on := 4, ground := Go.Ground.guard }], guard := some (4, false) }) (v := ?_) rfl (by kernel_rfl) (by kernel_rfl) (by kernel_rfl) (fun _ _ _ h => h) (Or.inl ⟨by rfl, ?_⟩) (by assumption) ?_
                      rotate_left
                      · (intro w hSw; (try dsimp only at hSw); go_simp) <;> with_reducible rfl
                      simp only [Act.put, List.setIfInBounds_toArray, List.set_cons_zero, List.set_cons_succ]
                      refine wpAnyH_take (i := 7) (oi := { dst := some 44, op := Go.Op.move (Go.Operand.tmp 43), type := 4, pos := "ref.go:37", after := #[{ on := 6, ground := Go.Ground.data }, { on := 4, ground := Go.Ground.chain }, { on := 4, ground := Go.Ground.guard }], guard := some (4, false) }) (v := ?_) rfl (by kernel_rfl) (by kernel_rfl) (by kernel_rfl) (fun _ _ _ h => h) (Or.inl ⟨by rfl, ?_⟩) (by assumption) ?_
                      rotate_left
                      · (intro w hSw; (try dsimp only at hSw); go_simp) <;> with_reducible rfl
                      simp only [Act.put, List.setIfInBounds_toArray, List.set_cons_zero, List.set_cons_succ]
                      refine wpAnyH_take (i := 8) (oi := { dst := some 45, op := Go.Op.fieldAddr 24 (Go.Operand.tmp 1) 1, type := 0, pos := "ref.go:37", after := #[{ on := 7, ground := Go.Ground.guard }], guard := some (7, true) }) (v := ?_) rfl (by kernel_rfl) (by kernel_rfl) (by kernel_rfl) (fun _ _ _ h => h) (Or.inl ⟨by rfl, ?_⟩) (by assumption) ?_
                      rotate_left
                      · (intro w hSw; (try dsimp only at hSw); go_simp) <;> with_reducible rfl
                      simp only [Act.put, List.setIfInBounds_toArray, List.set_cons_zero, List.set_cons_succ]
                      refine wpAnyH_take (i := 9) (oi := { dst := some 46, op := Go.Op.load 22 (Go.Operand.tmp 45), type := 22, pos := "ref.go:37", after := #[{ on := 8, ground := Go.Ground.data }, { on := 7, ground := Go.Ground.guard }], guard := some (7, true) }) (v := ?_) rfl (by kernel_rfl) (by kernel_rfl) (by kernel_rfl) (fun _ _ _ h => h) (Or.inl ⟨by rfl, ?_⟩) (by assumption) ?_
                      rotate_left
                      · (intro w hSw; (try dsimp only at hSw); go_simp) <;> with_reducible rfl
                      simp only [Act.put, List.setIfInBounds_toArray, List.set_cons_zero, List.set_cons_succ]
                      refine wpAnyH_take (i := 10) (oi := { dst := some 47, op := Go.Op.move (Go.Operand.tmp 3), type := 3, pos := "ref.go:37", after := #[{ on := 7, ground := Go.Ground.guard }], guard := some (7, true) }) (v := ?_) rfl (by kernel_rfl) (by kernel_rfl) (by kernel_rfl) (fun _ _ _ h => h) (Or.inl ⟨by rfl, ?_⟩) (by assumption) ?_
                      rotate_left
                      · (intro w hSw; (try dsimp only at hSw); go_simp) <;> with_reducible rfl
                      simp only [Act.put, List.setIfInBounds_toArray, List.set_cons_zero, List.set_cons_succ]
                      refine wpAnyH_take (i := 11) (oi := { dst := some 48, op := Go.Op.binOp Go.BinOp.sub 3 (Go.Operand.tmp 47) (Go.Operand.const (Go.Value.int Go.IntKind.i64 1)) 3, type := 3, pos := "ref.go:37", after := #[{ on := 10, ground := Go.Ground.data }, { on := 7, ground := Go.Ground.guard }], guard := some (7, true) }) (v := ?_) rfl (by kernel_rfl) (by kernel_rfl) (by kernel_rfl) (fun _ _ _ h => h) (Or.inl ⟨by rfl, ?_⟩) (by assumption) ?_
                      rotate_left
                      · (intro w hSw; (try dsimp only at hSw); go_simp) <;> with_reducible rfl
                      simp only [Act.put, List.setIfInBounds_toArray, List.set_cons_zero, List.set_cons_succ]
                      refine wpAnyH_take (i := 12) (oi := { dst := some 49, op := Go.Op.indexAddr 22 (Go.Operand.tmp 46) (Go.Operand.tmp 48), type := 0, pos := "ref.go:37", after := #[{ on := 9, ground := Go.Ground.data }, { on := 11, ground := Go.Ground.data }, { on := 7, ground := Go.Ground.guard }], guard := some (7, true) }) (v := ?_) rfl (by kernel_rfl) (by kernel_rfl) (by kernel_rfl) (fun _ _ _ h => h) (Or.inl ⟨by rfl, ?_⟩) (by assumption) ?_
                      rotate_left
                      · (intro w hSw; (try dsimp only at hSw); go_simp) <;> with_reducible rfl
                      simp only [Act.put, List.setIfInBounds_toArray, List.set_cons_zero, List.set_cons_succ]
                      refine wpAnyH_take (i := 13) (oi := { dst := some 50, op := Go.Op.fieldAddr 44 (Go.Operand.tmp 49) 0, type := 0, pos := "ref.go:37", after := #[{ on := 12, ground := Go.Ground.data }, { on := 7, ground := Go.Ground.guard }], guard := some (7, true) }) (v := ?_) rfl (by kernel_rfl) (by kernel_rfl) (by kernel_rfl) (fun _ _ _ h => h) (Or.inl ⟨by rfl, ?_⟩) (by assumption) ?_
                      rotate_left
                      · (intro w hSw; (try dsimp only at hSw); go_simp) <;> with_reducible rfl
                      simp only [Act.put, List.setIfInBounds_toArray, List.set_cons_zero, List.set_cons_succ]
                      refine wpAnyH_take (i := 14) (oi := { dst := some 51, op := Go.Op.load 9 (Go.Operand.tmp 50), type := 9, pos := "ref.go:37", after := #[{ on := 13, ground := Go.Ground.data }, { on := 7, ground := Go.Ground.guard }], guard := some (7, true) }) (v := ?_) rfl (by kernel_rfl) (by kernel_rfl) (by kernel_rfl) (fun _ _ _ h => h) (Or.inl ⟨by rfl, ?_⟩) (by assumption) ?_
                      rotate_left
                      · (intro w hSw; (try dsimp only at hSw); go_simp) <;> with_reducible rfl
                      simp only [Act.put, List.setIfInBounds_toArray, List.set_cons_zero, List.set_cons_succ]
                      refine wpAnyH_take (i := 15) (oi := { dst := some 52, op := Go.Op.fieldAddr 44 (Go.Operand.tmp 4) 0, type := 0, pos := "ref.go:37", after := #[{ on := 7, ground := Go.Ground.guard }], guard := some (7, true) }) (v := ?_) rfl (by kernel_rfl) (by kernel_rfl) (by kernel_rfl) (fun _ _ _ h => h) (Or.inl ⟨by rfl, ?_⟩) (by assumption) ?_
                      rotate_left
                      · (intro w hSw; (try dsimp only at hSw); go_simp) <;> with_reducible rfl
                      simp only [Act.put, List.setIfInBounds_toArray, List.set_cons_zero, List.set_cons_succ]
                      refine wpAnyH_take (i := 16) (oi := { dst := some 53, op := Go.Op.load 9 (Go.Operand.tmp 52), type := 9, pos := "ref.go:37", after := #[{ on := 15, ground := Go.Ground.data }, { on := 7, ground := Go.Ground.guard }], guard := some (7, true) }) (v := ?_) rfl (by kernel_rfl) (by kernel_rfl) (by kernel_rfl) (fun _ _ _ h => h) (Or.inl ⟨by rfl, ?_⟩) (by assumption) ?_
                      rotate_left
                      · (intro w hSw; (try dsimp only at hSw); go_simp) <;> with_reducible rfl
                      simp only [Act.put, List.setIfInBounds_toArray, List.set_cons_zero, List.set_cons_succ]
                      refine wpAnyH_take (i := 17) (oi := { dst := some 54, op := Go.Op.binOp Go.BinOp.geq 9 (Go.Operand.tmp 51) (Go.Operand.tmp 53) 9, type := 4, pos := "ref.go:37", after := #[{ on := 14, ground := Go.Ground.data }, { on := 16, ground := Go.Ground.data }, { on := 7, ground := Go.Ground.guard }], guard := some (7, true) }) (v := ?_) rfl (by kernel_rfl) (by kernel_rfl) (by kernel_rfl) (fun _ _ _ h => h) (Or.inl ⟨by rfl, ?_⟩) (by assumption) ?_
                      rotate_left
                      · (intro w hSw; (try dsimp only at hSw); go_simp) <;> with_reducible rfl
                      simp only [Act.put, List.setIfInBounds_toArray, List.set_cons_zero, List.set_cons_succ]
                      refine wpAnyH_take (i := 18) (oi := { dst := some 55, op := Go.Op.pick (Go.Operand.tmp 44) (Go.Operand.tmp 54) (Go.Operand.const (Go.Value.bool false)), type := 4, pos := "ref.go:37", after := #[{ on := 7, ground := Go.Ground.data }, { on := 17, ground := Go.Ground.data }, { on := 4, ground := Go.Ground.guard }], guard := some (4, false) }) (v := ?_) rfl (by kernel_rfl) (by kernel_rfl) (by kernel_rfl) (fun _ _ _ h => h) (Or.inl ⟨by rfl, ?_⟩) (by assumption) ?_
                      rotate_left
                      · (intro w hSw; (try dsimp only at hSw); go_simp) <;> with_reducible rfl
                      simp only [Act.put, List.setIfInBounds_toArray, List.set_cons_zero, List.set_cons_succ]
                      refine wpAnyH_take (i := 19) (oi := { dst := some 56, op := Go.Op.pick (Go.Operand.tmp 41) (Go.Operand.const (Go.Value.bool true)) (Go.Operand.tmp 55), type := 4, pos := "ref.go:37", after := #[{ on := 4, ground := Go.Ground.data }, { on := 18, ground := Go.Ground.data }], guard := none }) (v := ?_) rfl (by kernel_rfl) (by kernel_rfl) (by kernel_rfl) (fun _ _ _ h => h) (Or.inl ⟨by rfl, ?_⟩) (by assumption) ?_
                      rotate_left
                      · (intro w hSw; (try dsimp only at hSw); go_simp) <;> with_reducible rfl
                      simp only [Act.put, List.setIfInBounds_toArray, List.set_cons_zero, List.set_cons_succ]
                      refine wpAnyH_done (by kernel_rfl) ?_ _
                      refine NoPanic.normal ?_
                      go_wp2
                      go_roundw
                      case rel => exact ⟨k + 1, by omega, by go_num, Lib.hid (HLE.out trivial), Lib.hid (below_trans HB1.out HDR.out)⟩
                      case measure => simp [intOf]; omega
                    | false =>
                      have hl1 : Op.bytesLess yn.toList xn.toList = false := Hl.out.symm
                      have HDR := Lib.hid (Below.refl W1.heap.size W1).drew
                      have HS : Hid (∀ W, Below W1.heap.size W1 W → W.cell? ⟨wr.heap.size, 0, none⟩ = some (.string xn) ∧ W.cell? ⟨w.heap.size, 1, none⟩ = some (.slice (some ⟨b, off, none⟩) L cap) ∧ W.cell? ⟨b, off + j * 3, none⟩ = some (.string yn)) := Lib.hid (fun W h => ⟨(HC1.out W h).1, (HC1.out W h).2, HC2.out W h⟩)
                      have hs0 := HS.out _ HDR.out
                      refine wp_region_noPanic ?_
                      refine wp_region_held_drew (S := fun W => W.cell? ⟨wr.heap.size, 0, none⟩ = some (.string xn) ∧ W.cell? ⟨w.heap.size, 1, none⟩ = some (.slice (some ⟨b, off, none⟩) L cap) ∧ W.cell? ⟨b, off + j * 3, none⟩ = some (.string yn)) (by kernel_rfl) hs0 (fun hHeld => ?_)
                      clear hs0
                      generalize W1.drew = w4 at *
                      refine wpAnyH_take (i := 0) (oi := { dst := some 37, op := Go.Op.fieldAddr 44 (Go.Operand.tmp 4) 0, type := 0, pos := "ref.go:37", after := #[], guard := none }) (v := ?_) rfl (by kernel_rfl) (by kernel_rfl) (by kernel_rfl) (fun _ _ _ h => h) (Or.inl ⟨by rfl, ?_⟩) (by assumption) ?_
                      rotate_left
                      · (intro w hSw; (try dsimp only at hSw); go_simp) <;> with_reducible rfl
                      simp only [Act.put, List.setIfInBounds_toArray, List.set_cons_zero, List.set_cons_succ]
                      refine wpAnyH_take (i := 1) (oi := { dst := some 38, op := Go.Op.load 9 (Go.Operand.tmp 37), type := 9, pos := "ref.go:37", after := #[{ on := 0, ground := Go.Ground.data }], guard := none }) (v := ?_) rfl (by kernel_rfl) (by kernel_rfl) (by kernel_rfl) (fun _ _ _ h => h) (Or.inl ⟨by rfl, ?_⟩) (by assumption) ?_
                      rotate_left
                      · (intro w hSw; (try dsimp only at hSw); go_simp) <;> with_reducible rfl
                      simp only [Act.put, List.setIfInBounds_toArray, List.set_cons_zero, List.set_cons_succ]
                      refine wpAnyH_ready (rs := [2]) (by kernel_rfl) (by simp) ?_
                      refine AllReadyH.cons (o := { dst := some 39, op := Go.Op.call { callee := Go.Callee.value (Go.Operand.func 19), args := #[Go.Operand.tmp 38], argTypes := #[9] }, type := 4, pos := "ref.go:37", after := #[{ on := 1, ground := Go.Ground.data }], guard := none }) rfl (fun K hK => ?_) AllReadyH.nil
                      go_simp
                      refine (HRN.out w4).mono ?_
                      rintro e w5 ⟨rfl, rfl⟩
                      go_wp2_with fail
                      refine hK.out _ _ ?_ (fun hz2 => ?_)
                      · exact HS.out _ HDR.out
                      clear hK K hHeld 
                      try simp only [Act.put, List.setIfInBounds_toArray, List.set_cons_zero, List.set_cons_succ]
                      refine wpAnyH_take (i := 3) (oi := { dst := some 40, op := Go.Op.unOp Go.UnOp.not 4 (Go.Operand.tmp 39), type := 4, pos := "ref.go:37", after := #[{ on := 2, ground := Go.Ground.data }], guard := none }) (v := ?_) rfl (by kernel_rfl) (by kernel_rfl) (by kernel_rfl) (fun _ _ _ h => h) (Or.inl ⟨by rfl, ?_⟩) (by assumption) ?_
                      rotate_left
                      · (intro w hSw; (try dsimp only at hSw); go_simp) <;> with_reducible rfl
                      simp only [Act.put, List.setIfInBounds_toArray, List.set_cons_zero, List.set_cons_succ]
                      refine wpAnyH_take (i := 4) (oi := { dst := some 41, op := Go.Op.move (Go.Operand.tmp 40), type := 4, pos := "ref.go:37", after := #[{ on := 3, ground := Go.Ground.data }, { on := 2, ground := Go.Ground.chain }], guard := none }) (v := ?_) rfl (by kernel_rfl) (by kernel_rfl) (by kernel_rfl) (fun _ _ _ h => h) (Or.inl ⟨by rfl, ?_⟩) (by assumption) ?_
                      rotate_left
                      · (intro w hSw; (try dsimp only at hSw); go_simp) <;> with_reducible rfl
                      simp only [Act.put, List.setIfInBounds_toArray, List.set_cons_zero, List.set_cons_succ]
                      refine wpAnyH_take (i := 5) (oi := { dst := some 42, op := Go.Op.move (Go.Operand.tmp 3), type := 3, pos := "ref.go:37", after := #[{ on := 4, ground := Go.Ground.guard }], guard := some (4, false) }) (v := ?_) rfl (by kernel_rfl) (by kernel_rfl) (by kernel_rfl) (fun _ _ _ h => h) (Or.inl ⟨by rfl, ?_⟩) (by assumption) ?_
                      rotate_left
                      · (intro w hSw; (try dsimp only at hSw); go_simp) <;> with_reducible rfl
                      simp only [Act.put, List.setIfInBounds_toArray, List.set_cons_zero, List.set_cons_succ]
                      refine wpAnyH_take (i := 6) (oi := { dst := some 43, op := Go.Op.binOp Go.BinOp.gtr 3 (Go.Operand.tmp 42) (Go.Operand.const (Go.Value.int Go.IntKind.i64 0)) 3, type := 4, pos := "ref.go:37", after := #[{ on := 5, ground := Go.Ground.data }, { on := 4, ground := Go.Ground.guard }], guard := some (4, false) }) (v := ?_) rfl (by kernel_rfl) (by kernel_rfl) (by kernel_rfl) (fun _ _ _ h => h) (Or.inl ⟨by rfl, ?_⟩) (by assumption) ?_
                      rotate_left
                      · (intro w hSw; (try dsimp only at hSw); go_simp) <;> with_reducible rfl
                      simp only [Act.put, List.setIfInBounds_toArray, List.set_cons_zero, List.set_cons_succ]
                      refine wpAnyH_take (i := 7) (oi := { dst := some 44, op := Go.Op.move (Go.Operand.tmp 43), type := 4, pos := "ref.go:37", after := #[{ on := 6, ground := Go.Ground.data }, { on := 4, ground := Go.Ground.chain }, { on := 4, ground := Go.Ground.guard }], guard := some (4, false) }) (v := ?_) rfl (by kernel_rfl) (by kernel_rfl) (by kernel_rfl) (fun _ _ _ h => h) (Or.inl ⟨by rfl, ?_⟩) (by assumption) ?_
                      rotate_left
                      · (intro w hSw; (try dsimp only at hSw); go_simp) <;> with_reducible rfl
                      simp only [Act.put, List.setIfInBounds_toArray, List.set_cons_zero, List.set_cons_succ]
                      refine wpAnyH_take (i := 8) (oi := { dst := some 45, op := Go.Op.fieldAddr 24 (Go.Operand.tmp 1) 1, type := 0, pos := "ref.go:37", after := #[{ on := 7, ground := Go.Ground.guard }], guard := some (7, true) }) (v := ?_) rfl (by kernel_rfl) (by kernel_rfl) (by kernel_rfl) (fun _ _ _ h => h) (Or.inl ⟨by rfl, ?_⟩) (by assumption) ?_
                      rotate_left
                      · (intro w hSw; (try dsimp only at hSw); go_simp) <;> with_reducible rfl
                      simp only [Act.put, List.setIfInBounds_toArray, List.set_cons_zero, List.set_cons_succ]
                      refine wpAnyH_take (i := 9) (oi := { dst := some 46, op := Go.Op.load 22 (Go.Operand.tmp 45), type := 22, pos := "ref.go:37", after := #[{ on := 8, ground := Go.Ground.data }, { on := 7, ground := Go.Ground.guard }], guard := some (7, true) }) (v := ?_) rfl (by kernel_rfl) (by kernel_rfl) (by kernel_rfl) (fun _ _ _ h => h) (Or.inl ⟨by rfl, ?_⟩) (by assumption) ?_
                      rotate_left
                      · (intro w hSw; (try dsimp only at hSw); go_simp) <;> with_reducible rfl
                      simp only [Act.put, List.setIfInBounds_toArray, List.set_cons_zero, List.set_cons_succ]
                      refine wpAnyH_take (i := 10) (oi := { dst := some 47, op := Go.Op.move (Go.Operand.tmp 3), type := 3, pos := "ref.go:37", after := #[{ on := 7, ground := Go.Ground.guard }], guard := some (7, true) }) (v := ?_) rfl (by kernel_rfl) (by kernel_rfl) (by kernel_rfl) (fun _ _ _ h => h) (Or.inl ⟨by rfl, ?_⟩) (by assumption) ?_
                      rotate_left
                      · (intro w hSw; (try dsimp only at hSw); go_simp) <;> with_reducible rfl
                      simp only [Act.put, List.setIfInBounds_toArray, List.set_cons_zero, List.set_cons_succ]
                      refine wpAnyH_take (i := 11) (oi := { dst := some 48, op := Go.Op.binOp Go.BinOp.sub 3 (Go.Operand.tmp 47) (Go.Operand.const (Go.Value.int Go.IntKind.i64 1)) 3, type := 3, pos := "ref.go:37", after := #[{ on := 10, ground := Go.Ground.data }, { on := 7, ground := Go.Ground.guard }], guard := some (7, true) }) (v := ?_) rfl (by kernel_rfl) (by kernel_rfl) (by kernel_rfl) (fun _ _ _ h => h) (Or.inl ⟨by rfl, ?_⟩) (by assumption) ?_
                      rotate_left
                      · (intro w hSw; (try dsimp only at hSw); go_simp) <;> with_reducible rfl
                      simp only [Act.put, List.setIfInBounds_toArray, List.set_cons_zero, List.set_cons_succ]
                      refine wpAnyH_take (i := 12) (oi := { dst := some 49, op := Go.Op.indexAddr 22 (Go.Operand.tmp 46) (Go.Operand.tmp 48), type := 0, pos := "ref.go:37", after := #[{ on := 9, ground := Go.Ground.data }, { on := 11, ground := Go.Ground.data }, { on := 7, ground := Go.Ground.guard }], guard := some (7, true) }) (v := ?_) rfl (by kernel_rfl) (by kernel_rfl) (by kernel_rfl) (fun _ _ _ h => h) (Or.inl ⟨by rfl, ?_⟩) (by assumption) ?_
                      rotate_left
                      · (intro w hSw; (try dsimp only at hSw); go_simp) <;> with_reducible rfl
                      simp only [Act.put, List.setIfInBounds_toArray, List.set_cons_zero, List.set_cons_succ]
                      refine wpAnyH_take (i := 13) (oi := { dst := some 50, op := Go.Op.fieldAddr 44 (Go.Operand.tmp 49) 0, type := 0, pos := "ref.go:37", after := #[{ on := 12, ground := Go.Ground.data }, { on := 7, ground := Go.Ground.guard }], guard := some (7, true) }) (v := ?_) rfl (by kernel_rfl) (by kernel_rfl) (by kernel_rfl) (fun _ _ _ h => h) (Or.inl ⟨by rfl, ?_⟩) (by assumption) ?_
                      rotate_left
                      · (intro w hSw; (try dsimp only at hSw); go_simp) <;> with_reducible rfl
                      simp only [Act.put, List.setIfInBounds_toArray, List.set_cons_zero, List.set_cons_succ]
                      refine wpAnyH_take (i := 14) (oi := { dst := some 51, op := Go.Op.load 9 (Go.Operand.tmp 50), type := 9, pos := "ref.go:37", after := #[{ on := 13, ground := Go.Ground.data }, { on := 7, ground := Go.Ground.guard }], guard := some (7, true) }) (v := ?_) rfl (by kernel_rfl) (by kernel_rfl) (by kernel_rfl) (fun _ _ _ h => h) (Or.inl ⟨by rfl, ?_⟩) (by assumption) ?_
                      rotate_left
                      · (intro w hSw; (try dsimp only at hSw); go_simp) <;> with_reducible rfl
                      simp only [Act.put, List.setIfInBounds_toArray, List.set_cons_zero, List.set_cons_succ]
                      refine wpAnyH_take (i := 15) (oi := { dst := some 52, op := Go.Op.fieldAddr 44 (Go.Operand.tmp 4) 0, type := 0, pos := "ref.go:37", after := #[{ on := 7, ground := Go.Ground.guard }], guard := some (7, true) }) (v := ?_) rfl (by kernel_rfl) (by kernel_rfl) (by kernel_rfl) (fun _ _ _ h => h) (Or.inl ⟨by rfl, ?_⟩) (by assumption) ?_
                      rotate_left
                      · (intro w hSw; (try dsimp only at hSw); go_simp) <;> with_reducible rfl
                      simp only [Act.put, List.setIfInBounds_toArray, List.set_cons_zero, List.set_cons_succ]
                      refine wpAnyH_take (i := 16) (oi := { dst := some 53, op := Go.Op.load 9 (Go.Operand.tmp 52), type := 9, pos := "ref.go:37", after := #[{ on := 15, ground := Go.Ground.data }, { on := 7, ground := Go.Ground.guard }], guard := some (7, true) }) (v := ?_) rfl (by kernel_rfl) (by kernel_rfl) (by kernel_rfl) (fun _ _ _ h => h) (Or.inl ⟨by rfl, ?_⟩) (by assumption) ?_
                      rotate_left
                      · (intro w hSw; (try dsimp only at hSw); go_simp) <;> with_reducible rfl
                      simp only [Act.put, List.setIfInBounds_toArray, List.set_cons_zero, List.set_cons_succ]
                      refine wpAnyH_take (i := 17) (oi := { dst := some 54, op := Go.Op.binOp Go.BinOp.geq 9 (Go.Operand.tmp 51) (Go.Operand.tmp 53) 9, type := 4, pos := "ref.go:37", after := #[{ on := 14, ground := Go.Ground.data }, { on := 16, ground := Go.Ground.data }, { on := 7, ground := Go.Ground.guard }], guard := some (7, true) }) (v := ?_) rfl (by kernel_rfl) (by kernel_rfl) (by kernel_rfl) (fun _ _ _ h => h) (Or.inl ⟨by rfl, ?_⟩) (by assumption) ?_
                      rotate_left
                      · (intro w hSw; (try dsimp only at hSw); go_simp) <;> with_reducible rfl
                      simp only [Act.put, List.setIfInBounds_toArray, List.set_cons_zero, List.set_cons_succ]
                      refine wpAnyH_take (i := 18) (oi := { dst := some 55, op := Go.Op.pick (Go.Operand.tmp 44) (Go.Operand.tmp 54) (Go.Operand.const (Go.Value.bool false)), type := 4, pos := "ref.go:37", after := #[{ on := 7, ground := Go.Ground.data }, { on := 17, ground := Go.Ground.data }, { on := 4, ground := Go.Ground.guard }], guard := some (4, false) }) (v := ?_) rfl (by kernel_rfl) (by kernel_rfl) (by kernel_rfl) (fun _ _ _ h => h) (Or.inl ⟨by rfl, ?_⟩) (by assumption) ?_
                      rotate_left
                      · (intro w hSw; (try dsimp only at hSw); go_simp) <;> with_reducible rfl
                      simp only [Act.put, List.setIfInBounds_toArray, List.set_cons_zero, List.set_cons_succ]
                      refine wpAnyH_take (i := 19) (oi := { dst := some 56, op := Go.Op.pick (Go.Operand.tmp 41) (Go.Operand.const (Go.Value.bool true)) (Go.Operand.tmp 55), type := 4, pos := "ref.go:37", after := #[{ on := 4, ground := Go.Ground.data }, { on := 18, ground := Go.Ground.data }], guard := none }) (v := ?_) rfl (by kernel_rfl) (by kernel_rfl) (by kernel_rfl) (fun _ _ _ h => h) (Or.inl ⟨by rfl, ?_⟩) (by assumption) ?_
                      rotate_left
                      · (intro w hSw; (try dsimp only at hSw); go_simp) <;> with_reducible rfl
                      simp only [Act.put, List.setIfInBounds_toArray, List.set_cons_zero, List.set_cons_succ]
                      refine wpAnyH_done (by kernel_rfl) ?_ _
                      refine NoPanic.normal ?_
                      go_wp2
                      go_ret
                      exact RgtP.no (HNF.out (HLN.out trivial)) (below_trans HB0.out (below_trans HB1.out HDR.out))
              · have HRG : Hid (RgtF fs) := Lib.hid (HR.out.all (by have := HL.out; omega) (by have := HL.out; omega))
                have HQ2 := Lib.hid (HQ.out HRG.out)
                have HDr := Lib.hid (HD.out.below HB.out)
                have HS : Hid (∀ W, Below wr.heap.size wr W → W.cell? ⟨w.heap.size, 0, none⟩ = some (.int .i64 rm) ∧ W.cell? ⟨w.heap.size, 1, none⟩ = some (.slice a L cap)) := Lib.hid (fun W h => ⟨(HDr.out.below h).cell (i := 0) rfl, (HDr.out.below h).cell (i := 1) rfl⟩)
                have HDR := Lib.hid (Below.refl wr.heap.size wr).drew
                have hs0 := HS.out _ HDR.out
                go_wp2
                refine wp_region_noPanic ?_
                refine wp_region_held_drew (S := fun W => W.cell? ⟨w.heap.size, 0, none⟩ = some (.int .i64 rm) ∧ W.cell? ⟨w.heap.size, 1, none⟩ = some (.slice a L cap)) (by kernel_rfl) hs0 (fun hHeld => ?_)
                clear hs0
                generalize wr.drew = w4 at *
                refine wpAnyH_take (i := 0) (oi := { dst := some 58, op := Go.Op.fieldAddr 24 (Go.Operand.tmp 1) 1, type := 0, pos := "ref.go:41", after := #[], guard := none }) (v := ?_) rfl (by kernel_rfl) (by kernel_rfl) (by kernel_rfl) (fun _ _ _ h => h) (Or.inl ⟨by rfl, ?_⟩) (by assumption) ?_
                rotate_left
                · (intro w hSw; (try dsimp only at hSw); go_simp) <;> with_reducible rfl
                simp only [Act.put, List.setIfInBounds_toArray, List.set_cons_zero, List.set_cons_succ]
                refine wpAnyH_take (i := 1) (oi := { dst := some 59, op := Go.Op.load 22 (Go.Operand.tmp 58), type := 22, pos := "ref.go:41", after := #[{ on := 0, ground := Go.Ground.data }], guard := none }) (v := ?_) rfl (by kernel_rfl) (by kernel_rfl) (by kernel_rfl) (fun _ _ _ h => h) (Or.inl ⟨by rfl, ?_⟩) (by assumption) ?_
                rotate_left
                · (intro w hSw; (try dsimp only at hSw); go_simp) <;> with_reducible rfl
                simp only [Act.put, List.setIfInBounds_toArray, List.set_cons_zero, List.set_cons_succ]
                refine wpAnyH_take (i := 3) (oi := { dst := some 61, op := Go.Op.fieldAddr 24 (Go.Operand.tmp 1) 0, type := 0, pos := "ref.go:41", after := #[], guard := none }) (v := ?_) rfl (by kernel_rfl) (by kernel_rfl) (by kernel_rfl) (fun _ _ _ h => h) (Or.inl ⟨by rfl, ?_⟩) (by assumption) ?_
                rotate_left
                · (intro w hSw; (try dsimp only at hSw); go_simp) <;> with_reducible rfl
                simp only [Act.put, List.setIfInBounds_toArray, List.set_cons_zero, List.set_cons_succ]
                refine wpAnyH_take (i := 4) (oi := { dst := some 62, op := Go.Op.load 3 (Go.Operand.tmp 61), type := 3, pos := "ref.go:41", after := #[{ on := 3, ground := Go.Ground.data }], guard := none }) (v := ?_) rfl (by kernel_rfl) (by kernel_rfl) (by kernel_rfl) (fun _ _ _ h => h) (Or.inl ⟨by rfl, ?_⟩) (by assumption) ?_
                rotate_left
                · (intro w hSw; (try dsimp only at hSw); go_simp) <;> with_reducible rfl
                simp only [Act.put, List.setIfInBounds_toArray, List.set_cons_zero, List.set_cons_succ]
                refine wpAnyH_ready (rs := [2]) (by kernel_rfl) (by simp) ?_
                refine AllReadyH.cons (o := { dst := some 60, op := Go.Op.call { callee := Go.Callee.value (Go.Operand.func 25), args := #[Go.Operand.tmp 59], argTypes := #[22] }, type := 3, pos := "ref.go:41", after := #[{ on := 1, ground := Go.Ground.data }], guard := none }) rfl (fun K hK => ?_) AllReadyH.nil
                go_simp
                refine (HZ.out w4 (below_trans HB0.out (below_trans HB.out HDR.out))).mono ?_
                rintro e w5 ⟨n, rfl, hn, hb5⟩
                have HN := Lib.hid (HQ2.out n hn)
                have HB5 := Lib.hid (below_trans HDR.out hb5)
                have hn2 := hn.small
                clear hn hb5
                go_wp2_with fail
                refine hK.out _ _ ?_ (fun hz2 => ?_)
                · exact HS.out _ HB5.out
                clear hK K hHeld 
                try simp only [Act.put, List.setIfInBounds_toArray, List.set_cons_zero, List.set_cons_succ]
                refine wpAnyH_take (i := 5) (oi := { dst := some 63, op := Go.Op.binOp Go.BinOp.leq 3 (Go.Operand.tmp 60) (Go.Operand.tmp 62) 3, type := 4, pos := "ref.go:41", after := #[{ on := 2, ground := Go.Ground.data }, { on := 4, ground := Go.Ground.data }], guard := none }) (v := ?_) rfl (by kernel_rfl) (by kernel_rfl) (by kernel_rfl) (fun _ _ _ h => h) (Or.inl ⟨by rfl, ?_⟩) (by assumption) ?_
                rotate_left
                · (intro w hSw; (try dsimp only at hSw); go_simp) <;> with_reducible rfl
                simp only [Act.put, List.setIfInBounds_toArray, List.set_cons_zero, List.set_cons_succ]
                by_cases hle : (n : Int) ≤ rm
                · have u9 : decide ((n : Int) ≤ rm) = true := decide_eq_true hle
                  have HFIN : Hid (RgtP ⟨rm, fs, lf, dn⟩ w (.returned (.bool true)) w5) := Lib.hid (RgtP.of ⟨fun h => HN.out.1 hle, fun h => rfl⟩ (below_trans HB0.out (below_trans HB.out HB5.out)))
                  clear hle
                  refine wpAnyH_take (i := 6) (oi := { dst := some 2, op := Go.Op.assign (Go.Operand.tmp 63), type := 4, pos := "ref.go:41", after := #[{ on := 5, ground := Go.Ground.data }, { on := 2, ground := Go.Ground.chain }, { on := 0, ground := Go.Ground.phase }, { on := 1, ground := Go.Ground.phase }, { on := 2, ground := Go.Ground.phase }, { on := 3, ground := Go.Ground.phase }, { on := 4, ground := Go.Ground.phase }, { on := 5, ground := Go.Ground.phase }], guard := none }) (v := ?_) rfl (by kernel_rfl) (by kernel_rfl) (by kernel_rfl) (fun _ _ _ h => h) (Or.inl ⟨by rfl, ?_⟩) (by assumption) ?_
                  rotate_left
                  · (intro w hSw; (try dsimp only at hSw); go_simp) <;> with_reducible rfl
                  simp only [Act.put, List.setIfInBounds_toArray, List.set_cons_zero, List.set_cons_succ]
                  refine wpAnyH_done (by kernel_rfl) ?_ _
                  refine NoPanic.normal ?_
                  go_wp2
                  go_ret
                  exact HFIN.out
                · have u9 : decide ((n : Int) ≤ rm) = false := decide_eq_false hle
                  have HFIN : Hid (RgtP ⟨rm, fs, lf, dn⟩ w (.returned (.bool false)) w5) := Lib.hid (RgtP.of ⟨fun h => (by cases h), fun h => absurd (HN.out.2 h) hle⟩ (below_trans HB0.out (below_trans HB.out HB5.out)))
                  clear hle
                  refine wpAnyH_take (i := 6) (oi := { dst := some 2, op := Go.Op.assign (Go.Operand.tmp 63), type := 4, pos := "ref.go:41", after := #[{ on := 5, ground := Go.Ground.data }, { on := 2, ground := Go.Ground.chain }, { on := 0, ground := Go.Ground.phase }, { on := 1, ground := Go.Ground.phase }, { on := 2, ground := Go.Ground.phase }, { on := 3, ground := Go.Ground.phase }, { on := 4, ground := Go.Ground.phase }, { on := 5, ground := Go.Ground.phase }], guard := none }) (v := ?_) rfl (by kernel_rfl) (by kernel_rfl) (by kernel_rfl) (fun _ _ _ h => h) (Or.inl ⟨by rfl, ?_⟩) (by assumption) ?_
                  rotate_left
                  · (intro w hSw; (try dsimp only at hSw); go_simp) <;> with_reducible rfl
                  simp only [Act.put, List.setIfInBounds_toArray, List.set_cons_zero, List.set_cons_succ]
                  refine wpAnyH_done (by kernel_rfl) ?_ _
                  refine NoPanic.normal ?_
                  go_wp2
                  go_ret
                  exact HFIN.out
          · have u4 : decide (1073741824 < lf) = true := decide_eq_true (by omega)
            have HN : Hid (¬ RgtD ⟨rm, fs, lf, dn⟩) := Lib.hid (fun hh => by have := (lfB_iff.1 hh.left).2; simp only at this; omega)
            go_enter Try.func12, Try.ntmps12
            go_wp2
            go_ret
            exact RgtP.no HN.out HB0.out
        · have u3 : decide (lf < -1) = true := decide_eq_true (by omega)
          have HN : Hid (¬ RgtD ⟨rm, fs, lf, dn⟩) := Lib.hid (fun hh => by have := (lfB_iff.1 hh.left).1; simp only at this; omega)
          go_enter Try.func12, Try.ntmps12
          go_wp2
          go_ret
          exact RgtP.no HN.out HB0.out
      · have u2 : decide (8 < (L : Int)) = true := decide_eq_true (by omega)
        have HN : Hid (¬ RgtD ⟨rm, fs, lf, dn⟩) := Lib.hid (fun hh => by have := hh.fs.len; have := HL.out; simp only at *; omega)
        go_enter Try.func12, Try.ntmps12
        go_wp2
        go_ret
        exact RgtP.no HN.out HB0.out
    · have u1 : decide (1048576 < rm) = true := decide_eq_true (by omega)
      have HN : Hid (¬ RgtD ⟨rm, fs, lf, dn⟩) := Lib.hid (fun hh => by have := hh.hi; simp only at this; omega)
      go_enter Try.func12, Try.ntmps12
      go_wp2
      go_ret
      exact RgtP.no HN.out HB0.out
  · have u0 : decide (rm < 0) = true := decide_eq_true (by omega)
    have HN : Hid (¬ RgtD ⟨rm, fs, lf, dn⟩) := Lib.hid (fun hh => by have := hh.lo; simp only at this; omega)
    go_enter Try.func12, Try.ntmps12
    go_wp2
    go_ret
    exact RgtP.no HN.out HB0.out
end Go.Proofs.Ytmhdodiipkkjpaa.Dk
