/- Package disk: Crash. -/
import Derived.Test.YtmhdodiipkkjpaaDt
namespace Go.Proofs.Ytmhdodiipkkjpaa.Dk
open Go.RowKit

def CI (n : Int) (cs : List Value) : Prop := cs = [.int .i64 n]
/-- Numbers in memory. -/
abbrev SlI (w : World) (S : Nat → Prop) (v : Value) (xs : List Int) : Prop := Sl 1 CI w S v xs
theorem SlI.len {w : World} {S : Nat → Prop} {a : Option Addr} {n cap : Nat} {xs : List Int} (h : SlI w S (.slice a n cap) xs) : n = xs.length ∧ xs.length ≤ cap ∧ cap ≤ 9223372036854775807 := by
  obtain ⟨a', cap', hv, h1, h2, -⟩ := h
  injection hv with _ h3 h4
  exact ⟨h3, by omega, by omega⟩
theorem SlI.get {w : World} {S : Nat → Prop} {a : Option Addr} {n cap : Nat} {xs : List Int} (h : SlI w S (.slice a n cap) xs) {j : Nat} {x : Int} (hx : xs[j]? = some x) : ∃ b off, a = some ⟨b, off, none⟩ ∧ S b ∧ w.cell? ⟨b, off + j, none⟩ = some (.int .i64 x) := by
  obtain ⟨a', cap', hv, h1, h2, h3⟩ := h
  injection hv with h4 _ _
  subst h4
  obtain ⟨b, off, ha, hb, hat⟩ := h3 (fun e => by subst e; simp at hx)
  obtain ⟨cs, -, rfl, hc⟩ := hat j x hx
  have := hc 0 _ rfl
  rw [Nat.mul_one] at this
  exact ⟨b, off, ha, hb, this⟩
theorem SlI.old {w w' : World} {v : Value} {xs : List Int} (h : SlI w (Old w) v xs) (hb : Below w.heap.size w w') : SlI w' (Old w') v xs := Sl.keep h (fun b hb2 => hb.block b hb2) (fun _ h => Nat.lt_of_lt_of_le h hb.size) (fun _ _ h => h)

/-- One file of a row replaced. -/
theorem own_setF {w : World} {B g cap p : Nat} {xs : List Fil} {x : Fil} (h : Own w B (.slice (some ⟨g, 0, none⟩) xs.length cap) xs) (hp : p < xs.length) :
    Own (w.setCells g (p * 3) (flat [x])) B (.slice (some ⟨g, 0, none⟩) xs.length cap) (xs.set p x) := by
  obtain ⟨cur, hh, hs, ht, hb, -, hc, hm⟩ := own_block h
  have hcl : cur.toList.length = cap * 3 := by simpa using hs
  have hh2 := heap_setCells g (flat [x]) (p * 3) w cur 44 (0, 0) hh
  have hlen : (xs.set p x).length = xs.length := List.length_set
  have hfx : (flat [x]).length = 3 := rfl
  have hse : xs.set p x = xs.take p ++ x :: xs.drop (p + 1) := by rw [List.set_eq_take_append_cons_drop, if_pos hp]
  have key : Own (w.setCells g (p * 3) (flat [x])) B (.slice (some ⟨g, 0, none⟩) (xs.set p x).length cap) (xs.set p x) := by
    refine own_of_block hh2 (by rw [setA_size]; exact hs) ?_ hb (by omega) hm
    rw [setA_list _ _ _ (by rw [hfx]; omega), hlen, hse, flat_append, show x :: xs.drop (p + 1) = [x] ++ xs.drop (p + 1) from rfl, flat_append, flat_take, flat_drop, ← ht, hfx]
    have e1 : (cur.toList.take (xs.length * 3)).take (p * 3) = cur.toList.take (p * 3) := by rw [List.take_take, Nat.min_eq_left (by omega)]
    rw [e1, List.append_assoc, List.take_append, List.length_take, hcl, Nat.min_eq_left (by omega), List.take_of_length_le (by rw [List.length_take]; omega)]
    congr 1
    rw [List.take_append, hfx, List.take_of_length_le (by rw [hfx]; omega)]
    congr 1
    rw [List.drop_take]
    congr 1
    · omega
    · congr 1; omega
  rw [hlen] at key
  exact key
/-- The first few have crashed. -/
def crK (keep : List Int) (l : List Fil) (k : Nat) : List Fil := (crFs keep l).take k ++ l.drop k
theorem crK_len (keep : List Int) (l : List Fil) (k : Nat) (hk : k ≤ l.length) : (crK keep l k).length = l.length := by
  unfold crK; rw [List.length_append, List.length_take, List.length_drop, crs_len]; omega
theorem crK_at {keep : List Int} {l : List Fil} {k : Nat} {x : Fil} (hx : l[k]? = some x) : (crK keep l k)[k]? = some x := by
  have hlt := (List.getElem?_eq_some_iff.1 hx).1
  unfold crK
  rw [List.getElem?_append_right (by rw [List.length_take, crs_len]; omega), List.length_take, crs_len, Nat.min_eq_left (by omega), List.getElem?_drop]
  simpa using hx
theorem crK_next {keep : List Int} {l : List Fil} {k : Nat} {x : Fil} (hx : l[k]? = some x) : crK keep l (k + 1) = (crK keep l k).set k (crF x (lastF keep k x.tl.size)) := by
  have hlt := (List.getElem?_eq_some_iff.1 hx).1
  have hc := crs_get (keep := keep) hx
  unfold crK
  rw [take_one hc, List.set_append_right _ _ (by rw [List.length_take, crs_len]; omega), List.length_take, crs_len, Nat.min_eq_left (by omega), Nat.sub_self]
  have : l.drop k = x :: l.drop (k + 1) := by
    obtain ⟨h1, rfl⟩ := List.getElem?_eq_some_iff.1 hx
    exact List.drop_eq_getElem_cons h1
  rw [this]
  simp
theorem crK_zero (keep : List Int) (l : List Fil) : crK keep l 0 = l := by unfold crK; simp
theorem crK_all (keep : List Int) (l : List Fil) : crK keep l l.length = crFs keep l := by
  unfold crK; rw [List.drop_length, List.append_nil, ← crs_len keep l, List.take_length]
/-- A crash under way. -/
structure CrS (w : World) (rm lf : Int) (dn : Bool) (g off L cap : Nat) (xs : List Fil) (wr : World) : Prop where
  low : Below w.heap.size w wr
  own : Own wr (w.heap.size + 2) (.slice (some ⟨g, 0, none⟩) L cap) xs
  box : Row wr w.heap.size 24 [.int .i64 rm, .slice (some ⟨g, off, none⟩) L cap, .int .i64 lf, .bool dn]
  res : Row wr (w.heap.size + 1) 24 [.int .i64 0, .slice none 0 0, .int .i64 0, .bool false]
theorem CrS.below {w : World} {rm lf : Int} {dn : Bool} {g off L cap : Nat} {xs : List Fil} {wr w' : World} (h : CrS w rm lf dn g off L cap xs wr) (hb : Below wr.heap.size wr w') : CrS w rm lf dn g off L cap xs w' :=
  ⟨below_trans h.low hb, ownsRow_below h.own hb, h.box.below hb, h.res.below hb⟩
theorem CrS.blk {w : World} {rm lf : Int} {dn : Bool} {g off L cap : Nat} {xs : List Fil} {wr : World} (h : CrS w rm lf dn g off L cap xs wr) : w.heap.size + 2 ≤ g ∧ g < wr.heap.size := h.own.lt g rfl
theorem CrS.set {w : World} {rm lf : Int} {dn : Bool} {g off L cap p : Nat} {xs : List Fil} {wr : World} (h : CrS w rm lf dn g off L cap xs wr) (hoff : off = 0) (hl : L = xs.length) (hp : p < L) (x : Fil) :
    CrS w rm lf dn g off L cap (xs.set p x) (((wr.setCell ⟨g, off + p * 3, none⟩ (.string x.nm)).setCell ⟨g, off + p * 3 + 1, none⟩ (.string x.sy)).setCell ⟨g, off + p * 3 + 2, none⟩ (.string x.tl)) := by
  subst hoff
  have hg := h.blk
  have hbut := but_setCells g (flat [x]) (p * 3) wr
  have e : (((wr.setCell ⟨g, 0 + p * 3, none⟩ (.string x.nm)).setCell ⟨g, 0 + p * 3 + 1, none⟩ (.string x.sy)).setCell ⟨g, 0 + p * 3 + 2, none⟩ (.string x.tl)) = wr.setCells g (p * 3) (flat [x]) := by
    simp only [Nat.zero_add, flat, World.setCells]
  rw [e]
  refine ⟨h.low.trans (hbut.below (by omega)), ?_, h.box.keep (hbut.block _ (by omega)), h.res.keep (hbut.block _ (by omega))⟩
  have ho := h.own
  subst hl
  exact own_setF ho hp


set_option maxHeartbeats 6400000 in
set_option maxRecDepth 100000 in
theorem crash_any (w : World) (d : Dsk) (a : Option Addr) (cap : Nat) (ak : Option Addr) (ck : Nat) (keep : List Int) (h : DAt w d a cap) (hk : SlI w (Old w) (.slice ak keep.length ck) keep) (hw : ∀ n, n ∈ keep → -9223372036854775808 ≤ n ∧ n ≤ 9223372036854775807) :
    Calls Try.prog 16 #[diV d (.slice a d.fs.length cap), .slice ak keep.length ck] w (DkP (crashF d keep) w) := by
  obtain ⟨rm, fs, lf, dn⟩ := d
  have HRT := Lib.hid (fun W (hb : Below w.heap.size w W) => right_any W ⟨rm, fs, lf, dn⟩ a cap (h.old hb))
  have HCL := Lib.hid (fun W (hb : Below w.heap.size w W) (hl : fs.length ≤ 1000) => clone_any W a cap fs (h.fs.old hb) hl)
  have HK := Lib.hid (fun W (hb : Below w.heap.size w W) => hk.old hb)
  have hkl := hk.len
  have HW := Lib.hid hw
  obtain ⟨L, HL⟩ : ∃ L, Hid (L = fs.length) := ⟨_, Lib.hid rfl⟩
  obtain ⟨M, HM⟩ : ∃ L, Hid (L = keep.length) := ⟨_, Lib.hid rfl⟩
  simp only at HRT ⊢
  rw [← HL.out] at HRT HCL ⊢
  rw [← HM.out] at HK hkl ⊢
  clear h hk hw
  obtain ⟨W1, HW1⟩ : ∃ W, Hid (W = (w.alloc (.cells #[.int .i64 rm, .slice a L cap, .int .i64 lf, .bool dn] 24)).alloc (.cells #[.int .i64 0, .slice none 0 0, .int .i64 0, .bool false] 24)) := ⟨_, Lib.hid rfl⟩
  have HB1 : Hid (Below w.heap.size w W1) := Lib.hid (by rw [HW1.out]; exact below2 _ _ _)
  have HSZ : Hid (W1.heap.size = w.heap.size + 2) := Lib.hid (by rw [HW1.out]; simp)
  have HRD : Hid (Row W1 w.heap.size 24 [.int .i64 rm, .slice a L cap, .int .i64 lf, .bool dn]) := Lib.hid (by rw [HW1.out]; exact (row_new w #[.int .i64 rm, .slice a L cap, .int .i64 lf, .bool dn] _).alloc _)
  have HRR : Hid (Row W1 (w.heap.size + 1) 24 [.int .i64 0, .slice none 0 0, .int .i64 0, .bool false]) := Lib.hid (by
    rw [HW1.out]
    have h := row_new (w.alloc (.cells #[.int .i64 rm, .slice a L cap, .int .i64 lf, .bool dn] 24)) #[.int .i64 0, .slice none 0 0, .int .i64 0, .bool false] 24
    rwa [World.size_alloc] at h)
  have r0 := HRD.out.cell (i := 0) rfl
  have r1 := HRD.out.cell (i := 1) rfl
  have r2 := HRD.out.cell (i := 2) rfl
  have r3 := HRD.out.cell (i := 3) rfl
  rw [HW1.out] at r0 r1 r2 r3
  go_enter Try.func16, Try.ntmps16
  go_wp2_with fail
  rw [← HW1.out]
  refine (HRT.out W1 HB1.out).mono ?_
  rintro e w2 ⟨q, rfl, hq, hb2⟩
  have HB2 := Lib.hid hb2
  have HQ := Lib.hid hq
  clear hb2 hq r0 r1 r2 r3 HW1
  cases q with
  | false =>
    have HE : Hid (crashF ⟨rm, fs, lf, dn⟩ keep = (zeroD, 1)) := Lib.hid (by unfold crashF; rw [if_neg (fun h => by have := HQ.out.2 h; cases this)])
    have HRr := Lib.hid (HRR.out.below HB2.out)
    have k0 := HRr.out.cell (i := 0) rfl
    have k1 := HRr.out.cell (i := 1) rfl
    have k2 := HRr.out.cell (i := 2) rfl
    have k3 := HRr.out.cell (i := 3) rfl
    have tk0 := HRr.out.thaw 0
    have tk1 := HRr.out.thaw 1
    have tk2 := HRr.out.thaw 2
    have tk3 := HRr.out.thaw 3
    have R9 := put4_row HRr.out (.int .i64 0) (.slice none 0 0) (.int .i64 0) (.bool false)
    have f0 := R9.cell (i := 0) rfl
    have f1 := R9.cell (i := 1) rfl
    have f2 := R9.cell (i := 2) rfl
    have f3 := R9.cell (i := 3) rfl
    have HFIN : Hid (DkP (crashF ⟨rm, fs, lf, dn⟩ keep) w (.returned (.tuple #[.agg #[.int .i64 0, .slice none 0 0, .int .i64 0, .bool false], .int .i64 1])) (put4 w2 (w.heap.size + 1) (.int .i64 0) (.slice none 0 0) (.int .i64 0) (.bool false))) := Lib.hid (DkP.zero HE.out ((below_trans HB1.out HB2.out).trans ((put4_but w2 (w.heap.size + 1) (.int .i64 0) (.slice none 0 0) (.int .i64 0) (.bool false)).below (by omega))) rfl)
    clear R9
    go_wp2
    exact bodyPost_ret (v := .tuple #[.agg #[.int .i64 0, .slice none 0 0, .int .i64 0, .bool false], .int .i64 1]) (by simp [results, Try.results16, go_sem, f0, f1, f2, f3]) rfl HFIN.out
  | true =>
    have HRG : Hid (RgtD ⟨rm, fs, lf, dn⟩) := Lib.hid (HQ.out.1 rfl)
    clear HQ
    have HE : Hid (crashF ⟨rm, fs, lf, dn⟩ keep = (⟨rm, crFs keep fs, -1, false⟩, 0)) := Lib.hid (by unfold crashF; rw [if_pos HRG.out])
    have hL8 : L ≤ 8 := by have := HRG.out.fs.len; have := HL.out; simp only at *; omega
    have HFIT := Lib.hid HRG.out.fits
    simp only at HFIT
    have HRD2 := Lib.hid (HRD.out.below HB2.out)
    have r1 := HRD2.out.cell (i := 1) rfl
    have t1 := HRD2.out.thaw 1
    go_wp2_with fail
    refine (HCL.out w2 (below_trans HB1.out HB2.out) (by omega)).mono ?_
    rintro e w4 ⟨v4, rfl, ho4, hb4⟩
    obtain ⟨a4, c4, rfl, hc4, -, ha4⟩ := owns_form ho4
    rw [← HL.out] at ha4 ⊢
    have HO4 := Lib.hid ho4
    have HB4 := Lib.hid (below_trans HB2.out hb4)
    have HRD4 := Lib.hid (HRD.out.below HB4.out)
    have HRR4 := Lib.hid (HRR.out.below HB4.out)
    clear ho4 hb4 r1 t1
    by_cases hL0 : L = 0
    · have hfs : fs = [] := List.length_eq_zero_iff.1 (by have := HL.out; omega)
      subst hL0
      have HCN : Hid (crFs keep fs = []) := Lib.hid (by rw [hfs]; rfl)
      clear hfs
      have r0 := HRD4.out.cell (i := 0) rfl
      have r1 := HRD4.out.cell (i := 1) rfl
      have tr1 := HRD4.out.thaw 1
      have HBU := Lib.hid ((But.refl w.heap.size w4).set 1 (.slice a4 0 c4))
      have HRD5 := Lib.hid (HRD4.out.set 1 (.slice a4 0 c4))
      have HRR5 := Lib.hid (HRR4.out.keep (HBU.out.block (w.heap.size + 1) (by omega)))
      have HB5 : Hid (Below w.heap.size w (w4.setCell ⟨w.heap.size, 1, none⟩ (.slice a4 0 c4))) := Lib.hid ((below_trans HB1.out HB4.out).trans (HBU.out.below (Nat.le_refl _)))
      have HS5 : Hid (SlF (w4.setCell ⟨w.heap.size, 1, none⟩ (.slice a4 0 c4)) (Old (w4.setCell ⟨w.heap.size, 1, none⟩ (.slice a4 0 c4))) (.slice a4 0 c4) []) := Lib.hid (by
        refine ⟨a4, c4, rfl, Nat.zero_le _, ?_, fun h => absurd rfl h⟩
        exact (SlF.len (Own.sl HO4.out)).2.2)
      have g1 := HRD5.out.cell (i := 1) rfl
      go_wp2
      generalize hW5 : (w4.setCell ⟨w.heap.size, 1, none⟩ (.slice a4 0 c4)) = w5 at *
      clear hW5 r0 r1 tr1 g1 HBU
      go_loopw [20] (fun i wr => i = .int .i64 0 ∧ wr = w5) (fun _ _ => 0)
      case atStart => exact ⟨rfl, rfl⟩
      case round =>
        obtain ⟨rfl, rfl⟩ := hrel
        have r0 := HRD5.out.cell (i := 0) rfl
        have r1 := HRD5.out.cell (i := 1) rfl
        have r2 := HRD5.out.cell (i := 2) rfl
        have r3 := HRD5.out.cell (i := 3) rfl
        have tr0 := HRD5.out.thaw 0
        have tr1 := HRD5.out.thaw 1
        have tr2 := HRD5.out.thaw 2
        have tr3 := HRD5.out.thaw 3
        have k0 := HRR5.out.cell (i := 0) rfl
        have k1 := HRR5.out.cell (i := 1) rfl
        have k2 := HRR5.out.cell (i := 2) rfl
        have k3 := HRR5.out.cell (i := 3) rfl
        have tk0 := HRR5.out.thaw 0
        have tk1 := HRR5.out.thaw 1
        have tk2 := HRR5.out.thaw 2
        have tk3 := HRR5.out.thaw 3
        have HBU := Lib.hid (((But.refl w.heap.size wr).set 2 (.int .i64 (-1))).set 3 (.bool false))
        have HBP := Lib.hid (put4_but ((wr.setCell ⟨w.heap.size, 2, none⟩ (.int .i64 (-1))).setCell ⟨w.heap.size, 3, none⟩ (.bool false)) (w.heap.size + 1) (.int .i64 rm) (.slice a4 0 c4) (.int .i64 (-1)) (.bool false))
        have R9 := put4_row (HRR5.out.keep (HBU.out.block (w.heap.size + 1) (by omega))) (.int .i64 rm) (.slice a4 0 c4) (.int .i64 (-1)) (.bool false)
        have f0 := R9.cell (i := 0) rfl
        have f1 := R9.cell (i := 1) rfl
        have f2 := R9.cell (i := 2) rfl
        have f3 := R9.cell (i := 3) rfl
        have HFIN : Hid (DkP (crashF ⟨rm, fs, lf, dn⟩ keep) w (.returned (.tuple #[.agg #[.int .i64 rm, (.slice a4 0 c4), .int .i64 (-1), .bool false], .int .i64 0])) (put4 ((wr.setCell ⟨w.heap.size, 2, none⟩ (.int .i64 (-1))).setCell ⟨w.heap.size, 3, none⟩ (.bool false)) (w.heap.size + 1) (.int .i64 rm) (.slice a4 0 c4) (.int .i64 (-1)) (.bool false))) := Lib.hid (by
          rw [HE.out]
          refine ⟨_, _, by simp only; rw [HCN.out]; rfl, ?_, ?_⟩
          · have h := slf_two HS5.out HRD5.out HRR5.out (fun k hk1 hk2 => (HBP.out.block k hk2).trans (HBU.out.block k hk1)) (HBP.out.size.trans HBU.out.size)
            simp only; rw [HCN.out]; exact h
          · exact (HB5.out.trans (HBU.out.below (Nat.le_refl _))).trans (HBP.out.below (B := w.heap.size) (by omega)))
        clear R9
        go_wp2
        exact bodyPost_ret (v := .tuple #[.agg #[.int .i64 rm, (.slice a4 0 c4), .int .i64 (-1), .bool false], .int .i64 0]) (by simp [results, Try.results16, go_sem, f0, f1, f2, f3]) rfl HFIN.out
    · obtain ⟨g, rfl⟩ := ha4 (by omega)
      obtain ⟨off, HOF⟩ : ∃ z : Nat, Hid (z = 0) := ⟨0, Lib.hid rfl⟩
      obtain ⟨cC, HCC⟩ : ∃ z : Nat, Hid (z = c4) := ⟨c4, Lib.hid rfl⟩
      rw [← HCC.out] at HO4 ⊢
      rw [show (⟨g, 0, none⟩ : Addr) = ⟨g, off, none⟩ by rw [HOF.out]]
      have hcL : L ≤ cC := by have := HCC.out; have := HL.out; omega
      have hcM : cC ≤ 9223372036854775807 := by exact (SlF.len (Own.sl HO4.out)).2.2
      clear HCC hc4
      have r0 := HRD4.out.cell (i := 0) rfl
      have r1 := HRD4.out.cell (i := 1) rfl
      have tr1 := HRD4.out.thaw 1
      have HBU := Lib.hid ((But.refl w.heap.size w4).set 1 (.slice (some ⟨g, off, none⟩) L cC))
      have HRD5 := Lib.hid (HRD4.out.set 1 (.slice (some ⟨g, off, none⟩) L cC))
      have HRR5 := Lib.hid (HRR4.out.keep (HBU.out.block (w.heap.size + 1) (by omega)))
      have HB5 : Hid (Below w.heap.size w (w4.setCell ⟨w.heap.size, 1, none⟩ (.slice (some ⟨g, off, none⟩) L cC))) := Lib.hid ((below_trans HB1.out HB4.out).trans (HBU.out.below (Nat.le_refl _)))
      have HO5 : Hid (Own (w4.setCell ⟨w.heap.size, 1, none⟩ (.slice (some ⟨g, off, none⟩) L cC)) (w.heap.size + 2) (.slice (some ⟨g, 0, none⟩) L cC) fs) := Lib.hid (by
        have h := owns_but (owns_low HO4.out (show w.heap.size + 2 ≤ w2.heap.size by have h1 := HSZ.out; have h2 := HB2.out.size; omega)) HBU.out (by omega)
        rw [← HL.out] at h
        unfold Own
        rw [← HL.out]
        exact h)
      have HST : Hid (CrS w rm lf dn g off L cC (crK keep fs 0) (w4.setCell ⟨w.heap.size, 1, none⟩ (.slice (some ⟨g, off, none⟩) L cC))) := Lib.hid ⟨HB5.out, by rw [crK_zero]; exact HO5.out, HRD5.out, HRR5.out⟩
      have g1 := HRD5.out.cell (i := 1) rfl
      go_wp2
      generalize hW5 : (w4.setCell ⟨w.heap.size, 1, none⟩ (.slice (some ⟨g, off, none⟩) L cC)) = w5 at *
      clear hW5 r0 r1 tr1 g1 HBU HO4 HRD4 HRR4 HRD5 HRR5 HB5 HO5
      go_loopw [20] (fun i wr => ∃ k : Nat, k ≤ L ∧ i = .int .i64 k ∧ Hid (CrS w rm lf dn g off L cC (crK keep fs k) wr)) (fun i _ => L - (intOf i).toNat)
      case atStart => exact ⟨0, Nat.zero_le _, rfl, HST⟩
      case round =>
        obtain ⟨k, hk, rfl, HC⟩ := hrel
        by_cases hlt : k < L
        · obtain ⟨x, hx⟩ : ∃ x, fs[k]? = some x := ⟨_, List.getElem?_eq_getElem (by have := HL.out; omega)⟩
          have hsl := Own.sl (xs := crK keep fs k) (by have := HC.out.own; rw [show L = (crK keep fs k).length by rw [crK_len _ _ _ (by have := HL.out; omega)]; exact HL.out] at this; exact this)
          obtain ⟨bb, oo, hbo, -, y0, y1, y2⟩ := hsl.get (crK_at hx)
          injection hbo with hbo
          injection hbo with e1 e2
          subst e1 e2
          have x0 : wr.cell? ⟨g, off + k * 3, none⟩ = some (.string x.nm) := by rw [HOF.out]; exact y0
          have x1 : wr.cell? ⟨g, off + k * 3 + 1, none⟩ = some (.string x.sy) := by rw [HOF.out]; exact y1
          have x2 : wr.cell? ⟨g, off + k * 3 + 2, none⟩ = some (.string x.tl) := by rw [HOF.out]; exact y2
          have hfit := HFIT.out x (mem_at hx)
          have hft := hfit.tl
          have HFX := Lib.hid hfit
          have HNX := Lib.hid (crK_next (keep := keep) hx)
          have HBO := Lib.hid (below1 wr (.cells (fiC x) 44))
          have HRF : Hid (RowF (wr.alloc (.cells (fiC x) 44)) wr.heap.size x) := Lib.hid (row_new wr (fiC x) _)
          have HGW := Lib.hid HC.out.blk
          have HC1 := Lib.hid (HC.out.below HBO.out)
          have HKW := Lib.hid (HK.out wr HC.out.low)
          have HCRX := Lib.hid (fun W n hn => crashed_any W x n hn hfit)
          have HCL2 : Hid ((crK keep fs k).length = L) := Lib.hid (by rw [crK_len _ _ _ (by have := HL.out; omega)]; exact HL.out.symm)
          clear hx hsl y0 y1 y2 hfit
          obtain ⟨xn, xs, xt⟩ := x
          simp only at x0 x1 x2 hft HNX HBO HRF HC1 HCRX
          by_cases hkm : k < M
          · obtain ⟨kv, hkv⟩ : ∃ n, keep[k]? = some n := ⟨_, List.getElem?_eq_getElem (by have := HM.out; omega)⟩
            obtain ⟨bk, ok, rfl, -, z0⟩ := HKW.out.get hkv
            have HLA : Hid (lastF keep k xt.size = min kv.toNat xt.size) := Lib.hid (by unfold lastF; rw [hkv])
            obtain ⟨hw1, hw2⟩ := HW.out kv (mem_at hkv)
            have HZ0 : Hid (∀ W, Below wr.heap.size wr W → W.cell? ⟨bk, ok + k, none⟩ = some (.int .i64 kv)) := Lib.hid (fun W hb => by
              obtain ⟨b2, o2, hbb, -, z⟩ := (HKW.out.old hb).get hkv
              injection hbb with hbb
              injection hbb with e1 e2
              subst e1 e2
              exact z)
            obtain ⟨n, Hn⟩ : ∃ n, Hid (n = lastF keep k xt.size) := ⟨_, Lib.hid rfl⟩
            rw [← Hn.out] at HLA HNX
            have hnle : n ≤ xt.size := by rw [HLA.out]; exact Nat.min_le_right _ _
            obtain ⟨p, Hp⟩ : ∃ p, Hid (p = kv.toNat) := ⟨_, Lib.hid rfl⟩
            rw [← Hp.out] at HLA
            have q3 : (if kv < 0 then (0 : Int) else kv) = (p : Int) := by have := Hp.out; split <;> omega
            clear hkv z0
            by_cases hpx : p ≤ xt.size
            · obtain rfl : n = p := by have := HLA.out; omega
              have q4 : ¬ ((xt.size : Int) < (n : Int)) := by omega
              clear hpx HLA Hn
              have HSB : Hid (∀ W, Below (wr.alloc (.cells (fiC ⟨xn, xs, xt⟩) 44)).heap.size (wr.alloc (.cells (fiC ⟨xn, xs, xt⟩) 44)) W → W.cell? ⟨bk, ok + k, none⟩ = some (.int .i64 kv) ∧ W.cell? ⟨wr.heap.size, 2, none⟩ = some (.string xt)) := Lib.hid (fun W hb => ⟨HZ0.out W (below_trans HBO.out hb), (HRF.out.below hb).cell (i := 2) rfl⟩)
              have q0 : decide (k < M) = true := decide_eq_true hkm
              have q1 : (k : Int) < (M : Int) := by omega
              have HDQ := Lib.hid (Below.refl (wr.alloc (.cells (fiC ⟨xn, xs, xt⟩) 44)).heap.size (wr.alloc (.cells (fiC ⟨xn, xs, xt⟩) 44))).drew
              have HC2 := Lib.hid (HC1.out.below HDQ.out)
              have HRN0 := Lib.hid (HRF.out.below HDQ.out)
              have hs9 := HSB.out _ HDQ.out
              go_wp2
              refine wp_region_noPanic ?_
              refine wp_region_held_drew (S := fun W => W.cell? ⟨bk, ok + k, none⟩ = some (.int .i64 kv) ∧ W.cell? ⟨wr.heap.size, 2, none⟩ = some (.string xt)) (by kernel_rfl) hs9 (fun hHeld => ?_)
              clear hs9
              generalize hW5 : (wr.alloc (.cells (fiC ⟨xn, xs, xt⟩) 44)).drew = w5b at *
              clear hW5
              refine wpAnyH_take (i := 0) (oi := { dst := some 29, op := Go.Op.move (Go.Operand.tmp 1), type := 35, pos := "disk.go:108", after := #[], guard := none }) (v := ?_) rfl (by kernel_rfl) (by kernel_rfl) (by kernel_rfl) (fun _ _ _ h => h) (Or.inl ⟨by rfl, ?_⟩) (by assumption) ?_
              rotate_left
              · (intro w hSw; (try dsimp only at hSw); go_simp) <;> with_reducible rfl
              simp only [Act.put, List.setIfInBounds_toArray, List.set_cons_zero, List.set_cons_succ]
              refine wpAnyH_take (i := 1) (oi := { dst := some 30, op := Go.Op.move (Go.Operand.tmp 6), type := 3, pos := "disk.go:108", after := #[], guard := none }) (v := ?_) rfl (by kernel_rfl) (by kernel_rfl) (by kernel_rfl) (fun _ _ _ h => h) (Or.inl ⟨by rfl, ?_⟩) (by assumption) ?_
              rotate_left
              · (intro w hSw; (try dsimp only at hSw); go_simp) <;> with_reducible rfl
              simp only [Act.put, List.setIfInBounds_toArray, List.set_cons_zero, List.set_cons_succ]
              refine wpAnyH_take (i := 2) (oi := { dst := some 31, op := Go.Op.indexAddr 35 (Go.Operand.tmp 29) (Go.Operand.tmp 30), type := 0, pos := "disk.go:108", after := #[{ on := 0, ground := Go.Ground.data }, { on := 1, ground := Go.Ground.data }], guard := none }) (v := ?_) rfl (by kernel_rfl) (by kernel_rfl) (by kernel_rfl) (fun _ _ _ h => h) (Or.inl ⟨by rfl, ?_⟩) (by assumption) ?_
              rotate_left
              · (intro w hSw; (try dsimp only at hSw); go_simp) <;> with_reducible rfl
              simp only [Act.put, List.setIfInBounds_toArray, List.set_cons_zero, List.set_cons_succ]
              refine wpAnyH_take (i := 3) (oi := { dst := some 32, op := Go.Op.load 3 (Go.Operand.tmp 31), type := 3, pos := "disk.go:108", after := #[{ on := 2, ground := Go.Ground.data }], guard := none }) (v := ?_) rfl (by kernel_rfl) (by kernel_rfl) (by kernel_rfl) (fun _ _ _ h => h) (Or.inl ⟨by rfl, ?_⟩) (by assumption) ?_
              rotate_left
              · (intro w hSw; (try dsimp only at hSw); go_simp) <;> with_reducible rfl
              simp only [Act.put, List.setIfInBounds_toArray, List.set_cons_zero, List.set_cons_succ]
              refine wpAnyH_take (i := 4) (oi := { dst := some 33, op := Go.Op.call { callee := Go.Callee.builtin Go.Builtin.max, args := #[Go.Operand.tmp 32, Go.Operand.const (Go.Value.int Go.IntKind.i64 0)], argTypes := #[3, 3] }, type := 3, pos := "disk.go:108", after := #[{ on := 3, ground := Go.Ground.data }], guard := none }) (v := ?_) rfl (by kernel_rfl) (by kernel_rfl) (by kernel_rfl) (fun _ _ _ h => h) (Or.inl ⟨by rfl, ?_⟩) (by assumption) ?_
              rotate_left
              · (intro w hSw; (try dsimp only at hSw); go_simp) <;> with_reducible rfl
              simp only [Act.put, List.setIfInBounds_toArray, List.set_cons_zero, List.set_cons_succ]
              refine wpAnyH_take (i := 5) (oi := { dst := some 34, op := Go.Op.fieldAddr 44 (Go.Operand.tmp 7) 2, type := 0, pos := "disk.go:108", after := #[], guard := none }) (v := ?_) rfl (by kernel_rfl) (by kernel_rfl) (by kernel_rfl) (fun _ _ _ h => h) (Or.inl ⟨by rfl, ?_⟩) (by assumption) ?_
              rotate_left
              · (intro w hSw; (try dsimp only at hSw); go_simp) <;> with_reducible rfl
              simp only [Act.put, List.setIfInBounds_toArray, List.set_cons_zero, List.set_cons_succ]
              refine wpAnyH_take (i := 6) (oi := { dst := some 35, op := Go.Op.load 9 (Go.Operand.tmp 34), type := 9, pos := "disk.go:108", after := #[{ on := 5, ground := Go.Ground.data }], guard := none }) (v := ?_) rfl (by kernel_rfl) (by kernel_rfl) (by kernel_rfl) (fun _ _ _ h => h) (Or.inl ⟨by rfl, ?_⟩) (by assumption) ?_
              rotate_left
              · (intro w hSw; (try dsimp only at hSw); go_simp) <;> with_reducible rfl
              simp only [Act.put, List.setIfInBounds_toArray, List.set_cons_zero, List.set_cons_succ]
              refine wpAnyH_take (i := 7) (oi := { dst := some 36, op := Go.Op.call { callee := Go.Callee.builtin Go.Builtin.len, args := #[Go.Operand.tmp 35], argTypes := #[9] }, type := 3, pos := "disk.go:108", after := #[{ on := 6, ground := Go.Ground.data }], guard := none }) (v := ?_) rfl (by kernel_rfl) (by kernel_rfl) (by kernel_rfl) (fun _ _ _ h => h) (Or.inl ⟨by rfl, ?_⟩) (by assumption) ?_
              rotate_left
              · (intro w hSw; (try dsimp only at hSw); go_simp) <;> with_reducible rfl
              simp only [Act.put, List.setIfInBounds_toArray, List.set_cons_zero, List.set_cons_succ]
              refine wpAnyH_take (i := 8) (oi := { dst := some 37, op := Go.Op.call { callee := Go.Callee.builtin Go.Builtin.min, args := #[Go.Operand.tmp 33, Go.Operand.tmp 36], argTypes := #[3, 3] }, type := 3, pos := "disk.go:108", after := #[{ on := 4, ground := Go.Ground.data }, { on := 7, ground := Go.Ground.data }], guard := none }) (v := ?_) rfl (by kernel_rfl) (by kernel_rfl) (by kernel_rfl) (fun _ _ _ h => h) (Or.inl ⟨by rfl, ?_⟩) (by assumption) ?_
              rotate_left
              · (intro w hSw; (try dsimp only at hSw); go_simp) <;> with_reducible rfl
              simp only [Act.put, List.setIfInBounds_toArray, List.set_cons_zero, List.set_cons_succ]
              refine wpAnyH_take (i := 9) (oi := { dst := some 8, op := Go.Op.assign (Go.Operand.tmp 37), type := 3, pos := "disk.go:108", after := #[{ on := 8, ground := Go.Ground.data }, { on := 0, ground := Go.Ground.phase }, { on := 1, ground := Go.Ground.phase }, { on := 2, ground := Go.Ground.phase }, { on := 3, ground := Go.Ground.phase }, { on := 4, ground := Go.Ground.phase }, { on := 5, ground := Go.Ground.phase }, { on := 6, ground := Go.Ground.phase }, { on := 7, ground := Go.Ground.phase }, { on := 8, ground := Go.Ground.phase }], guard := none }) (v := ?_) rfl (by kernel_rfl) (by kernel_rfl) (by kernel_rfl) (fun _ _ _ h => h) (Or.inl ⟨by rfl, ?_⟩) (by assumption) ?_
              rotate_left
              · (intro w hSw; (try dsimp only at hSw); go_simp) <;> with_reducible rfl
              simp only [Act.put, List.setIfInBounds_toArray, List.set_cons_zero, List.set_cons_succ]
              refine wpAnyH_done (by kernel_rfl) ?_ _
              refine NoPanic.normal ?_
              have HCN := HC2
              have HRN := HRN0
              have HBN := Lib.hid (below_trans HBO.out HDQ.out)
              clear HDQ HC2 HRN0 HSB q3 q4 q0 q1 HZ0
              have HSX : Hid (∀ W, Below w5b.heap.size w5b W → W.cell? ⟨w.heap.size, 1, none⟩ = some (.slice (some ⟨g, off, none⟩) L cC) ∧ W.cell? ⟨wr.heap.size, 0, none⟩ = some (.string xn) ∧ W.cell? ⟨wr.heap.size, 1, none⟩ = some (.string xs) ∧ W.cell? ⟨wr.heap.size, 2, none⟩ = some (.string xt)) := Lib.hid (fun W hb => ⟨((HCN.out.below hb).box).cell (i := 1) rfl, (HRN.out.below hb).cell (i := 0) rfl, (HRN.out.below hb).cell (i := 1) rfl, (HRN.out.below hb).cell (i := 2) rfl⟩)
              have HDR := Lib.hid (Below.refl w5b.heap.size w5b).drew
              have hs0 := HSX.out _ HDR.out
              go_wp2
              refine wp_region_noPanic ?_
              refine wp_region_held_drew (S := fun W => W.cell? ⟨w.heap.size, 1, none⟩ = some (.slice (some ⟨g, off, none⟩) L cC) ∧ W.cell? ⟨wr.heap.size, 0, none⟩ = some (.string xn) ∧ W.cell? ⟨wr.heap.size, 1, none⟩ = some (.string xs) ∧ W.cell? ⟨wr.heap.size, 2, none⟩ = some (.string xt)) (by kernel_rfl) hs0 (fun hHeld => ?_)
              clear hs0
              generalize hW6 : w5b.drew = w6 at *
              clear hW6
              refine wpAnyH_take (i := 0) (oi := { dst := some 38, op := Go.Op.fieldAddr 24 (Go.Operand.tmp 2) 1, type := 0, pos := "disk.go:110", after := #[], guard := none }) (v := ?_) rfl (by kernel_rfl) (by kernel_rfl) (by kernel_rfl) (fun _ _ _ h => h) (Or.inl ⟨by rfl, ?_⟩) (by assumption) ?_
              rotate_left
              · (intro w hSw; (try dsimp only at hSw); go_simp) <;> with_reducible rfl
              simp only [Act.put, List.setIfInBounds_toArray, List.set_cons_zero, List.set_cons_succ]
              refine wpAnyH_take (i := 1) (oi := { dst := some 39, op := Go.Op.load 22 (Go.Operand.tmp 38), type := 22, pos := "disk.go:110", after := #[{ on := 0, ground := Go.Ground.data }], guard := none }) (v := ?_) rfl (by kernel_rfl) (by kernel_rfl) (by kernel_rfl) (fun _ _ _ h => h) (Or.inl ⟨by rfl, ?_⟩) (by assumption) ?_
              rotate_left
              · (intro w hSw; (try dsimp only at hSw); go_simp) <;> with_reducible rfl
              simp only [Act.put, List.setIfInBounds_toArray, List.set_cons_zero, List.set_cons_succ]
              refine wpAnyH_take (i := 2) (oi := { dst := some 40, op := Go.Op.move (Go.Operand.tmp 6), type := 3, pos := "disk.go:110", after := #[], guard := none }) (v := ?_) rfl (by kernel_rfl) (by kernel_rfl) (by kernel_rfl) (fun _ _ _ h => h) (Or.inl ⟨by rfl, ?_⟩) (by assumption) ?_
              rotate_left
              · (intro w hSw; (try dsimp only at hSw); go_simp) <;> with_reducible rfl
              simp only [Act.put, List.setIfInBounds_toArray, List.set_cons_zero, List.set_cons_succ]
              refine wpAnyH_take (i := 3) (oi := { dst := some 41, op := Go.Op.load 44 (Go.Operand.tmp 7), type := 44, pos := "disk.go:110", after := #[], guard := none }) (v := ?_) rfl (by kernel_rfl) (by kernel_rfl) (by kernel_rfl) (fun _ _ _ h => h) (Or.inl ⟨by rfl, ?_⟩) (by assumption) ?_
              rotate_left
              · (intro w hSw; (try dsimp only at hSw); go_simp) <;> with_reducible rfl
              simp only [Act.put, List.setIfInBounds_toArray, List.set_cons_zero, List.set_cons_succ]
              refine wpAnyH_take (i := 4) (oi := { dst := some 42, op := Go.Op.move (Go.Operand.tmp 8), type := 3, pos := "disk.go:110", after := #[], guard := none }) (v := ?_) rfl (by kernel_rfl) (by kernel_rfl) (by kernel_rfl) (fun _ _ _ h => h) (Or.inl ⟨by rfl, ?_⟩) (by assumption) ?_
              rotate_left
              · (intro w hSw; (try dsimp only at hSw); go_simp) <;> with_reducible rfl
              simp only [Act.put, List.setIfInBounds_toArray, List.set_cons_zero, List.set_cons_succ]
              refine wpAnyH_ready (rs := [5]) (by kernel_rfl) (by simp) ?_
              refine AllReadyH.cons (o := { dst := some 43, op := Go.Op.call { callee := Go.Callee.value (Go.Operand.func 32), args := #[Go.Operand.tmp 41, Go.Operand.tmp 42], argTypes := #[44, 3] }, type := 44, pos := "disk.go:110", after := #[{ on := 3, ground := Go.Ground.data }, { on := 4, ground := Go.Ground.data }], guard := none }) rfl (fun K hK => ?_) AllReadyH.nil
              go_simp
              refine (HCRX.out w6 n hnle).mono ?_
              rintro e w7 ⟨rfl, hb7⟩
              have HB7 := Lib.hid (below_trans HDR.out hb7)
              clear hb7
              go_wp2_with fail
              refine hK.out _ _ ?_ (fun hz2 => ?_)
              · exact HSX.out _ HB7.out
              clear hK K hHeld 
              try simp only [Act.put, List.setIfInBounds_toArray, List.set_cons_zero, List.set_cons_succ]
              refine wpAnyH_take (i := 6) (oi := { dst := some 44, op := Go.Op.indexAddr 22 (Go.Operand.tmp 39) (Go.Operand.tmp 40), type := 0, pos := "disk.go:110", after := #[{ on := 1, ground := Go.Ground.data }, { on := 2, ground := Go.Ground.data }, { on := 0, ground := Go.Ground.phase }, { on := 1, ground := Go.Ground.phase }, { on := 2, ground := Go.Ground.phase }, { on := 3, ground := Go.Ground.phase }, { on := 4, ground := Go.Ground.phase }, { on := 5, ground := Go.Ground.phase }], guard := none }) (v := ?_) rfl (by kernel_rfl) (by kernel_rfl) (by kernel_rfl) (fun _ _ _ h => h) (Or.inl ⟨by rfl, ?_⟩) (by assumption) ?_
              rotate_left
              · (intro w hSw; (try dsimp only at hSw); go_simp) <;> with_reducible rfl
              simp only [Act.put, List.setIfInBounds_toArray, List.set_cons_zero, List.set_cons_succ]
              have HC7 := Lib.hid (HCN.out.below HB7.out)
              have HG7 := Lib.hid HC7.out.blk
              have HC8 := Lib.hid (HC7.out.set (p := k) HOF.out HCL2.out.symm hlt (crF ⟨xn, xs, xt⟩ n))
              rw [← HNX.out] at HC8
              have hrow : Row w7 wr.heap.size 44 [.string xn, .string xs, .string xt] := HRN.out.below HB7.out
              have hgw : wr.heap.size ≠ g := by have := HGW.out.2; omega
              have HW8 := Lib.hid HC8.out
              obtain ⟨cur, hhb, hcs, -, -, -, -, -⟩ := own_block (xs := crK keep fs k) (by have := HC7.out.own; rw [← HCL2.out] at this; exact this)
              have k0 : ∃ v, w7.cell? ⟨g, off + k * 3, none⟩ = some v := by rw [HOF.out, block_cell hhb, Array.getElem?_eq_getElem (by omega)]; exact ⟨_, rfl⟩
              have k1 : ∃ v, w7.cell? ⟨g, off + k * 3 + 1, none⟩ = some v := by rw [HOF.out, block_cell hhb, Array.getElem?_eq_getElem (by omega)]; exact ⟨_, rfl⟩
              have k2 : ∃ v, w7.cell? ⟨g, off + k * 3 + 2, none⟩ = some v := by rw [HOF.out, block_cell hhb, Array.getElem?_eq_getElem (by omega)]; exact ⟨_, rfl⟩
              obtain ⟨v0, k0⟩ := k0
              obtain ⟨v1, k1⟩ := k1
              obtain ⟨v2, k2⟩ := k2
              have t0 : w7.frozen? ⟨g, off + k * 3, none⟩ = false := by rw [HOF.out]; exact block_thaw hhb _
              have t1 : w7.frozen? ⟨g, off + k * 3 + 1, none⟩ = false := by rw [HOF.out]; exact block_thaw hhb _
              have t2 : w7.frozen? ⟨g, off + k * 3 + 2, none⟩ = false := by rw [HOF.out]; exact block_thaw hhb _
              have hbut : But g w7 (((w7.setCell ⟨g, off + k * 3, none⟩ (.string (crF ⟨xn, xs, xt⟩ n).nm)).setCell ⟨g, off + k * 3 + 1, none⟩ (.string (crF ⟨xn, xs, xt⟩ n).sy)).setCell ⟨g, off + k * 3 + 2, none⟩ (.string (crF ⟨xn, xs, xt⟩ n).tl)) := (((But.refl g w7).set _ _).set _ _).set _ _
              have hro := hrow.keep (hbut.block _ hgw)
              have hz8 : (fun W : World => W.cell? ⟨w.heap.size, 1, none⟩ = some (.slice (some ⟨g, off, none⟩) L cC) ∧ W.cell? ⟨wr.heap.size, 0, none⟩ = some (.string xn) ∧ W.cell? ⟨wr.heap.size, 1, none⟩ = some (.string xs) ∧ W.cell? ⟨wr.heap.size, 2, none⟩ = some (.string xt)) (((w7.setCell ⟨g, off + k * 3, none⟩ (.string (crF ⟨xn, xs, xt⟩ n).nm)).setCell ⟨g, off + k * 3 + 1, none⟩ (.string (crF ⟨xn, xs, xt⟩ n).sy)).setCell ⟨g, off + k * 3 + 2, none⟩ (.string (crF ⟨xn, xs, xt⟩ n).tl)) := ⟨HC8.out.box.cell (i := 1) rfl, hro.cell (i := 0) rfl, hro.cell (i := 1) rfl, hro.cell (i := 2) rfl⟩
              clear hhb hcs hbut hro hrow hgw
              refine wpAnyH_ready (rs := [7]) (by kernel_rfl) (by simp) ?_
              refine AllReadyH.cons (o := { dst := none, op := Go.Op.store 44 (Go.Operand.tmp 44) (Go.Operand.tmp 43), type := 0, pos := "disk.go:110", after := #[{ on := 6, ground := Go.Ground.data }, { on := 5, ground := Go.Ground.data }, { on := 5, ground := Go.Ground.chain }, { on := 0, ground := Go.Ground.phase }, { on := 1, ground := Go.Ground.phase }, { on := 2, ground := Go.Ground.phase }, { on := 3, ground := Go.Ground.phase }, { on := 4, ground := Go.Ground.phase }, { on := 5, ground := Go.Ground.phase }], guard := none }) rfl (fun K hK => ?_) AllReadyH.nil
              go_simp
              refine hK.out _ _ ?_ (fun hz4 => ?_)
              · exact hz8
              clear hK K hz2 
              try simp only [Act.put, List.setIfInBounds_toArray, List.set_cons_zero, List.set_cons_succ]
              refine wpAnyH_done (by kernel_rfl) ?_ _
              refine NoPanic.normal ?_
              go_wp2
              go_roundw
              case rel => exact ⟨k + 1, by omega, by go_num, HC8⟩
              case measure => simp [intOf]; omega
            · obtain rfl : n = xt.size := by have := HLA.out; omega
              have q4 : (xt.size : Int) < (p : Int) := by omega
              clear hpx HLA Hn
              have HSB : Hid (∀ W, Below (wr.alloc (.cells (fiC ⟨xn, xs, xt⟩) 44)).heap.size (wr.alloc (.cells (fiC ⟨xn, xs, xt⟩) 44)) W → W.cell? ⟨bk, ok + k, none⟩ = some (.int .i64 kv) ∧ W.cell? ⟨wr.heap.size, 2, none⟩ = some (.string xt)) := Lib.hid (fun W hb => ⟨HZ0.out W (below_trans HBO.out hb), (HRF.out.below hb).cell (i := 2) rfl⟩)
              have q0 : decide (k < M) = true := decide_eq_true hkm
              have q1 : (k : Int) < (M : Int) := by omega
              have HDQ := Lib.hid (Below.refl (wr.alloc (.cells (fiC ⟨xn, xs, xt⟩) 44)).heap.size (wr.alloc (.cells (fiC ⟨xn, xs, xt⟩) 44))).drew
              have HC2 := Lib.hid (HC1.out.below HDQ.out)
              have HRN0 := Lib.hid (HRF.out.below HDQ.out)
              have hs9 := HSB.out _ HDQ.out
              go_wp2
              refine wp_region_noPanic ?_
              refine wp_region_held_drew (S := fun W => W.cell? ⟨bk, ok + k, none⟩ = some (.int .i64 kv) ∧ W.cell? ⟨wr.heap.size, 2, none⟩ = some (.string xt)) (by kernel_rfl) hs9 (fun hHeld => ?_)
              clear hs9
              generalize hW5 : (wr.alloc (.cells (fiC ⟨xn, xs, xt⟩) 44)).drew = w5b at *
              clear hW5
              refine wpAnyH_take (i := 0) (oi := { dst := some 29, op := Go.Op.move (Go.Operand.tmp 1), type := 35, pos := "disk.go:108", after := #[], guard := none }) (v := ?_) rfl (by kernel_rfl) (by kernel_rfl) (by kernel_rfl) (fun _ _ _ h => h) (Or.inl ⟨by rfl, ?_⟩) (by assumption) ?_
              rotate_left
              · (intro w hSw; (try dsimp only at hSw); go_simp) <;> with_reducible rfl
              simp only [Act.put, List.setIfInBounds_toArray, List.set_cons_zero, List.set_cons_succ]
              refine wpAnyH_take (i := 1) (oi := { dst := some 30, op := Go.Op.move (Go.Operand.tmp 6), type := 3, pos := "disk.go:108", after := #[], guard := none }) (v := ?_) rfl (by kernel_rfl) (by kernel_rfl) (by kernel_rfl) (fun _ _ _ h => h) (Or.inl ⟨by rfl, ?_⟩) (by assumption) ?_
              rotate_left
              · (intro w hSw; (try dsimp only at hSw); go_simp) <;> with_reducible rfl
              simp only [Act.put, List.setIfInBounds_toArray, List.set_cons_zero, List.set_cons_succ]
              refine wpAnyH_take (i := 2) (oi := { dst := some 31, op := Go.Op.indexAddr 35 (Go.Operand.tmp 29) (Go.Operand.tmp 30), type := 0, pos := "disk.go:108", after := #[{ on := 0, ground := Go.Ground.data }, { on := 1, ground := Go.Ground.data }], guard := none }) (v := ?_) rfl (by kernel_rfl) (by kernel_rfl) (by kernel_rfl) (fun _ _ _ h => h) (Or.inl ⟨by rfl, ?_⟩) (by assumption) ?_
              rotate_left
              · (intro w hSw; (try dsimp only at hSw); go_simp) <;> with_reducible rfl
              simp only [Act.put, List.setIfInBounds_toArray, List.set_cons_zero, List.set_cons_succ]
              refine wpAnyH_take (i := 3) (oi := { dst := some 32, op := Go.Op.load 3 (Go.Operand.tmp 31), type := 3, pos := "disk.go:108", after := #[{ on := 2, ground := Go.Ground.data }], guard := none }) (v := ?_) rfl (by kernel_rfl) (by kernel_rfl) (by kernel_rfl) (fun _ _ _ h => h) (Or.inl ⟨by rfl, ?_⟩) (by assumption) ?_
              rotate_left
              · (intro w hSw; (try dsimp only at hSw); go_simp) <;> with_reducible rfl
              simp only [Act.put, List.setIfInBounds_toArray, List.set_cons_zero, List.set_cons_succ]
              refine wpAnyH_take (i := 4) (oi := { dst := some 33, op := Go.Op.call { callee := Go.Callee.builtin Go.Builtin.max, args := #[Go.Operand.tmp 32, Go.Operand.const (Go.Value.int Go.IntKind.i64 0)], argTypes := #[3, 3] }, type := 3, pos := "disk.go:108", after := #[{ on := 3, ground := Go.Ground.data }], guard := none }) (v := ?_) rfl (by kernel_rfl) (by kernel_rfl) (by kernel_rfl) (fun _ _ _ h => h) (Or.inl ⟨by rfl, ?_⟩) (by assumption) ?_
              rotate_left
              · (intro w hSw; (try dsimp only at hSw); go_simp) <;> with_reducible rfl
              simp only [Act.put, List.setIfInBounds_toArray, List.set_cons_zero, List.set_cons_succ]
              refine wpAnyH_take (i := 5) (oi := { dst := some 34, op := Go.Op.fieldAddr 44 (Go.Operand.tmp 7) 2, type := 0, pos := "disk.go:108", after := #[], guard := none }) (v := ?_) rfl (by kernel_rfl) (by kernel_rfl) (by kernel_rfl) (fun _ _ _ h => h) (Or.inl ⟨by rfl, ?_⟩) (by assumption) ?_
              rotate_left
              · (intro w hSw; (try dsimp only at hSw); go_simp) <;> with_reducible rfl
              simp only [Act.put, List.setIfInBounds_toArray, List.set_cons_zero, List.set_cons_succ]
              refine wpAnyH_take (i := 6) (oi := { dst := some 35, op := Go.Op.load 9 (Go.Operand.tmp 34), type := 9, pos := "disk.go:108", after := #[{ on := 5, ground := Go.Ground.data }], guard := none }) (v := ?_) rfl (by kernel_rfl) (by kernel_rfl) (by kernel_rfl) (fun _ _ _ h => h) (Or.inl ⟨by rfl, ?_⟩) (by assumption) ?_
              rotate_left
              · (intro w hSw; (try dsimp only at hSw); go_simp) <;> with_reducible rfl
              simp only [Act.put, List.setIfInBounds_toArray, List.set_cons_zero, List.set_cons_succ]
              refine wpAnyH_take (i := 7) (oi := { dst := some 36, op := Go.Op.call { callee := Go.Callee.builtin Go.Builtin.len, args := #[Go.Operand.tmp 35], argTypes := #[9] }, type := 3, pos := "disk.go:108", after := #[{ on := 6, ground := Go.Ground.data }], guard := none }) (v := ?_) rfl (by kernel_rfl) (by kernel_rfl) (by kernel_rfl) (fun _ _ _ h => h) (Or.inl ⟨by rfl, ?_⟩) (by assumption) ?_
              rotate_left
              · (intro w hSw; (try dsimp only at hSw); go_simp) <;> with_reducible rfl
              simp only [Act.put, List.setIfInBounds_toArray, List.set_cons_zero, List.set_cons_succ]
              refine wpAnyH_take (i := 8) (oi := { dst := some 37, op := Go.Op.call { callee := Go.Callee.builtin Go.Builtin.min, args := #[Go.Operand.tmp 33, Go.Operand.tmp 36], argTypes := #[3, 3] }, type := 3, pos := "disk.go:108", after := #[{ on := 4, ground := Go.Ground.data }, { on := 7, ground := Go.Ground.data }], guard := none }) (v := ?_) rfl (by kernel_rfl) (by kernel_rfl) (by kernel_rfl) (fun _ _ _ h => h) (Or.inl ⟨by rfl, ?_⟩) (by assumption) ?_
              rotate_left
              · (intro w hSw; (try dsimp only at hSw); go_simp) <;> with_reducible rfl
              simp only [Act.put, List.setIfInBounds_toArray, List.set_cons_zero, List.set_cons_succ]
              refine wpAnyH_take (i := 9) (oi := { dst := some 8, op := Go.Op.assign (Go.Operand.tmp 37), type := 3, pos := "disk.go:108", after := #[{ on := 8, ground := Go.Ground.data }, { on := 0, ground := Go.Ground.phase }, { on := 1, ground := Go.Ground.phase }, { on := 2, ground := Go.Ground.phase }, { on := 3, ground := Go.Ground.phase }, { on := 4, ground := Go.Ground.phase }, { on := 5, ground := Go.Ground.phase }, { on := 6, ground := Go.Ground.phase }, { on := 7, ground := Go.Ground.phase }, { on := 8, ground := Go.Ground.phase }], guard := none }) (v := ?_) rfl (by kernel_rfl) (by kernel_rfl) (by kernel_rfl) (fun _ _ _ h => h) (Or.inl ⟨by rfl, ?_⟩) (by assumption) ?_
              rotate_left
              · (intro w hSw; (try dsimp only at hSw); go_simp) <;> with_reducible rfl
              simp only [Act.put, List.setIfInBounds_toArray, List.set_cons_zero, List.set_cons_succ]
              refine wpAnyH_done (by kernel_rfl) ?_ _
              refine NoPanic.normal ?_
              have HCN := HC2
              have HRN := HRN0
              have HBN := Lib.hid (below_trans HBO.out HDQ.out)
              clear HDQ HC2 HRN0 HSB q3 q4 q0 q1 HZ0
              have HSX : Hid (∀ W, Below w5b.heap.size w5b W → W.cell? ⟨w.heap.size, 1, none⟩ = some (.slice (some ⟨g, off, none⟩) L cC) ∧ W.cell? ⟨wr.heap.size, 0, none⟩ = some (.string xn) ∧ W.cell? ⟨wr.heap.size, 1, none⟩ = some (.string xs) ∧ W.cell? ⟨wr.heap.size, 2, none⟩ = some (.string xt)) := Lib.hid (fun W hb => ⟨((HCN.out.below hb).box).cell (i := 1) rfl, (HRN.out.below hb).cell (i := 0) rfl, (HRN.out.below hb).cell (i := 1) rfl, (HRN.out.below hb).cell (i := 2) rfl⟩)
              have HDR := Lib.hid (Below.refl w5b.heap.size w5b).drew
              have hs0 := HSX.out _ HDR.out
              go_wp2
              refine wp_region_noPanic ?_
              refine wp_region_held_drew (S := fun W => W.cell? ⟨w.heap.size, 1, none⟩ = some (.slice (some ⟨g, off, none⟩) L cC) ∧ W.cell? ⟨wr.heap.size, 0, none⟩ = some (.string xn) ∧ W.cell? ⟨wr.heap.size, 1, none⟩ = some (.string xs) ∧ W.cell? ⟨wr.heap.size, 2, none⟩ = some (.string xt)) (by kernel_rfl) hs0 (fun hHeld => ?_)
              clear hs0
              generalize hW6 : w5b.drew = w6 at *
              clear hW6
              refine wpAnyH_take (i := 0) (oi := { dst := some 38, op := Go.Op.fieldAddr 24 (Go.Operand.tmp 2) 1, type := 0, pos := "disk.go:110", after := #[], guard := none }) (v := ?_) rfl (by kernel_rfl) (by kernel_rfl) (by kernel_rfl) (fun _ _ _ h => h) (Or.inl ⟨by rfl, ?_⟩) (by assumption) ?_
              rotate_left
              · (intro w hSw; (try dsimp only at hSw); go_simp) <;> with_reducible rfl
              simp only [Act.put, List.setIfInBounds_toArray, List.set_cons_zero, List.set_cons_succ]
              refine wpAnyH_take (i := 1) (oi := { dst := some 39, op := Go.Op.load 22 (Go.Operand.tmp 38), type := 22, pos := "disk.go:110", after := #[{ on := 0, ground := Go.Ground.data }], guard := none }) (v := ?_) rfl (by kernel_rfl) (by kernel_rfl) (by kernel_rfl) (fun _ _ _ h => h) (Or.inl ⟨by rfl, ?_⟩) (by assumption) ?_
              rotate_left
              · (intro w hSw; (try dsimp only at hSw); go_simp) <;> with_reducible rfl
              simp only [Act.put, List.setIfInBounds_toArray, List.set_cons_zero, List.set_cons_succ]
              refine wpAnyH_take (i := 2) (oi := { dst := some 40, op := Go.Op.move (Go.Operand.tmp 6), type := 3, pos := "disk.go:110", after := #[], guard := none }) (v := ?_) rfl (by kernel_rfl) (by kernel_rfl) (by kernel_rfl) (fun _ _ _ h => h) (Or.inl ⟨by rfl, ?_⟩) (by assumption) ?_
              rotate_left
              · (intro w hSw; (try dsimp only at hSw); go_simp) <;> with_reducible rfl
              simp only [Act.put, List.setIfInBounds_toArray, List.set_cons_zero, List.set_cons_succ]
              refine wpAnyH_take (i := 3) (oi := { dst := some 41, op := Go.Op.load 44 (Go.Operand.tmp 7), type := 44, pos := "disk.go:110", after := #[], guard := none }) (v := ?_) rfl (by kernel_rfl) (by kernel_rfl) (by kernel_rfl) (fun _ _ _ h => h) (Or.inl ⟨by rfl, ?_⟩) (by assumption) ?_
              rotate_left
              · (intro w hSw; (try dsimp only at hSw); go_simp) <;> with_reducible rfl
              simp only [Act.put, List.setIfInBounds_toArray, List.set_cons_zero, List.set_cons_succ]
              refine wpAnyH_take (i := 4) (oi := { dst := some 42, op := Go.Op.move (Go.Operand.tmp 8), type := 3, pos := "disk.go:110", after := #[], guard := none }) (v := ?_) rfl (by kernel_rfl) (by kernel_rfl) (by kernel_rfl) (fun _ _ _ h => h) (Or.inl ⟨by rfl, ?_⟩) (by assumption) ?_
              rotate_left
              · (intro w hSw; (try dsimp only at hSw); go_simp) <;> with_reducible rfl
              simp only [Act.put, List.setIfInBounds_toArray, List.set_cons_zero, List.set_cons_succ]
              refine wpAnyH_ready (rs := [5]) (by kernel_rfl) (by simp) ?_
              refine AllReadyH.cons (o := { dst := some 43, op := Go.Op.call { callee := Go.Callee.value (Go.Operand.func 32), args := #[Go.Operand.tmp 41, Go.Operand.tmp 42], argTypes := #[44, 3] }, type := 44, pos := "disk.go:110", after := #[{ on := 3, ground := Go.Ground.data }, { on := 4, ground := Go.Ground.data }], guard := none }) rfl (fun K hK => ?_) AllReadyH.nil
              go_simp
              refine (HCRX.out w6 xt.size hnle).mono ?_
              rintro e w7 ⟨rfl, hb7⟩
              have HB7 := Lib.hid (below_trans HDR.out hb7)
              clear hb7
              go_wp2_with fail
              refine hK.out _ _ ?_ (fun hz2 => ?_)
              · exact HSX.out _ HB7.out
              clear hK K hHeld 
              try simp only [Act.put, List.setIfInBounds_toArray, List.set_cons_zero, List.set_cons_succ]
              refine wpAnyH_take (i := 6) (oi := { dst := some 44, op := Go.Op.indexAddr 22 (Go.Operand.tmp 39) (Go.Operand.tmp 40), type := 0, pos := "disk.go:110", after := #[{ on := 1, ground := Go.Ground.data }, { on := 2, ground := Go.Ground.data }, { on := 0, ground := Go.Ground.phase }, { on := 1, ground := Go.Ground.phase }, { on := 2, ground := Go.Ground.phase }, { on := 3, ground := Go.Ground.phase }, { on := 4, ground := Go.Ground.phase }, { on := 5, ground := Go.Ground.phase }], guard := none }) (v := ?_) rfl (by kernel_rfl) (by kernel_rfl) (by kernel_rfl) (fun _ _ _ h => h) (Or.inl ⟨by rfl, ?_⟩) (by assumption) ?_
              rotate_left
              · (intro w hSw; (try dsimp only at hSw); go_simp) <;> with_reducible rfl
              simp only [Act.put, List.setIfInBounds_toArray, List.set_cons_zero, List.set_cons_succ]
              have HC7 := Lib.hid (HCN.out.below HB7.out)
              have HG7 := Lib.hid HC7.out.blk
              have HC8 := Lib.hid (HC7.out.set (p := k) HOF.out HCL2.out.symm hlt (crF ⟨xn, xs, xt⟩ xt.size))
              rw [← HNX.out] at HC8
              have hrow : Row w7 wr.heap.size 44 [.string xn, .string xs, .string xt] := HRN.out.below HB7.out
              have hgw : wr.heap.size ≠ g := by have := HGW.out.2; omega
              have HW8 := Lib.hid HC8.out
              obtain ⟨cur, hhb, hcs, -, -, -, -, -⟩ := own_block (xs := crK keep fs k) (by have := HC7.out.own; rw [← HCL2.out] at this; exact this)
              have k0 : ∃ v, w7.cell? ⟨g, off + k * 3, none⟩ = some v := by rw [HOF.out, block_cell hhb, Array.getElem?_eq_getElem (by omega)]; exact ⟨_, rfl⟩
              have k1 : ∃ v, w7.cell? ⟨g, off + k * 3 + 1, none⟩ = some v := by rw [HOF.out, block_cell hhb, Array.getElem?_eq_getElem (by omega)]; exact ⟨_, rfl⟩
              have k2 : ∃ v, w7.cell? ⟨g, off + k * 3 + 2, none⟩ = some v := by rw [HOF.out, block_cell hhb, Array.getElem?_eq_getElem (by omega)]; exact ⟨_, rfl⟩
              obtain ⟨v0, k0⟩ := k0
              obtain ⟨v1, k1⟩ := k1
              obtain ⟨v2, k2⟩ := k2
              have t0 : w7.frozen? ⟨g, off + k * 3, none⟩ = false := by rw [HOF.out]; exact block_thaw hhb _
              have t1 : w7.frozen? ⟨g, off + k * 3 + 1, none⟩ = false := by rw [HOF.out]; exact block_thaw hhb _
              have t2 : w7.frozen? ⟨g, off + k * 3 + 2, none⟩ = false := by rw [HOF.out]; exact block_thaw hhb _
              have hbut : But g w7 (((w7.setCell ⟨g, off + k * 3, none⟩ (.string (crF ⟨xn, xs, xt⟩ xt.size).nm)).setCell ⟨g, off + k * 3 + 1, none⟩ (.string (crF ⟨xn, xs, xt⟩ xt.size).sy)).setCell ⟨g, off + k * 3 + 2, none⟩ (.string (crF ⟨xn, xs, xt⟩ xt.size).tl)) := (((But.refl g w7).set _ _).set _ _).set _ _
              have hro := hrow.keep (hbut.block _ hgw)
              have hz8 : (fun W : World => W.cell? ⟨w.heap.size, 1, none⟩ = some (.slice (some ⟨g, off, none⟩) L cC) ∧ W.cell? ⟨wr.heap.size, 0, none⟩ = some (.string xn) ∧ W.cell? ⟨wr.heap.size, 1, none⟩ = some (.string xs) ∧ W.cell? ⟨wr.heap.size, 2, none⟩ = some (.string xt)) (((w7.setCell ⟨g, off + k * 3, none⟩ (.string (crF ⟨xn, xs, xt⟩ xt.size).nm)).setCell ⟨g, off + k * 3 + 1, none⟩ (.string (crF ⟨xn, xs, xt⟩ xt.size).sy)).setCell ⟨g, off + k * 3 + 2, none⟩ (.string (crF ⟨xn, xs, xt⟩ xt.size).tl)) := ⟨HC8.out.box.cell (i := 1) rfl, hro.cell (i := 0) rfl, hro.cell (i := 1) rfl, hro.cell (i := 2) rfl⟩
              clear hhb hcs hbut hro hrow hgw
              refine wpAnyH_ready (rs := [7]) (by kernel_rfl) (by simp) ?_
              refine AllReadyH.cons (o := { dst := none, op := Go.Op.store 44 (Go.Operand.tmp 44) (Go.Operand.tmp 43), type := 0, pos := "disk.go:110", after := #[{ on := 6, ground := Go.Ground.data }, { on := 5, ground := Go.Ground.data }, { on := 5, ground := Go.Ground.chain }, { on := 0, ground := Go.Ground.phase }, { on := 1, ground := Go.Ground.phase }, { on := 2, ground := Go.Ground.phase }, { on := 3, ground := Go.Ground.phase }, { on := 4, ground := Go.Ground.phase }, { on := 5, ground := Go.Ground.phase }], guard := none }) rfl (fun K hK => ?_) AllReadyH.nil
              go_simp
              refine hK.out _ _ ?_ (fun hz4 => ?_)
              · exact hz8
              clear hK K hz2 
              try simp only [Act.put, List.setIfInBounds_toArray, List.set_cons_zero, List.set_cons_succ]
              refine wpAnyH_done (by kernel_rfl) ?_ _
              refine NoPanic.normal ?_
              go_wp2
              go_roundw
              case rel => exact ⟨k + 1, by omega, by go_num, HC8⟩
              case measure => simp [intOf]; omega
          · have HLA : Hid (lastF keep k xt.size = 0) := Lib.hid (by unfold lastF; rw [List.getElem?_eq_none (by have := HM.out; omega)])
            rw [HLA.out] at HNX
            have q0 : decide (k < M) = false := decide_eq_false hkm
            have q1 : ¬ (k : Int) < (M : Int) := by omega
            have HCN := HC1
            have HRN := HRF
            have HBN := HBO
            have HSX : Hid (∀ W, Below (wr.alloc (.cells (fiC ⟨xn, xs, xt⟩) 44)).heap.size (wr.alloc (.cells (fiC ⟨xn, xs, xt⟩) 44)) W → W.cell? ⟨w.heap.size, 1, none⟩ = some (.slice (some ⟨g, off, none⟩) L cC) ∧ W.cell? ⟨wr.heap.size, 0, none⟩ = some (.string xn) ∧ W.cell? ⟨wr.heap.size, 1, none⟩ = some (.string xs) ∧ W.cell? ⟨wr.heap.size, 2, none⟩ = some (.string xt)) := Lib.hid (fun W hb => ⟨((HCN.out.below hb).box).cell (i := 1) rfl, (HRN.out.below hb).cell (i := 0) rfl, (HRN.out.below hb).cell (i := 1) rfl, (HRN.out.below hb).cell (i := 2) rfl⟩)
            have HDR := Lib.hid (Below.refl (wr.alloc (.cells (fiC ⟨xn, xs, xt⟩) 44)).heap.size (wr.alloc (.cells (fiC ⟨xn, xs, xt⟩) 44))).drew
            have hs0 := HSX.out _ HDR.out
            go_wp2
            refine wp_region_noPanic ?_
            refine wp_region_held_drew (S := fun W => W.cell? ⟨w.heap.size, 1, none⟩ = some (.slice (some ⟨g, off, none⟩) L cC) ∧ W.cell? ⟨wr.heap.size, 0, none⟩ = some (.string xn) ∧ W.cell? ⟨wr.heap.size, 1, none⟩ = some (.string xs) ∧ W.cell? ⟨wr.heap.size, 2, none⟩ = some (.string xt)) (by kernel_rfl) hs0 (fun hHeld => ?_)
            clear hs0
            generalize hW6 : (wr.alloc (.cells (fiC ⟨xn, xs, xt⟩) 44)).drew = w6 at *
            clear hW6
            refine wpAnyH_take (i := 0) (oi := { dst := some 38, op := Go.Op.fieldAddr 24 (Go.Operand.tmp 2) 1, type := 0, pos := "disk.go:110", after := #[], guard := none }) (v := ?_) rfl (by kernel_rfl) (by kernel_rfl) (by kernel_rfl) (fun _ _ _ h => h) (Or.inl ⟨by rfl, ?_⟩) (by assumption) ?_
            rotate_left
            · (intro w hSw; (try dsimp only at hSw); go_simp) <;> with_reducible rfl
            simp only [Act.put, List.setIfInBounds_toArray, List.set_cons_zero, List.set_cons_succ]
            refine wpAnyH_take (i := 1) (oi := { dst := some 39, op := Go.Op.load 22 (Go.Operand.tmp 38), type := 22, pos := "disk.go:110", after := #[{ on := 0, ground := Go.Ground.data }], guard := none }) (v := ?_) rfl (by kernel_rfl) (by kernel_rfl) (by kernel_rfl) (fun _ _ _ h => h) (Or.inl ⟨by rfl, ?_⟩) (by assumption) ?_
            rotate_left
            · (intro w hSw; (try dsimp only at hSw); go_simp) <;> with_reducible rfl
            simp only [Act.put, List.setIfInBounds_toArray, List.set_cons_zero, List.set_cons_succ]
            refine wpAnyH_take (i := 2) (oi := { dst := some 40, op := Go.Op.move (Go.Operand.tmp 6), type := 3, pos := "disk.go:110", after := #[], guard := none }) (v := ?_) rfl (by kernel_rfl) (by kernel_rfl) (by kernel_rfl) (fun _ _ _ h => h) (Or.inl ⟨by rfl, ?_⟩) (by assumption) ?_
            rotate_left
            · (intro w hSw; (try dsimp only at hSw); go_simp) <;> with_reducible rfl
            simp only [Act.put, List.setIfInBounds_toArray, List.set_cons_zero, List.set_cons_succ]
            refine wpAnyH_take (i := 3) (oi := { dst := some 41, op := Go.Op.load 44 (Go.Operand.tmp 7), type := 44, pos := "disk.go:110", after := #[], guard := none }) (v := ?_) rfl (by kernel_rfl) (by kernel_rfl) (by kernel_rfl) (fun _ _ _ h => h) (Or.inl ⟨by rfl, ?_⟩) (by assumption) ?_
            rotate_left
            · (intro w hSw; (try dsimp only at hSw); go_simp) <;> with_reducible rfl
            simp only [Act.put, List.setIfInBounds_toArray, List.set_cons_zero, List.set_cons_succ]
            refine wpAnyH_take (i := 4) (oi := { dst := some 42, op := Go.Op.move (Go.Operand.tmp 8), type := 3, pos := "disk.go:110", after := #[], guard := none }) (v := ?_) rfl (by kernel_rfl) (by kernel_rfl) (by kernel_rfl) (fun _ _ _ h => h) (Or.inl ⟨by rfl, ?_⟩) (by assumption) ?_
            rotate_left
            · (intro w hSw; (try dsimp only at hSw); go_simp) <;> with_reducible rfl
            simp only [Act.put, List.setIfInBounds_toArray, List.set_cons_zero, List.set_cons_succ]
            refine wpAnyH_ready (rs := [5]) (by kernel_rfl) (by simp) ?_
            refine AllReadyH.cons (o := { dst := some 43, op := Go.Op.call { callee := Go.Callee.value (Go.Operand.func 32), args := #[Go.Operand.tmp 41, Go.Operand.tmp 42], argTypes := #[44, 3] }, type := 44, pos := "disk.go:110", after := #[{ on := 3, ground := Go.Ground.data }, { on := 4, ground := Go.Ground.data }], guard := none }) rfl (fun K hK => ?_) AllReadyH.nil
            go_simp
            refine (HCRX.out w6 0 (Nat.zero_le _)).mono ?_
            rintro e w7 ⟨rfl, hb7⟩
            have HB7 := Lib.hid (below_trans HDR.out hb7)
            clear hb7
            go_wp2_with fail
            refine hK.out _ _ ?_ (fun hz2 => ?_)
            · exact HSX.out _ HB7.out
            clear hK K hHeld 
            try simp only [Act.put, List.setIfInBounds_toArray, List.set_cons_zero, List.set_cons_succ]
            refine wpAnyH_take (i := 6) (oi := { dst := some 44, op := Go.Op.indexAddr 22 (Go.Operand.tmp 39) (Go.Operand.tmp 40), type := 0, pos := "disk.go:110", after := #[{ on := 1, ground := Go.Ground.data }, { on := 2, ground := Go.Ground.data }, { on := 0, ground := Go.Ground.phase }, { on := 1, ground := Go.Ground.phase }, { on := 2, ground := Go.Ground.phase }, { on := 3, ground := Go.Ground.phase }, { on := 4, ground := Go.Ground.phase }, { on := 5, ground := Go.Ground.phase }], guard := none }) (v := ?_) rfl (by kernel_rfl) (by kernel_rfl) (by kernel_rfl) (fun _ _ _ h => h) (Or.inl ⟨by rfl, ?_⟩) (by assumption) ?_
            rotate_left
            · (intro w hSw; (try dsimp only at hSw); go_simp) <;> with_reducible rfl
            simp only [Act.put, List.setIfInBounds_toArray, List.set_cons_zero, List.set_cons_succ]
            have HC7 := Lib.hid (HCN.out.below HB7.out)
            have HG7 := Lib.hid HC7.out.blk
            have HC8 := Lib.hid (HC7.out.set (p := k) HOF.out HCL2.out.symm hlt (crF ⟨xn, xs, xt⟩ 0))
            rw [← HNX.out] at HC8
            have hrow : Row w7 wr.heap.size 44 [.string xn, .string xs, .string xt] := HRN.out.below HB7.out
            have hgw : wr.heap.size ≠ g := by have := HGW.out.2; omega
            have HW8 := Lib.hid HC8.out
            obtain ⟨cur, hhb, hcs, -, -, -, -, -⟩ := own_block (xs := crK keep fs k) (by have := HC7.out.own; rw [← HCL2.out] at this; exact this)
            have k0 : ∃ v, w7.cell? ⟨g, off + k * 3, none⟩ = some v := by rw [HOF.out, block_cell hhb, Array.getElem?_eq_getElem (by omega)]; exact ⟨_, rfl⟩
            have k1 : ∃ v, w7.cell? ⟨g, off + k * 3 + 1, none⟩ = some v := by rw [HOF.out, block_cell hhb, Array.getElem?_eq_getElem (by omega)]; exact ⟨_, rfl⟩
            have k2 : ∃ v, w7.cell? ⟨g, off + k * 3 + 2, none⟩ = some v := by rw [HOF.out, block_cell hhb, Array.getElem?_eq_getElem (by omega)]; exact ⟨_, rfl⟩
            obtain ⟨v0, k0⟩ := k0
            obtain ⟨v1, k1⟩ := k1
            obtain ⟨v2, k2⟩ := k2
            have t0 : w7.frozen? ⟨g, off + k * 3, none⟩ = false := by rw [HOF.out]; exact block_thaw hhb _
            have t1 : w7.frozen? ⟨g, off + k * 3 + 1, none⟩ = false := by rw [HOF.out]; exact block_thaw hhb _
            have t2 : w7.frozen? ⟨g, off + k * 3 + 2, none⟩ = false := by rw [HOF.out]; exact block_thaw hhb _
            have hbut : But g w7 (((w7.setCell ⟨g, off + k * 3, none⟩ (.string (crF ⟨xn, xs, xt⟩ 0).nm)).setCell ⟨g, off + k * 3 + 1, none⟩ (.string (crF ⟨xn, xs, xt⟩ 0).sy)).setCell ⟨g, off + k * 3 + 2, none⟩ (.string (crF ⟨xn, xs, xt⟩ 0).tl)) := (((But.refl g w7).set _ _).set _ _).set _ _
            have hro := hrow.keep (hbut.block _ hgw)
            have hz8 : (fun W : World => W.cell? ⟨w.heap.size, 1, none⟩ = some (.slice (some ⟨g, off, none⟩) L cC) ∧ W.cell? ⟨wr.heap.size, 0, none⟩ = some (.string xn) ∧ W.cell? ⟨wr.heap.size, 1, none⟩ = some (.string xs) ∧ W.cell? ⟨wr.heap.size, 2, none⟩ = some (.string xt)) (((w7.setCell ⟨g, off + k * 3, none⟩ (.string (crF ⟨xn, xs, xt⟩ 0).nm)).setCell ⟨g, off + k * 3 + 1, none⟩ (.string (crF ⟨xn, xs, xt⟩ 0).sy)).setCell ⟨g, off + k * 3 + 2, none⟩ (.string (crF ⟨xn, xs, xt⟩ 0).tl)) := ⟨HC8.out.box.cell (i := 1) rfl, hro.cell (i := 0) rfl, hro.cell (i := 1) rfl, hro.cell (i := 2) rfl⟩
            clear hhb hcs hbut hro hrow hgw
            refine wpAnyH_ready (rs := [7]) (by kernel_rfl) (by simp) ?_
            refine AllReadyH.cons (o := { dst := none, op := Go.Op.store 44 (Go.Operand.tmp 44) (Go.Operand.tmp 43), type := 0, pos := "disk.go:110", after := #[{ on := 6, ground := Go.Ground.data }, { on := 5, ground := Go.Ground.data }, { on := 5, ground := Go.Ground.chain }, { on := 0, ground := Go.Ground.phase }, { on := 1, ground := Go.Ground.phase }, { on := 2, ground := Go.Ground.phase }, { on := 3, ground := Go.Ground.phase }, { on := 4, ground := Go.Ground.phase }, { on := 5, ground := Go.Ground.phase }], guard := none }) rfl (fun K hK => ?_) AllReadyH.nil
            go_simp
            refine hK.out _ _ ?_ (fun hz4 => ?_)
            · exact hz8
            clear hK K hz2 
            try simp only [Act.put, List.setIfInBounds_toArray, List.set_cons_zero, List.set_cons_succ]
            refine wpAnyH_done (by kernel_rfl) ?_ _
            refine NoPanic.normal ?_
            go_wp2
            go_roundw
            case rel => exact ⟨k + 1, by omega, by go_num, HC8⟩
            case measure => simp [intOf]; omega
        · have HF : Hid (crK keep fs k = crFs keep fs) := Lib.hid (by rw [show k = fs.length by have := HL.out; omega]; exact crK_all _ _)
          have HLC : Hid ((crFs keep fs).length = L) := Lib.hid (by rw [crs_len]; exact HL.out.symm)
          have HS5 : Hid (SlF wr (Old wr) (.slice (some ⟨g, off, none⟩) L cC) (crFs keep fs)) := Lib.hid (by
            have h := HC.out.own
            rw [HF.out] at h
            rw [HOF.out]
            have h2 : Own wr (w.heap.size + 2) (.slice (some ⟨g, 0, none⟩) L cC) (crFs keep fs) := h
            exact Own.sl h2)
          have HRD5 := Lib.hid HC.out.box
          have HRR5 := Lib.hid HC.out.res
          have HB5 := Lib.hid HC.out.low
          clear HC
          have r0 := HRD5.out.cell (i := 0) rfl
          have r1 := HRD5.out.cell (i := 1) rfl
          have r2 := HRD5.out.cell (i := 2) rfl
          have r3 := HRD5.out.cell (i := 3) rfl
          have tr0 := HRD5.out.thaw 0
          have tr1 := HRD5.out.thaw 1
          have tr2 := HRD5.out.thaw 2
          have tr3 := HRD5.out.thaw 3
          have k0 := HRR5.out.cell (i := 0) rfl
          have k1 := HRR5.out.cell (i := 1) rfl
          have k2 := HRR5.out.cell (i := 2) rfl
          have k3 := HRR5.out.cell (i := 3) rfl
          have tk0 := HRR5.out.thaw 0
          have tk1 := HRR5.out.thaw 1
          have tk2 := HRR5.out.thaw 2
          have tk3 := HRR5.out.thaw 3
          have HBU := Lib.hid (((But.refl w.heap.size wr).set 2 (.int .i64 (-1))).set 3 (.bool false))
          have HBP := Lib.hid (put4_but ((wr.setCell ⟨w.heap.size, 2, none⟩ (.int .i64 (-1))).setCell ⟨w.heap.size, 3, none⟩ (.bool false)) (w.heap.size + 1) (.int .i64 rm) (.slice (some ⟨g, off, none⟩) L cC) (.int .i64 (-1)) (.bool false))
          have R9 := put4_row (HRR5.out.keep (HBU.out.block (w.heap.size + 1) (by omega))) (.int .i64 rm) (.slice (some ⟨g, off, none⟩) L cC) (.int .i64 (-1)) (.bool false)
          have f0 := R9.cell (i := 0) rfl
          have f1 := R9.cell (i := 1) rfl
          have f2 := R9.cell (i := 2) rfl
          have f3 := R9.cell (i := 3) rfl
          have HFIN : Hid (DkP (crashF ⟨rm, fs, lf, dn⟩ keep) w (.returned (.tuple #[.agg #[.int .i64 rm, (.slice (some ⟨g, off, none⟩) L cC), .int .i64 (-1), .bool false], .int .i64 0])) (put4 ((wr.setCell ⟨w.heap.size, 2, none⟩ (.int .i64 (-1))).setCell ⟨w.heap.size, 3, none⟩ (.bool false)) (w.heap.size + 1) (.int .i64 rm) (.slice (some ⟨g, off, none⟩) L cC) (.int .i64 (-1)) (.bool false))) := Lib.hid (by
            rw [HE.out]
            refine ⟨_, _, by simp only; rw [HLC.out]; rfl, ?_, ?_⟩
            · have h := slf_two HS5.out HRD5.out HRR5.out (fun k hk1 hk2 => (HBP.out.block k hk2).trans (HBU.out.block k hk1)) (HBP.out.size.trans HBU.out.size)
              simp only; rw [HLC.out]; exact h
            · exact (HB5.out.trans (HBU.out.below (Nat.le_refl _))).trans (HBP.out.below (B := w.heap.size) (by omega)))
          clear R9
          go_wp2
          exact bodyPost_ret (v := .tuple #[.agg #[.int .i64 rm, (.slice (some ⟨g, off, none⟩) L cC), .int .i64 (-1), .bool false], .int .i64 0]) (by simp [results, Try.results16, go_sem, f0, f1, f2, f3]) rfl HFIN.out
end Go.Proofs.Ytmhdodiipkkjpaa.Dk
