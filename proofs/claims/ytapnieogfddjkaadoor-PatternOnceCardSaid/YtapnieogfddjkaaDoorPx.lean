/- The printer: parts. -/
import Derived.Test.YtapnieogfddjkaaDoorPw
namespace Go.Proofs.YtapnieogfddjkaaDoor.Pr
open Go.RowKit Go.Proofs.YtapnieogfddjkaaDoor

theorem esc_ge : ∀ l : List UInt8, l.length ≤ (escF l).length
  | [] => Nat.le_refl _
  | c :: r => by
    have := esc_ge r
    rw [escF, List.length_append, List.length_cons]
    split
    · simp only [List.length_cons, List.length_nil]; omega
    · split
      · simp only [List.length_cons, List.length_nil]; omega
      · simp only [List.length_cons, List.length_nil]; omega
theorem txPs_one {xs : List Pt} {k : Nat} {x : Pt} (h : xs[k]? = some x) : txPs (xs.take (k + 1)) = txPs (xs.take k) ++ txP x := by
  rw [take_one h, txPs_app]; congr 1; rw [txPs, txPs, List.append_nil]
theorem txCs_one {xs : List Cs} {k : Nat} {x : Cs} (h : xs[k]? = some x) : txCs (xs.take (k + 1)) = txCs (xs.take k) ++ txC x := by
  rw [take_one h, txCs_app]; congr 1; rw [txCs, txCs, List.append_nil]
theorem txPs_le (xs : List Pt) (k : Nat) : (txPs (xs.take k)).length ≤ (txPs xs).length := by
  have := txPs_app (xs.take k) (xs.drop k)
  rw [List.take_append_drop] at this
  rw [this, List.length_append]; omega
theorem txCs_le (xs : List Cs) (k : Nat) : (txCs (xs.take k)).length ≤ (txCs xs).length := by
  have := txCs_app (xs.take k) (xs.drop k)
  rw [List.take_append_drop] at this
  rw [this, List.length_append]; omega
theorem txC_eq (x : Cs) : txC x = [32] ++ x.key.data.toList ++ [32, 123] ++ txPs x.kids ++ [125] := by cases x; rw [txC]; rfl
theorem SlP.kb {M B b n : Nat} {w w' : World} {v : Value} {xs : List Pt} (h : SlP w (Lt M) n v xs) (hM : M ≤ B) (hk : Kb B b w w') : SlP w' (Lt M) n v xs := h.keep (fun k hlt => hk.1.block k (by unfold Lt at hlt; omega)) (fun _ h => h)
theorem SlC.kb {M B b n : Nat} {w w' : World} {v : Value} {xs : List Cs} (h : SlC w (Lt M) n v xs) (hM : M ≤ B) (hk : Kb B b w w') : SlC w' (Lt M) n v xs := h.keep (fun k hlt => hk.1.block k (by unfold Lt at hlt; omega)) (fun _ h => h)
theorem kb1 {B b : Nat} (w : World) (hB : B ≤ w.heap.size) (o : Obj) : Kb B b w (w.alloc o) := (Kb.refl B b w).alloc hB o
theorem cat_list (a b : BA) : (a ++ b).data.toList = a.data.toList ++ b.data.toList := by rw [ByteArray.data_append, Array.toList_append]

def PrP (n : Nat) : Prop := ∀ (M B b : Nat) (acc : List UInt8) (w : World) (a : Option Addr) (cap : Nat) (xs : List Pt), M ≤ B → B ≤ w.heap.size → Bp B b acc w → SlP w (Lt M) n (.slice a xs.length cap) xs → acc.length + (txPs xs).length ≤ 2000 →
  Calls Tryd.prog 17 #[.pointer (some ⟨b, 0, none⟩), .slice a xs.length cap] w fun e w' => e = .returned (.tuple #[]) ∧ Bp B b (acc ++ txPs xs) w' ∧ Kb B b w w'
def PrX (n : Nat) : Prop := ∀ (M B b : Nat) (acc : List UInt8) (w : World) (k : Int) (t nm : BA) (a : Option Addr) (cap : Nat) (cs : List Cs), M ≤ B → B ≤ w.heap.size → Bp B b acc w → SlC w (Lt M) n (.slice a cs.length cap) cs → acc.length + (txP (.mk k t nm cs)).length ≤ 2000 →
  Calls Tryd.prog 33 #[.pointer (some ⟨b, 0, none⟩), .agg #[.int .i64 k, .string t, .string nm, .slice a cs.length cap]] w fun e w' => e = .returned (.tuple #[]) ∧ Bp B b (acc ++ txP (.mk k t nm cs)) w' ∧ Kb B b w w'
def PrC (n : Nat) : Prop := ∀ (M B b : Nat) (acc : List UInt8) (w : World) (k : Int) (t nm wd : BA) (a : Option Addr) (cap : Nat) (cs : List Cs), M ≤ B → B ≤ w.heap.size → Bp B b acc w → SlC w (Lt M) n (.slice a cs.length cap) cs → wd.size = 9 → acc.length + (1 + nm.size + wd.size + (txCs cs).length + 1) ≤ 2000 →
  Calls Tryd.prog 48 #[.pointer (some ⟨b, 0, none⟩), .agg #[.int .i64 k, .string t, .string nm, .slice a cs.length cap], .string wd] w fun e w' => e = .returned (.tuple #[]) ∧ Bp B b (acc ++ ([123] ++ nm.data.toList ++ wd.data.toList ++ txCs cs ++ [125])) w' ∧ Kb B b w w'

set_option maxHeartbeats 3200000 in
set_option maxRecDepth 100000 in
theorem prP_of (n : Nat) (HP : ∀ m, m < n → PrX m) : PrP n := by
  intro M B b acc w a cap xs hMB hBw hbp hxs hl
  have hll := hxs.lenle
  obtain ⟨L, HL⟩ : ∃ L, Hid (L = xs.length) := ⟨_, Lib.hid rfl⟩
  have hL2 : L ≤ 9223372036854775807 := by have := HL.out; omega
  rw [← HL.out] at hxs ⊢
  have HX := Lib.hid hxs
  have HB := Lib.hid hbp
  have HLN := Lib.hid hl
  have HPP := Lib.hid HP
  clear hxs hbp hl HP hll
  go_enter Tryd.func17, Tryd.ntmps17
  go_wp2
  go_loopw [8] (fun i wr => ∃ (k : Nat) (out : List UInt8), k ≤ L ∧ i = .int .i64 k ∧ Hid (out = acc ++ txPs (xs.take k)) ∧ Hid (Bp B b out wr) ∧ Hid (Kb B b w wr)) (fun i _ => L - (intOf i).toNat)
  case atStart => exact ⟨0, acc, Nat.zero_le _, rfl, Lib.hid (by simp [txPs]), HB, Lib.hid (Kb.refl _ _ _)⟩
  case round =>
    obtain ⟨k, out, hk, rfl, HO, HBR, HK⟩ := hrel
    clear HB
    have hBr : B ≤ wr.heap.size := by have := HK.out.1.size; omega
    by_cases hlt : k < L
    · obtain ⟨x, hx⟩ : ∃ x, xs[k]? = some x := ⟨_, List.getElem?_eq_getElem (by have := HL.out; omega)⟩
      obtain ⟨g, off, rfl, -, hat⟩ := (SlP.kb HX.out hMB HK.out).at_ hx
      obtain ⟨h0, h1, h2, m, a1, p1, hnm, h3, hcs⟩ := hat.p
      have HT := Lib.hid (txPs_one hx)
      have HTL := Lib.hid (txPs_le xs (k + 1))
      obtain ⟨pk, pt, pn, cs⟩ := x
      simp only [Pt.k, Pt.t, Pt.n, Pt.cs] at h0 h1 h2 h3 hcs
      have HPC := Lib.hid (HPP.out m (by omega) M B b out (wr.alloc (.cells #[.int .i64 pk, .string pt, .string pn, .slice a1 cs.length p1] 42)) pk pt pn a1 p1 cs hMB (by rw [World.size_alloc]; omega) (HBR.out.alloc _) (SlC.kb hcs hMB (kb1 (b := b) wr hBr _)) (by
        have h1 := HTL.out
        rw [HT.out, List.length_append] at h1
        have := HLN.out
        rw [HO.out, List.length_append]; omega))
      obtain ⟨L1, HL1⟩ : ∃ L1, Hid (L1 = cs.length) := ⟨_, Lib.hid rfl⟩
      rw [← HL1.out] at h3 HPC
      have R := row_new wr #[.int .i64 pk, .string pt, .string pn, .slice a1 L1 p1] 42
      have g0 := R.cell (i := 0) rfl
      have g1 := R.cell (i := 1) rfl
      have g2 := R.cell (i := 2) rfl
      have g3 := R.cell (i := 3) rfl
      have HKA : Hid (Kb B b w (wr.alloc (.cells #[.int .i64 pk, .string pt, .string pn, .slice a1 L1 p1] 42))) := Lib.hid (HK.out.alloc hBr _)
      clear R hat hx hcs hnm HK HBR
      go_wp2_with fail
      refine HPC.out.mono ?_
      rintro e w5 ⟨rfl, hb5, hk5⟩
      have HB5 := Lib.hid hb5
      have HK5 := Lib.hid (HKA.out.trans hk5)
      clear hb5 hk5 HPC HKA
      go_wp2
      go_roundw
      case rel => exact ⟨k + 1, _, by omega, by go_num, Lib.hid (by rw [HT.out, HO.out, List.append_assoc]), HB5, HK5⟩
      case measure => simp [intOf]; omega
    · have hkn : xs.take k = xs := List.take_of_length_le (by have := HL.out; omega)
      have HBE : Hid (Bp B b (acc ++ txPs xs) wr) := Lib.hid (by have := HBR.out; rw [HO.out, hkn] at this; exact this)
      clear hkn
      go_wp2
      go_end0
      exact ⟨rfl, HBE.out, HK.out⟩

theorem cat3 (a b c : BA) : (a ++ b ++ c).data.toList = a.data.toList ++ b.data.toList ++ c.data.toList := by rw [cat_list, cat_list]
theorem size3 (a b c : BA) : (a ++ b ++ c).size = a.size + b.size + c.size := by rw [ByteArray.size_append, ByteArray.size_append]

set_option maxHeartbeats 3200000 in
set_option maxRecDepth 100000 in
theorem prX_of (n : Nat) (HC : PrC n) : PrX n := by
  intro M B b acc w k t nm a cap cs hMB hBw hbp hcs hl
  have hbl := hbp.lt
  have R := row_new w #[.int .i64 k, .string t, .string nm, .slice a cs.length cap] 42
  have HBP : Hid (Bp B b acc (w.alloc (.cells #[.int .i64 k, .string t, .string nm, .slice a cs.length cap] 42))) := Lib.hid (hbp.alloc _)
  have HKA : Hid (Kb B b w (w.alloc (.cells #[.int .i64 k, .string t, .string nm, .slice a cs.length cap] 42))) := Lib.hid (kb1 w hBw _)
  have hBw2 : B ≤ (w.alloc (.cells #[.int .i64 k, .string t, .string nm, .slice a cs.length cap] 42)).heap.size := by rw [World.size_alloc]; omega
  have HLN := Lib.hid hl
  by_cases h1 : k = 1
  · subst h1
    have hE : txP (.mk 1 t nm cs) = escF t.data.toList := by rw [txP]; rfl
    rw [hE] at HLN ⊢
    have HW := Lib.hid (text_pr t HBP.out HLN.out (by have := esc_ge t.data.toList; rw [len_list] at this; have := HLN.out; omega) hBw2)
    obtain ⟨L, HL⟩ : ∃ L, Hid (L = cs.length) := ⟨_, Lib.hid rfl⟩
    rw [← HL.out] at R HBP HKA HW ⊢
    have g0 := R.cell (i := 0) rfl
    have g1 := R.cell (i := 1) rfl
    clear R hE hcs hl hbp hBw2
    go_enter Tryd.func33, Tryd.ntmps33
    go_wp2_with fail
    refine HW.out.mono ?_
    rintro e w5 ⟨rfl, hb5, hk5⟩
    have HB5 := Lib.hid hb5
    have HK5 := Lib.hid (HKA.out.trans hk5)
    clear hb5 hk5 HW
    go_wp2
    go_end0
    exact ⟨rfl, HB5.out, HK5.out⟩
  by_cases h2 : k = 2
  · subst h2
    have hE : txP (.mk 2 t nm cs) = [123] ++ nm.data.toList ++ [125] := by rw [txP]; rfl
    rw [hE] at HLN ⊢
    have hns : nm.size ≤ 2000 := by have := HLN.out; simp only [List.length_append, List.length_cons, List.length_nil, len_list] at this; omega
    have HW := Lib.hid (writeS (⟨#[123]⟩ ++ nm ++ ⟨#[125]⟩) HBP.out.drew (by rw [size3]; have := HLN.out; simp only [List.length_append, List.length_cons, List.length_nil, len_list] at this; show acc.length + (1 + nm.size + 1) ≤ _; omega) (by rw [size3]; show 1 + nm.size + 1 ≠ 0; omega) hBw2)
    have HKD := Lib.hid HKA.out.drew
    have HS3 : Hid ((⟨#[123]⟩ ++ nm ++ ⟨#[125]⟩ : BA).data.toList = [123] ++ nm.data.toList ++ [125]) := Lib.hid (cat3 _ _ _)
    obtain ⟨L, HL⟩ : ∃ L, Hid (L = cs.length) := ⟨_, Lib.hid rfl⟩
    rw [← HL.out] at R HBP HKA HW HKD ⊢
    have g0 := R.cell (i := 0) rfl
    have g2 := R.cell (i := 2) rfl
    have f1 : ¬ 9223372036854775807 < 1 + nm.size := by omega
    have f2 : ¬ 9223372036854775807 < 1 + nm.size + 1 := by omega
    clear R hE hcs hl hbp hBw2
    go_enter Tryd.func33, Tryd.ntmps33
    go_wp2
    generalize w.alloc (.cells #[.int .i64 2, .string t, .string nm, .slice a L cap] 42) = w2 at *
    go_still_tail 7, (by kernel_rfl)
    change wpList _ _ _ _ _ w2.drew
    generalize w2.drew = w3 at *
    go_wp2_with fail
    refine HW.out.mono ?_
    rintro e w5 ⟨rfl, hb5, hk5⟩
    rw [HS3.out] at hb5
    have HB5 := Lib.hid hb5
    have HK5 := Lib.hid (HKD.out.trans hk5)
    clear hb5 hk5 HW
    go_wp2
    go_end0
    exact ⟨rfl, HB5.out, HK5.out⟩
  by_cases h3 : k = 3
  · subst h3
    have hE : txP (.mk 3 t nm cs) = [35] := by rw [txP]; rfl
    rw [hE] at HLN ⊢
    have HW : Hid (Calls Tryd.prog 47 #[.pointer (some ⟨b, 0, none⟩), .int .u8 35] (w.alloc (.cells #[.int .i64 3, .string t, .string nm, .slice a cs.length cap] 42)) fun e w' => e = .returned .nilIface ∧ Bp B b (acc ++ [35]) w' ∧ Kb B b (w.alloc (.cells #[.int .i64 3, .string t, .string nm, .slice a cs.length cap] 42)) w') := Lib.hid (writeB 35 HBP.out (by have := HLN.out; simp at this; omega) hBw2)
    obtain ⟨L, HL⟩ : ∃ L, Hid (L = cs.length) := ⟨_, Lib.hid rfl⟩
    rw [← HL.out] at R HBP HKA HW ⊢
    have g0 := R.cell (i := 0) rfl
    clear R hE hcs hl hbp hBw2
    go_enter Tryd.func33, Tryd.ntmps33
    go_wp2_with fail
    refine HW.out.mono ?_
    rintro e w5 ⟨rfl, hb5, hk5⟩
    have HB5 := Lib.hid hb5
    have HK5 := Lib.hid (HKA.out.trans hk5)
    clear hb5 hk5 HW
    go_wp2
    go_end0
    exact ⟨rfl, HB5.out, HK5.out⟩
  by_cases h4 : k = 4
  · subst h4
    have hE : txP (.mk 4 t nm cs) = [123] ++ nm.data.toList ++ plW ++ txCs cs ++ [125] := by rw [txP]; rfl
    rw [hE] at HLN ⊢
    have HW : Hid (Calls Tryd.prog 48 #[.pointer (some ⟨b, 0, none⟩), .agg #[.int .i64 4, .string t, .string nm, .slice a cs.length cap], .string ⟨#[44, 32, 112, 108, 117, 114, 97, 108, 44]⟩] (w.alloc (.cells #[.int .i64 4, .string t, .string nm, .slice a cs.length cap] 42)) fun e w' => e = .returned (.tuple #[]) ∧ Bp B b (acc ++ ([123] ++ nm.data.toList ++ plW ++ txCs cs ++ [125])) w' ∧ Kb B b (w.alloc (.cells #[.int .i64 4, .string t, .string nm, .slice a cs.length cap] 42)) w') :=
      Lib.hid (HC M B b acc _ 4 t nm ⟨#[44, 32, 112, 108, 117, 114, 97, 108, 44]⟩ a cap cs hMB hBw2 HBP.out (SlC.kb hcs hMB HKA.out) rfl (by have := HLN.out; simp only [List.length_append, List.length_cons, List.length_nil, len_list] at this; show acc.length + (1 + nm.size + 9 + (txCs cs).length + 1) ≤ 2000; omega))
    obtain ⟨L, HL⟩ : ∃ L, Hid (L = cs.length) := ⟨_, Lib.hid rfl⟩
    rw [← HL.out] at R HBP HKA HW ⊢
    have g0 := R.cell (i := 0) rfl
    have g1 := R.cell (i := 1) rfl
    have g2 := R.cell (i := 2) rfl
    have g3 := R.cell (i := 3) rfl
    clear R hE hcs hl hbp hBw2
    go_enter Tryd.func33, Tryd.ntmps33
    go_wp2_with fail
    refine HW.out.mono ?_
    rintro e w5 ⟨rfl, hb5, hk5⟩
    have HB5 := Lib.hid hb5
    have HK5 := Lib.hid (HKA.out.trans hk5)
    clear hb5 hk5 HW
    go_wp2
    go_end0
    exact ⟨rfl, HB5.out, HK5.out⟩
  by_cases h5 : k = 5
  · subst h5
    have hE : txP (.mk 5 t nm cs) = [123] ++ nm.data.toList ++ seW ++ txCs cs ++ [125] := by rw [txP]; rfl
    rw [hE] at HLN ⊢
    have HW : Hid (Calls Tryd.prog 48 #[.pointer (some ⟨b, 0, none⟩), .agg #[.int .i64 5, .string t, .string nm, .slice a cs.length cap], .string ⟨#[44, 32, 115, 101, 108, 101, 99, 116, 44]⟩] (w.alloc (.cells #[.int .i64 5, .string t, .string nm, .slice a cs.length cap] 42)) fun e w' => e = .returned (.tuple #[]) ∧ Bp B b (acc ++ ([123] ++ nm.data.toList ++ seW ++ txCs cs ++ [125])) w' ∧ Kb B b (w.alloc (.cells #[.int .i64 5, .string t, .string nm, .slice a cs.length cap] 42)) w') :=
      Lib.hid (HC M B b acc _ 5 t nm ⟨#[44, 32, 115, 101, 108, 101, 99, 116, 44]⟩ a cap cs hMB hBw2 HBP.out (SlC.kb hcs hMB HKA.out) rfl (by have := HLN.out; simp only [List.length_append, List.length_cons, List.length_nil, len_list] at this; show acc.length + (1 + nm.size + 9 + (txCs cs).length + 1) ≤ 2000; omega))
    obtain ⟨L, HL⟩ : ∃ L, Hid (L = cs.length) := ⟨_, Lib.hid rfl⟩
    rw [← HL.out] at R HBP HKA HW ⊢
    have g0 := R.cell (i := 0) rfl
    have g1 := R.cell (i := 1) rfl
    have g2 := R.cell (i := 2) rfl
    have g3 := R.cell (i := 3) rfl
    clear R hE hcs hl hbp hBw2
    go_enter Tryd.func33, Tryd.ntmps33
    go_wp2_with fail
    refine HW.out.mono ?_
    rintro e w5 ⟨rfl, hb5, hk5⟩
    have HB5 := Lib.hid hb5
    have HK5 := Lib.hid (HKA.out.trans hk5)
    clear hb5 hk5 HW
    go_wp2
    go_end0
    exact ⟨rfl, HB5.out, HK5.out⟩
  have hE : txP (.mk k t nm cs) = [] := by rw [txP]; simp [h1, h2, h3, h4, h5]
  rw [hE, List.append_nil]
  obtain ⟨L, HL⟩ : ∃ L, Hid (L = cs.length) := ⟨_, Lib.hid rfl⟩
  rw [← HL.out] at R HBP HKA ⊢
  have g0 := R.cell (i := 0) rfl
  have b1 : (k == 1) = false := beq_eq_false_iff_ne.2 h1
  have b2 : (k == 2) = false := beq_eq_false_iff_ne.2 h2
  have b3 : (k == 3) = false := beq_eq_false_iff_ne.2 h3
  have b4 : (k == 4) = false := beq_eq_false_iff_ne.2 h4
  have b5 : (k == 5) = false := beq_eq_false_iff_ne.2 h5
  clear R hE hcs hl hbp hBw2 h1 h2 h3 h4 h5
  go_enter Tryd.func33, Tryd.ntmps33
  go_wp2
  go_end0
  exact ⟨rfl, HBP.out, HKA.out⟩
end Go.Proofs.YtapnieogfddjkaaDoor.Pr
