/- The document's own reader: value. -/
import Derived.Test.YtdnedbcmgkilaaaGreatDoorZBg4

namespace Go.Proofs.YtdnedbcmgkilaaaGreatDoor.Co
open Go.RowKit
def VPost (r : Res × Nat) (pb : Nat) (s : ByteArray) (w : World) (e : Ending) (w' : World) : Prop :=
  (match r.1 with
   | .ok t k => ∃ v, e = .returned v ∧ Rep w' (fun b => w.heap.size ≤ b ∧ b < w'.heap.size) t v ∧ PS pb s k r.2 0 w'
   | .bad er k => e = .returned zeroV ∧ ∃ m', PS pb s k m' er w') ∧ Fr (· = pb) w w'
def VOK (s : ByteArray) (f : Nat) : Prop := ∀ (pb i within count : Nat) (w : World), i ≤ s.size → within ≤ 30 → count ≤ 4000 → PS pb s i count 0 w → 2 * (s.size - i) + 1 ≤ f →
  Calls Tryz.prog 75 #[.pointer (some ⟨pb, 0, none⟩), .int .i64 within] w (VPost (rdV s.data.toList f i (within + 1) count) pb s w)
structure RInv (s : ByteArray) (pb : Nat) (w : World) (k cnt : Nat) (L : Value) (ts : List Tree) (xs : List Value) (wr : World) : Prop where
  fr : Fr (· = pb) w wr
  ps : PS pb s k cnt 0 wr
  res : wr.heap[w.heap.size]? = some (.cells #[.int .i64 0, .int .i64 0, .string ⟨#[]⟩, .slice none 0 0] 60 (0, 0))
  vbl : wr.heap[w.heap.size + 1]? = some (.cells #[.int .i64 3, .int .i64 0, .string ⟨#[]⟩, L] 60 (0, 0))
  own : wr.ownsRow (w.heap.size + 2) 60 4 L ts.length xs
  rep : RepAll wr (fun b => w.heap.size + 2 ≤ b ∧ b < wr.heap.size ∧ L.ownBlock ≠ some b) ts xs
theorem RInv.same {s : ByteArray} {pb k cnt : Nat} {w wr wr' : World} {L : Value} {ts : List Tree} {xs : List Value} (h : RInv s pb w k cnt L ts xs wr) (hs : Same wr wr') : RInv s pb w k cnt L ts xs wr' :=
  ⟨h.fr.trans hs.fr, h.ps.same hs, by rw [hs.heap]; exact h.res, by rw [hs.heap]; exact h.vbl, ownsRow_keep h.own (fun g _ => by rw [hs.heap]), RepAll.keep (fun g _ => by rw [hs.heap]) (fun g hg => by rw [hs.heap]; exact hg) _ _ h.rep⟩
theorem RInv.done {s : ByteArray} {pb k cnt j : Nat} {w wr w4 : World} {L : Value} {ts : List Tree} {xs : List Value} (hI : RInv s pb w k cnt L ts xs wr) (hpb : pb < w.heap.size) (hps : PS pb s j cnt 0 w4) (hfr : Fr (· = pb) w w4) (hsz : w4.heap.size = wr.heap.size) (hk : ∀ b, b ≠ w.heap.size → b ≠ pb → w4.heap[b]? = wr.heap[b]?) :
    VPost (.ok (.list ts) j, cnt) pb s w (.returned (listV L)) w4 := by
  have hlt : ∀ g, L.ownBlock = some g → w.heap.size + 2 ≤ g ∧ g < wr.heap.size := fun g hg => hI.own.lt g hg
  refine ⟨⟨_, rfl, ?_, hps⟩, hfr⟩
  rw [Rep]
  refine ⟨L, xs, rfl, ?_, fun g hg => ?_, RepAll.keep (fun g hg => hk g (by omega) (by omega)) (fun g hg => ⟨by omega, by rw [hsz]; exact hg.2.1⟩) _ _ hI.rep⟩
  · exact ownsRow_low (ownsRow_keep hI.own (fun g hg => hk g (by have := hlt g hg; omega) (by have := hlt g hg; omega)))
  · have := hlt g hg
    exact ⟨by omega, by rw [hsz]; omega⟩
theorem RInv.step {s : ByteArray} {pb k cnt k2 cn : Nat} {w wr w1 w2 : World} {L : Value} {ts : List Tree} {xs : List Value} {t : Tree} {c0 c1 c2 c3 : Value} {o1 o2 : Obj} {g2 cap2 : Nat}
    (hI : RInv s pb w k cnt L ts xs wr) (hpb : pb < w.heap.size) (hps : PS pb s k2 cn 0 w1) (hrep : Rep w1 (fun b => wr.heap.size ≤ b ∧ b < w1.heap.size) t (.agg #[c0, c1, c2, c3])) (hfr : Fr (· = pb) wr w1)
    (hown2 : w2.ownsRow (w.heap.size + 2) 60 4 (.slice (some ⟨g2, 0, none⟩) (ts.length + 1) cap2) (ts.length + 1) (xs ++ [c0, c1, c2, c3]))
    (hgrow : ((w1.alloc o1).alloc o2).grownBy w2 L.ownBlock) (hlies : L.ownBlock = some g2 ∨ g2 = w1.heap.size + 2) :
    RInv s pb w k2 cn (.slice (some ⟨g2, 0, none⟩) (ts.length + 1) cap2) (ts ++ [t]) (xs ++ [c0, c1, c2, c3]) (w2.setCell ⟨w.heap.size + 1, 3, none⟩ (.slice (some ⟨g2, 0, none⟩) (ts.length + 1) cap2)) := by
  have hlt : ∀ g, L.ownBlock = some g → w.heap.size + 2 ≤ g ∧ g < wr.heap.size := fun g hg => hI.own.lt g hg
  have hs1 := hfr.size
  have hs2 := hgrow.size
  simp only [World.size_alloc] at hs2
  have hk0 : ∀ b, b < w1.heap.size → L.ownBlock ≠ some b → w2.heap[b]? = w1.heap[b]? := fun b hb hne => by
    rw [hgrow.block b (by simp; omega) (fun e => hne e.symm), Below.heap_alloc _ _ _ (by simp; omega), Below.heap_alloc _ _ _ hb]
  have hset : ∀ b, b ≠ w.heap.size + 1 → (w2.setCell ⟨w.heap.size + 1, 3, none⟩ (.slice (some ⟨g2, 0, none⟩) (ts.length + 1) cap2)).heap[b]? = w2.heap[b]? := fun b hb => Below.heap_setCell _ _ _ _ hb
  have hk : ∀ b, b < w1.heap.size → b ≠ w.heap.size + 1 → L.ownBlock ≠ some b → (w2.setCell ⟨w.heap.size + 1, 3, none⟩ (.slice (some ⟨g2, 0, none⟩) (ts.length + 1) cap2)).heap[b]? = w1.heap[b]? := fun b hb hb1 hne => (hset b hb1).trans (hk0 b hb hne)
  have hresl := lt_of_heap hI.res
  have hvl := lt_of_heap hI.vbl
  have hszs : (w2.setCell ⟨w.heap.size + 1, 3, none⟩ (.slice (some ⟨g2, 0, none⟩) (ts.length + 1) cap2)).heap.size = w2.heap.size := by simp [World.setCell]
  have hvb2 : w2.heap[w.heap.size + 1]? = some (.cells #[.int .i64 3, .int .i64 0, .string ⟨#[]⟩, L] 60 (0, 0)) := (hk0 _ (by omega) (fun e => by have := hlt _ e; omega)).trans ((hfr.block _ hvl (by omega)).trans hI.vbl)
  refine ⟨?_, ?_, ?_, heap_set hvb2 3 _, ?_, ?_⟩
  · exact ((((hI.fr.trans hfr).alloc o1).alloc o2).grown hgrow (fun g hg => .inl (by have := hlt g hg; omega))).setCell (p := ⟨w.heap.size + 1, 3, none⟩) (.inl (by show w.heap.size ≤ w.heap.size + 1; omega)) _
  · exact (hk pb (by omega) (by omega) (fun e => by have := hlt _ e; omega)).trans hps
  · exact (hk _ (by omega) (by omega) (fun e => by have := hlt _ e; omega)).trans ((hfr.block _ hresl (by omega)).trans hI.res)
  · have := ownsRow_keep (w' := w2.setCell ⟨w.heap.size + 1, 3, none⟩ (.slice (some ⟨g2, 0, none⟩) (ts.length + 1) cap2)) hown2 (fun g hg => hset g (by have := (hown2.lt g hg).1; omega))
    simpa using this
  · refine RepAll.snoc (Rep.keep (fun b hb => hk b hb.2 (by omega) (fun e => by have := hlt b e; omega)) (fun b hb => ⟨by omega, by omega, ?_⟩) _ _ hrep) ts xs
      (RepAll.keep (fun b hb => (hk b (by omega) (by omega) hb.2.2).trans (hfr.block b hb.2.1 (by omega))) (fun b hb => ⟨hb.1, by omega, ?_⟩) _ _ hI.rep)
    · show some g2 ≠ some b
      rintro ⟨⟩
      rcases hlies with h | h
      · have := hlt g2 h; omega
      · omega
    · show some g2 ≠ some b
      rintro ⟨⟩
      rcases hlies with h | h
      · exact hb.2.2 h
      · omega
theorem VPost.up {r : Res} {pb m h : Nat} {s : ByteArray} {w W w1 w4 : World} {e : Ending} (hF : Fr (· = pb) w W) (hp : RPost r pb s m W e w1) (hb : But h w1 w4) (h1 : w.heap.size ≤ h) (h2 : h < W.heap.size) (hpb : pb < w.heap.size) : VPost (r, m) pb s w e w4 := by
  obtain ⟨hr, hf⟩ := hp
  refine ⟨?_, Fr.but (hF.trans hf) hb h1⟩
  cases r with
  | ok t k =>
    obtain ⟨v, he, hv, hps⟩ := hr
    exact ⟨v, he, Rep.keep (fun g hg => hb.block g (by omega)) (fun g hg => ⟨by have := hF.size; omega, by rw [hb.size]; exact hg.2⟩) _ _ hv, (hb.block pb (by omega)).trans hps⟩
  | bad er k => exact ⟨hr.1, m, (hb.block pb (by omega)).trans hr.2⟩
def plc (pb : Nat) (w : World) : Nat := match w.cell? ⟨pb, 1, none⟩ with | some (.int _ n) => n.toNat | _ => 0
theorem plc_of {pb : Nat} {s : ByteArray} {i m bad : Nat} {w : World} (h : PS pb s i m bad w) : plc pb w = i := by unfold plc; rw [h.c1]; simp
theorem begin_kind {s : ByteArray} {i level count : Nat} (_ : i ≤ s.size) :
    (beginF s.data.toList i level count = wrongF s i ∧ nowF s i ≠ 105 ∧ nowF s i ≠ 108 ∧ (decide (48 ≤ nowF s i) && decide (nowF s i ≤ 57)) = false) ∨
    (i < s.size ∧ (nowF s i = 105 ∨ nowF s i = 108 ∨ (decide (48 ≤ nowF s i) && decide (nowF s i ≤ 57)) = true) ∧ beginF s.data.toList i level count = if 30 < level then 12 else if 4000 < count then 2 else 0) := by
  by_cases hlt : i < s.size
  · rw [now_dig hlt, beginF_eq (get_of s i hlt), nowF_lt hlt]
    by_cases h : s[i].toNat ≠ 105 ∧ s[i].toNat ≠ 108 ∧ isDig s[i] = false
    · exact .inl ⟨by rw [if_pos h]; exact (if_pos hlt).symm, by omega, by omega, h.2.2⟩
    · refine .inr ⟨hlt, ?_, by rw [if_neg h]⟩
      by_cases h1 : s[i].toNat = 105
      · exact .inl (by omega)
      · by_cases h2 : s[i].toNat = 108
        · exact .inr (.inl (by omega))
        · refine .inr (.inr ?_)
          cases hx : isDig s[i]
          · exact absurd ⟨h1, h2, hx⟩ h
          · rfl
  · refine .inl ⟨?_, by rw [nowF_end hlt]; omega, by rw [nowF_end hlt]; omega, by rw [nowF_end hlt]; rfl⟩
    unfold beginF wrongF
    rw [get_no s i hlt, if_neg hlt]
set_option maxHeartbeats 6400000 in
set_option maxRecDepth 100000 in
theorem value_ok {s : ByteArray} {f : Nat} (hs : s.size ≤ 131072) (hV : ∀ f', f' < f + 1 → VOK s f') : VOK s (f + 1) := by
  intro pb i within count w hi hw hc hp hf
  have hltp := hp.lt
  have HX0 := Lib.hid (rdV_succ s.data.toList f i (within + 1) count)
  have HPW : Hid (PS pb s i count 0 (w.alloc (.cells #[.int .i64 0, .int .i64 0, .string ⟨#[]⟩, .slice none 0 0] 60))) := Lib.hid (hp.alloc _)
  have HFW : Hid (Fr (· = pb) w (w.alloc (.cells #[.int .i64 0, .int .i64 0, .string ⟨#[]⟩, .slice none 0 0] 60))) := Lib.hid ((Fr.refl _ w).alloc _)
  have HBW : Hid ((w.alloc (.cells #[.int .i64 0, .int .i64 0, .string ⟨#[]⟩, .slice none 0 0] 60)).heap[w.heap.size]? = some (.cells #[.int .i64 0, .int .i64 0, .string ⟨#[]⟩, .slice none 0 0] 60 (0, 0))) := Lib.hid (heap_alloc_new _ _)
  have HSW : Hid ((w.alloc (.cells #[.int .i64 0, .int .i64 0, .string ⟨#[]⟩, .slice none 0 0] 60)).heap.size = w.heap.size + 1) := Lib.hid (by simp)
  have HV := Lib.hid hV
  clear hp hV
  go_enter Tryz.func75, Tryz.ntmps75
  go_wp2_with fail
  generalize w.alloc (.cells #[.int .i64 0, .int .i64 0, .string ⟨#[]⟩, .slice none 0 0] 60) = W at *
  refine (now_any pb s i count 0 W hs hi HPW.out).mono ?_
  rintro e W1 ⟨rfl, hsm⟩
  have HP1 := Lib.hid (HPW.out.same hsm)
  have HF1 := Lib.hid (HFW.out.trans (hsm.fr (X := (· = pb))))
  have HB1 : Hid (W1.heap[w.heap.size]? = some (.cells #[.int .i64 0, .int .i64 0, .string ⟨#[]⟩, .slice none 0 0] 60 (0, 0))) := Lib.hid (by rw [hsm.heap]; exact HBW.out)
  have HS1 : Hid (W1.heap.size = w.heap.size + 1) := Lib.hid (by rw [hsm.heap]; exact HSW.out)
  clear hsm HPW HFW HBW HSW
  rcases begin_kind (s := s) (i := i) (level := within + 1) (count := count + 1) hi with ⟨hb, hn1, hn2, hn3⟩ | ⟨hlt, hkind, hb⟩
  · have hwne : wrongF s i ≠ 0 := by unfold wrongF; split <;> omega
    have HX := Lib.hid (HX0.out.trans (if_neg (by rw [hb]; exact hwne)))
    have hb1 : (nowF s i != 105) = true := by simp [hn1]
    have hb2 : (nowF s i != 108) = true := by simp [hn2]
    have HBE := Lib.hid hb
    have HN3 := Lib.hid hn3
    clear hb hwne hn1 hn2 hn3
    generalize nowF s i = nv at *
    go_wp2_with fail
    refine (digit_any _ _).mono ?_
    rintro e w1' ⟨rfl, rfl⟩
    rw [HN3.out]
    have HWR := Lib.hid (wrong_any pb s i count 0 W1 hs hi HP1.out)
    go_wp2_with fail
    refine HWR.out.mono ?_
    rintro e w2 ⟨rfl, hp2, hf2⟩
    have hblk := (hf2.block w.heap.size (lt_of_heap HB1.out) (by omega)).trans HB1.out
    have hr0 : w2.cell? ⟨w.heap.size, 0, none⟩ = some (.int .i64 0) := by simp [World.cell?, hblk]
    have hr1 : w2.cell? ⟨w.heap.size, 1, none⟩ = some (.int .i64 0) := by simp [World.cell?, hblk]
    have hr2 : w2.cell? ⟨w.heap.size, 2, none⟩ = some (.string ⟨#[]⟩) := by simp [World.cell?, hblk]
    have hr3 : w2.cell? ⟨w.heap.size, 3, none⟩ = some (.slice none 0 0) := by simp [World.cell?, hblk]
    have hrf : ∀ j, w2.frozen? ⟨w.heap.size, j, none⟩ = false := frozen_of_heap hblk
    have HB2 := Lib.hid hblk
    have HP2 := Lib.hid hp2
    have HF2 := Lib.hid (HF1.out.trans hf2)
    clear hblk hp2 hf2
    go_wp2
    have h4 := heap_put4 HB2.out (.int .i64 0) (.int .i64 0) (.string ⟨#[]⟩) (.slice none 0 0)
    have hbut := But.put4 w.heap.size w2 (.int .i64 0) (.int .i64 0) (.string ⟨#[]⟩) (.slice none 0 0)
    generalize ((((w2.setCell ⟨w.heap.size, 0, none⟩ (.int .i64 0)).setCell ⟨w.heap.size, 1, none⟩ (.int .i64 0)).setCell ⟨w.heap.size, 2, none⟩ (.string ⟨#[]⟩)).setCell ⟨w.heap.size, 3, none⟩ (.slice none 0 0)) = wz at h4 hbut ⊢
    refine bodyPost_ret (v := zeroV) (by simp [results, Tryz.results75, go_sem, World.cell?, h4]) rfl ?_
    rw [HX.out, HBE.out]
    exact ⟨⟨rfl, _, (hbut.block pb (by omega)).trans HP2.out⟩, Fr.but HF2.out hbut (Nat.le_refl _)⟩
  · rcases hkind with hk | hk | hk
    · by_cases hl30 : 30 < within + 1
      · have hw30 : decide ((30 : Int) ≤ (within : Int)) = true := by simp; omega
        have hb1 : (nowF s i != 105) = false := by simp [hk]
        have HX := Lib.hid (HX0.out.trans (if_neg (by rw [hb, if_pos hl30]; omega)))
        have HBE : Hid (beginF s.data.toList i (within + 1) (count + 1) = 12) := Lib.hid (by rw [hb, if_pos hl30])
        clear hb hk
        generalize nowF s i = nv at *
        have hc2 := HP1.out.c2
        have hc3 := HP1.out.c3
        have hf3 := HP1.out.fz 3
        have HP2 : Hid (PS pb s i count 12 (W1.setCell ⟨pb, 3, none⟩ (.int .i64 12))) := Lib.hid (HP1.out.set3 12)
        have HF2 : Hid (Fr (· = pb) w (W1.setCell ⟨pb, 3, none⟩ (.int .i64 12))) := Lib.hid (frP HF1.out 3 _)
        have hblk : (W1.setCell ⟨pb, 3, none⟩ (.int .i64 12)).heap[w.heap.size]? = some (.cells #[.int .i64 0, .int .i64 0, .string ⟨#[]⟩, .slice none 0 0] 60 (0, 0)) := (Below.heap_setCell _ _ _ _ (by show w.heap.size ≠ pb; omega)).trans HB1.out
        have hr0 : (W1.setCell ⟨pb, 3, none⟩ (.int .i64 12)).cell? ⟨w.heap.size, 0, none⟩ = some (.int .i64 0) := by simp [World.cell?, hblk]
        have hr1 : (W1.setCell ⟨pb, 3, none⟩ (.int .i64 12)).cell? ⟨w.heap.size, 1, none⟩ = some (.int .i64 0) := by simp [World.cell?, hblk]
        have hr2 : (W1.setCell ⟨pb, 3, none⟩ (.int .i64 12)).cell? ⟨w.heap.size, 2, none⟩ = some (.string ⟨#[]⟩) := by simp [World.cell?, hblk]
        have hr3 : (W1.setCell ⟨pb, 3, none⟩ (.int .i64 12)).cell? ⟨w.heap.size, 3, none⟩ = some (.slice none 0 0) := by simp [World.cell?, hblk]
        have hrf : ∀ j, (W1.setCell ⟨pb, 3, none⟩ (.int .i64 12)).frozen? ⟨w.heap.size, j, none⟩ = false := frozen_of_heap hblk
        have HB2 := Lib.hid hblk
        clear hblk
        go_wp2
        generalize W1.setCell ⟨pb, 3, none⟩ (.int .i64 12) = w2 at *
        have h4 := heap_put4 HB2.out (.int .i64 0) (.int .i64 0) (.string ⟨#[]⟩) (.slice none 0 0)
        have hbut := But.put4 w.heap.size w2 (.int .i64 0) (.int .i64 0) (.string ⟨#[]⟩) (.slice none 0 0)
        generalize ((((w2.setCell ⟨w.heap.size, 0, none⟩ (.int .i64 0)).setCell ⟨w.heap.size, 1, none⟩ (.int .i64 0)).setCell ⟨w.heap.size, 2, none⟩ (.string ⟨#[]⟩)).setCell ⟨w.heap.size, 3, none⟩ (.slice none 0 0)) = wz at h4 hbut ⊢
        refine bodyPost_ret (v := zeroV) (by simp [results, Tryz.results75, go_sem, World.cell?, h4]) rfl ?_
        rw [HX.out, HBE.out]
        exact ⟨⟨rfl, _, (hbut.block pb (by omega)).trans HP2.out⟩, Fr.but HF2.out hbut (Nat.le_refl _)⟩
      · have hw29 : decide ((30 : Int) ≤ (within : Int)) = false := by simp; omega
        by_cases hc4 : 4000 < count + 1
        · have hcc : decide ((4000 : Int) ≤ (count : Int)) = true := by simp; omega
          have hb1 : (nowF s i != 105) = false := by simp [hk]
          have HX := Lib.hid (HX0.out.trans (if_neg (by rw [hb, if_neg hl30, if_pos hc4]; omega)))
          have HBE : Hid (beginF s.data.toList i (within + 1) (count + 1) = 2) := Lib.hid (by rw [hb, if_neg hl30, if_pos hc4])
          clear hb hk
          generalize nowF s i = nv at *
          have hc2 := HP1.out.c2
          have hc3 := HP1.out.c3
          have hf3 := HP1.out.fz 3
          have HP2 : Hid (PS pb s i count 2 (W1.setCell ⟨pb, 3, none⟩ (.int .i64 2))) := Lib.hid (HP1.out.set3 2)
          have HF2 : Hid (Fr (· = pb) w (W1.setCell ⟨pb, 3, none⟩ (.int .i64 2))) := Lib.hid (frP HF1.out 3 _)
          have hblk : (W1.setCell ⟨pb, 3, none⟩ (.int .i64 2)).heap[w.heap.size]? = some (.cells #[.int .i64 0, .int .i64 0, .string ⟨#[]⟩, .slice none 0 0] 60 (0, 0)) := (Below.heap_setCell _ _ _ _ (by show w.heap.size ≠ pb; omega)).trans HB1.out
          have hr0 : (W1.setCell ⟨pb, 3, none⟩ (.int .i64 2)).cell? ⟨w.heap.size, 0, none⟩ = some (.int .i64 0) := by simp [World.cell?, hblk]
          have hr1 : (W1.setCell ⟨pb, 3, none⟩ (.int .i64 2)).cell? ⟨w.heap.size, 1, none⟩ = some (.int .i64 0) := by simp [World.cell?, hblk]
          have hr2 : (W1.setCell ⟨pb, 3, none⟩ (.int .i64 2)).cell? ⟨w.heap.size, 2, none⟩ = some (.string ⟨#[]⟩) := by simp [World.cell?, hblk]
          have hr3 : (W1.setCell ⟨pb, 3, none⟩ (.int .i64 2)).cell? ⟨w.heap.size, 3, none⟩ = some (.slice none 0 0) := by simp [World.cell?, hblk]
          have hrf : ∀ j, (W1.setCell ⟨pb, 3, none⟩ (.int .i64 2)).frozen? ⟨w.heap.size, j, none⟩ = false := frozen_of_heap hblk
          have HB2 := Lib.hid hblk
          clear hblk
          go_wp2
          generalize W1.setCell ⟨pb, 3, none⟩ (.int .i64 2) = w2 at *
          have h4 := heap_put4 HB2.out (.int .i64 0) (.int .i64 0) (.string ⟨#[]⟩) (.slice none 0 0)
          have hbut := But.put4 w.heap.size w2 (.int .i64 0) (.int .i64 0) (.string ⟨#[]⟩) (.slice none 0 0)
          generalize ((((w2.setCell ⟨w.heap.size, 0, none⟩ (.int .i64 0)).setCell ⟨w.heap.size, 1, none⟩ (.int .i64 0)).setCell ⟨w.heap.size, 2, none⟩ (.string ⟨#[]⟩)).setCell ⟨w.heap.size, 3, none⟩ (.slice none 0 0)) = wz at h4 hbut ⊢
          refine bodyPost_ret (v := zeroV) (by simp [results, Tryz.results75, go_sem, World.cell?, h4]) rfl ?_
          rw [HX.out, HBE.out]
          exact ⟨⟨rfl, _, (hbut.block pb (by omega)).trans HP2.out⟩, Fr.but HF2.out hbut (Nat.le_refl _)⟩
        · have hm29 : decide ((4000 : Int) ≤ (count : Int)) = false := by simp; omega
          have hb1 : (nowF s i != 105) = false := by simp [hk]
          have HX1 := Lib.hid (HX0.out.trans (if_pos (by rw [hb, if_neg hl30, if_neg hc4])))
          have hgt := some45 s i
          have HX := Lib.hid (HX1.out.trans (if_pos ((some45 s i 105 hlt).2 (by rw [nowF_lt hlt] at hk; show s[i].toNat = 105; omega))))
          have hq1 : (nowF s i == 105) = true := by simp [hk]
          clear hb hk hgt HX1 HX0
          generalize nowF s i = nv at *
          have hc2 := HP1.out.c2
          have hf2 := HP1.out.fz 2
          have HPV : Hid (PS pb s i (count + 1) 0 (W1.setCell ⟨pb, 2, none⟩ (.int .i64 ((count : Int) + 1)))) := Lib.hid (HP1.out.set2 (count + 1))
          have HFV : Hid (Fr (· = pb) w (W1.setCell ⟨pb, 2, none⟩ (.int .i64 ((count : Int) + 1)))) := Lib.hid (frP HF1.out 2 _)
          have HBV : Hid ((W1.setCell ⟨pb, 2, none⟩ (.int .i64 ((count : Int) + 1))).heap[w.heap.size]? = some (.cells #[.int .i64 0, .int .i64 0, .string ⟨#[]⟩, .slice none 0 0] 60 (0, 0))) := Lib.hid ((Below.heap_setCell _ _ _ _ (by show w.heap.size ≠ pb; omega)).trans HB1.out)
          have HSV : Hid ((W1.setCell ⟨pb, 2, none⟩ (.int .i64 ((count : Int) + 1))).heap.size = w.heap.size + 1) := Lib.hid (by rw [← HS1.out]; simp [World.setCell])
          go_wp2_with fail
          generalize W1.setCell ⟨pb, 2, none⟩ (.int .i64 ((count : Int) + 1)) = WV at *
          refine (rnumber_any pb s i (count + 1) WV hs (by omega) HPV.out).mono ?_
          intro e w2 hpost
          have hblk := (hpost.2.block w.heap.size (lt_of_heap HBV.out) (by omega)).trans HBV.out
          have hr0 : w2.cell? ⟨w.heap.size, 0, none⟩ = some (.int .i64 0) := by simp [World.cell?, hblk]
          have hr1 : w2.cell? ⟨w.heap.size, 1, none⟩ = some (.int .i64 0) := by simp [World.cell?, hblk]
          have hr2 : w2.cell? ⟨w.heap.size, 2, none⟩ = some (.string ⟨#[]⟩) := by simp [World.cell?, hblk]
          have hr3 : w2.cell? ⟨w.heap.size, 3, none⟩ = some (.slice none 0 0) := by simp [World.cell?, hblk]
          have hrf : ∀ j, w2.frozen? ⟨w.heap.size, j, none⟩ = false := frozen_of_heap hblk
          have HB2 := Lib.hid hblk
          have HP2 := Lib.hid hpost
          generalize hr : numF s.data.toList (i + 1) = r at hpost HP2
          have HR := Lib.hid hr
          clear hr hblk
          cases r with
          | ok t k =>
            obtain ⟨⟨v, rfl, hrep, -⟩, -⟩ := hpost
            obtain ⟨kd, n0, b0, a0, len0, cap0, rfl⟩ := Rep.cells t v hrep
            clear hrep
            go_wp2
            have h4 := heap_put4 HB2.out (.int .i64 kd) (.int .i64 n0) (.string b0) (.slice a0 len0 cap0)
            have hup := VPost.up HFV.out HP2.out (But.put4 w.heap.size w2 (.int .i64 kd) (.int .i64 n0) (.string b0) (.slice a0 len0 cap0)) (Nat.le_refl _) (lt_of_heap HBV.out) hltp
            generalize ((((w2.setCell ⟨w.heap.size, 0, none⟩ (.int .i64 kd)).setCell ⟨w.heap.size, 1, none⟩ (.int .i64 n0)).setCell ⟨w.heap.size, 2, none⟩ (.string b0)).setCell ⟨w.heap.size, 3, none⟩ (.slice a0 len0 cap0)) = wz at h4 hup ⊢
            exact bodyPost_ret (v := .agg #[.int .i64 kd, .int .i64 n0, .string b0, .slice a0 len0 cap0]) (by simp [results, Tryz.results75, go_sem, World.cell?, h4]) rfl (by rw [HX.out, HR.out]; exact hup)
          | bad er k =>
            obtain ⟨⟨rfl, -⟩, -⟩ := hpost
            go_wp2
            have h4 := heap_put4 HB2.out (.int .i64 0) (.int .i64 0) (.string ⟨#[]⟩) (.slice none 0 0)
            have hup := VPost.up HFV.out HP2.out (But.put4 w.heap.size w2 (.int .i64 0) (.int .i64 0) (.string ⟨#[]⟩) (.slice none 0 0)) (Nat.le_refl _) (lt_of_heap HBV.out) hltp
            generalize ((((w2.setCell ⟨w.heap.size, 0, none⟩ (.int .i64 0)).setCell ⟨w.heap.size, 1, none⟩ (.int .i64 0)).setCell ⟨w.heap.size, 2, none⟩ (.string ⟨#[]⟩)).setCell ⟨w.heap.size, 3, none⟩ (.slice none 0 0)) = wz at h4 hup ⊢
            exact bodyPost_ret (v := zeroV) (by simp [results, Tryz.results75, go_sem, World.cell?, h4]) rfl (by rw [HX.out, HR.out]; exact hup)
    · by_cases hl30 : 30 < within + 1
      · have hw30 : decide ((30 : Int) ≤ (within : Int)) = true := by simp; omega
        have hb1 : (nowF s i != 105) = true := by simp [hk]
        have hb2 : (nowF s i != 108) = false := by simp [hk]
        have HX := Lib.hid (HX0.out.trans (if_neg (by rw [hb, if_pos hl30]; omega)))
        have HBE : Hid (beginF s.data.toList i (within + 1) (count + 1) = 12) := Lib.hid (by rw [hb, if_pos hl30])
        clear hb hk
        generalize nowF s i = nv at *
        have hc2 := HP1.out.c2
        have hc3 := HP1.out.c3
        have hf3 := HP1.out.fz 3
        have HP2 : Hid (PS pb s i count 12 (W1.setCell ⟨pb, 3, none⟩ (.int .i64 12))) := Lib.hid (HP1.out.set3 12)
        have HF2 : Hid (Fr (· = pb) w (W1.setCell ⟨pb, 3, none⟩ (.int .i64 12))) := Lib.hid (frP HF1.out 3 _)
        have hblk : (W1.setCell ⟨pb, 3, none⟩ (.int .i64 12)).heap[w.heap.size]? = some (.cells #[.int .i64 0, .int .i64 0, .string ⟨#[]⟩, .slice none 0 0] 60 (0, 0)) := (Below.heap_setCell _ _ _ _ (by show w.heap.size ≠ pb; omega)).trans HB1.out
        have hr0 : (W1.setCell ⟨pb, 3, none⟩ (.int .i64 12)).cell? ⟨w.heap.size, 0, none⟩ = some (.int .i64 0) := by simp [World.cell?, hblk]
        have hr1 : (W1.setCell ⟨pb, 3, none⟩ (.int .i64 12)).cell? ⟨w.heap.size, 1, none⟩ = some (.int .i64 0) := by simp [World.cell?, hblk]
        have hr2 : (W1.setCell ⟨pb, 3, none⟩ (.int .i64 12)).cell? ⟨w.heap.size, 2, none⟩ = some (.string ⟨#[]⟩) := by simp [World.cell?, hblk]
        have hr3 : (W1.setCell ⟨pb, 3, none⟩ (.int .i64 12)).cell? ⟨w.heap.size, 3, none⟩ = some (.slice none 0 0) := by simp [World.cell?, hblk]
        have hrf : ∀ j, (W1.setCell ⟨pb, 3, none⟩ (.int .i64 12)).frozen? ⟨w.heap.size, j, none⟩ = false := frozen_of_heap hblk
        have HB2 := Lib.hid hblk
        clear hblk
        go_wp2
        generalize W1.setCell ⟨pb, 3, none⟩ (.int .i64 12) = w2 at *
        have h4 := heap_put4 HB2.out (.int .i64 0) (.int .i64 0) (.string ⟨#[]⟩) (.slice none 0 0)
        have hbut := But.put4 w.heap.size w2 (.int .i64 0) (.int .i64 0) (.string ⟨#[]⟩) (.slice none 0 0)
        generalize ((((w2.setCell ⟨w.heap.size, 0, none⟩ (.int .i64 0)).setCell ⟨w.heap.size, 1, none⟩ (.int .i64 0)).setCell ⟨w.heap.size, 2, none⟩ (.string ⟨#[]⟩)).setCell ⟨w.heap.size, 3, none⟩ (.slice none 0 0)) = wz at h4 hbut ⊢
        refine bodyPost_ret (v := zeroV) (by simp [results, Tryz.results75, go_sem, World.cell?, h4]) rfl ?_
        rw [HX.out, HBE.out]
        exact ⟨⟨rfl, _, (hbut.block pb (by omega)).trans HP2.out⟩, Fr.but HF2.out hbut (Nat.le_refl _)⟩
      · have hw29 : decide ((30 : Int) ≤ (within : Int)) = false := by simp; omega
        by_cases hc4 : 4000 < count + 1
        · have hcc : decide ((4000 : Int) ≤ (count : Int)) = true := by simp; omega
          have hb1 : (nowF s i != 105) = true := by simp [hk]
          have hb2 : (nowF s i != 108) = false := by simp [hk]
          have HX := Lib.hid (HX0.out.trans (if_neg (by rw [hb, if_neg hl30, if_pos hc4]; omega)))
          have HBE : Hid (beginF s.data.toList i (within + 1) (count + 1) = 2) := Lib.hid (by rw [hb, if_neg hl30, if_pos hc4])
          clear hb hk
          generalize nowF s i = nv at *
          have hc2 := HP1.out.c2
          have hc3 := HP1.out.c3
          have hf3 := HP1.out.fz 3
          have HP2 : Hid (PS pb s i count 2 (W1.setCell ⟨pb, 3, none⟩ (.int .i64 2))) := Lib.hid (HP1.out.set3 2)
          have HF2 : Hid (Fr (· = pb) w (W1.setCell ⟨pb, 3, none⟩ (.int .i64 2))) := Lib.hid (frP HF1.out 3 _)
          have hblk : (W1.setCell ⟨pb, 3, none⟩ (.int .i64 2)).heap[w.heap.size]? = some (.cells #[.int .i64 0, .int .i64 0, .string ⟨#[]⟩, .slice none 0 0] 60 (0, 0)) := (Below.heap_setCell _ _ _ _ (by show w.heap.size ≠ pb; omega)).trans HB1.out
          have hr0 : (W1.setCell ⟨pb, 3, none⟩ (.int .i64 2)).cell? ⟨w.heap.size, 0, none⟩ = some (.int .i64 0) := by simp [World.cell?, hblk]
          have hr1 : (W1.setCell ⟨pb, 3, none⟩ (.int .i64 2)).cell? ⟨w.heap.size, 1, none⟩ = some (.int .i64 0) := by simp [World.cell?, hblk]
          have hr2 : (W1.setCell ⟨pb, 3, none⟩ (.int .i64 2)).cell? ⟨w.heap.size, 2, none⟩ = some (.string ⟨#[]⟩) := by simp [World.cell?, hblk]
          have hr3 : (W1.setCell ⟨pb, 3, none⟩ (.int .i64 2)).cell? ⟨w.heap.size, 3, none⟩ = some (.slice none 0 0) := by simp [World.cell?, hblk]
          have hrf : ∀ j, (W1.setCell ⟨pb, 3, none⟩ (.int .i64 2)).frozen? ⟨w.heap.size, j, none⟩ = false := frozen_of_heap hblk
          have HB2 := Lib.hid hblk
          clear hblk
          go_wp2
          generalize W1.setCell ⟨pb, 3, none⟩ (.int .i64 2) = w2 at *
          have h4 := heap_put4 HB2.out (.int .i64 0) (.int .i64 0) (.string ⟨#[]⟩) (.slice none 0 0)
          have hbut := But.put4 w.heap.size w2 (.int .i64 0) (.int .i64 0) (.string ⟨#[]⟩) (.slice none 0 0)
          generalize ((((w2.setCell ⟨w.heap.size, 0, none⟩ (.int .i64 0)).setCell ⟨w.heap.size, 1, none⟩ (.int .i64 0)).setCell ⟨w.heap.size, 2, none⟩ (.string ⟨#[]⟩)).setCell ⟨w.heap.size, 3, none⟩ (.slice none 0 0)) = wz at h4 hbut ⊢
          refine bodyPost_ret (v := zeroV) (by simp [results, Tryz.results75, go_sem, World.cell?, h4]) rfl ?_
          rw [HX.out, HBE.out]
          exact ⟨⟨rfl, _, (hbut.block pb (by omega)).trans HP2.out⟩, Fr.but HF2.out hbut (Nat.le_refl _)⟩
        · have hm29 : decide ((4000 : Int) ≤ (count : Int)) = false := by simp; omega
          have hb1 : (nowF s i != 105) = true := by simp [hk]
          have hb2 : (nowF s i != 108) = false := by simp [hk]
          have HX1 := Lib.hid (HX0.out.trans (if_pos (by rw [hb, if_neg hl30, if_neg hc4])))
          have hgt := some45 s i
          have HX2 := Lib.hid (HX1.out.trans (if_neg (fun h => by have h' : s[i].toNat = 105 := (some45 s i 105 hlt).1 h; rw [nowF_lt hlt] at hk hb1; simp at hb1; omega)))
          have hq1 : (nowF s i == 105) = false := by simp at hb1 ⊢; omega
          have HX := Lib.hid (HX2.out.trans (if_pos ((some45 s i 108 hlt).2 (by rw [nowF_lt hlt] at hk; show s[i].toNat = 108; omega))))
          clear hb hk hgt HX1 HX0
          generalize nowF s i = nv at *
          have hc2 := HP1.out.c2
          have hf2 := HP1.out.fz 2
          have HPV : Hid (PS pb s i (count + 1) 0 (W1.setCell ⟨pb, 2, none⟩ (.int .i64 ((count : Int) + 1)))) := Lib.hid (HP1.out.set2 (count + 1))
          have HFV : Hid (Fr (· = pb) w (W1.setCell ⟨pb, 2, none⟩ (.int .i64 ((count : Int) + 1)))) := Lib.hid (frP HF1.out 2 _)
          have HBV : Hid ((W1.setCell ⟨pb, 2, none⟩ (.int .i64 ((count : Int) + 1))).heap[w.heap.size]? = some (.cells #[.int .i64 0, .int .i64 0, .string ⟨#[]⟩, .slice none 0 0] 60 (0, 0))) := Lib.hid ((Below.heap_setCell _ _ _ _ (by show w.heap.size ≠ pb; omega)).trans HB1.out)
          have HSV : Hid ((W1.setCell ⟨pb, 2, none⟩ (.int .i64 ((count : Int) + 1))).heap.size = w.heap.size + 1) := Lib.hid (by rw [← HS1.out]; simp [World.setCell])
          have hc1 := HPV.out.c1
          have hf1 := HPV.out.fz 1
          have hpL : PS pb s (i + 1) (count + 1) 0 ((W1.setCell ⟨pb, 2, none⟩ (.int .i64 ((count : Int) + 1))).setCell ⟨pb, 1, none⟩ (.int .i64 ((i : Int) + 1))) := HPV.out.set1 (i + 1)
          have hszL : ((W1.setCell ⟨pb, 2, none⟩ (.int .i64 ((count : Int) + 1))).setCell ⟨pb, 1, none⟩ (.int .i64 ((i : Int) + 1))).heap.size = w.heap.size + 1 := by rw [← HSV.out]; simp [World.setCell]
          have HI0 : Hid (RInv s pb w (i + 1) (count + 1) (.slice none 0 0) [] [] (((W1.setCell ⟨pb, 2, none⟩ (.int .i64 ((count : Int) + 1))).setCell ⟨pb, 1, none⟩ (.int .i64 ((i : Int) + 1))).alloc (.cells #[.int .i64 3, .int .i64 0, .string ⟨#[]⟩, .slice none 0 0] 60))) := Lib.hid ⟨(frP HFV.out 1 _).alloc _, hpL.alloc _, (Below.heap_alloc _ _ _ (by rw [hszL]; omega)).trans ((Below.heap_setCell _ _ _ _ (by show w.heap.size ≠ pb; omega)).trans HBV.out), by rw [← hszL]; exact heap_alloc_new _ _, World.ownsRow_nil _ _ _ _, by rw [RepAll]⟩
          have HSL := Lib.hid hszL
          clear hpL hszL
          obtain ⟨i0, hi0, hz0, hz1, hz2⟩ := info_parts Tryz.info24
          have hsW : W1.heap.size = w.heap.size + 1 := HS1.out
          go_wp2
          clear hsW
          generalize ((W1.setCell ⟨pb, 2, none⟩ (.int .i64 ((count : Int) + 1))).setCell ⟨pb, 1, none⟩ (.int .i64 ((i : Int) + 1))).alloc (.cells #[.int .i64 3, .int .i64 0, .string ⟨#[]⟩, .slice none 0 0] 60) = WL at *
          go_loopw [7] (fun _ wr => ∃ (k g cnt : Nat) (a : Option Addr) (len cap : Nat) (ts : List Tree) (xs : List Value), k ≤ s.size ∧ 2 * (s.size - k) + 2 ≤ g ∧ g ≤ f ∧ cnt ≤ 4000 ∧ ts.length ≤ cnt ∧
              Hid (rdL s.data.toList f (i + 1) (within + 1) (count + 1) [] = rdL s.data.toList g k (within + 1) cnt ts) ∧ Hid (RInv s pb w k cnt (.slice a len cap) ts xs wr)) (fun _ wr => s.size - plc pb wr)
          case atStart => exact ⟨i + 1, f, count + 1, none, 0, 0, [], [], by omega, by omega, Nat.le_refl _, by omega, by simp, Lib.hid rfl, HI0⟩
          case round =>
            obtain ⟨k, g, cnt, a, len, cap, ts, xs, hk, hg, hgf, hcnt, htl, H, I0⟩ := hrel
            clear HI0
            obtain ⟨g, rfl⟩ : ∃ g', g = g' + 1 := ⟨g - 1, by omega⟩
            have H1 := Lib.hid (H.out.trans (rdL_succ _ _ _ _ _ _))
            clear H
            go_wp2_with fail
            refine (now_any pb s k cnt 0 wr hs hk I0.out.ps).mono ?_
            rintro e wr1 ⟨rfl, hsm⟩
            have I := Lib.hid (I0.out.same hsm)
            have HPL : Hid (plc pb wr = k) := Lib.hid (plc_of I0.out.ps)
            clear hsm I0
            have hsz : w.heap.size + 2 ≤ wr1.heap.size := by have := lt_of_heap I.out.vbl; omega
            by_cases he : s.data.toList[k]? = some 101
            · have hltk : k < s.size := by
                rcases Nat.lt_or_ge k s.size with h | h
                · exact h
                · rw [get_no s k (by omega)] at he; cases he
              have hB : (nowF s k != 101) = false := by rw [nowF_lt hltk]; have := (some45 s k 101 hltk).1 he; simp at this ⊢; omega
              have H2 := Lib.hid (H1.out.trans (if_pos he))
              clear H1 he
              generalize nowF s k = nk at *
              have hc1 := I.out.ps.c1
              have hf1 := I.out.ps.fz 1
              have hp2 : PS pb s (k + 1) cnt 0 (wr1.setCell ⟨pb, 1, none⟩ (.int .i64 ((k : Int) + 1))) := I.out.ps.set1 (k + 1)
              have hv2 : (wr1.setCell ⟨pb, 1, none⟩ (.int .i64 ((k : Int) + 1))).heap[w.heap.size + 1]? = some (.cells #[.int .i64 3, .int .i64 0, .string ⟨#[]⟩, .slice a len cap] 60 (0, 0)) := (Below.heap_setCell _ _ _ _ (by show w.heap.size + 1 ≠ pb; omega)).trans I.out.vbl
              have hb2' : (wr1.setCell ⟨pb, 1, none⟩ (.int .i64 ((k : Int) + 1))).heap[w.heap.size]? = some (.cells #[.int .i64 0, .int .i64 0, .string ⟨#[]⟩, .slice none 0 0] 60 (0, 0)) := (Below.heap_setCell _ _ _ _ (by show w.heap.size ≠ pb; omega)).trans I.out.res
              have hn0 : (wr1.setCell ⟨pb, 1, none⟩ (.int .i64 ((k : Int) + 1))).cell? ⟨w.heap.size + 1, 0, none⟩ = some (.int .i64 3) := by simp [World.cell?, hv2]
              have hn1 : (wr1.setCell ⟨pb, 1, none⟩ (.int .i64 ((k : Int) + 1))).cell? ⟨w.heap.size + 1, 1, none⟩ = some (.int .i64 0) := by simp [World.cell?, hv2]
              have hn2 : (wr1.setCell ⟨pb, 1, none⟩ (.int .i64 ((k : Int) + 1))).cell? ⟨w.heap.size + 1, 2, none⟩ = some (.string ⟨#[]⟩) := by simp [World.cell?, hv2]
              have hn3 : (wr1.setCell ⟨pb, 1, none⟩ (.int .i64 ((k : Int) + 1))).cell? ⟨w.heap.size + 1, 3, none⟩ = some (.slice a len cap) := by simp [World.cell?, hv2]
              have hr0 : (wr1.setCell ⟨pb, 1, none⟩ (.int .i64 ((k : Int) + 1))).cell? ⟨w.heap.size, 0, none⟩ = some (.int .i64 0) := by simp [World.cell?, hb2']
              have hr1 : (wr1.setCell ⟨pb, 1, none⟩ (.int .i64 ((k : Int) + 1))).cell? ⟨w.heap.size, 1, none⟩ = some (.int .i64 0) := by simp [World.cell?, hb2']
              have hr2 : (wr1.setCell ⟨pb, 1, none⟩ (.int .i64 ((k : Int) + 1))).cell? ⟨w.heap.size, 2, none⟩ = some (.string ⟨#[]⟩) := by simp [World.cell?, hb2']
              have hr3 : (wr1.setCell ⟨pb, 1, none⟩ (.int .i64 ((k : Int) + 1))).cell? ⟨w.heap.size, 3, none⟩ = some (.slice none 0 0) := by simp [World.cell?, hb2']
              have hrf : ∀ j, (wr1.setCell ⟨pb, 1, none⟩ (.int .i64 ((k : Int) + 1))).frozen? ⟨w.heap.size, j, none⟩ = false := frozen_of_heap hb2'
              have HP2 := Lib.hid hp2
              have HB2 := Lib.hid hb2'
              have HF2 : Hid (Fr (· = pb) w (wr1.setCell ⟨pb, 1, none⟩ (.int .i64 ((k : Int) + 1)))) := Lib.hid (frP I.out.fr 1 _)
              have HK2 : Hid (∀ b : Nat, b ≠ pb → (wr1.setCell ⟨pb, 1, none⟩ (.int .i64 ((k : Int) + 1))).heap[b]? = wr1.heap[b]?) := Lib.hid (fun b hb => Below.heap_setCell _ _ _ _ hb)
              have HZ2 : Hid ((wr1.setCell ⟨pb, 1, none⟩ (.int .i64 ((k : Int) + 1))).heap.size = wr1.heap.size) := Lib.hid (by simp [World.setCell])
              clear hp2 hv2 hb2'
              go_wp2
              generalize wr1.setCell ⟨pb, 1, none⟩ (.int .i64 ((k : Int) + 1)) = w2 at *
              have h4 := heap_put4 HB2.out (.int .i64 3) (.int .i64 0) (.string ⟨#[]⟩) (.slice a len cap)
              have hbut := But.put4 w.heap.size w2 (.int .i64 3) (.int .i64 0) (.string ⟨#[]⟩) (.slice a len cap)
              generalize ((((w2.setCell ⟨w.heap.size, 0, none⟩ (.int .i64 3)).setCell ⟨w.heap.size, 1, none⟩ (.int .i64 0)).setCell ⟨w.heap.size, 2, none⟩ (.string ⟨#[]⟩)).setCell ⟨w.heap.size, 3, none⟩ (.slice a len cap)) = wz at h4 hbut ⊢
              refine bodyPost_ret (v := listV (.slice a len cap)) (by simp [results, Tryz.results75, go_sem, World.cell?, h4]) rfl ?_
              rw [HX.out, H2.out]
              exact RInv.done I.out hltp ((hbut.block pb (by omega)).trans HP2.out) (Fr.but HF2.out hbut (Nat.le_refl _)) (by rw [hbut.size]; exact HZ2.out) (fun b h1 h2 => (hbut.block b h1).trans (HK2.out b h2))
            · have hB : (nowF s k != 101) = true := by
                by_cases hltk : k < s.size
                · rw [nowF_lt hltk]; have := fun h => he ((some45 s k 101 hltk).2 h); simp at this ⊢; omega
                · rw [nowF_end hltk]; rfl
              have H2 := Lib.hid (H1.out.trans (if_neg he))
              clear H1 he
              generalize nowF s k = nk at *
              obtain ⟨b1, b2, b3, b4⟩ := (rd_bd s.data.toList g).1 k (within + 1 + 1) cnt (by simpa using hk)
              have hcall : Hid (Calls Tryz.prog 75 #[.pointer (some ⟨pb, 0, none⟩), .int .i64 ((within : Int) + 1)] wr1 (VPost (rdV s.data.toList g k (within + 1 + 1) cnt) pb s wr1)) := Lib.hid (HV.out g (by omega) pb k (within + 1) cnt wr1 hk (by omega) hcnt I.out.ps (by omega))
              generalize hr : rdV s.data.toList g k (within + 1 + 1) cnt = r at hcall H2 b1 b2 b3 b4
              obtain ⟨r, cn⟩ := r
              have hsl : s.data.toList.length = s.size := by simp
              rw [hsl] at b1
              clear hr hsl
              simp only at b1 b2 b3 b4
              cases r with
              | bad er k2 =>
                go_wp2_with fail
                refine hcall.out.mono ?_
                intro e w1 hpost
                have HPO := Lib.hid hpost
                obtain ⟨⟨rfl, m', hps1⟩, hfr1⟩ := hpost
                have hres := (hfr1.block w.heap.size (by omega) (by omega)).trans I.out.res
                have hc3 := hps1.c3
                have hltp1 := hps1.lt
                have hr0 : w1.cell? ⟨w.heap.size, 0, none⟩ = some (.int .i64 0) := by simp [World.cell?, hres]
                have hr1 : w1.cell? ⟨w.heap.size, 1, none⟩ = some (.int .i64 0) := by simp [World.cell?, hres]
                have hr2 : w1.cell? ⟨w.heap.size, 2, none⟩ = some (.string ⟨#[]⟩) := by simp [World.cell?, hres]
                have hr3 : w1.cell? ⟨w.heap.size, 3, none⟩ = some (.slice none 0 0) := by simp [World.cell?, hres]
                have hrf : ∀ j, w1.frozen? ⟨w.heap.size, j, none⟩ = false := frozen_of_heap hres
                have hszl : w.heap.size < w1.heap.size := by have := hfr1.size; omega
                have hE0 : ((er : Int) != 0) = true := by have := b1.1; simp; omega
                have HRes := Lib.hid hres
                have HPS1 := Lib.hid hps1
                have HFR1 := Lib.hid (I.out.fr.trans hfr1)
                clear hres b1 b4 hps1 hfr1
                go_wp2
                have h4 := heap_put4 HRes.out (.int .i64 0) (.int .i64 0) (.string ⟨#[]⟩) (.slice none 0 0)
                have hbut := But.put4 w.heap.size w1 (.int .i64 0) (.int .i64 0) (.string ⟨#[]⟩) (.slice none 0 0)
                generalize ((((w1.setCell ⟨w.heap.size, 0, none⟩ (.int .i64 0)).setCell ⟨w.heap.size, 1, none⟩ (.int .i64 0)).setCell ⟨w.heap.size, 2, none⟩ (.string ⟨#[]⟩)).setCell ⟨w.heap.size, 3, none⟩ (.slice none 0 0)) = w4 at h4 hbut ⊢
                have h5 := (Below.heap_alloc w4 (.cells #[.int .i64 0, .int .i64 0, .string ⟨#[]⟩, .slice none 0 0] 60) w.heap.size (by rw [hbut.size]; exact hszl)).trans h4
                have hup : VPost (.bad er k2, cn) pb s w (.returned zeroV) (w4.alloc (.cells #[.int .i64 0, .int .i64 0, .string ⟨#[]⟩, .slice none 0 0] 60)) :=
                  ⟨⟨rfl, m', (Below.heap_alloc _ _ _ (by rw [hbut.size]; exact hltp1)).trans ((hbut.block pb (by omega)).trans HPS1.out)⟩, (Fr.but HFR1.out hbut (Nat.le_refl _)).alloc _⟩
                generalize w4.alloc (.cells #[.int .i64 0, .int .i64 0, .string ⟨#[]⟩, .slice none 0 0] 60) = w5 at h5 hup ⊢
                exact bodyPost_ret (v := zeroV) (by simp [results, Tryz.results75, go_sem, World.cell?, h5]) rfl (by rw [HX.out, H2.out]; exact hup)
              | ok t k2 =>
                simp only [Bd] at b1
                have b5 := b4 _ _ rfl
                clear b4
                go_wp2_with fail
                refine hcall.out.mono ?_
                intro e w1 hpost
                obtain ⟨⟨v, rfl, hrep, hps1⟩, hfr1⟩ := hpost
                obtain ⟨kd, n0, b0, a0, len0, cap0, rfl⟩ := Rep.cells t v hrep
                have hszw := hfr1.size
                have hvb1 := (hfr1.block (w.heap.size + 1) (by omega) (by omega)).trans I.out.vbl
                have hcL : w1.cell? ⟨w.heap.size + 1, 3, none⟩ = some (.slice a len cap) := by simp [World.cell?, hvb1]
                have hc3 := hps1.c3
                have hltp1 := hps1.lt
                have hltv1 : w.heap.size + 1 < w1.heap.size := by omega
                have hltv2 : w.heap.size + 1 < w1.heap.size + 1 := by omega
                have hown1 : Hid (∀ o1 o2, ((w1.alloc o1).alloc o2).ownsRow (w.heap.size + 2) 60 4 (.slice a len cap) ts.length xs) := Lib.hid (fun o1 o2 => ownsRow_keep I.out.own (fun b hb => by
                  have h1 := I.out.own.lt b hb
                  rw [Below.heap_alloc _ _ _ (by simp; omega), Below.heap_alloc _ _ _ (by omega)]
                  exact hfr1.block b h1.2 (by omega)))
                have HP1' := Lib.hid hps1
                have HR1 := Lib.hid hrep
                have HFR1 := Lib.hid hfr1
                have HVB1 := Lib.hid hvb1
                clear hrep hps1 hfr1 hvb1
                go_wp2_with (at_builtin; refine wpList_append_lies _ rfl _ _ 58 rfl (w.heap.size + 2) 60 i0 zeroV 4 56 Tryz.underlying58 hi0 hz0 hz1 hz2 rfl (by decide) _ ts.length xs rfl (hown1.out _ _) ⟨w1.heap.size + 1, 0, none⟩ 1 1 [.int .i64 kd, .int .i64 n0, .string b0, .slice a0 len0 cap0] rfl rfl ?c1 ?c2 (by decide) ?c3 ?c4 ?c5 (w1.heap.size + 2) ?c6 ?_)
                case c1 =>
                  intro j u hj
                  match j, hj with
                  | 0, hj => simp at hj; subst hj; simp [Addr.add]
                  | 1, hj => simp at hj; subst hj; simp [Addr.add]
                  | 2, hj => simp at hj; subst hj; simp [Addr.add]
                  | 3, hj => simp at hj; subst hj; simp [Addr.add]
                case c2 => intro u hu; simp at hu; rcases hu with rfl | rfl | rfl | rfl <;> rfl
                case c3 => unfold maxLen; omega
                case c4 => omega
                case c5 => simp; omega
                case c6 => simp
                intro g2 cap2 w2 hown2 hgrow hlies hlt2
                have HS := Lib.hid (RInv.step I.out hltp HP1'.out HR1.out HFR1.out hown2 hgrow hlies)
                have hvb2 : w2.heap[w.heap.size + 1]? = some (.cells #[.int .i64 3, .int .i64 0, .string ⟨#[]⟩, .slice a len cap] 60 (0, 0)) := by
                  rw [hgrow.block (w.heap.size + 1) (by simp; omega) (fun e => by have := I.out.own.lt _ e.symm; omega), Below.heap_alloc _ _ _ (by simp; omega), Below.heap_alloc _ _ _ (by omega)]
                  exact HVB1.out
                have hcv3 : w2.cell? ⟨w.heap.size + 1, 3, none⟩ = some (.slice a len cap) := by simp [World.cell?, hvb2]
                have hfv3 : w2.frozen? ⟨w.heap.size + 1, 3, none⟩ = false := frozen_of_heap hvb2 3
                clear hown2 hgrow hlies hvb2
                go_wp2
                have HPZ := Lib.hid (plc_of HS.out.ps)
                go_roundw
                case rel => exact ⟨k2, g, cn, _, _, _, ts ++ [t], _, by omega, by omega, by omega, by omega, by simp; omega, H2, HS⟩
                case measure => rw [HPZ.out, HPL.out]; omega
    · by_cases hl30 : 30 < within + 1
      · have hw30 : decide ((30 : Int) ≤ (within : Int)) = true := by simp; omega
        have hb1 : (nowF s i != 105) = true := by simp at hk ⊢; omega
        have hb2 : (nowF s i != 108) = true := by simp at hk ⊢; omega
        have HN3 := Lib.hid hk
        have HX := Lib.hid (HX0.out.trans (if_neg (by rw [hb, if_pos hl30]; omega)))
        have HBE : Hid (beginF s.data.toList i (within + 1) (count + 1) = 12) := Lib.hid (by rw [hb, if_pos hl30])
        clear hb hk
        generalize nowF s i = nv at *
        have hc2 := HP1.out.c2
        have hc3 := HP1.out.c3
        have hf3 := HP1.out.fz 3
        have HP2 : Hid (PS pb s i count 12 (W1.setCell ⟨pb, 3, none⟩ (.int .i64 12))) := Lib.hid (HP1.out.set3 12)
        have HF2 : Hid (Fr (· = pb) w (W1.setCell ⟨pb, 3, none⟩ (.int .i64 12))) := Lib.hid (frP HF1.out 3 _)
        have hblk : (W1.setCell ⟨pb, 3, none⟩ (.int .i64 12)).heap[w.heap.size]? = some (.cells #[.int .i64 0, .int .i64 0, .string ⟨#[]⟩, .slice none 0 0] 60 (0, 0)) := (Below.heap_setCell _ _ _ _ (by show w.heap.size ≠ pb; omega)).trans HB1.out
        have hr0 : (W1.setCell ⟨pb, 3, none⟩ (.int .i64 12)).cell? ⟨w.heap.size, 0, none⟩ = some (.int .i64 0) := by simp [World.cell?, hblk]
        have hr1 : (W1.setCell ⟨pb, 3, none⟩ (.int .i64 12)).cell? ⟨w.heap.size, 1, none⟩ = some (.int .i64 0) := by simp [World.cell?, hblk]
        have hr2 : (W1.setCell ⟨pb, 3, none⟩ (.int .i64 12)).cell? ⟨w.heap.size, 2, none⟩ = some (.string ⟨#[]⟩) := by simp [World.cell?, hblk]
        have hr3 : (W1.setCell ⟨pb, 3, none⟩ (.int .i64 12)).cell? ⟨w.heap.size, 3, none⟩ = some (.slice none 0 0) := by simp [World.cell?, hblk]
        have hrf : ∀ j, (W1.setCell ⟨pb, 3, none⟩ (.int .i64 12)).frozen? ⟨w.heap.size, j, none⟩ = false := frozen_of_heap hblk
        have HB2 := Lib.hid hblk
        clear hblk
        go_wp2_with fail
        refine (digit_any _ _).mono ?_
        rintro e w1' ⟨rfl, rfl⟩
        rw [HN3.out]
        go_wp2
        generalize W1.setCell ⟨pb, 3, none⟩ (.int .i64 12) = w2 at *
        have h4 := heap_put4 HB2.out (.int .i64 0) (.int .i64 0) (.string ⟨#[]⟩) (.slice none 0 0)
        have hbut := But.put4 w.heap.size w2 (.int .i64 0) (.int .i64 0) (.string ⟨#[]⟩) (.slice none 0 0)
        generalize ((((w2.setCell ⟨w.heap.size, 0, none⟩ (.int .i64 0)).setCell ⟨w.heap.size, 1, none⟩ (.int .i64 0)).setCell ⟨w.heap.size, 2, none⟩ (.string ⟨#[]⟩)).setCell ⟨w.heap.size, 3, none⟩ (.slice none 0 0)) = wz at h4 hbut ⊢
        refine bodyPost_ret (v := zeroV) (by simp [results, Tryz.results75, go_sem, World.cell?, h4]) rfl ?_
        rw [HX.out, HBE.out]
        exact ⟨⟨rfl, _, (hbut.block pb (by omega)).trans HP2.out⟩, Fr.but HF2.out hbut (Nat.le_refl _)⟩
      · have hw29 : decide ((30 : Int) ≤ (within : Int)) = false := by simp; omega
        by_cases hc4 : 4000 < count + 1
        · have hcc : decide ((4000 : Int) ≤ (count : Int)) = true := by simp; omega
          have hb1 : (nowF s i != 105) = true := by simp at hk ⊢; omega
          have hb2 : (nowF s i != 108) = true := by simp at hk ⊢; omega
          have HN3 := Lib.hid hk
          have HX := Lib.hid (HX0.out.trans (if_neg (by rw [hb, if_neg hl30, if_pos hc4]; omega)))
          have HBE : Hid (beginF s.data.toList i (within + 1) (count + 1) = 2) := Lib.hid (by rw [hb, if_neg hl30, if_pos hc4])
          clear hb hk
          generalize nowF s i = nv at *
          have hc2 := HP1.out.c2
          have hc3 := HP1.out.c3
          have hf3 := HP1.out.fz 3
          have HP2 : Hid (PS pb s i count 2 (W1.setCell ⟨pb, 3, none⟩ (.int .i64 2))) := Lib.hid (HP1.out.set3 2)
          have HF2 : Hid (Fr (· = pb) w (W1.setCell ⟨pb, 3, none⟩ (.int .i64 2))) := Lib.hid (frP HF1.out 3 _)
          have hblk : (W1.setCell ⟨pb, 3, none⟩ (.int .i64 2)).heap[w.heap.size]? = some (.cells #[.int .i64 0, .int .i64 0, .string ⟨#[]⟩, .slice none 0 0] 60 (0, 0)) := (Below.heap_setCell _ _ _ _ (by show w.heap.size ≠ pb; omega)).trans HB1.out
          have hr0 : (W1.setCell ⟨pb, 3, none⟩ (.int .i64 2)).cell? ⟨w.heap.size, 0, none⟩ = some (.int .i64 0) := by simp [World.cell?, hblk]
          have hr1 : (W1.setCell ⟨pb, 3, none⟩ (.int .i64 2)).cell? ⟨w.heap.size, 1, none⟩ = some (.int .i64 0) := by simp [World.cell?, hblk]
          have hr2 : (W1.setCell ⟨pb, 3, none⟩ (.int .i64 2)).cell? ⟨w.heap.size, 2, none⟩ = some (.string ⟨#[]⟩) := by simp [World.cell?, hblk]
          have hr3 : (W1.setCell ⟨pb, 3, none⟩ (.int .i64 2)).cell? ⟨w.heap.size, 3, none⟩ = some (.slice none 0 0) := by simp [World.cell?, hblk]
          have hrf : ∀ j, (W1.setCell ⟨pb, 3, none⟩ (.int .i64 2)).frozen? ⟨w.heap.size, j, none⟩ = false := frozen_of_heap hblk
          have HB2 := Lib.hid hblk
          clear hblk
          go_wp2_with fail
          refine (digit_any _ _).mono ?_
          rintro e w1' ⟨rfl, rfl⟩
          rw [HN3.out]
          go_wp2
          generalize W1.setCell ⟨pb, 3, none⟩ (.int .i64 2) = w2 at *
          have h4 := heap_put4 HB2.out (.int .i64 0) (.int .i64 0) (.string ⟨#[]⟩) (.slice none 0 0)
          have hbut := But.put4 w.heap.size w2 (.int .i64 0) (.int .i64 0) (.string ⟨#[]⟩) (.slice none 0 0)
          generalize ((((w2.setCell ⟨w.heap.size, 0, none⟩ (.int .i64 0)).setCell ⟨w.heap.size, 1, none⟩ (.int .i64 0)).setCell ⟨w.heap.size, 2, none⟩ (.string ⟨#[]⟩)).setCell ⟨w.heap.size, 3, none⟩ (.slice none 0 0)) = wz at h4 hbut ⊢
          refine bodyPost_ret (v := zeroV) (by simp [results, Tryz.results75, go_sem, World.cell?, h4]) rfl ?_
          rw [HX.out, HBE.out]
          exact ⟨⟨rfl, _, (hbut.block pb (by omega)).trans HP2.out⟩, Fr.but HF2.out hbut (Nat.le_refl _)⟩
        · have hm29 : decide ((4000 : Int) ≤ (count : Int)) = false := by simp; omega
          have hb1 : (nowF s i != 105) = true := by simp at hk ⊢; omega
          have hb2 : (nowF s i != 108) = true := by simp at hk ⊢; omega
          have HN3 := Lib.hid hk
          have HX1 := Lib.hid (HX0.out.trans (if_pos (by rw [hb, if_neg hl30, if_neg hc4])))
          have hgt := some45 s i
          have HX2 := Lib.hid (HX1.out.trans (if_neg (fun h => by have h' : s[i].toNat = 105 := (some45 s i 105 hlt).1 h; rw [nowF_lt hlt] at hk hb1; simp at hb1; omega)))
          have hq1 : (nowF s i == 105) = false := by simp at hb1 ⊢; omega
          have HX := Lib.hid (HX2.out.trans (if_neg (fun h => by have h' : s[i].toNat = 108 := (some45 s i 108 hlt).1 h; rw [nowF_lt hlt] at hb2; simp at hb2; omega)))
          clear hb hk hgt HX1 HX0
          generalize nowF s i = nv at *
          have hc2 := HP1.out.c2
          have hf2 := HP1.out.fz 2
          have HPV : Hid (PS pb s i (count + 1) 0 (W1.setCell ⟨pb, 2, none⟩ (.int .i64 ((count : Int) + 1)))) := Lib.hid (HP1.out.set2 (count + 1))
          have HFV : Hid (Fr (· = pb) w (W1.setCell ⟨pb, 2, none⟩ (.int .i64 ((count : Int) + 1)))) := Lib.hid (frP HF1.out 2 _)
          have HBV : Hid ((W1.setCell ⟨pb, 2, none⟩ (.int .i64 ((count : Int) + 1))).heap[w.heap.size]? = some (.cells #[.int .i64 0, .int .i64 0, .string ⟨#[]⟩, .slice none 0 0] 60 (0, 0))) := Lib.hid ((Below.heap_setCell _ _ _ _ (by show w.heap.size ≠ pb; omega)).trans HB1.out)
          have HSV : Hid ((W1.setCell ⟨pb, 2, none⟩ (.int .i64 ((count : Int) + 1))).heap.size = w.heap.size + 1) := Lib.hid (by rw [← HS1.out]; simp [World.setCell])
          go_wp2_with fail
          refine (digit_any _ _).mono ?_
          rintro e w1' ⟨rfl, rfl⟩
          rw [HN3.out]
          go_wp2_with fail
          generalize W1.setCell ⟨pb, 2, none⟩ (.int .i64 ((count : Int) + 1)) = WV at *
          refine (rtext_any pb s i (count + 1) WV hs hi HPV.out).mono ?_
          intro e w2 hpost
          have hblk := (hpost.2.block w.heap.size (lt_of_heap HBV.out) (by omega)).trans HBV.out
          have hr0 : w2.cell? ⟨w.heap.size, 0, none⟩ = some (.int .i64 0) := by simp [World.cell?, hblk]
          have hr1 : w2.cell? ⟨w.heap.size, 1, none⟩ = some (.int .i64 0) := by simp [World.cell?, hblk]
          have hr2 : w2.cell? ⟨w.heap.size, 2, none⟩ = some (.string ⟨#[]⟩) := by simp [World.cell?, hblk]
          have hr3 : w2.cell? ⟨w.heap.size, 3, none⟩ = some (.slice none 0 0) := by simp [World.cell?, hblk]
          have hrf : ∀ j, w2.frozen? ⟨w.heap.size, j, none⟩ = false := frozen_of_heap hblk
          have HB2 := Lib.hid hblk
          have HP2 := Lib.hid hpost
          generalize hr : textF s.data.toList i = r at hpost HP2
          have HR := Lib.hid hr
          clear hr hblk
          cases r with
          | ok t k =>
            obtain ⟨⟨v, rfl, hrep, -⟩, -⟩ := hpost
            obtain ⟨kd, n0, b0, a0, len0, cap0, rfl⟩ := Rep.cells t v hrep
            clear hrep
            go_wp2
            have h4 := heap_put4 HB2.out (.int .i64 kd) (.int .i64 n0) (.string b0) (.slice a0 len0 cap0)
            have hup := VPost.up HFV.out HP2.out (But.put4 w.heap.size w2 (.int .i64 kd) (.int .i64 n0) (.string b0) (.slice a0 len0 cap0)) (Nat.le_refl _) (lt_of_heap HBV.out) hltp
            generalize ((((w2.setCell ⟨w.heap.size, 0, none⟩ (.int .i64 kd)).setCell ⟨w.heap.size, 1, none⟩ (.int .i64 n0)).setCell ⟨w.heap.size, 2, none⟩ (.string b0)).setCell ⟨w.heap.size, 3, none⟩ (.slice a0 len0 cap0)) = wz at h4 hup ⊢
            exact bodyPost_ret (v := .agg #[.int .i64 kd, .int .i64 n0, .string b0, .slice a0 len0 cap0]) (by simp [results, Tryz.results75, go_sem, World.cell?, h4]) rfl (by rw [HX.out, HR.out]; exact hup)
          | bad er k =>
            obtain ⟨⟨rfl, -⟩, -⟩ := hpost
            go_wp2
            have h4 := heap_put4 HB2.out (.int .i64 0) (.int .i64 0) (.string ⟨#[]⟩) (.slice none 0 0)
            have hup := VPost.up HFV.out HP2.out (But.put4 w.heap.size w2 (.int .i64 0) (.int .i64 0) (.string ⟨#[]⟩) (.slice none 0 0)) (Nat.le_refl _) (lt_of_heap HBV.out) hltp
            generalize ((((w2.setCell ⟨w.heap.size, 0, none⟩ (.int .i64 0)).setCell ⟨w.heap.size, 1, none⟩ (.int .i64 0)).setCell ⟨w.heap.size, 2, none⟩ (.string ⟨#[]⟩)).setCell ⟨w.heap.size, 3, none⟩ (.slice none 0 0)) = wz at h4 hup ⊢
            exact bodyPost_ret (v := zeroV) (by simp [results, Tryz.results75, go_sem, World.cell?, h4]) rfl (by rw [HX.out, HR.out]; exact hup)
end Go.Proofs.YtdnedbcmgkilaaaGreatDoor.Co
