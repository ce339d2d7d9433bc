/- The document's own reader (package hornbookref01): its small methods. -/
import Derived.Test.YtmagcikaepobiaaDoorRefPlain
import Derived.WalkLawsBesides
namespace Go.Proofs.YtmagcikaepobiaaDoor
open Go.RowKit

/-- Where the document's reader stands: the text, the place, how many values, the error. -/
def PS (pb : Nat) (s : ByteArray) (i m bad : Nat) (w : World) : Prop := w.heap[pb]? = some (.cells #[.string s, .int .i64 i, .int .i64 m, .int .i64 bad] 69 (0, 0))
/-- Only draws. -/
structure Same (w w' : World) : Prop where
  os : w'.os = w.os
  tape : w'.tape = w.tape
  output : w'.output = w.output
  heap : w'.heap = w.heap

section
variable {pb : Nat} {s : ByteArray} {i m bad : Nat} {w w' : World} {X : Nat → Prop}
theorem Same.fr (h : Same w w') : Fr X w w' := ⟨h.os, h.tape, h.output, by rw [h.heap]; exact Nat.le_refl _, fun k _ _ => by rw [h.heap]⟩
theorem PS.same (h : PS pb s i m bad w) (hs : Same w w') : PS pb s i m bad w' := by unfold PS at *; rw [hs.heap]; exact h
theorem PS.c0 (h : PS pb s i m bad w) : w.cell? ⟨pb, 0, none⟩ = some (.string s) := by unfold PS at h; simp [World.cell?, h]
theorem PS.c1 (h : PS pb s i m bad w) : w.cell? ⟨pb, 1, none⟩ = some (.int .i64 i) := by unfold PS at h; simp [World.cell?, h]
theorem PS.c2 (h : PS pb s i m bad w) : w.cell? ⟨pb, 2, none⟩ = some (.int .i64 m) := by unfold PS at h; simp [World.cell?, h]
theorem PS.c3 (h : PS pb s i m bad w) : w.cell? ⟨pb, 3, none⟩ = some (.int .i64 bad) := by unfold PS at h; simp [World.cell?, h]
theorem PS.fz (h : PS pb s i m bad w) (j : Nat) : w.frozen? ⟨pb, j, none⟩ = false := frozen_of_heap h j
theorem PS.lt (h : PS pb s i m bad w) : pb < w.heap.size := lt_of_heap h
theorem PS.set1 (h : PS pb s i m bad w) (j : Nat) : PS pb s j m bad (w.setCell ⟨pb, 1, none⟩ (.int .i64 j)) := heap_set h 1 _
theorem PS.set2 (h : PS pb s i m bad w) (j : Nat) : PS pb s i j bad (w.setCell ⟨pb, 2, none⟩ (.int .i64 j)) := heap_set h 2 _
theorem PS.set3 (h : PS pb s i m bad w) (j : Nat) : PS pb s i m j (w.setCell ⟨pb, 3, none⟩ (.int .i64 j)) := heap_set h 3 _
theorem PS.alloc (h : PS pb s i m bad w) (o : Obj) : PS pb s i m bad (w.alloc o) := (Below.heap_alloc _ _ _ (lt_of_heap h)).trans h
theorem PS.below (h : PS pb s i m bad w) (hb : Below w.heap.size w w') : PS pb s i m bad w' := (hb.block _ (lt_of_heap h)).trans h
theorem frP (h : Fr (· = pb) w w') (j : Nat) (u : Value) : Fr (· = pb) w (w'.setCell ⟨pb, j, none⟩ u) := h.setCell (p := ⟨pb, j, none⟩) (.inr rfl) u
end

/-- The next byte; -1 at the end. -/
def nowF (s : ByteArray) (i : Nat) : Int := if h : i < s.size then (s[i].toNat : Int) else -1
theorem nowF_lt {s : ByteArray} {i : Nat} (h : i < s.size) : nowF s i = (s[i].toNat : Int) := dif_pos h
theorem nowF_end {s : ByteArray} {i : Nat} (h : ¬ i < s.size) : nowF s i = -1 := dif_neg h
theorem wrap_byte (c : UInt8) : wrap64 (c.toNat : Int) = c.toNat := by have := c.toNat_lt; unfold wrap64; omega

set_option maxHeartbeats 800000 in
theorem now_any (pb : Nat) (s : ByteArray) (i m bad : Nat) (w : World) (_ : s.size ≤ 131072) (hi : i ≤ s.size) (hp : PS pb s i m bad w) :
    Calls Tryd.prog 51 #[.pointer (some ⟨pb, 0, none⟩)] w fun e w' => e = .returned (.int .i64 (nowF s i)) ∧ Same w w' := by
  have hc0 := hp.c0
  have hc1 := hp.c1
  clear hp
  by_cases hlt : i < s.size
  · have HN := Lib.hid (nowF_lt hlt)
    have hB : decide (s.size ≤ i) = false := by simp; omega
    go_enter Tryd.func51, Tryd.ntmps51
    go_wp2
    go_quiet (fail)
    go_wp2
    go_quiet (fail)
    go_wp2
    go_ret
    exact ⟨ret_int (by rw [HN.out, wrap_byte]), rfl, rfl, rfl, rfl⟩
  · have HN := Lib.hid (nowF_end hlt)
    have hB : decide (s.size ≤ i) = true := by simp; omega
    go_enter Tryd.func51, Tryd.ntmps51
    go_wp2
    go_quiet (fail)
    go_wp2
    go_ret
    exact ⟨ret_int (by rw [HN.out]), rfl, rfl, rfl, rfl⟩

/-- The error of a byte that can't stand. -/
def wrongF (s : ByteArray) (i : Nat) : Nat := if i < s.size then 11 else 10

set_option maxHeartbeats 800000 in
theorem wrong_any (pb : Nat) (s : ByteArray) (i m bad : Nat) (w : World) (hs : s.size ≤ 131072) (hi : i ≤ s.size) (hp : PS pb s i m bad w) :
    Calls Tryd.prog 53 #[.pointer (some ⟨pb, 0, none⟩)] w fun e w' => e = .returned (.tuple #[]) ∧ PS pb s i m (wrongF s i) w' ∧ Fr (· = pb) w w' := by
  have hc3 := hp.c3
  have hf := hp.fz 3
  have H1 : Hid (PS pb s i m 11 (w.setCell ⟨pb, 3, none⟩ (.int .i64 11))) := Lib.hid (hp.set3 11)
  have HN := Lib.hid (now_any pb s i m 11 _ hs hi H1.out)
  have HF : Hid (Fr (· = pb) w (w.setCell ⟨pb, 3, none⟩ (.int .i64 11))) := Lib.hid (frP (Fr.refl _ w) 3 _)
  clear hp
  by_cases hlt : i < s.size
  · have HB := Lib.hid (nowF_lt hlt)
    have HW : Hid (wrongF s i = 11) := Lib.hid (if_pos hlt)
    go_enter Tryd.func53, Tryd.ntmps53
    go_wp2_with fail
    refine HN.out.mono ?_
    rintro e w1 ⟨rfl, hsm⟩
    rw [HB.out]
    have HS := Lib.hid hsm
    clear hsm
    go_wp2
    all_goals (first | (exfalso; omega) | skip)
    go_end0
    exact ⟨rfl, by rw [HW.out]; exact H1.out.same HS.out, HF.out.trans HS.out.fr⟩
  · have HB := Lib.hid (nowF_end hlt)
    have HW : Hid (wrongF s i = 10) := Lib.hid (if_neg hlt)
    go_enter Tryd.func53, Tryd.ntmps53
    go_wp2_with fail
    refine HN.out.mono ?_
    rintro e w1 ⟨rfl, hsm⟩
    rw [HB.out]
    have H2 := H1.out.same hsm
    have hc3 := H2.c3
    have hf := H2.fz 3
    have HP := Lib.hid (H2.set3 10)
    have HS := Lib.hid (HF.out.trans hsm.fr)
    clear hsm H2
    go_wp2
    go_end0
    exact ⟨rfl, by rw [HW.out]; exact HP.out, frP HS.out 3 _⟩

theorem digit_any (c : Int) (w : World) : Calls Tryd.prog 52 #[.int .i64 c] w fun e w' => e = .returned (.bool (decide (48 ≤ c) && decide (c ≤ 57))) ∧ w = w' := by
  by_cases h1 : 48 ≤ c <;> by_cases h2 : c ≤ 57
  all_goals
    go_enter Tryd.func52, Tryd.ntmps52
    go_wp2
    all_goals
      go_ret
      refine ⟨ret_bool ?_, rfl⟩
      simp [h1, h2] <;> omega

set_option maxHeartbeats 800000 in
theorem take_bad (pb : Nat) (s : ByteArray) (i m bad : Nat) (c : Int) (w : World) (hb : bad ≠ 0) (hp : PS pb s i m bad w) :
    Calls Tryd.prog 62 #[.pointer (some ⟨pb, 0, none⟩), .int .i64 c] w fun e w' => e = .returned (.tuple #[]) ∧ w = w' := by
  have hc3 := hp.c3
  have hE : ((bad : Int) != 0) = true := by simp; omega
  clear hp hb
  go_enter Tryd.func62, Tryd.ntmps62
  go_wp2
  exact bodyPost_ret (v := .tuple #[]) (by simp [results, Tryd.results62, go_sem]) rfl ⟨rfl, rfl⟩

def TakeR (pb : Nat) (s : ByteArray) (i m : Nat) (c : Int) (w' : World) : Prop := if nowF s i = c then PS pb s (i + 1) m 0 w' else PS pb s i m (wrongF s i) w'

set_option maxHeartbeats 800000 in
theorem take_any (pb : Nat) (s : ByteArray) (i m : Nat) (c : Int) (w : World) (hs : s.size ≤ 131072) (hi : i ≤ s.size) (_ : 0 ≤ c) (hp : PS pb s i m 0 w) :
    Calls Tryd.prog 62 #[.pointer (some ⟨pb, 0, none⟩), .int .i64 c] w fun e w' => e = .returned (.tuple #[]) ∧ Hid (TakeR pb s i m c w') ∧ Fr (· = pb) w w' := by
  have hc3 := hp.c3
  have HN := Lib.hid (now_any pb s i m 0 w hs hi hp)
  have HP := Lib.hid hp
  clear hp
  by_cases hn : nowF s i = c
  · have hB : (nowF s i != c) = false := by simp [hn]
    have HE : Hid (nowF s i = c) := hn
    clear hn
    go_enter Tryd.func62, Tryd.ntmps62
    go_wp2_with fail
    refine HN.out.mono ?_
    rintro e w1 ⟨rfl, hsm⟩
    have H2 := HP.out.same hsm
    have hc1 := H2.c1
    have hf := H2.fz 1
    have HS := Lib.hid hsm
    have HQ : Hid (PS pb s (i + 1) m 0 (w1.setCell ⟨pb, 1, none⟩ (.int .i64 ((i : Int) + 1)))) := Lib.hid (H2.set1 (i + 1))
    clear hsm H2
    go_wp2
    go_end0
    exact ⟨rfl, Lib.hid (by rw [TakeR, if_pos HE.out]; exact HQ.out), frP HS.out.fr 1 _⟩
  · have hB : (nowF s i != c) = true := by simp [hn]
    have HE : Hid (¬ nowF s i = c) := hn
    clear hn
    go_enter Tryd.func62, Tryd.ntmps62
    go_wp2_with fail
    refine HN.out.mono ?_
    rintro e w1 ⟨rfl, hsm⟩
    have HW := Lib.hid (wrong_any pb s i m 0 w1 hs hi (HP.out.same hsm))
    have HS := Lib.hid hsm
    clear hsm
    go_wp2_with fail
    refine HW.out.mono ?_
    rintro e w2 ⟨rfl, hp2, hf2⟩
    have HR := Lib.hid (And.intro hp2 hf2)
    clear hp2 hf2
    go_wp2
    exact bodyPost_ret (v := .tuple #[]) (by simp [results, Tryd.results62, go_sem]) rfl ⟨rfl, Lib.hid (by rw [TakeR, if_neg HE.out]; exact HR.out.1), HS.out.fr.trans HR.out.2⟩

end Go.Proofs.YtmagcikaepobiaaDoor
