/- The plain mathematics of the document's own reader: digits, and what numbers they spell. -/
import Derived.Lib.ParseIntB
import Derived.WalkLawsBesides
import Derived.Lib.Bytes
import Derived.Test.YtdnedbcmgkilaaaGreatDoorZBCList

section

namespace Go.Proofs.YtdnedbcmgkilaaaGreatDoor.Co
def valFrom (acc : Nat) (l : List UInt8) : Nat := l.foldl (fun n c => n * 10 + (c.toNat - 48)) acc
theorem val_nil (acc : Nat) : valFrom acc [] = acc := rfl
theorem val_step (acc : Nat) (c : UInt8) (r : List UInt8) : valFrom acc (c :: r) = valFrom (acc * 10 + (c.toNat - 48)) r := by unfold valFrom; rw [List.foldl_cons]
def AllDig (l : List UInt8) : Prop := ∀ c, c ∈ l → isDig c = true
theorem valFrom_snoc (l : List UInt8) (acc : Nat) (c : UInt8) : valFrom acc (l ++ [c]) = valFrom acc l * 10 + (c.toNat - 48) := by
  unfold valFrom; rw [List.foldl_append]; rfl
theorem valFrom_acc : ∀ (l : List UInt8) (acc : Nat), valFrom acc l = acc * 10 ^ l.length + valFrom 0 l
  | [], acc => by simp [val_nil]
  | d :: l, acc => by
    rw [val_step, val_step, valFrom_acc l, valFrom_acc l (0 * 10 + (d.toNat - 48)), List.length_cons, Nat.pow_succ, Nat.zero_mul, Nat.zero_add, Nat.add_mul, Nat.mul_assoc, Nat.mul_comm 10, Nat.add_assoc]
theorem valFrom_lt : ∀ (l : List UInt8), AllDig l → valFrom 0 l < 10 ^ l.length
  | [], _ => by simp [val_nil]
  | d :: l, h => by
    have hd := isDig_bd (h d (List.mem_cons_self))
    have ih := valFrom_lt l (fun c hc => h c (List.mem_cons_of_mem _ hc))
    rw [val_step, valFrom_acc, List.length_cons, Nat.pow_succ, Nat.zero_mul, Nat.zero_add]
    have : (d.toNat - 48) * 10 ^ l.length ≤ 9 * 10 ^ l.length := Nat.mul_le_mul_right _ (by omega)
    omega
theorem valFrom_cons (d : UInt8) (l : List UInt8) : valFrom 0 (d :: l) = (d.toNat - 48) * 10 ^ l.length + valFrom 0 l := by
  rw [val_step, valFrom_acc, Nat.zero_mul, Nat.zero_add]
theorem le_valFrom : ∀ (l : List UInt8) (acc : Nat), acc ≤ valFrom acc l
  | [], acc => Nat.le_refl _
  | d :: l, acc => by rw [val_step]; have := le_valFrom l (acc * 10 + (d.toNat - 48)); omega
theorem lex_val : ∀ (a b : List UInt8), a.length = b.length → AllDig a → AllDig b → (Op.bytesLess a b || a == b) = decide (valFrom 0 a ≤ valFrom 0 b)
  | [], [], _, _, _ => by simp [Op.bytesLess, val_nil]
  | [], _ :: _, h, _, _ => by simp at h
  | _ :: _, [], h, _, _ => by simp at h
  | x :: a, y :: b, h, ha, hb => by
    have hx := isDig_bd (ha x List.mem_cons_self)
    have hy := isDig_bd (hb y List.mem_cons_self)
    have ha' : AllDig a := fun c hc => ha c (List.mem_cons_of_mem _ hc)
    have hb' : AllDig b := fun c hc => hb c (List.mem_cons_of_mem _ hc)
    have hl : a.length = b.length := by simpa using h
    have ih := lex_val a b hl ha' hb'
    have va := valFrom_lt a ha'
    have vb := valFrom_lt b hb'
    rw [valFrom_cons, valFrom_cons, hl] at *
    rcases Nat.lt_trichotomy x.toNat y.toNat with hxy | hxy | hxy
    · have h1 : x < y := by rw [UInt8.lt_iff_toNat_lt]; exact hxy
      have : (x.toNat - 48 + 1) * 10 ^ b.length ≤ (y.toNat - 48) * 10 ^ b.length := Nat.mul_le_mul_right _ (by omega)
      rw [Nat.add_mul] at this
      have h2 : ((x.toNat - 48) * 10 ^ b.length + valFrom 0 a ≤ (y.toNat - 48) * 10 ^ b.length + valFrom 0 b) := by omega
      simp [Op.bytesLess, h1, h2]
    · have h1 : x = y := UInt8.toNat_inj.1 hxy
      subst h1
      have h2 : ((x.toNat - 48) * 10 ^ b.length + valFrom 0 a ≤ (x.toNat - 48) * 10 ^ b.length + valFrom 0 b) ↔ valFrom 0 a ≤ valFrom 0 b := by omega
      rw [decide_eq_decide.2 h2, ← ih]
      simp [Op.bytesLess]
    · have h1 : ¬ x < y := by rw [UInt8.lt_iff_toNat_lt]; omega
      have h3 : ¬ x = y := fun e => by subst e; omega
      have : (y.toNat - 48 + 1) * 10 ^ b.length ≤ (x.toNat - 48) * 10 ^ b.length := Nat.mul_le_mul_right _ (by omega)
      rw [Nat.add_mul] at this
      have h2 : ¬ ((x.toNat - 48) * 10 ^ b.length + valFrom 0 a ≤ (y.toNat - 48) * 10 ^ b.length + valFrom 0 b) := by omega
      simp [Op.bytesLess, h1, h2, h3]
def fitsL (a ms : List UInt8) : Bool :=
  if 1 < a.length ∧ a[0]? = some 48 then false else decide (a.length < ms.length) || (decide (a.length = ms.length) && (Op.bytesLess a ms || a == ms))
theorem lead_val {c : UInt8} {r : List UInt8} (hc : isDig c = true) (h48 : c ≠ 48) : 10 ^ r.length ≤ valFrom 0 (c :: r) := by
  have hb := isDig_bd hc
  have : c.toNat ≠ 48 := fun e => h48 (UInt8.toNat_inj.1 e)
  rw [valFrom_cons]
  have : 1 * 10 ^ r.length ≤ (c.toNat - 48) * 10 ^ r.length := Nat.mul_le_mul_right _ (by omega)
  omega
theorem fits_val {a : List UInt8} {m : UInt8} {ms : List UInt8} (ha : AllDig a) (h0 : a ≠ []) (hms : AllDig (m :: ms)) (hm : m ≠ 48) (hlead : ¬ (1 < a.length ∧ a[0]? = some 48)) : fitsL a (m :: ms) = decide (valFrom 0 a ≤ valFrom 0 (m :: ms)) := by
  unfold fitsL
  rw [if_neg hlead]
  have hmv := lead_val (r := ms) (hms m List.mem_cons_self) hm
  rcases Nat.lt_trichotomy a.length (m :: ms).length with h | h | h
  · have hv := valFrom_lt a ha
    have : 10 ^ a.length ≤ 10 ^ ms.length := Nat.pow_le_pow_right (by omega) (by simp at h; omega)
    have h2 : valFrom 0 a ≤ valFrom 0 (m :: ms) := by omega
    simp only [h, decide_true, Bool.true_or, h2]
  · rw [lex_val a _ h ha hms]
    simp [h]
  · cases a with
    | nil => exact absurd rfl h0
    | cons c r =>
      have hc48 : c ≠ 48 := fun e => hlead ⟨by simp at h ⊢; omega, by simp [e]⟩
      have hv := lead_val (r := r) (ha c List.mem_cons_self) hc48
      have hmv' := valFrom_lt _ hms
      have : 10 ^ (m :: ms).length ≤ 10 ^ r.length := Nat.pow_le_pow_right (by omega) (by simp at h ⊢; omega)
      have h2 : ¬ valFrom 0 (c :: r) ≤ valFrom 0 (m :: ms) := by omega
      have h3 : ¬ (c :: r).length < (m :: ms).length := by omega
      have h4 : ¬ (c :: r).length = (m :: ms).length := by omega
      simp only [h2, h3, h4, decide_false, Bool.false_or, Bool.false_and]
def digF (most : Nat) : List UInt8 → Nat → Nat → Bool → Nat × Nat × Nat
  | [], i, _, _ => (0, 10, i)
  | c :: r, i, n, first =>
    if isDig c = true then
      if (n = 0 ∧ first = false) ∨ (most - (c.toNat - 48)) / 10 < n then (0, 11, i) else digF most r (i + 1) (n * 10 + (c.toNat - 48)) false
    else if first = true then (0, 11, i) else (n, 0, i)
theorem decF_digF (most : Nat) (e : UInt8) (he : isDig e = false) (l : List UInt8) : ∀ (r : List UInt8) (i n : Nat) (first : Bool), r = l.drop i → decF most e r i n first =
    match digF most r i n first with
    | (m, 0, k) => if l[k]? = some e then (m, 0, k + 1) else (0, 11, k)
    | (_, er + 1, k) => (0, er + 1, k)
  | [], i, n, first, h => by rw [decF_nil, digF]
  | c :: r, i, n, first, h => by
    have hlc : l[i]? = some c := by
      have : l[i]? = (l.drop i)[0]? := by simp
      rw [this, ← h]; rfl
    have hr : r = l.drop (i + 1) := by rw [← List.drop_drop, ← h]; rfl
    rw [decF_cons, digF]
    cases hd : isDig c
    · simp only [Bool.false_eq_true, if_false]
      cases first
      · simp only [Bool.false_eq_true, if_false, and_true, true_or, if_true]
        rw [hlc]
        by_cases hce : c = e
        · subst hce; simp
        · have : ¬ c.toNat = e.toNat := fun h => hce (UInt8.toNat_inj.1 h)
          simp [hce, this]
      · simp
    · have hce : ¬ c.toNat = e.toNat := fun h => by
        have : c = e := UInt8.toNat_inj.1 h
        rw [this, he] at hd; cases hd
      simp only [hce, false_and, if_false, Bool.true_eq_false, false_or, if_true]
      by_cases h1 : n = 0 ∧ first = false
      · simp [h1]
      · by_cases h2 : (most - (c.toNat - 48)) / 10 < n
        · simp [h1, h2]
        · rw [if_neg h1, if_neg h2, if_neg (by simp [h1, h2])]
          exact decF_digF most e he l r (i + 1) _ false hr
theorem parse_digits : ∀ (l : List UInt8) (acc : Nat), AllDig l → valFrom acc l ≤ 9223372036854775808 → Lib.parseUintM (2 ^ 64 - 1) acc l = .ok (valFrom acc l)
  | [], acc, _, _ => by rw [Lib.parseUintM, val_nil]
  | c :: r, acc, h, hv => by
    have hb := isDig_bd (h c List.mem_cons_self)
    rw [val_step] at hv
    have hle := le_valFrom r (acc * 10 + (c.toNat - 48))
    rw [Lib.parseUintM, if_pos hb, if_neg (by omega), if_neg (by omega), val_step]
    exact parse_digits r _ (fun c hc => h c (List.mem_cons_of_mem _ hc)) hv
theorem parse_pos {l : List UInt8} (h : AllDig l) (h0 : l ≠ []) (hv : valFrom 0 l ≤ 9223372036854775807) : Lib.parseIntB 64 l = .ok (valFrom 0 l : Int) := by
  cases l with
  | nil => exact absurd rfl h0
  | cons c r =>
    have hb := isDig_bd (h c List.mem_cons_self)
    have hp := parse_digits (c :: r) 0 h (by omega)
    have e1 : (if c.toNat = 43 ∨ c.toNat = 45 then r else c :: r) = c :: r := if_neg (by omega)
    have e2 : Lib.parseUintB 64 (c :: r) = .ok (valFrom 0 (c :: r)) := by unfold Lib.parseUintB; rw [if_neg (by simp), hp]
    simp only [Lib.parseIntB, e1, e2]
    rw [if_neg (by omega), if_neg (by omega), if_neg (by omega)]
theorem parse_neg {l : List UInt8} (h : AllDig l) (h0 : l ≠ []) (hv : valFrom 0 l ≤ 9223372036854775808) : Lib.parseIntB 64 (45 :: l) = .ok (-(valFrom 0 l : Int)) := by
  have hp := parse_digits l 0 h hv
  have e0 : UInt8.toNat 45 = 45 := rfl
  have e1 : (if UInt8.toNat 45 = 43 ∨ UInt8.toNat 45 = 45 then l else 45 :: l) = l := if_pos (.inr rfl)
  have e2 : Lib.parseUintB 64 l = .ok (valFrom 0 l) := by unfold Lib.parseUintB; rw [if_neg h0, hp]
  simp only [Lib.parseIntB, e1, e2]
  rw [if_neg (fun h => h.1 e0), if_neg (fun h => by have := h.2; omega), if_pos e0]
end Go.Proofs.YtdnedbcmgkilaaaGreatDoor.Co

end

section

namespace Go.Proofs.YtdnedbcmgkilaaaGreatDoor.Co
open Go.RowKit
def PS (pb : Nat) (s : ByteArray) (i m bad : Nat) (w : World) : Prop := w.heap[pb]? = some (.cells #[.string s, .int .i64 i, .int .i64 m, .int .i64 bad] 103 (0, 0))
structure Same (w w' : World) : Prop where
  os : w'.os = w.os
  tape : w'.tape = w.tape
  output : w'.output = w.output
  heap : w'.heap = w.heap
section
variable {pb : Nat} {s : ByteArray} {i m bad : Nat} {w w' : World} {X : Nat → Prop}
theorem Same.fr (h : Same w w') : Fr X w w' := ⟨h.os, h.tape, h.output, by rw [h.heap]; exact Nat.le_refl _, fun k _ _ => by rw [h.heap]⟩
theorem PS.same (h : PS pb s i m bad w) (hs : Same w w') : PS pb s i m bad w' := by unfold PS at *; rw [hs.heap]; exact h
theorem PS.c0 (h : PS pb s i m bad w) : w.cell? ⟨pb, 0, none⟩ = some (.string s) := by unfold PS at h; simp [World.cell?, h]
theorem PS.c1 (h : PS pb s i m bad w) : w.cell? ⟨pb, 1, none⟩ = some (.int .i64 i) := by unfold PS at h; simp [World.cell?, h]
theorem PS.c2 (h : PS pb s i m bad w) : w.cell? ⟨pb, 2, none⟩ = some (.int .i64 m) := by unfold PS at h; simp [World.cell?, h]
theorem PS.c3 (h : PS pb s i m bad w) : w.cell? ⟨pb, 3, none⟩ = some (.int .i64 bad) := by unfold PS at h; simp [World.cell?, h]
theorem PS.fz (h : PS pb s i m bad w) (j : Nat) : w.frozen? ⟨pb, j, none⟩ = false := frozen_of_heap h j
theorem PS.lt (h : PS pb s i m bad w) : pb < w.heap.size := lt_of_heap h
theorem PS.set1 (h : PS pb s i m bad w) (j : Nat) : PS pb s j m bad (w.setCell ⟨pb, 1, none⟩ (.int .i64 j)) := heap_set h 1 _
theorem PS.set2 (h : PS pb s i m bad w) (j : Nat) : PS pb s i j bad (w.setCell ⟨pb, 2, none⟩ (.int .i64 j)) := heap_set h 2 _
theorem PS.set3 (h : PS pb s i m bad w) (j : Nat) : PS pb s i m j (w.setCell ⟨pb, 3, none⟩ (.int .i64 j)) := heap_set h 3 _
theorem PS.alloc (h : PS pb s i m bad w) (o : Obj) : PS pb s i m bad (w.alloc o) := (Below.heap_alloc _ _ _ (lt_of_heap h)).trans h
theorem PS.below (h : PS pb s i m bad w) (hb : Below w.heap.size w w') : PS pb s i m bad w' := (hb.block _ (lt_of_heap h)).trans h
theorem frP (h : Fr (· = pb) w w') (j : Nat) (u : Value) : Fr (· = pb) w (w'.setCell ⟨pb, j, none⟩ u) := h.setCell (p := ⟨pb, j, none⟩) (.inr rfl) u
end
def nowF (s : ByteArray) (i : Nat) : Int := if h : i < s.size then (s[i].toNat : Int) else -1
theorem nowF_lt {s : ByteArray} {i : Nat} (h : i < s.size) : nowF s i = (s[i].toNat : Int) := dif_pos h
theorem nowF_end {s : ByteArray} {i : Nat} (h : ¬ i < s.size) : nowF s i = -1 := dif_neg h
theorem wrap_byte (c : UInt8) : wrap64 (c.toNat : Int) = c.toNat := by have := c.toNat_lt; unfold wrap64; omega
set_option maxHeartbeats 800000 in
theorem now_any (pb : Nat) (s : ByteArray) (i m bad : Nat) (w : World) (_ : s.size ≤ 131072) (hi : i ≤ s.size) (hp : PS pb s i m bad w) :
    Calls Tryz.prog 106 #[.pointer (some ⟨pb, 0, none⟩)] w fun e w' => e = .returned (.int .i64 (nowF s i)) ∧ Same w w' := by
  have hc0 := hp.c0
  have hc1 := hp.c1
  clear hp
  by_cases hlt : i < s.size
  · have HN := Lib.hid (nowF_lt hlt)
    have hB : decide (s.size ≤ i) = false := by simp; omega
    go_enter Tryz.func106, Tryz.ntmps106
    go_wp2
    go_quiet (fail)
    go_wp2
    go_quiet (fail)
    go_wp2
    go_ret
    exact ⟨ret_int (by rw [HN.out, wrap_byte]), rfl, rfl, rfl, rfl⟩
  · have HN := Lib.hid (nowF_end hlt)
    have hB : decide (s.size ≤ i) = true := by simp; omega
    go_enter Tryz.func106, Tryz.ntmps106
    go_wp2
    go_quiet (fail)
    go_wp2
    go_ret
    exact ⟨ret_int (by rw [HN.out]), rfl, rfl, rfl, rfl⟩
def wrongF (s : ByteArray) (i : Nat) : Nat := if i < s.size then 11 else 10
set_option maxHeartbeats 800000 in
theorem wrong_any (pb : Nat) (s : ByteArray) (i m bad : Nat) (w : World) (hs : s.size ≤ 131072) (hi : i ≤ s.size) (hp : PS pb s i m bad w) :
    Calls Tryz.prog 108 #[.pointer (some ⟨pb, 0, none⟩)] w fun e w' => e = .returned (.tuple #[]) ∧ PS pb s i m (wrongF s i) w' ∧ Fr (· = pb) w w' := by
  have hc3 := hp.c3
  have hf := hp.fz 3
  have H1 : Hid (PS pb s i m 11 (w.setCell ⟨pb, 3, none⟩ (.int .i64 11))) := Lib.hid (hp.set3 11)
  have HN := Lib.hid (now_any pb s i m 11 _ hs hi H1.out)
  have HF : Hid (Fr (· = pb) w (w.setCell ⟨pb, 3, none⟩ (.int .i64 11))) := Lib.hid (frP (Fr.refl _ w) 3 _)
  clear hp
  by_cases hlt : i < s.size
  · have HB := Lib.hid (nowF_lt hlt)
    have HW : Hid (wrongF s i = 11) := Lib.hid (if_pos hlt)
    go_enter Tryz.func108, Tryz.ntmps108
    go_wp2_with fail
    refine HN.out.mono ?_
    rintro e w1 ⟨rfl, hsm⟩
    rw [HB.out]
    have HS := Lib.hid hsm
    clear hsm
    go_wp2
    all_goals (first | (exfalso; omega) | skip)
    go_end0
    exact ⟨rfl, by rw [HW.out]; exact H1.out.same HS.out, HF.out.trans HS.out.fr⟩
  · have HB := Lib.hid (nowF_end hlt)
    have HW : Hid (wrongF s i = 10) := Lib.hid (if_neg hlt)
    go_enter Tryz.func108, Tryz.ntmps108
    go_wp2_with fail
    refine HN.out.mono ?_
    rintro e w1 ⟨rfl, hsm⟩
    rw [HB.out]
    have H2 := H1.out.same hsm
    have hc3 := H2.c3
    have hf := H2.fz 3
    have HP := Lib.hid (H2.set3 10)
    have HS := Lib.hid (HF.out.trans hsm.fr)
    clear hsm H2
    go_wp2
    go_end0
    exact ⟨rfl, by rw [HW.out]; exact HP.out, frP HS.out 3 _⟩
theorem digit_any (c : Int) (w : World) : Calls Tryz.prog 107 #[.int .i64 c] w fun e w' => e = .returned (.bool (decide (48 ≤ c) && decide (c ≤ 57))) ∧ w = w' := by
  by_cases h1 : 48 ≤ c <;> by_cases h2 : c ≤ 57
  all_goals
    go_enter Tryz.func107, Tryz.ntmps107
    go_wp2
    all_goals
      go_ret
      refine ⟨ret_bool ?_, rfl⟩
      simp [h1, h2] <;> omega
set_option maxHeartbeats 800000 in
theorem take_bad (pb : Nat) (s : ByteArray) (i m bad : Nat) (c : Int) (w : World) (hb : bad ≠ 0) (hp : PS pb s i m bad w) :
    Calls Tryz.prog 149 #[.pointer (some ⟨pb, 0, none⟩), .int .i64 c] w fun e w' => e = .returned (.tuple #[]) ∧ w = w' := by
  have hc3 := hp.c3
  have hE : ((bad : Int) != 0) = true := by simp; omega
  clear hp hb
  go_enter Tryz.func149, Tryz.ntmps149
  go_wp2
  exact bodyPost_ret (v := .tuple #[]) (by simp [results, Tryz.results149, go_sem]) rfl ⟨rfl, rfl⟩
def TakeR (pb : Nat) (s : ByteArray) (i m : Nat) (c : Int) (w' : World) : Prop := if nowF s i = c then PS pb s (i + 1) m 0 w' else PS pb s i m (wrongF s i) w'
set_option maxHeartbeats 800000 in
theorem take_any (pb : Nat) (s : ByteArray) (i m : Nat) (c : Int) (w : World) (hs : s.size ≤ 131072) (hi : i ≤ s.size) (_ : 0 ≤ c) (hp : PS pb s i m 0 w) :
    Calls Tryz.prog 149 #[.pointer (some ⟨pb, 0, none⟩), .int .i64 c] w fun e w' => e = .returned (.tuple #[]) ∧ Hid (TakeR pb s i m c w') ∧ Fr (· = pb) w w' := by
  have hc3 := hp.c3
  have HN := Lib.hid (now_any pb s i m 0 w hs hi hp)
  have HP := Lib.hid hp
  clear hp
  by_cases hn : nowF s i = c
  · have hB : (nowF s i != c) = false := by simp [hn]
    have HE : Hid (nowF s i = c) := hn
    clear hn
    go_enter Tryz.func149, Tryz.ntmps149
    go_wp2_with fail
    refine HN.out.mono ?_
    rintro e w1 ⟨rfl, hsm⟩
    have H2 := HP.out.same hsm
    have hc1 := H2.c1
    have hf := H2.fz 1
    have HS := Lib.hid hsm
    have HQ : Hid (PS pb s (i + 1) m 0 (w1.setCell ⟨pb, 1, none⟩ (.int .i64 ((i : Int) + 1)))) := Lib.hid (H2.set1 (i + 1))
    clear hsm H2
    go_wp2
    go_end0
    exact ⟨rfl, Lib.hid (by rw [TakeR, if_pos HE.out]; exact HQ.out), frP HS.out.fr 1 _⟩
  · have hB : (nowF s i != c) = true := by simp [hn]
    have HE : Hid (¬ nowF s i = c) := hn
    clear hn
    go_enter Tryz.func149, Tryz.ntmps149
    go_wp2_with fail
    refine HN.out.mono ?_
    rintro e w1 ⟨rfl, hsm⟩
    have HW := Lib.hid (wrong_any pb s i m 0 w1 hs hi (HP.out.same hsm))
    have HS := Lib.hid hsm
    clear hsm
    go_wp2_with fail
    refine HW.out.mono ?_
    rintro e w2 ⟨rfl, hp2, hf2⟩
    have HR := Lib.hid (And.intro hp2 hf2)
    clear hp2 hf2
    go_wp2
    exact bodyPost_ret (v := .tuple #[]) (by simp [results, Tryz.results149, go_sem]) rfl ⟨rfl, Lib.hid (by rw [TakeR, if_neg HE.out]; exact HR.out.1), HS.out.fr.trans HR.out.2⟩
end Go.Proofs.YtdnedbcmgkilaaaGreatDoor.Co

end

section

namespace Go.Proofs.YtdnedbcmgkilaaaGreatDoor.Co
open Go.RowKit
theorem size_list (a : ByteArray) : a.data.toList.length = a.size := by simp
theorem zero_at (a : ByteArray) (h : 0 < a.size) : a.data.toList[0]? = some 48 ↔ a[0].toNat = 48 := some45 a 0 48 h
set_option maxHeartbeats 800000 in
theorem fits_any (a ms : ByteArray) (w : World) (h0 : 0 < a.size) (ha : a.size ≤ 200000) (_ : ms.size ≤ 200000) :
    Calls Tryz.prog 185 #[.string a, .string ms] w fun e w' => e = .returned (.bool (fitsL a.data.toList ms.data.toList)) ∧ w = w' := by
  by_cases h1 : 1 < a.size ∧ a[0].toNat = 48
  · obtain ⟨hl, hz⟩ := h1
    have HX : Hid (fitsL a.data.toList ms.data.toList = false) := Lib.hid (by unfold fitsL; rw [if_pos ⟨by rw [size_list]; exact hl, (zero_at a h0).2 hz⟩])
    have hB : (((a[0].toNat : Nat) : Int) == 48) = true := by simp; omega
    clear hz
    go_enter Tryz.func185, Tryz.ntmps185
    go_wp2
    go_ret
    exact ⟨ret_bool (by rw [HX.out]), rfl⟩
  · have HX : Hid (fitsL a.data.toList ms.data.toList = (decide (a.size < ms.size) || (decide (a.size = ms.size) && (Op.bytesLess a.data.toList ms.data.toList || a.data.toList == ms.data.toList)))) := Lib.hid (by
      unfold fitsL; rw [if_neg (fun h => h1 ⟨by rw [size_list] at h; exact h.1, (zero_at a h0).1 h.2⟩), size_list, size_list])
    have hB : 1 < a.size → (((a[0].toNat : Nat) : Int) == 48) = false := fun h => by
      have : ¬ a[0].toNat = 48 := fun e => h1 ⟨h, e⟩
      simp; omega
    clear h1
    have fin : ∀ x : Bool, x = (decide (a.size < ms.size) || (decide (a.size = ms.size) && (Op.bytesLess a.data.toList ms.data.toList || a.data.toList == ms.data.toList))) → Ending.returned (.bool x) = .returned (.bool (fitsL a.data.toList ms.data.toList)) := fun x hx => ret_bool (by rw [HX.out, hx])
    have HF := Lib.hid fin
    clear fin
    by_cases hl : 1 < a.size
    · have hB' := hB hl
      clear hB
      by_cases hlt : a.size < ms.size
      · go_enter Tryz.func185, Tryz.ntmps185
        go_wp2
        all_goals go_ret
        all_goals exact ⟨HF.out _ (by simp [hlt]), rfl⟩
      · rcases Bool.eq_false_or_eq_true ((a.size : Int) == (ms.size : Int)) with hq | hq
        · go_enter Tryz.func185, Tryz.ntmps185
          go_wp2
          all_goals go_ret
          all_goals exact ⟨HF.out _ (by have : a.size = ms.size := by simp at hq; omega
                                        simp [this, Lib.toList_data]), rfl⟩
        · go_enter Tryz.func185, Tryz.ntmps185
          go_wp2
          all_goals go_ret
          all_goals exact ⟨HF.out _ (by have : ¬ a.size = ms.size := by simp at hq; omega
                                        simp [hlt, this]), rfl⟩
    · clear hB
      by_cases hlt : a.size < ms.size
      · go_enter Tryz.func185, Tryz.ntmps185
        go_wp2
        all_goals go_ret
        all_goals exact ⟨HF.out _ (by simp [hlt]), rfl⟩
      · rcases Bool.eq_false_or_eq_true ((a.size : Int) == (ms.size : Int)) with hq | hq
        · go_enter Tryz.func185, Tryz.ntmps185
          go_wp2
          all_goals go_ret
          all_goals exact ⟨HF.out _ (by have : a.size = ms.size := by simp at hq; omega
                                        simp [this, Lib.toList_data]), rfl⟩
        · go_enter Tryz.func185, Tryz.ntmps185
          go_wp2
          all_goals go_ret
          all_goals exact ⟨HF.out _ (by have : ¬ a.size = ms.size := by simp at hq; omega
                                        simp [hlt, this]), rfl⟩
def DigR (pb : Nat) (s : ByteArray) (m : Nat) (r : Nat × Nat × Nat) (d : ByteArray) (w' : World) : Prop :=
  PS pb s r.2.2 m r.2.1 w' ∧ (r.2.1 = 0 → AllDig d.data.toList ∧ d.data.toList ≠ [] ∧ valFrom 0 d.data.toList = r.1) ∧ r.2.2 ≤ s.size ∧ d.size ≤ s.size
structure DigI (pb : Nat) (s : ByteArray) (i m most : Nat) (w : World) (k : Nat) (d : ByteArray) (wr : World) : Prop where
  ps : PS pb s k m 0 wr
  fr : Fr (· = pb) w wr
  dig : AllDig d.data.toList
  len : d.size = k - i
  lead : 1 < d.size → d.data.toList[0]? ≠ some 48
  eq : digF most (s.data.toList.drop i) i 0 true = digF most (s.data.toList.drop k) k (valFrom 0 d.data.toList) (decide (k = i))
theorem digF_nil (most i n : Nat) (first : Bool) : digF most [] i n first = (0, 10, i) := by rw [digF]
theorem digF_cons (most : Nat) (c : UInt8) (r : List UInt8) (i n : Nat) (first : Bool) : digF most (c :: r) i n first =
    if isDig c = true then
      if (n = 0 ∧ first = false) ∨ (most - (c.toNat - 48)) / 10 < n then (0, 11, i) else digF most r (i + 1) (n * 10 + (c.toNat - 48)) false
    else if first = true then (0, 11, i) else (n, 0, i) := by rw [digF]
theorem zero_lead {d : List UInt8} (hd : AllDig d) (h0 : d ≠ []) (hl : 1 < d.length → d[0]? ≠ some 48) : valFrom 0 d = 0 ↔ d[0]? = some 48 := by
  cases d with
  | nil => exact absurd rfl h0
  | cons c r =>
    have hb := isDig_bd (hd c List.mem_cons_self)
    constructor
    · intro h
      rw [valFrom_cons] at h
      have hp : 0 < 10 ^ r.length := Nat.pow_pos (by omega)
      have : (c.toNat - 48) = 0 := by
        rcases Nat.eq_zero_or_pos (c.toNat - 48) with e | e
        · exact e
        · have := Nat.mul_pos e hp; omega
      have hc : c.toNat = 48 := by omega
      simp [← UInt8.toNat_inj, hc]
    · intro h
      have hr : r = [] := by
        rcases r with _ | ⟨x, r⟩
        · rfl
        · exact absurd h (hl (by simp))
      subst hr
      have : c = 48 := by simpa using h
      subst this
      rfl
theorem push_list (d : ByteArray) (c : UInt8) : (d ++ (⟨#[c]⟩ : ByteArray)).data.toList = d.data.toList ++ [c] := by
  rw [ByteArray.data_append]; simp
theorem push_size (d : ByteArray) (c : UInt8) : (d ++ (⟨#[c]⟩ : ByteArray)).size = d.size + 1 := by
  rw [← size_list, push_list, List.length_append, size_list]; rfl
theorem dig_step {pb : Nat} {s d : ByteArray} {mc : UInt8} {mr : List UInt8} {i m most k : Nat} {w wr : World} (I : DigI pb s i m most w k d wr) (hik : i ≤ k) (hlt : k < s.size) (hd : isDig s[k] = true)
    (hmd : AllDig (mc :: mr)) (hm0 : mc ≠ 48) (hmv : valFrom 0 (mc :: mr) = most) (hm10 : 10 ≤ most) :
    (fitsL (d ++ (⟨#[s[k]]⟩ : ByteArray)).data.toList (mc :: mr) = false → digF most (s.data.toList.drop i) i 0 true = (0, 11, k)) ∧
    (fitsL (d ++ (⟨#[s[k]]⟩ : ByteArray)).data.toList (mc :: mr) = true → ∀ w', PS pb s (k + 1) m 0 w' → Fr (· = pb) w w' → DigI pb s i m most w (k + 1) (d ++ (⟨#[s[k]]⟩ : ByteArray)) w') := by
  have hb := isDig_bd hd
  have heq := I.eq
  rw [drop_of s k hlt, digF_cons, if_pos hd] at heq
  have hall : AllDig (d.data.toList ++ [s[k]]) := by
    intro c hc
    rcases List.mem_append.1 hc with hc | hc
    · exact I.dig c hc
    · rw [List.mem_singleton.1 hc]; exact hd
  have hlen : d.data.toList.length = k - i := by rw [size_list]; exact I.len
  have hfst : decide (k = i) = false ↔ d.data.toList ≠ [] := by
    constructor
    · intro h e; rw [e] at hlen; simp at h hlen; omega
    · intro h
      have : d.data.toList.length ≠ 0 := fun e => h (List.eq_nil_of_length_eq_zero e)
      simp; omega
  rw [push_list]
  by_cases hz : valFrom 0 d.data.toList = 0 ∧ decide (k = i) = false
  · have hne := hfst.1 hz.2
    have h48 := (zero_lead I.dig hne (by rw [size_list]; exact I.lead)).1 hz.1
    have hF : fitsL (d.data.toList ++ [s[k]]) (mc :: mr) = false := by
      unfold fitsL
      rw [if_pos]
      refine ⟨?_, ?_⟩
      · have : d.data.toList.length ≠ 0 := fun e => hne (List.eq_nil_of_length_eq_zero e)
        rw [List.length_append]; show 1 < _ + 1; omega
      · rw [List.getElem?_append_left (Nat.pos_of_ne_zero (fun e => hne (List.eq_nil_of_length_eq_zero e)))]; exact h48
    refine ⟨fun _ => ?_, fun h => ?_⟩
    · rw [heq, if_pos (.inl hz)]
    · rw [hF] at h; cases h
  · have hlead : ¬ (1 < (d.data.toList ++ [s[k]]).length ∧ (d.data.toList ++ [s[k]])[0]? = some 48) := by
      rintro ⟨h1, h2⟩
      rw [List.length_append] at h1
      have h1' : 1 < d.data.toList.length + 1 := h1
      have hne : d.data.toList ≠ [] := fun e => by rw [e] at h1'; simp at h1'
      rw [List.getElem?_append_left (by omega)] at h2
      exact hz ⟨(zero_lead I.dig hne (by rw [size_list]; exact I.lead)).2 h2, hfst.2 hne⟩
    have hfv := fits_val hall (by simp) hmd hm0 hlead
    rw [hfv, hmv, valFrom_snoc]
    have hiff : (most - (s[k].toNat - 48)) / 10 < valFrom 0 d.data.toList ↔ ¬ valFrom 0 d.data.toList * 10 + (s[k].toNat - 48) ≤ most := by omega
    refine ⟨fun h => ?_, fun h w' hp hf => ?_⟩
    · have h' : ¬ valFrom 0 d.data.toList * 10 + (s[k].toNat - 48) ≤ most := by simpa using h
      rw [heq, if_pos (.inr (hiff.2 h'))]
    · have h' : valFrom 0 d.data.toList * 10 + (s[k].toNat - 48) ≤ most := by simpa using h
      refine ⟨hp, hf, by rw [push_list]; exact hall, by rw [push_size, I.len]; omega, ?_, ?_⟩
      · rw [push_list, push_size]
        intro h1 h2
        exact hlead ⟨by rw [List.length_append, size_list]; exact h1, h2⟩
      · rw [heq, if_neg (fun hx => by rcases hx with hx | hx; exact hz hx; exact hiff.1 hx h'), push_list, valFrom_snoc, show decide (k + 1 = i) = false from by simp; omega]
theorem now_dig {s : ByteArray} {k : Nat} (hlt : k < s.size) : (decide (48 ≤ nowF s k) && decide (nowF s k ≤ 57)) = isDig s[k] := by
  rw [nowF_lt hlt]
  unfold isDig
  congr 1 <;> exact decide_eq_decide.2 (by omega)
set_option maxHeartbeats 1600000 in
set_option maxRecDepth 100000 in
theorem digits_any (pb : Nat) (s ms : ByteArray) (mc : UInt8) (mr : List UInt8) (i m most : Nat) (w : World) (hs : s.size ≤ 131072) (hi : i ≤ s.size) (hms : ms.data.toList = mc :: mr) (hmd : AllDig (mc :: mr)) (hm0 : mc ≠ 48) (hmv : valFrom 0 (mc :: mr) = most) (hmz : ms.size ≤ 20) (hm10 : 10 ≤ most) (hp : PS pb s i m 0 w) :
    Calls Tryz.prog 148 #[.pointer (some ⟨pb, 0, none⟩), .string ms] w fun e w' => ∃ d, e = .returned (.string d) ∧ Hid (DigR pb s m (digF most (s.data.toList.drop i) i 0 true) d w') ∧ Hid (Fr (· = pb) w w') := by
  have HM := Lib.hid hms
  have HV := Lib.hid hmv
  have HI : Hid (DigI pb s i m most w i ⟨#[]⟩ w) := Lib.hid ⟨hp, Fr.refl _ w, (fun c hc => absurd hc (by simp)), (by show 0 = i - i; omega), (fun h => absurd h (by show ¬ 1 < 0; omega)), (by simp [val_nil])⟩
  clear hms hmv hp
  go_enter Tryz.func148, Tryz.ntmps148
  go_wp2
  go_loopw [5] (fun x wr => ∃ (k : Nat) (d : ByteArray), i ≤ k ∧ k ≤ s.size ∧ x = .string d ∧ Hid (DigI pb s i m most w k d wr)) (fun x _ => s.size - (match x with | .string d => d.size | _ => 0))
  case atStart => exact ⟨i, ⟨#[]⟩, Nat.le_refl _, hi, rfl, HI⟩
  case round =>
    obtain ⟨k, d, hik, hk, rfl, I⟩ := hrel
    clear HI
    have hdl := I.out.len
    have hds : d.size ≤ 131072 := by omega
    clear hdl
    have HN := Lib.hid (now_any pb s k m 0 wr hs hk I.out.ps)
    by_cases hdg : k < s.size ∧ (decide (48 ≤ nowF s k) && decide (nowF s k ≤ 57)) = true
    · obtain ⟨hlt, hdg⟩ := hdg
      go_wp2_with fail
      refine HN.out.mono ?_
      rintro e w1 ⟨rfl, hsm1⟩
      go_wp2_with fail
      refine (digit_any _ _).mono ?_
      rintro e w1' ⟨rfl, rfl⟩
      rw [hdg]
      have HN2 := Lib.hid (now_any pb s k m 0 w1 hs hk (I.out.ps.same hsm1))
      have HS1 := Lib.hid hsm1
      clear hsm1
      go_wp2_with fail
      refine HN2.out.mono ?_
      rintro e w2 ⟨rfl, hsm2⟩
      rw [nowF_lt hlt]
      have hcb := s[k].toNat_lt
      have hcv : Sem.run Tryz.prog (convert 81 9 (.slice (some ⟨w2.heap.size, 0, none⟩) 1 1)) (w2.alloc (.cells #[.int .u8 s[k].toNat] 5)) = .ok (.string ⟨#[s[k]]⟩) (w2.alloc (.cells #[.int .u8 s[k].toNat] 5)) :=
        run_convert_bytes_back (w2.alloc (.cells #[.int .u8 s[k].toNat] 5)) 81 9 5 ⟨w2.heap.size, 0, none⟩ 1 [s[k]] Tryz.underlying81 Tryz.underlying5 Tryz.underlying9 (fun j hj => by
          match j, hj with
          | 0, hj => simp [Addr.add])
      have hdig : isDig s[k] = true := (now_dig hlt).symm.trans hdg
      have hst := dig_step I.out hik hlt hdig hmd hm0 HV.out hm10
      have hpz := push_size d s[k]
      have hps2 := (I.out.ps.same HS1.out).same hsm2
      have HPS : Hid (PS pb s k m 0 (w2.alloc (.cells #[.int .u8 s[k].toNat] 5))) := Lib.hid (hps2.alloc _)
      have HFR : Hid (Fr (· = pb) w (w2.alloc (.cells #[.int .u8 s[k].toNat] 5))) := Lib.hid (((I.out.fr.trans HS1.out.fr).trans hsm2.fr).alloc _)
      clear hsm2
      go_wp2_with fail
      generalize d ++ (⟨#[s[k]]⟩ : ByteArray) = t at *
      have hfit := Lib.hid (fits_any t ms (w2.alloc (.cells #[.int .u8 s[k].toNat] 5)) (by omega) (by omega) (by omega))
      rw [HM.out] at hfit
      generalize w2.alloc (.cells #[.int .u8 s[k].toNat] 5) = w3 at *
      refine hfit.out.mono ?_
      rintro e w3' ⟨rfl, rfl⟩
      have hc1 := HPS.out.c1
      have hc3 := HPS.out.c3
      have hf1 := HPS.out.fz 1
      have hf3 := HPS.out.fz 3
      cases hb : fitsL t.data.toList (mc :: mr)
      · have HX := Lib.hid (hst.1 hb)
        have HQ : Hid (PS pb s k m 11 (w3.setCell ⟨pb, 3, none⟩ (.int .i64 11))) := Lib.hid (HPS.out.set3 11)
        clear hst hb hcv hdg hdig
        go_wp2
        go_ret
        exact ⟨_, rfl, Lib.hid (by rw [HX.out]; exact ⟨HQ.out, (fun h => by cases h), hk, (by show 0 ≤ s.size; omega)⟩), Lib.hid (frP HFR.out 3 _)⟩
      · have HQ : Hid (DigI pb s i m most w (k + 1) t (w3.setCell ⟨pb, 1, none⟩ (.int .i64 ((k : Int) + 1)))) := Lib.hid (hst.2 hb _ (HPS.out.set1 (k + 1)) (frP HFR.out 1 _))
        clear hst hb hcv hdg hdig
        go_wp2
        go_roundw
        case rel => exact ⟨k + 1, t, by omega, by omega, rfl, HQ⟩
        case measure => have := I.out.len; simp only; omega
    · have hdf : (decide (48 ≤ nowF s k) && decide (nowF s k ≤ 57)) = false := by
        by_cases hlt : k < s.size
        · cases hx : (decide (48 ≤ nowF s k) && decide (nowF s k ≤ 57))
          · rfl
          · exact absurd ⟨hlt, hx⟩ hdg
        · rw [nowF_end hlt]; rfl
      clear hdg
      go_wp2_with fail
      refine HN.out.mono ?_
      rintro e w1 ⟨rfl, hsm1⟩
      go_wp2_with fail
      refine (digit_any _ _).mono ?_
      rintro e w1' ⟨rfl, rfl⟩
      rw [hdf]
      have HPS := Lib.hid (I.out.ps.same hsm1)
      have HFR := Lib.hid (I.out.fr.trans (hsm1.fr (X := (· = pb))))
      have HWR := Lib.hid (wrong_any pb s k m 0 w1 hs hk HPS.out)
      have HN2 := Lib.hid (now_any pb s k m 0 w1 hs hk HPS.out)
      clear hsm1
      by_cases hki : k = i
      · subst hki
        have hd0 : d = ⟨#[]⟩ := by
          have h := I.out.len
          rw [Nat.sub_self, ← size_list] at h
          apply ByteArray.ext
          apply Array.ext'
          exact List.eq_nil_of_length_eq_zero h
        subst hd0
        have HX : Hid (digF most (s.data.toList.drop k) k 0 true = (0, wrongF s k, k)) := Lib.hid (by
          unfold wrongF
          by_cases hlt : k < s.size
          · have hx := (now_dig hlt).symm.trans hdf
            rw [drop_of s k hlt, digF_cons, hx, if_pos hlt]; rfl
          · rw [drop_no s k hlt, digF_nil, if_neg hlt])
        clear hdf
        go_wp2_with fail
        refine HWR.out.mono ?_
        rintro e w2 ⟨rfl, hp2, hf2⟩
        have HP2 := Lib.hid hp2
        have HF2 := Lib.hid (HFR.out.trans hf2)
        clear hp2 hf2
        go_wp2
        go_ret
        exact ⟨_, rfl, Lib.hid (by rw [HX.out]; exact ⟨HP2.out, (fun h => absurd h (by show ¬ wrongF s k = 0; unfold wrongF; split <;> omega)), hk, (by show 0 ≤ s.size; omega)⟩), HF2⟩
      · have hdl : d.size = k - i := I.out.len
        have hd1 : 0 < d.size := by omega
        have HDS : Hid (d.size ≤ s.size) := Lib.hid (by omega)
        have hdN : ¬ d.toList = [] := by rw [Lib.toList_data]; intro e; have := size_list d; rw [e] at this; simp at this; omega
        have hdE : d.toList.isEmpty = false := by cases h : d.toList with | nil => exact absurd h hdN | cons a l => rfl
        clear hdl
        have heq := I.out.eq
        rw [show decide (k = i) = false from by simp; omega] at heq
        by_cases hlt : k < s.size
        · have hx := (now_dig hlt).symm.trans hdf
          rw [drop_of s k hlt, digF_cons, hx] at heq
          have HX : Hid (digF most (s.data.toList.drop i) i 0 true = (valFrom 0 d.data.toList, 0, k)) := Lib.hid (heq.trans rfl)
          have HB := Lib.hid (nowF_lt hlt)
          clear heq hdf hx
          go_wp2_with fail
          refine HN2.out.mono ?_
          rintro e w2 ⟨rfl, hsm2⟩
          rw [HB.out]
          have HS2 := Lib.hid hsm2
          have hnn : decide (((s[k].toNat : Nat) : Int) < 0) = false := by simp
          clear hsm2
          go_wp2
          all_goals (first | (exfalso; omega) | skip)
          go_ret
          exact ⟨_, rfl, Lib.hid (by rw [HX.out]; exact ⟨HPS.out.same HS2.out, (fun _ => ⟨I.out.dig, (fun e => hdN (by rw [Lib.toList_data]; exact e)), rfl⟩), hk, HDS.out⟩), Lib.hid (HFR.out.trans HS2.out.fr)⟩
        · rw [drop_no s k hlt, digF_nil] at heq
          have HX := Lib.hid heq
          have HB := Lib.hid (nowF_end hlt)
          have HW10 : Hid (wrongF s k = 10) := Lib.hid (if_neg hlt)
          clear heq hdf
          go_wp2_with fail
          refine HN2.out.mono ?_
          rintro e w2 ⟨rfl, hsm2⟩
          rw [HB.out]
          have HW2 := Lib.hid (wrong_any pb s k m 0 w2 hs hk (HPS.out.same hsm2))
          have HS2 := Lib.hid (HFR.out.trans (hsm2.fr (X := (· = pb))))
          clear hsm2
          go_wp2_with fail
          refine HW2.out.mono ?_
          rintro e w3 ⟨rfl, hp3, hf3⟩
          have HP3 := Lib.hid hp3
          have HF3 := Lib.hid (HS2.out.trans hf3)
          clear hp3 hf3
          go_wp2
          go_ret
          exact ⟨_, rfl, Lib.hid (by rw [HX.out]; have h3 := HP3.out; rw [HW10.out] at h3; exact ⟨h3, (fun h => by cases h), hk, HDS.out⟩), HF3⟩
end Go.Proofs.YtdnedbcmgkilaaaGreatDoor.Co

end
