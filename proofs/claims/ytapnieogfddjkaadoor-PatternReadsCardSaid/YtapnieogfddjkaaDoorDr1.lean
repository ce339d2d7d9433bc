/- The document's reader in memory: now, wrong, take; letters; a name. -/
import Derived.Test.YtapnieogfddjkaaDoorDq
import Derived.Test.YtapnieogfddjkaaDoorRd9
import Derived.Test.YtapnieogfddjkaaDoorRg0
import Derived.Laws.EntriesVeiled
namespace Go.Proofs.YtapnieogfddjkaaDoor.Dr
open Go.RowKit Go.Proofs.YtapnieogfddjkaaDoor

/-- Block pb is the document's reader. -/
def PAt (w : World) (pb : Nat) (s : BA) (S : St) : Prop := w.heap[pb]? = some (.cells #[.string s, .int .i64 S.1, .int .i64 S.2] 37 (0, 0))
section
variable {w w' : World} {pb : Nat} {s : BA} {S : St}
theorem PAt.row (h : PAt w pb s S) : Row w pb 37 [.string s, .int .i64 S.1, .int .i64 S.2] := h
theorem PAt.lt (h : PAt w pb s S) : pb < w.heap.size := (Array.getElem?_eq_some_iff.1 h).1
theorem PAt.keep (h : PAt w pb s S) (hk : w'.heap[pb]? = w.heap[pb]?) : PAt w' pb s S := hk.trans h
theorem PAt.same (h : PAt w pb s S) (hk : Same w w') : PAt w' pb s S := h.keep (by rw [hk.heap])
theorem PAt.below (h : PAt w pb s S) (hk : Below w.heap.size w w') : PAt w' pb s S := h.keep (hk.block pb h.lt)
theorem PAt.alloc (h : PAt w pb s S) (o : Obj) : PAt (w.alloc o) pb s S := h.keep (Below.heap_alloc _ _ _ h.lt)
theorem PAt.drewN (h : PAt w pb s S) (n : Nat) : PAt (w.drewN n) pb s S := h
theorem PAt.on (h : PAt w pb s S) : PAt (w.setCell ⟨pb, 1, none⟩ (.int .i64 ((S.1 : Int) + 1))) pb s (S.1 + 1, S.2) := h.row.set 1 _
theorem PAt.bad (h : PAt w pb s S) (e : Nat) : PAt (w.setCell ⟨pb, 2, none⟩ (.int .i64 e)) pb s (S.1, e) := h.row.set 2 _
end
theorem wrap_byte (c : UInt8) : wrap64 (c.toNat : Int) = c.toNat := by
  have := c.toNat_lt
  unfold wrap64; omega
/-- The byte that comes next, or -1. -/
def nowI (l : List UInt8) (S : St) : Int := match nowF l S with | some c => c.toNat | none => -1
theorem nowI_some {l : List UInt8} {S : St} {c : UInt8} (h : nowF l S = some c) : nowI l S = c.toNat := by unfold nowI; rw [h]
theorem nowI_none {l : List UInt8} {S : St} (h : nowF l S = none) : nowI l S = -1 := by unfold nowI; rw [h]
theorem nowI_eq {l : List UInt8} {S : St} (c : UInt8) : (nowI l S == (c.toNat : Int)) = decide (nowF l S = some c) := by
  cases h : nowF l S with
  | none => rw [nowI_none h, decide_eq_false (by simp), beq_eq_false_iff_ne]; omega
  | some d =>
    rw [nowI_some h]
    by_cases e : d = c
    · subst e; simp
    · rw [decide_eq_false (by simpa using e), beq_eq_false_iff_ne]
      intro q; exact e (by rw [← UInt8.toNat_inj]; omega)

set_option maxHeartbeats 1600000 in
set_option maxRecDepth 100000 in
theorem now_any (pb : Nat) (s : BA) (S : St) (w : World) (_ : s.size ≤ 2000) (hR : PAt w pb s S) :
    Calls Tryd.prog 25 #[.pointer (some ⟨pb, 0, none⟩)] w fun e w' => e = .returned (.int .i64 (nowI s.data.toList S)) ∧ ∃ n, w' = w.drewN n := by
  obtain ⟨a, st⟩ := S
  have c0 := hR.row.cell (i := 0) rfl
  have c1 := hR.row.cell (i := 1) rfl
  have c2 := hR.row.cell (i := 2) rfl
  simp only at c1 c2
  clear hR
  by_cases h0 : st = 0
  · subst h0
    simp only [Int.natCast_zero] at c2
    by_cases hlt : a < s.size
    · have HE : Hid (nowI s.data.toList (a, 0) = s[a].toNat) := Lib.hid (nowI_some (now_of rfl (get_of s a hlt)))
      have hwr := wrap_byte s[a]
      rw [HE.out]
      go_enter Tryd.func25, Tryd.ntmps25
      go_wp2
      go_quiet (fail)
      go_wp2
      go_quiet (fail)
      go_wp2
      go_ret
      exact ⟨ret_int hwr, _, World.drewN_drewN _ _ _⟩
    · have HE : Hid (nowI s.data.toList (a, 0) = -1) := Lib.hid (nowI_none (by unfold nowF; simp only [if_true]; exact get_no s a hlt))
      rw [HE.out]
      go_enter Tryd.func25, Tryd.ntmps25
      go_wp2
      go_quiet (fail)
      go_wp2
      go_ret
      exact ⟨rfl, _, rfl⟩
  · have HE : Hid (nowI s.data.toList (a, st) = -1) := Lib.hid (nowI_none (now_stuck h0))
    have hB : ((st : Int) != 0) = true := by simp; omega
    rw [HE.out]
    clear h0
    go_enter Tryd.func25, Tryd.ntmps25
    go_wp2
    go_quiet (fail)
    go_wp2
    go_ret
    exact ⟨rfl, _, rfl⟩

set_option maxHeartbeats 1600000 in
set_option maxRecDepth 100000 in
theorem wrong_any (pb : Nat) (s : BA) (S : St) (w : World) (_ : s.size ≤ 2000) (hS : Wf s.data.toList S) (hR : PAt w pb s S) :
    Calls Tryd.prog 26 #[.pointer (some ⟨pb, 0, none⟩)] w fun e w' => e = .returned (.tuple #[]) ∧ PAt w' pb s (failF s.data.toList S) ∧ Fr (· = pb) w w' := by
  obtain ⟨a, st⟩ := S
  have c0 := hR.row.cell (i := 0) rfl
  have c1 := hR.row.cell (i := 1) rfl
  have c2 := hR.row.cell (i := 2) rfl
  have z2 := hR.row.thaw 2
  simp only at c1 c2
  have HR := Lib.hid hR
  have hle := wf_le hS
  have hlen := len_list s
  simp only at hle
  clear hR hS
  by_cases h0 : st = 0
  · subst h0
    simp only [Int.natCast_zero] at c2
    have HR8 : Hid (PAt (w.setCell ⟨pb, 2, none⟩ (.int .i64 90)) pb s (a, 90)) := Lib.hid (HR.out.bad 90)
    have HF8 : Hid (Fr (· = pb) w (w.setCell ⟨pb, 2, none⟩ (.int .i64 90))) := Lib.hid (fr_set 2 _)
    have d0 := HR8.out.row.cell (i := 0) rfl
    have d1 := HR8.out.row.cell (i := 1) rfl
    simp only at d1
    by_cases hge : s.size ≤ a
    · have HB : Hid (failF s.data.toList (a, 0) = (a, 10)) := Lib.hid (by unfold failF; rw [if_pos rfl, if_pos (by omega)])
      clear hle hlen
      go_enter Tryd.func26, Tryd.ntmps26
      go_wp2
      go_quiet (fail)
      generalize hw0 : (w.setCell ⟨pb, 2, none⟩ (.int .i64 90)).drewN nq = w5
      have hw5 : Same (w.setCell ⟨pb, 2, none⟩ (.int .i64 90)) w5 := by rw [← hw0]; exact (Same.refl _).drewN _
      have HR5 := Lib.hid (hw5.row HR8.out)
      have HF5 := Lib.hid (HF8.out.trans (Fr.of_same hw5))
      clear hw5 hw0 c0 c1 c2 z2 d0 d1
      have c2 := HR5.out.cell (i := 2) rfl
      have z2 := HR5.out.thaw 2
      go_wp2
      go_end0
      exact ⟨rfl, by rw [HB.out]; exact HR5.out.set 2 (.int .i64 10), HF5.out.trans (fr_set 2 _)⟩
    · have HB : Hid (failF s.data.toList (a, 0) = (a, 90)) := Lib.hid (by unfold failF; rw [if_pos rfl, if_neg (by omega)])
      clear hle hlen
      go_enter Tryd.func26, Tryd.ntmps26
      go_wp2
      go_quiet (fail)
      go_wp2
      go_end0
      exact ⟨rfl, by rw [HB.out]; exact HR8.out, HF8.out.trans (Fr.of_same ((Same.refl _).drewN _))⟩
  · have HB : Hid (failF s.data.toList (a, st) = (a, st)) := Lib.hid (fail_stuck h0)
    have hB : ((st : Int) == 0) = false := by rw [beq_eq_false_iff_ne]; omega
    clear h0 hle hlen
    go_enter Tryd.func26, Tryd.ntmps26
    go_wp2
    go_end0
    exact ⟨rfl, by rw [HB.out]; exact HR.out, Fr.refl _ _⟩

set_option maxHeartbeats 1600000 in
set_option maxRecDepth 100000 in
theorem take_any (pb : Nat) (s t : BA) (S : St) (w : World) (hs : s.size ≤ 2000) (ht : t.size ≤ 100) (hS : Wf s.data.toList S) (hR : PAt w pb s S) :
    Calls Tryd.prog 28 #[.pointer (some ⟨pb, 0, none⟩), .string t] w fun e w' => e = .returned (.tuple #[]) ∧ PAt w' pb s (wordF s.data.toList t.data.toList S) ∧ Fr (· = pb) w w' := by
  have HR := Lib.hid hR
  have HS0 := Lib.hid hS
  clear hR hS
  go_enter Tryd.func28, Tryd.ntmps28
  go_wp2
  go_loopw [4] (fun i wr => ∃ (k : Nat) (T : St), k ≤ t.size ∧ i = .int .i64 k ∧ Hid (PAt wr pb s T) ∧ Hid (Wf s.data.toList T) ∧ Hid (Fr (· = pb) w wr) ∧ Hid (wordF s.data.toList t.data.toList S = wordF s.data.toList (t.data.toList.drop k) T)) (fun i _ => t.size - (intOf i).toNat)
  case atStart => exact ⟨0, S, by omega, rfl, HR, HS0, Lib.hid (Fr.refl _ _), Lib.hid (by rw [List.drop_zero])⟩
  case round =>
    obtain ⟨k, T, hk, rfl, HRT, HST, HF, HW⟩ := hrel
    clear HR HS0
    by_cases hlt : k < t.size
    · have hc := get_of t k hlt
      have HD := Lib.hid (HW.out.trans (by rw [drop_one hc]))
      have hlt2 : k < t.data.size := hlt
      by_cases hb : nowF s.data.toList T = some t[k]
      · have HW2 := Lib.hid (HD.out.trans (word_go hb))
        obtain ⟨hst, hget⟩ := now_live hb
        have HS2 := Lib.hid (wf_next hb)
        have hB : (nowI s.data.toList T != (t[k].toNat : Int)) = false := by rw [nowI_some hb]; simp
        have HN := Lib.hid (fun n => now_any pb s T (wr.drewN n) hs (HRT.out.drewN n))
        have HS : Hid (T.1 < s.size) := Lib.hid (by have := get_lt hget; simpa using this)
        obtain ⟨a, st⟩ := T
        simp only at hst hget
        subst hst
        have hB2 := hB
        rw [← wrap_byte t[k]] at hB2
        generalize nowI s.data.toList (a, 0) = v at *
        clear hb hc HW HD hget
        go_wp2
        go_quiet ((go_at_call 25; exact Calls.quiet_of (HN.out _)))
        generalize hw0 : wr.drewN nq = w2
        have hw2 : Same wr w2 := by rw [← hw0]; exact (Same.refl _).drewN _
        have HR2 := Lib.hid (HRT.out.same hw2)
        have HF2 := Lib.hid (HF.out.trans (Fr.of_same hw2))
        clear hw2 hw0 HN
        have c1 := HR2.out.row.cell (i := 1) rfl
        have z1 := HR2.out.row.thaw 1
        simp only at c1
        have HQ : Hid (PAt (w2.setCell ⟨pb, 1, none⟩ (.int .i64 ((a : Int) + 1))) pb s (a + 1, 0)) := Lib.hid (PAt.on (S := (a, 0)) HR2.out)
        have HF3 : Hid (Fr (· = pb) w (w2.setCell ⟨pb, 1, none⟩ (.int .i64 ((a : Int) + 1)))) := Lib.hid (HF2.out.trans (fr_set 1 _))
        have hs2 := HS.out
        go_wp2
        go_roundw
        case rel => exact ⟨k + 1, (a + 1, 0), by omega, by go_num, HQ, HS2, HF3, HW2⟩
        case measure => simp [intOf]; omega
      · have HW2 := Lib.hid (HD.out.trans (word_fail hb))
        have hB : (nowI s.data.toList T != (t[k].toNat : Int)) = true := by
          have := nowI_eq (l := s.data.toList) (S := T) t[k]
          rw [decide_eq_false hb] at this
          rw [bne, this]; rfl
        have HN := Lib.hid (fun n => now_any pb s T (wr.drewN n) hs (HRT.out.drewN n))
        have hB2 := hB
        rw [← wrap_byte t[k]] at hB2
        generalize nowI s.data.toList T = v at *
        clear hb hc HW HD
        go_wp2
        go_quiet ((go_at_call 25; exact Calls.quiet_of (HN.out _)))
        generalize hw0 : wr.drewN nq = w2
        have hw2 : Same wr w2 := by rw [← hw0]; exact (Same.refl _).drewN _
        have HF2 := Lib.hid (HF.out.trans (Fr.of_same hw2))
        have HWR := Lib.hid (wrong_any pb s T w2 hs HST.out (HRT.out.same hw2))
        clear hw2 hw0 HN
        go_wp2_with fail
        refine HWR.out.mono ?_
        rintro e w3 ⟨rfl, hr3, hf3⟩
        have HR3 := Lib.hid hr3
        have HF3 := Lib.hid (HF2.out.trans hf3)
        clear hr3 hf3 HWR
        go_wp2
        exact bodyPost_ret (v := .tuple #[]) (by simp [results, Tryd.results28, go_sem]) rfl ⟨rfl, by rw [HW2.out]; exact HR3.out, HF3.out⟩
    · have hge : ¬ k < t.size := hlt
      have HD := Lib.hid (HW.out.trans (by rw [List.drop_eq_nil_of_le (by rw [len_list]; omega), wordF]))
      clear HW
      go_wp2
      go_end0
      exact ⟨rfl, by rw [HD.out]; exact HRT.out, HF.out⟩

def ltI (n : Int) : Bool := decide (97 ≤ n) && decide (n ≤ 122)
def wrdI (n : Int) : Bool := ltI n || (decide (48 ≤ n) && decide (n ≤ 57)) || (n == 95)
theorem ltI_byte (c : UInt8) : ltI c.toNat = isLet c := by
  unfold ltI isLet
  congr 1
  · exact decide_eq_decide.2 (by omega)
  · exact decide_eq_decide.2 (by omega)
theorem wrdI_byte (c : UInt8) : wrdI c.toNat = isWrd c := by
  unfold wrdI isWrd isDig
  rw [ltI_byte]
  congr 1
  · congr 1
    congr 1
    · exact decide_eq_decide.2 (by omega)
    · exact decide_eq_decide.2 (by omega)
  · by_cases h : c = 95
    · subst h; rfl
    · rw [beq_eq_false_iff_ne.2 h, beq_eq_false_iff_ne]
      intro e; exact h (by rw [← UInt8.toNat_inj]; exact Int.ofNat.inj e)
theorem ltI_now (l : List UInt8) (S : St) : ltI (nowI l S) = isNow l isLet S := by
  unfold isNow
  cases h : nowF l S with
  | none => rw [nowI_none h]; rfl
  | some c => rw [nowI_some h]; exact ltI_byte c
theorem wrdI_now (l : List UInt8) (S : St) : wrdI (nowI l S) = isNow l isWrd S := by
  unfold isNow
  cases h : nowF l S with
  | none => rw [nowI_none h]; rfl
  | some c => rw [nowI_some h]; exact wrdI_byte c

set_option maxHeartbeats 1600000 in
theorem letter_any (n : Int) (w : World) : Calls Tryd.prog 56 #[.int .i64 n] w fun e w' => e = .returned (.bool (ltI n)) ∧ w' = w := by
  by_cases h1 : 97 ≤ n
  · by_cases h2 : n ≤ 122
    all_goals
      have HE : Hid (ltI n = decide (n ≤ 122)) := Lib.hid (by unfold ltI; rw [decide_eq_true h1]; rfl)
      go_enter Tryd.func56, Tryd.ntmps56
      go_wp2
      go_ret
      exact ⟨ret_bool (by rw [HE.out]; simp [h2]), rfl⟩
  · have HE : Hid (ltI n = false) := Lib.hid (by unfold ltI; rw [decide_eq_false h1]; rfl)
    have h1' : decide (97 ≤ n) = false := decide_eq_false h1
    go_enter Tryd.func56, Tryd.ntmps56
    go_wp2
    go_ret
    exact ⟨ret_bool HE.out.symm, rfl⟩
set_option maxHeartbeats 1600000 in
theorem wordly_any (n : Int) (w : World) : Calls Tryd.prog 57 #[.int .i64 n] w fun e w' => e = .returned (.bool (wrdI n)) ∧ w' = w := by
  have HL := Lib.hid (letter_any n w)
  cases hl : ltI n with
  | true =>
    rw [hl] at HL
    have HE : Hid (wrdI n = true) := Lib.hid (by unfold wrdI; rw [hl]; rfl)
    clear hl
    go_enter Tryd.func57, Tryd.ntmps57
    go_wp2_with fail
    refine HL.out.mono ?_
    rintro e w2 ⟨rfl, rfl⟩
    go_wp2
    go_ret
    exact ⟨ret_bool HE.out.symm, rfl⟩
  | false =>
    rw [hl] at HL
    have HE : Hid (wrdI n = ((decide (48 ≤ n) && decide (n ≤ 57)) || (n == 95))) := Lib.hid (by unfold wrdI; rw [hl]; simp)
    clear hl
    by_cases h1 : 48 ≤ n
    · by_cases h2 : n ≤ 57
      · have HF : Hid (wrdI n = true) := Lib.hid (by rw [HE.out, decide_eq_true h1, decide_eq_true h2]; rfl)
        have b1 : decide (48 ≤ n) = true := decide_eq_true h1
        have b2 : decide (n ≤ 57) = true := decide_eq_true h2
        clear HE
        go_enter Tryd.func57, Tryd.ntmps57
        go_wp2_with fail
        refine HL.out.mono ?_
        rintro e w2 ⟨rfl, rfl⟩
        go_wp2
        go_ret
        exact ⟨ret_bool HF.out.symm, rfl⟩
      · have HF : Hid (wrdI n = (n == 95)) := Lib.hid (by rw [HE.out, decide_eq_false h2]; simp)
        have b2 : decide (n ≤ 57) = false := decide_eq_false h2
        clear HE
        go_enter Tryd.func57, Tryd.ntmps57
        go_wp2_with fail
        refine HL.out.mono ?_
        rintro e w2 ⟨rfl, rfl⟩
        go_wp2
        go_ret
        exact ⟨ret_bool HF.out.symm, rfl⟩
    · have HF : Hid (wrdI n = (n == 95)) := Lib.hid (by rw [HE.out, decide_eq_false h1]; simp)
      have b1 : decide (48 ≤ n) = false := decide_eq_false h1
      clear HE
      go_enter Tryd.func57, Tryd.ntmps57
      go_wp2_with fail
      refine HL.out.mono ?_
      rintro e w2 ⟨rfl, rfl⟩
      go_wp2
      go_ret
      exact ⟨ret_bool HF.out.symm, rfl⟩
end Go.Proofs.YtapnieogfddjkaaDoor.Dr
