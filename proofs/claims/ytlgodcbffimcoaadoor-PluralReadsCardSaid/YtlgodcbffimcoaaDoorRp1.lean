/- The document's reader in memory: now, wrong, take. -/
import Derived.Test.YtlgodcbffimcoaaDoorSn
import Derived.Test.YtlgodcbffimcoaaDoorRd3
namespace Go.Proofs.YtlgodcbffimcoaaDoor
open Go.RowKit

/-- The error that is noted. -/
def badN (s : BA) (S : St) : Int := if S.2 then (if s.size ≤ S.1 then 10 else 80) else 0
/-- Block pb is the document's reader. -/
def PAt (w : World) (pb : Nat) (s : BA) (S : St) (b : Bool) : Prop := w.heap[pb]? = some (.cells #[.string s, .int .i64 S.1, .int .i64 (badN s S), .bool b] 46 (0, 0))
section
variable {w w' : World} {pb : Nat} {s : BA} {S : St} {b : Bool}
theorem PAt.row (h : PAt w pb s S b) : Row w pb 46 [.string s, .int .i64 S.1, .int .i64 (badN s S), .bool b] := h
theorem PAt.lt (h : PAt w pb s S b) : pb < w.heap.size := (Array.getElem?_eq_some_iff.1 h).1
theorem PAt.keep (h : PAt w pb s S b) (hk : w'.heap[pb]? = w.heap[pb]?) : PAt w' pb s S b := hk.trans h
theorem PAt.same (h : PAt w pb s S b) (hk : Same w w') : PAt w' pb s S b := h.keep (by rw [hk.heap])
theorem PAt.below (h : PAt w pb s S b) (hk : Below w.heap.size w w') : PAt w' pb s S b := h.keep (hk.block pb h.lt)
theorem PAt.drewN (h : PAt w pb s S b) (n : Nat) : PAt (w.drewN n) pb s S b := h
theorem PAt.on (h : PAt w pb s (S.1, false) b) : PAt (w.setCell ⟨pb, 1, none⟩ (.int .i64 ((S.1 : Int) + 1))) pb s (S.1 + 1, false) b := h.row.set 1 _
end
theorem wrap_byte (c : UInt8) : wrap64 (c.toNat : Int) = c.toNat := by
  have := c.toNat_lt
  unfold wrap64; omega
theorem bad_live (s : BA) (a : Nat) : badN s (a, false) = 0 := rfl
theorem bad_end {s : BA} {a : Nat} (h : s.size ≤ a) : badN s (a, true) = 10 := by unfold badN; simp [h]
theorem bad_mid {s : BA} {a : Nat} (h : ¬ s.size ≤ a) : badN s (a, true) = 80 := by unfold badN; simp [h]
theorem bad_stuck (s : BA) (a : Nat) : (badN s (a, true) != 0) = true := by
  by_cases h : s.size ≤ a
  · rw [bad_end h]; rfl
  · rw [bad_mid h]; rfl
/-- The byte that comes next, or -1. -/
def nowI (l : List UInt8) (S : St) : Int := match nowF l S with | some c => c.toNat | none => -1
theorem nowI_some {l : List UInt8} {S : St} {c : UInt8} (h : nowF l S = some c) : nowI l S = c.toNat := by unfold nowI; rw [h]
theorem nowI_none {l : List UInt8} {S : St} (h : nowF l S = none) : nowI l S = -1 := by unfold nowI; rw [h]

set_option maxHeartbeats 1600000 in
set_option maxRecDepth 100000 in
theorem now_any (pb : Nat) (s : BA) (S : St) (b : Bool) (w : World) (_hs : s.size ≤ 400) (hR : PAt w pb s S b) :
    Calls Tryd.prog 25 #[.pointer (some ⟨pb, 0, none⟩)] w fun e w' => e = .returned (.int .i64 (nowI s.data.toList S)) ∧ ∃ n, w' = w.drewN n := by
  obtain ⟨a, st⟩ := S
  have c0 := hR.row.cell (i := 0) rfl
  have c1 := hR.row.cell (i := 1) rfl
  have c2 := hR.row.cell (i := 2) rfl
  simp only at c1
  clear hR
  cases st with
  | true =>
    have hB := bad_stuck s a
    have HE : Hid (nowI s.data.toList (a, true) = -1) := Lib.hid rfl
    generalize badN s (a, true) = bn at *
    rw [HE.out]
    go_enter Tryd.func25, Tryd.ntmps25
    go_wp2
    go_quiet (fail)
    go_wp2
    go_ret
    exact ⟨rfl, _, rfl⟩
  | false =>
    rw [bad_live] at c2
    by_cases hlt : a < s.size
    · have HE : Hid (nowI s.data.toList (a, false) = s[a].toNat) := Lib.hid (nowI_some (by unfold nowF; simp only [Bool.false_eq_true, if_false]; exact get_of s a hlt))
      have hwr := wrap_byte s[a]
      rw [HE.out]
      go_enter Tryd.func25, Tryd.ntmps25
      go_wp2
      go_quiet (fail)
      go_wp2
      go_quiet (fail)
      go_wp2
      go_ret
      exact ⟨ret_int hwr, _, World.drewN_drewN _ _ _⟩
    · have HE : Hid (nowI s.data.toList (a, false) = -1) := Lib.hid (nowI_none (by unfold nowF; simp only [Bool.false_eq_true, if_false]; exact get_no s a hlt))
      rw [HE.out]
      go_enter Tryd.func25, Tryd.ntmps25
      go_wp2
      go_quiet (fail)
      go_wp2
      go_ret
      exact ⟨rfl, _, rfl⟩

set_option maxHeartbeats 1600000 in
set_option maxRecDepth 100000 in
theorem wrong_any (pb : Nat) (s : BA) (S : St) (b : Bool) (w : World) (_hs : s.size ≤ 400) (hR : PAt w pb s S b) :
    Calls Tryd.prog 38 #[.pointer (some ⟨pb, 0, none⟩)] w fun e w' => e = .returned (.tuple #[]) ∧ PAt w' pb s (S.1, true) b ∧ Fr (· = pb) w w' := by
  obtain ⟨a, st⟩ := S
  have c0 := hR.row.cell (i := 0) rfl
  have c1 := hR.row.cell (i := 1) rfl
  have c2 := hR.row.cell (i := 2) rfl
  have z2 := hR.row.thaw 2
  simp only at c1
  have HR := Lib.hid hR
  clear hR
  cases st with
  | true =>
    have hB := bad_stuck s a
    generalize hbn : badN s (a, true) = bn at hB c2
    clear hbn
    go_enter Tryd.func38, Tryd.ntmps38
    go_wp2
    exact bodyPost_ret (v := .tuple #[]) (by simp [results, Tryd.results38, go_sem]) rfl ⟨rfl, HR.out, Fr.refl _ _⟩
  | false =>
    rw [bad_live] at c2
    have HR8 := Lib.hid (HR.out.row.set 2 (.int .i64 80))
    have HF8 : Hid (Fr (· = pb) w (w.setCell ⟨pb, 2, none⟩ (.int .i64 80))) := Lib.hid (fr_set 2 _)
    have d0 := HR8.out.cell (i := 0) rfl
    have d1 := HR8.out.cell (i := 1) rfl
    simp only at d1
    by_cases hge : s.size ≤ a
    · have HB := Lib.hid (bad_end hge)
      go_enter Tryd.func38, Tryd.ntmps38
      go_wp2
      go_quiet (fail)
      generalize hw0 : (w.setCell ⟨pb, 2, none⟩ (.int .i64 80)).drewN nq = w5
      have hw5 : Same (w.setCell ⟨pb, 2, none⟩ (.int .i64 80)) w5 := by rw [← hw0]; exact (Same.refl _).drewN _
      have HR5 := Lib.hid (hw5.row HR8.out)
      have HF5 := Lib.hid (HF8.out.trans (Fr.of_same hw5))
      clear hw5 hw0 c0 c1 c2 z2 d0 d1
      have c2 := HR5.out.cell (i := 2) rfl
      have z2 := HR5.out.thaw 2
      go_wp2
      go_end0
      exact ⟨rfl, by unfold PAt; rw [HB.out]; exact HR5.out.set 2 (.int .i64 10), HF5.out.trans (fr_set 2 _)⟩
    · have HB := Lib.hid (bad_mid hge)
      go_enter Tryd.func38, Tryd.ntmps38
      go_wp2
      go_quiet (fail)
      go_wp2
      go_end0
      exact ⟨rfl, by unfold PAt; rw [HB.out]; exact HR8.out, HF8.out.trans (Fr.of_same ((Same.refl _).drewN _))⟩

set_option maxHeartbeats 1600000 in
set_option maxRecDepth 100000 in
theorem take_any (pb : Nat) (s t : BA) (S : St) (b : Bool) (w : World) (hs : s.size ≤ 400) (ht : t.size ≤ 100) (hR : PAt w pb s S b) :
    Calls Tryd.prog 24 #[.pointer (some ⟨pb, 0, none⟩), .string t] w fun e w' => e = .returned (.tuple #[]) ∧ PAt w' pb s (wordF s.data.toList t.data.toList S) b ∧ Fr (· = pb) w w' := by
  have HR := Lib.hid hR
  clear hR
  go_enter Tryd.func24, Tryd.ntmps24
  go_wp2
  go_loopw [4] (fun i wr => ∃ (k : Nat) (T : St), k ≤ t.size ∧ i = .int .i64 k ∧ Hid (PAt wr pb s T b) ∧ Hid (Fr (· = pb) w wr) ∧ Hid (wordF s.data.toList t.data.toList S = wordF s.data.toList (t.data.toList.drop k) T)) (fun i _ => t.size - (intOf i).toNat)
  case atStart => exact ⟨0, S, by omega, rfl, HR, Lib.hid (Fr.refl _ _), Lib.hid (by rw [List.drop_zero])⟩
  case round =>
    obtain ⟨k, T, hk, rfl, HRT, HF, HW⟩ := hrel
    clear HR
    by_cases hlt : k < t.size
    · have hc := get_of t k hlt
      have HD := Lib.hid (HW.out.trans (by rw [drop_at hc]))
      have hlt2 : k < t.data.size := hlt
      cases hb : nextF s.data.toList [t[k]] T with
      | true =>
        have HW2 := Lib.hid (HD.out.trans (word_yes hb))
        obtain ⟨hst, hget⟩ := next_iff.1 hb
        have hB : (nowI s.data.toList T != (t[k].toNat : Int)) = false := by rw [nowI_some (now_iff.2 hb)]; simp
        have HN := Lib.hid (fun n => now_any pb s T b (wr.drewN n) hs (HRT.out.drewN n))
        have HS : Hid (T.1 < s.size) := Lib.hid (by have := get_lt hget; simpa using this)
        obtain ⟨a, st⟩ := T
        simp only at hst hget
        subst hst
        have hB2 := hB
        rw [← wrap_byte t[k]] at hB2
        generalize nowI s.data.toList (a, false) = v at *
        skip
        clear hb hc HW HD hget
        go_wp2
        go_quiet ((go_at_call 25; exact Calls.quiet_of (HN.out _)))
        generalize hw0 : wr.drewN nq = w2
        have hw2 : Same wr w2 := by rw [← hw0]; exact (Same.refl _).drewN _
        have HR2 := Lib.hid (HRT.out.same hw2)
        have HF2 := Lib.hid (HF.out.trans (Fr.of_same hw2))
        clear hw2 hw0 HN
        have c1 := HR2.out.row.cell (i := 1) rfl
        have z1 := HR2.out.row.thaw 1
        simp only at c1
        have HQ : Hid (PAt (w2.setCell ⟨pb, 1, none⟩ (.int .i64 ((a : Int) + 1))) pb s (a + 1, false) b) := Lib.hid (PAt.on (S := (a, false)) HR2.out)
        have HF3 : Hid (Fr (· = pb) w (w2.setCell ⟨pb, 1, none⟩ (.int .i64 ((a : Int) + 1)))) := Lib.hid (HF2.out.trans (fr_set 1 _))
        have hs2 := HS.out
        go_wp2
        go_roundw
        case rel => exact ⟨k + 1, (a + 1, false), by omega, by go_num, HQ, HF3, HW2⟩
        case measure => simp [intOf]; omega
      | false =>
        have HW2 := Lib.hid (HD.out.trans (word_no hb))
        have hB : (nowI s.data.toList T != (t[k].toNat : Int)) = true := by
          cases hn : nowF s.data.toList T with
          | none => rw [nowI_none hn]; first | (simp; done) | (simp; omega)
          | some d =>
            rw [nowI_some hn]
            have : d ≠ t[k] := fun e => by rw [e] at hn; rw [now_iff.1 hn] at hb; cases hb
            simp; intro e; exact this (by rw [← UInt8.toNat_inj]; omega)
        have HN := Lib.hid (fun n => now_any pb s T b (wr.drewN n) hs (HRT.out.drewN n))
        have hB2 := hB
        rw [← wrap_byte t[k]] at hB2
        generalize nowI s.data.toList T = v at *
        skip
        clear hb hc HW HD
        go_wp2
        go_quiet ((go_at_call 25; exact Calls.quiet_of (HN.out _)))
        generalize hw0 : wr.drewN nq = w2
        have hw2 : Same wr w2 := by rw [← hw0]; exact (Same.refl _).drewN _
        have HF2 := Lib.hid (HF.out.trans (Fr.of_same hw2))
        have HWR := Lib.hid (wrong_any pb s T b w2 hs (HRT.out.same hw2))
        clear hw2 hw0 HN
        go_wp2_with fail
        refine HWR.out.mono ?_
        rintro e w3 ⟨rfl, hp3, hf3⟩
        have HP3 := Lib.hid hp3
        have HF3 := Lib.hid (HF2.out.trans hf3)
        clear hp3 hf3
        go_wp2
        exact bodyPost_ret (v := .tuple #[]) (by simp [results, Tryd.results24, go_sem]) rfl ⟨rfl, by rw [HW2.out]; exact HP3.out, HF3.out⟩
    · have HD : Hid (t.data.toList.drop k = []) := Lib.hid (by rw [List.drop_eq_nil_iff]; simp; omega)
      go_wp2
      go_end0
      exact ⟨rfl, by rw [HW.out, HD.out]; exact HRT.out, HF.out⟩
end Go.Proofs.YtlgodcbffimcoaaDoor
