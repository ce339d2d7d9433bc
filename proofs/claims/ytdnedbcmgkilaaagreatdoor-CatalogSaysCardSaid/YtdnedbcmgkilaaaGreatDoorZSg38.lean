/- The document's reader in memory: now, wrong, take; letters; a name. -/
import Derived.Laws.EntriesVeiled
import Derived.Test.YtdnedbcmgkilaaaGreatDoorZSg35
import Derived.Test.YtdnedbcmgkilaaaGreatDoorZSg28

section

namespace Go.Proofs.YtdnedbcmgkilaaaGreatDoor.Dr
set_option maxHeartbeats 1600000
set_option maxRecDepth 100000
open Go.Lib (hid)
open Go.RowKit Go.Proofs.YtdnedbcmgkilaaaGreatDoor
def PAt (w : World) (pb : Nat) (s : BA) (S : St) : Prop := w.heap[pb]? = some (.cells #[.string s, .int .i64 S.1, .int .i64 S.2] 120 (0, 0))
section
variable {w w' : World} {pb : Nat} {s : BA} {S : St}
theorem PAt.row (h : PAt w pb s S) : Row w pb 120 [.string s, .int .i64 S.1, .int .i64 S.2] := h
theorem PAt.lt (h : PAt w pb s S) : pb < w.heap.size := (Array.getElem?_eq_some_iff.1 h).1
theorem PAt.keep (h : PAt w pb s S) (hk : w'.heap[pb]? = w.heap[pb]?) : PAt w' pb s S := hk.trans h
theorem PAt.same (h : PAt w pb s S) (hk : Same w w') : PAt w' pb s S := h.keep (by rw [hk.heap])
theorem PAt.alloc (h : PAt w pb s S) (o : Obj) : PAt (w.alloc o) pb s S := h.keep (Below.heap_alloc _ _ _ h.lt)
theorem PAt.drewN (h : PAt w pb s S) (n : Nat) : PAt (w.drewN n) pb s S := h
theorem PAt.on (h : PAt w pb s S) : PAt (w.setCell ⟨pb, 1, none⟩ (.int .i64 ((S.1 : Int) + 1))) pb s (S.1 + 1, S.2) := h.row.set 1 _
theorem PAt.bad (h : PAt w pb s S) (e : Nat) : PAt (w.setCell ⟨pb, 2, none⟩ (.int .i64 e)) pb s (S.1, e) := h.row.set 2 _
end
theorem z24 (c : UInt8) : wrap64 (c.toNat : Int) = c.toNat := by
 have := c.toNat_lt
 unfold wrap64; omega
def nowI (l : List UInt8) (S : St) : Int := match nowF l S with | some c => c.toNat | none => -1
theorem z0f {l : List UInt8} {S : St} {c : UInt8} (h : nowF l S = some c) : nowI l S = c.toNat := by unfold nowI; rw [h]
theorem z1q {l : List UInt8} {S : St} (h : nowF l S = none) : nowI l S = -1 := by unfold nowI; rw [h]
theorem z99 {l : List UInt8} {S : St} (c : UInt8) : (nowI l S == (c.toNat : Int)) = decide (nowF l S = some c) := by
 cases h : nowF l S with
 | none => rw [z1q h, decide_eq_false (by simp), beq_eq_false_iff_ne]; omega
 | some d =>
  rw [z0f h]
  by_cases e : d = c
  ·subst e; simp
  ·rw [decide_eq_false (by simpa using e), beq_eq_false_iff_ne]
   intro q; exact e (by rw [<- UInt8.toNat_inj]; omega)
theorem z1p (pb : Nat) (s : BA) (S : St) (w : World) (_ : s.size <= 2000) (hR : PAt w pb s S) :
  Calls Tryz.prog 125 #[.pointer (some ⟨pb, 0, none⟩)] w fun e w' => e = .returned (.int .i64 (nowI s.data.toList S)) /\ ∃ n, w' = w.drewN n := by
 obtain ⟨a, st⟩ := S
 have c0 := hR.row.cell (i := 0) rfl
 have c1 := hR.row.cell (i := 1) rfl
 have c2 := hR.row.cell (i := 2) rfl
 simp only at c1 c2
 clear hR
 by_cases h0 : st = 0
 ·subst h0
  simp only [Int.natCast_zero] at c2
  by_cases hlt : a < s.size
  ·have HE : Hid (nowI s.data.toList (a, 0) = s[a].toNat) := hid (z0f (z2w rfl (z1s s a hlt)))
   have hwr := z24 s[a]
   rw [HE.out]
   go_enter Tryz.func125, Tryz.ntmps125
   go_wp2
   go_quiet (fail)
   go_wp2
   go_quiet (fail)
   go_wp2
   go_ret
   exact ⟨z0z hwr, _, World.drewN_drewN _ _ _⟩
  ·have HE : Hid (nowI s.data.toList (a, 0) = -1) := hid (z1q (by unfold nowF; simp only [if_true]; exact zig s a hlt))
   rw [HE.out]
   go_enter Tryz.func125, Tryz.ntmps125
   go_wp2
   go_quiet (fail)
   go_wp2
   go_ret
   exact ⟨rfl, _, rfl⟩
 ·have HE : Hid (nowI s.data.toList (a, st) = -1) := hid (z1q (z12 h0))
  have hB : ((st : Int) != 0) = true := by simp; omega
  rw [HE.out]
  clear h0
  go_enter Tryz.func125, Tryz.ntmps125
  go_wp2
  go_quiet (fail)
  go_wp2
  go_ret
  exact ⟨rfl, _, rfl⟩
theorem z16 (pb : Nat) (s : BA) (S : St) (w : World) (_ : s.size <= 2000) (hS : Wf s.data.toList S) (hR : PAt w pb s S) :
  Calls Tryz.prog 126 #[.pointer (some ⟨pb, 0, none⟩)] w fun e w' => e = .returned (.tuple #[]) /\ PAt w' pb s (failF s.data.toList S) /\ Fr (· = pb) w w' := by
 obtain ⟨a, st⟩ := S
 have c0 := hR.row.cell (i := 0) rfl
 have c1 := hR.row.cell (i := 1) rfl
 have c2 := hR.row.cell (i := 2) rfl
 have z2 := hR.row.thaw 2
 simp only at c1 c2
 have HR := hid hR
 have hle := z3j hS
 have hlen := z05 s
 simp only at hle
 clear hR hS
 by_cases h0 : st = 0
 ·subst h0
  simp only [Int.natCast_zero] at c2
  have HR8 : Hid (PAt (w.setCell ⟨pb, 2, none⟩ (.int .i64 90)) pb s (a, 90)) := hid (HR.out.bad 90)
  have HF8 : Hid (Fr (· = pb) w (w.setCell ⟨pb, 2, none⟩ (.int .i64 90))) := hid (z0d 2 _)
  have d0 := HR8.out.row.cell (i := 0) rfl
  have d1 := HR8.out.row.cell (i := 1) rfl
  simp only at d1
  by_cases hge : s.size <= a
  ·have HB : Hid (failF s.data.toList (a, 0) = (a, 10)) := hid (by unfold failF; rw [if_pos rfl, if_pos (by omega)])
   clear hle hlen
   go_enter Tryz.func126, Tryz.ntmps126
   go_wp2
   go_quiet (fail)
   generalize hw0 : (w.setCell ⟨pb, 2, none⟩ (.int .i64 90)).drewN nq = w5
   have hw5 : Same (w.setCell ⟨pb, 2, none⟩ (.int .i64 90)) w5 := by rw [<- hw0]; exact (Same.refl _).drewN _
   have HR5 := hid (hw5.row HR8.out)
   have HF5 := hid (HF8.out.trans (Fr.of_same hw5))
   clear hw5 hw0 c0 c1 c2 z2 d0 d1
   have c2 := HR5.out.cell (i := 2) rfl
   have z2 := HR5.out.thaw 2
   go_wp2
   go_end0
   exact ⟨rfl, by rw [HB.out]; exact HR5.out.set 2 (.int .i64 10), HF5.out.trans (z0d 2 _)⟩
  ·have HB : Hid (failF s.data.toList (a, 0) = (a, 90)) := hid (by unfold failF; rw [if_pos rfl, if_neg (by omega)])
   clear hle hlen
   go_enter Tryz.func126, Tryz.ntmps126
   go_wp2
   go_quiet (fail)
   go_wp2
   go_end0
   exact ⟨rfl, by rw [HB.out]; exact HR8.out, HF8.out.trans (Fr.of_same ((Same.refl _).drewN _))⟩
 ·have HB : Hid (failF s.data.toList (a, st) = (a, st)) := hid (z1i h0)
  have hB : ((st : Int) == 0) = false := by rw [beq_eq_false_iff_ne]; omega
  clear h0 hle hlen
  go_enter Tryz.func126, Tryz.ntmps126
  go_wp2
  go_end0
  exact ⟨rfl, by rw [HB.out]; exact HR.out, Fr.refl _ _⟩
theorem z6a (pb : Nat) (s t : BA) (S : St) (w : World) (hs : s.size <= 2000) (ht : t.size <= 100) (hS : Wf s.data.toList S) (hR : PAt w pb s S) :
  Calls Tryz.prog 128 #[.pointer (some ⟨pb, 0, none⟩), .string t] w fun e w' => e = .returned (.tuple #[]) /\ PAt w' pb s (wordF s.data.toList t.data.toList S) /\ Fr (· = pb) w w' := by
 have HR := hid hR
 have HS0 := hid hS
 clear hR hS
 go_enter Tryz.func128, Tryz.ntmps128
 go_wp2
 go_loopw [4] (fun i wr => ∃ (k : Nat) (T : St), k <= t.size /\ i = .int .i64 k /\ Hid (PAt wr pb s T) /\ Hid (Wf s.data.toList T) /\ Hid (Fr (· = pb) w wr) /\ Hid (wordF s.data.toList t.data.toList S = wordF s.data.toList (t.data.toList.drop k) T)) (fun i _ => t.size - (intOf i).toNat)
 case atStart => exact ⟨0, S, by omega, rfl, HR, HS0, hid (Fr.refl _ _), hid (by rw [List.drop_zero])⟩
 case round =>
  obtain ⟨k, T, hk, rfl, HRT, HST, HF, HW⟩ := hrel
  clear HR HS0
  by_cases hlt : k < t.size
  ·have hc := z1s t k hlt
   have HD := hid (HW.out.trans (by rw [z5j hc]))
   have hlt2 : k < t.data.size := hlt
   by_cases hb : nowF s.data.toList T = some t[k]
   ·have HW2 := hid (HD.out.trans (z5p hb))
    obtain ⟨hst, hget⟩ := z0b hb
    have HS2 := hid (z0t hb)
    have hB : (nowI s.data.toList T != (t[k].toNat : Int)) = false := by rw [z0f hb]; simp
    have HN := hid (fun n => z1p pb s T (wr.drewN n) hs (HRT.out.drewN n))
    have HS : Hid (T.1 < s.size) := hid (by have := z0l hget; simpa using this)
    obtain ⟨a, st⟩ := T
    simp only at hst hget
    subst hst
    have hB2 := hB
    rw [<- z24 t[k]] at hB2
    generalize nowI s.data.toList (a, 0) = v at *
    clear hb hc HW HD hget
    go_wp2
    go_quiet ((go_at_call 125; exact Calls.quiet_of (HN.out _)))
    generalize hw0 : wr.drewN nq = w2
    have hw2 : Same wr w2 := by rw [<- hw0]; exact (Same.refl _).drewN _
    have HR2 := hid (HRT.out.same hw2)
    have HF2 := hid (HF.out.trans (Fr.of_same hw2))
    clear hw2 hw0 HN
    have c1 := HR2.out.row.cell (i := 1) rfl
    have z1 := HR2.out.row.thaw 1
    simp only at c1
    have HQ : Hid (PAt (w2.setCell ⟨pb, 1, none⟩ (.int .i64 ((a : Int) + 1))) pb s (a + 1, 0)) := hid (PAt.on (S := (a, 0)) HR2.out)
    have HF3 : Hid (Fr (· = pb) w (w2.setCell ⟨pb, 1, none⟩ (.int .i64 ((a : Int) + 1)))) := hid (HF2.out.trans (z0d 1 _))
    have hs2 := HS.out
    go_wp2
    go_roundw
    case rel => exact ⟨k + 1, (a + 1, 0), by omega, by go_num, HQ, HS2, HF3, HW2⟩
    case measure => simp [intOf]; omega
   ·have HW2 := hid (HD.out.trans (z25 hb))
    have hB : (nowI s.data.toList T != (t[k].toNat : Int)) = true := by
     have := z99 (l := s.data.toList) (S := T) t[k]
     rw [decide_eq_false hb] at this
     rw [bne, this]; rfl
    have HN := hid (fun n => z1p pb s T (wr.drewN n) hs (HRT.out.drewN n))
    have hB2 := hB
    rw [<- z24 t[k]] at hB2
    generalize nowI s.data.toList T = v at *
    clear hb hc HW HD
    go_wp2
    go_quiet ((go_at_call 125; exact Calls.quiet_of (HN.out _)))
    generalize hw0 : wr.drewN nq = w2
    have hw2 : Same wr w2 := by rw [<- hw0]; exact (Same.refl _).drewN _
    have HF2 := hid (HF.out.trans (Fr.of_same hw2))
    have HWR := hid (z16 pb s T w2 hs HST.out (HRT.out.same hw2))
    clear hw2 hw0 HN
    go_wp2_with fail
    refine HWR.out.mono ?_
    rintro e w3 ⟨rfl, hr3, hf3⟩
    have HR3 := hid hr3
    have HF3 := hid (HF2.out.trans hf3)
    clear hr3 hf3 HWR
    go_wp2
    exact bodyPost_ret (v := .tuple #[]) (by simp [results, Tryz.results128, go_sem]) rfl ⟨rfl, by rw [HW2.out]; exact HR3.out, HF3.out⟩
  ·have hge : ¬ k < t.size := hlt
   have HD := hid (HW.out.trans (by rw [List.drop_eq_nil_of_le (by rw [z05]; omega), wordF]))
   clear HW
   go_wp2
   go_end0
   exact ⟨rfl, by rw [HD.out]; exact HRT.out, HF.out⟩
def ltI (n : Int) : Bool := decide (97 <= n) && decide (n <= 122)
def wrdI (n : Int) : Bool := ltI n || (decide (48 <= n) && decide (n <= 57)) || (n == 95)
theorem z4a (c : UInt8) : ltI c.toNat = isLet c := by
 unfold ltI isLet
 congr 1
 ·exact decide_eq_decide.2 (by omega)
 ·exact decide_eq_decide.2 (by omega)
theorem z50 (c : UInt8) : wrdI c.toNat = isWrd c := by
 unfold wrdI isWrd isDig
 rw [z4a]
 congr 1
 ·congr 1
  congr 1
  ·exact decide_eq_decide.2 (by omega)
  ·exact decide_eq_decide.2 (by omega)
 ·by_cases h : c = 95
  ·subst h; rfl
  ·rw [beq_eq_false_iff_ne.2 h, beq_eq_false_iff_ne]
   intro e; exact h (by rw [<- UInt8.toNat_inj]; exact Int.ofNat.inj e)
theorem ltI_now (l : List UInt8) (S : St) : ltI (nowI l S) = isNow l isLet S := by
 unfold isNow
 cases h : nowF l S with
 | none => rw [z1q h]; rfl
 | some c => rw [z0f h]; exact z4a c
theorem zdn (l : List UInt8) (S : St) : wrdI (nowI l S) = isNow l isWrd S := by
 unfold isNow
 cases h : nowF l S with
 | none => rw [z1q h]; rfl
 | some c => rw [z0f h]; exact z50 c
theorem z2r (n : Int) (w : World) : Calls Tryz.prog 172 #[.int .i64 n] w fun e w' => e = .returned (.bool (ltI n)) /\ w' = w := by
 by_cases h1 : 97 <= n
 ·by_cases h2 : n <= 122
  all_goals
   have HE : Hid (ltI n = decide (n <= 122)) := hid (by unfold ltI; rw [decide_eq_true h1]; rfl)
   go_enter Tryz.func172, Tryz.ntmps172
   go_wp2
   go_ret
   exact ⟨z01 (by rw [HE.out]; simp [h2]), rfl⟩
 ·have HE : Hid (ltI n = false) := hid (by unfold ltI; rw [decide_eq_false h1]; rfl)
  have h1' : decide (97 <= n) = false := decide_eq_false h1
  go_enter Tryz.func172, Tryz.ntmps172
  go_wp2
  go_ret
  exact ⟨z01 HE.out.symm, rfl⟩
theorem z5o (n : Int) (w : World) : Calls Tryz.prog 171 #[.int .i64 n] w fun e w' => e = .returned (.bool (wrdI n)) /\ w' = w := by
 have HL := hid (z2r n w)
 cases hl : ltI n with
 | true =>
  rw [hl] at HL
  have HE : Hid (wrdI n = true) := hid (by unfold wrdI; rw [hl]; rfl)
  clear hl
  go_enter Tryz.func171, Tryz.ntmps171
  go_wp2_with fail
  refine HL.out.mono ?_
  rintro e w2 ⟨rfl, rfl⟩
  go_wp2
  go_ret
  exact ⟨z01 HE.out.symm, rfl⟩
 | false =>
  rw [hl] at HL
  have HE : Hid (wrdI n = ((decide (48 <= n) && decide (n <= 57)) || (n == 95))) := hid (by unfold wrdI; rw [hl]; simp)
  clear hl
  by_cases h1 : 48 <= n
  ·by_cases h2 : n <= 57
   ·have HF : Hid (wrdI n = true) := hid (by rw [HE.out, decide_eq_true h1, decide_eq_true h2]; rfl)
    have b1 : decide (48 <= n) = true := decide_eq_true h1
    have b2 : decide (n <= 57) = true := decide_eq_true h2
    clear HE
    go_enter Tryz.func171, Tryz.ntmps171
    go_wp2_with fail
    refine HL.out.mono ?_
    rintro e w2 ⟨rfl, rfl⟩
    go_wp2
    go_ret
    exact ⟨z01 HF.out.symm, rfl⟩
   ·have HF : Hid (wrdI n = (n == 95)) := hid (by rw [HE.out, decide_eq_false h2]; simp)
    have b2 : decide (n <= 57) = false := decide_eq_false h2
    clear HE
    go_enter Tryz.func171, Tryz.ntmps171
    go_wp2_with fail
    refine HL.out.mono ?_
    rintro e w2 ⟨rfl, rfl⟩
    go_wp2
    go_ret
    exact ⟨z01 HF.out.symm, rfl⟩
  ·have HF : Hid (wrdI n = (n == 95)) := hid (by rw [HE.out, decide_eq_false h1]; simp)
   have b1 : decide (48 <= n) = false := decide_eq_false h1
   clear HE
   go_enter Tryz.func171, Tryz.ntmps171
   go_wp2_with fail
   refine HL.out.mono ?_
   rintro e w2 ⟨rfl, rfl⟩
   go_wp2
   go_ret
   exact ⟨z01 HF.out.symm, rfl⟩
end Go.Proofs.YtdnedbcmgkilaaaGreatDoor.Dr

end

section

namespace Go.Proofs.YtdnedbcmgkilaaaGreatDoor.Dr
set_option maxHeartbeats 3200000
set_option maxRecDepth 100000
open Go.Lib (hid)
open Go.RowKit Go.Proofs.YtdnedbcmgkilaaaGreatDoor
theorem z8c {w : World} {base : Nat} {a : Option Addr} {cap : Nat} {l : List UInt8} (h : w.ownsRow base 5 1 (.slice a l.length cap) l.length (Lib.byteCells l)) (hn : Value.slice a l.length cap ≠ .slice none 0 0) : (convert 81 9 (.slice a l.length cap)).run Tryz.prog w = .ok (.string (ba l)) w := by
 rcases h.2 with ⟨hv, h0⟩ | ⟨g, cap', cur, hv, -, hg, hr⟩
 ·exact absurd hv hn
 ·injection hv with h1 h2 h3
  subst h1 h3
  obtain ⟨-, -, -, ht⟩ := hr
  refine run_convert_bytes_back (P := Tryz.prog) w 81 9 5 ⟨g, 0, none⟩ cap l Tryz.underlying81 Tryz.underlying5 Tryz.underlying9 (fun j hj => ?_)
  rw [Addr.add_mid, Nat.zero_add]
  have hc : w.cell? ⟨g, j, none⟩ = cur[j]? := by simp [World.cell?, hg]
  rw [hc, <- Array.getElem?_toList]
  have h5 : (cur.toList.take (l.length * 1))[j]? = cur.toList[j]? := List.getElem?_take_of_lt (by omega)
  rw [<- h5, ht]
  simp [Lib.byteCells, hj]
theorem zhe (w : World) : (w.alloc (.cells #[] 5)).ownsRow w.heap.size 5 1 (.slice (some ⟨w.heap.size, 0, none⟩) 0 0) 0 (Lib.byteCells []) := z2h w #[] 5 w.heap.size 0 1 rfl (Nat.le_refl _) (by omega)
theorem infoByte : (Tryz.prog.info? 5).map (fun i => (i.zero, i.size, i.bytes)) = some (some (.int .u8 0), 1, 1) := by kernel_rfl
theorem u8_in (c : UInt8) : IntKind.u8.wrap (c.toNat : Int) = c.toNat := IntWalk.u8_in _ (by have := c.toNat_lt; omega)
theorem z7s {w : World} {B n : Nat} {v : Value} {xs : List Value} (h : w.ownsRow B 5 1 v n xs) : ∃ a cap, v = .slice a n cap := by
 obtain ⟨a, cap, hv, -⟩ := z0m h
 exact ⟨a, cap, hv⟩
def NmU (l : List UInt8) (acc : List UInt8) (T : St) : Prop := acc.length <= 32 /\ (acc = [] -> T.2 = 0 -> isNow l isLet T = true) /\ (acc ≠ [] -> nameB acc = true)
theorem nm_go {l acc : List UInt8} {T : St} {c : UInt8} (h : NmU l acc T) (hc : nowF l T = some c) (hw : isWrd c = true) (hl : acc.length ≠ 32) : nameB (acc ++ [c]) = true /\ NmU l (acc ++ [c]) (T.1 + 1, 0) := by
 obtain ⟨h1, h2, h3⟩ := h
 have hn : nameB (acc ++ [c]) = true := by
  cases acc with
  | nil =>
   have := h2 rfl (z0b hc).1
   unfold isNow at this
   rw [hc] at this
   simp only at this
   simp [nameB, this, hw]
  | cons d r =>
   have := h3 (by simp)
   simp only [nameB, Bool.and_eq_true, decide_eq_true_eq] at this
   simp only [List.length_cons] at h1 hl
   simp only [List.cons_append, nameB, Bool.and_eq_true, decide_eq_true_eq, List.length_append, List.length_cons, List.length_nil]
   refine ⟨⟨by omega, this.1.2⟩, ?_⟩
   rw [<- List.cons_append, List.all_append, this.2]
   simp [hw]
 exact ⟨hn, by rw [List.length_append]; simp only [List.length_cons, List.length_nil]; omega, fun e => by simp at e, fun _ => hn⟩
theorem zhq {l acc : List UInt8} {T : St} {c : UInt8} (_h : NmU l acc T) (hl : acc.length = 32) : nameB (acc ++ [c]) = false := by
 cases acc with
 | nil => simp at hl
 | cons d r =>
  simp only [List.length_cons] at hl
  simp only [List.cons_append, nameB, List.length_append, List.length_cons, List.length_nil]
  rw [decide_eq_false (by omega)]; rfl
theorem zch {l : List UInt8} {w : UInt8 -> Bool} {p : List UInt8 -> Bool} {f : Nat} {acc : List UInt8} {S : St} {c : UInt8} (h : nowF l S = some c) (hw : w c = true) (hp : p (acc ++ [c]) = true) : runL l w p (f + 1) acc S = runL l w p f (acc ++ [c]) (S.1 + 1, 0) := by
 rw [runL, h]; simp only; rw [if_pos hw, if_pos hp]
theorem zcj {l : List UInt8} {w : UInt8 -> Bool} {p : List UInt8 -> Bool} {f : Nat} {acc : List UInt8} {S : St} {c : UInt8} (h : nowF l S = some c) (hw : w c = true) (hp : p (acc ++ [c]) = false) : runL l w p (f + 1) acc S = ([], failF l S) := by
 rw [runL, h]; simp only; rw [if_pos hw, if_neg (by rw [hp]; simp)]
theorem zci {l : List UInt8} {w : UInt8 -> Bool} {p : List UInt8 -> Bool} {f : Nat} {acc : List UInt8} {S : St} (h : isNow l w S = false) : runL l w p f acc S = (acc, S) := by
 cases f with
 | zero => rw [runL]
 | succ f =>
  rw [runL]
  unfold isNow at h
  cases hn : nowF l S with
  | none => rfl
  | some c => rw [hn] at h; simp only at h ⊢; rw [if_neg (by rw [h]; simp)]
theorem z3m (pb : Nat) (s : BA) (S : St) (w : World) (hs : s.size <= 2000) (hS : Wf s.data.toList S) (hR : PAt w pb s S) :
  Calls Tryz.prog 168 #[.pointer (some ⟨pb, 0, none⟩)] w fun e w' => e = .returned (.string (ba (dName s.data.toList S).1)) /\ PAt w' pb s (dName s.data.toList S).2 /\ Fr (· = pb) w w' := by
 obtain ⟨i0, hi, hz0, hz1, hz2⟩ := info_parts infoByte
 have hlp := hR.lt
 have HR0 : Hid (PAt (w.alloc (.cells #[] 5)) pb s S) := hid (hR.alloc _)
 have HO0 : Hid ((w.alloc (.cells #[] 5)).ownsRow w.heap.size 5 1 (.slice (some ⟨w.heap.size, 0, none⟩) 0 0) 0 (Lib.byteCells [])) := hid (zhe w)
 have HF0 : Hid (Fr (· = pb) w (w.alloc (.cells #[] 5))) := hid ((Fr.refl _ _).alloc _)
 have HN0 := hid (z1p pb s S _ hs HR0.out)
 have HS := hid hS
 have HL0 := hid (fun W => z2r (nowI s.data.toList S) W)
 have hli := ltI_now s.data.toList S
 have HD0 : Hid (dName s.data.toList S = runL s.data.toList isWrd nameB 33 [] (if isNow s.data.toList isLet S then S else failF s.data.toList S)) := hid rfl
 clear hR hS
 cases hf : isNow s.data.toList isLet S with
 | true =>
  rw [hli, hf] at HL0
  have HD : Hid (dName s.data.toList S = runL s.data.toList isWrd nameB 33 [] S) := hid (by rw [HD0.out, hf]; rfl)
  have HU0 : Hid (NmU s.data.toList [] S) := hid ⟨by simp, fun _ _ => hf, fun e => absurd rfl e⟩
  clear hf hli HD0
  go_enter Tryz.func168, Tryz.ntmps168
  go_wp2_with fail
  generalize w.alloc (.cells #[] 5) = w1 at *
  refine HN0.out.mono ?_
  rintro e w2 ⟨rfl, nq, hw2⟩
  have hs2 : Same w1 w2 := by rw [hw2]; exact (Same.refl _).drewN _
  have HR2 := hid (HR0.out.same hs2)
  have HF2 := hid (HF0.out.trans (Fr.of_same hs2))
  have HO2 := hid (z0a HO0.out (fun _ _ => by rw [hs2.heap]))
  have HL2 := hid (HL0.out w2)
  clear hs2 hw2 HN0 HR0 HF0 HO0 HL0
  go_wp2_with fail
  refine HL2.out.mono ?_
  rintro e w3 ⟨rfl, rfl⟩
  clear HL2
  have HST := HS
  go_wp2
  go_loopw [3] (fun v wr => ∃ (acc : List UInt8) (f : Nat) (T : St), acc.length + f = 33 /\ Hid (NmU s.data.toList acc T) /\ Hid (wr.ownsRow w.heap.size 5 1 v acc.length (Lib.byteCells acc)) /\ Hid (v ≠ .slice none 0 0) /\ Hid (PAt wr pb s T) /\ Hid (Fr (· = pb) w wr) /\ Hid (Wf s.data.toList T) /\ Hid (dName s.data.toList S = runL s.data.toList isWrd nameB f acc T)) (fun v _ => match v with | .slice _ n _ => 33 - n | _ => 0)
  case atStart => exact ⟨[], 33, S, rfl, HU0, HO2, hid (by simp), HR2, HF2, HST, HD⟩
  case round =>
   obtain ⟨acc, f, T, hfu, HU, HO, HNN, HRT, HFT, HWT, HQ⟩ := hrel
   clear HO2 HR2 HF2 HD HU0
   have hBs : w.heap.size <= wr.heap.size := HFT.out.size
   obtain ⟨ao, co, rfl⟩ := z7s HO.out
   have hacc : acc.length <= 32 := HU.out.1
   have HN1 := hid (z1p pb s T wr hs HRT.out)
   have HLW := hid (fun W => z5o (nowI s.data.toList T) W)
   rw [zdn] at HLW
   cases hw : isNow s.data.toList isWrd T with
   | false =>
    rw [hw] at HLW
    have HE := hid (HQ.out.trans (zci hw))
    clear hw
    go_wp2_with fail
    refine HN1.out.mono ?_
    rintro e w5 ⟨rfl, nq5, hw5⟩
    have hs5 : Same wr w5 := by rw [hw5]; exact (Same.refl _).drewN _
    have HR5 := hid (HRT.out.same hs5)
    have HF5 := hid (HFT.out.trans (Fr.of_same hs5))
    have HBK := hid (z8c (z0a HO.out (fun _ _ => by rw [hs5.heap])) HNN.out)
    have HL5 := hid (HLW.out w5)
    clear hs5 hw5 HN1 HLW
    go_wp2_with fail
    refine HL5.out.mono ?_
    rintro e w6 ⟨rfl, rfl⟩
    clear HL5
    generalize hac : ba acc = t at *
    go_wp2
    rw [HBK.out]
    simp only [Result.andThen]
    rw [Oper.upon_value]
    go_wp2
    go_ret
    exact ⟨by rw [HE.out, hac]; rfl, by rw [HE.out]; exact HR5.out, HF5.out⟩
   | true =>
    rw [hw] at HLW
    obtain ⟨c, hc, hcw⟩ : ∃ c, nowF s.data.toList T = some c /\ isWrd c = true := by
     unfold isNow at hw
     cases hx : nowF s.data.toList T with
     | none => rw [hx] at hw; cases hw
     | some c => rw [hx] at hw; exact ⟨c, rfl, hw⟩
    obtain ⟨f', rfl⟩ : ∃ f', f = f' + 1 := ⟨f - 1, by omega⟩
    by_cases hl : acc.length = 32
    ·have HE := hid (HQ.out.trans (zcj hc hcw (zhq HU.out hl)))
     rw [hl] at HO HNN ⊢
     clear hw hc hfu hl hacc
     go_wp2_with fail
     refine HN1.out.mono ?_
     rintro e w5 ⟨rfl, nq5, hw5⟩
     have hs5 : Same wr w5 := by rw [hw5]; exact (Same.refl _).drewN _
     have HR5 := hid (HRT.out.same hs5)
     have HF5 := hid (HFT.out.trans (Fr.of_same hs5))
     have HL5 := hid (HLW.out w5)
     have HWR := hid (z16 pb s T w5 hs HWT.out HR5.out)
     clear hs5 hw5 HN1 HLW
     go_wp2_with fail
     refine HL5.out.mono ?_
     rintro e w6 ⟨rfl, rfl⟩
     clear HL5
     go_wp2_with fail
     refine HWR.out.mono ?_
     rintro e w7 ⟨rfl, hr7, hf7⟩
     have HR7 := hid hr7
     have HF7 := hid (HF5.out.trans hf7)
     clear hr7 hf7 HWR
     go_wp2
     go_ret
     exact ⟨by rw [HE.out]; rfl, by rw [HE.out]; exact HR7.out, HF7.out⟩
    ·obtain ⟨hnb, hnu⟩ := nm_go HU.out hc hcw hl
     have HE := hid (HQ.out.trans (zch hc hcw hnb))
     have HNU := hid hnu
     have hnv : nowI s.data.toList T = c.toNat := z0f hc
     have HW2 := hid (z0t hc)
     obtain ⟨h0, hx⟩ := z0b hc
     have HTL := hid (z0l hx)
     obtain ⟨k, st⟩ := T
     simp only at h0 HTL HE HNU HW2
     subst h0
     obtain ⟨q, HLQ⟩ : ∃ q, Hid (q = acc.length) := ⟨_, hid rfl⟩
     rw [<- HLQ.out] at HO HNN hl hacc hfu ⊢
     have hlb : ((q : Int) == 32) = false := by rw [beq_eq_false_iff_ne]; omega
     rw [hnv] at HN1 HLW
     have HN2 := hid (fun W (h : PAt W pb s (k, 0)) => z1p pb s (k, 0) W hs h)
     rw [hnv] at HN2
     have hu8 := u8_in c
     have hc8 := c.toNat_lt
     clear hw hc hnb hnu hnv hl HU HQ hx
     go_wp2_with fail
     refine HN1.out.mono ?_
     rintro e w5 ⟨rfl, nq5, hw5⟩
     have hs5 : Same wr w5 := by rw [hw5]; exact (Same.refl _).drewN _
     have HR5 := hid (HRT.out.same hs5)
     have HF5 := hid (HFT.out.trans (Fr.of_same hs5))
     have HO5 := hid (z0a HO.out (fun _ _ => by rw [hs5.heap]))
     have HL5 := hid (HLW.out w5)
     clear hs5 hw5 HN1 HLW HO HRT HFT
     go_wp2_with fail
     refine HL5.out.mono ?_
     rintro e w6 ⟨rfl, rfl⟩
     have HN6 := hid (HN2.out w6 HR5.out)
     clear HL5 HN2
     go_wp2_with fail
     refine HN6.out.mono ?_
     rintro e w7 ⟨rfl, nq7, hw7⟩
     have hs7 : Same w6 w7 := by rw [hw7]; exact (Same.refl _).drewN _
     have HR7 := hid (HR5.out.same hs7)
     have HF7 := hid (HF5.out.trans (Fr.of_same hs7))
     have HO7 := hid (z0a HO5.out (fun _ _ => by rw [hs7.heap]))
     clear hs7 hw7 HN6 HR5 HF5 HO5
     have hz7 : w.heap.size <= w7.heap.size := HF7.out.size
     go_wp2_with (at_builtin; refine wpList_append_lies _ rfl _ _ 81 rfl w.heap.size 5 i0 _ 1 1 Tryz.underlying81 hi hz0 hz1 hz2 rfl (by decide) _ _ _ rfl (HO7.out.alloc _) _ 1 1 [.int .u8 c.toNat] rfl rfl (z0s _ #[.int .u8 c.toNat] _ rfl) (by simp [Value.oneCell']) (by decide) (by unfold maxLen; omega) (by omega) (by simp; omega) (w7.heap.size + 1) (by simp) ?_; intro g8 c9 w8 hown8 hgrow8 hg8 _; have HO8 := hid hown8; have HG8 := hid hgrow8; clear hown8 hgrow8 hg8; have hlt7 := HR7.out.lt; have HR8 : Hid (PAt w8 pb s (k, 0)) := hid (HR7.out.keep ((HG8.out.block pb (by rw [World.size_alloc]; omega) (fun e => by have := (HO7.out.lt pb e.symm).1; omega)).trans (Below.heap_alloc _ _ _ hlt7))); have HF8 : Hid (Fr (· = pb) w w8) := hid ((HF7.out.alloc _).grown HG8.out (fun g hg => .inl (HO7.out.lt g hg).1)); clear HR7 HF7 HO7 HG8; have c1 := HR8.out.row.cell (i := 1) rfl; have z1 := HR8.out.row.thaw 1; simp only at c1; have htl := HTL.out; rw [z05] at htl)
     have HQ9 : Hid (PAt (w8.setCell ⟨pb, 1, none⟩ (.int .i64 ((k : Int) + 1))) pb s (k + 1, 0)) := hid (PAt.on (S := (k, 0)) HR8.out)
     have HF9 : Hid (Fr (· = pb) w (w8.setCell ⟨pb, 1, none⟩ (.int .i64 ((k : Int) + 1)))) := hid (HF8.out.trans (z0d 1 _))
     have HO9 : Hid ((w8.setCell ⟨pb, 1, none⟩ (.int .i64 ((k : Int) + 1))).ownsRow w.heap.size 5 1 (.slice (some ⟨g8, 0, none⟩) (q + 1) c9) (q + 1) (Lib.byteCells acc ++ [.int .u8 c.toNat])) := hid (ze0 HO8.out ((But.refl pb w8).set 1 _) hlp)
     go_roundw
     case rel => exact ⟨acc ++ [c], f', (k + 1, 0), by rw [List.length_append, <- HLQ.out]; simp only [List.length_cons, List.length_nil]; omega, HNU, by rw [List.length_append, <- HLQ.out, z2m]; exact HO9, hid (by simp), HQ9, HF9, HW2, HE⟩
     case measure => simp only; omega
 | false =>
  rw [hli, hf] at HL0
  obtain ⟨S2, HS2⟩ : ∃ S2, Hid (S2 = failF s.data.toList S) := ⟨_, hid rfl⟩
  have HD : Hid (dName s.data.toList S = runL s.data.toList isWrd nameB 33 [] S2) := hid (by rw [HD0.out, hf, HS2.out]; rfl)
  have HU0 : Hid (NmU s.data.toList [] S2) := hid ⟨by simp, fun _ e => absurd e (by rw [HS2.out]; exact z0q _ _), fun e => absurd rfl e⟩
  have HST : Hid (Wf s.data.toList S2) := hid (by rw [HS2.out]; exact (z1t _ _).2.1 HS.out)
  clear hf hli HD0
  go_enter Tryz.func168, Tryz.ntmps168
  go_wp2_with fail
  generalize w.alloc (.cells #[] 5) = w1 at *
  refine HN0.out.mono ?_
  rintro e w2 ⟨rfl, nq, hw2⟩
  have hs2 : Same w1 w2 := by rw [hw2]; exact (Same.refl _).drewN _
  have HR2 := hid (HR0.out.same hs2)
  have HF2 := hid (HF0.out.trans (Fr.of_same hs2))
  have HO2 := hid (z0a HO0.out (fun _ _ => by rw [hs2.heap]))
  have HL2 := hid (HL0.out w2)
  have HWR := hid (z16 pb s S w2 hs HS.out HR2.out)
  clear hs2 hw2 HN0 HR0 HF0 HO0 HL0
  go_wp2_with fail
  refine HL2.out.mono ?_
  rintro e w3 ⟨rfl, rfl⟩
  clear HL2
  go_wp2_with fail
  refine HWR.out.mono ?_
  rintro e w4 ⟨rfl, hr4, hf4⟩
  rw [<- HS2.out] at hr4
  have HO2 := hid (z0a HO2.out (fun g hg => hf4.block g (HO2.out.lt g hg).2 (by have := (HO2.out.lt g hg).1; omega)))
  have HR2 := hid hr4
  have HF2 := hid (HF2.out.trans hf4)
  clear hr4 hf4 HWR
  go_wp2
  go_loopw [3] (fun v wr => ∃ (acc : List UInt8) (f : Nat) (T : St), acc.length + f = 33 /\ Hid (NmU s.data.toList acc T) /\ Hid (wr.ownsRow w.heap.size 5 1 v acc.length (Lib.byteCells acc)) /\ Hid (v ≠ .slice none 0 0) /\ Hid (PAt wr pb s T) /\ Hid (Fr (· = pb) w wr) /\ Hid (Wf s.data.toList T) /\ Hid (dName s.data.toList S = runL s.data.toList isWrd nameB f acc T)) (fun v _ => match v with | .slice _ n _ => 33 - n | _ => 0)
  case atStart => exact ⟨[], 33, S2, rfl, HU0, HO2, hid (by simp), HR2, HF2, HST, HD⟩
  case round =>
   obtain ⟨acc, f, T, hfu, HU, HO, HNN, HRT, HFT, HWT, HQ⟩ := hrel
   clear HO2 HR2 HF2 HD HU0
   have hBs : w.heap.size <= wr.heap.size := HFT.out.size
   obtain ⟨ao, co, rfl⟩ := z7s HO.out
   have hacc : acc.length <= 32 := HU.out.1
   have HN1 := hid (z1p pb s T wr hs HRT.out)
   have HLW := hid (fun W => z5o (nowI s.data.toList T) W)
   rw [zdn] at HLW
   cases hw : isNow s.data.toList isWrd T with
   | false =>
    rw [hw] at HLW
    have HE := hid (HQ.out.trans (zci hw))
    clear hw
    go_wp2_with fail
    refine HN1.out.mono ?_
    rintro e w5 ⟨rfl, nq5, hw5⟩
    have hs5 : Same wr w5 := by rw [hw5]; exact (Same.refl _).drewN _
    have HR5 := hid (HRT.out.same hs5)
    have HF5 := hid (HFT.out.trans (Fr.of_same hs5))
    have HBK := hid (z8c (z0a HO.out (fun _ _ => by rw [hs5.heap])) HNN.out)
    have HL5 := hid (HLW.out w5)
    clear hs5 hw5 HN1 HLW
    go_wp2_with fail
    refine HL5.out.mono ?_
    rintro e w6 ⟨rfl, rfl⟩
    clear HL5
    generalize hac : ba acc = t at *
    go_wp2
    rw [HBK.out]
    simp only [Result.andThen]
    rw [Oper.upon_value]
    go_wp2
    go_ret
    exact ⟨by rw [HE.out, hac]; rfl, by rw [HE.out]; exact HR5.out, HF5.out⟩
   | true =>
    rw [hw] at HLW
    obtain ⟨c, hc, hcw⟩ : ∃ c, nowF s.data.toList T = some c /\ isWrd c = true := by
     unfold isNow at hw
     cases hx : nowF s.data.toList T with
     | none => rw [hx] at hw; cases hw
     | some c => rw [hx] at hw; exact ⟨c, rfl, hw⟩
    obtain ⟨f', rfl⟩ : ∃ f', f = f' + 1 := ⟨f - 1, by omega⟩
    by_cases hl : acc.length = 32
    ·have HE := hid (HQ.out.trans (zcj hc hcw (zhq HU.out hl)))
     rw [hl] at HO HNN ⊢
     clear hw hc hfu hl hacc
     go_wp2_with fail
     refine HN1.out.mono ?_
     rintro e w5 ⟨rfl, nq5, hw5⟩
     have hs5 : Same wr w5 := by rw [hw5]; exact (Same.refl _).drewN _
     have HR5 := hid (HRT.out.same hs5)
     have HF5 := hid (HFT.out.trans (Fr.of_same hs5))
     have HL5 := hid (HLW.out w5)
     have HWR := hid (z16 pb s T w5 hs HWT.out HR5.out)
     clear hs5 hw5 HN1 HLW
     go_wp2_with fail
     refine HL5.out.mono ?_
     rintro e w6 ⟨rfl, rfl⟩
     clear HL5
     go_wp2_with fail
     refine HWR.out.mono ?_
     rintro e w7 ⟨rfl, hr7, hf7⟩
     have HR7 := hid hr7
     have HF7 := hid (HF5.out.trans hf7)
     clear hr7 hf7 HWR
     go_wp2
     go_ret
     exact ⟨by rw [HE.out]; rfl, by rw [HE.out]; exact HR7.out, HF7.out⟩
    ·obtain ⟨hnb, hnu⟩ := nm_go HU.out hc hcw hl
     have HE := hid (HQ.out.trans (zch hc hcw hnb))
     have HNU := hid hnu
     have hnv : nowI s.data.toList T = c.toNat := z0f hc
     have HW2 := hid (z0t hc)
     obtain ⟨h0, hx⟩ := z0b hc
     have HTL := hid (z0l hx)
     obtain ⟨k, st⟩ := T
     simp only at h0 HTL HE HNU HW2
     subst h0
     obtain ⟨q, HLQ⟩ : ∃ q, Hid (q = acc.length) := ⟨_, hid rfl⟩
     rw [<- HLQ.out] at HO HNN hl hacc hfu ⊢
     have hlb : ((q : Int) == 32) = false := by rw [beq_eq_false_iff_ne]; omega
     rw [hnv] at HN1 HLW
     have HN2 := hid (fun W (h : PAt W pb s (k, 0)) => z1p pb s (k, 0) W hs h)
     rw [hnv] at HN2
     have hu8 := u8_in c
     have hc8 := c.toNat_lt
     clear hw hc hnb hnu hnv hl HU HQ hx
     go_wp2_with fail
     refine HN1.out.mono ?_
     rintro e w5 ⟨rfl, nq5, hw5⟩
     have hs5 : Same wr w5 := by rw [hw5]; exact (Same.refl _).drewN _
     have HR5 := hid (HRT.out.same hs5)
     have HF5 := hid (HFT.out.trans (Fr.of_same hs5))
     have HO5 := hid (z0a HO.out (fun _ _ => by rw [hs5.heap]))
     have HL5 := hid (HLW.out w5)
     clear hs5 hw5 HN1 HLW HO HRT HFT
     go_wp2_with fail
     refine HL5.out.mono ?_
     rintro e w6 ⟨rfl, rfl⟩
     have HN6 := hid (HN2.out w6 HR5.out)
     clear HL5 HN2
     go_wp2_with fail
     refine HN6.out.mono ?_
     rintro e w7 ⟨rfl, nq7, hw7⟩
     have hs7 : Same w6 w7 := by rw [hw7]; exact (Same.refl _).drewN _
     have HR7 := hid (HR5.out.same hs7)
     have HF7 := hid (HF5.out.trans (Fr.of_same hs7))
     have HO7 := hid (z0a HO5.out (fun _ _ => by rw [hs7.heap]))
     clear hs7 hw7 HN6 HR5 HF5 HO5
     have hz7 : w.heap.size <= w7.heap.size := HF7.out.size
     go_wp2_with (at_builtin; refine wpList_append_lies _ rfl _ _ 81 rfl w.heap.size 5 i0 _ 1 1 Tryz.underlying81 hi hz0 hz1 hz2 rfl (by decide) _ _ _ rfl (HO7.out.alloc _) _ 1 1 [.int .u8 c.toNat] rfl rfl (z0s _ #[.int .u8 c.toNat] _ rfl) (by simp [Value.oneCell']) (by decide) (by unfold maxLen; omega) (by omega) (by simp; omega) (w7.heap.size + 1) (by simp) ?_; intro g8 c9 w8 hown8 hgrow8 hg8 _; have HO8 := hid hown8; have HG8 := hid hgrow8; clear hown8 hgrow8 hg8; have hlt7 := HR7.out.lt; have HR8 : Hid (PAt w8 pb s (k, 0)) := hid (HR7.out.keep ((HG8.out.block pb (by rw [World.size_alloc]; omega) (fun e => by have := (HO7.out.lt pb e.symm).1; omega)).trans (Below.heap_alloc _ _ _ hlt7))); have HF8 : Hid (Fr (· = pb) w w8) := hid ((HF7.out.alloc _).grown HG8.out (fun g hg => .inl (HO7.out.lt g hg).1)); clear HR7 HF7 HO7 HG8; have c1 := HR8.out.row.cell (i := 1) rfl; have z1 := HR8.out.row.thaw 1; simp only at c1; have htl := HTL.out; rw [z05] at htl)
     have HQ9 : Hid (PAt (w8.setCell ⟨pb, 1, none⟩ (.int .i64 ((k : Int) + 1))) pb s (k + 1, 0)) := hid (PAt.on (S := (k, 0)) HR8.out)
     have HF9 : Hid (Fr (· = pb) w (w8.setCell ⟨pb, 1, none⟩ (.int .i64 ((k : Int) + 1)))) := hid (HF8.out.trans (z0d 1 _))
     have HO9 : Hid ((w8.setCell ⟨pb, 1, none⟩ (.int .i64 ((k : Int) + 1))).ownsRow w.heap.size 5 1 (.slice (some ⟨g8, 0, none⟩) (q + 1) c9) (q + 1) (Lib.byteCells acc ++ [.int .u8 c.toNat])) := hid (ze0 HO8.out ((But.refl pb w8).set 1 _) hlp)
     go_roundw
     case rel => exact ⟨acc ++ [c], f', (k + 1, 0), by rw [List.length_append, <- HLQ.out]; simp only [List.length_cons, List.length_nil]; omega, HNU, by rw [List.length_append, <- HLQ.out, z2m]; exact HO9, hid (by simp), HQ9, HF9, HW2, HE⟩
     case measure => simp only; omega
end Go.Proofs.YtdnedbcmgkilaaaGreatDoor.Dr

end
