/- The document's reader in memory: now, wrong, take; letters; a name. -/
import Derived.Test.YtdkkkeoicekdgaaGreatDoorZFg17
import Derived.Test.YtdkkkeoicekdgaaGreatDoorZFg15

section

namespace Go.Proofs.YtdkkkeoicekdgaaGreatDoor.Dr
set_option maxHeartbeats 1600000
set_option maxRecDepth 100000
open Go.Lib (hid)
open Go.RowKit Go.Proofs.YtdkkkeoicekdgaaGreatDoor
def PAt (w : World) (pb : Nat) (s : BA) (S : St) : Prop := w.heap[pb]? = some (.cells #[.string s, .int .i64 S.1, .int .i64 S.2] 241 (0, 0))
section
variable {w w' : World} {pb : Nat} {s : BA} {S : St}
theorem PAt.row (h : PAt w pb s S) : Row w pb 241 [.string s, .int .i64 S.1, .int .i64 S.2] := h
theorem PAt.lt (h : PAt w pb s S) : pb < w.heap.size := (Array.getElem?_eq_some_iff.1 h).1
theorem PAt.keep (h : PAt w pb s S) (hk : w'.heap[pb]? = w.heap[pb]?) : PAt w' pb s S := hk.trans h
theorem PAt.same (h : PAt w pb s S) (hk : Same w w') : PAt w' pb s S := h.keep (by rw [hk.heap])
theorem PAt.below (h : PAt w pb s S) (hk : Below w.heap.size w w') : PAt w' pb s S := h.keep (hk.block pb h.lt)
theorem PAt.alloc (h : PAt w pb s S) (o : Obj) : PAt (w.alloc o) pb s S := h.keep (Below.heap_alloc _ _ _ h.lt)
theorem PAt.drewN (h : PAt w pb s S) (n : Nat) : PAt (w.drewN n) pb s S := h
theorem PAt.on (h : PAt w pb s S) : PAt (w.setCell ⟨pb, 1, none⟩ (.int .i64 ((S.1 : Int) + 1))) pb s (S.1 + 1, S.2) := h.row.set 1 _
theorem PAt.bad (h : PAt w pb s S) (e : Nat) : PAt (w.setCell ⟨pb, 2, none⟩ (.int .i64 e)) pb s (S.1, e) := h.row.set 2 _
end
theorem z3t (c : UInt8) : wrap64 (c.toNat : Int) = c.toNat := by
 have := c.toNat_lt
 unfold wrap64; omega
def nowI (l : List UInt8) (S : St) : Int := match nowF l S with | some c => c.toNat | none => -1
theorem z0g {l : List UInt8} {S : St} {c : UInt8} (h : nowF l S = some c) : nowI l S = c.toNat := by unfold nowI; rw [h]
theorem z1r {l : List UInt8} {S : St} (h : nowF l S = none) : nowI l S = -1 := by unfold nowI; rw [h]
theorem z94 {l : List UInt8} {S : St} (c : UInt8) : (nowI l S == (c.toNat : Int)) = decide (nowF l S = some c) := by
 cases h : nowF l S with
 | none => rw [z1r h, decide_eq_false (by simp), beq_eq_false_iff_ne]; omega
 | some d =>
  rw [z0g h]
  by_cases e : d = c
  ·subst e; simp
  ·rw [decide_eq_false (by simpa using e), beq_eq_false_iff_ne]
   intro q; exact e (by rw [<- UInt8.toNat_inj]; omega)
theorem z1q (pb : Nat) (s : BA) (S : St) (w : World) (_ : s.size <= 2000) (hR : PAt w pb s S) :
  Calls Tryz.prog 226 #[.pointer (some ⟨pb, 0, none⟩)] w fun e w' => e = .returned (.int .i64 (nowI s.data.toList S)) /\ ∃ n, w' = w.drewN n := by
 obtain ⟨a, st⟩ := S;have c0 := hR.row.c0;have c1 := hR.row.c1;have c2 := hR.row.c2;simp only at c1 c2;clear hR
 by_cases h0 : st = 0
 ·subst h0
  simp only [Int.natCast_zero] at c2
  by_cases hlt : a < s.size
  ·have HE : Hid (nowI s.data.toList (a, 0) = s[a].toNat) := hid (z0g (z2w rfl (z3g s a hlt)))
   have b := z3t s[a];rw [HE.out]
   go_enter Tryz.func226, Tryz.ntmps226
   go_wp2
   go_quiet (fail)
   go_wp2
   go_quiet (fail)
   go_wp2;go_ret;exact ⟨z3v b, _, World.drewN_drewN _ _ _⟩
  ·have HE : Hid (nowI s.data.toList (a, 0) = -1) := hid (z1r (by unfold nowF; simp only [if_true]; exact get_no s a hlt))
   rw [HE.out]
   go_enter Tryz.func226, Tryz.ntmps226
   go_wp2
   go_quiet (fail)
   go_wp2;go_ret;exact ⟨rfl, _, rfl⟩
 ·have HE : Hid (nowI s.data.toList (a, st) = -1) := hid (z1r (z12 h0))
  have hB : ((st : Int) != 0) = true := by simp; omega
  rw [HE.out];clear h0
  go_enter Tryz.func226, Tryz.ntmps226
  go_wp2
  go_quiet (fail)
  go_wp2;go_ret;exact ⟨rfl, _, rfl⟩
theorem z15 (pb : Nat) (s : BA) (S : St) (w : World) (_ : s.size <= 2000) (hS : Wf s.data.toList S) (hR : PAt w pb s S) :
  Calls Tryz.prog 227 #[.pointer (some ⟨pb, 0, none⟩)] w fun e w' => e = .returned (.tuple #[]) /\ PAt w' pb s (failF s.data.toList S) /\ Fr (· = pb) w w' := by
 obtain ⟨a, st⟩ := S;have c0 := hR.row.c0;have c1 := hR.row.c1;have c2 := hR.row.c2;have z2 := hR.row.thaw 2;simp only at c1 c2;have HR := hid hR;have c := z3j hS;have b := z07 s;simp only at c;clear hR hS
 by_cases h0 : st = 0
 ·subst h0
  simp only [Int.natCast_zero] at c2;have d : Hid (PAt (w.setCell ⟨pb, 2, none⟩ (.int .i64 90)) pb s (a, 90)) := hid (HR.out.bad 90);have h : Hid (Fr (· = pb) w (w.setCell ⟨pb, 2, none⟩ (.int .i64 90))) := hid (z0k 2 _);have d0 := d.out.row.c0;have d1 := d.out.row.c1;simp only at d1
  by_cases hge : s.size <= a
  ·have HB : Hid (failF s.data.toList (a, 0) = (a, 10)) := hid (by unfold failF; rw [if_pos rfl, if_pos (by omega)])
   clear c b
   go_enter Tryz.func227, Tryz.ntmps227
   go_wp2
   go_quiet (fail)
   generalize hw0 : (w.setCell ⟨pb, 2, none⟩ (.int .i64 90)).drewN nq = w5
   have f : Same (w.setCell ⟨pb, 2, none⟩ (.int .i64 90)) w5 := by rw [<- hw0]; exact (Same.refl _).drewN _
   have g := hid (f.row d.out);have i := hid (h.out.trans (Fr.of_same f));clear f hw0 c0 c1 c2 z2 d0 d1;have c2 := g.out.c2;have z2 := g.out.thaw 2;go_wp2
   go_end0
   exact ⟨rfl, by rw [HB.out]; exact g.out.set 2 (.int .i64 10), i.out.trans (z0k 2 _)⟩
  ·have HB : Hid (failF s.data.toList (a, 0) = (a, 90)) := hid (by unfold failF; rw [if_pos rfl, if_neg (by omega)])
   clear c b
   go_enter Tryz.func227, Tryz.ntmps227
   go_wp2
   go_quiet (fail)
   go_wp2
   go_end0
   exact ⟨rfl, by rw [HB.out]; exact d.out, h.out.trans (Fr.of_same ((Same.refl _).drewN _))⟩
 ·have HB : Hid (failF s.data.toList (a, st) = (a, st)) := hid (z1i h0)
  have hB : ((st : Int) == 0) = false := by rw [beq_eq_false_iff_ne]; omega
  clear h0 c b
  go_enter Tryz.func227, Tryz.ntmps227
  go_wp2
  go_end0
  exact ⟨rfl, by rw [HB.out]; exact HR.out, Fr.refl _ _⟩
theorem z6a (pb : Nat) (s t : BA) (S : St) (w : World) (hs : s.size <= 2000) (ht : t.size <= 100) (hS : Wf s.data.toList S) (hR : PAt w pb s S) :
  Calls Tryz.prog 229 #[.pointer (some ⟨pb, 0, none⟩), .string t] w fun e w' => e = .returned (.tuple #[]) /\ PAt w' pb s (wordF s.data.toList t.data.toList S) /\ Fr (· = pb) w w' := by
 have HR := hid hR;have o := hid hS;clear hR hS
 go_enter Tryz.func229, Tryz.ntmps229
 go_wp2
 go_loopw [4] (fun i wr => ∃ (k : Nat) (T : St), k <= t.size /\ i = .int .i64 k /\ Hid (PAt wr pb s T) /\ Hid (Wf s.data.toList T) /\ Hid (Fr (· = pb) w wr) /\ Hid (wordF s.data.toList t.data.toList S = wordF s.data.toList (t.data.toList.drop k) T)) (fun i _ => t.size - (intOf i).toNat)
 case atStart => exact ⟨0, S, by omega, rfl, HR, o, hid (Fr.refl _ _), hid (by rw [List.drop_zero])⟩
 case round =>
  obtain ⟨k, T, hk, rfl, c, x, HF, HW⟩ := hrel;clear HR o
  by_cases hlt : k < t.size
  ·have hc := z3g t k hlt
   have HD := hid (HW.out.trans (by rw [z9g hc]));have A : k < t.data.size := hlt
   by_cases hb : nowF s.data.toList T = some t[k]
   ·have f := hid (HD.out.trans (z5k hb))
    obtain ⟨p, d⟩ := z0b hb;have y := hid (z0u hb)
    have hB : (nowI s.data.toList T != (t[k].toNat : Int)) = false := by rw [z0g hb]; simp
    have HN := hid (fun n => z1q pb s T (wr.drewN n) hs (c.out.drewN n));have HS : Hid (T.1 < s.size) := hid (by have := z0z d; simpa using this);obtain ⟨a, st⟩ := T;simp only at p d;subst p;have g := hB;rw [<- z3t t[k]] at g
    generalize nowI s.data.toList (a, 0) = v at *
    clear hb hc HW HD d;go_wp2
    go_quiet ((go_at_call 226; exact Calls.quiet_of (HN.out _)))
    generalize hw0 : wr.drewN nq = w2
    have b : Same wr w2 := by rw [<- hw0]; exact (Same.refl _).drewN _
    have h := hid (c.out.same b);have j := hid (HF.out.trans (Fr.of_same b));clear b hw0 HN;have c1 := h.out.row.c1;have z1 := h.out.row.thaw 1;simp only at c1;have HQ : Hid (PAt (w2.setCell ⟨pb, 1, none⟩ (.int .i64 ((a : Int) + 1))) pb s (a + 1, 0)) := hid (PAt.on (S := (a, 0)) h.out);have m : Hid (Fr (· = pb) w (w2.setCell ⟨pb, 1, none⟩ (.int .i64 ((a : Int) + 1)))) := hid (j.out.trans (z0k 1 _));have B := HS.out;go_wp2;go_roundw
    case rel => exact ⟨k + 1, (a + 1, 0), by omega, by go_num, HQ, y, m, f⟩
    case measure => simp [intOf]; omega
   ·have f := hid (HD.out.trans (z28 hb))
    have hB : (nowI s.data.toList T != (t[k].toNat : Int)) = true := by
     have := z94 (l := s.data.toList) (S := T) t[k];rw [decide_eq_false hb] at this
     rw [bne, this]; rfl
    have HN := hid (fun n => z1q pb s T (wr.drewN n) hs (c.out.drewN n));have g := hB;rw [<- z3t t[k]] at g
    generalize nowI s.data.toList T = v at *
    clear hb hc HW HD;go_wp2
    go_quiet ((go_at_call 226; exact Calls.quiet_of (HN.out _)))
    generalize hw0 : wr.drewN nq = w2
    have b : Same wr w2 := by rw [<- hw0]; exact (Same.refl _).drewN _
    have j := hid (HF.out.trans (Fr.of_same b));have q := hid (z15 pb s T w2 hs x.out (c.out.same b));clear b hw0 HN
    go_wp2_with fail
    refine q.out.mono ?_;rintro e w3 ⟨rfl, r, u⟩;have z := hid r;have m := hid (j.out.trans u);clear r u q;go_wp2;exact bodyPost_ret (v := .tuple #[]) (by simp [results, Tryz.results229, go_sem]) rfl ⟨rfl, by rw [f.out]; exact z.out, m.out⟩
  ·have C : ¬ k < t.size := hlt
   have HD := hid (HW.out.trans (by rw [List.drop_eq_nil_of_le (by rw [z07]; omega), wordF]));clear HW;go_wp2
   go_end0
   exact ⟨rfl, by rw [HD.out]; exact c.out, HF.out⟩
def ltI (n : Int) : Bool := decide (97 <= n) && decide (n <= 122)
def wrdI (n : Int) : Bool := ltI n || (decide (48 <= n) && decide (n <= 57)) || (n == 95)
theorem z98 (c : UInt8) : ltI c.toNat = isLet c := by
 unfold ltI isLet
 congr 1
 ·exact decide_eq_decide.2 (by omega)
 ·exact decide_eq_decide.2 (by omega)
theorem z9u (c : UInt8) : wrdI c.toNat = isWrd c := by
 unfold wrdI isWrd isDig
 rw [z98]
 congr 1
 ·congr 1
  congr 1
  ·exact decide_eq_decide.2 (by omega)
  ·exact decide_eq_decide.2 (by omega)
 ·by_cases h : c = 95
  ·subst h; rfl
  ·rw [beq_eq_false_iff_ne.2 h, beq_eq_false_iff_ne]
   intro e; exact h (by rw [<- UInt8.toNat_inj]; exact Int.ofNat.inj e)
theorem ltI_now (l : List UInt8) (S : St) : ltI (nowI l S) = isNow l isLet S := by
 unfold isNow
 cases h : nowF l S with
 | none => rw [z1r h]; rfl
 | some c => rw [z0g h]; exact z98 c
theorem zd0 (l : List UInt8) (S : St) : wrdI (nowI l S) = isNow l isWrd S := by
 unfold isNow
 cases h : nowF l S with
 | none => rw [z1r h]; rfl
 | some c => rw [z0g h]; exact z9u c
theorem z2r (n : Int) (w : World) : Calls Tryz.prog 275 #[.int .i64 n] w fun e w' => e = .returned (.bool (ltI n)) /\ w' = w := by
 by_cases h1 : 97 <= n
 ·by_cases h2 : n <= 122
  all_goals
   have HE : Hid (ltI n = decide (n <= 122)) := hid (by unfold ltI; rw [decide_eq_true h1]; rfl)
   go_enter Tryz.func275, Tryz.ntmps275
   go_wp2;go_ret;exact ⟨z01 (by rw [HE.out]; simp [h2]), rfl⟩
 ·have HE : Hid (ltI n = false) := hid (by unfold ltI; rw [decide_eq_false h1]; rfl)
  have a : decide (97 <= n) = false := decide_eq_false h1
  go_enter Tryz.func275, Tryz.ntmps275
  go_wp2;go_ret;exact ⟨z01 HE.out.symm, rfl⟩
theorem z5j (n : Int) (w : World) : Calls Tryz.prog 276 #[.int .i64 n] w fun e w' => e = .returned (.bool (wrdI n)) /\ w' = w := by
 have HL := hid (z2r n w)
 cases hl : ltI n with
 | true =>
  rw [hl] at HL;have HE : Hid (wrdI n = true) := hid (by unfold wrdI; rw [hl]; rfl);clear hl
  go_enter Tryz.func276, Tryz.ntmps276
  go_wp2_with fail
  refine HL.out.mono ?_;rintro e w2 ⟨rfl, rfl⟩;go_wp2;go_ret;exact ⟨z01 HE.out.symm, rfl⟩
 | false =>
  rw [hl] at HL;have HE : Hid (wrdI n = ((decide (48 <= n) && decide (n <= 57)) || (n == 95))) := hid (by unfold wrdI; rw [hl]; simp);clear hl
  by_cases h1 : 48 <= n
  ·by_cases h2 : n <= 57
   ·have HF : Hid (wrdI n = true) := hid (by rw [HE.out, decide_eq_true h1, decide_eq_true h2]; rfl)
    have b1 : decide (48 <= n) = true := decide_eq_true h1;have b2 : decide (n <= 57) = true := decide_eq_true h2;clear HE
    go_enter Tryz.func276, Tryz.ntmps276
    go_wp2_with fail
    refine HL.out.mono ?_;rintro e w2 ⟨rfl, rfl⟩;go_wp2;go_ret;exact ⟨z01 HF.out.symm, rfl⟩
   ·have HF : Hid (wrdI n = (n == 95)) := hid (by rw [HE.out, decide_eq_false h2]; simp)
    have b2 : decide (n <= 57) = false := decide_eq_false h2;clear HE
    go_enter Tryz.func276, Tryz.ntmps276
    go_wp2_with fail
    refine HL.out.mono ?_;rintro e w2 ⟨rfl, rfl⟩;go_wp2;go_ret;exact ⟨z01 HF.out.symm, rfl⟩
  ·have HF : Hid (wrdI n = (n == 95)) := hid (by rw [HE.out, decide_eq_false h1]; simp)
   have b1 : decide (48 <= n) = false := decide_eq_false h1;clear HE
   go_enter Tryz.func276, Tryz.ntmps276
   go_wp2_with fail
   refine HL.out.mono ?_;rintro e w2 ⟨rfl, rfl⟩;go_wp2;go_ret;exact ⟨z01 HF.out.symm, rfl⟩
end Go.Proofs.YtdkkkeoicekdgaaGreatDoor.Dr

end

section

namespace Go.Proofs.YtdkkkeoicekdgaaGreatDoor.Dr
set_option maxHeartbeats 3200000
set_option maxRecDepth 100000
open Go.Lib (hid)
open Go.RowKit Go.Proofs.YtdkkkeoicekdgaaGreatDoor
theorem za7 (t : BA) (w : World) (ht : t.size <= 140737488351232) : Calls Tryz.prog 257 #[.string t] w fun e w' => e = .returned (.bool (nameB t.data.toList)) /\ w' = w := by
 have g := z07 t;have a := hid g;clear g
 go_enter Tryz.func257, Tryz.ntmps257
 go_wp2
 go_loop [3] (fun i => ∃ k : Nat, i = .int .i64 k /\ k <= t.size /\ Hid ((t.data.toList.take k).all isWrd = true)) (fun i => t.size - (intOf i).toNat)
 case atStart => exact ⟨0, rfl, by omega, hid rfl⟩
 case round =>
  obtain ⟨k, rfl, hk, HA⟩ := hrel
  by_cases hlt : k < t.size
  ·have f := hid (z3g t k hlt)
   have m : (k : Int) < (t.size : Int) := by omega
   obtain ⟨c, h⟩ : ∃ c, t[k] = c := ⟨_, rfl⟩;rw [h] at f;have HW := hid (fun W => z5j (c.toNat : Int) W);rw [z9u] at HW;have j := z3t c
   cases hc : isWrd c with
   | true =>
    have l := hid (z6b f.out hc HA.out);rw [hc] at HW;clear hc
    go_wp2_with fail
    refine (HW.out _).mono ?_;rintro e w1 ⟨rfl, rfl⟩;go_wp2
    go_round
    case rel => exact ⟨k + 1, by go_num, by omega, l⟩
    case measure => simp [intOf]; omega
   | false =>
    have HF := hid (zdp f.out hc);rw [hc] at HW;clear hc
    go_wp2_with fail
    refine (HW.out _).mono ?_;rintro e w1 ⟨rfl, rfl⟩;go_wp2;go_ret;exact ⟨z01 HF.out.symm, rfl⟩
  ·have n : ¬ (k : Int) < (t.size : Int) := by omega
   have hA : t.data.toList.all isWrd = true := by
    have := HA.out;rw [List.take_of_length_le (by rw [a.out]; omega)] at this;exact this
   by_cases h0 : t.size < 1
   ·have HF : Hid (nameB t.data.toList = false) := hid (by
     cases hl : t.data.toList with
     | nil => rfl
     | cons c r => have := a.out; rw [hl] at this; simp at this; omega)
    have b1 : ¬ (1 : Int) <= (t.size : Int) := by omega
    have b2 : decide ((1 : Int) <= (t.size : Int)) = false := decide_eq_false b1;clear hA;go_wp2;go_ret;exact ⟨z01 HF.out.symm, rfl⟩
   have b := z3g t 0 (by omega)
   by_cases h1 : 32 < t.size
   ·have HF : Hid (nameB t.data.toList = false) := hid (by rw [z4e b, decide_eq_false (by rw [a.out]; omega)]; rfl)
    have b1 : (1 : Int) <= (t.size : Int) := by omega
    have b2 : ¬ (t.size : Int) <= 32 := by omega
    have b3 : decide ((1 : Int) <= (t.size : Int)) = true := decide_eq_true b1;have b4 : decide ((t.size : Int) <= 32) = false := decide_eq_false b2;clear hA b;go_wp2;go_ret;exact ⟨z01 HF.out.symm, rfl⟩
   have o : 0 < t.size := by omega
   have HF : Hid (nameB t.data.toList = isLet t[0]) := hid (by rw [z4e b, decide_eq_true (by rw [a.out]; omega), hA]; simp);obtain ⟨d, hd⟩ : ∃ d, t[0] = d := ⟨_, rfl⟩;rw [hd] at HF;have HW := hid (fun W => z2r (d.toNat : Int) W);rw [z98] at HW;have j := z3t d
   have b1 : (1 : Int) <= (t.size : Int) := by omega
   have b2 : (t.size : Int) <= 32 := by omega
   have b3 : decide ((1 : Int) <= (t.size : Int)) = true := decide_eq_true b1;have b4 : decide ((t.size : Int) <= 32) = true := decide_eq_true b2;clear hA b
   go_wp2_with fail
   refine (HW.out _).mono ?_;rintro e w1 ⟨rfl, rfl⟩;go_wp2;go_ret;exact ⟨z01 HF.out.symm, rfl⟩
theorem z9d : ∀ (r : List UInt8) (n m : Nat), r.all isDig = true -> n < 10 ^ m -> r.foldl nx n < 10 ^ (m + r.length)
 | [], n, m, _, h => by simpa using h
 | c :: r, n, m, ha, h => by
  simp only [List.all_cons, Bool.and_eq_true] at ha;have hc := z2d.1 ha.1
  have h1 : nx n c < 10 ^ (m + 1) := by rw [z4l, Nat.pow_succ]; omega
  have := z9d r (nx n c) (m + 1) ha.2 h1;rw [List.foldl_cons, List.length_cons, show m + (r.length + 1) = m + 1 + r.length by omega];exact this
theorem rkey_no (t : BA) (w : World) (ht : t.size <= 140737488351232) : Calls Tryz.prog 277 #[.bool false, .string t] w fun e w' => e = .returned (.bool (nameB t.data.toList)) /\ w' = w := by
 have HN := hid (za7 t w ht)
 go_enter Tryz.func277, Tryz.ntmps277
 go_wp2_with fail
 refine HN.out.mono ?_;rintro e w1 ⟨rfl, rfl⟩;go_wp2;go_ret;exact ⟨rfl, rfl⟩
theorem zd7 (t : BA) (w : World) (ht : t.size <= 140737488351232) : Calls Tryz.prog 277 #[.bool true, .string t] w fun e w' => e = .returned (.bool (pkeyB t.data.toList)) /\ w' = w := by
 by_cases hzero : t.data.toList = [122, 101, 114, 111]
 ·have HE : Hid (pkeyB t.data.toList = true) := hid (by rw [hzero]; decide)
  obtain rfl := z2e hzero;clear hzero
  go_enter Tryz.func277, Tryz.ntmps277
  go_wp2;go_ret;exact ⟨z01 HE.out.symm, rfl⟩
 by_cases hone : t.data.toList = [111, 110, 101]
 ·have HE : Hid (pkeyB t.data.toList = true) := hid (by rw [hone]; decide)
  obtain rfl := z2e hone;clear hone
  go_enter Tryz.func277, Tryz.ntmps277
  go_wp2;go_ret;exact ⟨z01 HE.out.symm, rfl⟩
 by_cases htwo : t.data.toList = [116, 119, 111]
 ·have HE : Hid (pkeyB t.data.toList = true) := hid (by rw [htwo]; decide)
  obtain rfl := z2e htwo;clear htwo
  go_enter Tryz.func277, Tryz.ntmps277
  go_wp2;go_ret;exact ⟨z01 HE.out.symm, rfl⟩
 by_cases hfew : t.data.toList = [102, 101, 119]
 ·have HE : Hid (pkeyB t.data.toList = true) := hid (by rw [hfew]; decide)
  obtain rfl := z2e hfew;clear hfew
  go_enter Tryz.func277, Tryz.ntmps277
  go_wp2;go_ret;exact ⟨z01 HE.out.symm, rfl⟩
 by_cases hmany : t.data.toList = [109, 97, 110, 121]
 ·have HE : Hid (pkeyB t.data.toList = true) := hid (by rw [hmany]; decide)
  obtain rfl := z2e hmany;clear hmany
  go_enter Tryz.func277, Tryz.ntmps277
  go_wp2;go_ret;exact ⟨z01 HE.out.symm, rfl⟩
 by_cases hother : t.data.toList = [111, 116, 104, 101, 114]
 ·have HE : Hid (pkeyB t.data.toList = true) := hid (by rw [hother]; decide)
  obtain rfl := z2e hother;clear hother
  go_enter Tryz.func277, Tryz.ntmps277
  go_wp2;go_ret;exact ⟨z01 HE.out.symm, rfl⟩
 have C := z2t hzero;have O := z2t hone;have R := z2t htwo;have T := z2t hfew;have D := z2t hmany;have B := z2t hother;have b : Hid (pkeyB t.data.toList = eqB t.data.toList) := hid (by rw [zc4]; simp [hzero, hone, htwo, hfew, hmany, hother]);have u := hid (z07 t);clear hzero hone htwo hfew hmany hother
 by_cases h2 : t.size < 2
 ·have HF : Hid (pkeyB t.data.toList = false) := hid (by
   rw [b.out]
   cases hl : t.data.toList with
   | nil => rfl
   | cons c r =>
    have f := u.out;rw [hl] at f;simp only [List.length_cons] at f
    cases r with
    | nil =>
     unfold eqB
     split
     ·rename_i e; injection e with _ e2; rw [<- e2]; rfl
     ·rfl
    | cons d r => simp only [List.length_cons] at f; omega)
  have b1 : (t.size : Int) < 2 := by omega
  have b2 : decide ((t.size : Int) < 2) = true := decide_eq_true b1;clear h2
  go_enter Tryz.func277, Tryz.ntmps277
  go_wp2;go_ret;exact ⟨z01 HF.out.symm, rfl⟩
 have E : 0 < t.size := by omega
 have F : 1 < t.size := by omega
 obtain ⟨c0, h0⟩ : ∃ c0, t[0] = c0 := ⟨_, rfl⟩;obtain ⟨c1, h1⟩ : ∃ c1, t[1] = c1 := ⟨_, rfl⟩
 obtain ⟨r, HR⟩ : ∃ r, Hid (t.data.toList = c0 :: c1 :: r) := by
  have e0 := z3g t 0 E;have e1 := z3g t 1 F;rw [h0] at e0;rw [h1] at e1
  cases hl : t.data.toList with
  | nil => rw [hl] at e0; cases e0
  | cons x xs =>
   rw [hl] at e0 e1
   cases xs with
   | nil => cases e1
   | cons y ys =>
    obtain rfl : x = c0 := by simpa using e0
    obtain rfl : y = c1 := by simpa using e1
    exact ⟨ys, hid rfl⟩
 have g : Hid (t.size = r.length + 2) := hid (by have := u.out; rw [HR.out] at this; simp only [List.length_cons] at this; omega);have U := c0.toNat_lt;have V := c1.toNat_lt
 have b1 : ¬ (t.size : Int) < 2 := by omega
 have b2 : decide ((t.size : Int) < 2) = false := decide_eq_false b1;clear h2
 by_cases h8 : 8 < t.size
 ·have HF : Hid (pkeyB t.data.toList = false) := hid (by
   rw [b.out, HR.out]
   unfold eqB
   split
   ·rename_i e
    injection e with e1 e2
    subst e2;simp only [numB];have := g.out;rw [decide_eq_false (show ¬ r.length <= 6 by omega)]
    simp
   ·rfl)
  have b3 : (8 : Int) < (t.size : Int) := by omega
  have b4 : decide ((8 : Int) < (t.size : Int)) = true := decide_eq_true b3;clear h8
  go_enter Tryz.func277, Tryz.ntmps277
  go_wp2;go_ret;exact ⟨z01 HF.out.symm, rfl⟩
 have b3 : ¬ (8 : Int) < (t.size : Int) := by omega
 have b4 : decide ((8 : Int) < (t.size : Int)) = false := decide_eq_false b3
 by_cases h61 : c0 = 61
 rotate_left
 ·have HF : Hid (pkeyB t.data.toList = false) := hid (by
   rw [b.out, HR.out]
   unfold eqB
   split
   ·rename_i e; injection e with e1 e2; exact absurd e1 h61
   ·rfl)
  have b5 : ((c0.toNat : Int) != (61 : Int)) = true := by
   have := zf1 (d := 61) h61;rw [bne]
   rw [show ((c0.toNat : Int) == (61 : Int)) = false from this]; rfl
  clear h61
  go_enter Tryz.func277, Tryz.ntmps277
  go_wp2;go_ret;exact ⟨z01 HF.out.symm, rfl⟩
 have h : Hid (pkeyB t.data.toList = numB (c1 :: r)) := hid (by rw [b.out, HR.out, h61]; rfl);subst h61;clear b
 by_cases h48 : c1 = 48 /\ 2 < t.size
 ·have HF : Hid (pkeyB t.data.toList = false) := hid (by
   rw [h.out, h48.1];have o := g.out;have h3 := h48.2
   cases r with
   | nil => simp only [List.length_nil] at o; omega
   | cons d r => simp [numB])
  obtain ⟨q1, q2⟩ := h48;subst q1
  have b5 : (2 : Int) < (t.size : Int) := by omega
  have b6 : decide ((2 : Int) < (t.size : Int)) = true := decide_eq_true b5;clear q2
  go_enter Tryz.func277, Tryz.ntmps277
  go_wp2;go_ret;exact ⟨z01 HF.out.symm, rfl⟩
 have p : Hid (numB (c1 :: r) = ((c1 :: r).all isDig && decide ((c1 :: r).foldl nx 0 <= 1000000))) := hid (by
  have o := g.out;simp only [numB];rw [decide_eq_true (show r.length <= 6 by omega)]
  have : (c1 != 48 || r.isEmpty) = true := by
   by_cases e : c1 = 48
   ·have hr : r.length = 0 := by
     rcases Nat.eq_zero_or_pos r.length with z | z
     ·exact z
     ·exact absurd ⟨e, by omega⟩ h48
    rw [List.length_eq_zero_iff.1 hr]; simp
   ·simp [e]
  rw [this]; simp)
 have v : Hid (t.size <= 8) := hid (by omega)
 by_cases hq : c1 = 48
 ·have G : ¬ 2 < t.size := fun e => h48 ⟨hq, e⟩
  have b5 : ¬ (2 : Int) < (t.size : Int) := by omega
  have b6 : decide ((2 : Int) < (t.size : Int)) = false := decide_eq_false b5
  have H : ((c1.toNat : Int) == (48 : Int)) = true := by rw [hq]; rfl
  clear h48 G hq
  go_enter Tryz.func277, Tryz.ntmps277
  go_wp2
  go_loopw [5, 6] (fun nv i wr => ∃ (k N : Nat), 1 <= k /\ k <= t.size /\ i = .int .i64 k /\ nv = .int .i64 N /\ N < 100000000 /\ Hid (N = ((c1 :: r).take (k - 1)).foldl nx 0) /\ Hid (((c1 :: r).take (k - 1)).all isDig = true) /\ wr = w) (fun _ i _ => t.size - (intOf i).toNat)
  case atStart => exact ⟨1, 0, by omega, by omega, rfl, rfl, by omega, hid rfl, hid rfl, rfl⟩
  case round =>
   obtain ⟨k, N, I, hk, rfl, rfl, hN, HN, HA, rfl⟩ := hrel
   by_cases hlt : k < t.size
   ·have j := hid (z3g t k hlt)
    have A : (k : Int) < (t.size : Int) := by omega
    obtain ⟨c, q⟩ : ∃ c, t[k] = c := ⟨_, rfl⟩;rw [q] at j
    have HG : Hid ((c1 :: r)[k - 1]? = some c) := hid (by
     have := j.out;rw [HR.out, show k = (k - 1) + 1 by omega, List.getElem?_cons_succ] at this
     exact this)
    have HT := hid (take_one HG.out);have J := c.toNat_lt
    by_cases hd : 48 <= c.toNat /\ c.toNat <= 57
    ·have g1 : ¬ (c.toNat : Int) < 48 := by omega
     have g2 : ¬ (57 : Int) < (c.toNat : Int) := by omega
     have g3 : decide ((c.toNat : Int) < 48) = false := decide_eq_false g1;have g4 : decide ((57 : Int) < (c.toNat : Int)) = false := decide_eq_false g2;have l : isDig c = true := z2d.2 hd
     have m : Hid (((c1 :: r).take (k + 1 - 1)).all isDig = true) := hid (by
      rw [show k + 1 - 1 = k - 1 + 1 by omega, HT.out, List.all_append, HA.out]; simp [l])
     obtain ⟨N2, a⟩ : ∃ N2, Hid (N2 = nx N c) := ⟨_, hid rfl⟩
     have n : Hid (N2 = ((c1 :: r).take (k + 1 - 1)).foldl nx 0) := hid (by
      rw [show k + 1 - 1 = k - 1 + 1 by omega, HT.out, List.foldl_append, <- HN.out, a.out]; rfl)
     have L : 10 * (N : Int) + ((c.toNat : Int) - 48) = (N2 : Int) := by have := a.out; rw [z4l] at this; omega
     have s : N2 < 100000000 := by
      have h1 := z9d _ 0 0 m.out (by omega);rw [<- n.out] at h1
      have h2 : ((c1 :: r).take (k + 1 - 1)).length <= 8 := by rw [List.length_take]; have := v.out; omega
      have h3 : 10 ^ (0 + ((c1 :: r).take (k + 1 - 1)).length) <= 10 ^ 8 := Nat.pow_le_pow_right (by omega) (by omega);exact Nat.lt_of_lt_of_le h1 h3
     clear l;go_wp2;go_roundw
     case rel => exact ⟨k + 1, N2, by omega, by omega, by go_num, by go_num, s, n, m, trivial⟩
     case measure => simp [intOf]; omega
    ·have HF : Hid (pkeyB t.data.toList = false) := hid (by
      rw [h.out, p.out]
      have : (c1 :: r).all isDig = false := by
       rw [List.all_eq_false];refine ⟨c, List.mem_iff_getElem?.2 ⟨_, HG.out⟩, ?_⟩
       intro e; exact hd (z2d.1 e)
      rw [this]; rfl)
     by_cases h5 : c.toNat < 48
     ·have g1 : (c.toNat : Int) < 48 := by omega
      have g3 : decide ((c.toNat : Int) < 48) = true := decide_eq_true g1;clear hd;go_wp2;go_ret;exact ⟨z01 HF.out.symm, rfl⟩
     ·have g1 : ¬ (c.toNat : Int) < 48 := by omega
      have g2 : (57 : Int) < (c.toNat : Int) := by omega
      have g3 : decide ((c.toNat : Int) < 48) = false := decide_eq_false g1;have g4 : decide ((57 : Int) < (c.toNat : Int)) = true := decide_eq_true g2;clear hd;go_wp2;go_ret;exact ⟨z01 HF.out.symm, rfl⟩
   ·have M : ¬ (k : Int) < (t.size : Int) := by omega
    have HF : Hid (pkeyB t.data.toList = decide (N <= 1000000)) := hid (by
     have o := g.out;have h1 : (c1 :: r).take (k - 1) = c1 :: r := List.take_of_length_le (by simp only [List.length_cons]; omega);have h2 := HA.out;have h3 := HN.out;rw [h1] at h2 h3
     rw [h.out, p.out, h2, <- h3]; rfl)
    go_wp2;go_ret;exact ⟨z01 (by rw [HF.out]; exact decide_eq_decide.2 (by omega)), rfl⟩
 ·have H : ((c1.toNat : Int) == (48 : Int)) = false := zf1 (d := 48) hq
  clear h48 hq
  go_enter Tryz.func277, Tryz.ntmps277
  go_wp2
  go_loopw [5, 6] (fun nv i wr => ∃ (k N : Nat), 1 <= k /\ k <= t.size /\ i = .int .i64 k /\ nv = .int .i64 N /\ N < 100000000 /\ Hid (N = ((c1 :: r).take (k - 1)).foldl nx 0) /\ Hid (((c1 :: r).take (k - 1)).all isDig = true) /\ wr = w) (fun _ i _ => t.size - (intOf i).toNat)
  case atStart => exact ⟨1, 0, by omega, by omega, rfl, rfl, by omega, hid rfl, hid rfl, rfl⟩
  case round =>
   obtain ⟨k, N, I, hk, rfl, rfl, hN, HN, HA, rfl⟩ := hrel
   by_cases hlt : k < t.size
   ·have j := hid (z3g t k hlt)
    have A : (k : Int) < (t.size : Int) := by omega
    obtain ⟨c, q⟩ : ∃ c, t[k] = c := ⟨_, rfl⟩;rw [q] at j
    have HG : Hid ((c1 :: r)[k - 1]? = some c) := hid (by
     have := j.out;rw [HR.out, show k = (k - 1) + 1 by omega, List.getElem?_cons_succ] at this
     exact this)
    have HT := hid (take_one HG.out);have J := c.toNat_lt
    by_cases hd : 48 <= c.toNat /\ c.toNat <= 57
    ·have g1 : ¬ (c.toNat : Int) < 48 := by omega
     have g2 : ¬ (57 : Int) < (c.toNat : Int) := by omega
     have g3 : decide ((c.toNat : Int) < 48) = false := decide_eq_false g1;have g4 : decide ((57 : Int) < (c.toNat : Int)) = false := decide_eq_false g2;have l : isDig c = true := z2d.2 hd
     have m : Hid (((c1 :: r).take (k + 1 - 1)).all isDig = true) := hid (by
      rw [show k + 1 - 1 = k - 1 + 1 by omega, HT.out, List.all_append, HA.out]; simp [l])
     obtain ⟨N2, a⟩ : ∃ N2, Hid (N2 = nx N c) := ⟨_, hid rfl⟩
     have n : Hid (N2 = ((c1 :: r).take (k + 1 - 1)).foldl nx 0) := hid (by
      rw [show k + 1 - 1 = k - 1 + 1 by omega, HT.out, List.foldl_append, <- HN.out, a.out]; rfl)
     have L : 10 * (N : Int) + ((c.toNat : Int) - 48) = (N2 : Int) := by have := a.out; rw [z4l] at this; omega
     have s : N2 < 100000000 := by
      have h1 := z9d _ 0 0 m.out (by omega);rw [<- n.out] at h1
      have h2 : ((c1 :: r).take (k + 1 - 1)).length <= 8 := by rw [List.length_take]; have := v.out; omega
      have h3 : 10 ^ (0 + ((c1 :: r).take (k + 1 - 1)).length) <= 10 ^ 8 := Nat.pow_le_pow_right (by omega) (by omega);exact Nat.lt_of_lt_of_le h1 h3
     clear l;go_wp2;go_roundw
     case rel => exact ⟨k + 1, N2, by omega, by omega, by go_num, by go_num, s, n, m, trivial⟩
     case measure => simp [intOf]; omega
    ·have HF : Hid (pkeyB t.data.toList = false) := hid (by
      rw [h.out, p.out]
      have : (c1 :: r).all isDig = false := by
       rw [List.all_eq_false];refine ⟨c, List.mem_iff_getElem?.2 ⟨_, HG.out⟩, ?_⟩
       intro e; exact hd (z2d.1 e)
      rw [this]; rfl)
     by_cases h5 : c.toNat < 48
     ·have g1 : (c.toNat : Int) < 48 := by omega
      have g3 : decide ((c.toNat : Int) < 48) = true := decide_eq_true g1;clear hd;go_wp2;go_ret;exact ⟨z01 HF.out.symm, rfl⟩
     ·have g1 : ¬ (c.toNat : Int) < 48 := by omega
      have g2 : (57 : Int) < (c.toNat : Int) := by omega
      have g3 : decide ((c.toNat : Int) < 48) = false := decide_eq_false g1;have g4 : decide ((57 : Int) < (c.toNat : Int)) = true := decide_eq_true g2;clear hd;go_wp2;go_ret;exact ⟨z01 HF.out.symm, rfl⟩
   ·have M : ¬ (k : Int) < (t.size : Int) := by omega
    have HF : Hid (pkeyB t.data.toList = decide (N <= 1000000)) := hid (by
     have o := g.out;have h1 : (c1 :: r).take (k - 1) = c1 :: r := List.take_of_length_le (by simp only [List.length_cons]; omega);have h2 := HA.out;have h3 := HN.out;rw [h1] at h2 h3
     rw [h.out, p.out, h2, <- h3]; rfl)
    go_wp2;go_ret;exact ⟨z01 (by rw [HF.out]; exact decide_eq_decide.2 (by omega)), rfl⟩
end Go.Proofs.YtdkkkeoicekdgaaGreatDoor.Dr

end
