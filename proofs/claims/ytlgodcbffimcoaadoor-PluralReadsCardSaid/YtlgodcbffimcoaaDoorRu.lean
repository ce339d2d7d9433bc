/- The document's Parse, walked. -/
import Derived.Test.YtlgodcbffimcoaaDoorRq
namespace Go.Proofs.YtlgodcbffimcoaaDoor
open Go.RowKit

theorem rrel_ge (l : List UInt8) (S : St) (b : Bool) : S.1 ≤ (rRel l S b).2.1.1 ∧ (S.1 ≤ l.length → (rRel l S b).2.1.1 ≤ l.length) := by
  have h := (rel_agr l S b).1
  rw [h, gd_fst]; exact ge_rel l S
theorem rrel_dead {l : List UInt8} {S : St} {b : Bool} (hs : (relF l S).2.2 = true) : (rRel l S b).2.1.2 = true := by
  have h := (rel_agr l S b).1
  cases hq : (rRel l S b).2.1.2 with
  | true => rfl
  | false =>
    rw [h] at hq
    have := (gd_live hq).2
    rw [hs] at this; cases this
theorem rrel_adv {l : List UInt8} {c : UInt8} {r : List UInt8} {S : St} {b : Bool} (hl : S.2 = false) : (rRel l (wordF l (c :: r) S) b).2.1.2 = true ∨ S.1 + 1 ≤ (rRel l (wordF l (c :: r) S) b).2.1.1 := by
  obtain ⟨a, st⟩ := S
  simp only at hl
  subst hl
  rcases rel_adv l c r a with h | h
  · exact .inl (rrel_dead h)
  · right
    have q := (rel_agr l (wordF l (c :: r) (a, false)) b).1
    rw [q, gd_fst]; exact h
theorem loop_no {l : List UInt8} {f : Nat} {d : Rule} {c : List Rl} {S : St} {b : Bool} (h : ¬ (S.2 = false ∧ S.1 < l.length)) : rLoop l f d c S b = (d ++ [c], S, b) := by
  cases f with
  | zero => rw [rLoop]
  | succ f => rw [rLoop, if_neg h]
theorem loop_and {l : List UInt8} {f : Nat} {d : Rule} {c : List Rl} {S : St} {b : Bool} (h : S.2 = false ∧ S.1 < l.length) (hn : nowF l (wordF l [32] S) = some 97) :
    rLoop l (f + 1) d c S b = rLoop l f d (c ++ [(rRel l (wordF l [32, 97, 110, 100, 32] S) b).1]) (rRel l (wordF l [32, 97, 110, 100, 32] S) b).2.1 (rRel l (wordF l [32, 97, 110, 100, 32] S) b).2.2 := by
  have hw : wordF l [97, 110, 100, 32] (wordF l [32] S) = wordF l [32, 97, 110, 100, 32] S := (word_app l [32] [97, 110, 100, 32] _).symm
  rw [rLoop, if_pos h, if_pos hn, hw]
theorem loop_or {l : List UInt8} {f : Nat} {d : Rule} {c : List Rl} {S : St} {b : Bool} (h : S.2 = false ∧ S.1 < l.length) (hn : nowF l (wordF l [32] S) ≠ some 97) :
    rLoop l (f + 1) d c S b = rLoop l f (d ++ [c]) [(rRel l (wordF l [32, 111, 114, 32] S) b).1] (rRel l (wordF l [32, 111, 114, 32] S) b).2.1 (rRel l (wordF l [32, 111, 114, 32] S) b).2.2 := by
  have hw : wordF l [111, 114, 32] (wordF l [32] S) = wordF l [32, 111, 114, 32] S := (word_app l [32] [111, 114, 32] _).symm
  rw [rLoop, if_pos h, if_neg hn, hw]
/-- How far the document's reader is from its end. -/
def plq (m pb : Nat) (w : World) : Nat := 2 * plc m pb w + (match w.cell? ⟨pb, 2, none⟩ with | some (.int _ 0) => 1 | _ => 0)
theorem plq_at {m pb : Nat} {w : World} {s : BA} {S : St} {b : Bool} (h : PAt w pb s S b) : plq m pb w = 2 * (m - S.1) + (if S.2 then 0 else 1) := by
  have c2 := h.row.cell (i := 2) rfl
  unfold plq; rw [plc_p h, c2]
  cases hS : S.2 with
  | false =>
    have : badN s S = 0 := by unfold badN; rw [hS]; rfl
    rw [this]; rfl
  | true =>
    by_cases hle : s.size ≤ S.1
    · have : badN s S = 10 := by unfold badN; rw [hS]; simp [hle]
      rw [this]; rfl
    · have : badN s S = 80 := by unfold badN; rw [hS]; simp [hle]
      rw [this]; rfl
/-- The rule that has been read lies whole. -/
theorem RpU.full {s : BA} {w wr : World} {g1 c1 g2 c2 : Nat} {done : Rule} {cur : List Rl} {vs us : List Value} {T : St} {b : Bool} (h : RpU s w wr g1 c1 g2 c2 done cur vs us T b) : SlW wr (Ty [55, 49, 51] wr) (.slice (some ⟨g1, 0, none⟩) (done ++ [cur]).length c1) (done ++ [cur]) := by
  have hcur : SlR wr (Ty [55, 49] wr) (.slice (some ⟨g2, 0, none⟩) cur.length c2) cur :=
    Sl.of_owns h.own2 (h.cat2.mono (fun _ _ hx => CR.keep (fun _ _ => rfl) (fun b hb => hb.mono (by simp)) hx)) (fun b cs z hh => ⟨cs, 49, z, hh, by simp⟩)
  have hown := h.own
  have hl : (done ++ [cur]).length = done.length + 1 := by simp
  rw [← hl] at hown
  rw [hl] at hown ⊢
  refine Sl.of_owns (k := 1) (C := CW wr (Ty [55, 49, 51] wr)) (xs := done ++ [cur]) (vs := vs ++ [.slice (some ⟨g2, 0, none⟩) cur.length c2]) (by rw [hl]; exact h.own) ?_ (fun b cs z hh => ⟨cs, 51, z, hh, by simp⟩)
  exact Cat.snoc (k := 1) (C := CW wr (Ty [55, 49, 51] wr)) (cs := [.slice (some ⟨g2, 0, none⟩) cur.length c2]) rfl ⟨_, rfl, SlR.keep (fun _ _ => rfl) (fun b hb => hb.mono (by simp)) hcur⟩ (h.cat.mono (fun _ _ hx => CW.keep (fun _ _ => rfl) (fun b hb => hb.1.mono (by simp)) hx))
theorem RpU.last {s : BA} {w wr : World} {g1 c1 g2 c2 n : Nat} {done : Rule} {cur : List Rl} {vs us : List Value} {T : St} {b : Bool} (h : RpU s w wr g1 c1 g2 c2 done cur vs us T b) (hn : n = done.length) : wr.cell? ⟨g1, n, none⟩ = some (.slice (some ⟨g2, 0, none⟩) cur.length c2) := by
  rw [h.own.cellAt n (by omega)]
  have : vs.length = n := by rw [h.vl, hn]
  rw [← this]; simp
theorem RpU.thawed {s : BA} {w wr : World} {g1 c1 g2 c2 : Nat} {done : Rule} {cur : List Rl} {vs us : List Value} {T : St} {b : Bool} (h : RpU s w wr g1 c1 g2 c2 done cur vs us T b) (n : Nat) : wr.frozen? ⟨g1, n, none⟩ = false := own_frozen h.own n
theorem RpU.far {s : BA} {w w8 w9 : World} {g1 c1 g2 c2 : Nat} {done : Rule} {cur : List Rl} {vs us : List Value} {T : St} {b : Bool} {o : Obj} (h : RpU s w w8 g1 c1 g2 c2 done cur vs us T b) (hg : (w8.alloc o).grownBy w9 (some g2)) : w9.heap[g1]? = w8.heap[g1]? := by
  obtain ⟨cs1, t1⟩ := own_type h.own
  obtain ⟨cs2, t2⟩ := own_type h.own2
  have hl1 := (h.own.lt g1 rfl).2
  exact (hg.block g1 (by rw [World.size_alloc]; omega) (fun e => types_ne t1 t2 (by decide) (Option.some.inj e))).trans (Below.heap_alloc _ _ _ hl1)
theorem RpU.last9 {s : BA} {w w8 w9 : World} {g1 c1 g2 c2 n : Nat} {done : Rule} {cur : List Rl} {vs us : List Value} {T : St} {b : Bool} {o : Obj} (h : RpU s w w8 g1 c1 g2 c2 done cur vs us T b) (hg : (w8.alloc o).grownBy w9 (some g2)) (hn : n = done.length) : w9.cell? ⟨g1, n, none⟩ = some (.slice (some ⟨g2, 0, none⟩) cur.length c2) :=
  (World.cell?_of_block (h.far hg)).trans (h.last hn)
theorem RpU.thawed9 {s : BA} {w w8 w9 : World} {g1 c1 g2 c2 : Nat} {done : Rule} {cur : List Rl} {vs us : List Value} {T : St} {b : Bool} {o : Obj} (h : RpU s w w8 g1 c1 g2 c2 done cur vs us T b) (hg : (w8.alloc o).grownBy w9 (some g2)) (n : Nat) : w9.frozen? ⟨g1, n, none⟩ = false :=
  (World.frozen?_of_block (h.far hg)).trans (h.thawed n)
theorem few_next {n : Nat} {S X : St} (h : n ≤ S.1 + 1 + S.2.toNat) (h0 : S.2 = false) (h3 : X.2 = true ∨ S.1 + 1 ≤ X.1) (h1 : S.1 ≤ X.1) : n + 1 ≤ X.1 + 1 + X.2.toNat ∧ n ≤ X.1 + 1 + X.2.toNat := by
  rw [h0] at h
  simp only [Bool.toNat_false] at h
  rcases h3 with h3 | h3
  · rw [h3]; simp only [Bool.toNat_true]; omega
  · omega
theorem rparse_long {l : List UInt8} (h : 400 < l.length) : rParse l = ([], 2, 0) := by unfold rParse; rw [if_pos h]
theorem rparse_stuck {l : List UInt8} {r : Rule} {a : Nat} {b : Bool} (h4 : ¬ 400 < l.length) (h : rRule l = (r, (a, true), b)) : rParse l = ([], if l.length ≤ a then 10 else 80, a) := by unfold rParse; rw [if_neg h4, h]; simp
theorem rparse_ok {l : List UInt8} {r : Rule} {a : Nat} (h4 : ¬ 400 < l.length) (h : rRule l = (r, (a, false), true)) (hr : rgRule r = true) : rParse l = (r, 0, 0) := by unfold rParse; rw [if_neg h4, h]; simp [hr]
theorem rparse_may {l : List UInt8} {r : Rule} {a : Nat} (h4 : ¬ 400 < l.length) (h : rRule l = (r, (a, false), false)) : rParse l = ([], 1, 0) := by unfold rParse; rw [if_neg h4, h]; simp
theorem rparse_bad {l : List UInt8} {r : Rule} {a : Nat} (h4 : ¬ 400 < l.length) (h : rRule l = (r, (a, false), true)) (hr : rgRule r = false) : rParse l = ([], 1, 0) := by unfold rParse; rw [if_neg h4, h]; simp [hr]

set_option maxHeartbeats 3200000 in
set_option maxRecDepth 100000 in
theorem rparse_any (w : World) (s : BA) (hsz : s.size ≤ 9223372036854775807) : Calls Tryd.prog 10 #[.string s] w (PPost s.data.toList w) := by
  have HEQ := Lib.hid (rParse_eq s.data.toList)
  by_cases hlong : 400 < s.size
  · have HE := Lib.hid (HEQ.out.symm.trans (rparse_long (l := s.data.toList) (by simpa using hlong)))
    go_enter Tryd.func10, Tryd.ntmps10
    go_wp2
    refine bodyPost_ret (v := .tuple #[.slice none 0 0, .int .i64 2, .int .i64 0]) (by simp [results, Tryd.results10, go_sem]) rfl (ppost_none HE.out (Below.refl _ _))
  · have HL : Hid (¬ 400 < s.data.toList.length) := Lib.hid (by simpa using hlong)
    have hs : s.size ≤ 400 := by omega
    have HP0 : Hid (PAt (w.alloc (.cells #[.string s, .int .i64 0, .int .i64 0, .bool true] 46)) w.heap.size s (0, false) true) := Lib.hid (row_new w #[.string s, .int .i64 0, .int .i64 0, .bool true] 46)
    have HK := Lib.hid (rrel_any w.heap.size s (0, false) true _ hs (by simp) HP0.out)
    have HR0 : Hid (rRule s.data.toList = rLoop s.data.toList s.data.toList.length [] [(rRel s.data.toList (0, false) true).1] (rRel s.data.toList (0, false) true).2.1 (rRel s.data.toList (0, false) true).2.2) := Lib.hid rfl
    have HG0 : Hid ((rRel s.data.toList (0, false) true).2.1.1 ≤ s.size) := Lib.hid (by have := (rrel_ge s.data.toList (0, false) true).2 (by simp); simpa using this)
    go_enter Tryd.func10, Tryd.ntmps10
    go_wp2_with fail
    refine HK.out.mono ?_
    rintro e w2 ⟨a1, p1, rfl, hsl, hp, hf⟩
    have HF : Hid (Below w.heap.size w w2) := Lib.hid (Fr.to_below (below1 w _) hf (Nat.le_refl _))
    have HSL := Lib.hid hsl
    have HP := Lib.hid hp
    clear hsl hp hf HK HP0
    generalize rRel s.data.toList (0, false) true = q at *
    obtain ⟨⟨m1, g1n, sp1⟩, T0, b0⟩ := q
    simp only at HSL HP HR0 HG0 ⊢
    obtain ⟨n1, HN1⟩ : ∃ n, Hid (n = sp1.length) := ⟨_, Lib.hid rfl⟩
    rw [← HN1.out] at HSL ⊢
    have hz2 : w.heap.size + 1 ≤ w2.heap.size := by have := HP.out.lt; omega
    have HU0 : Hid (RpU s w (((w2.alloc (.cells #[.int .i64 m1, .bool g1n, .slice a1 n1 p1] 49)).alloc (.cells #[.int .i64 m1, .bool g1n, .slice a1 n1 p1] 49)).alloc (.cells #[.slice (some ⟨w2.heap.size + 1, 0, none⟩) 1 1] 51)) (w2.heap.size + 2) 1 (w2.heap.size + 1) 1 [] [⟨m1, g1n, sp1⟩] [] [.int .i64 m1, .bool g1n, .slice a1 n1 p1] T0 b0) := Lib.hid (by
      have hb3 := below3 w2 (.cells #[.int .i64 m1, .bool g1n, .slice a1 n1 p1] 49) (.cells #[.int .i64 m1, .bool g1n, .slice a1 n1 p1] 49) (.cells #[.slice (some ⟨w2.heap.size + 1, 0, none⟩) 1 1] 51)
      refine ⟨?_, rfl, rfl, ?_, ?_, HP.out.below hb3, HF.out.trans (hb3.mono (by omega)), HG0.out, by simp only [List.length_cons, List.length_nil]; omega, by simp⟩
      · have := owns_lit ((w2.alloc (.cells #[.int .i64 m1, .bool g1n, .slice a1 n1 p1] 49)).alloc (.cells #[.int .i64 m1, .bool g1n, .slice a1 n1 p1] 49)) #[.slice (some ⟨w2.heap.size + 1, 0, none⟩) 1 1] 51 (w.heap.size + 1) 1 1 rfl (by simp; omega) (by decide)
        simpa [World.size_alloc] using this
      · have := (owns_lit (w2.alloc (.cells #[.int .i64 m1, .bool g1n, .slice a1 n1 p1] 49)) #[.int .i64 m1, .bool g1n, .slice a1 n1 p1] 49 (w.heap.size + 1) 1 3 rfl (by simp; omega) (by decide)).alloc (.cells #[.slice (some ⟨w2.heap.size + 1, 0, none⟩) 1 1] 51)
        simpa [World.size_alloc] using this
      · exact Cat.one (k := 3) rfl ⟨.slice a1 n1 p1, rfl, SlS.kpt HSL.out (KpT.of_below hb3)⟩)
    clear HSL HP HF HG0 HN1
    go_wp2
    go_loopw [7] (fun v wr => ∃ (done : Rule) (cur : List Rl) (vs us : List Value) (g1 c1 g2 c2 : Nat) (T : St) (b : Bool) (f : Nat), v = .slice (some ⟨g1, 0, none⟩) (done.length + 1) c1 ∧ Hid (RpU s w wr g1 c1 g2 c2 done cur vs us T b) ∧ Hid (rRule s.data.toList = rLoop s.data.toList f done cur T b) ∧ Hid (T.2 = false → s.data.toList.length ≤ f + T.1)) (fun _ wr => plq s.size w.heap.size wr)
    case atStart => exact ⟨_, _, _, _, _, _, _, _, _, _, _, rfl, HU0, HR0, Lib.hid (fun _ => by omega)⟩
    case round =>
      obtain ⟨done, cur, vs, us, g1, c1, g2, c2, T, b, f, rfl, HU, HS, HFU⟩ := hrel
      have HM := Lib.hid (plq_at (m := s.size) HU.out.pt)
      clear HU0 HR0
      obtain ⟨n, HN⟩ : ∃ n, Hid (n = done.length) := ⟨_, Lib.hid rfl⟩
      obtain ⟨m, HC⟩ : ∃ m, Hid (m = cur.length) := ⟨_, Lib.hid rfl⟩
      rw [← HN.out]
      have p0 := HU.out.pt.row.cell (i := 0) rfl
      have p1 := HU.out.pt.row.cell (i := 1) rfl
      have p2 := HU.out.pt.row.cell (i := 2) rfl
      have p3 := HU.out.pt.row.cell (i := 3) rfl
      obtain ⟨a, st⟩ := T
      simp only at p1
      cases st with
      | true =>
        have HE := Lib.hid (HS.out.trans (loop_no (by simp)))
        have HEP := Lib.hid (HEQ.out.symm.trans (rparse_stuck HL.out HE.out))
        have hbn : ∃ er : Nat, badN s (a, true) = er ∧ parseF s.data.toList = ([], er, a) := by
          rw [HEP.out]
          by_cases hle : s.size ≤ a
          · exact ⟨10, bad_end hle, by rw [if_pos (by simpa using hle)]⟩
          · exact ⟨80, bad_mid hle, by rw [if_neg (by simpa using hle)]⟩
        obtain ⟨er, hb1, hb2⟩ := hbn
        have hB := bad_stuck s a
        rw [hb1] at hB p2
        have hB2 : ((er : Int) == 0) = false := by
          cases hq : ((er : Int) == 0) with
          | false => rfl
          | true => exfalso; simp at hq; subst hq; simp at hB
        have HE3 := Lib.hid hb2
        clear hb1 hb2
        go_wp2
        go_quiet (fail)
        generalize hw0 : wr.drewN nq = w3
        have HB3 : Hid (Below w.heap.size w w3) := Lib.hid (by rw [← hw0]; exact below_drewN HU.out.fr nq)
        clear hw0
        go_wp2
        refine bodyPost_ret (v := .tuple #[.slice none 0 0, .int .i64 er, .int .i64 a]) (by simp [results, Tryd.results10, go_sem]) rfl (ppost_none HE3.out HB3.out)
      | false =>
        rw [bad_live] at p2
        by_cases hlt : a < s.size
        rotate_left
        · have HE := Lib.hid (HS.out.trans (loop_no (by simpa using hlt)))
          have HFL := Lib.hid HU.out.full
          have hln : (done ++ [cur]).length = n + 1 := by rw [List.length_append, ← HN.out]; rfl
          have HB3 := Lib.hid HU.out.fr
          clear HU
          cases b with
          | false =>
            have HEP := Lib.hid (HEQ.out.symm.trans (rparse_may HL.out HE.out))
            go_wp2
            refine bodyPost_ret (v := .tuple #[.slice none 0 0, .int .i64 1, .int .i64 0]) (by simp [results, Tryd.results10, go_sem]) rfl (ppost_none HEP.out HB3.out)
          | true =>
            have HRR := Lib.hid (rright_any wr _ c1 (done ++ [cur]) HFL.out.old)
            have hok := fun h => HEQ.out.symm.trans (rparse_ok HL.out HE.out h)
            have hbad := fun h => HEQ.out.symm.trans (rparse_bad HL.out HE.out h)
            have HOK := Lib.hid hok
            have HBAD := Lib.hid hbad
            clear hok hbad HE
            generalize done ++ [cur] = xs at *
            rw [hln] at HRR HFL
            go_wp2_with fail
            refine HRR.out.mono ?_
            rintro e w4 ⟨rfl, hb4⟩
            have HB4 := Lib.hid (below_trans HB3.out hb4)
            have HFL4 := Lib.hid (HFL.out.kpt (KpT.of_below hb4))
            clear hb4 HRR HB3 HFL p1 p2 p3
            cases hr : rgRule xs with
            | false =>
              have HEP := Lib.hid (HBAD.out hr)
              clear hr
              go_wp2
              refine bodyPost_ret (v := .tuple #[.slice none 0 0, .int .i64 1, .int .i64 0]) (by simp [results, Tryd.results10, go_sem]) rfl (ppost_none HEP.out HB4.out)
            | true =>
              have HEP := Lib.hid (HOK.out hr)
              clear hr
              go_wp2
              refine bodyPost_ret (v := .tuple #[.slice (some ⟨g1, 0, none⟩) (n + 1) c1, .int .i64 0, .int .i64 0]) (by simp [results, Tryd.results10, go_sem]) rfl ?_
              unfold PPost; rw [HEP.out]; exact ⟨some ⟨g1, 0, none⟩, c1, by simp only; rw [hln]; rfl, by simp only; rw [hln]; exact HFL4.out, HB4.out⟩
        · obtain ⟨f', hf'⟩ : ∃ f', f = f' + 1 := ⟨f - 1, by have := HFU.out rfl; have h3 : s.data.toList.length = s.size := by simp
                                                            simp only at this; omega⟩
          subst hf'
          have HW1 := Lib.hid (take_any w.heap.size s ⟨#[32]⟩ (a, false) b _ hs (by decide) HU.out.pt)
          go_wp2_with fail
          refine HW1.out.mono ?_
          rintro e w3 ⟨rfl, hp, hf⟩
          have HP3 : Hid (PAt w3 w.heap.size s (wordF s.data.toList [32] (a, false)) b) := Lib.hid hp
          have HF3 := Lib.hid hf
          have HK := Lib.hid (nowP hs hp)
          clear hp hf HW1
          go_wp2_with fail
          refine HK.out.mono ?_
          rintro e w4 ⟨rfl, hp, hf⟩
          have HP4 := Lib.hid hp
          have HF4 := Lib.hid (HF3.out.trans hf)
          clear hp hf HK HP3 HF3
          rcases nowI_eq (l := s.data.toList) (S := wordF s.data.toList [32] (a, false)) (c := 97) (n := 97) rfl with ⟨hn, hB⟩ | ⟨hn, hB⟩
          · have HE := Lib.hid (HS.out.trans (loop_and (S := (a, false)) ⟨rfl, by simpa using hlt⟩ hn))
            have HGE := Lib.hid (rrel_ge s.data.toList (wordF s.data.toList [32, 97, 110, 100, 32] (a, false)) b)
            have HADV : Hid (_ ∨ _) := Lib.hid (rrel_adv (l := s.data.toList) (c := 32) (r := [97, 110, 100, 32]) (S := (a, false)) (b := b) rfl)
            have HW : Hid (wordF s.data.toList [97, 110, 100, 32] (wordF s.data.toList [32] (a, false)) = wordF s.data.toList [32, 97, 110, 100, 32] (a, false)) := Lib.hid (word_app s.data.toList [32] [97, 110, 100, 32] _).symm
            have HSZ : Hid ((wordF s.data.toList [32, 97, 110, 100, 32] (a, false)).1 ≤ s.size) := Lib.hid (sz_of rfl (ge_word _ _ _) HU.out.le)
            have HGW := Lib.hid (ge_word s.data.toList [32, 97, 110, 100, 32] (a, false)).1
            have HK := Lib.hid (take_any w.heap.size s ⟨#[97, 110, 100, 32]⟩ _ b _ hs (by decide) HP4.out)
            clear hn
            generalize nowI s.data.toList (wordF s.data.toList [32] (a, false)) = v at *
            go_wp2_with fail
            refine HK.out.mono ?_
            rintro e w5 ⟨rfl, hp, hf⟩
            have HF5 := Lib.hid (HF4.out.trans hf)
            have hp2 : PAt w5 w.heap.size s (wordF s.data.toList [97, 110, 100, 32] (wordF s.data.toList [32] (a, false))) b := hp
            rw [HW.out] at hp2
            have HK := Lib.hid (rrel_any w.heap.size s _ b _ hs HSZ.out hp2)
            clear hp hp2 hf HF4 HP4 HW
            go_wp2_with fail
            refine HK.out.mono ?_
            rintro e w6 ⟨a2, q2, rfl, hsl, hp, hf⟩
            have HF6 := Lib.hid (HF5.out.trans hf)
            have HP6 := Lib.hid hp
            have HSL6 := Lib.hid hsl
            clear hp hf hsl HK HF5
            generalize wordF s.data.toList [32, 97, 110, 100, 32] (a, false) = W at *
            generalize rRel s.data.toList W b = q at *
            obtain ⟨⟨m2, ng2, sp2⟩, X, b2⟩ := q
            simp only at HSL6 HP6 HE HADV HGE ⊢
            obtain ⟨n2, HN2⟩ : ∃ n, Hid (n = sp2.length) := ⟨_, Lib.hid rfl⟩
            rw [← HN2.out] at HSL6 ⊢
            have hgw := HGW.out
            have HXS : Hid (X.1 ≤ s.size) := Lib.hid (by have := HGE.out.2 (by simpa using HSZ.out); simpa using this)
            have hfw := few_next HU.out.few rfl (by have := HADV.out; simpa using this) (by have := HGE.out.1; simp only; omega)
            have HFW := Lib.hid hfw
            have HFU2 : Hid (X.2 = false → s.data.toList.length ≤ f' + X.1) := Lib.hid (fun h => by
              have h5 := HFU.out (by first | trivial | rfl)
              rcases HADV.out with h6 | h6
              · rw [h] at h6; cases h6
              · omega)
            have HU6 := Lib.hid (HU.out.call HF6.out HP6.out HXS.out hfw.2)
            have HU7 := Lib.hid (HU6.out.below (below1 w6 (.cells #[.int .i64 m2, .bool ng2, .slice a2 n2 q2] 49)))
            have HSL7 := Lib.hid (HSL6.out.kpt (KpT.of_below (below1 w6 (.cells #[.int .i64 m2, .bool ng2, .slice a2 n2 q2] 49))))
            have l7 := HU7.out.last HN.out
            have z7 := HU7.out.thawed n
            have l7b := (HU7.out.below (below1 _ (.cells #[.int .i64 m2, .bool ng2, .slice a2 n2 q2] 49))).last HN.out
            rw [← HC.out] at l7 l7b
            have hn1000 : n ≤ 1000 := by have h1 := HU.out.few; have h2 := HN.out; simp only [Bool.toNat_false] at h1; omega
            have hm1000 : m ≤ 1000 := by have h1 := HU.out.few; have h2 := HC.out; simp only [Bool.toNat_false] at h1; omega
            clear hfw p0 p1 p2 p3 HU HSL6 HP6 HF6 HSZ
            obtain ⟨i0, hi, hz0, hz1, hz2⟩ := info_parts info49
            have HO7 : Hid ((w6.alloc (.cells #[.int .i64 m2, .bool ng2, .slice a2 n2 q2] 49)).ownsRow (w.heap.size + 1) 49 3 (.slice (some ⟨g2, 0, none⟩) m c2) m us) := Lib.hid (by rw [HC.out]; exact HU7.out.own2)
            have hzw : w.heap.size + 1 ≤ w6.heap.size := by have := HU6.out.pt.lt; omega
            have HU8 : Hid (RpU s w (w6.alloc (.cells #[.int .i64 m2, .bool ng2, .slice a2 n2 q2] 49)).drew g1 c1 g2 c2 done cur vs us X b2) := Lib.hid (HU7.out.below ((Below.refl _ _).drew))
            have HSL8 : Hid (SlS (w6.alloc (.cells #[.int .i64 m2, .bool ng2, .slice a2 n2 q2] 49)).drew (Ty [55] (w6.alloc (.cells #[.int .i64 m2, .bool ng2, .slice a2 n2 q2] 49)).drew) (.slice a2 sp2.length q2) sp2) := Lib.hid (by rw [← HN2.out]; exact HSL7.out.kpt (KpT.of_below ((Below.refl _ _).drew)))
            have hwn : IntKind.i64.wrap (n : Int) = n := IntWalk.i64_in _ (by omega)
            have hn0 : (0 : Int) ≤ (n : Int) := by omega
            have hn1 : (n : Int) < (n : Int) + 1 := by omega
            go_wp2_with fail
            go_region_law (refine step_append_lies _ (by rfl) _ _ _ (by rfl) (w.heap.size + 1) 49 i0 _ 3 40 Tryd.underlying51 hi hz0 hz1 hz2 rfl (by omega) (.slice (some ⟨g2, 0, none⟩) m c2) m us (by rfl) (HO7.out.alloc _) ⟨w6.heap.size + 1, 0, none⟩ 1 1 [.int .i64 m2, .bool ng2, .slice a2 n2 q2] (by rfl) (by rfl) (cell_newL _ #[.int .i64 m2, .bool ng2, .slice a2 n2 q2] _ (by simp)) (by simp [Value.oneCell']) (by omega) (by unfold maxLen; omega) (by omega) (by simp; omega) (w6.heap.size + 1 + 1) (by simp) ?_; intro g5 c5 w9 hown hgrow hl hlt3; have hgr : ((w6.alloc (.cells #[.int .i64 m2, .bool ng2, .slice a2 n2 q2] 49)).drew.alloc (.cells #[.int .i64 m2, .bool ng2, .slice a2 n2 q2] 49)).grownBy w9 (some g2) := hgrow; have l9 := HU8.out.last9 hgr HN.out; have z9 := HU8.out.thawed9 hgr n; have HU9 := Lib.hid (RpU.and (y := ⟨m2, ng2, sp2⟩) HU8.out HN.out HC.out HSL8.out HFW.out.1 hgr (by rw [← HN2.out]; exact hown) (hl.imp (fun h => h) (fun h => by show (w6.alloc _).heap.size ≤ g5; rw [h, World.size_alloc]; omega))); clear hown hgrow hgr hl)
            all_goals
              clear l9 z9
              go_wp2
              go_roundw
              case rel => exact ⟨done, _, _, _, g1, c1, g5, c5, X, b2, f', by rw [HN.out], HU9, HE, HFU2⟩
              case measure =>
                have h1 := plq_at (m := s.size) HU9.out.pt
                rw [HM.out, h1]
                have h2 := HXS.out
                have h3 := HGE.out.1
                rcases HADV.out with h | h
                · rw [h]; simp only [if_true, Bool.false_eq_true, if_false]; omega
                · cases X.2 <;> simp only [if_true, Bool.false_eq_true, if_false] <;> omega
          · have HE := Lib.hid (HS.out.trans (loop_or (S := (a, false)) ⟨rfl, by simpa using hlt⟩ hn))
            have HGE := Lib.hid (rrel_ge s.data.toList (wordF s.data.toList [32, 111, 114, 32] (a, false)) b)
            have HADV : Hid (_ ∨ _) := Lib.hid (rrel_adv (l := s.data.toList) (c := 32) (r := [111, 114, 32]) (S := (a, false)) (b := b) rfl)
            have HW : Hid (wordF s.data.toList [111, 114, 32] (wordF s.data.toList [32] (a, false)) = wordF s.data.toList [32, 111, 114, 32] (a, false)) := Lib.hid (word_app s.data.toList [32] [111, 114, 32] _).symm
            have HSZ : Hid ((wordF s.data.toList [32, 111, 114, 32] (a, false)).1 ≤ s.size) := Lib.hid (sz_of rfl (ge_word _ _ _) HU.out.le)
            have HGW := Lib.hid (ge_word s.data.toList [32, 111, 114, 32] (a, false)).1
            have HK := Lib.hid (take_any w.heap.size s ⟨#[111, 114, 32]⟩ _ b _ hs (by decide) HP4.out)
            clear hn
            generalize nowI s.data.toList (wordF s.data.toList [32] (a, false)) = v at *
            go_wp2_with fail
            refine HK.out.mono ?_
            rintro e w5 ⟨rfl, hp, hf⟩
            have HF5 := Lib.hid (HF4.out.trans hf)
            have hp2 : PAt w5 w.heap.size s (wordF s.data.toList [111, 114, 32] (wordF s.data.toList [32] (a, false))) b := hp
            rw [HW.out] at hp2
            have HK := Lib.hid (rrel_any w.heap.size s _ b _ hs HSZ.out hp2)
            clear hp hp2 hf HF4 HP4 HW
            go_wp2_with fail
            refine HK.out.mono ?_
            rintro e w6 ⟨a2, q2, rfl, hsl, hp, hf⟩
            have HF6 := Lib.hid (HF5.out.trans hf)
            have HP6 := Lib.hid hp
            have HSL6 := Lib.hid hsl
            clear hp hf hsl HK HF5
            generalize wordF s.data.toList [32, 111, 114, 32] (a, false) = W at *
            generalize rRel s.data.toList W b = q at *
            obtain ⟨⟨m2, ng2, sp2⟩, X, b2⟩ := q
            simp only at HSL6 HP6 HE HADV HGE ⊢
            obtain ⟨n2, HN2⟩ : ∃ n, Hid (n = sp2.length) := ⟨_, Lib.hid rfl⟩
            rw [← HN2.out] at HSL6 ⊢
            have hgw := HGW.out
            have HXS : Hid (X.1 ≤ s.size) := Lib.hid (by have := HGE.out.2 (by simpa using HSZ.out); simpa using this)
            have hfw := few_next HU.out.few rfl (by have := HADV.out; simpa using this) (by have := HGE.out.1; simp only; omega)
            have HFW := Lib.hid hfw
            have HFU2 : Hid (X.2 = false → s.data.toList.length ≤ f' + X.1) := Lib.hid (fun h => by
              have h5 := HFU.out (by first | trivial | rfl)
              rcases HADV.out with h6 | h6
              · rw [h] at h6; cases h6
              · omega)
            have HU6 := Lib.hid (HU.out.call HF6.out HP6.out HXS.out hfw.2)
            have HU7 := Lib.hid (HU6.out.below (below1 w6 (.cells #[.int .i64 m2, .bool ng2, .slice a2 n2 q2] 49)))
            have HSL7 : Hid (SlS (w6.alloc (.cells #[.int .i64 m2, .bool ng2, .slice a2 n2 q2] 49)) (Ty [55] (w6.alloc (.cells #[.int .i64 m2, .bool ng2, .slice a2 n2 q2] 49))) (.slice a2 sp2.length q2) sp2) := Lib.hid (by rw [← HN2.out]; exact HSL6.out.kpt (KpT.of_below (below1 w6 (.cells #[.int .i64 m2, .bool ng2, .slice a2 n2 q2] 49))))
            have hn1000 : n ≤ 1000 := by have h1 := HU.out.few; have h2 := HN.out; simp only [Bool.toNat_false] at h1; omega
            have HO7 : Hid ((w6.alloc (.cells #[.int .i64 m2, .bool ng2, .slice a2 n2 q2] 49)).ownsRow (w.heap.size + 1) 51 1 (.slice (some ⟨g1, 0, none⟩) (n + 1) c1) (n + 1) (vs ++ [.slice (some ⟨g2, 0, none⟩) cur.length c2])) := Lib.hid (by rw [HN.out]; exact HU7.out.own)
            clear hfw p0 p1 p2 p3 HU HSL6 HP6 HF6 HSZ
            obtain ⟨i0, hi, hz0, hz1, hz2⟩ := info_parts info51
            have hzw : w.heap.size + 1 ≤ w6.heap.size := by have := HU6.out.pt.lt; omega
            go_wp2_with (at_builtin; refine wpList_append_lies _ rfl _ _ 22 rfl (w.heap.size + 1) 51 i0 _ 1 24 Tryd.underlying22 hi hz0 hz1 hz2 rfl (by decide) _ _ _ rfl ((HO7.out.alloc _).alloc _) _ 1 1 [.slice (some ⟨w6.heap.size + 1, 0, none⟩) 1 1] rfl rfl (cell_newL _ #[.slice (some ⟨w6.heap.size + 1, 0, none⟩) 1 1] _ (by simp)) (by simp [Value.oneCell']) (by decide) (by unfold maxLen; omega) (by omega) (by simp; omega) (w6.heap.size + 1 + 1 + 1) (by simp) ?_; intro g5 c5 w9 hown hgrow _ _; have HU9 := Lib.hid (RpU.or (y := ⟨m2, ng2, sp2⟩) HU7.out HN.out HSL7.out HFW.out.1 (by rw [← HN2.out]; exact hgrow) (by simpa [World.size_alloc] using hown)); clear hown hgrow)
            refine ⟨⟨done ++ [cur], _, _, _, g5, c5, _, 1, X, b2, f', by rw [List.length_append, HN.out]; rfl, HU9, HE, HFU2⟩, ?_⟩
            have h1 := plq_at (m := s.size) HU9.out.pt
            rw [HM.out, h1]
            have h2 := HXS.out
            have h3 := HGE.out.1
            rcases HADV.out with h | h
            · rw [h]; simp only [if_true, Bool.false_eq_true, if_false]; omega
            · cases X.2 <;> simp only [if_true, Bool.false_eq_true, if_false] <;> omega
end Go.Proofs.YtlgodcbffimcoaaDoor
