/- The document's reader in memory: a name. -/
import Derived.Test.YtapnieogfddjkaaDoorDr1
namespace Go.Proofs.YtapnieogfddjkaaDoor.Dr
open Go.RowKit Go.Proofs.YtapnieogfddjkaaDoor

set_option maxRecDepth 100000 in
theorem bytes_back {w : World} {base : Nat} {a : Option Addr} {cap : Nat} {l : List UInt8} (h : w.ownsRow base 5 1 (.slice a l.length cap) l.length (Lib.byteCells l)) (hn : Value.slice a l.length cap ≠ .slice none 0 0) : (convert 46 9 (.slice a l.length cap)).run Tryd.prog w = .ok (.string (ba l)) w := by
  rcases h.2 with ⟨hv, h0⟩ | ⟨g, cap', cur, hv, -, hg, hr⟩
  · exact absurd hv hn
  · injection hv with h1 h2 h3
    subst h1 h3
    obtain ⟨-, -, -, ht⟩ := hr
    refine run_convert_bytes_back (P := Tryd.prog) w 46 9 5 ⟨g, 0, none⟩ cap l Tryd.underlying46 Tryd.underlying5 Tryd.underlying9 (fun j hj => ?_)
    rw [Addr.add_mid, Nat.zero_add]
    have hc : w.cell? ⟨g, j, none⟩ = cur[j]? := by simp [World.cell?, hg]
    rw [hc, ← Array.getElem?_toList]
    have h5 : (cur.toList.take (l.length * 1))[j]? = cur.toList[j]? := List.getElem?_take_of_lt (by omega)
    rw [← h5, ht]
    simp [Lib.byteCells, hj]
theorem owns_none (w : World) : (w.alloc (.cells #[] 5)).ownsRow w.heap.size 5 1 (.slice (some ⟨w.heap.size, 0, none⟩) 0 0) 0 (Lib.byteCells []) := owns_lit w #[] 5 w.heap.size 0 1 rfl (Nat.le_refl _) (by omega)
theorem infoByte : (Tryd.prog.info? 5).map (fun i => (i.zero, i.size, i.bytes)) = some (some (.int .u8 0), 1, 1) := by kernel_rfl
theorem u8_in (c : UInt8) : IntKind.u8.wrap (c.toNat : Int) = c.toNat := IntWalk.u8_in _ (by have := c.toNat_lt; omega)
theorem slice_form {w : World} {B n : Nat} {v : Value} {xs : List Value} (h : w.ownsRow B 5 1 v n xs) : ∃ a cap, v = .slice a n cap := by
  obtain ⟨a, cap, hv, -⟩ := owns_form h
  exact ⟨a, cap, hv⟩
/-- What a name holds under way. -/
def NmU (l : List UInt8) (acc : List UInt8) (T : St) : Prop := acc.length ≤ 32 ∧ (acc = [] → T.2 = 0 → isNow l isLet T = true) ∧ (acc ≠ [] → nameB acc = true)
theorem nm_go {l acc : List UInt8} {T : St} {c : UInt8} (h : NmU l acc T) (hc : nowF l T = some c) (hw : isWrd c = true) (hl : acc.length ≠ 32) : nameB (acc ++ [c]) = true ∧ NmU l (acc ++ [c]) (T.1 + 1, 0) := by
  obtain ⟨h1, h2, h3⟩ := h
  have hn : nameB (acc ++ [c]) = true := by
    cases acc with
    | nil =>
      have := h2 rfl (now_live hc).1
      unfold isNow at this
      rw [hc] at this
      simp only at this
      simp [nameB, this, hw]
    | cons d r =>
      have := h3 (by simp)
      simp only [nameB, Bool.and_eq_true, decide_eq_true_eq] at this
      simp only [List.length_cons] at h1 hl
      simp only [List.cons_append, nameB, Bool.and_eq_true, decide_eq_true_eq, List.length_append, List.length_cons, List.length_nil]
      refine ⟨⟨by omega, this.1.2⟩, ?_⟩
      rw [← List.cons_append, List.all_append, this.2]
      simp [hw]
  exact ⟨hn, by rw [List.length_append]; simp only [List.length_cons, List.length_nil]; omega, fun e => by simp at e, fun _ => hn⟩
theorem nm_over {l acc : List UInt8} {T : St} {c : UInt8} (_h : NmU l acc T) (hl : acc.length = 32) : nameB (acc ++ [c]) = false := by
  cases acc with
  | nil => simp at hl
  | cons d r =>
    simp only [List.length_cons] at hl
    simp only [List.cons_append, nameB, List.length_append, List.length_cons, List.length_nil]
    rw [decide_eq_false (by omega)]; rfl
theorem run_yes {l : List UInt8} {w : UInt8 → Bool} {p : List UInt8 → Bool} {f : Nat} {acc : List UInt8} {S : St} {c : UInt8} (h : nowF l S = some c) (hw : w c = true) (hp : p (acc ++ [c]) = true) : runL l w p (f + 1) acc S = runL l w p f (acc ++ [c]) (S.1 + 1, 0) := by
  rw [runL, h]; simp only; rw [if_pos hw, if_pos hp]
theorem run_bad {l : List UInt8} {w : UInt8 → Bool} {p : List UInt8 → Bool} {f : Nat} {acc : List UInt8} {S : St} {c : UInt8} (h : nowF l S = some c) (hw : w c = true) (hp : p (acc ++ [c]) = false) : runL l w p (f + 1) acc S = ([], failF l S) := by
  rw [runL, h]; simp only; rw [if_pos hw, if_neg (by rw [hp]; simp)]
theorem run_end {l : List UInt8} {w : UInt8 → Bool} {p : List UInt8 → Bool} {f : Nat} {acc : List UInt8} {S : St} (h : isNow l w S = false) : runL l w p f acc S = (acc, S) := by
  cases f with
  | zero => rw [runL]
  | succ f =>
    rw [runL]
    unfold isNow at h
    cases hn : nowF l S with
    | none => rfl
    | some c => rw [hn] at h; simp only at h ⊢; rw [if_neg (by rw [h]; simp)]

set_option maxHeartbeats 3200000 in
set_option maxRecDepth 100000 in
theorem name_any (pb : Nat) (s : BA) (S : St) (w : World) (hs : s.size ≤ 2000) (hS : Wf s.data.toList S) (hR : PAt w pb s S) :
    Calls Tryd.prog 41 #[.pointer (some ⟨pb, 0, none⟩)] w fun e w' => e = .returned (.string (ba (dName s.data.toList S).1)) ∧ PAt w' pb s (dName s.data.toList S).2 ∧ Fr (· = pb) w w' := by
  obtain ⟨i0, hi, hz0, hz1, hz2⟩ := info_parts infoByte
  have hlp := hR.lt
  have HR0 : Hid (PAt (w.alloc (.cells #[] 5)) pb s S) := Lib.hid (hR.alloc _)
  have HO0 : Hid ((w.alloc (.cells #[] 5)).ownsRow w.heap.size 5 1 (.slice (some ⟨w.heap.size, 0, none⟩) 0 0) 0 (Lib.byteCells [])) := Lib.hid (owns_none w)
  have HF0 : Hid (Fr (· = pb) w (w.alloc (.cells #[] 5))) := Lib.hid ((Fr.refl _ _).alloc _)
  have HN0 := Lib.hid (now_any pb s S _ hs HR0.out)
  have HS := Lib.hid hS
  have HL0 := Lib.hid (fun W => letter_any (nowI s.data.toList S) W)
  have hli := ltI_now s.data.toList S
  have HD0 : Hid (dName s.data.toList S = runL s.data.toList isWrd nameB 33 [] (if isNow s.data.toList isLet S then S else failF s.data.toList S)) := Lib.hid rfl
  clear hR hS
  cases hf : isNow s.data.toList isLet S with
  | true =>
    rw [hli, hf] at HL0
    have HD : Hid (dName s.data.toList S = runL s.data.toList isWrd nameB 33 [] S) := Lib.hid (by rw [HD0.out, hf]; rfl)
    have HU0 : Hid (NmU s.data.toList [] S) := Lib.hid ⟨by simp, fun _ _ => hf, fun e => absurd rfl e⟩
    clear hf hli HD0
    go_enter Tryd.func41, Tryd.ntmps41
    go_wp2_with fail
    generalize w.alloc (.cells #[] 5) = w1 at *
    refine HN0.out.mono ?_
    rintro e w2 ⟨rfl, nq, hw2⟩
    have hs2 : Same w1 w2 := by rw [hw2]; exact (Same.refl _).drewN _
    have HR2 := Lib.hid (HR0.out.same hs2)
    have HF2 := Lib.hid (HF0.out.trans (Fr.of_same hs2))
    have HO2 := Lib.hid (ownsRow_keep HO0.out (fun _ _ => by rw [hs2.heap]))
    have HL2 := Lib.hid (HL0.out w2)
    clear hs2 hw2 HN0 HR0 HF0 HO0 HL0
    go_wp2_with fail
    refine HL2.out.mono ?_
    rintro e w3 ⟨rfl, rfl⟩
    clear HL2
    have HST := HS
    go_wp2
    go_loopw [3] (fun v wr => ∃ (acc : List UInt8) (f : Nat) (T : St), acc.length + f = 33 ∧ Hid (NmU s.data.toList acc T) ∧ Hid (wr.ownsRow w.heap.size 5 1 v acc.length (Lib.byteCells acc)) ∧ Hid (v ≠ .slice none 0 0) ∧ Hid (PAt wr pb s T) ∧ Hid (Fr (· = pb) w wr) ∧ Hid (Wf s.data.toList T) ∧ Hid (dName s.data.toList S = runL s.data.toList isWrd nameB f acc T)) (fun v _ => match v with | .slice _ n _ => 33 - n | _ => 0)
    case atStart => exact ⟨[], 33, S, rfl, HU0, HO2, Lib.hid (by simp), HR2, HF2, HST, HD⟩
    case round =>
      obtain ⟨acc, f, T, hfu, HU, HO, HNN, HRT, HFT, HWT, HQ⟩ := hrel
      clear HO2 HR2 HF2 HD HU0
      have hBs : w.heap.size ≤ wr.heap.size := HFT.out.size
      obtain ⟨ao, co, rfl⟩ := slice_form HO.out
      have hacc : acc.length ≤ 32 := HU.out.1
      have HN1 := Lib.hid (now_any pb s T wr hs HRT.out)
      have HLW := Lib.hid (fun W => wordly_any (nowI s.data.toList T) W)
      rw [wrdI_now] at HLW
      cases hw : isNow s.data.toList isWrd T with
      | false =>
        rw [hw] at HLW
        have HE := Lib.hid (HQ.out.trans (run_end hw))
        clear hw
        go_wp2_with fail
        refine HN1.out.mono ?_
        rintro e w5 ⟨rfl, nq5, hw5⟩
        have hs5 : Same wr w5 := by rw [hw5]; exact (Same.refl _).drewN _
        have HR5 := Lib.hid (HRT.out.same hs5)
        have HF5 := Lib.hid (HFT.out.trans (Fr.of_same hs5))
        have HBK := Lib.hid (bytes_back (ownsRow_keep HO.out (fun _ _ => by rw [hs5.heap])) HNN.out)
        have HL5 := Lib.hid (HLW.out w5)
        clear hs5 hw5 HN1 HLW
        go_wp2_with fail
        refine HL5.out.mono ?_
        rintro e w6 ⟨rfl, rfl⟩
        clear HL5
        generalize hac : ba acc = t at *
        go_wp2
        rw [HBK.out]
        simp only [Result.andThen]
        rw [Oper.upon_value]
        go_wp2
        go_ret
        exact ⟨by rw [HE.out, hac]; rfl, by rw [HE.out]; exact HR5.out, HF5.out⟩
      | true =>
        rw [hw] at HLW
        obtain ⟨c, hc, hcw⟩ : ∃ c, nowF s.data.toList T = some c ∧ isWrd c = true := by
          unfold isNow at hw
          cases hx : nowF s.data.toList T with
          | none => rw [hx] at hw; cases hw
          | some c => rw [hx] at hw; exact ⟨c, rfl, hw⟩
        obtain ⟨f', rfl⟩ : ∃ f', f = f' + 1 := ⟨f - 1, by omega⟩
        by_cases hl : acc.length = 32
        · have HE := Lib.hid (HQ.out.trans (run_bad hc hcw (nm_over HU.out hl)))
          rw [hl] at HO HNN ⊢
          clear hw hc hfu hl hacc
          go_wp2_with fail
          refine HN1.out.mono ?_
          rintro e w5 ⟨rfl, nq5, hw5⟩
          have hs5 : Same wr w5 := by rw [hw5]; exact (Same.refl _).drewN _
          have HR5 := Lib.hid (HRT.out.same hs5)
          have HF5 := Lib.hid (HFT.out.trans (Fr.of_same hs5))
          have HL5 := Lib.hid (HLW.out w5)
          have HWR := Lib.hid (wrong_any pb s T w5 hs HWT.out HR5.out)
          clear hs5 hw5 HN1 HLW
          go_wp2_with fail
          refine HL5.out.mono ?_
          rintro e w6 ⟨rfl, rfl⟩
          clear HL5
          go_wp2_with fail
          refine HWR.out.mono ?_
          rintro e w7 ⟨rfl, hr7, hf7⟩
          have HR7 := Lib.hid hr7
          have HF7 := Lib.hid (HF5.out.trans hf7)
          clear hr7 hf7 HWR
          go_wp2
          go_ret
          exact ⟨by rw [HE.out]; rfl, by rw [HE.out]; exact HR7.out, HF7.out⟩
        · obtain ⟨hnb, hnu⟩ := nm_go HU.out hc hcw hl
          have HE := Lib.hid (HQ.out.trans (run_yes hc hcw hnb))
          have HNU := Lib.hid hnu
          have hnv : nowI s.data.toList T = c.toNat := nowI_some hc
          have HW2 := Lib.hid (wf_next hc)
          obtain ⟨h0, hx⟩ := now_live hc
          have HTL := Lib.hid (get_lt hx)
          obtain ⟨k, st⟩ := T
          simp only at h0 HTL HE HNU HW2
          subst h0
          obtain ⟨q, HLQ⟩ : ∃ q, Hid (q = acc.length) := ⟨_, Lib.hid rfl⟩
          rw [← HLQ.out] at HO HNN hl hacc hfu ⊢
          have hlb : ((q : Int) == 32) = false := by rw [beq_eq_false_iff_ne]; omega
          rw [hnv] at HN1 HLW
          have HN2 := Lib.hid (fun W (h : PAt W pb s (k, 0)) => now_any pb s (k, 0) W hs h)
          rw [hnv] at HN2
          have hu8 := u8_in c
          have hc8 := c.toNat_lt
          clear hw hc hnb hnu hnv hl HU HQ hx
          go_wp2_with fail
          refine HN1.out.mono ?_
          rintro e w5 ⟨rfl, nq5, hw5⟩
          have hs5 : Same wr w5 := by rw [hw5]; exact (Same.refl _).drewN _
          have HR5 := Lib.hid (HRT.out.same hs5)
          have HF5 := Lib.hid (HFT.out.trans (Fr.of_same hs5))
          have HO5 := Lib.hid (ownsRow_keep HO.out (fun _ _ => by rw [hs5.heap]))
          have HL5 := Lib.hid (HLW.out w5)
          clear hs5 hw5 HN1 HLW HO HRT HFT
          go_wp2_with fail
          refine HL5.out.mono ?_
          rintro e w6 ⟨rfl, rfl⟩
          have HN6 := Lib.hid (HN2.out w6 HR5.out)
          clear HL5 HN2
          go_wp2_with fail
          refine HN6.out.mono ?_
          rintro e w7 ⟨rfl, nq7, hw7⟩
          have hs7 : Same w6 w7 := by rw [hw7]; exact (Same.refl _).drewN _
          have HR7 := Lib.hid (HR5.out.same hs7)
          have HF7 := Lib.hid (HF5.out.trans (Fr.of_same hs7))
          have HO7 := Lib.hid (ownsRow_keep HO5.out (fun _ _ => by rw [hs7.heap]))
          clear hs7 hw7 HN6 HR5 HF5 HO5
          have hz7 : w.heap.size ≤ w7.heap.size := HF7.out.size
          go_wp2_with (at_builtin; refine wpList_append_lies _ rfl _ _ 46 rfl w.heap.size 5 i0 _ 1 1 Tryd.underlying46 hi hz0 hz1 hz2 rfl (by decide) _ _ _ rfl (HO7.out.alloc _) _ 1 1 [.int .u8 c.toNat] rfl rfl (cell_newL _ #[.int .u8 c.toNat] _ rfl) (by simp [Value.oneCell']) (by decide) (by unfold maxLen; omega) (by omega) (by simp; omega) (w7.heap.size + 1) (by simp) ?_; intro g8 c9 w8 hown8 hgrow8 hg8 _; have HO8 := Lib.hid hown8; have HG8 := Lib.hid hgrow8; clear hown8 hgrow8 hg8; have hlt7 := HR7.out.lt; have HR8 : Hid (PAt w8 pb s (k, 0)) := Lib.hid (HR7.out.keep ((HG8.out.block pb (by rw [World.size_alloc]; omega) (fun e => by have := (HO7.out.lt pb e.symm).1; omega)).trans (Below.heap_alloc _ _ _ hlt7))); have HF8 : Hid (Fr (· = pb) w w8) := Lib.hid ((HF7.out.alloc _).grown HG8.out (fun g hg => .inl (HO7.out.lt g hg).1)); clear HR7 HF7 HO7 HG8; have c1 := HR8.out.row.cell (i := 1) rfl; have z1 := HR8.out.row.thaw 1; simp only at c1; have htl := HTL.out; rw [len_list] at htl)
          have HQ9 : Hid (PAt (w8.setCell ⟨pb, 1, none⟩ (.int .i64 ((k : Int) + 1))) pb s (k + 1, 0)) := Lib.hid (PAt.on (S := (k, 0)) HR8.out)
          have HF9 : Hid (Fr (· = pb) w (w8.setCell ⟨pb, 1, none⟩ (.int .i64 ((k : Int) + 1)))) := Lib.hid (HF8.out.trans (fr_set 1 _))
          have HO9 : Hid ((w8.setCell ⟨pb, 1, none⟩ (.int .i64 ((k : Int) + 1))).ownsRow w.heap.size 5 1 (.slice (some ⟨g8, 0, none⟩) (q + 1) c9) (q + 1) (Lib.byteCells acc ++ [.int .u8 c.toNat])) := Lib.hid (owns_but HO8.out ((But.refl pb w8).set 1 _) hlp)
          go_roundw
          case rel => exact ⟨acc ++ [c], f', (k + 1, 0), by rw [List.length_append, ← HLQ.out]; simp only [List.length_cons, List.length_nil]; omega, HNU, by rw [List.length_append, ← HLQ.out, byteCells_app]; exact HO9, Lib.hid (by simp), HQ9, HF9, HW2, HE⟩
          case measure => simp only; omega
  | false =>
    rw [hli, hf] at HL0
    obtain ⟨S2, HS2⟩ : ∃ S2, Hid (S2 = failF s.data.toList S) := ⟨_, Lib.hid rfl⟩
    have HD : Hid (dName s.data.toList S = runL s.data.toList isWrd nameB 33 [] S2) := Lib.hid (by rw [HD0.out, hf, HS2.out]; rfl)
    have HU0 : Hid (NmU s.data.toList [] S2) := Lib.hid ⟨by simp, fun _ e => absurd e (by rw [HS2.out]; exact fail_ne _ _), fun e => absurd rfl e⟩
    have HST : Hid (Wf s.data.toList S2) := Lib.hid (by rw [HS2.out]; exact (ge_fail _ _).2.1 HS.out)
    clear hf hli HD0
    go_enter Tryd.func41, Tryd.ntmps41
    go_wp2_with fail
    generalize w.alloc (.cells #[] 5) = w1 at *
    refine HN0.out.mono ?_
    rintro e w2 ⟨rfl, nq, hw2⟩
    have hs2 : Same w1 w2 := by rw [hw2]; exact (Same.refl _).drewN _
    have HR2 := Lib.hid (HR0.out.same hs2)
    have HF2 := Lib.hid (HF0.out.trans (Fr.of_same hs2))
    have HO2 := Lib.hid (ownsRow_keep HO0.out (fun _ _ => by rw [hs2.heap]))
    have HL2 := Lib.hid (HL0.out w2)
    have HWR := Lib.hid (wrong_any pb s S w2 hs HS.out HR2.out)
    clear hs2 hw2 HN0 HR0 HF0 HO0 HL0
    go_wp2_with fail
    refine HL2.out.mono ?_
    rintro e w3 ⟨rfl, rfl⟩
    clear HL2
    go_wp2_with fail
    refine HWR.out.mono ?_
    rintro e w4 ⟨rfl, hr4, hf4⟩
    rw [← HS2.out] at hr4
    have HO2 := Lib.hid (ownsRow_keep HO2.out (fun g hg => hf4.block g (HO2.out.lt g hg).2 (by have := (HO2.out.lt g hg).1; omega)))
    have HR2 := Lib.hid hr4
    have HF2 := Lib.hid (HF2.out.trans hf4)
    clear hr4 hf4 HWR
    go_wp2
    go_loopw [3] (fun v wr => ∃ (acc : List UInt8) (f : Nat) (T : St), acc.length + f = 33 ∧ Hid (NmU s.data.toList acc T) ∧ Hid (wr.ownsRow w.heap.size 5 1 v acc.length (Lib.byteCells acc)) ∧ Hid (v ≠ .slice none 0 0) ∧ Hid (PAt wr pb s T) ∧ Hid (Fr (· = pb) w wr) ∧ Hid (Wf s.data.toList T) ∧ Hid (dName s.data.toList S = runL s.data.toList isWrd nameB f acc T)) (fun v _ => match v with | .slice _ n _ => 33 - n | _ => 0)
    case atStart => exact ⟨[], 33, S2, rfl, HU0, HO2, Lib.hid (by simp), HR2, HF2, HST, HD⟩
    case round =>
      obtain ⟨acc, f, T, hfu, HU, HO, HNN, HRT, HFT, HWT, HQ⟩ := hrel
      clear HO2 HR2 HF2 HD HU0
      have hBs : w.heap.size ≤ wr.heap.size := HFT.out.size
      obtain ⟨ao, co, rfl⟩ := slice_form HO.out
      have hacc : acc.length ≤ 32 := HU.out.1
      have HN1 := Lib.hid (now_any pb s T wr hs HRT.out)
      have HLW := Lib.hid (fun W => wordly_any (nowI s.data.toList T) W)
      rw [wrdI_now] at HLW
      cases hw : isNow s.data.toList isWrd T with
      | false =>
        rw [hw] at HLW
        have HE := Lib.hid (HQ.out.trans (run_end hw))
        clear hw
        go_wp2_with fail
        refine HN1.out.mono ?_
        rintro e w5 ⟨rfl, nq5, hw5⟩
        have hs5 : Same wr w5 := by rw [hw5]; exact (Same.refl _).drewN _
        have HR5 := Lib.hid (HRT.out.same hs5)
        have HF5 := Lib.hid (HFT.out.trans (Fr.of_same hs5))
        have HBK := Lib.hid (bytes_back (ownsRow_keep HO.out (fun _ _ => by rw [hs5.heap])) HNN.out)
        have HL5 := Lib.hid (HLW.out w5)
        clear hs5 hw5 HN1 HLW
        go_wp2_with fail
        refine HL5.out.mono ?_
        rintro e w6 ⟨rfl, rfl⟩
        clear HL5
        generalize hac : ba acc = t at *
        go_wp2
        rw [HBK.out]
        simp only [Result.andThen]
        rw [Oper.upon_value]
        go_wp2
        go_ret
        exact ⟨by rw [HE.out, hac]; rfl, by rw [HE.out]; exact HR5.out, HF5.out⟩
      | true =>
        rw [hw] at HLW
        obtain ⟨c, hc, hcw⟩ : ∃ c, nowF s.data.toList T = some c ∧ isWrd c = true := by
          unfold isNow at hw
          cases hx : nowF s.data.toList T with
          | none => rw [hx] at hw; cases hw
          | some c => rw [hx] at hw; exact ⟨c, rfl, hw⟩
        obtain ⟨f', rfl⟩ : ∃ f', f = f' + 1 := ⟨f - 1, by omega⟩
        by_cases hl : acc.length = 32
        · have HE := Lib.hid (HQ.out.trans (run_bad hc hcw (nm_over HU.out hl)))
          rw [hl] at HO HNN ⊢
          clear hw hc hfu hl hacc
          go_wp2_with fail
          refine HN1.out.mono ?_
          rintro e w5 ⟨rfl, nq5, hw5⟩
          have hs5 : Same wr w5 := by rw [hw5]; exact (Same.refl _).drewN _
          have HR5 := Lib.hid (HRT.out.same hs5)
          have HF5 := Lib.hid (HFT.out.trans (Fr.of_same hs5))
          have HL5 := Lib.hid (HLW.out w5)
          have HWR := Lib.hid (wrong_any pb s T w5 hs HWT.out HR5.out)
          clear hs5 hw5 HN1 HLW
          go_wp2_with fail
          refine HL5.out.mono ?_
          rintro e w6 ⟨rfl, rfl⟩
          clear HL5
          go_wp2_with fail
          refine HWR.out.mono ?_
          rintro e w7 ⟨rfl, hr7, hf7⟩
          have HR7 := Lib.hid hr7
          have HF7 := Lib.hid (HF5.out.trans hf7)
          clear hr7 hf7 HWR
          go_wp2
          go_ret
          exact ⟨by rw [HE.out]; rfl, by rw [HE.out]; exact HR7.out, HF7.out⟩
        · obtain ⟨hnb, hnu⟩ := nm_go HU.out hc hcw hl
          have HE := Lib.hid (HQ.out.trans (run_yes hc hcw hnb))
          have HNU := Lib.hid hnu
          have hnv : nowI s.data.toList T = c.toNat := nowI_some hc
          have HW2 := Lib.hid (wf_next hc)
          obtain ⟨h0, hx⟩ := now_live hc
          have HTL := Lib.hid (get_lt hx)
          obtain ⟨k, st⟩ := T
          simp only at h0 HTL HE HNU HW2
          subst h0
          obtain ⟨q, HLQ⟩ : ∃ q, Hid (q = acc.length) := ⟨_, Lib.hid rfl⟩
          rw [← HLQ.out] at HO HNN hl hacc hfu ⊢
          have hlb : ((q : Int) == 32) = false := by rw [beq_eq_false_iff_ne]; omega
          rw [hnv] at HN1 HLW
          have HN2 := Lib.hid (fun W (h : PAt W pb s (k, 0)) => now_any pb s (k, 0) W hs h)
          rw [hnv] at HN2
          have hu8 := u8_in c
          have hc8 := c.toNat_lt
          clear hw hc hnb hnu hnv hl HU HQ hx
          go_wp2_with fail
          refine HN1.out.mono ?_
          rintro e w5 ⟨rfl, nq5, hw5⟩
          have hs5 : Same wr w5 := by rw [hw5]; exact (Same.refl _).drewN _
          have HR5 := Lib.hid (HRT.out.same hs5)
          have HF5 := Lib.hid (HFT.out.trans (Fr.of_same hs5))
          have HO5 := Lib.hid (ownsRow_keep HO.out (fun _ _ => by rw [hs5.heap]))
          have HL5 := Lib.hid (HLW.out w5)
          clear hs5 hw5 HN1 HLW HO HRT HFT
          go_wp2_with fail
          refine HL5.out.mono ?_
          rintro e w6 ⟨rfl, rfl⟩
          have HN6 := Lib.hid (HN2.out w6 HR5.out)
          clear HL5 HN2
          go_wp2_with fail
          refine HN6.out.mono ?_
          rintro e w7 ⟨rfl, nq7, hw7⟩
          have hs7 : Same w6 w7 := by rw [hw7]; exact (Same.refl _).drewN _
          have HR7 := Lib.hid (HR5.out.same hs7)
          have HF7 := Lib.hid (HF5.out.trans (Fr.of_same hs7))
          have HO7 := Lib.hid (ownsRow_keep HO5.out (fun _ _ => by rw [hs7.heap]))
          clear hs7 hw7 HN6 HR5 HF5 HO5
          have hz7 : w.heap.size ≤ w7.heap.size := HF7.out.size
          go_wp2_with (at_builtin; refine wpList_append_lies _ rfl _ _ 46 rfl w.heap.size 5 i0 _ 1 1 Tryd.underlying46 hi hz0 hz1 hz2 rfl (by decide) _ _ _ rfl (HO7.out.alloc _) _ 1 1 [.int .u8 c.toNat] rfl rfl (cell_newL _ #[.int .u8 c.toNat] _ rfl) (by simp [Value.oneCell']) (by decide) (by unfold maxLen; omega) (by omega) (by simp; omega) (w7.heap.size + 1) (by simp) ?_; intro g8 c9 w8 hown8 hgrow8 hg8 _; have HO8 := Lib.hid hown8; have HG8 := Lib.hid hgrow8; clear hown8 hgrow8 hg8; have hlt7 := HR7.out.lt; have HR8 : Hid (PAt w8 pb s (k, 0)) := Lib.hid (HR7.out.keep ((HG8.out.block pb (by rw [World.size_alloc]; omega) (fun e => by have := (HO7.out.lt pb e.symm).1; omega)).trans (Below.heap_alloc _ _ _ hlt7))); have HF8 : Hid (Fr (· = pb) w w8) := Lib.hid ((HF7.out.alloc _).grown HG8.out (fun g hg => .inl (HO7.out.lt g hg).1)); clear HR7 HF7 HO7 HG8; have c1 := HR8.out.row.cell (i := 1) rfl; have z1 := HR8.out.row.thaw 1; simp only at c1; have htl := HTL.out; rw [len_list] at htl)
          have HQ9 : Hid (PAt (w8.setCell ⟨pb, 1, none⟩ (.int .i64 ((k : Int) + 1))) pb s (k + 1, 0)) := Lib.hid (PAt.on (S := (k, 0)) HR8.out)
          have HF9 : Hid (Fr (· = pb) w (w8.setCell ⟨pb, 1, none⟩ (.int .i64 ((k : Int) + 1)))) := Lib.hid (HF8.out.trans (fr_set 1 _))
          have HO9 : Hid ((w8.setCell ⟨pb, 1, none⟩ (.int .i64 ((k : Int) + 1))).ownsRow w.heap.size 5 1 (.slice (some ⟨g8, 0, none⟩) (q + 1) c9) (q + 1) (Lib.byteCells acc ++ [.int .u8 c.toNat])) := Lib.hid (owns_but HO8.out ((But.refl pb w8).set 1 _) hlp)
          go_roundw
          case rel => exact ⟨acc ++ [c], f', (k + 1, 0), by rw [List.length_append, ← HLQ.out]; simp only [List.length_cons, List.length_nil]; omega, HNU, by rw [List.length_append, ← HLQ.out, byteCells_app]; exact HO9, Lib.hid (by simp), HQ9, HF9, HW2, HE⟩
          case measure => simp only; omega
end Go.Proofs.YtapnieogfddjkaaDoor.Dr
