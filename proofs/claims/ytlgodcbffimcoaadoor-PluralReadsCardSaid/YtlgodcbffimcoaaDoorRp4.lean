/- The document's reader: a relation, walked. -/
import Derived.Test.YtlgodcbffimcoaaDoorRp3
namespace Go.Proofs.YtlgodcbffimcoaaDoor
open Go.RowKit

theorem mod_yes' {l : List UInt8} {S : St} {b : Bool} (h : nowF l S = some 37) : rMod l S b = ((rNum l (wordF l [37, 32] S)).1, wordF l [32] (rNum l (wordF l [37, 32] S)).2, b && decide (0 < (rNum l (wordF l [37, 32] S)).1)) := by unfold rMod; rw [if_pos h]
theorem mod_no' {l : List UInt8} {S : St} {b : Bool} (h : nowF l S ≠ some 37) : rMod l S b = (0, S, b) := by unfold rMod; rw [if_neg h]
theorem neg_yes' {l : List UInt8} {S : St} (h : nowF l S = some 33) : rNeg l S = (true, wordF l [61, 32] (S.1 + 1, false)) := by unfold rNeg; rw [if_pos h]
theorem neg_no' {l : List UInt8} {S : St} (h : nowF l S ≠ some 33) : rNeg l S = (false, wordF l [61, 32] S) := by unfold rNeg; rw [if_neg h]
theorem grown_at {w8 w9 : World} {v : Value} {o : Obj} {k base size n : Nat} {e : TypeId} {vs : List Value} (hg : (w8.alloc o).grownBy w9 v.ownBlock) (ho : w8.ownsRow base e size v n vs) (hk : k < w8.heap.size) (hb : k < base) : w9.heap[k]? = w8.heap[k]? :=
  (hg.block k (by rw [World.size_alloc]; omega) (fun e => by have := (ho.lt k e.symm).1; omega)).trans (Below.heap_alloc _ _ _ hk)
theorem RlU.rb9 {s : BA} {pb : Nat} {w w8 w9 : World} {m : Int} {ng : Bool} {v : Value} {xs : List Sp} {vs : List Value} {T : St} {b : Bool} {o : Obj} (h : RlU s pb w w8 m ng v xs vs T b) (hg : (w8.alloc o).grownBy w9 v.ownBlock) : Row w9 (w.heap.size + 1) 49 [.int .i64 m, .bool ng, v] := h.rb.keep (grown_at hg h.own h.rb.lt (by omega))
theorem RlU.push {s : BA} {pb : Nat} {w w8 w9 : World} {m : Int} {ng : Bool} {v : Value} {xs : List Sp} {vs : List Value} {T : St} {b : Bool} {o : Obj} {n g c : Nat} {lo hi : Int} (h : RlU s pb w w8 m ng v xs vs T b) (hn : n = xs.length) (hlr : pb < w.heap.size) (hg : (w8.alloc o).grownBy w9 v.ownBlock)
    (hown : w9.ownsRow (w.heap.size + 2) 55 2 (.slice (some ⟨g, 0, none⟩) (n + 1) c) (n + 1) (vs ++ [.int .i64 lo, .int .i64 hi])) :
    RlU s pb w (w9.setCell ⟨w.heap.size + 1, 2, none⟩ (.slice (some ⟨g, 0, none⟩) (n + 1) c)) m ng (.slice (some ⟨g, 0, none⟩) (n + 1) c) (xs ++ [⟨lo, hi⟩]) (vs ++ [.int .i64 lo, .int .i64 hi]) T b := by
  have hb := (But.refl (w.heap.size + 1) w9).set 2 (.slice (some ⟨g, 0, none⟩) (n + 1) c)
  have hfr : Fr (· = pb) w w9 := (h.fr.alloc o).grown hg (fun k hk => .inl (by have := (h.own.lt k hk).1; omega))
  refine ⟨?_, Cat.snoc (C := CS) (x := ⟨lo, hi⟩) (cs := [.int .i64 lo, .int .i64 hi]) rfl rfl h.cat, (h.rb9 hg).set 2 _, hb.row (h.ra.keep (grown_at hg h.own h.ra.lt (by omega))) (by omega), (h.pt.keep (grown_at hg h.own h.pt.lt (by omega))).keep (hb.block pb (by omega)), hb.fr hfr (by omega)⟩
  rw [List.length_append, ← hn]
  exact ownsRow_keep hown (fun k hk => hb.block k (by have := (hown.lt k hk).1; omega))
theorem RlU.setC {s : BA} {pb : Nat} {w wr : World} {m : Int} {ng : Bool} {v : Value} {xs : List Sp} {vs : List Value} {T : St} {b : Bool} (h : RlU s pb w wr m ng v xs vs T b) (hlr : pb < w.heap.size) (C i : Nat) (u : Value) (hC : w.heap.size + 2 ≤ C) (hk : ∀ k, v.ownBlock = some k → k ≠ C) : RlU s pb w (wr.setCell ⟨C, i, none⟩ u) m ng v xs vs T b := by
  have hb := (But.refl C wr).set i u
  exact ⟨ownsRow_keep h.own (fun k hk2 => hb.block k (hk k hk2)), h.cat, hb.row h.rb (by omega), hb.row h.ra (by omega), h.pt.keep (hb.block pb (by omega)), hb.fr h.fr (by omega)⟩
theorem nowP {pb : Nat} {s : BA} {S : St} {b : Bool} {w : World} (hs : s.size ≤ 400) (h : PAt w pb s S b) : Calls Tryd.prog 25 #[.pointer (some ⟨pb, 0, none⟩)] w fun e w' => e = .returned (.int .i64 (nowI s.data.toList S)) ∧ PAt w' pb s S b ∧ Fr (· = pb) w w' :=
  (now_any pb s S b w hs h).mono (fun e w' ⟨he, n, hn⟩ => ⟨he, h.same (by rw [hn]; exact (Same.refl _).drewN n), by rw [hn]; exact Fr.of_same ((Same.refl _).drewN n)⟩)

set_option maxHeartbeats 3200000 in
set_option maxRecDepth 100000 in
theorem rrel_any (pb : Nat) (s : BA) (S : St) (b : Bool) (w : World) (hs : s.size ≤ 400) (hS : S.1 ≤ s.size) (hR : PAt w pb s S b) :
    Calls Tryd.prog 23 #[.pointer (some ⟨pb, 0, none⟩)] w fun e w' => ∃ a cap, e = .returned (.agg #[.int .i64 (rRel s.data.toList S b).1.m, .bool (rRel s.data.toList S b).1.neg, .slice a (rRel s.data.toList S b).1.sp.length cap]) ∧ SlS w' (Ty [55] w') (.slice a (rRel s.data.toList S b).1.sp.length cap) (rRel s.data.toList S b).1.sp ∧ PAt w' pb s (rRel s.data.toList S b).2.1 (rRel s.data.toList S b).2.2 ∧ Fr (· = pb) w w' := by
  have hlr := hR.lt
  have HU0 : Hid (RlU s pb w ((w.alloc (.cells #[.int .i64 0, .bool false, .slice none 0 0] 49)).alloc (.cells #[.int .i64 0, .bool false, .slice none 0 0] 49)) 0 false (.slice none 0 0) [] [] S b) := Lib.hid
    ⟨World.ownsRow_nil _ _ _ _, rfl, by have h := row_new (w.alloc (.cells #[.int .i64 0, .bool false, .slice none 0 0] 49)) #[.int .i64 0, .bool false, .slice none 0 0] 49; rw [World.size_alloc] at h; exact h, (row_new w #[.int .i64 0, .bool false, .slice none 0 0] 49).alloc _, (hR.below (below1 _ _)).below (below1 _ _), ((Fr.refl (· = pb) w).alloc _).alloc _⟩
  clear hR
  have HSZ : Hid (∀ S5 : St, ∀ (T S4 S1 : St) (m : Nat) (ng b2 : Bool), wordF s.data.toList [61, 32] S4 = S5 → rNeg s.data.toList T = (ng, S5) → rMod s.data.toList S1 b = (m, T, b2) → wordF s.data.toList [105, 32] S = S1 → S5.1 ≤ s.size) := Lib.hid (fun S5 T S4 S1 m ng b2 h1 h2 h3 h4 => by
    have g1 := sz_of rfl (ge_word s.data.toList [105, 32] S) hS
    rw [h4] at g1
    have g2 : T.1 ≤ s.size := by
      unfold rMod at h3
      split at h3
      · injection h3 with _ h3; injection h3 with h3 _; rw [← h3]
        refine sz_of rfl (ge_word _ _ _) ?_
        have := (rnum_ge s.data.toList (wordF s.data.toList [37, 32] S1)).2 (by have := sz_of rfl (ge_word s.data.toList [37, 32] S1) g1; simpa using this)
        simpa using this
      · injection h3 with _ h3; injection h3 with h3 _; rw [← h3]; exact g1
    unfold rNeg at h2
    split at h2
    · rename_i hn
      injection h2 with _ h2; rw [← h2]
      refine sz_of rfl (ge_word _ _ _) ?_
      have := get_lt (live_of hn).2; simp at this; omega
    · injection h2 with _ h2; rw [← h2]; exact sz_of rfl (ge_word _ _ _) g2)
  have HK := Lib.hid (take_any pb s ⟨#[105, 32]⟩ S b _ hs (by decide) HU0.out.pt)
  go_enter Tryd.func23, Tryd.ntmps23
  go_wp2_with fail
  refine HK.out.mono ?_
  rintro e w1 ⟨rfl, hp, hf⟩
  have HU1 : Hid (RlU s pb w w1 0 false (.slice none 0 0) [] [] (wordF s.data.toList [105, 32] S) b) := Lib.hid (HU0.out.fr' hlr hf hp)
  clear hp hf HK HU0
  obtain ⟨S1, HS1⟩ : ∃ S1, Hid (wordF s.data.toList [105, 32] S = S1) := ⟨_, Lib.hid rfl⟩
  rw [HS1.out] at HU1
  have HK := Lib.hid (nowP hs HU1.out.pt)
  go_wp2_with fail
  refine HK.out.mono ?_
  rintro e w2 ⟨rfl, hp, hf⟩
  have HU2 := Lib.hid (HU1.out.fr' hlr hf hp)
  clear hp hf HK HU1
  go_upto_if 11 with (fail)
  go_cut [] (fun wx => ∃ (m : Nat) (T : St) (b2 : Bool), Hid (rMod s.data.toList S1 b = (m, T, b2)) ∧ Hid (RlU s pb w wx m false (.slice none 0 0) [] [] T b2))
  case first =>
    rcases nowI_eq (l := s.data.toList) (S := S1) (c := 37) (n := 37) rfl with ⟨hn, hB⟩ | ⟨hn, hB⟩
    · have HE := Lib.hid (mod_yes' (b := b) hn)
      clear hn
      generalize nowI s.data.toList S1 = v at *
      have HK := Lib.hid (take_any pb s ⟨#[37, 32]⟩ S1 b _ hs (by decide) HU2.out.pt)
      go_wp2_with fail
      refine HK.out.mono ?_
      rintro e w3 ⟨rfl, hp, hf⟩
      have HU3 : Hid (RlU s pb w w3 0 false (.slice none 0 0) [] [] (wordF s.data.toList [37, 32] S1) b) := Lib.hid (HU2.out.fr' hlr hf hp)
      clear hp hf HK HU2
      have HK := Lib.hid (rnumber_any pb s _ b _ hs HU3.out.pt)
      go_wp2_with fail
      refine HK.out.mono ?_
      rintro e w4 ⟨rfl, hp, hf⟩
      have HU4 := Lib.hid (HU3.out.fr' hlr hf hp)
      clear hp hf HK HU3
      obtain ⟨m, T, HMT⟩ : ∃ m T, Hid (rNum s.data.toList (wordF s.data.toList [37, 32] S1) = (m, T)) := ⟨_, _, Lib.hid rfl⟩
      rw [HMT.out] at HE HU4 ⊢
      simp only at HE HU4 ⊢
      have HU5 := Lib.hid (HU4.out.setB hlr 0 (.int .i64 m) m false rfl)
      have d0 := HU4.out.rb.cell (i := 0) rfl
      have z0 := HU4.out.rb.thaw 0
      have HK := Lib.hid (take_any pb s ⟨#[32]⟩ T b _ hs (by decide) HU5.out.pt)
      clear HU4
      go_wp2_with fail
      refine HK.out.mono ?_
      rintro e w6 ⟨rfl, hp, hf⟩
      have HU6 : Hid (RlU s pb w w6 m false (.slice none 0 0) [] [] (wordF s.data.toList [32] T) b) := Lib.hid (HU5.out.fr' hlr hf hp)
      clear hp hf HK HU5 d0 z0
      have e0 := HU6.out.rb.cell (i := 0) rfl
      have p3 := HU6.out.pt.row.cell (i := 3) rfl
      have z3 := HU6.out.pt.row.thaw 3
      cases b with
      | false =>
        have HU7 : Hid (RlU s pb w (w6.setCell ⟨pb, 3, none⟩ (.bool false)) m false (.slice none 0 0) [] [] (wordF s.data.toList [32] T) false) := Lib.hid (HU6.out.fr' hlr (fr_set 3 _) (HU6.out.pt.flag false))
        go_wp2
        go_meet
        case rel => exact ⟨m, _, _, HE, HU7⟩
      | true =>
        by_cases hm : 0 < m
        · have HU7 : Hid (RlU s pb w (w6.setCell ⟨pb, 3, none⟩ (.bool true)) m false (.slice none 0 0) [] [] (wordF s.data.toList [32] T) true) := Lib.hid (HU6.out.fr' hlr (fr_set 3 _) (HU6.out.pt.flag true))
          rw [decide_eq_true hm] at HE
          have hmi : (0 : Int) < (m : Int) := by omega
          go_wp2
          go_meet
          case rel => exact ⟨m, _, _, HE, HU7⟩
        · have HU7 : Hid (RlU s pb w (w6.setCell ⟨pb, 3, none⟩ (.bool false)) m false (.slice none 0 0) [] [] (wordF s.data.toList [32] T) false) := Lib.hid (HU6.out.fr' hlr (fr_set 3 _) (HU6.out.pt.flag false))
          rw [decide_eq_false hm] at HE
          have hmi : ¬ (0 : Int) < (m : Int) := by omega
          go_wp2
          go_meet
          case rel => exact ⟨m, _, _, HE, HU7⟩
    · have HE := Lib.hid (mod_no' (b := b) hn)
      clear hn
      generalize nowI s.data.toList S1 = v at *
      go_wp2
      go_meet
      case rel => exact ⟨0, S1, b, HE, HU2⟩
  case rest =>
    obtain ⟨m, T, b2, HM, HU3⟩ := hcut
    clear HU2
    have HK := Lib.hid (nowP hs HU3.out.pt)
    go_wp2_with fail
    refine HK.out.mono ?_
    rintro e w3 ⟨rfl, hp, hf⟩
    have HU4 := Lib.hid (HU3.out.fr' hlr hf hp)
    clear hp hf HK HU3
    go_upto_if 33 with (fail)
    go_cut [] (fun wx => ∃ (ng : Bool) (S4 : St), Hid (rNeg s.data.toList T = (ng, wordF s.data.toList [61, 32] S4)) ∧ Hid (RlU s pb w wx m ng (.slice none 0 0) [] [] S4 b2))
    case first =>
      rcases nowI_eq (l := s.data.toList) (S := T) (c := 33) (n := 33) rfl with ⟨hn, hB⟩ | ⟨hn, hB⟩
      · have HE := Lib.hid (neg_yes' hn)
        have HTL := Lib.hid (live_of hn).1
        have hlt : T.1 < s.size := by have := get_lt (live_of hn).2; simpa using this
        clear hn
        generalize nowI s.data.toList T = v at *
        have hpt := HU4.out.pt
        rw [HTL.out] at hpt
        have HP := Lib.hid hpt
        clear hpt
        have c1 := HP.out.row.cell (i := 1) rfl
        have z1 := HP.out.row.thaw 1
        simp only at c1
        have HU5 : Hid (RlU s pb w (w3.setCell ⟨pb, 1, none⟩ (.int .i64 ((T.1 : Int) + 1))) m false (.slice none 0 0) [] [] (T.1 + 1, false) b2) := Lib.hid (HU4.out.fr' hlr (fr_set 1 _) (PAt.on (S := (T.1, false)) HP.out))
        have HU6 := Lib.hid (HU5.out.setB hlr 1 (.bool true) m true rfl)
        have d1 := HU5.out.rb.cell (i := 1) rfl
        have y1 := HU5.out.rb.thaw 1
        go_wp2
        go_meet
        case rel => exact ⟨true, _, HE, HU6⟩
      · have HE := Lib.hid (neg_no' hn)
        clear hn
        generalize nowI s.data.toList T = v at *
        go_wp2
        go_meet
        case rel => exact ⟨false, _, HE, HU4⟩
    case rest =>
      obtain ⟨ng, S4, HN, HU5⟩ := hcut
      clear HU4
      have HK := Lib.hid (take_any pb s ⟨#[61, 32]⟩ S4 b2 _ hs (by decide) HU5.out.pt)
      go_wp2_with fail
      refine HK.out.mono ?_
      rintro e w5 ⟨rfl, hp, hf⟩
      have HU6 : Hid (RlU s pb w w5 m ng (.slice none 0 0) [] [] (wordF s.data.toList [61, 32] S4) b2) := Lib.hid (HU5.out.fr' hlr hf hp)
      clear hp hf HK HU5
      obtain ⟨S5, HS5⟩ : ∃ S5, Hid (wordF s.data.toList [61, 32] S4 = S5) := ⟨_, Lib.hid rfl⟩
      rw [HS5.out] at HU6 HN
      have HREL : Hid (∀ sp X b3, rSpans s.data.toList S5 b2 = (sp, X, b3) → rRel s.data.toList S b = (⟨m, ng, sp⟩, X, b3)) := Lib.hid (fun sp X b3 h => by
        unfold rRel; rw [HS1.out, HM.out]; simp only; rw [HN.out]; simp only; rw [h])
      have HLE5 : Hid (S5.1 ≤ s.size) := Lib.hid (HSZ.out S5 T S4 S1 m ng b2 HS5.out HN.out HM.out HS1.out)
      go_wp2
      go_loopw [4] (fun u wr => ∃ (more : Bool) (xs : List Sp) (vs : List Value) (a : Option Addr) (cap : Nat) (U : St) (b3 : Bool) (f : Nat), u = .bool more ∧ U.1 ≤ s.size ∧ (more = true → xs.length ≤ U.1) ∧ Hid (RlU s pb w wr m ng (.slice a xs.length cap) xs vs U b3) ∧ Hid (contF s.data.toList f more xs U b3 = rSpans s.data.toList S5 b2) ∧ Hid (more = true → s.data.toList.length ≤ f + U.1)) (fun u wr => 2 * plc s.size pb wr + (match u with | .bool true => 1 | _ => 0))
      case atStart => exact ⟨true, [], [], none, 0, S5, b2, s.data.toList.length, rfl, HLE5.out, fun _ => Nat.zero_le _, HU6, Lib.hid rfl, Lib.hid (fun _ => by omega)⟩
      case round =>
        obtain ⟨more, xs, vs, a, cap, U, b3, f, rfl, hU, hfew, HU7, HCT, HFU⟩ := hrel
        clear HU6
        obtain ⟨n, HL⟩ : ∃ n, Hid (n = xs.length) := ⟨_, Lib.hid rfl⟩
        cases more with
        | false =>
          have hsp : rSpans s.data.toList S5 b2 = (xs, U, b3) := HCT.out.symm
          have HE := Lib.hid (HREL.out _ _ _ hsp)
          rw [← HL.out] at HU7
          have d0 := HU7.out.rb.cell (i := 0) rfl
          have d1 := HU7.out.rb.cell (i := 1) rfl
          have d2 := HU7.out.rb.cell (i := 2) rfl
          have a0 := HU7.out.ra.cell (i := 0) rfl
          have a1 := HU7.out.ra.cell (i := 1) rfl
          have a2 := HU7.out.ra.cell (i := 2) rfl
          have x0 := HU7.out.ra.thaw 0
          have x1 := HU7.out.ra.thaw 1
          have x2 := HU7.out.ra.thaw 2
          clear hsp hfew
          go_wp2
          have Q3 := HU7.out.ra.put3 (.int .i64 (m : Int)) (.bool ng) (.slice a n cap)
          have B3 := But.put3 w.heap.size wr (.int .i64 (m : Int)) (.bool ng) (.slice a n cap)
          have hown := ownsRow_keep (w' := (((wr.setCell ⟨w.heap.size, 0, none⟩ (.int .i64 (m : Int))).setCell ⟨w.heap.size, 1, none⟩ (.bool ng)).setCell ⟨w.heap.size, 2, none⟩ (.slice a n cap))) HU7.out.own (fun k hk => B3.block k (by have := (HU7.out.own.lt k hk).1; omega))
          have hfr := B3.fr HU7.out.fr (Nat.le_refl _)
          have hpt := HU7.out.pt.keep (B3.block pb (by omega))
          generalize (((wr.setCell ⟨w.heap.size, 0, none⟩ (.int .i64 (m : Int))).setCell ⟨w.heap.size, 1, none⟩ (.bool ng)).setCell ⟨w.heap.size, 2, none⟩ (.slice a n cap)) = w9 at *
          have e0 := Q3.cell (i := 0) rfl
          have e1 := Q3.cell (i := 1) rfl
          have e2 := Q3.cell (i := 2) rfl
          have hsl := Sl.of_owns hown HU7.out.cat (S := Ty [55] w9) (fun b cs z h => ⟨cs, 55, z, h, by simp⟩)
          exact bodyPost_ret (v := .agg #[.int .i64 (m : Int), .bool ng, .slice a n cap]) (by simp [results, Tryd.results23, go_sem, e0, e1, e2]) rfl (by rw [HE.out]; rw [HL.out] at hsl ⊢; exact ⟨a, cap, rfl, hsl, hpt, hfr⟩)
        | true =>
          have hfew1 := hfew rfl
          rw [← HL.out] at HU7
          clear hfew
          have HCW : Hid (w.heap.size + 2 ≤ wr.heap.size) := Lib.hid (by have := HU7.out.rb.lt; omega)
          have HOK : Hid (∀ k, (Value.slice a n cap).ownBlock = some k → k ≠ wr.heap.size) := Lib.hid (fun k hk => by have := (HU7.out.own.lt k hk).2; omega)
          have HU8 : Hid (RlU s pb w (wr.alloc (.cells #[.int .i64 0, .int .i64 0] 55)) m ng (.slice a n cap) xs vs U b3) := Lib.hid (HU7.out.fr' hlr (fr_alloc _ _ _) (HU7.out.pt.below (below1 _ _)))
          have HC8 := Lib.hid (row_new wr #[.int .i64 0, .int .i64 0] 55)
          have HM0 := Lib.hid (plc_p (m := s.size) HU7.out.pt)
          clear HU7
          have HK := Lib.hid (rnumber_any pb s U b3 _ hs HU8.out.pt)
          go_wp2_with fail
          refine HK.out.mono ?_
          rintro e w4 ⟨rfl, hp, hf⟩
          have HU9 := Lib.hid (HU8.out.fr' hlr hf hp)
          have HC9 := Lib.hid (HC8.out.fr hf (by have := HCW.out; omega))
          clear hp hf HK HU8 HC8
          obtain ⟨C, HCC⟩ : ∃ C, Hid (wr.heap.size = C) := ⟨_, Lib.hid rfl⟩
          rw [HCC.out] at HCW HOK HC9 ⊢
          obtain ⟨lo, V, HLV⟩ : ∃ lo V, Hid (rNum s.data.toList U = (lo, V)) := ⟨_, _, Lib.hid rfl⟩
          rw [HLV.out] at HU9 ⊢
          simp only at HU9 ⊢
          have c0 := HC9.out.cell (i := 0) rfl
          have c1 := HC9.out.cell (i := 1) rfl
          have z0 := HC9.out.thaw 0
          have z1 := HC9.out.thaw 1
          have HU10 := Lib.hid ((HU9.out.setC hlr C 0 (.int .i64 lo) HCW.out HOK.out).setC hlr C 1 (.int .i64 lo) HCW.out HOK.out)
          have HC10 : Hid (Row ((w4.setCell ⟨C, 0, none⟩ (.int .i64 lo)).setCell ⟨C, 1, none⟩ (.int .i64 lo)) C 55 [.int .i64 lo, .int .i64 lo]) := Lib.hid (HC9.out.put2 (.int .i64 lo) (.int .i64 lo))
          have HK := Lib.hid (nowP hs HU10.out.pt)
          go_wp2_with fail
          refine HK.out.mono ?_
          rintro e w5 ⟨rfl, hp, hf⟩
          have HU11 := Lib.hid (HU10.out.fr' hlr hf hp)
          have HC11 := Lib.hid (HC10.out.fr hf (by have := HCW.out; omega))
          clear hp hf HK HU10 HC10 HU9 HC9 c0 c1 z0 z1
          go_upto_if 54 with (fail)
          go_cut [] (fun wx => ∃ (x : Sp) (X : St) (b4 : Bool), Hid (rSpan s.data.toList U b3 = (x, X, b4)) ∧ Hid (RlU s pb w wx m ng (.slice a n cap) xs vs X b4) ∧ Hid (Row wx C 55 [.int .i64 x.lo, .int .i64 x.hi]))
          case first =>
            rcases nowI_eq (l := s.data.toList) (S := V) (c := 46) (n := 46) rfl with ⟨hn, hB⟩ | ⟨hn, hB⟩
            · have HE := Lib.hid (rspan_dot (b := b3) (l := s.data.toList) (T := U) (by rw [HLV.out]; exact hn))
              rw [HLV.out] at HE
              clear hn
              generalize nowI s.data.toList V = v at *
              have HK := Lib.hid (take_any pb s ⟨#[46, 46]⟩ V b3 _ hs (by decide) HU11.out.pt)
              go_wp2_with fail
              refine HK.out.mono ?_
              rintro e w6 ⟨rfl, hp, hf⟩
              have HU12 : Hid (RlU s pb w w6 m ng (.slice a n cap) xs vs (wordF s.data.toList [46, 46] V) b3) := Lib.hid (HU11.out.fr' hlr hf hp)
              have HC12 := Lib.hid (HC11.out.fr hf (by have := HCW.out; omega))
              clear hp hf HK HU11 HC11
              have HK := Lib.hid (rnumber_any pb s _ b3 _ hs HU12.out.pt)
              go_wp2_with fail
              refine HK.out.mono ?_
              rintro e w7 ⟨rfl, hp, hf⟩
              have HU13 := Lib.hid (HU12.out.fr' hlr hf hp)
              have HC13 := Lib.hid (HC12.out.fr hf (by have := HCW.out; omega))
              clear hp hf HK HU12 HC12
              obtain ⟨hi, X, HHX⟩ : ∃ hi X, Hid (rNum s.data.toList (wordF s.data.toList [46, 46] V) = (hi, X)) := ⟨_, _, Lib.hid rfl⟩
              try simp only at HE
              rw [HHX.out] at HE HU13 ⊢
              simp only at HE HU13 ⊢
              have c0 := HC13.out.cell (i := 0) rfl
              have c1 := HC13.out.cell (i := 1) rfl
              have z1 := HC13.out.thaw 1
              have HU14 := Lib.hid (HU13.out.setC hlr C 1 (.int .i64 hi) HCW.out HOK.out)
              have HC14 : Hid (Row (w7.setCell ⟨C, 1, none⟩ (.int .i64 hi)) C 55 [.int .i64 lo, .int .i64 hi]) := Lib.hid (HC13.out.set 1 (.int .i64 hi))
              have p3 := HU14.out.pt.row.cell (i := 3) rfl
              have q3 := HU14.out.pt.row.thaw 3
              have hpC : pb ≠ C := by have := HCW.out; omega
              cases b3 with
              | false =>
                have HU15 : Hid (RlU s pb w ((w7.setCell ⟨C, 1, none⟩ (.int .i64 hi)).setCell ⟨pb, 3, none⟩ (.bool false)) m ng (.slice a n cap) xs vs X false) := Lib.hid (HU14.out.fr' hlr (fr_set 3 _) (HU14.out.pt.flag false))
                have HC15 := Lib.hid (((But.refl pb (w7.setCell ⟨C, 1, none⟩ (.int .i64 hi))).set 3 (.bool false)).row HC14.out (fun e => hpC e.symm))
                go_wp2
                go_meet
                case rel => exact ⟨_, _, _, HE, HU15, HC15⟩
              | true =>
                by_cases hlh : lo < hi
                · rw [decide_eq_true hlh] at HE
                  have hlhi : (lo : Int) < (hi : Int) := by omega
                  have HU15 : Hid (RlU s pb w ((w7.setCell ⟨C, 1, none⟩ (.int .i64 hi)).setCell ⟨pb, 3, none⟩ (.bool true)) m ng (.slice a n cap) xs vs X true) := Lib.hid (HU14.out.fr' hlr (fr_set 3 _) (HU14.out.pt.flag true))
                  have HC15 := Lib.hid (((But.refl pb (w7.setCell ⟨C, 1, none⟩ (.int .i64 hi))).set 3 (.bool true)).row HC14.out (fun e => hpC e.symm))
                  go_wp2
                  go_meet
                  case rel => exact ⟨_, _, _, HE, HU15, HC15⟩
                · rw [decide_eq_false hlh] at HE
                  have hlhi : ¬ (lo : Int) < (hi : Int) := by omega
                  have HU15 : Hid (RlU s pb w ((w7.setCell ⟨C, 1, none⟩ (.int .i64 hi)).setCell ⟨pb, 3, none⟩ (.bool false)) m ng (.slice a n cap) xs vs X false) := Lib.hid (HU14.out.fr' hlr (fr_set 3 _) (HU14.out.pt.flag false))
                  have HC15 := Lib.hid (((But.refl pb (w7.setCell ⟨C, 1, none⟩ (.int .i64 hi))).set 3 (.bool false)).row HC14.out (fun e => hpC e.symm))
                  go_wp2
                  go_meet
                  case rel => exact ⟨_, _, _, HE, HU15, HC15⟩
            · have HE := Lib.hid (rspan_one (b := b3) (l := s.data.toList) (T := U) (by rw [HLV.out]; exact hn))
              rw [HLV.out] at HE
              clear hn
              generalize nowI s.data.toList V = v at *
              go_wp2
              go_meet
              case rel => exact ⟨_, _, _, HE, HU11, HC11⟩
          case rest =>
            obtain ⟨x, X, b4, HSP, HU12, HC12⟩ := hcut
            obtain ⟨xlo, xhi⟩ := x
            simp only at HC12
            clear HU11 HC11
            obtain ⟨i0, hi9, hz0, hz1, hz2⟩ := info_parts info55
            have HGX : Hid (U.1 ≤ X.1 ∧ X.1 ≤ s.size) := Lib.hid (by
              have h := rspan_ge s.data.toList U b3
              rw [HSP.out] at h
              exact ⟨h.1, by have := h.2 (by simpa using hU); simpa using this⟩)
            have HO : Hid (wc.ownsRow (w.heap.size + 2) 55 2 (.slice a n cap) n vs) := Lib.hid (by have h := HU12.out.own; rw [← HL.out] at h; exact h)
            have hn1000 : n ≤ 1000 := by have := HL.out; omega
            have hzw : w.heap.size + 2 ≤ wc.heap.size := by have := HU12.out.rb.lt; omega
            have c0 := HC12.out.cell (i := 0) rfl
            have c1 := HC12.out.cell (i := 1) rfl
            have d2 := HU12.out.rb.cell (i := 2) rfl
            have HLN : Hid ((xs ++ [(⟨xlo, xhi⟩ : Sp)]).length = n + 1) := Lib.hid (by rw [List.length_append, ← HL.out]; rfl)
            go_wp2_with (at_builtin; refine wpList_append_lies _ rfl _ _ 47 rfl (w.heap.size + 2) 55 i0 _ 2 16 Tryd.underlying47 hi9 hz0 hz1 hz2 rfl (by decide) _ _ _ rfl (HO.out.alloc _) _ 1 1 [.int .i64 xlo, .int .i64 xhi] rfl rfl (cell_newL _ #[.int .i64 xlo, .int .i64 xhi] _ rfl) (by simp [Value.oneCell']) (by decide) (by unfold maxLen; omega) (by omega) (by simp; omega) (wc.heap.size + 1) (by simp) ?_; intro g5 c5 w9 hown9 hgrow9 _ _; have HB9 := Lib.hid (HU12.out.rb9 hgrow9); have HPU := Lib.hid (HU12.out.push HL.out hlr hgrow9 hown9); have b29 := HB9.out.cell (i := 2) rfl; have y29 := HB9.out.thaw 2; clear hown9 hgrow9 c0 c1 d2)
            have HK := Lib.hid (nowP hs HPU.out.pt)
            refine HK.out.mono ?_
            rintro e w10 ⟨rfl, hp, hf⟩
            have HU13 := Lib.hid (HPU.out.fr' hlr hf hp)
            clear hp hf HK HPU HB9 b29 y29 HU12 HC12 HO
            rcases nowI_eq (l := s.data.toList) (S := X) (c := 44) (n := 44) rfl with ⟨hn, hB⟩ | ⟨hn, hB⟩
            · have hlt : X.1 < s.size := by have := get_lt (live_of hn).2; simpa using this
              have HXL := Lib.hid (live_of hn).1
              obtain ⟨f', hf'⟩ : ∃ f', f = f' + 1 := ⟨f - 1, by have h1 := HFU.out trivial; have h2 := HGX.out.1; have h3 : s.data.toList.length = s.size := by simp
                                                                omega⟩
              have HCT2 : Hid (contF s.data.toList f' true (xs ++ [⟨xlo, xhi⟩]) (X.1 + 1, false) b4 = rSpans s.data.toList S5 b2) := Lib.hid (by
                rw [← HCT.out, hf', cont_yes (by rw [HSP.out]; exact hn), HSP.out])
              have HFU2 : Hid (true = true → s.data.toList.length ≤ f' + (X.1 + 1)) := Lib.hid (fun _ => by have h1 := HFU.out trivial; have h2 := HGX.out.1; omega)
              clear hn hf'
              generalize nowI s.data.toList X = v at *
              have hpt := HU13.out.pt
              rw [HXL.out] at hpt
              have HP := Lib.hid hpt
              clear hpt
              have c1 := HP.out.row.cell (i := 1) rfl
              have z1 := HP.out.row.thaw 1
              simp only at c1
              have HU14 := Lib.hid (HU13.out.fr' hlr (fr_set 1 (.int .i64 ((X.1 : Int) + 1))) (PAt.on (S := (X.1, false)) HP.out))
              rw [← HLN.out] at HU14
              have hg1 := HGX.out.1
              go_wp2
              go_roundw
              case rel => exact ⟨true, _, _, _, c5, (X.1 + 1, false), b4, f', rfl, by simp only; omega, fun _ => by rw [HLN.out]; have := HL.out; simp only; omega, HU14, HCT2, Lib.hid (fun _ => HFU2.out (by first | trivial | rfl))⟩
              case measure =>
                have h1 := plc_p (m := s.size) HU14.out.pt
                rw [HM0.out, h1]
                simp only
                omega
            · have HCT2 : Hid (contF s.data.toList 0 false (xs ++ [⟨xlo, xhi⟩]) X b4 = rSpans s.data.toList S5 b2) := Lib.hid (by
                rw [← HCT.out, cont_no (by rw [HSP.out]; exact hn), HSP.out])
              clear hn
              generalize nowI s.data.toList X = v at *
              rw [← HLN.out] at HU13
              have hg1 := HGX.out.1
              have hg2 := HGX.out.2
              go_wp2
              go_roundw
              case rel => exact ⟨false, _, _, _, c5, X, b4, 0, rfl, hg2, (fun h => by cases h), HU13, HCT2, Lib.hid (fun h => by cases h)⟩
              case measure =>
                have h1 := plc_p (m := s.size) HU13.out.pt
                rw [HM0.out, h1]
                simp only
                omega
end Go.Proofs.YtlgodcbffimcoaaDoor
