/- Package disk: find; the document's At. -/
import Derived.Test.YtmhdodiipkkjpaaDg
import Derived.Test.YtmhdodiipkkjpaaDh
namespace Go.Proofs.Ytmhdodiipkkjpaa.Dk
open Go.RowKit

/-- Three cells of a block stored. -/
abbrev put3 (W : World) (P : Nat) (a b c : Value) : World := ((W.setCell ⟨P, 0, none⟩ a).setCell ⟨P, 1, none⟩ b).setCell ⟨P, 2, none⟩ c
theorem put3_but (W : World) (P : Nat) (a b c : Value) : But P W (put3 W P a b c) := (((But.refl P W).set 0 a).set 1 b).set 2 c
theorem put3_row {W : World} {P : Nat} {t : TypeId} {x y z : Value} (h : Row W P t [x, y, z]) (a b c : Value) : Row (put3 W P a b c) P t [a, b, c] := ((h.set 0 a).set 1 b).set 2 c
def finV : Except Nat Fil → Value
  | .ok f => .tuple #[fiV f, .int .i64 0]
  | .error k => .tuple #[fiV noF, .int .i64 (k : Nat)]
/-- What find answers. -/
def FindP (r : Except Nat Fil) (w : World) (e : Ending) (w' : World) : Prop := e = .returned (finV r) ∧ Below w.heap.size w w'
theorem find_first {l : List Fil} {n : BA} {k : Nat} {x : Fil} (hx : l[k]? = some x) (he : x.nm = n) (hb : ∀ (j : Nat) y, j < k → l[j]? = some y → y.nm ≠ n) : findF l n = some x := by
  obtain ⟨hi, rfl⟩ := List.getElem?_eq_some_iff.1 hx
  unfold findF
  rw [List.find?_eq_some_iff_getElem]
  exact ⟨by simpa using he, k, hi, rfl, fun j hj => by simpa using hb j _ hj (List.getElem?_eq_getElem (by omega))⟩
theorem find_nowhere {l : List Fil} {n : BA} (hb : ∀ (j : Nat) y, l[j]? = some y → y.nm ≠ n) : findF l n = none := by
  rw [findF_none]
  intro x hx
  obtain ⟨i, hi⟩ := List.getElem?_of_mem hx
  exact hb i x hi
theorem findE_yes {d : Dsk} {ns : List BA} {n : BA} {f : Fil} (h : RgtD d) (hn : nmsB ns = true) (hd : d.down = false) (hf : findF d.fs n = some f) : findE d ns n = .ok f := by
  rw [findE_up h hn hd, hf]
theorem findE_no {d : Dsk} {ns : List BA} {n : BA} (h : RgtD d) (hn : nmsB ns = true) (hd : d.down = false) (hf : findF d.fs n = none) : findE d ns n = .error 60 := by
  rw [findE_up h hn hd, hf]
theorem nms_cons {n : BA} {l : List BA} : nmsB (n :: l) = (nmB n && nmsB l) := by unfold nmsB; simp
theorem str_eq {a b : BA} (h : a = b) : (a.toList == b.toList) = true := by rw [h]; simp
theorem str_ne {a b : BA} (h : a ≠ b) : (a.toList == b.toList) = false := by
  rw [beq_eq_false_iff_ne]; exact fun e => h (baExt e)

set_option maxHeartbeats 6400000 in
set_option maxRecDepth 100000 in
theorem find_any (w : World) (d : Dsk) (a : Option Addr) (cap : Nat) (n : BA) (more : List BA) (am : Option Addr) (cm : Nat) (h : DAt w d a cap) (hn : n.size ≤ 140737488351232) (hm : SlS w (Old w) (.slice am more.length cm) more) (hms : ∀ s, s ∈ more → s.size ≤ 140737488351232) :
    Calls Try.prog 30 #[diV d (.slice a d.fs.length cap), .string n, .slice am more.length cm] w (FindP (findE d (n :: more) n) w) := by
  obtain ⟨rm, fs, lf, dn⟩ := d
  have HX := Lib.hid h.fs
  have HRT := Lib.hid (fun W (hb : Below w.heap.size w W) => right_any W ⟨rm, fs, lf, dn⟩ a cap (h.old hb))
  have HM := Lib.hid (fun W (hb : Below w.heap.size w W) => rightNames_any W am cm more (hm.old hb) hms)
  have HN1 := Lib.hid (fun W => rightNames_any (W.alloc (.cells #[.string n] 9)) (some ⟨W.heap.size, 0, none⟩) 1 [n] (SlS.one W n 9) (one_le hn))
  obtain ⟨L, HL⟩ : ∃ L, Hid (L = fs.length) := ⟨_, Lib.hid rfl⟩
  obtain ⟨LM, HLM⟩ : ∃ L, Hid (L = more.length) := ⟨_, Lib.hid rfl⟩
  have hL : L ≤ 9223372036854775807 := by have := HL.out; have := h.fs.len; simp only at this; omega
  simp only at HX HRT ⊢
  rw [← HL.out] at HX HRT ⊢
  rw [← HLM.out] at HM ⊢
  rw [nms_one] at HN1
  clear h hm hms
  obtain ⟨W1, HW1⟩ : ∃ W, Hid (W = (w.alloc (.cells #[.int .i64 rm, .slice a L cap, .int .i64 lf, .bool dn] 24)).alloc (.cells (fiC noF) 44)) := ⟨_, Lib.hid rfl⟩
  have HB1 : Hid (Below w.heap.size w W1) := Lib.hid (by rw [HW1.out]; exact below2 _ _ _)
  have HSZ : Hid (W1.heap.size = w.heap.size + 2) := Lib.hid (by rw [HW1.out]; simp)
  have HRD : Hid (Row W1 w.heap.size 24 [.int .i64 rm, .slice a L cap, .int .i64 lf, .bool dn]) := Lib.hid (by rw [HW1.out]; exact (row_new w #[.int .i64 rm, .slice a L cap, .int .i64 lf, .bool dn] _).alloc _)
  have HRF : Hid (Row W1 (w.heap.size + 1) 44 [.string ⟨#[]⟩, .string ⟨#[]⟩, .string ⟨#[]⟩]) := Lib.hid (by
    rw [HW1.out]
    have h := row_new (w.alloc (.cells #[.int .i64 rm, .slice a L cap, .int .i64 lf, .bool dn] 24)) (fiC noF) 44
    rwa [World.size_alloc] at h)
  have HEND : Hid (∀ W x y z, Below W1.heap.size W1 W → Row (put3 W (w.heap.size + 1) x y z) (w.heap.size + 1) 44 [x, y, z] ∧ Below w.heap.size w (put3 W (w.heap.size + 1) x y z)) := Lib.hid (fun W x y z hb =>
    ⟨put3_row (HRF.out.below hb) x y z, (below_trans HB1.out hb).trans ((put3_but W (w.heap.size + 1) x y z).below (B := w.heap.size) (by omega))⟩)
  have r0 := HRD.out.cell (i := 0) rfl
  have r1 := HRD.out.cell (i := 1) rfl
  have r2 := HRD.out.cell (i := 2) rfl
  have r3 := HRD.out.cell (i := 3) rfl
  have t0 := HRF.out.thaw 0
  have t1 := HRF.out.thaw 1
  have t2 := HRF.out.thaw 2
  have f0 := HRF.out.cell (i := 0) rfl
  have f1 := HRF.out.cell (i := 1) rfl
  have f2 := HRF.out.cell (i := 2) rfl
  rw [HW1.out] at r0 r1 r2 r3 t0 t1 t2 f0 f1 f2
  go_enter Try.func30, Try.ntmps30
  go_wp2_with fail
  rw [← HW1.out]
  rw [← HW1.out] at r0 r1 r2 r3 t0 t1 t2 f0 f1 f2
  refine (HRT.out _ HB1.out).mono ?_
  rintro e w2 ⟨q, rfl, hq, hb2⟩
  have HB2 := Lib.hid hb2
  have HQ := Lib.hid hq
  clear hb2 hq r0 r1 r2 r3 t0 t1 t2 f0 f1 f2 HW1
  cases q with
  | false =>
    have HE : Hid (findE ⟨rm, fs, lf, dn⟩ (n :: more) n = .error 1) := Lib.hid (by unfold findE; rw [if_neg (fun h => by have := HQ.out.2 h.1; cases this)])
    have HRr := HRF.out.below HB2.out
    have t0 := HRr.thaw 0
    have t1 := HRr.thaw 1
    have t2 := HRr.thaw 2
    have k0 := HRr.cell (i := 0) rfl
    have k1 := HRr.cell (i := 1) rfl
    have k2 := HRr.cell (i := 2) rfl
    obtain ⟨hR9, hB9⟩ := HEND.out w2 (.string ⟨#[]⟩) (.string ⟨#[]⟩) (.string ⟨#[]⟩) HB2.out
    have f0 := hR9.cell (i := 0) rfl
    have f1 := hR9.cell (i := 1) rfl
    have f2 := hR9.cell (i := 2) rfl
    have HF9 := Lib.hid hB9
    clear HRr hR9 hB9
    go_wp2
    exact bodyPost_ret (v := .tuple #[fiV noF, .int .i64 1]) (by simp [results, Try.results30, go_sem, f0, f1, f2]) rfl ⟨by rw [HE.out]; rfl, HF9.out⟩
  | true =>
    have HRG : Hid (RgtD ⟨rm, fs, lf, dn⟩) := Lib.hid (HQ.out.1 rfl)
    clear HQ
    obtain ⟨q1, Hq1⟩ : ∃ q, Hid (q = nmB n) := ⟨_, Lib.hid rfl⟩
    obtain ⟨q2, Hq2⟩ : ∃ q, Hid (q = nmsB more) := ⟨_, Lib.hid rfl⟩
    rw [← Hq1.out] at HN1
    rw [← Hq2.out] at HM
    have HBA := Lib.hid (below_trans HB2.out (below1 w2 (.cells #[.string n] 9)))
    go_wp2_with fail
    refine (HN1.out w2).mono ?_
    rintro e w3 ⟨rfl, rfl⟩
    generalize hW3 : w2.alloc (.cells #[.string n] 9) = w3 at *
    clear hW3
    cases q1 with
    | false =>
      have HE : Hid (findE ⟨rm, fs, lf, dn⟩ (n :: more) n = .error 1) := Lib.hid (by unfold findE; rw [if_neg (fun h => by have := h.2; rw [nms_cons, ← Hq1.out] at this; cases this)])
      have HRr := HRF.out.below HBA.out
      have t0 := HRr.thaw 0
      have t1 := HRr.thaw 1
      have t2 := HRr.thaw 2
      have k0 := HRr.cell (i := 0) rfl
      have k1 := HRr.cell (i := 1) rfl
      have k2 := HRr.cell (i := 2) rfl
      obtain ⟨hR9, hB9⟩ := HEND.out w3 (.string ⟨#[]⟩) (.string ⟨#[]⟩) (.string ⟨#[]⟩) HBA.out
      have f0 := hR9.cell (i := 0) rfl
      have f1 := hR9.cell (i := 1) rfl
      have f2 := hR9.cell (i := 2) rfl
      have HF9 := Lib.hid hB9
      clear HRr hR9 hB9
      go_wp2
      exact bodyPost_ret (v := .tuple #[fiV noF, .int .i64 1]) (by simp [results, Try.results30, go_sem, f0, f1, f2]) rfl ⟨by rw [HE.out]; rfl, HF9.out⟩
    | true =>
      go_wp2_with fail
      refine (HM.out w3 (below_trans HB1.out HBA.out)).mono ?_
      rintro e w4 ⟨rfl, rfl⟩
      cases q2 with
      | false =>
        have HE : Hid (findE ⟨rm, fs, lf, dn⟩ (n :: more) n = .error 1) := Lib.hid (by unfold findE; rw [if_neg (fun h => by have := h.2; rw [nms_cons, ← Hq2.out, Bool.and_false] at this; cases this)])
        have HRr := HRF.out.below HBA.out
        have t0 := HRr.thaw 0
        have t1 := HRr.thaw 1
        have t2 := HRr.thaw 2
        have k0 := HRr.cell (i := 0) rfl
        have k1 := HRr.cell (i := 1) rfl
        have k2 := HRr.cell (i := 2) rfl
        obtain ⟨hR9, hB9⟩ := HEND.out w3 (.string ⟨#[]⟩) (.string ⟨#[]⟩) (.string ⟨#[]⟩) HBA.out
        have f0 := hR9.cell (i := 0) rfl
        have f1 := hR9.cell (i := 1) rfl
        have f2 := hR9.cell (i := 2) rfl
        have HF9 := Lib.hid hB9
        clear HRr hR9 hB9
        go_wp2
        exact bodyPost_ret (v := .tuple #[fiV noF, .int .i64 1]) (by simp [results, Try.results30, go_sem, f0, f1, f2]) rfl ⟨by rw [HE.out]; rfl, HF9.out⟩
      | true =>
        have HNM : Hid (nmsB (n :: more) = true) := Lib.hid (by rw [nms_cons, ← Hq1.out, ← Hq2.out]; rfl)
        have HRDw := Lib.hid (HRD.out.below HBA.out)
        have r0 := HRDw.out.cell (i := 0) rfl
        have r1 := HRDw.out.cell (i := 1) rfl
        have r3 := HRDw.out.cell (i := 3) rfl
        cases dn with
        | true =>
          have HE : Hid (findE ⟨rm, fs, lf, true⟩ (n :: more) n = .error 132) := Lib.hid (by unfold findE; rw [if_pos ⟨HRG.out, HNM.out⟩, if_pos rfl])
          have HRr := HRF.out.below HBA.out
          have t0 := HRr.thaw 0
          have t1 := HRr.thaw 1
          have t2 := HRr.thaw 2
          have k0 := HRr.cell (i := 0) rfl
          have k1 := HRr.cell (i := 1) rfl
          have k2 := HRr.cell (i := 2) rfl
          obtain ⟨hR9, hB9⟩ := HEND.out w3 (.string ⟨#[]⟩) (.string ⟨#[]⟩) (.string ⟨#[]⟩) HBA.out
          have f0 := hR9.cell (i := 0) rfl
          have f1 := hR9.cell (i := 1) rfl
          have f2 := hR9.cell (i := 2) rfl
          have HF9 := Lib.hid hB9
          clear HRr hR9 hB9
          go_wp2
          exact bodyPost_ret (v := .tuple #[fiV noF, .int .i64 132]) (by simp [results, Try.results30, go_sem, f0, f1, f2]) rfl ⟨by rw [HE.out]; rfl, HF9.out⟩
        | false =>
          have HFY : Hid (∀ f, findF fs n = some f → findE ⟨rm, fs, lf, false⟩ (n :: more) n = .ok f) := Lib.hid (fun f hf => findE_yes HRG.out HNM.out rfl hf)
          have HFN : Hid (findF fs n = none → findE ⟨rm, fs, lf, false⟩ (n :: more) n = .error 60) := Lib.hid (fun hf => findE_no HRG.out HNM.out rfl hf)
          have HXw := Lib.hid (HX.out.old (below_trans HB1.out HBA.out))
          go_wp2
          clear r0 r1 r3
          go_loopw [31] (fun i wr => ∃ k : Nat, k ≤ L ∧ i = .int .i64 k ∧ Hid (∀ (j : Nat) y, j < k → fs[j]? = some y → y.nm ≠ n) ∧ Hid (Below w3.heap.size w3 wr)) (fun i _ => L - (intOf i).toNat)
          case atStart => exact ⟨0, Nat.zero_le _, rfl, Lib.hid (fun j y h => by omega), Lib.hid (Below.refl _ _)⟩
          case round =>
            obtain ⟨k, hk, rfl, HA, HB⟩ := hrel
            by_cases hlt : k < L
            · obtain ⟨x, hx⟩ : ∃ x, fs[k]? = some x := ⟨_, List.getElem?_eq_getElem (by have := HL.out; omega)⟩
              obtain ⟨b, off, rfl, -, x0, x1, x2⟩ := (HXw.out.old HB.out).get hx
              have hbo := below1 wr (.cells (fiC x) 44)
              have R := row_new wr (fiC x) 44
              have d0 := R.cell (i := 0) rfl
              have d1 := R.cell (i := 1) rfl
              have d2 := R.cell (i := 2) rfl
              have HB5 := Lib.hid (below_trans HB.out hbo)
              have HBW := Lib.hid (below_trans HBA.out HB5.out)
              have HXX := Lib.hid hx
              obtain ⟨xn, xs, xt⟩ := x
              simp only at x0 x1 x2 d0 d1 d2 HB5 HBW
              clear R hbo hx
              by_cases he : xn = n
              · have u1 : (xn.toList == n.toList) = true := str_eq he
                have HE : Hid (findE ⟨rm, fs, lf, false⟩ (n :: more) n = .ok ⟨xn, xs, xt⟩) := Lib.hid (HFY.out _ (find_first HXX.out he HA.out))
                have HRr := HRF.out.below HBW.out
                have t0 := HRr.thaw 0
                have t1 := HRr.thaw 1
                have t2 := HRr.thaw 2
                have k0 := HRr.cell (i := 0) rfl
                have k1 := HRr.cell (i := 1) rfl
                have k2 := HRr.cell (i := 2) rfl
                obtain ⟨hR9, hB9⟩ := HEND.out _ (.string xn) (.string xs) (.string xt) HBW.out
                have f0 := hR9.cell (i := 0) rfl
                have f1 := hR9.cell (i := 1) rfl
                have f2 := hR9.cell (i := 2) rfl
                have HF9 := Lib.hid hB9
                clear HRr hR9 hB9 he
                go_wp2
                exact bodyPost_ret (v := .tuple #[fiV ⟨xn, xs, xt⟩, .int .i64 0]) (by simp [results, Try.results30, go_sem, f0, f1, f2]) rfl ⟨by rw [HE.out]; rfl, HF9.out⟩
              · have u1 : (xn.toList == n.toList) = false := str_ne he
                have HA2 : Hid (∀ (j : Nat) y, j < k + 1 → fs[j]? = some y → y.nm ≠ n) := Lib.hid (fun j y hj hy => by
                  rcases Nat.lt_or_eq_of_le (Nat.le_of_lt_succ hj) with h1 | rfl
                  · exact HA.out j y h1 hy
                  · rw [HXX.out] at hy; obtain rfl := Option.some.inj hy; exact he)
                clear he
                go_wp2
                go_roundw
                case rel => exact ⟨k + 1, by omega, by go_num, HA2, HB5⟩
                case measure => simp [intOf]; omega
            · have HBW := Lib.hid (below_trans HBA.out HB.out)
              have HE : Hid (findE ⟨rm, fs, lf, false⟩ (n :: more) n = .error 60) := Lib.hid (HFN.out (find_nowhere (fun j y hy => HA.out j y (by have := (List.getElem?_eq_some_iff.1 hy).1; have := HL.out; omega) hy)))
              have HRr := HRF.out.below HBW.out
              have t0 := HRr.thaw 0
              have t1 := HRr.thaw 1
              have t2 := HRr.thaw 2
              have k0 := HRr.cell (i := 0) rfl
              have k1 := HRr.cell (i := 1) rfl
              have k2 := HRr.cell (i := 2) rfl
              obtain ⟨hR9, hB9⟩ := HEND.out wr (.string ⟨#[]⟩) (.string ⟨#[]⟩) (.string ⟨#[]⟩) HBW.out
              have f0 := hR9.cell (i := 0) rfl
              have f1 := hR9.cell (i := 1) rfl
              have f2 := hR9.cell (i := 2) rfl
              have HF9 := Lib.hid hB9
              clear HRr hR9 hB9
              go_wp2
              exact bodyPost_ret (v := .tuple #[fiV noF, .int .i64 60]) (by simp [results, Try.results30, go_sem, f0, f1, f2]) rfl ⟨by rw [HE.out]; rfl, HF9.out⟩

/-- The place of a name. -/
def atF (l : List Fil) (n : BA) : Int := match l.findIdx? (fun x => decide (x.nm = n)) with
  | some i => (i : Nat)
  | none => -1
theorem at_first {l : List Fil} {n : BA} {k : Nat} {x : Fil} (hx : l[k]? = some x) (he : x.nm = n) (hb : ∀ (j : Nat) y, j < k → l[j]? = some y → y.nm ≠ n) : atF l n = (k : Nat) := by
  obtain ⟨hi, rfl⟩ := List.getElem?_eq_some_iff.1 hx
  have : l.findIdx? (fun x => decide (x.nm = n)) = some k := by
    rw [List.findIdx?_eq_some_iff_getElem]
    exact ⟨hi, by simpa using he, fun j hj => by simpa using hb j _ hj (List.getElem?_eq_getElem (by omega))⟩
  unfold atF
  rw [this]
theorem at_nowhere {l : List Fil} {n : BA} (hb : ∀ (j : Nat) y, l[j]? = some y → y.nm ≠ n) : atF l n = -1 := by
  have : l.findIdx? (fun x => decide (x.nm = n)) = none := by
    rw [List.findIdx?_eq_none_iff]
    intro x hx
    obtain ⟨i, hi⟩ := List.getElem?_of_mem hx
    simpa using hb i x hi
  unfold atF
  rw [this]
theorem at_find {l : List Fil} {n : BA} : (findF l n = none ∧ atF l n = -1) ∨ ∃ (k : Nat) (x : Fil), l[k]? = some x ∧ findF l n = some x ∧ atF l n = (k : Nat) ∧ x.nm = n := by
  cases h : findF l n with
  | none => exact .inl ⟨rfl, at_nowhere (fun j y hy => findF_none.1 h y (mem_at hy))⟩
  | some x =>
    unfold findF at h
    rw [List.find?_eq_some_iff_getElem] at h
    obtain ⟨h1, i, hi, rfl, h2⟩ := h
    have h1' : (l[i]).nm = n := by simpa using h1
    exact .inr ⟨i, _, List.getElem?_eq_getElem hi, rfl, at_first (List.getElem?_eq_getElem hi) h1' (fun j y hj hy => by
      obtain ⟨hj2, rfl⟩ := List.getElem?_eq_some_iff.1 hy
      simpa using h2 j hj), h1'⟩

set_option maxHeartbeats 3200000 in
theorem rat_any (w : World) (d : Dsk) (a : Option Addr) (cap : Nat) (n : BA) (h : SlF w (Old w) (.slice a d.fs.length cap) d.fs) :
    Calls Try.prog 18 #[diV d (.slice a d.fs.length cap), .string n] w fun e w' => e = .returned (.int .i64 (atF d.fs n)) ∧ Below w.heap.size w w' := by
  obtain ⟨rm, fs, lf, dn⟩ := d
  have HX := Lib.hid h
  obtain ⟨L, HL⟩ : ∃ L, Hid (L = fs.length) := ⟨_, Lib.hid rfl⟩
  have hL : L ≤ 9223372036854775807 := by have := HL.out; have := h.len; simp only at this; omega
  simp only at HX ⊢
  rw [← HL.out] at HX ⊢
  clear h
  have R := row_new w #[.int .i64 rm, .slice a L cap, .int .i64 lf, .bool dn] 24
  have c1 := R.cell (i := 1) rfl
  have HB0 := Lib.hid (below1 w (.cells #[.int .i64 rm, .slice a L cap, .int .i64 lf, .bool dn] 24))
  clear R
  go_enter Try.func18, Try.ntmps18
  go_wp2
  generalize hW0 : w.alloc (.cells #[.int .i64 rm, .slice a L cap, .int .i64 lf, .bool dn] 24) = W0 at *
  clear hW0 c1
  go_loopw [10] (fun i wr => ∃ k : Nat, k ≤ L ∧ i = .int .i64 k ∧ Hid (∀ (j : Nat) y, j < k → fs[j]? = some y → y.nm ≠ n) ∧ Hid (Below W0.heap.size W0 wr)) (fun i _ => L - (intOf i).toNat)
  case atStart => exact ⟨0, Nat.zero_le _, rfl, Lib.hid (fun j y h => by omega), Lib.hid (Below.refl _ _)⟩
  case round =>
    obtain ⟨k, hk, rfl, HA, HB⟩ := hrel
    by_cases hlt : k < L
    · obtain ⟨x, hx⟩ : ∃ x, fs[k]? = some x := ⟨_, List.getElem?_eq_getElem (by have := HL.out; omega)⟩
      obtain ⟨b, off, rfl, -, x0, x1, x2⟩ := (HX.out.old (below_trans HB0.out HB.out)).get hx
      have hbo := below1 wr (.cells (fiC x) 44)
      have R := row_new wr (fiC x) 44
      have d0 := R.cell (i := 0) rfl
      have HB5 := Lib.hid (below_trans HB.out hbo)
      have HXX := Lib.hid hx
      obtain ⟨xn, xs, xt⟩ := x
      simp only at x0 x1 x2 d0 HB5
      clear R hbo hx
      by_cases he : xn = n
      · have u1 : (xn.toList == n.toList) = true := str_eq he
        have HE : Hid (atF fs n = (k : Nat)) := Lib.hid (at_first HXX.out he HA.out)
        clear he
        go_wp2
        go_ret
        exact ⟨by rw [HE.out]; rfl, below_trans HB0.out HB5.out⟩
      · have u1 : (xn.toList == n.toList) = false := str_ne he
        have HA2 : Hid (∀ (j : Nat) y, j < k + 1 → fs[j]? = some y → y.nm ≠ n) := Lib.hid (fun j y hj hy => by
          rcases Nat.lt_or_eq_of_le (Nat.le_of_lt_succ hj) with h1 | rfl
          · exact HA.out j y h1 hy
          · rw [HXX.out] at hy; obtain rfl := Option.some.inj hy; exact he)
        clear he
        go_wp2
        go_roundw
        case rel => exact ⟨k + 1, by omega, by go_num, HA2, HB5⟩
        case measure => simp [intOf]; omega
    · have HE : Hid (atF fs n = -1) := Lib.hid (at_nowhere (fun j y hy => HA.out j y (by have := (List.getElem?_eq_some_iff.1 hy).1; have := HL.out; omega) hy))
      go_wp2
      go_ret
      exact ⟨by rw [HE.out]; rfl, below_trans HB0.out HB.out⟩
end Go.Proofs.Ytmhdodiipkkjpaa.Dk
