/- Package catalog: Find. -/
import Derived.Test.YtdnedbcmgkilaaaGreatDoorZEal
import Derived.Test.YtdnedbcmgkilaaaGreatDoorZD

section

namespace Go.Proofs.YtdnedbcmgkilaaaGreatDoor.Ca
open Go.RowKit Go.Proofs.YtdnedbcmgkilaaaGreatDoor

/-- Whom a locale asks. -/
def chainB (loc : BA) : List BA := (Lc.chainS loc.data.toList).map fun l => (⟨l.toArray⟩ : BA)
theorem chain_eq {xs : List BA} {loc : BA} (h : Lc.lists xs = Lc.chainS loc.data.toList) : xs = chainB loc := by
  refine Lc.lists_inj (h.trans ?_)
  unfold chainB Lc.lists
  rw [List.map_map]
  conv => lhs; rw [← List.map_id (Lc.chainS loc.data.toList)]
  exact List.map_congr_left (fun l _ => by simp)
theorem pre_len (L : List UInt8) : ∀ k, (Lc.pre L k).length ≤ k
  | 0 => by rw [Lc.pre]; exact Nat.le_refl _
  | k + 1 => by
    have := pre_len L k
    rw [Lc.pre]
    split
    · rw [List.length_cons]; omega
    · omega
theorem chain_len (loc : BA) : (chainB loc).length ≤ 34 := by
  unfold chainB
  rw [List.length_map]
  unfold Lc.chainS
  split
  · rename_i h
    have hl : loc.data.toList.length ≤ 32 := by
      rcases h with h | h
      · rw [h]; simp
      · have := Lc.loc_le h; rw [len_list]; exact this
    unfold Lc.chainF
    split
    · simp
    · have := pre_len loc.data.toList loc.data.toList.length
      simp only [List.length_cons, List.length_append, List.length_nil]
      omega
  · simp
abbrev AnsE := Except Nat Ent
/-- What is found. -/
noncomputable def findR (l : List Ent) (loc key : BA) : AnsE :=
  if rightC l ≠ 0 then .error (rightC l) else match findL l key (chainB loc) with
  | some y => .ok y
  | none => .error 60
theorem findR_bad {l : List Ent} {loc key : BA} (h : rightC l ≠ 0) : findR l loc key = .error (rightC l) := by unfold findR; rw [if_pos h]
theorem findR_some {l : List Ent} {loc key : BA} {y : Ent} (h : rightC l = 0) (hf : findL l key (chainB loc) = some y) : findR l loc key = .ok y := by unfold findR; rw [if_neg (by simpa using h), hf]
theorem findR_none {l : List Ent} {loc key : BA} (h : rightC l = 0) (hf : findL l key (chainB loc) = none) : findR l loc key = .error 60 := by unfold findR; rw [if_neg (by simpa using h), hf]
def FindQ (r : AnsE) (w : World) (e : Ending) (w' : World) : Prop := Below w.heap.size w w' ∧ match r with
  | .ok y => e = .returned (.tuple #[enV y, .int .i64 0])
  | .error k => e = .returned (.tuple #[enV noE, .int .i64 k])
theorem FindQ.no {r : AnsE} {w w' : World} {k : Nat} (h : r = .error k) (hb : Below w.heap.size w w') : FindQ r w (.returned (.tuple #[enV noE, .int .i64 k])) w' := ⟨hb, by rw [h]⟩
theorem FindQ.yes {r : AnsE} {w w' : World} {y : Ent} (h : r = .ok y) (hb : Below w.heap.size w w') : FindQ r w (.returned (.tuple #[enV y, .int .i64 0])) w' := ⟨hb, by rw [h]⟩
/-- The world behind a store of an entry into block R. -/
abbrev putE (w : World) (R : Nat) (y : Ent) : World := ((w.setCell ⟨R, 0, none⟩ (.string y.loc)).setCell ⟨R, 1, none⟩ (.string y.key)).setCell ⟨R, 2, none⟩ (.string y.pat)
theorem putE_cells {w : World} {R : Nat} {x y : Ent} (h : Row w R 38 [.string x.loc, .string x.key, .string x.pat]) : Row (putE w R y) R 38 [.string y.loc, .string y.key, .string y.pat] := ((h.set 0 (.string y.loc)).set 1 (.string y.key)).set 2 (.string y.pat)
theorem putE_below {w w' : World} {R : Nat} (h : Below w.heap.size w w') (hR : w.heap.size ≤ R) (y : Ent) : Below w.heap.size w (putE w' R y) :=
  ((h.setCell (p := ⟨R, 0, none⟩) hR _).setCell (p := ⟨R, 1, none⟩) hR _).setCell (p := ⟨R, 2, none⟩) hR _

set_option maxHeartbeats 6400000 in
set_option maxRecDepth 100000 in
theorem findC_any (w : World) (a : Option Addr) (cap : Nat) (xs : List Ent) (loc key : BA) (hX : SlE w (Old w) (.slice a xs.length cap) xs) (hF : ∀ x, x ∈ xs → FitE x) (hE : EnvC w) :
    Calls Tryz.prog 20 #[.slice a xs.length cap, .string loc, .string key] w (FindQ (findR xs loc key) w) := by
  have hb0 := below1 w (.cells (enC noE) 38)
  have HB0 := Lib.hid hb0
  have HR := Lib.hid (right_any (w.alloc (.cells (enC noE) 38)) a cap xs (hX.old hb0) hF (hE.below hb0))
  have r0 := row_new w (enC noE) 38
  have HR0 := Lib.hid r0
  obtain ⟨q, HQ⟩ : ∃ q, Hid (q = rightC xs) := ⟨_, Lib.hid rfl⟩
  rw [← HQ.out] at HR
  by_cases h0 : q = 0
  · have HQ0 : Hid (rightC xs = 0) := Lib.hid (by rw [← HQ.out]; exact h0)
    have HRG : Hid (Rgt xs) := Lib.hid (rightC_0.1 HQ0.out)
    subst h0
    have HX := Lib.hid hX
    have HE := Lib.hid hE
    obtain ⟨L, HL⟩ : ∃ L, Hid (L = xs.length) := ⟨_, Lib.hid rfl⟩
    rw [← HL.out] at HR HX ⊢
    clear hX hF hE r0 hb0
    go_enter Tryz.func20, Tryz.ntmps20
    go_wp2_with fail
    refine HR.out.mono ?_
    rintro e w1 ⟨rfl, hb1⟩
    have HR1 := Lib.hid (HR0.out.below hb1)
    have HB1 := Lib.hid (below_trans HB0.out hb1)
    have HLI := Lib.hid (listed_any a L cap w1)
    clear hb1 HR HB0 HR0
    go_wp2_with fail
    refine HLI.out.mono ?_
    rintro e w2 ⟨rfl, hb2⟩
    have hb3 := below_trans hb2 (below1 w2 (.cells #[.slice a L cap, cmpFn] 50))
    have HR3 := Lib.hid (HR1.out.below hb3)
    have HB3 := Lib.hid (below_trans HB1.out hb3)
    have HS3 := Lib.hid (row_new w2 #[.slice a L cap, cmpFn] 50)
    obtain ⟨-, m, hm⟩ := HE.out.below HB3.out
    have HCH := Lib.hid (Lc.chain_any loc m (w2.alloc (.cells #[.slice a L cap, cmpFn] 50)) hm)
    obtain ⟨S, HS⟩ : ∃ S, Hid (S = w2.heap.size) := ⟨_, Lib.hid rfl⟩
    clear hb2 hb3 HR1 HB1 HLI hm
    go_wp2_with fail
    rw [← HS.out] at HS3 ⊢
    generalize w2.alloc (.cells #[.slice a L cap, cmpFn] 50) = w3 at *
    refine HCH.out.mono ?_
    rintro e w4 ⟨ca, cc, ch, rfl, hch, hrd, hb4⟩
    obtain rfl := chain_eq hch
    have HR4 := Lib.hid (HR3.out.below hb4)
    have HB4 := Lib.hid (below_trans HB3.out hb4)
    have HS4 := Lib.hid (HS3.out.below hb4)
    have HRD := Lib.hid hrd
    obtain ⟨M, HM⟩ : ∃ M, Hid (M = (chainB loc).length) := ⟨_, Lib.hid rfl⟩
    rw [← HM.out]
    have hML : M ≤ 9223372036854775807 := by
      have := chain_len loc
      have := HM.out
      omega
    clear hch hrd hb4 HR3 HB3 HS3 HCH
    go_wp2
    go_loopw [25] (fun i wr => ∃ k : Nat, k ≤ M ∧ i = .int .i64 k ∧ Hid (Below w4.heap.size w4 wr) ∧ Hid (findL xs key ((chainB loc).drop k) = findL xs key (chainB loc))) (fun i _ => M - (intOf i).toNat)
    case atStart => exact ⟨0, Nat.zero_le _, rfl, Lib.hid (Below.refl _ _), Lib.hid (by rw [List.drop_zero])⟩
    case round =>
      obtain ⟨k, hk, rfl, HB, HFR⟩ := hrel
      have HRr := Lib.hid (HR4.out.below HB.out)
      have HBr := Lib.hid (below_trans HB4.out HB.out)
      have z0 := HRr.out.cell (i := 0) rfl
      have z1 := HRr.out.cell (i := 1) rfl
      have z2 := HRr.out.cell (i := 2) rfl
      by_cases hlt : k < M
      · have hkl : k < (chainB loc).length := by have := HM.out; omega
        obtain ⟨g, rfl, hg, hcc⟩ := (HRD.out.below HB.out).2 (by intro h; rw [h] at hkl; simp at hkl)
        have x0 := hcc k hkl
        have hdr := List.drop_eq_getElem_cons hkl
        obtain ⟨s, hs⟩ : ∃ s, s = (chainB loc)[k] := ⟨_, rfl⟩
        rw [← hs] at x0 hdr
        have HST : Hid (findL xs key ((chainB loc).drop k) = match findC xs s key with | some y => some y | none => findL xs key ((chainB loc).drop (k + 1))) := Lib.hid (by rw [hdr, findL]; cases findC xs s key <;> rfl)
        have HFI := Lib.hid (find_any wr S a cap xs ⟨s, key, ⟨#[]⟩⟩ (by rw [← HL.out]; exact HS4.out.below HB.out) (by rw [← HL.out]; exact HX.out.old HBr.out) HRG.out.srt (by have := HRG.out.len; omega))
        clear hcc hdr hs hkl
        cases hf : findC xs s key with
        | some y =>
          have HFN : Hid (findR xs loc key = .ok y) := Lib.hid (findR_some HQ0.out (by rw [← HFR.out, HST.out, hf]))
          have HFQ : Hid (Calls Tryz.prog 42 #[.pointer (some ⟨S, 0, none⟩), .agg #[.string s, .string key, .string ⟨#[]⟩]] wr fun e w' => e = .returned (.tuple #[.agg #[.string y.loc, .string y.key, .string y.pat], .bool true]) ∧ Below wr.heap.size wr w') := Lib.hid (HFI.out.mono fun e w' h => by
            unfold FindP at h
            simp only [hf] at h
            exact h)
          clear hf HST HFI
          go_wp2_with fail
          refine HFQ.out.mono ?_
          rintro e w5 ⟨rfl, hb5⟩
          have hb6 := below_trans hb5 (below1 w5 (.cells (enC y) 38))
          have R6 := row_new w5 (enC y) 38
          have HR6 := HRr.out.below hb6
          have d0 := R6.cell (i := 0) rfl
          have d1 := R6.cell (i := 1) rfl
          have d2 := R6.cell (i := 2) rfl
          have t0 := HR6.thaw 0
          have t1 := HR6.thaw 1
          have t2 := HR6.thaw 2
          have e0 := HR6.cell (i := 0) rfl
          have e1 := HR6.cell (i := 1) rfl
          have e2 := HR6.cell (i := 2) rfl
          have R7 := putE_cells (x := noE) (y := y) HR6
          have f0 := R7.cell (i := 0) rfl
          have f1 := R7.cell (i := 1) rfl
          have f2 := R7.cell (i := 2) rfl
          have HBF := Lib.hid (putE_below (R := w.heap.size) (below_trans HBr.out hb6) (Nat.le_refl _) y)
          obtain ⟨yl, yk, yp⟩ := y
          simp only at d0 d1 d2 f0 f1 f2 HBF HFQ e0 e1 e2 t0 t1 t2
          clear hb5 hb6 R6 R7 HR6 z0 z1 z2
          go_wp2
          exact bodyPost_ret (v := .tuple #[.agg #[.string yl, .string yk, .string yp], .int .i64 0]) (by simp [results, Tryz.results20, go_sem, f0, f1, f2]) rfl (FindQ.yes HFN.out HBF.out)
        | none =>
          have HFN : Hid (findL xs key ((chainB loc).drop (k + 1)) = findL xs key (chainB loc)) := Lib.hid (by rw [← HFR.out, HST.out, hf])
          have HFQ : Hid (Calls Tryz.prog 42 #[.pointer (some ⟨S, 0, none⟩), .agg #[.string s, .string key, .string ⟨#[]⟩]] wr fun e w' => e = .returned (.tuple #[.agg #[.string ⟨#[]⟩, .string ⟨#[]⟩, .string ⟨#[]⟩], .bool false]) ∧ Below wr.heap.size wr w') := Lib.hid (HFI.out.mono fun e w' h => by
            unfold FindP at h
            simp only [hf] at h
            exact h)
          clear hf HST HFI z0 z1 z2
          go_wp2_with fail
          refine HFQ.out.mono ?_
          rintro e w5 ⟨rfl, hb5⟩
          have HB6 := Lib.hid (below_trans HB.out (below_trans hb5 (below1 w5 (.cells (enC noE) 38))))
          clear hb5
          go_wp2
          go_roundw
          case rel => exact ⟨k + 1, by omega, by go_num, HB6, HFN⟩
          case measure => simp [intOf]; omega
      · have HFN : Hid (findR xs loc key = .error 60) := Lib.hid (findR_none HQ0.out (by rw [← HFR.out, List.drop_of_length_le (by have := HM.out; omega), findL]))
        have t0 := HRr.out.thaw 0
        have t1 := HRr.out.thaw 1
        have t2 := HRr.out.thaw 2
        have R7 := putE_cells (x := noE) (y := noE) HRr.out
        have f0 := R7.cell (i := 0) rfl
        have f1 := R7.cell (i := 1) rfl
        have f2 := R7.cell (i := 2) rfl
        have HBF := Lib.hid (putE_below (R := w.heap.size) HBr.out (Nat.le_refl _) noE)
        clear R7
        go_wp2
        exact bodyPost_ret (v := .tuple #[.agg #[.string ⟨#[]⟩, .string ⟨#[]⟩, .string ⟨#[]⟩], .int .i64 60]) (by simp [results, Tryz.results20, go_sem, f0, f1, f2]) rfl (FindQ.no HFN.out HBF.out)
  · have HA : Hid (findR xs loc key = .error q) := Lib.hid (by rw [findR_bad (by rw [← HQ.out]; exact h0), HQ.out])
    have hqb := ne0 h0
    clear hX hF hE h0 r0 hb0
    generalize xs.length = L at *
    go_enter Tryz.func20, Tryz.ntmps20
    go_wp2_with fail
    refine HR.out.mono ?_
    rintro e w1 ⟨rfl, hb1⟩
    have HR1 := HR0.out.below hb1
    have HB := Lib.hid (below_trans HB0.out hb1)
    have z0 := HR1.cell (i := 0) rfl
    have z1 := HR1.cell (i := 1) rfl
    have z2 := HR1.cell (i := 2) rfl
    have t0 := HR1.thaw 0
    have t1 := HR1.thaw 1
    have t2 := HR1.thaw 2
    have R7 := putE_cells (x := noE) (y := noE) HR1
    have f0 := R7.cell (i := 0) rfl
    have f1 := R7.cell (i := 1) rfl
    have f2 := R7.cell (i := 2) rfl
    have HBF := Lib.hid (putE_below (R := w.heap.size) HB.out (Nat.le_refl _) noE)
    clear hb1 R7 HR1
    go_wp2
    exact bodyPost_ret (v := .tuple #[.agg #[.string ⟨#[]⟩, .string ⟨#[]⟩, .string ⟨#[]⟩], .int .i64 q]) (by simp [results, Tryz.results20, go_sem, f0, f1, f2]) rfl (FindQ.no HA.out HBF.out)
end Go.Proofs.YtdnedbcmgkilaaaGreatDoor.Ca

end

/- CatalogPuts: mathematics: what was put is found, along its own locale's chain and a longer one's; dropped again all is as it was. -/
section

namespace Go.Proofs.YtdnedbcmgkilaaaGreatDoor.Ca
open Go.Proofs.YtdnedbcmgkilaaaGreatDoor

theorem puts_err {l : List Ent} {x : Ent} {k : Nat} (h : oneC l ⟨false, x⟩ = .error k) : k = 110 ∨ k = 2 := by
  unfold oneC at h
  rw [if_neg (by simp)] at h
  split at h
  · injection h with h; exact .inl h.symm
  · split at h
    · injection h with h; exact .inr h.symm
    · cases h
theorem puts_ok {l m : List Ent} {x : Ent} (h : oneC l ⟨false, x⟩ = .ok m) : m = putC x l ∧ mayB x = true := by
  unfold oneC at h
  rw [if_neg (by simp)] at h
  split at h
  · cases h
  · rename_i hm
    split at h
    · cases h
    · injection h with h; exact ⟨h.symm, by simpa using hm⟩
theorem pre_lt (L : List UInt8) : ∀ k, k ≤ L.length → ∀ a, a ∈ Lc.pre L k → a.length < k := fun k hk a ha => (pre_pos k hk a ha).2
theorem str_list (s : BA) : (⟨s.data.toList.toArray⟩ : BA) = s := ByteArray.ext (by simp)
/-- A chain that is one: its own locale first, then shorter ones. -/
theorem chainF_own (L : BA) : ∃ B : List BA, (Lc.chainF L.data.toList).map (fun l : List UInt8 => (⟨l.toArray⟩ : BA)) = L :: B ∧ ∀ s, s ∈ B → s.size ≤ L.size := by
  unfold Lc.chainF
  by_cases h : L.data.toList = []
  · rw [if_pos h]
    refine ⟨[], ?_, fun s hs => by cases hs⟩
    have : L = ⟨#[]⟩ := ByteArray.ext (Array.toList_inj.1 h)
    rw [this]; rfl
  · rw [if_neg h]
    refine ⟨(Lc.pre L.data.toList L.data.toList.length ++ [[]]).map (fun l : List UInt8 => (⟨l.toArray⟩ : BA)), ?_, fun s hs => ?_⟩
    · rw [List.cons_append, List.map_cons, str_list]
    · obtain ⟨a, ha, rfl⟩ := List.mem_map.1 hs
      have hsz : (⟨a.toArray⟩ : BA).size = a.length := by show a.toArray.size = _; simp
      rw [hsz]
      rcases List.mem_append.1 ha with ha | ha
      · have := pre_lt _ _ (Nat.le_refl _) a ha
        rw [len_list] at this
        omega
      · have : a = [] := by simpa using ha
        subst this; simp
theorem may_chain {x : Ent} (h : mayB x = true) : Lc.chainS x.loc.data.toList = Lc.chainF x.loc.data.toList := by
  unfold mayB locOK at h
  simp only [Bool.and_eq_true, Bool.or_eq_true] at h
  unfold Lc.chainS
  rw [if_pos]
  rcases h.1.1 with h1 | h1
  · exact .inl (by simpa using h1)
  · exact .inr h1
theorem chain_own {x : Ent} (h : mayB x = true) : ∃ B : List BA, chainB x.loc = x.loc :: B ∧ ∀ s, s ∈ B → s.size ≤ x.loc.size := by
  unfold chainB
  rw [may_chain h]
  exact chainF_own x.loc
theorem find_own {l : List Ent} {x : Ent} (hr : Rgt (putC x l)) (hl : Rgt l) (h : mayB x = true) : findR (putC x l) x.loc x.key = .ok x := by
  obtain ⟨B, hB, -⟩ := chain_own h
  refine findR_some (rightC_0.2 hr) ?_
  rw [hB, findL, find_put hl.srt]
theorem drop_own {l : List Ent} {x : Ent} (hl : Rgt l) (h : findC l x.loc x.key = none) : oneC (putC x l) ⟨true, ⟨x.loc, x.key, ⟨#[]⟩⟩⟩ = .ok l := by
  unfold oneC
  simp only [if_true]
  rw [if_neg (by simp), if_neg (by rw [find_put hl.srt]; simp), drop_put h]
/-- The longer locale's text. -/
def longF (x : Ent) (more : BA) : BA := if x.loc = ⟨#[]⟩ then more else x.loc ++ ⟨#[45]⟩ ++ more
theorem long_list (x : Ent) (more : BA) : (longF x more).data.toList = if x.loc.data.toList = [] then more.data.toList else x.loc.data.toList ++ 45 :: more.data.toList := by
  unfold longF
  by_cases h : x.loc = ⟨#[]⟩
  · rw [if_pos h, if_pos (by rw [h])]
  · rw [if_neg h, if_neg (fun e => h (ByteArray.ext (Array.toList_inj.1 e)))]
    simp
def longOK (L : BA) : Bool := L.data.toList.isEmpty || Lc.locB L.data.toList
theorem chain_bad {L : BA} (h : longOK L = false) : chainB L = [] := by
  unfold longOK at h
  rw [Bool.or_eq_false_iff] at h
  unfold chainB
  rw [Lc.chain_no h.2 (by simpa using h.1)]; rfl
theorem chain_good {L : BA} (h : longOK L = true) : Lc.chainS L.data.toList = Lc.chainF L.data.toList := by
  unfold longOK at h
  rw [Bool.or_eq_true] at h
  unfold Lc.chainS
  rw [if_pos]
  rcases h with h1 | h1
  · exact .inl (by simpa using h1)
  · exact .inr h1
theorem find_bad {l : List Ent} {L key : BA} (hl : Rgt l) (h : longOK L = false) : findR l L key = .error 60 := by
  refine findR_none (rightC_0.2 hl) ?_
  rw [chain_bad h]; rfl
/-- The chain of the longer text. -/
theorem long_chain {x : Ent} {more : BA} (_hm : mayB x = true) (h : longOK (longF x more) = true) : ∃ A B : List BA, chainB (longF x more) = A ++ x.loc :: B ∧ (∀ s, s ∈ A → x.loc.size < s.size) ∧ ∀ s, s ∈ B → s.size ≤ x.loc.size := by
  obtain ⟨B, hB, hB2⟩ := chainF_own x.loc
  unfold chainB
  rw [chain_good h]
  by_cases he : (longF x more).data.toList = []
  · have hl : x.loc.data.toList = [] := by
      have := long_list x more
      rw [he] at this
      by_cases h0 : x.loc.data.toList = []
      · exact h0
      · rw [if_neg h0] at this; simp at this
    refine ⟨[], B, ?_, (fun s hs => by cases hs), hB2⟩
    rw [he, ← hl, hB]; rfl
  · obtain ⟨A, hA, hA2⟩ := chain_longer (longF x more).data.toList (long_list x more) he
    refine ⟨A.map (fun l : List UInt8 => (⟨l.toArray⟩ : BA)), B, ?_, fun s hs => ?_, hB2⟩
    · rw [hA, List.map_append, hB]
    · obtain ⟨a, ha, rfl⟩ := List.mem_map.1 hs
      have := hA2 a ha
      rw [len_list] at this
      show _ < a.toArray.size
      simp only [List.size_toArray]
      exact this
theorem find_long {l : List Ent} {x : Ent} {more : BA} (hl : Rgt l) (hr : Rgt (putC x l)) (hm : mayB x = true) (hn : findC l x.loc x.key = none) (h : longOK (longF x more) = true) :
    (∃ c, findR l (longF x more) x.key = .ok c ∧ findR (putC x l) (longF x more) x.key = .ok (if x.loc.size < c.loc.size then c else x)) ∨
    (findR l (longF x more) x.key = .error 60 ∧ findR (putC x l) (longF x more) x.key = .ok x) := by
  obtain ⟨A, B, hc, hA, hB⟩ := long_chain hm h
  have hw := puts_want hl.srt hn A B hA hB
  rw [← hc] at hw
  cases hf : findL l x.key (chainB (longF x more)) with
  | some c =>
    rw [hf] at hw
    exact .inl ⟨c, findR_some (rightC_0.2 hl) hf, findR_some (rightC_0.2 hr) hw⟩
  | none =>
    rw [hf] at hw
    exact .inr ⟨findR_none (rightC_0.2 hl) hf, findR_some (rightC_0.2 hr) hw⟩
end Go.Proofs.YtdnedbcmgkilaaaGreatDoor.Ca

end
