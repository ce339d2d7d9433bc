/- CatalogPuts: what the law answers. -/
import Derived.Deep.DeepCutAuto
import Derived.Test.YtdnedbcmgkilaaaGreatDoorZU
import Derived.Test.YtdnedbcmgkilaaaGreatDoorZD

namespace Go.Proofs.YtdnedbcmgkilaaaGreatDoor.Ca
open Go.RowKit Go.Proofs.YtdnedbcmgkilaaaGreatDoor

theorem eql38 (w : World) (a b c : BA) : (binOp .eql 38 (.agg #[.string a, .string b, .string c]) (.agg #[.string a, .string b, .string c])).run Tryz.prog w = .ok (.bool true) w := by
  have hS : Tryz.prog.underlying 38 = some (.struct (Tryz.prog.fieldsOf 38)) := by kernel_rfl
  have hp : Tryz.prog.stoodInHeld 38 = false := by kernel_rfl
  have u9 := Tryz.underlying9
  have a9 := Tryz.isAgg9
  have z9 := Tryz.sizeOf9
  rw [run_eql_struct, show (10000 : Nat) = 9999 + 1 from rfl, run_equalIn_agg w 9999 38 _ _ hS hp]
  simp only [Program.fieldsOf, Tryz.underlying38]
  go_simp
/-- What stands while the law looks at an entry in block X. -/
structure UK (w : World) (X : Nat) (x : Ent) (W : World) : Prop where
  row : Row W X 38 [.string x.loc, .string x.key, .string x.pat]
  below : Below w.heap.size w W
  env : EnvC W
theorem UK.step {w W W' : World} {X : Nat} {x : Ent} (h : UK w X x W) (hb : Below W.heap.size W W') : UK w X x W' := ⟨h.row.below hb, below_trans h.below hb, h.env.below hb⟩
theorem fit_putC {l : List Ent} {x : Ent} (hf : ∀ y, y ∈ l → FitE y) (hx : FitE x) : ∀ y, y ∈ putC x l → FitE y := fun y hy => by
  rcases put_mem.1 hy with h | h
  · rw [h]; exact hx
  · exact hf y h.1
theorem fit_dropE {x : Ent} (hx : FitE x) : FitE ⟨x.loc, x.key, ⟨#[]⟩⟩ := ⟨hx.1, hx.2.1, by show (0 : Nat) ≤ _; omega⟩
theorem cells3 {w : World} {X : Nat} {x : Ent} (h : Row w X 38 [.string x.loc, .string x.key, .string x.pat]) : w.cell? ⟨X, 0, none⟩ = some (.string x.loc) ∧ w.cell? ⟨X, 1, none⟩ = some (.string x.key) ∧ w.cell? ⟨X, 2, none⟩ = some (.string x.pat) := ⟨h.cell rfl, h.cell rfl, h.cell rfl⟩

theorem loc32 {l : List UInt8} (h : locOK l = true) : l.length ≤ 32 := by
  unfold locOK at h
  rw [Bool.or_eq_true] at h
  rcases h with h | h
  · have : l = [] := by simpa using h
    subst this; simp
  · unfold Lc.locB at h
    simp only [Bool.and_eq_true, decide_eq_true_eq] at h
    exact h.1
theorem emp_of {s : BA} (h : s.toList.isEmpty = true) : s = ⟨#[]⟩ := by
  rw [ByteArray.toList_eq] at h
  exact ByteArray.ext (Array.toList_inj.1 (by simpa using h))

set_option maxHeartbeats 12800000 in
set_option maxRecDepth 100000 in
theorem puts_any (w : World) (a : Option Addr) (cap : Nat) (xs : List Ent) (x : Ent) (more : BA) (hX : SlE w (Old w) (.slice a xs.length cap) xs) (hF : ∀ x, x ∈ xs → FitE x) (hx : FitE x) (hmz : more.size ≤ 140737488351232) (hE : EnvC w) :
    Calls Tryz.prog 8 #[.slice a xs.length cap, enV x, .string more] w fun e w' => e = .returned (.bool true) ∧ Below w.heap.size w w' := by
  have hb0 := below1 w (.cells (enC x) 38)
  have U0 : Hid (UK w w.heap.size x (w.alloc (.cells (enC x) 38))) := Lib.hid ⟨row_new w (enC x) 38, hb0, hE.below hb0⟩
  have HFW := Lib.hid (few_any (w.alloc (.cells (enC x) 38)) a cap xs (hX.old hb0))
  obtain ⟨L0, HL0⟩ : ∃ L, Hid (L = xs.length) := ⟨_, Lib.hid rfl⟩
  rw [← HL0.out] at HFW ⊢
  have hF' : ∀ x, x ∈ fewF xs → FitE x := fun x hx => hF x (few_mem hx)
  clear hX hF HL0 hb0 hE
  generalize fewF xs = ys at *
  obtain ⟨L, HL⟩ : ∃ L, Hid (L = ys.length) := ⟨_, Lib.hid rfl⟩
  rw [← HL.out] at HFW
  have HF := Lib.hid hF'
  have HFX := Lib.hid hx
  clear hF' hx
  have HRT : Hid (∀ W, Hid (UK w w.heap.size x W) → SlE W (Old W) (.slice a L cap) ys → Calls Tryz.prog 13 #[.slice a L cap] W fun e w' => e = .returned (.int .i64 (rightC ys)) ∧ Hid (UK w w.heap.size x w') ∧ Below W.heap.size W w') := Lib.hid (fun W h hs => by
    rw [HL.out] at hs ⊢
    exact (right_any W a cap ys hs HF.out h.out.env).mono fun e w' ⟨he, hb⟩ => ⟨he, Lib.hid (h.out.step hb), hb⟩)
  have HAV : Hid (∀ W, Hid (UK w w.heap.size x W) → Calls Tryz.prog 12 #[] W fun e w' => e = .returned (.bool true) ∧ Hid (UK w w.heap.size x w') ∧ Below W.heap.size W w') := Lib.hid (fun W h => (alive_any W h.out.env).mono fun e w' ⟨he, hb⟩ => ⟨he, Lib.hid (h.out.step hb), hb⟩)
  have HAT : Hid (∀ W, Hid (UK w w.heap.size x W) → SlE W (Old W) (.slice a L cap) ys → Calls Tryz.prog 24 #[.slice a L cap, .string x.loc, .string x.key] W (AtP ys x.loc x.key W)) := Lib.hid (fun W _ hs => by
    rw [HL.out] at hs ⊢
    exact at_any W a cap ys x.loc x.key hs)
  have HFD : Hid (∀ W (m : List Ent) a' c' (loc : BA), Hid (UK w w.heap.size x W) → SlE W (Old W) (.slice a' m.length c') m → (∀ y, y ∈ m → FitE y) → Calls Tryz.prog 20 #[.slice a' m.length c', .string loc, .string x.key] W (FindQ (findR m loc x.key) W)) := Lib.hid (fun W m a' c' loc h hs hf => findC_any W a' c' m loc x.key hs hf h.out.env)
  have HON : Hid (∀ W (m : List Ent) a' c' (c : Chg), Hid (UK w w.heap.size x W) → SlE W (Old W) (.slice a' m.length c') m → Rgt m → (∀ y, y ∈ m → FitE y) → FitE c.e → Calls Tryz.prog 10 #[.slice a' m.length c', .slice (some ⟨W.heap.size, 0, none⟩) 1 1] (W.alloc (.cells (chC c) 44)) (ApplyP (oneC m c) (W.alloc (.cells (chC c) 44)))) := Lib.hid (fun W m a' c' c h hs hr hf hfc => by
    have h2 := apply_any (W.alloc (.cells (chC c) 44)) a' c' m (some ⟨W.heap.size, 0, none⟩) 1 [c] (hs.old (below1 _ _)) (one_ch W c) hf (fun d hd => by
      obtain rfl : d = c := by simpa using hd
      exact hfc) (h.out.env.below (below1 _ _))
    rw [apply_one hr] at h2
    exact h2)
  obtain ⟨q, HQ⟩ : ∃ q, Hid (q = rightC ys) := ⟨_, Lib.hid rfl⟩
  rw [← HQ.out] at HRT
  obtain ⟨d0, d1, d2⟩ := cells3 U0.out.row
  have hml : more.size ≤ 140737488351232 := hmz
  clear hmz
  obtain ⟨xl, xk, xp⟩ := x
  simp only at d0 d1 d2 HAT HFD U0 HRT HAV HON
  go_enter Tryz.func8, Tryz.ntmps8
  go_wp2_with fail
  generalize hW1 : w.alloc (.cells #[.string xl, .string xk, .string xp] 38) = W1 at *
  clear hW1
  refine HFW.out.mono ?_
  rintro e w1 ⟨rfl, rfl, hs1⟩
  have HS1 : Hid (SlE W1 (Old W1) (.slice a L cap) ys) := Lib.hid hs1
  clear hs1 HFW
  go_wp2_with fail
  refine (HAV.out W1 U0).mono ?_
  rintro e w2 ⟨rfl, U2, hb2⟩
  have HS2 := Lib.hid (HS1.out.old hb2)
  clear hb2 d0 d1 d2
  go_wp2_with fail
  refine (HRT.out w2 U2 HS2.out).mono ?_
  rintro e w3 ⟨rfl, U3, hb3⟩
  have HS3 := Lib.hid (HS2.out.old hb3)
  clear hb3
  by_cases hq : q = 0
  rotate_left
  · have hqb := ne0 hq
    clear hq
    go_wp2_with fail
    refine (HAV.out w3 U3).mono ?_
    rintro e w4 ⟨rfl, U4, -⟩
    go_wp2
    go_ret
    exact ⟨rfl, U4.out.below⟩
  have HRG : Hid (Rgt ys) := Lib.hid (rightC_0.1 (by rw [← HQ.out]; exact hq))
  subst hq
  obtain ⟨d0, d1, d2⟩ := cells3 U3.out.row
  have HA3 := Lib.hid (HAT.out w3 U3 HS3.out)
  clear HRT
  go_wp2_with fail
  refine HA3.out.mono ?_
  rintro e w4 ⟨i, rfl, hi, hb4⟩
  have U4 := Lib.hid (U3.out.step hb4)
  have HS4 := Lib.hid (HS3.out.old hb4)
  rcases AtP.yes HRG.out.srt hi with ⟨k, y, hik, -, -⟩ | ⟨hik, hnf⟩
  · subst hik
    clear hi hb4 d0 d1 d2
    go_wp2_with fail
    refine (HAV.out w4 U4).mono ?_
    rintro e w5 ⟨rfl, U5, -⟩
    go_wp2
    go_ret
    exact ⟨rfl, U5.out.below⟩
  subst hik
  have HNF := Lib.hid hnf
  clear hi hb4 d0 d1 d2 hnf HAT HA3
  obtain ⟨d0, d1, d2⟩ := cells3 U4.out.row
  have HO4 := Lib.hid (HON.out w4 ys a cap ⟨false, xl, xk, xp⟩ U4 (by rw [← HL.out]; exact HS4.out) HRG.out HF.out HFX.out)
  rw [← HL.out] at HO4
  have hb5 := below1 w4 (.cells (chC ⟨false, xl, xk, xp⟩) 44)
  have U5 := Lib.hid (U4.out.step hb5)
  have HS5 := Lib.hid (HS4.out.old hb5)
  clear hb5
  cases ho : oneC ys ⟨false, xl, xk, xp⟩ with
  | error k =>
    have hk := puts_err ho
    rw [ho] at HO4
    clear ho
    go_wp2_with fail
    refine HO4.out.mono ?_
    rintro e w6 ⟨hb6, rfl⟩
    have U6 := Lib.hid (U5.out.step hb6)
    clear hb6 d0 d1 d2
    rcases hk with rfl | rfl
    · go_wp2
      go_ret
      exact ⟨rfl, U6.out.below⟩
    · go_wp2
      go_ret
      exact ⟨rfl, U6.out.below⟩
  | ok m =>
  obtain ⟨hmp, hmay⟩ := puts_ok ho
  have HM := Lib.hid hmp
  have HMY := Lib.hid hmay
  have HRM := Lib.hid (one_right HRG.out ho)
  rw [ho] at HO4
  clear ho hmay hmp
  go_wp2_with fail
  refine HO4.out.mono ?_
  rintro e w6 ⟨hb6, a6, c6, rfl, hs6⟩
  have U6 := Lib.hid (U5.out.step hb6)
  have HS6 := Lib.hid (HS5.out.old hb6)
  have HM6 := Lib.hid hs6
  have HFM : Hid (∀ y, y ∈ m → FitE y) := Lib.hid (by rw [HM.out]; exact fit_putC HF.out HFX.out)
  clear hb6 d0 d1 d2 hs6 HO4 HS5
  obtain ⟨d0, d1, d2⟩ := cells3 U6.out.row
  obtain ⟨n, HN⟩ : ∃ n, Hid (n = m.length) := ⟨_, Lib.hid rfl⟩
  have HLN : Hid (n = L + 1) := Lib.hid (by rw [HN.out, HM.out, put_len HNF.out, HL.out])
  have HF6 := Lib.hid (HFD.out w6 m a6 c6 xl U6 HM6.out HFM.out)
  rw [show findR m xl xk = .ok ⟨xl, xk, xp⟩ by rw [HM.out]; exact find_own (x := ⟨xl, xk, xp⟩) (by rw [← HM.out]; exact HRM.out) HRG.out HMY.out] at HF6
  rw [← HN.out] at HF6 HM6 ⊢
  go_wp2_with fail
  refine HF6.out.mono ?_
  rintro e w7 ⟨hb7, rfl⟩
  have hb8 := below_trans hb7 (below1 w7 (.cells #[.string xl, .string xk, .string xp] 38))
  have U8 := Lib.hid (U6.out.step hb8)
  have HS8 := Lib.hid (HS6.out.old hb8)
  have HM8 := Lib.hid (HM6.out.old hb8)
  have HR8 := Lib.hid (row_new w7 #[.string xl, .string xk, .string xp] 38)
  clear hb7 hb8 d0 d1 d2 HF6
  obtain ⟨d0, d1, d2⟩ := cells3 U8.out.row
  have HO8 := Lib.hid (HON.out _ m a6 c6 ⟨true, xl, xk, ⟨#[]⟩⟩ U8 (by rw [← HN.out]; exact HM8.out) HRM.out HFM.out (fit_dropE HFX.out))
  rw [show oneC m ⟨true, xl, xk, ⟨#[]⟩⟩ = .ok ys by rw [HM.out]; exact drop_own (x := ⟨xl, xk, xp⟩) HRG.out HNF.out] at HO8
  rw [← HN.out] at HO8
  obtain ⟨Y7, HY7⟩ : ∃ Y, Hid (Y = w7.heap.size) := ⟨_, Lib.hid rfl⟩
  rw [← HY7.out] at HR8
  have hb9 := below1 (w7.alloc (.cells #[.string xl, .string xk, .string xp] 38)) (.cells (chC ⟨true, xl, xk, ⟨#[]⟩⟩) 44)
  have U9 := Lib.hid (U8.out.step hb9)
  have HS9 := Lib.hid (HS8.out.old hb9)
  have HM9 := Lib.hid (HM8.out.old hb9)
  have HR9 := Lib.hid (HR8.out.below hb9)
  clear hb9
  rw [World.size_alloc, ← HY7.out] at HO8
  go_wp2_with fail
  rw [← HY7.out]
  refine HO8.out.mono ?_
  rintro e w10 ⟨hb10, a10, c10, rfl, hs10⟩
  have U10 := Lib.hid (U9.out.step hb10)
  have HS10 := Lib.hid (HS9.out.old hb10)
  have HM10 := Lib.hid (HM9.out.old hb10)
  have HR10 := Lib.hid (HR9.out.below hb10)
  have HB10 := Lib.hid hs10
  clear hb10 d0 d1 d2 hs10 HO8
  obtain ⟨d0, d1, d2⟩ := cells3 U10.out.row
  have y0 := HR10.out.cell (i := 0) rfl
  have y1 := HR10.out.cell (i := 1) rfl
  have y2 := HR10.out.cell (i := 2) rfl
  have HLK := Lib.hid (like_any w10 a10 a c10 cap ys HB10.out (by rw [← HL.out]; exact HS10.out))
  rw [← HL.out] at HLK ⊢
  have hne := neq38
  have hgd := guard38
  have heq := eql38
  have hlen := HRM.out.len
  rw [← HN.out] at hlen
  have hLn : (n : Int) = (L : Int) + 1 := by have := HLN.out; omega
  have hL2 : (L : Int) ≤ 200 := by omega
  have hnn : ((n : Int) != (L : Int) + 1) = false := by rw [bne_eq_false_iff_eq]; exact hLn
  have HLnH := Lib.hid hLn
  clear hLn
  go_wp2_with fail
  refine HLK.out.mono ?_
  rintro e w11 ⟨rfl, hb11⟩
  have U11 := Lib.hid (U10.out.step hb11)
  have HS11 := Lib.hid (HS10.out.old hb11)
  have HM11 := Lib.hid (HM10.out.old hb11)
  clear hb11 d0 d1 d2 y0 y1 y2 HLK HB10 HR10
  obtain ⟨d0, d1, d2⟩ := cells3 U11.out.row

  have HLGE : Hid (xl = ⟨#[]⟩ → longF ⟨xl, xk, xp⟩ more = more) := Lib.hid (fun h => by unfold longF; rw [if_pos h])
  have HLGN : Hid (xl ≠ ⟨#[]⟩ → longF ⟨xl, xk, xp⟩ more = xl ++ ⟨#[45]⟩ ++ more) := Lib.hid (fun h => by unfold longF; rw [if_neg h])
  have hxl := HFX.out.1
  have hxl2 : xl.size ≤ 140737488351232 := hxl
  have hxs : xl.size ≤ 32 := by
    have h2 := HMY.out
    unfold mayB at h2
    simp only [Bool.and_eq_true] at h2
    have := loc32 h2.1.1
    rw [len_list] at this
    exact this
  have HLGS : Hid ((longF ⟨xl, xk, xp⟩ more).size ≤ 281474976710656) := Lib.hid (by
    unfold longF
    split
    · omega
    · rw [ByteArray.size_append, ByteArray.size_append]
      show xl.size + 1 + more.size ≤ _
      omega)
  have HFL := Lib.hid (fun h => find_long (x := ⟨xl, xk, xp⟩) (more := more) HRG.out (by rw [← HM.out]; exact HRM.out) HMY.out HNF.out h)
  have HFB1 := Lib.hid (fun h => find_bad (L := longF ⟨xl, xk, xp⟩ more) (key := xk) HRG.out h)
  have HFB2 := Lib.hid (fun h => find_bad (L := longF ⟨xl, xk, xp⟩ more) (key := xk) HRM.out h)
  rw [← HM.out] at HFL
  obtain ⟨lg, HLG⟩ : ∃ lg, Hid (lg = longF ⟨xl, xk, xp⟩ more) := ⟨_, Lib.hid rfl⟩
  rw [← HLG.out] at HLGE HLGN HLGS HFL HFB1 HFB2
  have hsum : ¬ 9223372036854775807 < xl.size + 1 := by omega
  have hsum2 : ¬ 9223372036854775807 < (xl ++ ⟨#[45]⟩ : BA).size + more.size := by
    rw [ByteArray.size_append]; show ¬ _ < xl.size + 1 + more.size; omega
  have HF11 := Lib.hid (HFD.out w11 ys a cap lg U11 (by rw [← HL.out]; exact HS11.out) HF.out)
  rw [← HL.out] at HF11
  have HFm : Hid (∀ W, Hid (UK w w.heap.size ⟨xl, xk, xp⟩ W) → SlE W (Old W) (.slice a6 n c6) m → Calls Tryz.prog 20 #[.slice a6 n c6, .string lg, .string xk] W (FindQ (findR m lg xk) W)) := Lib.hid (fun W h hs => by
    rw [HN.out] at hs ⊢
    exact HFD.out W m a6 c6 lg h hs HFM.out)
  clear HFD HON HAV hxl
  go_upto_if 112 with (fail)
  go_cut [13] (fun s13 wx => s13 = .string lg ∧ w11 = wx)
  case first =>
    go_wp2
    · have hx9 : xl.toList.isEmpty = true := by assumption
      go_meet
      case rel => exact ⟨by rw [HLGE.out (emp_of hx9)], rfl⟩
    · have hx9 : xl.toList.isEmpty = false := by assumption
      go_meet
      case rel => exact ⟨by rw [HLGN.out (fun h => by rw [h] at hx9; rw [ByteArray.toList_eq] at hx9; cases hx9)], rfl⟩
  case rest =>
    obtain ⟨rfl, rfl⟩ := hcut
    clear hsum hsum2
    cases hok : longOK lg with
    | false =>
      have hb1 := HFB1.out hok
      have hb2 := HFB2.out hok
      have hle : lg.toList.isEmpty = false ∧ Lc.locB lg.data.toList = false := by
        unfold longOK at hok
        rw [Bool.or_eq_false_iff] at hok
        rw [ByteArray.toList_eq]
        exact hok
      obtain ⟨hle1, hle2⟩ := hle
      rw [hb1] at HF11
      rw [hb2] at HFm
      have HLO : Hid (∀ W, Calls Tryz.prog 25 #[.string lg] W fun e w' => e = .returned (.bool false) ∧ w' = W) := Lib.hid (fun W => by
        have h := Lc.rlocale_any lg W HLGS.out
        rw [hle2] at h
        exact h)
      clear hb1 hb2 hok hle2
      obtain ⟨d0, d1, d2⟩ := cells3 U11.out.row
      go_wp2_with fail
      refine HF11.out.mono ?_
      rintro e w12 ⟨hb12, rfl⟩
      have hb13 := below_trans hb12 (below1 w12 (.cells (enC noE) 38))
      have U13 := Lib.hid (U11.out.step hb13)
      have HM13 := Lib.hid (HM11.out.old hb13)
      have HC13 := Lib.hid (row_new w12 (enC noE) 38)
      have HF13 := Lib.hid (HFm.out _ U13 HM13.out)
      obtain ⟨Y, HY⟩ : ∃ Y, Hid (Y = w12.heap.size) := ⟨_, Lib.hid rfl⟩
      rw [← HY.out] at HC13
      clear hb12 hb13 HF11 HFm d0 d1 d2
      obtain ⟨d0, d1, d2⟩ := cells3 U13.out.row
      go_wp2_with fail
      rw [← HY.out]
      refine HF13.out.mono ?_
      rintro e w14 ⟨hb14, rfl⟩
      have hb15 := below_trans hb14 (below1 w14 (.cells (enC noE) 38))
      have U15 := Lib.hid (U13.out.step hb15)
      have HC15 := Lib.hid (HC13.out.below hb15)
      have HD15 := Lib.hid (row_new w14 (enC noE) 38)
      obtain ⟨Z, HZ⟩ : ∃ Z, Hid (Z = w14.heap.size) := ⟨_, Lib.hid rfl⟩
      rw [← HZ.out] at HD15
      clear hb14 hb15 HF13 d0 d1 d2
      obtain ⟨d0, d1, d2⟩ := cells3 U15.out.row
      go_wp2_with fail
      refine (HLO.out _).mono ?_
      rintro e w16 ⟨rfl, rfl⟩
      go_wp2
      go_ret
      exact ⟨rfl, U15.out.below⟩
    | true =>
      have hor : lg.toList.isEmpty = true ∨ (lg.toList.isEmpty = false ∧ Lc.locB lg.data.toList = true) := by
        unfold longOK at hok
        rw [Bool.or_eq_true] at hok
        rw [ByteArray.toList_eq]
        cases h9 : lg.data.toList.isEmpty with
        | true => exact .inl rfl
        | false => rw [h9] at hok; exact .inr ⟨rfl, by simpa using hok⟩
      have hfl := HFL.out hok
      clear hok
      rcases hfl with ⟨c, hf1, hf2⟩ | ⟨hf1, hf2⟩
      · rw [hf1] at HF11
        rw [hf2] at HFm
        clear hf1 hf2
        by_cases hcl : xl.size < c.loc.size
        · rw [if_pos hcl] at HFm
          have hcl2 : (xl.size : Int) < c.loc.size := by omega
          clear hcl
          obtain ⟨d0, d1, d2⟩ := cells3 U11.out.row
          go_wp2_with fail
          refine HF11.out.mono ?_
          rintro e w12 ⟨hb12, rfl⟩
          have hb13 := below_trans hb12 (below1 w12 (.cells (enC c) 38))
          have U13 := Lib.hid (U11.out.step hb13)
          have HM13 := Lib.hid (HM11.out.old hb13)
          have HC13 := Lib.hid (row_new w12 (enC c) 38)
          have HF13 := Lib.hid (HFm.out _ U13 HM13.out)
          obtain ⟨Y, HY⟩ : ∃ Y, Hid (Y = w12.heap.size) := ⟨_, Lib.hid rfl⟩
          rw [← HY.out] at HC13
          clear hb12 hb13 HF11 HFm d0 d1 d2
          obtain ⟨d0, d1, d2⟩ := cells3 U13.out.row
          go_wp2_with fail
          rw [← HY.out]
          refine HF13.out.mono ?_
          rintro e w14 ⟨hb14, rfl⟩
          have hb15 := below_trans hb14 (below1 w14 (.cells (enC c) 38))
          have U15 := Lib.hid (U13.out.step hb15)
          have HC15 := Lib.hid (HC13.out.below hb15)
          have HD15 := Lib.hid (row_new w14 (enC c) 38)
          obtain ⟨Z, HZ⟩ : ∃ Z, Hid (Z = w14.heap.size) := ⟨_, Lib.hid rfl⟩
          rw [← HZ.out] at HD15
          clear hb14 hb15 HF13 d0 d1 d2
          obtain ⟨d0, d1, d2⟩ := cells3 U15.out.row
          rcases hor with he | ⟨he, hlo⟩
          · skip
            have hb17 := below1 (w14.alloc (.cells (enC c) 38)) (.cells #[.string xl, .string xk, .string xp] 38)
            have U17 := Lib.hid (U15.out.step hb17)
            obtain ⟨x0, x1, x2⟩ := cells3 U17.out.row
            simp only at x0 x1 x2
            have HC17 := HC15.out.below hb17
            have HD17 := HD15.out.below hb17
            have HE17 := row_new (w14.alloc (.cells (enC c) 38)) #[.string xl, .string xk, .string xp] 38
            rw [World.size_alloc, ← HZ.out] at HE17
            obtain ⟨f0, f1, f2⟩ := cells3 (x := c) HC17
            obtain ⟨g0, g1, g2⟩ := cells3 (x := c) HD17
            obtain ⟨k0, k1, k2⟩ := cells3 (x := ⟨xl, xk, xp⟩) HE17
            clear HE17 HD17 HC17 hb17
            obtain ⟨cl, ck, cp⟩ := c
            simp only at f0 f1 f2 g0 g1 g2 hcl2 HD15 HC15 HC13 U17 U15
            go_wp2
            go_ret
            exact ⟨rfl, below_trans U15.out.below (below1 _ _)⟩
          · have HLO : Hid (∀ W, Calls Tryz.prog 25 #[.string lg] W fun e w' => e = .returned (.bool true) ∧ w' = W) := Lib.hid (fun W => by
              have h := Lc.rlocale_any lg W HLGS.out
              rw [hlo] at h
              exact h)
            clear hlo
            have hb17 := below1 (w14.alloc (.cells (enC c) 38)) (.cells #[.string xl, .string xk, .string xp] 38)
            have U17 := Lib.hid (U15.out.step hb17)
            obtain ⟨x0, x1, x2⟩ := cells3 U17.out.row
            simp only at x0 x1 x2
            have HC17 := HC15.out.below hb17
            have HD17 := HD15.out.below hb17
            have HE17 := row_new (w14.alloc (.cells (enC c) 38)) #[.string xl, .string xk, .string xp] 38
            rw [World.size_alloc, ← HZ.out] at HE17
            obtain ⟨f0, f1, f2⟩ := cells3 (x := c) HC17
            obtain ⟨g0, g1, g2⟩ := cells3 (x := c) HD17
            obtain ⟨k0, k1, k2⟩ := cells3 (x := ⟨xl, xk, xp⟩) HE17
            clear HE17 HD17 HC17 hb17
            obtain ⟨cl, ck, cp⟩ := c
            simp only at f0 f1 f2 g0 g1 g2 hcl2 HD15 HC15 HC13 U17 U15
            go_wp2_with fail
            refine (HLO.out _).mono ?_
            rintro e w16 ⟨rfl, rfl⟩
            go_wp2
            go_ret
            exact ⟨rfl, below_trans U15.out.below (below1 _ _)⟩
        · rw [if_neg hcl] at HFm
          have hcl2 : ¬ (xl.size : Int) < c.loc.size := by omega
          have hcl3 : decide ((xl.size : Int) < c.loc.size) = false := decide_eq_false hcl2
          clear hcl
          obtain ⟨d0, d1, d2⟩ := cells3 U11.out.row
          go_wp2_with fail
          refine HF11.out.mono ?_
          rintro e w12 ⟨hb12, rfl⟩
          have hb13 := below_trans hb12 (below1 w12 (.cells (enC c) 38))
          have U13 := Lib.hid (U11.out.step hb13)
          have HM13 := Lib.hid (HM11.out.old hb13)
          have HC13 := Lib.hid (row_new w12 (enC c) 38)
          have HF13 := Lib.hid (HFm.out _ U13 HM13.out)
          obtain ⟨Y, HY⟩ : ∃ Y, Hid (Y = w12.heap.size) := ⟨_, Lib.hid rfl⟩
          rw [← HY.out] at HC13
          clear hb12 hb13 HF11 HFm d0 d1 d2
          obtain ⟨d0, d1, d2⟩ := cells3 U13.out.row
          go_wp2_with fail
          rw [← HY.out]
          refine HF13.out.mono ?_
          rintro e w14 ⟨hb14, rfl⟩
          have hb15 := below_trans hb14 (below1 w14 (.cells (enC ⟨xl, xk, xp⟩) 38))
          have U15 := Lib.hid (U13.out.step hb15)
          have HC15 := Lib.hid (HC13.out.below hb15)
          have HD15 := Lib.hid (row_new w14 (enC ⟨xl, xk, xp⟩) 38)
          obtain ⟨Z, HZ⟩ : ∃ Z, Hid (Z = w14.heap.size) := ⟨_, Lib.hid rfl⟩
          rw [← HZ.out] at HD15
          clear hb14 hb15 HF13 d0 d1 d2
          obtain ⟨d0, d1, d2⟩ := cells3 U15.out.row
          rcases hor with he | ⟨he, hlo⟩
          · skip
            have hb17 := below1 (w14.alloc (.cells (enC ⟨xl, xk, xp⟩) 38)) (.cells #[.string xl, .string xk, .string xp] 38)
            have U17 := Lib.hid (U15.out.step hb17)
            obtain ⟨x0, x1, x2⟩ := cells3 U17.out.row
            simp only at x0 x1 x2
            have HC17 := HC15.out.below hb17
            have HD17 := HD15.out.below hb17
            have HE17 := row_new (w14.alloc (.cells (enC ⟨xl, xk, xp⟩) 38)) #[.string xl, .string xk, .string xp] 38
            rw [World.size_alloc, ← HZ.out] at HE17
            obtain ⟨f0, f1, f2⟩ := cells3 (x := c) HC17
            obtain ⟨g0, g1, g2⟩ := cells3 (x := ⟨xl, xk, xp⟩) HD17
            obtain ⟨k0, k1, k2⟩ := cells3 (x := ⟨xl, xk, xp⟩) HE17
            clear HE17 HD17 HC17 hb17
            obtain ⟨cl, ck, cp⟩ := c
            simp only at f0 f1 f2 g0 g1 g2 hcl2 hcl3 HD15 HC15 HC13 U17 U15
            go_wp2
            go_ret
            exact ⟨rfl, U17.out.below⟩
          · have HLO : Hid (∀ W, Calls Tryz.prog 25 #[.string lg] W fun e w' => e = .returned (.bool true) ∧ w' = W) := Lib.hid (fun W => by
              have h := Lc.rlocale_any lg W HLGS.out
              rw [hlo] at h
              exact h)
            clear hlo
            have hb17 := below1 (w14.alloc (.cells (enC ⟨xl, xk, xp⟩) 38)) (.cells #[.string xl, .string xk, .string xp] 38)
            have U17 := Lib.hid (U15.out.step hb17)
            obtain ⟨x0, x1, x2⟩ := cells3 U17.out.row
            simp only at x0 x1 x2
            have HC17 := HC15.out.below hb17
            have HD17 := HD15.out.below hb17
            have HE17 := row_new (w14.alloc (.cells (enC ⟨xl, xk, xp⟩) 38)) #[.string xl, .string xk, .string xp] 38
            rw [World.size_alloc, ← HZ.out] at HE17
            obtain ⟨f0, f1, f2⟩ := cells3 (x := c) HC17
            obtain ⟨g0, g1, g2⟩ := cells3 (x := ⟨xl, xk, xp⟩) HD17
            obtain ⟨k0, k1, k2⟩ := cells3 (x := ⟨xl, xk, xp⟩) HE17
            clear HE17 HD17 HC17 hb17
            obtain ⟨cl, ck, cp⟩ := c
            simp only at f0 f1 f2 g0 g1 g2 hcl2 hcl3 HD15 HC15 HC13 U17 U15
            go_wp2_with fail
            refine (HLO.out _).mono ?_
            rintro e w16 ⟨rfl, rfl⟩
            go_wp2
            go_ret
            exact ⟨rfl, U17.out.below⟩
      · rw [hf1] at HF11
        rw [hf2] at HFm
        clear hf1 hf2
        obtain ⟨d0, d1, d2⟩ := cells3 U11.out.row
        go_wp2_with fail
        refine HF11.out.mono ?_
        rintro e w12 ⟨hb12, rfl⟩
        have hb13 := below_trans hb12 (below1 w12 (.cells (enC noE) 38))
        have U13 := Lib.hid (U11.out.step hb13)
        have HM13 := Lib.hid (HM11.out.old hb13)
        have HC13 := Lib.hid (row_new w12 (enC noE) 38)
        have HF13 := Lib.hid (HFm.out _ U13 HM13.out)
        obtain ⟨Y, HY⟩ : ∃ Y, Hid (Y = w12.heap.size) := ⟨_, Lib.hid rfl⟩
        rw [← HY.out] at HC13
        clear hb12 hb13 HF11 HFm d0 d1 d2
        obtain ⟨d0, d1, d2⟩ := cells3 U13.out.row
        go_wp2_with fail
        rw [← HY.out]
        refine HF13.out.mono ?_
        rintro e w14 ⟨hb14, rfl⟩
        have hb15 := below_trans hb14 (below1 w14 (.cells (enC ⟨xl, xk, xp⟩) 38))
        have U15 := Lib.hid (U13.out.step hb15)
        have HC15 := Lib.hid (HC13.out.below hb15)
        have HD15 := Lib.hid (row_new w14 (enC ⟨xl, xk, xp⟩) 38)
        obtain ⟨Z, HZ⟩ : ∃ Z, Hid (Z = w14.heap.size) := ⟨_, Lib.hid rfl⟩
        rw [← HZ.out] at HD15
        clear hb14 hb15 HF13 d0 d1 d2
        obtain ⟨d0, d1, d2⟩ := cells3 U15.out.row
        rcases hor with he | ⟨he, hlo⟩
        · skip
          have hb17 := below1 (w14.alloc (.cells (enC ⟨xl, xk, xp⟩) 38)) (.cells #[.string xl, .string xk, .string xp] 38)
          have U17 := Lib.hid (U15.out.step hb17)
          obtain ⟨x0, x1, x2⟩ := cells3 U17.out.row
          simp only at x0 x1 x2
          have HC17 := HC15.out.below hb17
          have HD17 := HD15.out.below hb17
          have HE17 := row_new (w14.alloc (.cells (enC ⟨xl, xk, xp⟩) 38)) #[.string xl, .string xk, .string xp] 38
          rw [World.size_alloc, ← HZ.out] at HE17
          obtain ⟨f0, f1, f2⟩ := cells3 (x := noE) HC17
          obtain ⟨g0, g1, g2⟩ := cells3 (x := ⟨xl, xk, xp⟩) HD17
          obtain ⟨k0, k1, k2⟩ := cells3 (x := ⟨xl, xk, xp⟩) HE17
          clear HE17 HD17 HC17 hb17
          go_wp2
          go_ret
          exact ⟨rfl, U17.out.below⟩
        · have HLO : Hid (∀ W, Calls Tryz.prog 25 #[.string lg] W fun e w' => e = .returned (.bool true) ∧ w' = W) := Lib.hid (fun W => by
            have h := Lc.rlocale_any lg W HLGS.out
            rw [hlo] at h
            exact h)
          clear hlo
          have hb17 := below1 (w14.alloc (.cells (enC ⟨xl, xk, xp⟩) 38)) (.cells #[.string xl, .string xk, .string xp] 38)
          have U17 := Lib.hid (U15.out.step hb17)
          obtain ⟨x0, x1, x2⟩ := cells3 U17.out.row
          simp only at x0 x1 x2
          have HC17 := HC15.out.below hb17
          have HD17 := HD15.out.below hb17
          have HE17 := row_new (w14.alloc (.cells (enC ⟨xl, xk, xp⟩) 38)) #[.string xl, .string xk, .string xp] 38
          rw [World.size_alloc, ← HZ.out] at HE17
          obtain ⟨f0, f1, f2⟩ := cells3 (x := noE) HC17
          obtain ⟨g0, g1, g2⟩ := cells3 (x := ⟨xl, xk, xp⟩) HD17
          obtain ⟨k0, k1, k2⟩ := cells3 (x := ⟨xl, xk, xp⟩) HE17
          clear HE17 HD17 HC17 hb17
          go_wp2_with fail
          refine (HLO.out _).mono ?_
          rintro e w16 ⟨rfl, rfl⟩
          go_wp2
          go_ret
          exact ⟨rfl, U17.out.below⟩
end Go.Proofs.YtdnedbcmgkilaaaGreatDoor.Ca
