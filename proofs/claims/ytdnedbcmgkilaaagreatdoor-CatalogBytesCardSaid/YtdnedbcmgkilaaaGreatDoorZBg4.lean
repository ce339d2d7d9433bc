/- The document's own reader: number and text. -/
import Derived.Lib.AtoiErrMem
import Derived.BigRegion
import Derived.IntWalk
import Derived.Test.YtdnedbcmgkilaaaGreatDoorZBg5
import Derived.Test.YtdnedbcmgkilaaaGreatDoorZBg32

section

namespace Go.Proofs.YtdnedbcmgkilaaaGreatDoor.Co
open Go.RowKit
theorem below_bytes (w : World) (t : ByteArray) : Below w.heap.size w (Lib.bytesWorld w 5 t) := Lib.bytesWorld_below w 5 t
theorem parseInt_any (s : ByteArray) (hs : s.size ≤ 1000000) (v : Int) (h : Lib.parseIntB 64 s.data.toList = .ok v) (w : World) :
    Calls Tryz.prog 150 #[.string s, .int .i64 10, .int .i64 64] w fun e w' => e = .returned (.tuple #[.int .i64 v, .nilIface]) ∧ Below w.heap.size w w' :=
  (Tryz.strconv_ParseInt_10_at64_ok s (by omega) v h w).mono fun _ _ ⟨he, hw⟩ => ⟨he, by rcases hw with rfl | ⟨t, rfl⟩; exact Below.refl _ _; exact below_bytes _ t⟩
theorem atoi_any (s : ByteArray) (hs : s.size ≤ 1000000) (v : Int) (h : Lib.atoiAll s.data.toList = .ok v) (w : World) :
    Calls Tryz.prog 151 #[.string s] w fun e w' => e = .returned (.tuple #[.int .i64 v, .nilIface]) ∧ Below w.heap.size w w' :=
  (Tryz.strconv_Atoi_ok s (by omega) v h w).mono fun _ _ ⟨he, hw⟩ => ⟨he, by rcases hw with rfl | ⟨t, rfl⟩; exact Below.refl _ _; exact below_bytes _ t⟩
theorem digF_lt (most : Nat) (hm : 10 ≤ most) : ∀ (r : List UInt8) (i n : Nat) (first : Bool) (m k : Nat), digF most r i n first = (m, 0, k) → k < i + r.length ∧ m ≤ max n most
  | [], i, n, first, m, k, h => by rw [digF_nil] at h; simp at h
  | c :: r, i, n, first, m, k, h => by
    rw [digF_cons] at h
    split at h
    · split at h
      · simp at h
      · rename_i hd hx
        have hb := isDig_bd hd
        have := digF_lt most hm r _ _ _ _ _ h
        have h2 : n * 10 + (c.toNat - 48) ≤ max n most := by
          have : ¬ (most - (c.toNat - 48)) / 10 < n := fun e => hx (.inr e)
          omega
        simp only [List.length_cons]
        omega
    · split at h
      · simp at h
      · simp only [Prod.mk.injEq] at h
        simp only [List.length_cons]
        omega
def RPost (r : Res) (pb : Nat) (s : ByteArray) (m : Nat) (w : World) (e : Ending) (w' : World) : Prop :=
  (match r with
   | .ok t k => ∃ v, e = .returned v ∧ Rep w' (fun b => w.heap.size ≤ b ∧ b < w'.heap.size) t v ∧ PS pb s k m 0 w'
   | .bad er k => e = .returned zeroV ∧ PS pb s k m er w') ∧ Fr (· = pb) w w'
abbrev max7 : ByteArray := ⟨#[57, 50, 50, 51, 51, 55, 50, 48, 51, 54, 56, 53, 52, 55, 55, 53, 56, 48, 55]⟩
abbrev max8 : ByteArray := ⟨#[57, 50, 50, 51, 51, 55, 50, 48, 51, 54, 56, 53, 52, 55, 55, 53, 56, 48, 56]⟩
abbrev maxB : ByteArray := ⟨#[49, 51, 49, 48, 55, 50]⟩
theorem dig7 : AllDig [57, 50, 50, 51, 51, 55, 50, 48, 51, 54, 56, 53, 52, 55, 55, 53, 56, 48, 55] := by
  intro c hc; revert c; decide
theorem dig8 : AllDig [57, 50, 50, 51, 51, 55, 50, 48, 51, 54, 56, 53, 52, 55, 55, 53, 56, 48, 56] := by
  intro c hc; revert c; decide
theorem digB : AllDig [49, 51, 49, 48, 55, 50] := by
  intro c hc; revert c; decide
theorem digits7 (pb : Nat) (s : ByteArray) (i m : Nat) (w : World) (hs : s.size ≤ 131072) (hi : i ≤ s.size) (hp : PS pb s i m 0 w) :
    Calls Tryz.prog 148 #[.pointer (some ⟨pb, 0, none⟩), .string max7] w fun e w' => ∃ d, e = .returned (.string d) ∧ Hid (DigR pb s m (digF 9223372036854775807 (s.data.toList.drop i) i 0 true) d w') ∧ Hid (Fr (· = pb) w w') :=
  digits_any pb s max7 57 [50, 50, 51, 51, 55, 50, 48, 51, 54, 56, 53, 52, 55, 55, 53, 56, 48, 55] i m _ w hs hi rfl dig7 (by decide) (by decide) (by decide) (by decide) hp
theorem digits8 (pb : Nat) (s : ByteArray) (i m : Nat) (w : World) (hs : s.size ≤ 131072) (hi : i ≤ s.size) (hp : PS pb s i m 0 w) :
    Calls Tryz.prog 148 #[.pointer (some ⟨pb, 0, none⟩), .string max8] w fun e w' => ∃ d, e = .returned (.string d) ∧ Hid (DigR pb s m (digF 9223372036854775808 (s.data.toList.drop i) i 0 true) d w') ∧ Hid (Fr (· = pb) w w') :=
  digits_any pb s max8 57 [50, 50, 51, 51, 55, 50, 48, 51, 54, 56, 53, 52, 55, 55, 53, 56, 48, 56] i m _ w hs hi rfl dig8 (by decide) (by decide) (by decide) (by decide) hp
theorem digitsB (pb : Nat) (s : ByteArray) (i m : Nat) (w : World) (hs : s.size ≤ 131072) (hi : i ≤ s.size) (hp : PS pb s i m 0 w) :
    Calls Tryz.prog 148 #[.pointer (some ⟨pb, 0, none⟩), .string maxB] w fun e w' => ∃ d, e = .returned (.string d) ∧ Hid (DigR pb s m (digF 131072 (s.data.toList.drop i) i 0 true) d w') ∧ Hid (Fr (· = pb) w w') :=
  digits_any pb s maxB 49 [51, 49, 48, 55, 50] i m _ w hs hi rfl digB (by decide) (by decide) (by decide) (by decide) hp
def TakeD (pb : Nat) (s : ByteArray) (m : Nat) (D : Nat × Nat × Nat) (d : ByteArray) (w' : World) : Prop :=
  PS pb s D.2.2 m D.2.1 w' ∧ (D.2.1 = 0 → AllDig d.data.toList ∧ d.data.toList ≠ [] ∧ valFrom 0 d.data.toList = D.1) ∧ D.2.2 ≤ s.size ∧ d.size ≤ s.size
theorem take_digits {pb : Nat} {s d : ByteArray} {i m most : Nat} {e : UInt8} {en : Int} {w1 : World} (hs : s.size ≤ 131072) (hi : i ≤ s.size) (hm : 10 ≤ most) (he : isDig e = false) (hen : en = (e.toNat : Int)) (hD : DigR pb s m (digF most (s.data.toList.drop i) i 0 true) d w1) :
    Calls Tryz.prog 149 #[.pointer (some ⟨pb, 0, none⟩), .int .i64 en] w1 fun x w' => x = .returned (.tuple #[]) ∧ Hid (TakeD pb s m (decF most e (s.data.toList.drop i) i 0 true) d w') ∧ Hid (Fr (· = pb) w1 w') := by
  have hdec := decF_digF most e he s.data.toList (s.data.toList.drop i) i 0 true rfl
  rcases hr : digF most (s.data.toList.drop i) i 0 true with ⟨n, er, k⟩
  rw [hr] at hD hdec
  obtain ⟨hp, hd, hk, hds⟩ := hD
  simp only at hp hd hk hds
  cases er with
  | zero =>
    have hkl := (digF_lt most hm _ _ _ _ _ _ hr).1
    rw [List.length_drop, size_list] at hkl
    have hlt : k < s.size := by omega
    refine (take_any pb s k m en w1 hs hk (by rw [hen]; omega) hp).mono fun x w' ⟨hx, ht, hf⟩ => ⟨hx, ?_, Lib.hid hf⟩
    have ht' := ht.out
    unfold TakeR at ht'
    have hiff : nowF s k = en ↔ s.data.toList[k]? = some e := by
      rw [nowF_lt hlt, some45 s k e hlt, hen]; omega
    by_cases hn : nowF s k = en
    · rw [if_pos hn] at ht'
      simp only [if_pos (hiff.1 hn)] at hdec
      rw [hdec]
      exact ⟨ht', fun _ => hd rfl, by show k + 1 ≤ s.size; omega, hds⟩
    · rw [if_neg hn] at ht'
      simp only [if_neg (fun h => hn (hiff.2 h))] at hdec
      rw [hdec]
      have : wrongF s k = 11 := if_pos hlt
      rw [this] at ht'
      exact ⟨ht', (fun h => by cases h), hk, hds⟩
  | succ er =>
    simp only at hdec
    refine (take_bad pb s k m (er + 1) en w1 (by omega) hp).mono fun x w' ⟨hx, hw⟩ => ⟨hx, ?_, Lib.hid (by subst hw; exact Fr.refl _ _)⟩
    subst hw
    rw [hdec]
    exact ⟨hp, (fun h => by cases h), hk, hds⟩
theorem Fr.but {X : Nat → Prop} {w w1 w4 : World} {h : Nat} (hf : Fr X w w1) (hb : But h w1 w4) (h1 : w.heap.size ≤ h) : Fr X w w4 :=
  ⟨hb.os.trans hf.os, hb.tape.trans hf.tape, hb.output.trans hf.output, by rw [hb.size]; exact hf.size, fun k hk hx => (hb.block k (by omega)).trans (hf.block k hk hx)⟩
theorem empty_app (d : ByteArray) : (⟨#[]⟩ : ByteArray) ++ d = d := by
  apply ByteArray.ext; rw [ByteArray.data_append]; simp
theorem minus_list (d : ByteArray) : ((⟨#[45]⟩ : ByteArray) ++ d).data.toList = 45 :: d.data.toList := by
  rw [ByteArray.data_append]; simp
theorem minus_size (d : ByteArray) : ((⟨#[45]⟩ : ByteArray) ++ d).size = d.size + 1 := by
  rw [← size_list, minus_list, List.length_cons, size_list]
set_option maxHeartbeats 3200000 in
set_option maxRecDepth 100000 in
theorem rnumber_any (pb : Nat) (s : ByteArray) (i m : Nat) (w : World) (hs : s.size ≤ 131072) (hi : i + 1 ≤ s.size) (hp : PS pb s i m 0 w) :
    Calls Tryz.prog 109 #[.pointer (some ⟨pb, 0, none⟩)] w (RPost (numF s.data.toList (i + 1)) pb s m w) := by
  have hltp := hp.lt
  have hc1 := hp.c1
  have hf1 := hp.fz 1
  have HPW : Hid (PS pb s (i + 1) m 0 ((w.setCell ⟨pb, 1, none⟩ (.int .i64 ((i : Int) + 1))).alloc (.cells #[.int .i64 0, .int .i64 0, .string ⟨#[]⟩, .slice none 0 0] 60))) := Lib.hid ((hp.set1 (i + 1)).alloc _)
  have FRW0 : Hid (Fr (· = pb) w ((w.setCell ⟨pb, 1, none⟩ (.int .i64 ((i : Int) + 1))).alloc (.cells #[.int .i64 0, .int .i64 0, .string ⟨#[]⟩, .slice none 0 0] 60))) := Lib.hid ((frP (Fr.refl _ w) 1 _).alloc _)
  have HSZ : (w.setCell ⟨pb, 1, none⟩ (.int .i64 ((i : Int) + 1))).heap.size = w.heap.size := by simp [World.setCell]
  have HBLK0 : Hid (((w.setCell ⟨pb, 1, none⟩ (.int .i64 ((i : Int) + 1))).alloc (.cells #[.int .i64 0, .int .i64 0, .string ⟨#[]⟩, .slice none 0 0] 60)).heap[w.heap.size]? = some (.cells #[.int .i64 0, .int .i64 0, .string ⟨#[]⟩, .slice none 0 0] 60 (0, 0))) := Lib.hid (by rw [← HSZ]; exact heap_alloc_new _ _)
  clear HSZ hp
  go_enter Tryz.func109, Tryz.ntmps109
  go_wp2_with fail
  generalize (w.setCell ⟨pb, 1, none⟩ (.int .i64 ((i : Int) + 1))).alloc (.cells #[.int .i64 0, .int .i64 0, .string ⟨#[]⟩, .slice none 0 0] 60) = W at *
  refine (now_any pb s (i + 1) m 0 W hs hi HPW.out).mono ?_
  rintro e W' ⟨rfl, hsm⟩
  have HPS := Lib.hid (HPW.out.same hsm)
  have FRW := Lib.hid (FRW0.out.trans (hsm.fr (X := (· = pb))))
  have HBLK : Hid (W'.heap[w.heap.size]? = some (.cells #[.int .i64 0, .int .i64 0, .string ⟨#[]⟩, .slice none 0 0] 60 (0, 0))) := Lib.hid (by rw [hsm.heap]; exact HBLK0.out)
  have HLT := Lib.hid (lt_of_heap HBLK.out)
  clear hsm HPW FRW0 HBLK0 hc1 hf1
  by_cases hc45 : s.data.toList[i + 1]? = some 45
  · have hlt : i + 1 < s.size := by
      rcases Nat.lt_or_ge (i + 1) s.size with h | h
      · exact h
      · rw [get_no s (i + 1) (by omega)] at hc45; cases hc45
    have hn45 : (nowF s (i + 1) == 45) = true := by
      rw [nowF_lt hlt]
      have := (some45 s (i + 1) 45 hlt).1 hc45
      simp at this ⊢; omega
    have hc1 := HPS.out.c1
    have hf1 := HPS.out.fz 1
    have hltW := HPS.out.lt
    have HP1 : Hid (PS pb s (i + 1 + 1) m 0 (W'.setCell ⟨pb, 1, none⟩ (.int .i64 ((i : Int) + 1 + 1)))) := Lib.hid (HPS.out.set1 (i + 1 + 1))
    have FR1 : Hid (Fr (· = pb) w (W'.setCell ⟨pb, 1, none⟩ (.int .i64 ((i : Int) + 1 + 1)))) := Lib.hid (frP FRW.out 1 _)
    have HB1 : Hid ((W'.setCell ⟨pb, 1, none⟩ (.int .i64 ((i : Int) + 1 + 1))).heap[w.heap.size]? = some (.cells #[.int .i64 0, .int .i64 0, .string ⟨#[]⟩, .slice none 0 0] 60 (0, 0))) := Lib.hid ((Below.heap_setCell _ _ _ _ (by show w.heap.size ≠ pb; omega)).trans HBLK.out)
    have hc1' : W'.cell? ⟨pb, 1, none⟩ = some (.int .i64 ((i : Int) + 1)) := hc1
    clear hc1
    generalize nowF s (i + 1) = nv at *
    go_wp2_with fail
    generalize W'.setCell ⟨pb, 1, none⟩ (.int .i64 ((i : Int) + 1 + 1)) = W2 at *
    refine (now_any pb s (i + 1 + 1) m 0 W2 hs (by omega) HP1.out).mono ?_
    rintro e W3 ⟨rfl, hsm⟩
    have HPS2 := Lib.hid (HP1.out.same hsm)
    have FRW2 := Lib.hid (FR1.out.trans (hsm.fr (X := (· = pb))))
    have HBLK2 : Hid (W3.heap[w.heap.size]? = some (.cells #[.int .i64 0, .int .i64 0, .string ⟨#[]⟩, .slice none 0 0] 60 (0, 0))) := Lib.hid (by rw [hsm.heap]; exact HB1.out)
    have HLT2 := Lib.hid (lt_of_heap HBLK2.out)
    clear hsm hn45
    by_cases hc48 : s.data.toList[i + 1 + 1]? = some 48
    · have hlt2 : i + 1 + 1 < s.size := by
        rcases Nat.lt_or_ge (i + 1 + 1) s.size with h | h
        · exact h
        · rw [get_no s (i + 1 + 1) (by omega)] at hc48; cases hc48
      have hn48 : (nowF s (i + 1 + 1) == 48) = true := by
        rw [nowF_lt hlt2]
        have := (some45 s (i + 1 + 1) 48 hlt2).1 hc48
        simp at this ⊢; omega
      have HX := Lib.hid (numF_zero hc45 hc48)
      generalize nowF s (i + 1 + 1) = nv2 at *
      have hc3 := HPS2.out.c3
      have hf3 := HPS2.out.fz 3
      have hltp3 := HPS2.out.lt
      have HP3 : Hid (PS pb s (i + 1 + 1) m 11 (W3.setCell ⟨pb, 3, none⟩ (.int .i64 11))) := Lib.hid (HPS2.out.set3 11)
      have HB3 : Hid ((W3.setCell ⟨pb, 3, none⟩ (.int .i64 11)).heap[w.heap.size]? = some (.cells #[.int .i64 0, .int .i64 0, .string ⟨#[]⟩, .slice none 0 0] 60 (0, 0))) := Lib.hid ((Below.heap_setCell _ _ _ _ (by show w.heap.size ≠ pb; omega)).trans HBLK2.out)
      have HF3 : Hid (Fr (· = pb) w (W3.setCell ⟨pb, 3, none⟩ (.int .i64 11))) := Lib.hid (frP FRW2.out 3 _)
      have hblk3 := HB3.out
      have hr0 : (W3.setCell ⟨pb, 3, none⟩ (.int .i64 11)).cell? ⟨w.heap.size, 0, none⟩ = some (.int .i64 0) := by simp [World.cell?, hblk3]
      have hr1 : (W3.setCell ⟨pb, 3, none⟩ (.int .i64 11)).cell? ⟨w.heap.size, 1, none⟩ = some (.int .i64 0) := by simp [World.cell?, hblk3]
      have hr2 : (W3.setCell ⟨pb, 3, none⟩ (.int .i64 11)).cell? ⟨w.heap.size, 2, none⟩ = some (.string ⟨#[]⟩) := by simp [World.cell?, hblk3]
      have hr3 : (W3.setCell ⟨pb, 3, none⟩ (.int .i64 11)).cell? ⟨w.heap.size, 3, none⟩ = some (.slice none 0 0) := by simp [World.cell?, hblk3]
      have hrf : ∀ j, (W3.setCell ⟨pb, 3, none⟩ (.int .i64 11)).frozen? ⟨w.heap.size, j, none⟩ = false := frozen_of_heap hblk3
      clear hblk3 hc45 hc48
      go_wp2
      generalize W3.setCell ⟨pb, 3, none⟩ (.int .i64 11) = w3 at *
      have h4 := heap_put4 HB3.out (.int .i64 0) (.int .i64 0) (.string ⟨#[]⟩) (.slice none 0 0)
      have hbut := But.put4 w.heap.size w3 (.int .i64 0) (.int .i64 0) (.string ⟨#[]⟩) (.slice none 0 0)
      generalize ((((w3.setCell ⟨w.heap.size, 0, none⟩ (.int .i64 0)).setCell ⟨w.heap.size, 1, none⟩ (.int .i64 0)).setCell ⟨w.heap.size, 2, none⟩ (.string ⟨#[]⟩)).setCell ⟨w.heap.size, 3, none⟩ (.slice none 0 0)) = w5 at h4 hbut ⊢
      refine bodyPost_ret (v := zeroV) (by simp [results, Tryz.results109, go_sem, World.cell?, h4]) rfl ?_
      rw [HX.out]
      exact ⟨⟨rfl, (hbut.block pb (by omega)).trans HP3.out⟩, Fr.but HF3.out hbut (Nat.le_refl _)⟩
    · have hn48 : (nowF s (i + 1 + 1) == 48) = false := by
        by_cases hlt2 : i + 1 + 1 < s.size
        · rw [nowF_lt hlt2]
          have := fun h => hc48 ((some45 s (i + 1 + 1) 48 hlt2).2 h)
          simp at this ⊢; omega
        · rw [nowF_end hlt2]; rfl
      have HDG := Lib.hid (digits8 pb s (i + 1 + 1) m W3 hs (by omega) HPS2.out)
      generalize nowF s (i + 1 + 1) = nv2 at *
      go_wp2_with fail
      refine HDG.out.mono ?_
      clear HDG hn48
      rintro e w2 ⟨d, rfl, D, F⟩
      have HTK := Lib.hid (take_digits (e := 101) (en := 101) hs (by omega) (by omega) (by decide) rfl D.out)
      go_wp2_with fail
      refine HTK.out.mono ?_
      rintro e w3 ⟨rfl, T, F3⟩
      have HF3 := Lib.hid ((FRW2.out.trans F.out).trans F3.out)
      have HFW := Lib.hid (F.out.trans F3.out)
      clear D F F3 HTK
      rcases hd : decF 9223372036854775808 101 (s.data.toList.drop (i + 1 + 1)) (i + 1 + 1) 0 true with ⟨n, er, k⟩
      have hbd := decF_bd 9223372036854775808 101 (by omega) (s.data.toList.drop (i + 1 + 1)) (i + 1 + 1) 0 true (by omega)
      have ht := T.out
      rw [hd] at ht hbd
      simp only at hbd
      obtain ⟨hp3, hdd, hk3, hds⟩ := ht
      simp only at hp3 hdd hk3
      have hblk3 := (HFW.out.block w.heap.size HLT2.out (by omega)).trans HBLK2.out
      have hc3 := hp3.c3
      have hr0 : w3.cell? ⟨w.heap.size, 0, none⟩ = some (.int .i64 0) := by simp [World.cell?, hblk3]
      have hr1 : w3.cell? ⟨w.heap.size, 1, none⟩ = some (.int .i64 0) := by simp [World.cell?, hblk3]
      have hr2 : w3.cell? ⟨w.heap.size, 2, none⟩ = some (.string ⟨#[]⟩) := by simp [World.cell?, hblk3]
      have hr3 : w3.cell? ⟨w.heap.size, 3, none⟩ = some (.slice none 0 0) := by simp [World.cell?, hblk3]
      have hrf : ∀ j, w3.frozen? ⟨w.heap.size, j, none⟩ = false := frozen_of_heap hblk3
      have HB3 := Lib.hid hblk3
      have HP3 := Lib.hid hp3
      by_cases her : er = 0
      · subst her
        obtain ⟨ha, hne, hv⟩ := hdd rfl
        have HX := Lib.hid (numF_nok hc45 hc48 hd)
        have HPI := Lib.hid (fun W => parseInt_any ((⟨#[45]⟩ : ByteArray) ++ d) (by rw [minus_size]; omega) ((-(n : Int))) (by rw [minus_list, parse_neg ha hne (by omega), hv]) W)
        clear ha hne hv hd hp3 hblk3 hdd T hc45 hc48
        go_wp2_with fail
        refine (HPI.out _).mono ?_
        rintro e w4 ⟨rfl, hb4⟩
        have hblk4 := (hb4.block w.heap.size (lt_of_heap HB3.out)).trans HB3.out
        have hr0 : w4.cell? ⟨w.heap.size, 0, none⟩ = some (.int .i64 0) := by simp [World.cell?, hblk4]
        have hr1 : w4.cell? ⟨w.heap.size, 1, none⟩ = some (.int .i64 0) := by simp [World.cell?, hblk4]
        have hr2 : w4.cell? ⟨w.heap.size, 2, none⟩ = some (.string ⟨#[]⟩) := by simp [World.cell?, hblk4]
        have hr3 : w4.cell? ⟨w.heap.size, 3, none⟩ = some (.slice none 0 0) := by simp [World.cell?, hblk4]
        have hrf : ∀ j, w4.frozen? ⟨w.heap.size, j, none⟩ = false := frozen_of_heap hblk4
        have HB4 := Lib.hid hblk4
        have HP4 := Lib.hid (HP3.out.below hb4)
        have HF4 := Lib.hid (HF3.out.trans (Fr.of_below hb4))
        clear hb4 hblk4
        go_wp2
        have h4 := heap_put4 HB4.out (.int .i64 1) (.int .i64 ((-(n : Int)))) (.string ⟨#[]⟩) (.slice none 0 0)
        have hbut := But.put4 w.heap.size w4 (.int .i64 1) (.int .i64 ((-(n : Int)))) (.string ⟨#[]⟩) (.slice none 0 0)
        generalize ((((w4.setCell ⟨w.heap.size, 0, none⟩ (.int .i64 1)).setCell ⟨w.heap.size, 1, none⟩ (.int .i64 ((-(n : Int))))).setCell ⟨w.heap.size, 2, none⟩ (.string ⟨#[]⟩)).setCell ⟨w.heap.size, 3, none⟩ (.slice none 0 0)) = w5 at h4 hbut ⊢
        refine bodyPost_ret (v := numV ((-(n : Int)))) (by simp [results, Tryz.results109, go_sem, World.cell?, h4]) rfl ?_
        rw [HX.out]
        exact ⟨⟨_, rfl, by rw [Rep], (hbut.block pb (by omega)).trans HP4.out⟩, Fr.but HF4.out hbut (Nat.le_refl _)⟩
      · have HX := Lib.hid (numF_nbad hc45 hc48 hd her)
        have hE : ((er : Int) != 0) = true := by simp; omega
        clear hd hp3 hblk3 hdd T hc45 hc48
        go_wp2
        have h4 := heap_put4 HB3.out (.int .i64 0) (.int .i64 0) (.string ⟨#[]⟩) (.slice none 0 0)
        have hbut := But.put4 w.heap.size w3 (.int .i64 0) (.int .i64 0) (.string ⟨#[]⟩) (.slice none 0 0)
        generalize ((((w3.setCell ⟨w.heap.size, 0, none⟩ (.int .i64 0)).setCell ⟨w.heap.size, 1, none⟩ (.int .i64 0)).setCell ⟨w.heap.size, 2, none⟩ (.string ⟨#[]⟩)).setCell ⟨w.heap.size, 3, none⟩ (.slice none 0 0)) = w5 at h4 hbut ⊢
        refine bodyPost_ret (v := zeroV) (by simp [results, Tryz.results109, go_sem, World.cell?, h4]) rfl ?_
        rw [HX.out]
        exact ⟨⟨rfl, (hbut.block pb (by omega)).trans HP3.out⟩, Fr.but HF3.out hbut (Nat.le_refl _)⟩
  · have hn45 : (nowF s (i + 1) == 45) = false := by
      by_cases hlt : i + 1 < s.size
      · rw [nowF_lt hlt]
        have := fun h => hc45 ((some45 s (i + 1) 45 hlt).2 h)
        simp at this ⊢; omega
      · rw [nowF_end hlt]; rfl
    have HDG := Lib.hid (digits7 pb s (i + 1) m W' hs (by omega) HPS.out)
    generalize nowF s (i + 1) = nv at *
    go_wp2_with fail
    refine HDG.out.mono ?_
    clear HDG hn45
    rintro e w2 ⟨d, rfl, D, F⟩
    have HTK := Lib.hid (take_digits (e := 101) (en := 101) hs (by omega) (by omega) (by decide) rfl D.out)
    go_wp2_with fail
    refine HTK.out.mono ?_
    rintro e w3 ⟨rfl, T, F3⟩
    have HF3 := Lib.hid ((FRW.out.trans F.out).trans F3.out)
    have HFW := Lib.hid (F.out.trans F3.out)
    clear D F F3 HTK
    rcases hd : decF 9223372036854775807 101 (s.data.toList.drop (i + 1)) (i + 1) 0 true with ⟨n, er, k⟩
    have hbd := decF_bd 9223372036854775807 101 (by omega) (s.data.toList.drop (i + 1)) (i + 1) 0 true (by omega)
    have ht := T.out
    rw [hd] at ht hbd
    simp only at hbd
    obtain ⟨hp3, hdd, hk3, hds⟩ := ht
    simp only at hp3 hdd hk3
    have hblk3 := (HFW.out.block w.heap.size HLT.out (by omega)).trans HBLK.out
    have hc3 := hp3.c3
    have hr0 : w3.cell? ⟨w.heap.size, 0, none⟩ = some (.int .i64 0) := by simp [World.cell?, hblk3]
    have hr1 : w3.cell? ⟨w.heap.size, 1, none⟩ = some (.int .i64 0) := by simp [World.cell?, hblk3]
    have hr2 : w3.cell? ⟨w.heap.size, 2, none⟩ = some (.string ⟨#[]⟩) := by simp [World.cell?, hblk3]
    have hr3 : w3.cell? ⟨w.heap.size, 3, none⟩ = some (.slice none 0 0) := by simp [World.cell?, hblk3]
    have hrf : ∀ j, w3.frozen? ⟨w.heap.size, j, none⟩ = false := frozen_of_heap hblk3
    have HB3 := Lib.hid hblk3
    have HP3 := Lib.hid hp3
    by_cases her : er = 0
    · subst her
      obtain ⟨ha, hne, hv⟩ := hdd rfl
      have HX := Lib.hid (numF_ok hc45 hd)
      have HPI := Lib.hid (fun W => parseInt_any ((⟨#[]⟩ : ByteArray) ++ d) (by rw [empty_app]; omega) (n : Int) (by rw [empty_app, parse_pos ha hne (by omega), hv]) W)
      clear ha hne hv hd hp3 hblk3 hdd T hc45
      go_wp2_with fail
      refine (HPI.out _).mono ?_
      rintro e w4 ⟨rfl, hb4⟩
      have hblk4 := (hb4.block w.heap.size (lt_of_heap HB3.out)).trans HB3.out
      have hr0 : w4.cell? ⟨w.heap.size, 0, none⟩ = some (.int .i64 0) := by simp [World.cell?, hblk4]
      have hr1 : w4.cell? ⟨w.heap.size, 1, none⟩ = some (.int .i64 0) := by simp [World.cell?, hblk4]
      have hr2 : w4.cell? ⟨w.heap.size, 2, none⟩ = some (.string ⟨#[]⟩) := by simp [World.cell?, hblk4]
      have hr3 : w4.cell? ⟨w.heap.size, 3, none⟩ = some (.slice none 0 0) := by simp [World.cell?, hblk4]
      have hrf : ∀ j, w4.frozen? ⟨w.heap.size, j, none⟩ = false := frozen_of_heap hblk4
      have HB4 := Lib.hid hblk4
      have HP4 := Lib.hid (HP3.out.below hb4)
      have HF4 := Lib.hid (HF3.out.trans (Fr.of_below hb4))
      clear hb4 hblk4
      go_wp2
      have h4 := heap_put4 HB4.out (.int .i64 1) (.int .i64 (n : Int)) (.string ⟨#[]⟩) (.slice none 0 0)
      have hbut := But.put4 w.heap.size w4 (.int .i64 1) (.int .i64 (n : Int)) (.string ⟨#[]⟩) (.slice none 0 0)
      generalize ((((w4.setCell ⟨w.heap.size, 0, none⟩ (.int .i64 1)).setCell ⟨w.heap.size, 1, none⟩ (.int .i64 (n : Int))).setCell ⟨w.heap.size, 2, none⟩ (.string ⟨#[]⟩)).setCell ⟨w.heap.size, 3, none⟩ (.slice none 0 0)) = w5 at h4 hbut ⊢
      refine bodyPost_ret (v := numV (n : Int)) (by simp [results, Tryz.results109, go_sem, World.cell?, h4]) rfl ?_
      rw [HX.out]
      exact ⟨⟨_, rfl, by rw [Rep], (hbut.block pb (by omega)).trans HP4.out⟩, Fr.but HF4.out hbut (Nat.le_refl _)⟩
    · have HX := Lib.hid (numF_bad hc45 hd her)
      have hE : ((er : Int) != 0) = true := by simp; omega
      clear hd hp3 hblk3 hdd T hc45
      go_wp2
      have h4 := heap_put4 HB3.out (.int .i64 0) (.int .i64 0) (.string ⟨#[]⟩) (.slice none 0 0)
      have hbut := But.put4 w.heap.size w3 (.int .i64 0) (.int .i64 0) (.string ⟨#[]⟩) (.slice none 0 0)
      generalize ((((w3.setCell ⟨w.heap.size, 0, none⟩ (.int .i64 0)).setCell ⟨w.heap.size, 1, none⟩ (.int .i64 0)).setCell ⟨w.heap.size, 2, none⟩ (.string ⟨#[]⟩)).setCell ⟨w.heap.size, 3, none⟩ (.slice none 0 0)) = w5 at h4 hbut ⊢
      refine bodyPost_ret (v := zeroV) (by simp [results, Tryz.results109, go_sem, World.cell?, h4]) rfl ?_
      rw [HX.out]
      exact ⟨⟨rfl, (hbut.block pb (by omega)).trans HP3.out⟩, Fr.but HF3.out hbut (Nat.le_refl _)⟩
end Go.Proofs.YtdnedbcmgkilaaaGreatDoor.Co

end

section

namespace Go.Proofs.YtdnedbcmgkilaaaGreatDoor.Co
open Go.RowKit
theorem atoi_digits {l : List UInt8} (h : AllDig l) (h0 : l ≠ []) (hv : valFrom 0 l ≤ 9223372036854775807) : Lib.atoiAll l = .ok (valFrom 0 l : Int) := by
  have hp : ∀ (l : List UInt8) (acc : Nat), AllDig l → valFrom acc l ≤ 9223372036854775807 → Lib.parseUint10 acc l = .ok (valFrom acc l) := by
    intro l
    induction l with
    | nil => intro acc _ _; rw [Lib.parseUint10, val_nil]
    | cons c r ih =>
      intro acc h hv
      have hb := isDig_bd (h c List.mem_cons_self)
      rw [val_step] at hv
      have hle := le_valFrom r (acc * 10 + (c.toNat - 48))
      rw [Lib.parseUint10, if_pos hb, if_neg (by omega), if_neg (by omega), val_step]
      exact ih _ (fun c hc => h c (List.mem_cons_of_mem _ hc)) hv
  cases l with
  | nil => exact absurd rfl h0
  | cons c r =>
    have hb := isDig_bd (h c List.mem_cons_self)
    have hp' := hp (c :: r) 0 h hv
    have e1 : (if c.toNat = 43 ∨ c.toNat = 45 then r else c :: r) = c :: r := if_neg (by omega)
    have e2 : Lib.parseMag (c :: r) = .ok (valFrom 0 (c :: r)) := by unfold Lib.parseMag; rw [if_neg (by simp), hp']
    simp only [Lib.atoiAll, e1, e2]
    rw [if_neg (by omega), if_neg (by omega), if_neg (by omega)]
set_option maxHeartbeats 3200000 in
set_option maxRecDepth 100000 in
theorem rtext_any (pb : Nat) (s : ByteArray) (i m : Nat) (w : World) (hs : s.size ≤ 131072) (hi : i ≤ s.size) (hp : PS pb s i m 0 w) :
    Calls Tryz.prog 110 #[.pointer (some ⟨pb, 0, none⟩)] w (RPost (textF s.data.toList i) pb s m w) := by
  have hltp := hp.lt
  have HPW : Hid (PS pb s i m 0 (w.alloc (.cells #[.int .i64 0, .int .i64 0, .string ⟨#[]⟩, .slice none 0 0] 60))) := Lib.hid (hp.alloc _)
  have FRW : Hid (Fr (· = pb) w (w.alloc (.cells #[.int .i64 0, .int .i64 0, .string ⟨#[]⟩, .slice none 0 0] 60))) := Lib.hid ((Fr.refl _ w).alloc _)
  have HBLK : Hid ((w.alloc (.cells #[.int .i64 0, .int .i64 0, .string ⟨#[]⟩, .slice none 0 0] 60)).heap[w.heap.size]? = some (.cells #[.int .i64 0, .int .i64 0, .string ⟨#[]⟩, .slice none 0 0] 60 (0, 0))) := Lib.hid (heap_alloc_new _ _)
  clear hp
  go_enter Tryz.func110, Tryz.ntmps110
  go_wp2_with fail
  generalize w.alloc (.cells #[.int .i64 0, .int .i64 0, .string ⟨#[]⟩, .slice none 0 0] 60) = W at *
  have HLT := Lib.hid (lt_of_heap HBLK.out)
  refine (digitsB pb s i m W hs hi HPW.out).mono ?_
  rintro e w2 ⟨d, rfl, D, F⟩
  have HTK := Lib.hid (take_digits (e := 58) (en := 58) hs hi (by omega) (by decide) rfl D.out)
  go_wp2_with fail
  refine HTK.out.mono ?_
  rintro e w3 ⟨rfl, T, F3⟩
  have HF3 := Lib.hid ((FRW.out.trans F.out).trans F3.out)
  have HFW := Lib.hid (F.out.trans F3.out)
  clear D F F3 HTK
  rcases hd : decF 131072 58 (s.data.toList.drop i) i 0 true with ⟨n, er, k⟩
  have hbd := decF_bd 131072 58 (by omega) (s.data.toList.drop i) i 0 true (by omega)
  have ht := T.out
  rw [hd] at ht hbd
  simp only at hbd
  obtain ⟨hp3, hdd, hk3, hds⟩ := ht
  simp only at hp3 hdd hk3
  have hn := hbd.1
  clear hbd
  have hblk3 := (HFW.out.block w.heap.size HLT.out (by omega)).trans HBLK.out
  have hc3 := hp3.c3
  have hr0 : w3.cell? ⟨w.heap.size, 0, none⟩ = some (.int .i64 0) := by simp [World.cell?, hblk3]
  have hr1 : w3.cell? ⟨w.heap.size, 1, none⟩ = some (.int .i64 0) := by simp [World.cell?, hblk3]
  have hr2 : w3.cell? ⟨w.heap.size, 2, none⟩ = some (.string ⟨#[]⟩) := by simp [World.cell?, hblk3]
  have hr3 : w3.cell? ⟨w.heap.size, 3, none⟩ = some (.slice none 0 0) := by simp [World.cell?, hblk3]
  have hrf : ∀ j, w3.frozen? ⟨w.heap.size, j, none⟩ = false := frozen_of_heap hblk3
  have HB3 := Lib.hid hblk3
  have HP3 := Lib.hid hp3
  by_cases her : er = 0
  · subst her
    obtain ⟨ha, hne, hv⟩ := hdd rfl
    have HAT := Lib.hid (fun W => atoi_any d (by omega) (n : Int) (by rw [atoi_digits ha hne (by omega), hv]) W)
    clear ha hne hv hp3 hblk3 hdd T
    have HD := Lib.hid hd
    clear hd
    go_wp2_with fail
    refine (HAT.out _).mono ?_
    rintro e w4 ⟨rfl, hb4⟩
    have hblk4 := (hb4.block w.heap.size (lt_of_heap HB3.out)).trans HB3.out
    have hp4 := HP3.out.below hb4
    have hc0 := hp4.c0
    have hc1 := hp4.c1
    have hc3 := hp4.c3
    have hf := hp4.fz
    have HB4 := Lib.hid hblk4
    have HP4 := Lib.hid hp4
    have HF4 := Lib.hid (HF3.out.trans (Fr.of_below hb4))
    have hlt4 := lt_of_heap hblk4
    clear hb4 hblk4 hp4 hr0 hr1 hr2 hr3 hrf HAT
    by_cases hfit : k + n ≤ s.size
    · have hB : decide ((s.size : Int) < (k : Int) + (n : Int)) = false := by simp; omega
      have hkn : (k : Int) ≤ (k : Int) + (n : Int) := by omega
      have hkn2 : (k : Int) + (n : Int) ≤ (s.size : Int) := by omega
      have hall : Hid (∀ q, Same w4 (w4.drewN q)) := Lib.hid (fun q => ⟨rfl, rfl, rfl, rfl⟩)
      go_wp2
      go_quiet (fail)
      go_wp2
      have hsm := hall.out nq
      generalize w4.drewN nq = w5 at hsm ⊢
      have hp5 := HP4.out.same hsm
      have hc0 := hp5.c0
      have hc1 := hp5.c1
      have hf := hp5.fz
      have hltp5 := hp5.lt
      have HP5 := Lib.hid hp5
      have HF5 := Lib.hid (HF4.out.trans (hsm.fr (X := (· = pb))))
      have HB5 : Hid (w5.heap[w.heap.size]? = some (.cells #[.int .i64 0, .int .i64 0, .string ⟨#[]⟩, .slice none 0 0] 60 (0, 0))) := Lib.hid (by rw [hsm.heap]; exact HB4.out)
      have hlt5 := lt_of_heap HB5.out
      clear hsm hp5
      have hwr : IntKind.i64.wrap ((k : Int) + (n : Int)) = (k : Int) + (n : Int) := IntWalk.i64_in _ (by omega)
      have hwn : ((k : Int) + (n : Int)).toNat = k + n := by omega
      have hw0 : 0 ≤ (k : Int) + (n : Int) := by omega
      go_region
      clear hwr hwn hw0
      have HX := Lib.hid (textF_ok HD.out (by rw [size_list]; exact hfit))
      have hblkN : (w5.alloc (.cells #[.int .i64 2, .int .i64 0, .string (s.extract k (k + n)), .slice none 0 0] 60)).drew.heap[w5.heap.size]? = some (.cells #[.int .i64 2, .int .i64 0, .string (s.extract k (k + n)), .slice none 0 0] 60 (0, 0)) := heap_alloc_new _ _
      have hp6 : PS pb s k m 0 (w5.alloc (.cells #[.int .i64 2, .int .i64 0, .string (s.extract k (k + n)), .slice none 0 0] 60)).drew := HP5.out.alloc _
      have hF6 : Fr (· = pb) w (w5.alloc (.cells #[.int .i64 2, .int .i64 0, .string (s.extract k (k + n)), .slice none 0 0] 60)).drew := (HF5.out.alloc _).drew
      have hB6 : (w5.alloc (.cells #[.int .i64 2, .int .i64 0, .string (s.extract k (k + n)), .slice none 0 0] 60)).drew.heap[w.heap.size]? = some (.cells #[.int .i64 0, .int .i64 0, .string ⟨#[]⟩, .slice none 0 0] 60 (0, 0)) := (Below.heap_alloc _ _ _ hlt5).trans HB5.out
      generalize (w5.alloc (.cells #[.int .i64 2, .int .i64 0, .string (s.extract k (k + n)), .slice none 0 0] 60)).drew = w6 at *
      have hc1 := hp6.c1
      have hf1 := hp6.fz 1
      have hp7 : PS pb s (k + n) m 0 (w6.setCell ⟨pb, 1, none⟩ (.int .i64 ((k : Int) + (n : Int)))) := hp6.set1 (k + n)
      have hN7 : (w6.setCell ⟨pb, 1, none⟩ (.int .i64 ((k : Int) + (n : Int)))).heap[w5.heap.size]? = some (.cells #[.int .i64 2, .int .i64 0, .string (s.extract k (k + n)), .slice none 0 0] 60 (0, 0)) := (Below.heap_setCell _ _ _ _ (by show w5.heap.size ≠ pb; omega)).trans hblkN
      have hB7 : (w6.setCell ⟨pb, 1, none⟩ (.int .i64 ((k : Int) + (n : Int)))).heap[w.heap.size]? = some (.cells #[.int .i64 0, .int .i64 0, .string ⟨#[]⟩, .slice none 0 0] 60 (0, 0)) := (Below.heap_setCell _ _ _ _ (by show w.heap.size ≠ pb; omega)).trans hB6
      have HF7 : Hid (Fr (· = pb) w (w6.setCell ⟨pb, 1, none⟩ (.int .i64 ((k : Int) + (n : Int))))) := Lib.hid (frP hF6 1 _)
      have hn0 : (w6.setCell ⟨pb, 1, none⟩ (.int .i64 ((k : Int) + (n : Int)))).cell? ⟨w5.heap.size, 0, none⟩ = some (.int .i64 2) := by simp [World.cell?, hN7]
      have hn1 : (w6.setCell ⟨pb, 1, none⟩ (.int .i64 ((k : Int) + (n : Int)))).cell? ⟨w5.heap.size, 1, none⟩ = some (.int .i64 0) := by simp [World.cell?, hN7]
      have hn2 : (w6.setCell ⟨pb, 1, none⟩ (.int .i64 ((k : Int) + (n : Int)))).cell? ⟨w5.heap.size, 2, none⟩ = some (.string (s.extract k (k + n))) := by simp [World.cell?, hN7]
      have hn3 : (w6.setCell ⟨pb, 1, none⟩ (.int .i64 ((k : Int) + (n : Int)))).cell? ⟨w5.heap.size, 3, none⟩ = some (.slice none 0 0) := by simp [World.cell?, hN7]
      have hr0 : (w6.setCell ⟨pb, 1, none⟩ (.int .i64 ((k : Int) + (n : Int)))).cell? ⟨w.heap.size, 0, none⟩ = some (.int .i64 0) := by simp [World.cell?, hB7]
      have hr1 : (w6.setCell ⟨pb, 1, none⟩ (.int .i64 ((k : Int) + (n : Int)))).cell? ⟨w.heap.size, 1, none⟩ = some (.int .i64 0) := by simp [World.cell?, hB7]
      have hr2 : (w6.setCell ⟨pb, 1, none⟩ (.int .i64 ((k : Int) + (n : Int)))).cell? ⟨w.heap.size, 2, none⟩ = some (.string ⟨#[]⟩) := by simp [World.cell?, hB7]
      have hr3 : (w6.setCell ⟨pb, 1, none⟩ (.int .i64 ((k : Int) + (n : Int)))).cell? ⟨w.heap.size, 3, none⟩ = some (.slice none 0 0) := by simp [World.cell?, hB7]
      have hrf : ∀ j, (w6.setCell ⟨pb, 1, none⟩ (.int .i64 ((k : Int) + (n : Int)))).frozen? ⟨w.heap.size, j, none⟩ = false := frozen_of_heap hB7
      have HP7 := Lib.hid hp7
      have HB7 := Lib.hid hB7
      clear hp7 hB7 hN7 hblkN hp6 hF6 hB6
      go_wp2
      generalize w6.setCell ⟨pb, 1, none⟩ (.int .i64 ((k : Int) + (n : Int))) = w7 at *
      have h4 := heap_put4 HB7.out (.int .i64 2) (.int .i64 0) (.string (s.extract k (k + n))) (.slice none 0 0)
      have hbut := But.put4 w.heap.size w7 (.int .i64 2) (.int .i64 0) (.string (s.extract k (k + n))) (.slice none 0 0)
      generalize ((((w7.setCell ⟨w.heap.size, 0, none⟩ (.int .i64 2)).setCell ⟨w.heap.size, 1, none⟩ (.int .i64 0)).setCell ⟨w.heap.size, 2, none⟩ (.string (s.extract k (k + n)))).setCell ⟨w.heap.size, 3, none⟩ (.slice none 0 0)) = wz at h4 hbut ⊢
      refine bodyPost_ret (v := textV (s.extract k (k + n))) (by simp [results, Tryz.results110, go_sem, World.cell?, h4]) rfl ?_
      rw [HX.out]
      exact ⟨⟨_, rfl, by rw [Rep, extract_of s k n hfit], (hbut.block pb (by omega)).trans HP7.out⟩, Fr.but HF7.out hbut (Nat.le_refl _)⟩
    · have hB : decide ((s.size : Int) < (k : Int) + (n : Int)) = true := by simp; omega
      have HX := Lib.hid (textF_end HD.out (by rw [size_list]; omega))
      have hall : Hid (∀ q, Same w4 (w4.drewN q)) := Lib.hid (fun q => ⟨rfl, rfl, rfl, rfl⟩)
      go_wp2
      go_quiet (fail)
      have hsm := hall.out nq
      generalize w4.drewN nq = w5 at hsm ⊢
      have hp5 := HP4.out.same hsm
      have hc0 := hp5.c0
      have hc1 := hp5.c1
      have hc3 := hp5.c3
      have hf := hp5.fz
      have hp6 : PS pb s s.size m 0 (w5.setCell ⟨pb, 1, none⟩ (.int .i64 s.size)) := hp5.set1 s.size
      have hc36 := hp6.c3
      have hf36 := hp6.fz 3
      have hp7 : PS pb s s.size m 10 ((w5.setCell ⟨pb, 1, none⟩ (.int .i64 s.size)).setCell ⟨pb, 3, none⟩ (.int .i64 10)) := hp6.set3 10
      have HF7 : Hid (Fr (· = pb) w ((w5.setCell ⟨pb, 1, none⟩ (.int .i64 s.size)).setCell ⟨pb, 3, none⟩ (.int .i64 10))) := Lib.hid (frP (frP (HF4.out.trans (hsm.fr (X := (· = pb)))) 1 _) 3 _)
      have hB5 : w5.heap[w.heap.size]? = some (.cells #[.int .i64 0, .int .i64 0, .string ⟨#[]⟩, .slice none 0 0] 60 (0, 0)) := by rw [hsm.heap]; exact HB4.out
      have hB7 : ((w5.setCell ⟨pb, 1, none⟩ (.int .i64 s.size)).setCell ⟨pb, 3, none⟩ (.int .i64 10)).heap[w.heap.size]? = some (.cells #[.int .i64 0, .int .i64 0, .string ⟨#[]⟩, .slice none 0 0] 60 (0, 0)) :=
        (Below.heap_setCell _ _ _ _ (by show w.heap.size ≠ pb; omega)).trans ((Below.heap_setCell _ _ _ _ (by show w.heap.size ≠ pb; omega)).trans hB5)
      have hr0 : ((w5.setCell ⟨pb, 1, none⟩ (.int .i64 s.size)).setCell ⟨pb, 3, none⟩ (.int .i64 10)).cell? ⟨w.heap.size, 0, none⟩ = some (.int .i64 0) := by simp [World.cell?, hB7]
      have hr1 : ((w5.setCell ⟨pb, 1, none⟩ (.int .i64 s.size)).setCell ⟨pb, 3, none⟩ (.int .i64 10)).cell? ⟨w.heap.size, 1, none⟩ = some (.int .i64 0) := by simp [World.cell?, hB7]
      have hr2 : ((w5.setCell ⟨pb, 1, none⟩ (.int .i64 s.size)).setCell ⟨pb, 3, none⟩ (.int .i64 10)).cell? ⟨w.heap.size, 2, none⟩ = some (.string ⟨#[]⟩) := by simp [World.cell?, hB7]
      have hr3 : ((w5.setCell ⟨pb, 1, none⟩ (.int .i64 s.size)).setCell ⟨pb, 3, none⟩ (.int .i64 10)).cell? ⟨w.heap.size, 3, none⟩ = some (.slice none 0 0) := by simp [World.cell?, hB7]
      have hrf : ∀ j, ((w5.setCell ⟨pb, 1, none⟩ (.int .i64 s.size)).setCell ⟨pb, 3, none⟩ (.int .i64 10)).frozen? ⟨w.heap.size, j, none⟩ = false := frozen_of_heap hB7
      have HP7 := Lib.hid hp7
      have HB7 := Lib.hid hB7
      clear hsm hp5 hp6 hp7 hB5 hB7
      go_wp2
      generalize (w5.setCell ⟨pb, 1, none⟩ (.int .i64 s.size)).setCell ⟨pb, 3, none⟩ (.int .i64 10) = w7 at *
      have h4 := heap_put4 HB7.out (.int .i64 0) (.int .i64 0) (.string ⟨#[]⟩) (.slice none 0 0)
      have hbut := But.put4 w.heap.size w7 (.int .i64 0) (.int .i64 0) (.string ⟨#[]⟩) (.slice none 0 0)
      generalize ((((w7.setCell ⟨w.heap.size, 0, none⟩ (.int .i64 0)).setCell ⟨w.heap.size, 1, none⟩ (.int .i64 0)).setCell ⟨w.heap.size, 2, none⟩ (.string ⟨#[]⟩)).setCell ⟨w.heap.size, 3, none⟩ (.slice none 0 0)) = wz at h4 hbut ⊢
      refine bodyPost_ret (v := zeroV) (by simp [results, Tryz.results110, go_sem, World.cell?, h4]) rfl ?_
      rw [HX.out]
      exact ⟨⟨rfl, by rw [size_list]; exact (hbut.block pb (by omega)).trans HP7.out⟩, Fr.but HF7.out hbut (Nat.le_refl _)⟩
  · have HX := Lib.hid (textF_bad hd her)
    have hE : ((er : Int) != 0) = true := by simp; omega
    clear hd hp3 hblk3 hdd T
    go_wp2
    have h4 := heap_put4 HB3.out (.int .i64 0) (.int .i64 0) (.string ⟨#[]⟩) (.slice none 0 0)
    have hbut := But.put4 w.heap.size w3 (.int .i64 0) (.int .i64 0) (.string ⟨#[]⟩) (.slice none 0 0)
    generalize ((((w3.setCell ⟨w.heap.size, 0, none⟩ (.int .i64 0)).setCell ⟨w.heap.size, 1, none⟩ (.int .i64 0)).setCell ⟨w.heap.size, 2, none⟩ (.string ⟨#[]⟩)).setCell ⟨w.heap.size, 3, none⟩ (.slice none 0 0)) = wz at h4 hbut ⊢
    refine bodyPost_ret (v := zeroV) (by simp [results, Tryz.results110, go_sem, World.cell?, h4]) rfl ?_
    rw [HX.out]
    exact ⟨⟨rfl, (hbut.block pb (by omega)).trans HP3.out⟩, Fr.but HF3.out hbut (Nat.le_refl _)⟩
end Go.Proofs.YtdnedbcmgkilaaaGreatDoor.Co

end
