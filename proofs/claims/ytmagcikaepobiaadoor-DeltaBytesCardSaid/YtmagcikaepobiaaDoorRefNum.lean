/- The document's own reader: number and text. -/
import Derived.Test.YtmagcikaepobiaaDoorRefDig
import Derived.Test.YtmagcikaepobiaaDoorShelf2
import Derived.Lib.AtoiErrMem
namespace Go.Proofs.YtmagcikaepobiaaDoor
open Go.RowKit

theorem below_bytes (w : World) (t : ByteArray) : Below w.heap.size w (Lib.bytesWorld w 5 t) := Lib.bytesWorld_below w 5 t

theorem parseInt_any (s : ByteArray) (hs : s.size ≤ 1000000) (v : Int) (h : Lib.parseIntB 64 s.data.toList = .ok v) (w : World) :
    Calls Tryd.prog 63 #[.string s, .int .i64 10, .int .i64 64] w fun e w' => e = .returned (.tuple #[.int .i64 v, .nilIface]) ∧ Below w.heap.size w w' :=
  (Tryd.strconv_ParseInt_10_at64_ok s (by omega) v h w).mono fun _ _ ⟨he, hw⟩ => ⟨he, by rcases hw with rfl | ⟨t, rfl⟩; exact Below.refl _ _; exact below_bytes _ t⟩
theorem atoi_any (s : ByteArray) (hs : s.size ≤ 1000000) (v : Int) (h : Lib.atoiAll s.data.toList = .ok v) (w : World) :
    Calls Tryd.prog 64 #[.string s] w fun e w' => e = .returned (.tuple #[.int .i64 v, .nilIface]) ∧ Below w.heap.size w w' :=
  (Tryd.strconv_Atoi_ok s (by omega) v h w).mono fun _ _ ⟨he, hw⟩ => ⟨he, by rcases hw with rfl | ⟨t, rfl⟩; exact Below.refl _ _; exact below_bytes _ t⟩

theorem digF_lt (most : Nat) (hm : 10 ≤ most) : ∀ (r : List UInt8) (i n : Nat) (first : Bool) (m k : Nat), digF most r i n first = (m, 0, k) → k < i + r.length ∧ m ≤ max n most
  | [], i, n, first, m, k, h => by rw [digF_nil] at h; simp at h
  | c :: r, i, n, first, m, k, h => by
    rw [digF_cons] at h
    split at h
    · split at h
      · simp at h
      · rename_i hd hx
        have hb := isDig_bd hd
        have := digF_lt most hm r _ _ _ _ _ h
        have h2 : n * 10 + (c.toNat - 48) ≤ max n most := by
          have : ¬ (most - (c.toNat - 48)) / 10 < n := fun e => hx (.inr e)
          omega
        simp only [List.length_cons]
        omega
    · split at h
      · simp at h
      · simp only [Prod.mk.injEq] at h
        simp only [List.length_cons]
        omega

/-- What a reading leaves: the value, and where the document's reader stands. -/
def RPost (r : Res) (pb : Nat) (s : ByteArray) (m : Nat) (w : World) (e : Ending) (w' : World) : Prop :=
  (match r with
   | .ok t k => ∃ v, e = .returned v ∧ Rep w' (fun b => w.heap.size ≤ b ∧ b < w'.heap.size) t v ∧ PS pb s k m 0 w'
   | .bad er k => e = .returned zeroV ∧ PS pb s k m er w') ∧ Fr (· = pb) w w'

abbrev max7 : ByteArray := ⟨#[57, 50, 50, 51, 51, 55, 50, 48, 51, 54, 56, 53, 52, 55, 55, 53, 56, 48, 55]⟩
abbrev max8 : ByteArray := ⟨#[57, 50, 50, 51, 51, 55, 50, 48, 51, 54, 56, 53, 52, 55, 55, 53, 56, 48, 56]⟩
abbrev maxB : ByteArray := ⟨#[49, 51, 49, 48, 55, 50]⟩
theorem dig7 : AllDig [57, 50, 50, 51, 51, 55, 50, 48, 51, 54, 56, 53, 52, 55, 55, 53, 56, 48, 55] := by
  intro c hc; revert c; decide
theorem dig8 : AllDig [57, 50, 50, 51, 51, 55, 50, 48, 51, 54, 56, 53, 52, 55, 55, 53, 56, 48, 56] := by
  intro c hc; revert c; decide
theorem digB : AllDig [49, 51, 49, 48, 55, 50] := by
  intro c hc; revert c; decide

theorem digits7 (pb : Nat) (s : ByteArray) (i m : Nat) (w : World) (hs : s.size ≤ 131072) (hi : i ≤ s.size) (hp : PS pb s i m 0 w) :
    Calls Tryd.prog 61 #[.pointer (some ⟨pb, 0, none⟩), .string max7] w fun e w' => ∃ d, e = .returned (.string d) ∧ Hid (DigR pb s m (digF 9223372036854775807 (s.data.toList.drop i) i 0 true) d w') ∧ Hid (Fr (· = pb) w w') :=
  digits_any pb s max7 57 [50, 50, 51, 51, 55, 50, 48, 51, 54, 56, 53, 52, 55, 55, 53, 56, 48, 55] i m _ w hs hi rfl dig7 (by decide) (by decide) (by decide) (by decide) hp
theorem digits8 (pb : Nat) (s : ByteArray) (i m : Nat) (w : World) (hs : s.size ≤ 131072) (hi : i ≤ s.size) (hp : PS pb s i m 0 w) :
    Calls Tryd.prog 61 #[.pointer (some ⟨pb, 0, none⟩), .string max8] w fun e w' => ∃ d, e = .returned (.string d) ∧ Hid (DigR pb s m (digF 9223372036854775808 (s.data.toList.drop i) i 0 true) d w') ∧ Hid (Fr (· = pb) w w') :=
  digits_any pb s max8 57 [50, 50, 51, 51, 55, 50, 48, 51, 54, 56, 53, 52, 55, 55, 53, 56, 48, 56] i m _ w hs hi rfl dig8 (by decide) (by decide) (by decide) (by decide) hp
theorem digitsB (pb : Nat) (s : ByteArray) (i m : Nat) (w : World) (hs : s.size ≤ 131072) (hi : i ≤ s.size) (hp : PS pb s i m 0 w) :
    Calls Tryd.prog 61 #[.pointer (some ⟨pb, 0, none⟩), .string maxB] w fun e w' => ∃ d, e = .returned (.string d) ∧ Hid (DigR pb s m (digF 131072 (s.data.toList.drop i) i 0 true) d w') ∧ Hid (Fr (· = pb) w w') :=
  digits_any pb s maxB 49 [51, 49, 48, 55, 50] i m _ w hs hi rfl digB (by decide) (by decide) (by decide) (by decide) hp

/-- digits, and then the byte that ends them: where the reader stands. -/
def TakeD (pb : Nat) (s : ByteArray) (m : Nat) (D : Nat × Nat × Nat) (d : ByteArray) (w' : World) : Prop :=
  PS pb s D.2.2 m D.2.1 w' ∧ (D.2.1 = 0 → AllDig d.data.toList ∧ d.data.toList ≠ [] ∧ valFrom 0 d.data.toList = D.1) ∧ D.2.2 ≤ s.size ∧ d.size ≤ s.size

theorem take_digits {pb : Nat} {s d : ByteArray} {i m most : Nat} {e : UInt8} {en : Int} {w1 : World} (hs : s.size ≤ 131072) (hi : i ≤ s.size) (hm : 10 ≤ most) (he : isDig e = false) (hen : en = (e.toNat : Int)) (hD : DigR pb s m (digF most (s.data.toList.drop i) i 0 true) d w1) :
    Calls Tryd.prog 62 #[.pointer (some ⟨pb, 0, none⟩), .int .i64 en] w1 fun x w' => x = .returned (.tuple #[]) ∧ Hid (TakeD pb s m (decF most e (s.data.toList.drop i) i 0 true) d w') ∧ Hid (Fr (· = pb) w1 w') := by
  have hdec := decF_digF most e he s.data.toList (s.data.toList.drop i) i 0 true rfl
  rcases hr : digF most (s.data.toList.drop i) i 0 true with ⟨n, er, k⟩
  rw [hr] at hD hdec
  obtain ⟨hp, hd, hk, hds⟩ := hD
  simp only at hp hd hk hds
  cases er with
  | zero =>
    have hkl := (digF_lt most hm _ _ _ _ _ _ hr).1
    rw [List.length_drop, size_list] at hkl
    have hlt : k < s.size := by omega
    refine (take_any pb s k m en w1 hs hk (by rw [hen]; omega) hp).mono fun x w' ⟨hx, ht, hf⟩ => ⟨hx, ?_, Lib.hid hf⟩
    have ht' := ht.out
    unfold TakeR at ht'
    have hiff : nowF s k = en ↔ s.data.toList[k]? = some e := by
      rw [nowF_lt hlt, some45 s k e hlt, hen]; omega
    by_cases hn : nowF s k = en
    · rw [if_pos hn] at ht'
      simp only [if_pos (hiff.1 hn)] at hdec
      rw [hdec]
      exact ⟨ht', fun _ => hd rfl, by show k + 1 ≤ s.size; omega, hds⟩
    · rw [if_neg hn] at ht'
      simp only [if_neg (fun h => hn (hiff.2 h))] at hdec
      rw [hdec]
      have : wrongF s k = 11 := if_pos hlt
      rw [this] at ht'
      exact ⟨ht', (fun h => by cases h), hk, hds⟩
  | succ er =>
    simp only at hdec
    refine (take_bad pb s k m (er + 1) en w1 (by omega) hp).mono fun x w' ⟨hx, hw⟩ => ⟨hx, ?_, Lib.hid (by subst hw; exact Fr.refl _ _)⟩
    subst hw
    rw [hdec]
    exact ⟨hp, (fun h => by cases h), hk, hds⟩

theorem Fr.but {X : Nat → Prop} {w w1 w4 : World} {h : Nat} (hf : Fr X w w1) (hb : But h w1 w4) (h1 : w.heap.size ≤ h) : Fr X w w4 :=
  ⟨hb.os.trans hf.os, hb.tape.trans hf.tape, hb.output.trans hf.output, by rw [hb.size]; exact hf.size, fun k hk hx => (hb.block k (by omega)).trans (hf.block k hk hx)⟩
theorem empty_app (d : ByteArray) : (⟨#[]⟩ : ByteArray) ++ d = d := by
  apply ByteArray.ext; rw [ByteArray.data_append]; simp
theorem minus_list (d : ByteArray) : ((⟨#[45]⟩ : ByteArray) ++ d).data.toList = 45 :: d.data.toList := by
  rw [ByteArray.data_append]; simp
theorem minus_size (d : ByteArray) : ((⟨#[45]⟩ : ByteArray) ++ d).size = d.size + 1 := by
  rw [← size_list, minus_list, List.length_cons, size_list]

set_option maxHeartbeats 3200000 in
set_option maxRecDepth 100000 in
theorem rnumber_any (pb : Nat) (s : ByteArray) (i m : Nat) (w : World) (hs : s.size ≤ 131072) (hi : i + 1 ≤ s.size) (hp : PS pb s i m 0 w) :
    Calls Tryd.prog 54 #[.pointer (some ⟨pb, 0, none⟩)] w (RPost (numF s.data.toList (i + 1)) pb s m w) := by
  have hltp := hp.lt
  have hc1 := hp.c1
  have hf1 := hp.fz 1
  have HPW : Hid (PS pb s (i + 1) m 0 ((w.setCell ⟨pb, 1, none⟩ (.int .i64 ((i : Int) + 1))).alloc (.cells #[.int .i64 0, .int .i64 0, .string ⟨#[]⟩, .slice none 0 0] 36))) := Lib.hid ((hp.set1 (i + 1)).alloc _)
  have FRW0 : Hid (Fr (· = pb) w ((w.setCell ⟨pb, 1, none⟩ (.int .i64 ((i : Int) + 1))).alloc (.cells #[.int .i64 0, .int .i64 0, .string ⟨#[]⟩, .slice none 0 0] 36))) := Lib.hid ((frP (Fr.refl _ w) 1 _).alloc _)
  have HSZ : (w.setCell ⟨pb, 1, none⟩ (.int .i64 ((i : Int) + 1))).heap.size = w.heap.size := by simp [World.setCell]
  have HBLK0 : Hid (((w.setCell ⟨pb, 1, none⟩ (.int .i64 ((i : Int) + 1))).alloc (.cells #[.int .i64 0, .int .i64 0, .string ⟨#[]⟩, .slice none 0 0] 36)).heap[w.heap.size]? = some (.cells #[.int .i64 0, .int .i64 0, .string ⟨#[]⟩, .slice none 0 0] 36 (0, 0))) := Lib.hid (by rw [← HSZ]; exact heap_alloc_new _ _)
  clear HSZ hp
  go_enter Tryd.func54, Tryd.ntmps54
  go_wp2_with fail
  generalize (w.setCell ⟨pb, 1, none⟩ (.int .i64 ((i : Int) + 1))).alloc (.cells #[.int .i64 0, .int .i64 0, .string ⟨#[]⟩, .slice none 0 0] 36) = W at *
  refine (now_any pb s (i + 1) m 0 W hs hi HPW.out).mono ?_
  rintro e W' ⟨rfl, hsm⟩
  have HPS := Lib.hid (HPW.out.same hsm)
  have FRW := Lib.hid (FRW0.out.trans (hsm.fr (X := (· = pb))))
  have HBLK : Hid (W'.heap[w.heap.size]? = some (.cells #[.int .i64 0, .int .i64 0, .string ⟨#[]⟩, .slice none 0 0] 36 (0, 0))) := Lib.hid (by rw [hsm.heap]; exact HBLK0.out)
  have HLT := Lib.hid (lt_of_heap HBLK.out)
  clear hsm HPW FRW0 HBLK0 hc1 hf1
  by_cases hc45 : s.data.toList[i + 1]? = some 45
  · have hlt : i + 1 < s.size := by
      rcases Nat.lt_or_ge (i + 1) s.size with h | h
      · exact h
      · rw [get_no s (i + 1) (by omega)] at hc45; cases hc45
    have hn45 : (nowF s (i + 1) == 45) = true := by
      rw [nowF_lt hlt]
      have := (some45 s (i + 1) 45 hlt).1 hc45
      simp at this ⊢; omega
    have hc1 := HPS.out.c1
    have hf1 := HPS.out.fz 1
    have hltW := HPS.out.lt
    have HP1 : Hid (PS pb s (i + 1 + 1) m 0 (W'.setCell ⟨pb, 1, none⟩ (.int .i64 ((i : Int) + 1 + 1)))) := Lib.hid (HPS.out.set1 (i + 1 + 1))
    have FR1 : Hid (Fr (· = pb) w (W'.setCell ⟨pb, 1, none⟩ (.int .i64 ((i : Int) + 1 + 1)))) := Lib.hid (frP FRW.out 1 _)
    have HB1 : Hid ((W'.setCell ⟨pb, 1, none⟩ (.int .i64 ((i : Int) + 1 + 1))).heap[w.heap.size]? = some (.cells #[.int .i64 0, .int .i64 0, .string ⟨#[]⟩, .slice none 0 0] 36 (0, 0))) := Lib.hid ((Below.heap_setCell _ _ _ _ (by show w.heap.size ≠ pb; omega)).trans HBLK.out)
    have hc1' : W'.cell? ⟨pb, 1, none⟩ = some (.int .i64 ((i : Int) + 1)) := hc1
    clear hc1
    generalize nowF s (i + 1) = nv at *
    go_wp2_with fail
    generalize W'.setCell ⟨pb, 1, none⟩ (.int .i64 ((i : Int) + 1 + 1)) = W2 at *
    refine (now_any pb s (i + 1 + 1) m 0 W2 hs (by omega) HP1.out).mono ?_
    rintro e W3 ⟨rfl, hsm⟩
    have HPS2 := Lib.hid (HP1.out.same hsm)
    have FRW2 := Lib.hid (FR1.out.trans (hsm.fr (X := (· = pb))))
    have HBLK2 : Hid (W3.heap[w.heap.size]? = some (.cells #[.int .i64 0, .int .i64 0, .string ⟨#[]⟩, .slice none 0 0] 36 (0, 0))) := Lib.hid (by rw [hsm.heap]; exact HB1.out)
    have HLT2 := Lib.hid (lt_of_heap HBLK2.out)
    clear hsm hn45
    by_cases hc48 : s.data.toList[i + 1 + 1]? = some 48
    · have hlt2 : i + 1 + 1 < s.size := by
        rcases Nat.lt_or_ge (i + 1 + 1) s.size with h | h
        · exact h
        · rw [get_no s (i + 1 + 1) (by omega)] at hc48; cases hc48
      have hn48 : (nowF s (i + 1 + 1) == 48) = true := by
        rw [nowF_lt hlt2]
        have := (some45 s (i + 1 + 1) 48 hlt2).1 hc48
        simp at this ⊢; omega
      have HX := Lib.hid (numF_zero hc45 hc48)
      generalize nowF s (i + 1 + 1) = nv2 at *
      have hc3 := HPS2.out.c3
      have hf3 := HPS2.out.fz 3
      have hltp3 := HPS2.out.lt
      have HP3 : Hid (PS pb s (i + 1 + 1) m 11 (W3.setCell ⟨pb, 3, none⟩ (.int .i64 11))) := Lib.hid (HPS2.out.set3 11)
      have HB3 : Hid ((W3.setCell ⟨pb, 3, none⟩ (.int .i64 11)).heap[w.heap.size]? = some (.cells #[.int .i64 0, .int .i64 0, .string ⟨#[]⟩, .slice none 0 0] 36 (0, 0))) := Lib.hid ((Below.heap_setCell _ _ _ _ (by show w.heap.size ≠ pb; omega)).trans HBLK2.out)
      have HF3 : Hid (Fr (· = pb) w (W3.setCell ⟨pb, 3, none⟩ (.int .i64 11))) := Lib.hid (frP FRW2.out 3 _)
      have hblk3 := HB3.out
      have hr0 : (W3.setCell ⟨pb, 3, none⟩ (.int .i64 11)).cell? ⟨w.heap.size, 0, none⟩ = some (.int .i64 0) := by simp [World.cell?, hblk3]
      have hr1 : (W3.setCell ⟨pb, 3, none⟩ (.int .i64 11)).cell? ⟨w.heap.size, 1, none⟩ = some (.int .i64 0) := by simp [World.cell?, hblk3]
      have hr2 : (W3.setCell ⟨pb, 3, none⟩ (.int .i64 11)).cell? ⟨w.heap.size, 2, none⟩ = some (.string ⟨#[]⟩) := by simp [World.cell?, hblk3]
      have hr3 : (W3.setCell ⟨pb, 3, none⟩ (.int .i64 11)).cell? ⟨w.heap.size, 3, none⟩ = some (.slice none 0 0) := by simp [World.cell?, hblk3]
      have hrf : ∀ j, (W3.setCell ⟨pb, 3, none⟩ (.int .i64 11)).frozen? ⟨w.heap.size, j, none⟩ = false := frozen_of_heap hblk3
      clear hblk3 hc45 hc48
      go_wp2
      generalize W3.setCell ⟨pb, 3, none⟩ (.int .i64 11) = w3 at *
      have h4 := heap_put4 HB3.out (.int .i64 0) (.int .i64 0) (.string ⟨#[]⟩) (.slice none 0 0)
      have hbut := But.put4 w.heap.size w3 (.int .i64 0) (.int .i64 0) (.string ⟨#[]⟩) (.slice none 0 0)
      generalize ((((w3.setCell ⟨w.heap.size, 0, none⟩ (.int .i64 0)).setCell ⟨w.heap.size, 1, none⟩ (.int .i64 0)).setCell ⟨w.heap.size, 2, none⟩ (.string ⟨#[]⟩)).setCell ⟨w.heap.size, 3, none⟩ (.slice none 0 0)) = w5 at h4 hbut ⊢
      refine bodyPost_ret (v := zeroV) (by simp [results, Tryd.results54, go_sem, World.cell?, h4]) rfl ?_
      rw [HX.out]
      exact ⟨⟨rfl, (hbut.block pb (by omega)).trans HP3.out⟩, Fr.but HF3.out hbut (Nat.le_refl _)⟩
    · have hn48 : (nowF s (i + 1 + 1) == 48) = false := by
        by_cases hlt2 : i + 1 + 1 < s.size
        · rw [nowF_lt hlt2]
          have := fun h => hc48 ((some45 s (i + 1 + 1) 48 hlt2).2 h)
          simp at this ⊢; omega
        · rw [nowF_end hlt2]; rfl
      have HDG := Lib.hid (digits8 pb s (i + 1 + 1) m W3 hs (by omega) HPS2.out)
      generalize nowF s (i + 1 + 1) = nv2 at *
      go_wp2_with fail
      refine HDG.out.mono ?_
      clear HDG hn48
      rintro e w2 ⟨d, rfl, D, F⟩
      have HTK := Lib.hid (take_digits (e := 101) (en := 101) hs (by omega) (by omega) (by decide) rfl D.out)
      go_wp2_with fail
      refine HTK.out.mono ?_
      rintro e w3 ⟨rfl, T, F3⟩
      have HF3 := Lib.hid ((FRW2.out.trans F.out).trans F3.out)
      have HFW := Lib.hid (F.out.trans F3.out)
      clear D F F3 HTK
      rcases hd : decF 9223372036854775808 101 (s.data.toList.drop (i + 1 + 1)) (i + 1 + 1) 0 true with ⟨n, er, k⟩
      have hbd := decF_bd 9223372036854775808 101 (by omega) (s.data.toList.drop (i + 1 + 1)) (i + 1 + 1) 0 true (by omega)
      have ht := T.out
      rw [hd] at ht hbd
      simp only at hbd
      obtain ⟨hp3, hdd, hk3, hds⟩ := ht
      simp only at hp3 hdd hk3
      have hblk3 := (HFW.out.block w.heap.size HLT2.out (by omega)).trans HBLK2.out
      have hc3 := hp3.c3
      have hr0 : w3.cell? ⟨w.heap.size, 0, none⟩ = some (.int .i64 0) := by simp [World.cell?, hblk3]
      have hr1 : w3.cell? ⟨w.heap.size, 1, none⟩ = some (.int .i64 0) := by simp [World.cell?, hblk3]
      have hr2 : w3.cell? ⟨w.heap.size, 2, none⟩ = some (.string ⟨#[]⟩) := by simp [World.cell?, hblk3]
      have hr3 : w3.cell? ⟨w.heap.size, 3, none⟩ = some (.slice none 0 0) := by simp [World.cell?, hblk3]
      have hrf : ∀ j, w3.frozen? ⟨w.heap.size, j, none⟩ = false := frozen_of_heap hblk3
      have HB3 := Lib.hid hblk3
      have HP3 := Lib.hid hp3
      by_cases her : er = 0
      · subst her
        obtain ⟨ha, hne, hv⟩ := hdd rfl
        have HX := Lib.hid (numF_nok hc45 hc48 hd)
        have HPI := Lib.hid (fun W => parseInt_any ((⟨#[45]⟩ : ByteArray) ++ d) (by rw [minus_size]; omega) ((-(n : Int))) (by rw [minus_list, parse_neg ha hne (by omega), hv]) W)
        clear ha hne hv hd hp3 hblk3 hdd T hc45 hc48
        go_wp2_with fail
        refine (HPI.out _).mono ?_
        rintro e w4 ⟨rfl, hb4⟩
        have hblk4 := (hb4.block w.heap.size (lt_of_heap HB3.out)).trans HB3.out
        have hr0 : w4.cell? ⟨w.heap.size, 0, none⟩ = some (.int .i64 0) := by simp [World.cell?, hblk4]
        have hr1 : w4.cell? ⟨w.heap.size, 1, none⟩ = some (.int .i64 0) := by simp [World.cell?, hblk4]
        have hr2 : w4.cell? ⟨w.heap.size, 2, none⟩ = some (.string ⟨#[]⟩) := by simp [World.cell?, hblk4]
        have hr3 : w4.cell? ⟨w.heap.size, 3, none⟩ = some (.slice none 0 0) := by simp [World.cell?, hblk4]
        have hrf : ∀ j, w4.frozen? ⟨w.heap.size, j, none⟩ = false := frozen_of_heap hblk4
        have HB4 := Lib.hid hblk4
        have HP4 := Lib.hid (HP3.out.below hb4)
        have HF4 := Lib.hid (HF3.out.trans (Fr.of_below hb4))
        clear hb4 hblk4
        go_wp2
        have h4 := heap_put4 HB4.out (.int .i64 1) (.int .i64 ((-(n : Int)))) (.string ⟨#[]⟩) (.slice none 0 0)
        have hbut := But.put4 w.heap.size w4 (.int .i64 1) (.int .i64 ((-(n : Int)))) (.string ⟨#[]⟩) (.slice none 0 0)
        generalize ((((w4.setCell ⟨w.heap.size, 0, none⟩ (.int .i64 1)).setCell ⟨w.heap.size, 1, none⟩ (.int .i64 ((-(n : Int))))).setCell ⟨w.heap.size, 2, none⟩ (.string ⟨#[]⟩)).setCell ⟨w.heap.size, 3, none⟩ (.slice none 0 0)) = w5 at h4 hbut ⊢
        refine bodyPost_ret (v := numV ((-(n : Int)))) (by simp [results, Tryd.results54, go_sem, World.cell?, h4]) rfl ?_
        rw [HX.out]
        exact ⟨⟨_, rfl, by rw [Rep], (hbut.block pb (by omega)).trans HP4.out⟩, Fr.but HF4.out hbut (Nat.le_refl _)⟩
      · have HX := Lib.hid (numF_nbad hc45 hc48 hd her)
        have hE : ((er : Int) != 0) = true := by simp; omega
        clear hd hp3 hblk3 hdd T hc45 hc48
        go_wp2
        have h4 := heap_put4 HB3.out (.int .i64 0) (.int .i64 0) (.string ⟨#[]⟩) (.slice none 0 0)
        have hbut := But.put4 w.heap.size w3 (.int .i64 0) (.int .i64 0) (.string ⟨#[]⟩) (.slice none 0 0)
        generalize ((((w3.setCell ⟨w.heap.size, 0, none⟩ (.int .i64 0)).setCell ⟨w.heap.size, 1, none⟩ (.int .i64 0)).setCell ⟨w.heap.size, 2, none⟩ (.string ⟨#[]⟩)).setCell ⟨w.heap.size, 3, none⟩ (.slice none 0 0)) = w5 at h4 hbut ⊢
        refine bodyPost_ret (v := zeroV) (by simp [results, Tryd.results54, go_sem, World.cell?, h4]) rfl ?_
        rw [HX.out]
        exact ⟨⟨rfl, (hbut.block pb (by omega)).trans HP3.out⟩, Fr.but HF3.out hbut (Nat.le_refl _)⟩
  · have hn45 : (nowF s (i + 1) == 45) = false := by
      by_cases hlt : i + 1 < s.size
      · rw [nowF_lt hlt]
        have := fun h => hc45 ((some45 s (i + 1) 45 hlt).2 h)
        simp at this ⊢; omega
      · rw [nowF_end hlt]; rfl
    have HDG := Lib.hid (digits7 pb s (i + 1) m W' hs (by omega) HPS.out)
    generalize nowF s (i + 1) = nv at *
    go_wp2_with fail
    refine HDG.out.mono ?_
    clear HDG hn45
    rintro e w2 ⟨d, rfl, D, F⟩
    have HTK := Lib.hid (take_digits (e := 101) (en := 101) hs (by omega) (by omega) (by decide) rfl D.out)
    go_wp2_with fail
    refine HTK.out.mono ?_
    rintro e w3 ⟨rfl, T, F3⟩
    have HF3 := Lib.hid ((FRW.out.trans F.out).trans F3.out)
    have HFW := Lib.hid (F.out.trans F3.out)
    clear D F F3 HTK
    rcases hd : decF 9223372036854775807 101 (s.data.toList.drop (i + 1)) (i + 1) 0 true with ⟨n, er, k⟩
    have hbd := decF_bd 9223372036854775807 101 (by omega) (s.data.toList.drop (i + 1)) (i + 1) 0 true (by omega)
    have ht := T.out
    rw [hd] at ht hbd
    simp only at hbd
    obtain ⟨hp3, hdd, hk3, hds⟩ := ht
    simp only at hp3 hdd hk3
    have hblk3 := (HFW.out.block w.heap.size HLT.out (by omega)).trans HBLK.out
    have hc3 := hp3.c3
    have hr0 : w3.cell? ⟨w.heap.size, 0, none⟩ = some (.int .i64 0) := by simp [World.cell?, hblk3]
    have hr1 : w3.cell? ⟨w.heap.size, 1, none⟩ = some (.int .i64 0) := by simp [World.cell?, hblk3]
    have hr2 : w3.cell? ⟨w.heap.size, 2, none⟩ = some (.string ⟨#[]⟩) := by simp [World.cell?, hblk3]
    have hr3 : w3.cell? ⟨w.heap.size, 3, none⟩ = some (.slice none 0 0) := by simp [World.cell?, hblk3]
    have hrf : ∀ j, w3.frozen? ⟨w.heap.size, j, none⟩ = false := frozen_of_heap hblk3
    have HB3 := Lib.hid hblk3
    have HP3 := Lib.hid hp3
    by_cases her : er = 0
    · subst her
      obtain ⟨ha, hne, hv⟩ := hdd rfl
      have HX := Lib.hid (numF_ok hc45 hd)
      have HPI := Lib.hid (fun W => parseInt_any ((⟨#[]⟩ : ByteArray) ++ d) (by rw [empty_app]; omega) (n : Int) (by rw [empty_app, parse_pos ha hne (by omega), hv]) W)
      clear ha hne hv hd hp3 hblk3 hdd T hc45
      go_wp2_with fail
      refine (HPI.out _).mono ?_
      rintro e w4 ⟨rfl, hb4⟩
      have hblk4 := (hb4.block w.heap.size (lt_of_heap HB3.out)).trans HB3.out
      have hr0 : w4.cell? ⟨w.heap.size, 0, none⟩ = some (.int .i64 0) := by simp [World.cell?, hblk4]
      have hr1 : w4.cell? ⟨w.heap.size, 1, none⟩ = some (.int .i64 0) := by simp [World.cell?, hblk4]
      have hr2 : w4.cell? ⟨w.heap.size, 2, none⟩ = some (.string ⟨#[]⟩) := by simp [World.cell?, hblk4]
      have hr3 : w4.cell? ⟨w.heap.size, 3, none⟩ = some (.slice none 0 0) := by simp [World.cell?, hblk4]
      have hrf : ∀ j, w4.frozen? ⟨w.heap.size, j, none⟩ = false := frozen_of_heap hblk4
      have HB4 := Lib.hid hblk4
      have HP4 := Lib.hid (HP3.out.below hb4)
      have HF4 := Lib.hid (HF3.out.trans (Fr.of_below hb4))
      clear hb4 hblk4
      go_wp2
      have h4 := heap_put4 HB4.out (.int .i64 1) (.int .i64 (n : Int)) (.string ⟨#[]⟩) (.slice none 0 0)
      have hbut := But.put4 w.heap.size w4 (.int .i64 1) (.int .i64 (n : Int)) (.string ⟨#[]⟩) (.slice none 0 0)
      generalize ((((w4.setCell ⟨w.heap.size, 0, none⟩ (.int .i64 1)).setCell ⟨w.heap.size, 1, none⟩ (.int .i64 (n : Int))).setCell ⟨w.heap.size, 2, none⟩ (.string ⟨#[]⟩)).setCell ⟨w.heap.size, 3, none⟩ (.slice none 0 0)) = w5 at h4 hbut ⊢
      refine bodyPost_ret (v := numV (n : Int)) (by simp [results, Tryd.results54, go_sem, World.cell?, h4]) rfl ?_
      rw [HX.out]
      exact ⟨⟨_, rfl, by rw [Rep], (hbut.block pb (by omega)).trans HP4.out⟩, Fr.but HF4.out hbut (Nat.le_refl _)⟩
    · have HX := Lib.hid (numF_bad hc45 hd her)
      have hE : ((er : Int) != 0) = true := by simp; omega
      clear hd hp3 hblk3 hdd T hc45
      go_wp2
      have h4 := heap_put4 HB3.out (.int .i64 0) (.int .i64 0) (.string ⟨#[]⟩) (.slice none 0 0)
      have hbut := But.put4 w.heap.size w3 (.int .i64 0) (.int .i64 0) (.string ⟨#[]⟩) (.slice none 0 0)
      generalize ((((w3.setCell ⟨w.heap.size, 0, none⟩ (.int .i64 0)).setCell ⟨w.heap.size, 1, none⟩ (.int .i64 0)).setCell ⟨w.heap.size, 2, none⟩ (.string ⟨#[]⟩)).setCell ⟨w.heap.size, 3, none⟩ (.slice none 0 0)) = w5 at h4 hbut ⊢
      refine bodyPost_ret (v := zeroV) (by simp [results, Tryd.results54, go_sem, World.cell?, h4]) rfl ?_
      rw [HX.out]
      exact ⟨⟨rfl, (hbut.block pb (by omega)).trans HP3.out⟩, Fr.but HF3.out hbut (Nat.le_refl _)⟩

end Go.Proofs.YtmagcikaepobiaaDoor
