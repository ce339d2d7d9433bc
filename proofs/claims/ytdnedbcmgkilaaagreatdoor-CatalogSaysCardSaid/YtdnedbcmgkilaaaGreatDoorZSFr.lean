/- Package format: any parts, walked. -/
import Derived.Test.YtdnedbcmgkilaaaGreatDoorZSg43

namespace Go.Proofs.YtdnedbcmgkilaaaGreatDoor
set_option maxHeartbeats 12800000
set_option maxRecDepth 100000
open Go.Lib (hid)
open Go.RowKit
theorem zha (n : Nat) (HI : ∀ m, m < n -> zjv m) : zjv n := by
 intro B b l lang ab capb gs h xs a cap w hh1 hh2 hx has hgb hst hE ho hl hB
 have hb1 := z02 w (.cells #[.string lang, .slice ab gs.length capb] 115)
 have HX := hid (hx.lt (hb1.mono hB))
 have HAS := hid (has.lt (hb1.mono hB))
 have HGB := hid hgb
 have HST := hid hst
 have HEV := hid (hE.below hb1)
 have HII := hid HI
 have HO1 : Hid (OutAt B b l (w.alloc (.cells #[.string lang, .slice ab gs.length capb] 115))) := hid (z9z ho hb1)
 have hbl : Hid (b < w.heap.size) := hid (out_lt ho)
 have HRX := hid (z04 w #[.string lang, .slice ab gs.length capb] 115)
 have HE1 : Hid (Ekp B b w (w.alloc (.cells #[.string lang, .slice ab gs.length capb] 115))) := hid (.of_below hB hb1)
 have hbx : Hid (w.heap.size < (w.alloc (.cells #[.string lang, .slice ab gs.length capb] 115)).heap.size) := hid (by rw [World.size_alloc]; omega)
 have HBS : Hid (B <= w.heap.size) := hid hB
 have HEQ : Hid (evPs lang gs n h xs l = evL (evP lang gs (evPs lang gs (n - 1)) h) xs l) := hid (by
  cases n with
  | zero =>
   cases xs with
   | nil => rfl
   | cons x r =>
    obtain ⟨g, off, -, -, hat⟩ := hx.at_ (j := 0) rfl
    obtain ⟨-, -, -, m, -, -, hm, -, -⟩ := hat.p
    omega
  | succ n => rfl)
 have hmx := hx.lenle
 obtain ⟨L, HL⟩ : ∃ L, Hid (L = xs.length) := ⟨_, hid rfl⟩
 obtain ⟨na, HNA⟩ : ∃ na, Hid (na = gs.length) := ⟨_, hid rfl⟩
 have hL2 : L <= 9223372036854775807 := by have := HL.out; omega
 rw [<- HL.out] at HX ⊢
 rw [<- HNA.out] at HAS HO1 HRX HE1 HEV HX hbx ⊢
 rw [HEQ.out]
 clear hx has hgb hst hE ho hB hb1 hmx HI HEQ
 go_enter Tryz.func122, Tryz.ntmps122
 go_wp2
 generalize w.alloc (.cells #[.string lang, .slice ab na capb] 115) = w1 at *
 obtain ⟨f, HF⟩ : ∃ f, Hid (f = evP lang gs (evPs lang gs (n - 1)) h) := ⟨_, hid rfl⟩
 rw [<- HF.out]
 go_loopw [13] (fun i wr => ∃ (k : Nat) (l' : List UInt8), k <= L /\ i = .int .i64 k /\ l'.length <= 8000 /\ Hid (evL f xs l = evL f (xs.drop k) l') /\ Hid (OutAt B b l' wr) /\ Hid (Ekp B b w1 wr)) (fun i _ => L - (intOf i).toNat)
 case atStart => exact ⟨0, l, Nat.zero_le _, rfl, hl, hid rfl, HO1, hid (.of_below (Nat.le_trans HBS.out (Nat.le_of_lt hbx.out)) (Below.refl _ _))⟩
 case round =>
  obtain ⟨k, l', hk, rfl, hl', HV, HO, HE⟩ := hrel
  by_cases hlt : k < L
  ·obtain ⟨x, hxk⟩ : ∃ x, xs[k]? = some x := ⟨_, List.getElem?_eq_getElem (by have := HL.out; omega)⟩
   obtain ⟨g, off, rfl, -, hat⟩ := (HX.out.lt HE.out.below).at_ hxk
   obtain ⟨c0, c1, c2, m, a1, p1, hm, c3, hcs⟩ := hat.p
   have HDR := hid (z5j hxk)
   have hts := (zaf.1 (z55 HST.out hxk)).1
   have HTC := hid (zaf.1 (z55 HST.out hxk)).2
   obtain ⟨pk, t, nm, cs⟩ := x
   simp only [Pt.k, Pt.t, Pt.n, Pt.cs] at c0 c1 c2 c3 hcs hts HTC
   obtain ⟨nc, HNC⟩ : ∃ nc, Hid (nc = cs.length) := ⟨_, hid rfl⟩
   rw [<- HNC.out] at c3 hcs
   have HFX : Hid (f = evP lang gs (evPs lang gs m) h) := hid (by rw [HF.out, hm]; rfl)
   have HPM := hid (HII.out m (by omega))
   have hBr : B <= wr.heap.size := by have := HE.out.below.size; have := HBS.out; have := hbx.out; omega
   have hbr : b < wr.heap.size := by have := HE.out.below.size; have := hbl.out; have := hbx.out; omega
   have hb2 := z02 wr (.cells #[.int .i64 pk, .string t, .string nm, .slice a1 nc p1] 141)
   have R := z04 wr #[.int .i64 pk, .string t, .string nm, .slice a1 nc p1] 141
   have rx := HE.out.row HRX.out (by decide) (by have := hbl.out; omega)
   have K2 : Hid (PG w1 B b w.heap.size wr.heap.size m l' lang ab na capb gs pk t nm a1 nc p1 cs (wr.alloc (.cells #[.int .i64 pk, .string t, .string nm, .slice a1 nc p1] 141))) := hid
    ⟨HE.out.trans (.of_below hBr hb2), z9z HO.out hb2, (HEV.out.lt HE.out.below).below hb2, rx.below hb2, R, hcs.lt (hb2.mono hBr), (HAS.out.lt HE.out.below).lt (hb2.mono hBr), Nat.le_trans hBr hb2.size⟩
   have d0 := R.cell (i := 0) rfl
   have d1 := R.cell (i := 1) rfl
   have d2 := R.cell (i := 2) rfl
   have d3 := R.cell (i := 3) rfl
   have x0 := K2.out.rx.cell (i := 0) rfl
   have x1 := K2.out.rx.cell (i := 1) rfl
   have hne1 : w.heap.size ≠ b := by have := hbl.out; omega
   have hne2 : wr.heap.size ≠ b := by omega
   clear R hb2 rx hxk hat hm hcs
   by_cases h1 : pk = 1
   ·subst h1
    have HA := hid (za3 B b l' t (wr.alloc (.cells #[.int .i64 1, .string t, .string nm, .slice a1 nc p1] 141)) K2.out.o hl' (by omega) K2.out.hB)
    cases hr : addE l' (t).data.toList with
    | error q =>
     have HR1 : Hid (f (.mk _ t nm cs) l' = .error q) := hid (by rw [show f (.mk 1 t nm cs) l' = addE l' t.data.toList by rw [HFX.out]; exact evP_1, hr])
     rw [hr] at HA
     clear hr
     go_wp2_with fail
     refine HA.out.mono ?_
     rintro e w9 ⟨he, e9⟩
     obtain rfl : e = panE q := he
     have HE9 := hid (K2.out.e.trans e9)
     clear e9
     go_wp2
     exact ⟨rfl, z1j (by rw [HV.out, HDR.out, z1h HR1.out]) (HE1.out.trans (HE9.out))⟩
    | ok o' =>
     have HR1 : Hid (f (.mk _ t nm cs) l' = .ok o') := hid (by rw [show f (.mk 1 t nm cs) l' = addE l' t.data.toList by rw [HFX.out]; exact evP_1, hr])
     have HLO := hid (z4h hr)
     rw [hr] at HA
     clear hr
     go_wp2_with fail
     refine HA.out.mono ?_
     rintro e w9 ⟨⟨rfl, o9⟩, e9⟩
     have HE9 := hid (K2.out.e.trans e9)
     have HO9 := hid o9
     clear e9 o9
     have HVN : Hid (evL f xs l = evL f (xs.drop (k + 1)) o') := hid (by rw [HV.out, HDR.out, z39 HR1.out])
     have hlo := HLO.out
     go_wp2
     go_roundw
     case rel => exact ⟨k + 1, o', by omega, by go_num, hlo, HVN, HO9, HE9⟩
     case measure => simp [intOf]; omega
   by_cases h2 : pk = 2
   ·subst h2
    have HN := hid (z47 (wr.alloc (.cells #[.int .i64 2, .string t, .string nm, .slice a1 nc p1] 141)) lang ab capb gs nm (by rw [<- HNA.out]; exact K2.out.sa.all K2.out.hB))
    rw [<- HNA.out] at HN
    cases hf : findA gs nm with
    | none =>
     have HR1 : Hid (f (.mk 2 t nm cs) l' = .error 100) := hid (by rw [HFX.out]; exact evP_2n hf)
     rw [hf] at HN
     clear hf
     go_wp2_with fail
     refine HN.out.mono ?_
     rintro e w3 ⟨he, hb3⟩
     obtain rfl : e = panE 100 := he
     have HE9 := hid (K2.out.step hb3).e
     clear hb3
     go_wp2
     exact ⟨rfl, z1j (by rw [HV.out, HDR.out, z1h HR1.out]) (HE1.out.trans (HE9.out))⟩
    | some a =>
     have HV2 : Hid (f (.mk 2 t nm cs) l' = addE l' (valL a)) := hid (by rw [HFX.out]; exact evP_2s hf)
     obtain ⟨b1, b3, b4⟩ := HGB.out.found hf
     rw [hf] at HN
     clear hf
     obtain ⟨vs, HVS⟩ : ∃ vs : BA, Hid (vs = ⟨(valL a).toArray⟩) := ⟨_, hid rfl⟩
     have HVV : Hid (∀ W, EnvW W -> Calls Tryz.prog 160 #[.agg #[.string a.nm, .bool a.num, .int .i64 a.n, .string a.s]] W fun e w' => e = .returned (.string vs) /\ Below W.heap.size W w') := hid (fun W hw => by rw [HVS.out]; exact val_any a b1 b3 W hw)
     have hvz : vs.size <= 140737488351232 := by
      rw [HVS.out]; show (valL a).toArray.size <= _; rw [List.size_toArray]
      unfold valL
      split
      ·have := Lib.itoa_length_le a.n b1 b3; omega
      ·rw [z05]; exact b4
     have HV3 : Hid (f (.mk 2 t nm cs) l' = addE l' vs.data.toList) := hid (by rw [HV2.out, HVS.out])
     go_wp2_with fail
     refine HN.out.mono ?_
     rintro e w3 ⟨he, hb3⟩
     obtain rfl : e = .returned (.agg #[.string a.nm, .bool a.num, .int .i64 a.n, .string a.s]) := he
     have K3 := hid (K2.out.step hb3)
     clear hb3 HN d0 d1 d2 d3 x0 x1 c0 c1 c2 c3
     go_wp2_with fail
     refine (HVV.out _ K3.out.env.env).mono ?_
     rintro e w4 ⟨rfl, hb4⟩
     have K4 := hid (K3.out.step hb4)
     clear hb4
     have HA := hid (za3 B b l' vs w4 K4.out.o hl' (by omega) K4.out.hB)
     cases hr : addE l' (vs).data.toList with
     | error q =>
      have HR1 : Hid (f (.mk _ t nm cs) l' = .error q) := hid (by rw [HV3.out, hr])
      rw [hr] at HA
      clear hr
      go_wp2_with fail
      refine HA.out.mono ?_
      rintro e w9 ⟨he, e9⟩
      obtain rfl : e = panE q := he
      have HE9 := hid (K4.out.e.trans e9)
      clear e9
      go_wp2
      exact ⟨rfl, z1j (by rw [HV.out, HDR.out, z1h HR1.out]) (HE1.out.trans (HE9.out))⟩
     | ok o' =>
      have HR1 : Hid (f (.mk _ t nm cs) l' = .ok o') := hid (by rw [HV3.out, hr])
      have HLO := hid (z4h hr)
      rw [hr] at HA
      clear hr
      go_wp2_with fail
      refine HA.out.mono ?_
      rintro e w9 ⟨⟨rfl, o9⟩, e9⟩
      have HE9 := hid (K4.out.e.trans e9)
      have HO9 := hid o9
      clear e9 o9
      have HVN : Hid (evL f xs l = evL f (xs.drop (k + 1)) o') := hid (by rw [HV.out, HDR.out, z39 HR1.out])
      have hlo := HLO.out
      go_wp2
      go_roundw
      case rel => exact ⟨k + 1, o', by omega, by go_num, hlo, HVN, HO9, HE9⟩
      case measure => simp [intOf]; omega
   by_cases h3 : pk = 3
   ·subst h3
    obtain ⟨vs, HVS⟩ : ∃ vs : BA, Hid (vs = ⟨(Lib.itoa h).toArray⟩) := ⟨_, hid rfl⟩
    have HVV : Hid (Calls Tryz.prog 162 #[.int .i64 h] (wr.alloc (.cells #[.int .i64 3, .string t, .string nm, .slice a1 nc p1] 141)) fun e w' => e = .returned (.string vs) /\ Below ((wr.alloc (.cells #[.int .i64 3, .string t, .string nm, .slice a1 nc p1] 141))).heap.size (wr.alloc (.cells #[.int .i64 3, .string t, .string nm, .slice a1 nc p1] 141)) w') := hid (by rw [HVS.out]; exact z5v h hh1 hh2 _ K2.out.env.env)
    have hvz : vs.size <= 140737488351232 := by
     rw [HVS.out]; show (Lib.itoa h).toArray.size <= _; rw [List.size_toArray]
     have := Lib.itoa_length_le h hh1 hh2; omega
    have HV3 : Hid (f (.mk 3 t nm cs) l' = addE l' vs.data.toList) := hid (by rw [HFX.out, HVS.out]; exact evP_3)
    go_wp2_with fail
    refine HVV.out.mono ?_
    rintro e w4 ⟨rfl, hb4⟩
    have K4 := hid (K2.out.step hb4)
    clear hb4 d0 d1 d2 d3 x0 x1 c0 c1 c2 c3
    have HA := hid (za3 B b l' vs w4 K4.out.o hl' (by omega) K4.out.hB)
    cases hr : addE l' (vs).data.toList with
    | error q =>
     have HR1 : Hid (f (.mk _ t nm cs) l' = .error q) := hid (by rw [HV3.out, hr])
     rw [hr] at HA
     clear hr
     go_wp2_with fail
     refine HA.out.mono ?_
     rintro e w9 ⟨he, e9⟩
     obtain rfl : e = panE q := he
     have HE9 := hid (K4.out.e.trans e9)
     clear e9
     go_wp2
     exact ⟨rfl, z1j (by rw [HV.out, HDR.out, z1h HR1.out]) (HE1.out.trans (HE9.out))⟩
    | ok o' =>
     have HR1 : Hid (f (.mk _ t nm cs) l' = .ok o') := hid (by rw [HV3.out, hr])
     have HLO := hid (z4h hr)
     rw [hr] at HA
     clear hr
     go_wp2_with fail
     refine HA.out.mono ?_
     rintro e w9 ⟨⟨rfl, o9⟩, e9⟩
     have HE9 := hid (K4.out.e.trans e9)
     have HO9 := hid o9
     clear e9 o9
     have HVN : Hid (evL f xs l = evL f (xs.drop (k + 1)) o') := hid (by rw [HV.out, HDR.out, z39 HR1.out])
     have hlo := HLO.out
     go_wp2
     go_roundw
     case rel => exact ⟨k + 1, o', by omega, by go_num, hlo, HVN, HO9, HE9⟩
     case measure => simp [intOf]; omega
   by_cases h4 : pk = 4
   ·subst h4
    have HN := hid (numE_any (wr.alloc (.cells #[.int .i64 4, .string t, .string nm, .slice a1 nc p1] 141)) lang ab capb gs nm (by rw [<- HNA.out]; exact K2.out.sa.all K2.out.hB))
    rw [<- HNA.out] at HN
    cases hf : findA gs nm with
    | none =>
     have HR1 : Hid (f (.mk 4 t nm cs) l' = .error 100) := hid (by rw [HFX.out]; exact evP_4n hf)
     rw [hf] at HN
     clear hf
     go_wp2_with fail
     refine HN.out.mono ?_
     rintro e w3 ⟨he, hb3⟩
     obtain rfl : e = panE 100 := he
     have HE9 := hid (K2.out.step hb3).e
     clear hb3
     go_wp2
     exact ⟨rfl, z1j (by rw [HV.out, HDR.out, z1h HR1.out]) (HE1.out.trans (HE9.out))⟩
    | some a =>
     obtain ⟨b1, b3, -⟩ := HGB.out.found hf
     cases hn : a.num with
     | false =>
      have HR1 : Hid (f (.mk 4 t nm cs) l' = .error 101) := hid (by rw [HFX.out]; exact evP_4t hf hn)
      rw [hf] at HN
      have HN2 : Hid (Calls Tryz.prog 163 #[.agg #[.string lang, .slice ab na capb], .string nm] (wr.alloc (.cells #[.int .i64 4, .string t, .string nm, .slice a1 nc p1] 141)) fun e w' => e = panE 101 /\ Below ((wr.alloc (.cells #[.int .i64 4, .string t, .string nm, .slice a1 nc p1] 141))).heap.size (wr.alloc (.cells #[.int .i64 4, .string t, .string nm, .slice a1 nc p1] 141)) w') := hid (HN.out.mono fun e w' ⟨he, hb⟩ => ⟨by unfold NumE at he; simpa [hn] using he, hb⟩)
      clear hf hn HN
      go_wp2_with fail
      refine HN2.out.mono ?_
      rintro e w3 ⟨rfl, hb3⟩
      have HE9 := hid (K2.out.step hb3).e
      clear hb3
      go_wp2
      exact ⟨rfl, z1j (by rw [HV.out, HDR.out, z1h HR1.out]) (HE1.out.trans (HE9.out))⟩
     | true =>
      rw [hf] at HN
      have HN2 : Hid (Calls Tryz.prog 163 #[.agg #[.string lang, .slice ab na capb], .string nm] (wr.alloc (.cells #[.int .i64 4, .string t, .string nm, .slice a1 nc p1] 141)) fun e w' => e = .returned (.int .i64 a.n) /\ Below ((wr.alloc (.cells #[.int .i64 4, .string t, .string nm, .slice a1 nc p1] 141))).heap.size (wr.alloc (.cells #[.int .i64 4, .string t, .string nm, .slice a1 nc p1] 141)) w') := hid (HN.out.mono fun e w' ⟨he, hb⟩ => ⟨by unfold NumE at he; simpa [hn] using he, hb⟩)
      have HV2 : Hid (∀ c : BA, c = ⟨(61 :: Lib.itoa a.n).toArray⟩ -> f (.mk 4 t nm cs) l' = evPs lang gs m a.n (choF cs [c, Pu.catF lang a.n, z19]) l') := hid (fun c hc => by rw [HFX.out, hc]; exact evP_4 hf hn)
      clear hf hn HN
      obtain ⟨an, HAN⟩ : ∃ an, Hid (an = a.n) := ⟨_, hid rfl⟩
      rw [<- HAN.out] at HN2 HV2 b1 b3
      go_wp2_with fail
      refine HN2.out.mono ?_
      rintro e w3 ⟨rfl, hb3⟩
      have K3 := hid (K2.out.step hb3)
      clear hb3 HN2 d0 d1 d2 d3 x0 x1 c0 c1 c2 c3
      obtain ⟨dg, HDG⟩ : ∃ dg : BA, Hid (dg = ⟨(Lib.itoa an).toArray⟩) := ⟨_, hid rfl⟩
      obtain ⟨ct, HCT⟩ : ∃ ct : BA, Hid (ct = Pu.catF lang an) := ⟨_, hid rfl⟩
      have hdz : dg.size <= 21 := by
       rw [HDG.out]; show (Lib.itoa an).toArray.size <= _; rw [List.size_toArray]; exact Lib.itoa_length_le an b1 b3
      have hds : ¬ 9223372036854775807 < 1 + dg.size := by omega
      have HKE : Hid ((⟨#[61]⟩ : BA) ++ dg = ⟨(61 :: Lib.itoa an).toArray⟩) := hid (by
       rw [HDG.out]; apply ByteArray.ext; apply Array.toList_inj.1; simp)
      obtain ⟨ck, HCK⟩ : ∃ ck, Hid (ck = choF cs [(⟨#[61]⟩ : BA) ++ dg, ct, ⟨#[111, 116, 104, 101, 114]⟩]) := ⟨_, hid rfl⟩
      have HV3 : Hid (f (.mk 4 t nm cs) l' = evPs lang gs m an ck l') := hid (by rw [HV2.out _ HKE.out, HCK.out, HCT.out])
      have HCS : Hid (stPs 140737488351232 ck) := hid (by rw [HCK.out]; exact zad HTC.out _)
      obtain ⟨nk, HNK⟩ : ∃ nk, Hid (nk = ck.length) := ⟨_, hid rfl⟩
      have HC1 : Hid (∀ W, Hid (PG w1 B b w.heap.size wr.heap.size m l' lang ab na capb gs 4 t nm a1 nc p1 cs W) -> Calls Tryz.prog 162 #[.int .i64 an] W fun e w' => e = .returned (.string dg) /\ (w'.cell? ⟨w.heap.size, 0, none⟩ = some (.string lang) /\ w'.cell? ⟨w.heap.size, 1, none⟩ = some (.slice ab na capb) /\ w'.cell? ⟨wr.heap.size, 2, none⟩ = some (.string nm) /\ w'.cell? ⟨wr.heap.size, 3, none⟩ = some (.slice a1 nc p1)) /\ Hid (PG w1 B b w.heap.size wr.heap.size m l' lang ab na capb gs 4 t nm a1 nc p1 cs w')) :=
       hid (fun W k => (z5v an b1 b3 W k.out.env.env).mono fun e w' ⟨he, hb⟩ => ⟨by rw [he, HDG.out], (k.out.step hb).cells, hid (k.out.step hb)⟩)
      have HC2 : Hid (∀ W, Hid (PG w1 B b w.heap.size wr.heap.size m l' lang ab na capb gs 4 t nm a1 nc p1 cs W) -> Calls Tryz.prog 165 #[.string lang, .int .i64 an] W fun e w' => e = .returned (.string ct) /\ (w'.cell? ⟨w.heap.size, 0, none⟩ = some (.string lang) /\ w'.cell? ⟨w.heap.size, 1, none⟩ = some (.slice ab na capb) /\ w'.cell? ⟨wr.heap.size, 2, none⟩ = some (.string nm) /\ w'.cell? ⟨wr.heap.size, 3, none⟩ = some (.slice a1 nc p1)) /\ Hid (PG w1 B b w.heap.size wr.heap.size m l' lang ab na capb gs 4 t nm a1 nc p1 cs w')) :=
       hid (fun W k => (Pu.zby W lang an b1 b3 k.out.env.env.tab).mono fun e w' ⟨he, hb⟩ => ⟨by rw [he, HCT.out], (k.out.step hb).cells, hid (k.out.step hb)⟩)
      have HC3 : Hid (∀ W, Hid (PG w1 B b w.heap.size wr.heap.size m l' lang ab na capb gs 4 t nm a1 nc p1 cs W) -> Calls Tryz.prog 164 #[.slice a1 nc p1, .slice (some ⟨W.heap.size, 0, none⟩) 3 3] (W.alloc (.cells #[.string ((⟨#[61]⟩ : BA) ++ dg), .string ct, .string ⟨#[111, 116, 104, 101, 114]⟩] 9)) fun e w' => ∃ a2 p2, e = .returned (.slice a2 nk p2) /\ (w'.cell? ⟨w.heap.size, 0, none⟩ = some (.string lang) /\ w'.cell? ⟨w.heap.size, 1, none⟩ = some (.slice ab na capb) /\ w'.cell? ⟨wr.heap.size, 2, none⟩ = some (.string nm) /\ w'.cell? ⟨wr.heap.size, 3, none⟩ = some (.slice a1 nc p1)) /\ Hid (SlP w' (Lt B) m (.slice a2 nk p2) ck) /\ Hid (PG w1 B b w.heap.size wr.heap.size m l' lang ab na capb gs 4 t nm a1 nc p1 cs w')) :=
       hid (fun W k => by
        have k2 := k.out.step (z02 W (.cells #[.string ((⟨#[61]⟩ : BA) ++ dg), .string ct, .string ⟨#[111, 116, 104, 101, 114]⟩] 9))
        have hc := zf2 m (Lt B) _ a1 p1 cs (some ⟨W.heap.size, 0, none⟩) 3 [(⟨#[61]⟩ : BA) ++ dg, ct, ⟨#[111, 116, 104, 101, 114]⟩] (fun b hb => Nat.lt_of_lt_of_le hb k2.hB) (by rw [<- HNC.out]; exact k2.cs) (strs_new W _ _ _)
        rw [<- HCK.out, <- HNK.out, <- HNC.out] at hc
        exact hc.mono fun e w' ⟨a2, p2, he, hs, hb⟩ => ⟨a2, p2, he, (k2.step hb).cells, hid hs, hid (k2.step hb)⟩)
      have HRK := hid (fun (W : World) a2 p2 (k : PG w1 B b w.heap.size wr.heap.size m l' lang ab na capb gs 4 t nm a1 nc p1 cs W) (hs : SlP W (Lt B) m (.slice a2 ck.length p2) ck) => HPM.out B b l' lang ab capb gs an ck a2 p2 W b1 b3 hs (by rw [<- HNA.out]; exact k.sa) HGB.out HCS.out k.env k.o hl' k.hB)
      rw [<- HNK.out, <- HNA.out] at HRK
      cases hr : evPs lang gs m an ck l' with
      | error q =>
       have HR1 : Hid (f (.mk 4 t nm cs) l' = .error q) := hid (by rw [HV3.out, hr])
       rw [hr] at HRK
       clear hr
       have HC4 : Hid (∀ W a2 p2, Hid (PG w1 B b w.heap.size wr.heap.size m l' lang ab na capb gs 4 t nm a1 nc p1 cs W) -> Hid (SlP W (Lt B) m (.slice a2 nk p2) ck) -> Calls Tryz.prog 122 #[.agg #[.string lang, .slice ab na capb], .slice a2 nk p2, .int .i64 an, addFn b] W fun e w' => e = panE q /\ (w'.cell? ⟨w.heap.size, 0, none⟩ = some (.string lang) /\ w'.cell? ⟨w.heap.size, 1, none⟩ = some (.slice ab na capb) /\ w'.cell? ⟨wr.heap.size, 2, none⟩ = some (.string nm) /\ w'.cell? ⟨wr.heap.size, 3, none⟩ = some (.slice a1 nc p1)) /\ Hid (Ekp B b w1 w')) :=
        hid (fun W a2 p2 k hs => (HRK.out W a2 p2 k.out hs.out).mono fun e w' ⟨he, e3⟩ => ⟨he, k.out.keep e3 hne1 hne2, hid (k.out.e.trans e3)⟩)
       have K0 := hid (K3.out.step (Below.refl _ _).drew)
       have d0 := K0.out.cells
       go_wp2
       refine z1l ?_
       refine wp_region_held_drew (S := fun W => (W.cell? ⟨w.heap.size, 0, none⟩ = some (.string lang) /\ W.cell? ⟨w.heap.size, 1, none⟩ = some (.slice ab na capb) /\ W.cell? ⟨wr.heap.size, 2, none⟩ = some (.string nm) /\ W.cell? ⟨wr.heap.size, 3, none⟩ = some (.slice a1 nc p1))) (by kernel_rfl) (by first | exact d0 | (refine ⟨?_, ?_, ?_, ?_⟩ <;> go_keep)) (fun hHeld => ?_)
       refine wpAnyH_take (i := 0) (oi := { dst := some 46, op := Go.Op.load 115 (Go.Operand.tmp 4), type := 115, pos := "evaluate.go:54", after := #[], guard := none }) (v := ?_) rfl (by kernel_rfl) (by kernel_rfl) (by kernel_rfl) (fun _ _ _ h => h.put) (Or.inl ⟨by rfl, ?_⟩) (by assumption) ?_
       rotate_left
       ·(intro w hSw; (try dsimp only at hSw); go_simp) <;> with_reducible rfl
       simp only [Act.put, List.setIfInBounds_toArray, List.set_cons_zero, List.set_cons_succ]
       refine wpAnyH_take (i := 1) (oi := { dst := some 47, op := Go.Op.fieldAddr 141 (Go.Operand.tmp 9) 3, type := 0, pos := "evaluate.go:54", after := #[], guard := none }) (v := ?_) rfl (by kernel_rfl) (by kernel_rfl) (by kernel_rfl) (fun _ _ _ h => h.put) (Or.inl ⟨by rfl, ?_⟩) (by assumption) ?_
       rotate_left
       ·(intro w hSw; (try dsimp only at hSw); go_simp) <;> with_reducible rfl
       simp only [Act.put, List.setIfInBounds_toArray, List.set_cons_zero, List.set_cons_succ]
       refine wpAnyH_take (i := 2) (oi := { dst := some 48, op := Go.Op.load 139 (Go.Operand.tmp 47), type := 139, pos := "evaluate.go:54", after := #[{ on := 1, ground := Go.Ground.data }], guard := none }) (v := ?_) rfl (by kernel_rfl) (by kernel_rfl) (by kernel_rfl) (fun _ _ _ h => h.put) (Or.inl ⟨by rfl, ?_⟩) (by assumption) ?_
       rotate_left
       ·(intro w hSw; (try dsimp only at hSw); go_simp) <;> with_reducible rfl
       simp only [Act.put, List.setIfInBounds_toArray, List.set_cons_zero, List.set_cons_succ]
       refine wpAnyH_take (i := 3) (oi := { dst := some 49, op := Go.Op.move (Go.Operand.tmp 10), type := 2, pos := "evaluate.go:54", after := #[], guard := none }) (v := ?_) rfl (by kernel_rfl) (by kernel_rfl) (by kernel_rfl) (fun _ _ _ h => h.put) (Or.inl ⟨by rfl, ?_⟩) (by assumption) ?_
       rotate_left
       ·(intro w hSw; (try dsimp only at hSw); go_simp) <;> with_reducible rfl
       simp only [Act.put, List.setIfInBounds_toArray, List.set_cons_zero, List.set_cons_succ]
       refine wpAnyH_take (i := 6) (oi := { dst := some 52, op := Go.Op.fieldAddr 115 (Go.Operand.tmp 4) 0, type := 0, pos := "evaluate.go:54", after := #[], guard := none }) (v := ?_) rfl (by kernel_rfl) (by kernel_rfl) (by kernel_rfl) (fun _ _ _ h => h.put) (Or.inl ⟨by rfl, ?_⟩) (by assumption) ?_
       rotate_left
       ·(intro w hSw; (try dsimp only at hSw); go_simp) <;> with_reducible rfl
       simp only [Act.put, List.setIfInBounds_toArray, List.set_cons_zero, List.set_cons_succ]
       refine wpAnyH_take (i := 7) (oi := { dst := some 53, op := Go.Op.load 9 (Go.Operand.tmp 52), type := 9, pos := "evaluate.go:54", after := #[{ on := 6, ground := Go.Ground.data }], guard := none }) (v := ?_) rfl (by kernel_rfl) (by kernel_rfl) (by kernel_rfl) (fun _ _ _ h => h.put) (Or.inl ⟨by rfl, ?_⟩) (by assumption) ?_
       rotate_left
       ·(intro w hSw; (try dsimp only at hSw); go_simp) <;> with_reducible rfl
       simp only [Act.put, List.setIfInBounds_toArray, List.set_cons_zero, List.set_cons_succ]
       refine wpAnyH_take (i := 8) (oi := { dst := some 54, op := Go.Op.move (Go.Operand.tmp 10), type := 2, pos := "evaluate.go:54", after := #[], guard := none }) (v := ?_) rfl (by kernel_rfl) (by kernel_rfl) (by kernel_rfl) (fun _ _ _ h => h.put) (Or.inl ⟨by rfl, ?_⟩) (by assumption) ?_
       rotate_left
       ·(intro w hSw; (try dsimp only at hSw); go_simp) <;> with_reducible rfl
       simp only [Act.put, List.setIfInBounds_toArray, List.set_cons_zero, List.set_cons_succ]
       refine wpAnyH_take (i := 12) (oi := { dst := some 58, op := Go.Op.move (Go.Operand.tmp 10), type := 2, pos := "evaluate.go:54", after := #[], guard := none }) (v := ?_) rfl (by kernel_rfl) (by kernel_rfl) (by kernel_rfl) (fun _ _ _ h => h.put) (Or.inl ⟨by rfl, ?_⟩) (by assumption) ?_
       rotate_left
       ·(intro w hSw; (try dsimp only at hSw); go_simp) <;> with_reducible rfl
       simp only [Act.put, List.setIfInBounds_toArray, List.set_cons_zero, List.set_cons_succ]
       refine wpAnyH_take (i := 13) (oi := { dst := some 59, op := Go.Op.move (Go.Operand.tmp 3), type := 89, pos := "evaluate.go:54", after := #[], guard := none }) (v := ?_) rfl (by kernel_rfl) (by kernel_rfl) (by kernel_rfl) (fun _ _ _ h => h.put) (Or.inl ⟨by rfl, ?_⟩) (by assumption) ?_
       rotate_left
       ·(intro w hSw; (try dsimp only at hSw); go_simp) <;> with_reducible rfl
       simp only [Act.put, List.setIfInBounds_toArray, List.set_cons_zero, List.set_cons_succ]
       refine wpAnyH_ready (rs := [4]) (by kernel_rfl) (by simp) ?_
       refine AllReadyH.cons (o := { dst := some 50, op := Go.Op.call { callee := Go.Callee.value (Go.Operand.func 162), args := #[Go.Operand.tmp 49], argTypes := #[2] }, type := 9, pos := "evaluate.go:54", after := #[{ on := 3, ground := Go.Ground.data }], guard := none }) rfl (fun K hK => ?_) AllReadyH.nil
       go_simp
       (go_at_call 162; refine (HC1.out _ ?_).mono ?_; assumption; rintro e U1 ⟨rfl, hq1, hk1⟩)
       go_wp2_with fail
       refine hK.out _ _ ?_ (fun hz1 => ?_)
       ·(try dsimp only) <;> first | assumption | go_keep
       clear hK K hHeld
       try simp only [Act.put, List.setIfInBounds_toArray, List.set_cons_zero, List.set_cons_succ]
       refine wpAnyH_take (i := 5) (oi := { dst := some 51, op := Go.Op.binOp Go.BinOp.add 9 (Go.Operand.const (Go.Value.string { data := #[61] })) (Go.Operand.tmp 50) 9, type := 9, pos := "evaluate.go:54", after := #[{ on := 4, ground := Go.Ground.data }], guard := none }) (v := ?_) rfl (by kernel_rfl) (by kernel_rfl) (by kernel_rfl) (fun _ _ _ h => h.put) (Or.inl ⟨by rfl, ?_⟩) (by assumption) ?_
       rotate_left
       ·(intro w hSw; (try dsimp only at hSw); go_simp) <;> with_reducible rfl
       simp only [Act.put, List.setIfInBounds_toArray, List.set_cons_zero, List.set_cons_succ]
       refine wpAnyH_ready (rs := [9]) (by kernel_rfl) (by simp) ?_
       refine AllReadyH.cons (o := { dst := some 55, op := Go.Op.call { callee := Go.Callee.value (Go.Operand.func 165), args := #[Go.Operand.tmp 53, Go.Operand.tmp 54], argTypes := #[9, 2] }, type := 9, pos := "evaluate.go:54", after := #[{ on := 7, ground := Go.Ground.data }, { on := 8, ground := Go.Ground.data }, { on := 4, ground := Go.Ground.chain }], guard := none }) rfl (fun K hK => ?_) AllReadyH.nil
       go_simp
       (go_at_call 165; refine (HC2.out _ ?_).mono ?_; assumption; rintro e U2 ⟨rfl, hq2, hk2⟩)
       go_wp2_with fail
       refine hK.out _ _ ?_ (fun hz2 => ?_)
       ·(try dsimp only) <;> first | assumption | go_keep
       clear hK K hz1
       try simp only [Act.put, List.setIfInBounds_toArray, List.set_cons_zero, List.set_cons_succ]
       refine wpAnyH_ready (rs := [10]) (by kernel_rfl) (by simp) ?_
       refine AllReadyH.cons (o := { dst := some 56, op := Go.Op.buildSlice 67 3 #[(0, Go.Operand.tmp 51), (1, Go.Operand.tmp 55), (2, Go.Operand.const (Go.Value.string { data := #[111, 116, 104, 101, 114] }))], type := 67, pos := "evaluate.go:54", after := #[{ on := 5, ground := Go.Ground.data }, { on := 9, ground := Go.Ground.data }], guard := none }) rfl (fun K hK => ?_) AllReadyH.nil
       go_simp
       refine hK.out _ _ ?_ (fun hz3 => ?_)
       ·(try dsimp only) <;> first | assumption | go_keep
       clear hK K hz2
       try simp only [Act.put, List.setIfInBounds_toArray, List.set_cons_zero, List.set_cons_succ]
       refine wpAnyH_ready (rs := [11]) (by kernel_rfl) (by simp) ?_
       refine AllReadyH.cons (o := { dst := some 57, op := Go.Op.call { callee := Go.Callee.value (Go.Operand.func 164), args := #[Go.Operand.tmp 48, Go.Operand.tmp 56], argTypes := #[139, 67] }, type := 70, pos := "evaluate.go:54", after := #[{ on := 2, ground := Go.Ground.data }, { on := 10, ground := Go.Ground.data }, { on := 9, ground := Go.Ground.chain }], guard := none }) rfl (fun K hK => ?_) AllReadyH.nil
       go_simp
       (go_at_call 164; refine (HC3.out _ ?_).mono ?_; assumption; rintro e U3 ⟨a2, p2, rfl, hq3, hi3, hk3⟩)
       go_wp2_with fail
       refine hK.out _ _ ?_ (fun hz4 => ?_)
       ·(try dsimp only) <;> first | assumption | go_keep
       clear hK K hz3
       try simp only [Act.put, List.setIfInBounds_toArray, List.set_cons_zero, List.set_cons_succ]
       refine wpAnyH_ready (rs := [14]) (by kernel_rfl) (by simp) ?_
       refine AllReadyH.cons (o := { dst := some 60, op := Go.Op.call { callee := Go.Callee.value (Go.Operand.func 122), args := #[Go.Operand.tmp 46, Go.Operand.tmp 57, Go.Operand.tmp 58, Go.Operand.tmp 59], argTypes := #[115, 70, 2, 89] }, type := 0, pos := "evaluate.go:54", after := #[{ on := 0, ground := Go.Ground.data }, { on := 11, ground := Go.Ground.data }, { on := 12, ground := Go.Ground.data }, { on := 13, ground := Go.Ground.data }, { on := 11, ground := Go.Ground.chain }], guard := none }) rfl (fun K hK => ?_) AllReadyH.nil
       go_simp
       (go_at_call 122; refine (HC4.out _ _ _ ?_ ?_).mono ?_; assumption; assumption; rintro e U4 ⟨rfl, hq4, hk4⟩)
       intro a9 ha9
       exact ⟨ha9, z1j (by rw [HV.out, HDR.out, z1h HR1.out]) (HE1.out.trans hk4.out)⟩
      | ok o' =>
       have HR1 : Hid (f (.mk 4 t nm cs) l' = .ok o') := hid (by rw [HV3.out, hr])
       have HLO := hid (z3o hl' hr)
       rw [hr] at HRK
       clear hr
       have HC4 : Hid (∀ W a2 p2, Hid (PG w1 B b w.heap.size wr.heap.size m l' lang ab na capb gs 4 t nm a1 nc p1 cs W) -> Hid (SlP W (Lt B) m (.slice a2 nk p2) ck) -> Calls Tryz.prog 122 #[.agg #[.string lang, .slice ab na capb], .slice a2 nk p2, .int .i64 an, addFn b] W fun e w' => e = .returned (.tuple #[]) /\ (w'.cell? ⟨w.heap.size, 0, none⟩ = some (.string lang) /\ w'.cell? ⟨w.heap.size, 1, none⟩ = some (.slice ab na capb) /\ w'.cell? ⟨wr.heap.size, 2, none⟩ = some (.string nm) /\ w'.cell? ⟨wr.heap.size, 3, none⟩ = some (.slice a1 nc p1)) /\ Hid (OutAt B b o' w' /\ Ekp B b w1 w')) :=
        hid (fun W a2 p2 k hs => (HRK.out W a2 p2 k.out hs.out).mono fun e w' ⟨⟨he, ho⟩, e3⟩ => ⟨he, k.out.keep e3 hne1 hne2, hid ⟨ho, k.out.e.trans e3⟩⟩)
       have K0 := hid (K3.out.step (Below.refl _ _).drew)
       have d0 := K0.out.cells
       go_wp2
       go_region_held3 (fun W => (W.cell? ⟨w.heap.size, 0, none⟩ = some (.string lang) /\ W.cell? ⟨w.heap.size, 1, none⟩ = some (.slice ab na capb) /\ W.cell? ⟨wr.heap.size, 2, none⟩ = some (.string nm) /\ W.cell? ⟨wr.heap.size, 3, none⟩ = some (.slice a1 nc p1))) (first | go_keep | assumption)
        (first
         | (go_at_call 162; refine (HC1.out _ ?_).mono ?_; assumption; rintro e U1 ⟨rfl, hq1, hk1⟩)
         | (go_at_call 165; refine (HC2.out _ ?_).mono ?_; assumption; rintro e U2 ⟨rfl, hq2, hk2⟩)
         | (go_at_call 164; refine (HC3.out _ ?_).mono ?_; assumption; rintro e U3 ⟨a2, p2, rfl, hq3, hi3, hk3⟩)
         | (go_at_call 122; refine (HC4.out _ _ _ ?_ ?_).mono ?_; assumption; assumption; rintro e U4 ⟨rfl, hq4, hk4⟩)
         | fail)
       all_goals have hlo := HLO.out
       all_goals have HVN : Hid (evL f xs l = evL f (xs.drop (k + 1)) o') := hid (by rw [HV.out, HDR.out, z39 HR1.out])
       all_goals go_wp2
       all_goals go_roundw
       all_goals first | (exact ⟨k + 1, o', by omega, by go_num, hlo, HVN, hid hk4.out.1, hid hk4.out.2⟩) | (simp [intOf]; omega)
   by_cases h5 : pk = 5
   ·subst h5
    have HN := hid (fun (W : World) (k : PG w1 B b w.heap.size wr.heap.size m l' lang ab na capb gs 5 t nm a1 nc p1 cs W) => zg4 W lang ab capb gs nm (by rw [<- HNA.out]; exact k.sa.all k.hB))
    rw [<- HNA.out] at HN
    cases hf : findA gs nm with
    | none =>
     have HR1 : Hid (f (.mk 5 t nm cs) l' = .error 100) := hid (by rw [HFX.out]; exact evP_5n hf)
     rw [hf] at HN
     clear hf
     have HC1 : Hid (∀ W, Hid (PG w1 B b w.heap.size wr.heap.size m l' lang ab na capb gs 5 t nm a1 nc p1 cs W) -> Calls Tryz.prog 166 #[.agg #[.string lang, .slice ab na capb], .string nm] W fun e w' => e = panE 100 /\ (w'.cell? ⟨w.heap.size, 0, none⟩ = some (.string lang) /\ w'.cell? ⟨w.heap.size, 1, none⟩ = some (.slice ab na capb) /\ w'.cell? ⟨wr.heap.size, 2, none⟩ = some (.string nm) /\ w'.cell? ⟨wr.heap.size, 3, none⟩ = some (.slice a1 nc p1)) /\ Hid (Ekp B b w1 w')) :=
      hid (fun W k => (HN.out W k.out).mono fun e w' ⟨he, hb⟩ => ⟨he, (k.out.step hb).cells, hid (k.out.step hb).e⟩)
     clear HN
     go_wp2
     generalize (wr.alloc (.cells #[.int .i64 5, .string t, .string nm, .slice a1 nc p1] 141)) = w2 at *
     have K0 := hid (K2.out.step (Below.refl _ _).drew)
     clear d0 d1 d2 d3 x0 x1 c0 c1 c2 c3
     have d0 := K0.out.cells
     refine z1l ?_
     refine wp_region_held_drew (S := fun W => (W.cell? ⟨w.heap.size, 0, none⟩ = some (.string lang) /\ W.cell? ⟨w.heap.size, 1, none⟩ = some (.slice ab na capb) /\ W.cell? ⟨wr.heap.size, 2, none⟩ = some (.string nm) /\ W.cell? ⟨wr.heap.size, 3, none⟩ = some (.slice a1 nc p1))) (by kernel_rfl) (by first | exact d0 | (refine ⟨?_, ?_, ?_, ?_⟩ <;> go_keep)) (fun hHeld => ?_)
     refine wpAnyH_take (i := 0) (oi := { dst := some 63, op := Go.Op.load 115 (Go.Operand.tmp 4), type := 115, pos := "evaluate.go:56", after := #[], guard := none }) (v := ?_) rfl (by kernel_rfl) (by kernel_rfl) (by kernel_rfl) (fun _ _ _ h => h.put) (Or.inl ⟨by rfl, ?_⟩) (by assumption) ?_
     rotate_left
     ·(intro w hSw; (try dsimp only at hSw); go_simp) <;> with_reducible rfl
     simp only [Act.put, List.setIfInBounds_toArray, List.set_cons_zero, List.set_cons_succ]
     refine wpAnyH_take (i := 1) (oi := { dst := some 64, op := Go.Op.fieldAddr 141 (Go.Operand.tmp 9) 3, type := 0, pos := "evaluate.go:56", after := #[], guard := none }) (v := ?_) rfl (by kernel_rfl) (by kernel_rfl) (by kernel_rfl) (fun _ _ _ h => h.put) (Or.inl ⟨by rfl, ?_⟩) (by assumption) ?_
     rotate_left
     ·(intro w hSw; (try dsimp only at hSw); go_simp) <;> with_reducible rfl
     simp only [Act.put, List.setIfInBounds_toArray, List.set_cons_zero, List.set_cons_succ]
     refine wpAnyH_take (i := 2) (oi := { dst := some 65, op := Go.Op.load 139 (Go.Operand.tmp 64), type := 139, pos := "evaluate.go:56", after := #[{ on := 1, ground := Go.Ground.data }], guard := none }) (v := ?_) rfl (by kernel_rfl) (by kernel_rfl) (by kernel_rfl) (fun _ _ _ h => h.put) (Or.inl ⟨by rfl, ?_⟩) (by assumption) ?_
     rotate_left
     ·(intro w hSw; (try dsimp only at hSw); go_simp) <;> with_reducible rfl
     simp only [Act.put, List.setIfInBounds_toArray, List.set_cons_zero, List.set_cons_succ]
     refine wpAnyH_take (i := 3) (oi := { dst := some 66, op := Go.Op.load 115 (Go.Operand.tmp 4), type := 115, pos := "evaluate.go:56", after := #[], guard := none }) (v := ?_) rfl (by kernel_rfl) (by kernel_rfl) (by kernel_rfl) (fun _ _ _ h => h.put) (Or.inl ⟨by rfl, ?_⟩) (by assumption) ?_
     rotate_left
     ·(intro w hSw; (try dsimp only at hSw); go_simp) <;> with_reducible rfl
     simp only [Act.put, List.setIfInBounds_toArray, List.set_cons_zero, List.set_cons_succ]
     refine wpAnyH_take (i := 4) (oi := { dst := some 67, op := Go.Op.fieldAddr 141 (Go.Operand.tmp 9) 2, type := 0, pos := "evaluate.go:56", after := #[], guard := none }) (v := ?_) rfl (by kernel_rfl) (by kernel_rfl) (by kernel_rfl) (fun _ _ _ h => h.put) (Or.inl ⟨by rfl, ?_⟩) (by assumption) ?_
     rotate_left
     ·(intro w hSw; (try dsimp only at hSw); go_simp) <;> with_reducible rfl
     simp only [Act.put, List.setIfInBounds_toArray, List.set_cons_zero, List.set_cons_succ]
     refine wpAnyH_take (i := 5) (oi := { dst := some 68, op := Go.Op.load 9 (Go.Operand.tmp 67), type := 9, pos := "evaluate.go:56", after := #[{ on := 4, ground := Go.Ground.data }], guard := none }) (v := ?_) rfl (by kernel_rfl) (by kernel_rfl) (by kernel_rfl) (fun _ _ _ h => h.put) (Or.inl ⟨by rfl, ?_⟩) (by assumption) ?_
     rotate_left
     ·(intro w hSw; (try dsimp only at hSw); go_simp) <;> with_reducible rfl
     simp only [Act.put, List.setIfInBounds_toArray, List.set_cons_zero, List.set_cons_succ]
     refine wpAnyH_take (i := 9) (oi := { dst := some 72, op := Go.Op.move (Go.Operand.tmp 2), type := 2, pos := "evaluate.go:56", after := #[], guard := none }) (v := ?_) rfl (by kernel_rfl) (by kernel_rfl) (by kernel_rfl) (fun _ _ _ h => h.put) (Or.inl ⟨by rfl, ?_⟩) (by assumption) ?_
     rotate_left
     ·(intro w hSw; (try dsimp only at hSw); go_simp) <;> with_reducible rfl
     simp only [Act.put, List.setIfInBounds_toArray, List.set_cons_zero, List.set_cons_succ]
     refine wpAnyH_take (i := 10) (oi := { dst := some 73, op := Go.Op.move (Go.Operand.tmp 3), type := 89, pos := "evaluate.go:56", after := #[], guard := none }) (v := ?_) rfl (by kernel_rfl) (by kernel_rfl) (by kernel_rfl) (fun _ _ _ h => h.put) (Or.inl ⟨by rfl, ?_⟩) (by assumption) ?_
     rotate_left
     ·(intro w hSw; (try dsimp only at hSw); go_simp) <;> with_reducible rfl
     simp only [Act.put, List.setIfInBounds_toArray, List.set_cons_zero, List.set_cons_succ]
     refine wpAnyH_ready (rs := [6]) (by kernel_rfl) (by simp) ?_
     refine AllReadyH.cons (o := { dst := some 69, op := Go.Op.call { callee := Go.Callee.value (Go.Operand.func 166), args := #[Go.Operand.tmp 66, Go.Operand.tmp 68], argTypes := #[115, 9] }, type := 9, pos := "evaluate.go:56", after := #[{ on := 3, ground := Go.Ground.data }, { on := 5, ground := Go.Ground.data }], guard := none }) rfl (fun K hK => ?_) AllReadyH.nil
     go_simp
     (go_at_call 166; refine (HC1.out _ ?_).mono ?_; assumption; rintro e U4 ⟨rfl, hq4, hk4⟩)
     intro a9 ha9
     exact ⟨ha9, z1j (by rw [HV.out, HDR.out, z1h HR1.out]) (HE1.out.trans hk4.out)⟩
    | some a =>
     cases hn : a.num with
     | true =>
      have HR1 : Hid (f (.mk 5 t nm cs) l' = .error 101) := hid (by rw [HFX.out]; exact evP_5t hf hn)
      rw [hf] at HN
      clear hf
      have HC1 : Hid (∀ W, Hid (PG w1 B b w.heap.size wr.heap.size m l' lang ab na capb gs 5 t nm a1 nc p1 cs W) -> Calls Tryz.prog 166 #[.agg #[.string lang, .slice ab na capb], .string nm] W fun e w' => e = panE 101 /\ (w'.cell? ⟨w.heap.size, 0, none⟩ = some (.string lang) /\ w'.cell? ⟨w.heap.size, 1, none⟩ = some (.slice ab na capb) /\ w'.cell? ⟨wr.heap.size, 2, none⟩ = some (.string nm) /\ w'.cell? ⟨wr.heap.size, 3, none⟩ = some (.slice a1 nc p1)) /\ Hid (Ekp B b w1 w')) :=
       hid (fun W k => (HN.out W k.out).mono fun e w' ⟨he, hb⟩ => ⟨by unfold WordE at he; simpa [hn] using he, (k.out.step hb).cells, hid (k.out.step hb).e⟩)
      clear HN
      go_wp2
      generalize (wr.alloc (.cells #[.int .i64 5, .string t, .string nm, .slice a1 nc p1] 141)) = w2 at *
      have K0 := hid (K2.out.step (Below.refl _ _).drew)
      clear d0 d1 d2 d3 x0 x1 c0 c1 c2 c3
      have d0 := K0.out.cells
      refine z1l ?_
      refine wp_region_held_drew (S := fun W => (W.cell? ⟨w.heap.size, 0, none⟩ = some (.string lang) /\ W.cell? ⟨w.heap.size, 1, none⟩ = some (.slice ab na capb) /\ W.cell? ⟨wr.heap.size, 2, none⟩ = some (.string nm) /\ W.cell? ⟨wr.heap.size, 3, none⟩ = some (.slice a1 nc p1))) (by kernel_rfl) (by first | exact d0 | (refine ⟨?_, ?_, ?_, ?_⟩ <;> go_keep)) (fun hHeld => ?_)
      refine wpAnyH_take (i := 0) (oi := { dst := some 63, op := Go.Op.load 115 (Go.Operand.tmp 4), type := 115, pos := "evaluate.go:56", after := #[], guard := none }) (v := ?_) rfl (by kernel_rfl) (by kernel_rfl) (by kernel_rfl) (fun _ _ _ h => h.put) (Or.inl ⟨by rfl, ?_⟩) (by assumption) ?_
      rotate_left
      ·(intro w hSw; (try dsimp only at hSw); go_simp) <;> with_reducible rfl
      simp only [Act.put, List.setIfInBounds_toArray, List.set_cons_zero, List.set_cons_succ]
      refine wpAnyH_take (i := 1) (oi := { dst := some 64, op := Go.Op.fieldAddr 141 (Go.Operand.tmp 9) 3, type := 0, pos := "evaluate.go:56", after := #[], guard := none }) (v := ?_) rfl (by kernel_rfl) (by kernel_rfl) (by kernel_rfl) (fun _ _ _ h => h.put) (Or.inl ⟨by rfl, ?_⟩) (by assumption) ?_
      rotate_left
      ·(intro w hSw; (try dsimp only at hSw); go_simp) <;> with_reducible rfl
      simp only [Act.put, List.setIfInBounds_toArray, List.set_cons_zero, List.set_cons_succ]
      refine wpAnyH_take (i := 2) (oi := { dst := some 65, op := Go.Op.load 139 (Go.Operand.tmp 64), type := 139, pos := "evaluate.go:56", after := #[{ on := 1, ground := Go.Ground.data }], guard := none }) (v := ?_) rfl (by kernel_rfl) (by kernel_rfl) (by kernel_rfl) (fun _ _ _ h => h.put) (Or.inl ⟨by rfl, ?_⟩) (by assumption) ?_
      rotate_left
      ·(intro w hSw; (try dsimp only at hSw); go_simp) <;> with_reducible rfl
      simp only [Act.put, List.setIfInBounds_toArray, List.set_cons_zero, List.set_cons_succ]
      refine wpAnyH_take (i := 3) (oi := { dst := some 66, op := Go.Op.load 115 (Go.Operand.tmp 4), type := 115, pos := "evaluate.go:56", after := #[], guard := none }) (v := ?_) rfl (by kernel_rfl) (by kernel_rfl) (by kernel_rfl) (fun _ _ _ h => h.put) (Or.inl ⟨by rfl, ?_⟩) (by assumption) ?_
      rotate_left
      ·(intro w hSw; (try dsimp only at hSw); go_simp) <;> with_reducible rfl
      simp only [Act.put, List.setIfInBounds_toArray, List.set_cons_zero, List.set_cons_succ]
      refine wpAnyH_take (i := 4) (oi := { dst := some 67, op := Go.Op.fieldAddr 141 (Go.Operand.tmp 9) 2, type := 0, pos := "evaluate.go:56", after := #[], guard := none }) (v := ?_) rfl (by kernel_rfl) (by kernel_rfl) (by kernel_rfl) (fun _ _ _ h => h.put) (Or.inl ⟨by rfl, ?_⟩) (by assumption) ?_
      rotate_left
      ·(intro w hSw; (try dsimp only at hSw); go_simp) <;> with_reducible rfl
      simp only [Act.put, List.setIfInBounds_toArray, List.set_cons_zero, List.set_cons_succ]
      refine wpAnyH_take (i := 5) (oi := { dst := some 68, op := Go.Op.load 9 (Go.Operand.tmp 67), type := 9, pos := "evaluate.go:56", after := #[{ on := 4, ground := Go.Ground.data }], guard := none }) (v := ?_) rfl (by kernel_rfl) (by kernel_rfl) (by kernel_rfl) (fun _ _ _ h => h.put) (Or.inl ⟨by rfl, ?_⟩) (by assumption) ?_
      rotate_left
      ·(intro w hSw; (try dsimp only at hSw); go_simp) <;> with_reducible rfl
      simp only [Act.put, List.setIfInBounds_toArray, List.set_cons_zero, List.set_cons_succ]
      refine wpAnyH_take (i := 9) (oi := { dst := some 72, op := Go.Op.move (Go.Operand.tmp 2), type := 2, pos := "evaluate.go:56", after := #[], guard := none }) (v := ?_) rfl (by kernel_rfl) (by kernel_rfl) (by kernel_rfl) (fun _ _ _ h => h.put) (Or.inl ⟨by rfl, ?_⟩) (by assumption) ?_
      rotate_left
      ·(intro w hSw; (try dsimp only at hSw); go_simp) <;> with_reducible rfl
      simp only [Act.put, List.setIfInBounds_toArray, List.set_cons_zero, List.set_cons_succ]
      refine wpAnyH_take (i := 10) (oi := { dst := some 73, op := Go.Op.move (Go.Operand.tmp 3), type := 89, pos := "evaluate.go:56", after := #[], guard := none }) (v := ?_) rfl (by kernel_rfl) (by kernel_rfl) (by kernel_rfl) (fun _ _ _ h => h.put) (Or.inl ⟨by rfl, ?_⟩) (by assumption) ?_
      rotate_left
      ·(intro w hSw; (try dsimp only at hSw); go_simp) <;> with_reducible rfl
      simp only [Act.put, List.setIfInBounds_toArray, List.set_cons_zero, List.set_cons_succ]
      refine wpAnyH_ready (rs := [6]) (by kernel_rfl) (by simp) ?_
      refine AllReadyH.cons (o := { dst := some 69, op := Go.Op.call { callee := Go.Callee.value (Go.Operand.func 166), args := #[Go.Operand.tmp 66, Go.Operand.tmp 68], argTypes := #[115, 9] }, type := 9, pos := "evaluate.go:56", after := #[{ on := 3, ground := Go.Ground.data }, { on := 5, ground := Go.Ground.data }], guard := none }) rfl (fun K hK => ?_) AllReadyH.nil
      go_simp
      (go_at_call 166; refine (HC1.out _ ?_).mono ?_; assumption; rintro e U4 ⟨rfl, hq4, hk4⟩)
      intro a9 ha9
      exact ⟨ha9, z1j (by rw [HV.out, HDR.out, z1h HR1.out]) (HE1.out.trans hk4.out)⟩
     | false =>
      have HV2 : Hid (f (.mk 5 t nm cs) l' = evPs lang gs m h (choF cs [a.s, z19]) l') := hid (by rw [HFX.out]; exact evP_5 hf hn)
      rw [hf] at HN
      obtain ⟨dg, HDG⟩ : ∃ dg, Hid (dg = a.s) := ⟨_, hid rfl⟩
      rw [<- HDG.out] at HV2
      have HC1 : Hid (∀ W, Hid (PG w1 B b w.heap.size wr.heap.size m l' lang ab na capb gs 5 t nm a1 nc p1 cs W) -> Calls Tryz.prog 166 #[.agg #[.string lang, .slice ab na capb], .string nm] W fun e w' => e = .returned (.string dg) /\ (w'.cell? ⟨w.heap.size, 0, none⟩ = some (.string lang) /\ w'.cell? ⟨w.heap.size, 1, none⟩ = some (.slice ab na capb) /\ w'.cell? ⟨wr.heap.size, 2, none⟩ = some (.string nm) /\ w'.cell? ⟨wr.heap.size, 3, none⟩ = some (.slice a1 nc p1)) /\ Hid (PG w1 B b w.heap.size wr.heap.size m l' lang ab na capb gs 5 t nm a1 nc p1 cs w')) :=
       hid (fun W k => (HN.out W k.out).mono fun e w' ⟨he, hb⟩ => ⟨by unfold WordE at he; rw [HDG.out]; simpa [hn] using he, (k.out.step hb).cells, hid (k.out.step hb)⟩)
      clear HN hf hn
      obtain ⟨ck, HCK⟩ : ∃ ck, Hid (ck = choF cs [dg, ⟨#[111, 116, 104, 101, 114]⟩]) := ⟨_, hid rfl⟩
      have HV3 : Hid (f (.mk 5 t nm cs) l' = evPs lang gs m h ck l') := hid (by rw [HV2.out, HCK.out])
      have HCS : Hid (stPs 140737488351232 ck) := hid (by rw [HCK.out]; exact zad HTC.out _)
      obtain ⟨nk, HNK⟩ : ∃ nk, Hid (nk = ck.length) := ⟨_, hid rfl⟩
      have HC3 : Hid (∀ W, Hid (PG w1 B b w.heap.size wr.heap.size m l' lang ab na capb gs 5 t nm a1 nc p1 cs W) -> Calls Tryz.prog 164 #[.slice a1 nc p1, .slice (some ⟨W.heap.size, 0, none⟩) 2 2] (W.alloc (.cells #[.string dg, .string ⟨#[111, 116, 104, 101, 114]⟩] 9)) fun e w' => ∃ a2 p2, e = .returned (.slice a2 nk p2) /\ (w'.cell? ⟨w.heap.size, 0, none⟩ = some (.string lang) /\ w'.cell? ⟨w.heap.size, 1, none⟩ = some (.slice ab na capb) /\ w'.cell? ⟨wr.heap.size, 2, none⟩ = some (.string nm) /\ w'.cell? ⟨wr.heap.size, 3, none⟩ = some (.slice a1 nc p1)) /\ Hid (SlP w' (Lt B) m (.slice a2 nk p2) ck) /\ Hid (PG w1 B b w.heap.size wr.heap.size m l' lang ab na capb gs 5 t nm a1 nc p1 cs w')) :=
       hid (fun W k => by
        have k2 := k.out.step (z02 W (.cells #[.string dg, .string ⟨#[111, 116, 104, 101, 114]⟩] 9))
        have hc := zf2 m (Lt B) _ a1 p1 cs (some ⟨W.heap.size, 0, none⟩) 2 [dg, ⟨#[111, 116, 104, 101, 114]⟩] (fun b hb => Nat.lt_of_lt_of_le hb k2.hB) (by rw [<- HNC.out]; exact k2.cs) (zgl W _ _)
        rw [<- HCK.out, <- HNK.out, <- HNC.out] at hc
        exact hc.mono fun e w' ⟨a2, p2, he, hs, hb⟩ => ⟨a2, p2, he, (k2.step hb).cells, hid hs, hid (k2.step hb)⟩)
      have HRK := hid (fun (W : World) a2 p2 (k : PG w1 B b w.heap.size wr.heap.size m l' lang ab na capb gs 5 t nm a1 nc p1 cs W) (hs : SlP W (Lt B) m (.slice a2 ck.length p2) ck) => HPM.out B b l' lang ab capb gs h ck a2 p2 W hh1 hh2 hs (by rw [<- HNA.out]; exact k.sa) HGB.out HCS.out k.env k.o hl' k.hB)
      rw [<- HNK.out, <- HNA.out] at HRK
      cases hr : evPs lang gs m h ck l' with
      | error q =>
       have HR1 : Hid (f (.mk 5 t nm cs) l' = .error q) := hid (by rw [HV3.out, hr])
       rw [hr] at HRK
       clear hr
       have HC4 : Hid (∀ W a2 p2, Hid (PG w1 B b w.heap.size wr.heap.size m l' lang ab na capb gs 5 t nm a1 nc p1 cs W) -> Hid (SlP W (Lt B) m (.slice a2 nk p2) ck) -> Calls Tryz.prog 122 #[.agg #[.string lang, .slice ab na capb], .slice a2 nk p2, .int .i64 h, addFn b] W fun e w' => e = panE q /\ (w'.cell? ⟨w.heap.size, 0, none⟩ = some (.string lang) /\ w'.cell? ⟨w.heap.size, 1, none⟩ = some (.slice ab na capb) /\ w'.cell? ⟨wr.heap.size, 2, none⟩ = some (.string nm) /\ w'.cell? ⟨wr.heap.size, 3, none⟩ = some (.slice a1 nc p1)) /\ Hid (Ekp B b w1 w')) :=
        hid (fun W a2 p2 k hs => (HRK.out W a2 p2 k.out hs.out).mono fun e w' ⟨he, e3⟩ => ⟨he, k.out.keep e3 hne1 hne2, hid (k.out.e.trans e3)⟩)
       go_wp2
       generalize (wr.alloc (.cells #[.int .i64 5, .string t, .string nm, .slice a1 nc p1] 141)) = w2 at *
       have K0 := hid (K2.out.step (Below.refl _ _).drew)
       clear d0 d1 d2 d3 x0 x1 c0 c1 c2 c3
       have d0 := K0.out.cells
       refine z1l ?_
       refine wp_region_held_drew (S := fun W => (W.cell? ⟨w.heap.size, 0, none⟩ = some (.string lang) /\ W.cell? ⟨w.heap.size, 1, none⟩ = some (.slice ab na capb) /\ W.cell? ⟨wr.heap.size, 2, none⟩ = some (.string nm) /\ W.cell? ⟨wr.heap.size, 3, none⟩ = some (.slice a1 nc p1))) (by kernel_rfl) (by first | exact d0 | (refine ⟨?_, ?_, ?_, ?_⟩ <;> go_keep)) (fun hHeld => ?_)
       refine wpAnyH_take (i := 0) (oi := { dst := some 63, op := Go.Op.load 115 (Go.Operand.tmp 4), type := 115, pos := "evaluate.go:56", after := #[], guard := none }) (v := ?_) rfl (by kernel_rfl) (by kernel_rfl) (by kernel_rfl) (fun _ _ _ h => h.put) (Or.inl ⟨by rfl, ?_⟩) (by assumption) ?_
       rotate_left
       ·(intro w hSw; (try dsimp only at hSw); go_simp) <;> with_reducible rfl
       simp only [Act.put, List.setIfInBounds_toArray, List.set_cons_zero, List.set_cons_succ]
       refine wpAnyH_take (i := 1) (oi := { dst := some 64, op := Go.Op.fieldAddr 141 (Go.Operand.tmp 9) 3, type := 0, pos := "evaluate.go:56", after := #[], guard := none }) (v := ?_) rfl (by kernel_rfl) (by kernel_rfl) (by kernel_rfl) (fun _ _ _ h => h.put) (Or.inl ⟨by rfl, ?_⟩) (by assumption) ?_
       rotate_left
       ·(intro w hSw; (try dsimp only at hSw); go_simp) <;> with_reducible rfl
       simp only [Act.put, List.setIfInBounds_toArray, List.set_cons_zero, List.set_cons_succ]
       refine wpAnyH_take (i := 2) (oi := { dst := some 65, op := Go.Op.load 139 (Go.Operand.tmp 64), type := 139, pos := "evaluate.go:56", after := #[{ on := 1, ground := Go.Ground.data }], guard := none }) (v := ?_) rfl (by kernel_rfl) (by kernel_rfl) (by kernel_rfl) (fun _ _ _ h => h.put) (Or.inl ⟨by rfl, ?_⟩) (by assumption) ?_
       rotate_left
       ·(intro w hSw; (try dsimp only at hSw); go_simp) <;> with_reducible rfl
       simp only [Act.put, List.setIfInBounds_toArray, List.set_cons_zero, List.set_cons_succ]
       refine wpAnyH_take (i := 3) (oi := { dst := some 66, op := Go.Op.load 115 (Go.Operand.tmp 4), type := 115, pos := "evaluate.go:56", after := #[], guard := none }) (v := ?_) rfl (by kernel_rfl) (by kernel_rfl) (by kernel_rfl) (fun _ _ _ h => h.put) (Or.inl ⟨by rfl, ?_⟩) (by assumption) ?_
       rotate_left
       ·(intro w hSw; (try dsimp only at hSw); go_simp) <;> with_reducible rfl
       simp only [Act.put, List.setIfInBounds_toArray, List.set_cons_zero, List.set_cons_succ]
       refine wpAnyH_take (i := 4) (oi := { dst := some 67, op := Go.Op.fieldAddr 141 (Go.Operand.tmp 9) 2, type := 0, pos := "evaluate.go:56", after := #[], guard := none }) (v := ?_) rfl (by kernel_rfl) (by kernel_rfl) (by kernel_rfl) (fun _ _ _ h => h.put) (Or.inl ⟨by rfl, ?_⟩) (by assumption) ?_
       rotate_left
       ·(intro w hSw; (try dsimp only at hSw); go_simp) <;> with_reducible rfl
       simp only [Act.put, List.setIfInBounds_toArray, List.set_cons_zero, List.set_cons_succ]
       refine wpAnyH_take (i := 5) (oi := { dst := some 68, op := Go.Op.load 9 (Go.Operand.tmp 67), type := 9, pos := "evaluate.go:56", after := #[{ on := 4, ground := Go.Ground.data }], guard := none }) (v := ?_) rfl (by kernel_rfl) (by kernel_rfl) (by kernel_rfl) (fun _ _ _ h => h.put) (Or.inl ⟨by rfl, ?_⟩) (by assumption) ?_
       rotate_left
       ·(intro w hSw; (try dsimp only at hSw); go_simp) <;> with_reducible rfl
       simp only [Act.put, List.setIfInBounds_toArray, List.set_cons_zero, List.set_cons_succ]
       refine wpAnyH_take (i := 9) (oi := { dst := some 72, op := Go.Op.move (Go.Operand.tmp 2), type := 2, pos := "evaluate.go:56", after := #[], guard := none }) (v := ?_) rfl (by kernel_rfl) (by kernel_rfl) (by kernel_rfl) (fun _ _ _ h => h.put) (Or.inl ⟨by rfl, ?_⟩) (by assumption) ?_
       rotate_left
       ·(intro w hSw; (try dsimp only at hSw); go_simp) <;> with_reducible rfl
       simp only [Act.put, List.setIfInBounds_toArray, List.set_cons_zero, List.set_cons_succ]
       refine wpAnyH_take (i := 10) (oi := { dst := some 73, op := Go.Op.move (Go.Operand.tmp 3), type := 89, pos := "evaluate.go:56", after := #[], guard := none }) (v := ?_) rfl (by kernel_rfl) (by kernel_rfl) (by kernel_rfl) (fun _ _ _ h => h.put) (Or.inl ⟨by rfl, ?_⟩) (by assumption) ?_
       rotate_left
       ·(intro w hSw; (try dsimp only at hSw); go_simp) <;> with_reducible rfl
       simp only [Act.put, List.setIfInBounds_toArray, List.set_cons_zero, List.set_cons_succ]
       refine wpAnyH_ready (rs := [6]) (by kernel_rfl) (by simp) ?_
       refine AllReadyH.cons (o := { dst := some 69, op := Go.Op.call { callee := Go.Callee.value (Go.Operand.func 166), args := #[Go.Operand.tmp 66, Go.Operand.tmp 68], argTypes := #[115, 9] }, type := 9, pos := "evaluate.go:56", after := #[{ on := 3, ground := Go.Ground.data }, { on := 5, ground := Go.Ground.data }], guard := none }) rfl (fun K hK => ?_) AllReadyH.nil
       go_simp
       (go_at_call 166; refine (HC1.out _ ?_).mono ?_; assumption; rintro e U1 ⟨rfl, hq1, hk1⟩)
       go_wp2_with fail
       refine hK.out _ _ ?_ (fun hz1 => ?_)
       ·(try dsimp only) <;> first | assumption | go_keep
       clear hK K hHeld
       try simp only [Act.put, List.setIfInBounds_toArray, List.set_cons_zero, List.set_cons_succ]
       refine wpAnyH_ready (rs := [7]) (by kernel_rfl) (by simp) ?_
       refine AllReadyH.cons (o := { dst := some 70, op := Go.Op.buildSlice 67 2 #[(0, Go.Operand.tmp 69), (1, Go.Operand.const (Go.Value.string { data := #[111, 116, 104, 101, 114] }))], type := 67, pos := "evaluate.go:56", after := #[{ on := 6, ground := Go.Ground.data }], guard := none }) rfl (fun K hK => ?_) AllReadyH.nil
       go_simp
       refine hK.out _ _ ?_ (fun hz2 => ?_)
       ·(try dsimp only) <;> first | assumption | go_keep
       clear hK K hz1
       try simp only [Act.put, List.setIfInBounds_toArray, List.set_cons_zero, List.set_cons_succ]
       refine wpAnyH_ready (rs := [8]) (by kernel_rfl) (by simp) ?_
       refine AllReadyH.cons (o := { dst := some 71, op := Go.Op.call { callee := Go.Callee.value (Go.Operand.func 164), args := #[Go.Operand.tmp 65, Go.Operand.tmp 70], argTypes := #[139, 67] }, type := 70, pos := "evaluate.go:56", after := #[{ on := 2, ground := Go.Ground.data }, { on := 7, ground := Go.Ground.data }, { on := 6, ground := Go.Ground.chain }], guard := none }) rfl (fun K hK => ?_) AllReadyH.nil
       go_simp
       (go_at_call 164; refine (HC3.out _ ?_).mono ?_; assumption; rintro e U3 ⟨a2, p2, rfl, hq3, hi3, hk3⟩)
       go_wp2_with fail
       refine hK.out _ _ ?_ (fun hz3 => ?_)
       ·(try dsimp only) <;> first | assumption | go_keep
       clear hK K hz2
       try simp only [Act.put, List.setIfInBounds_toArray, List.set_cons_zero, List.set_cons_succ]
       refine wpAnyH_ready (rs := [11]) (by kernel_rfl) (by simp) ?_
       refine AllReadyH.cons (o := { dst := some 74, op := Go.Op.call { callee := Go.Callee.value (Go.Operand.func 122), args := #[Go.Operand.tmp 63, Go.Operand.tmp 71, Go.Operand.tmp 72, Go.Operand.tmp 73], argTypes := #[115, 70, 2, 89] }, type := 0, pos := "evaluate.go:56", after := #[{ on := 0, ground := Go.Ground.data }, { on := 8, ground := Go.Ground.data }, { on := 9, ground := Go.Ground.data }, { on := 10, ground := Go.Ground.data }, { on := 8, ground := Go.Ground.chain }], guard := none }) rfl (fun K hK => ?_) AllReadyH.nil
       go_simp
       (go_at_call 122; refine (HC4.out _ _ _ ?_ ?_).mono ?_; assumption; assumption; rintro e U4 ⟨rfl, hq4, hk4⟩)
       intro a9 ha9
       exact ⟨ha9, z1j (by rw [HV.out, HDR.out, z1h HR1.out]) (HE1.out.trans hk4.out)⟩
      | ok o' =>
       have HR1 : Hid (f (.mk 5 t nm cs) l' = .ok o') := hid (by rw [HV3.out, hr])
       have HLO := hid (z3o hl' hr)
       rw [hr] at HRK
       clear hr
       have HC4 : Hid (∀ W a2 p2, Hid (PG w1 B b w.heap.size wr.heap.size m l' lang ab na capb gs 5 t nm a1 nc p1 cs W) -> Hid (SlP W (Lt B) m (.slice a2 nk p2) ck) -> Calls Tryz.prog 122 #[.agg #[.string lang, .slice ab na capb], .slice a2 nk p2, .int .i64 h, addFn b] W fun e w' => e = .returned (.tuple #[]) /\ (w'.cell? ⟨w.heap.size, 0, none⟩ = some (.string lang) /\ w'.cell? ⟨w.heap.size, 1, none⟩ = some (.slice ab na capb) /\ w'.cell? ⟨wr.heap.size, 2, none⟩ = some (.string nm) /\ w'.cell? ⟨wr.heap.size, 3, none⟩ = some (.slice a1 nc p1)) /\ Hid (OutAt B b o' w' /\ Ekp B b w1 w')) :=
        hid (fun W a2 p2 k hs => (HRK.out W a2 p2 k.out hs.out).mono fun e w' ⟨⟨he, ho⟩, e3⟩ => ⟨he, k.out.keep e3 hne1 hne2, hid ⟨ho, k.out.e.trans e3⟩⟩)
       go_wp2
       generalize (wr.alloc (.cells #[.int .i64 5, .string t, .string nm, .slice a1 nc p1] 141)) = w2 at *
       have K0 := hid (K2.out.step (Below.refl _ _).drew)
       clear d0 d1 d2 d3 x0 x1 c0 c1 c2 c3
       have d0 := K0.out.cells
       go_region_held3 (fun W => (W.cell? ⟨w.heap.size, 0, none⟩ = some (.string lang) /\ W.cell? ⟨w.heap.size, 1, none⟩ = some (.slice ab na capb) /\ W.cell? ⟨wr.heap.size, 2, none⟩ = some (.string nm) /\ W.cell? ⟨wr.heap.size, 3, none⟩ = some (.slice a1 nc p1))) (first | go_keep | assumption)
        (first
         | (go_at_call 166; refine (HC1.out _ ?_).mono ?_; assumption; rintro e U1 ⟨rfl, hq1, hk1⟩)
         | (go_at_call 164; refine (HC3.out _ ?_).mono ?_; assumption; rintro e U3 ⟨a2, p2, rfl, hq3, hi3, hk3⟩)
         | (go_at_call 122; refine (HC4.out _ _ _ ?_ ?_).mono ?_; assumption; assumption; rintro e U4 ⟨rfl, hq4, hk4⟩)
         | fail)
       all_goals have hlo := HLO.out
       all_goals have HVN : Hid (evL f xs l = evL f (xs.drop (k + 1)) o') := hid (by rw [HV.out, HDR.out, z39 HR1.out])
       all_goals go_wp2
       all_goals go_roundw
       all_goals first | (exact ⟨k + 1, o', by omega, by go_num, hlo, HVN, hid hk4.out.1, hid hk4.out.2⟩) | (simp [intOf]; omega)
   have HR1 : Hid (f (.mk pk t nm cs) l' = .ok l') := hid (by rw [HFX.out]; exact evP_0 h1 h2 h3 h4 h5)
   have HVN : Hid (evL f xs l = evL f (xs.drop (k + 1)) l') := hid (by rw [HV.out, HDR.out, z39 HR1.out])
   have e1 : (pk == 1) = false := beq_eq_false_iff_ne.2 h1
   have e2 : (pk == 2) = false := beq_eq_false_iff_ne.2 h2
   have e3 : (pk == 3) = false := beq_eq_false_iff_ne.2 h3
   have e4 : (pk == 4) = false := beq_eq_false_iff_ne.2 h4
   have e5 : (pk == 5) = false := beq_eq_false_iff_ne.2 h5
   have HO2 := hid K2.out.o
   have HE2 := hid K2.out.e
   clear h1 h2 h3 h4 h5
   go_wp2
   go_roundw
   case rel => exact ⟨k + 1, l', by omega, by go_num, hl', HVN, HO2, HE2⟩
   case measure => simp [intOf]; omega
  ·have HFE : Hid (evL f xs l = .ok l') := hid (by rw [HV.out, List.drop_eq_nil_of_le (by have := HL.out; omega), evL])
   go_wp2
   go_end0
   exact postP_ok HFE.out HO.out (HE1.out.trans HE.out)
theorem zfq : ∀ n, zjv n := by
 intro n
 induction n using Nat.strongRecOn with
 | _ n ih => exact zha n ih
end Go.Proofs.YtdnedbcmgkilaaaGreatDoor
