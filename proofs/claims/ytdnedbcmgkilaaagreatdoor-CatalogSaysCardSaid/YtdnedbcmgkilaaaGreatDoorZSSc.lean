/- The document's say. -/
import Derived.Test.YtdnedbcmgkilaaaGreatDoorZSSb

namespace Go.Proofs.YtdnedbcmgkilaaaGreatDoor
set_option maxHeartbeats 12800000
set_option maxRecDepth 100000
open Go.Lib (hid)
open Go.RowKit
theorem evP_err {g : BA} {gs : List Argm} {rc : Int -> List Pt -> List UInt8 -> Ev} (hr : ∀ h xs o k, rc h xs o = .error k -> k ≠ 0) {h : Int} {x : Pt} {o : List UInt8} {k : Nat} (he : evP g gs rc h x o = .error k) : k ≠ 0 := by
 unfold evP at he
 have ha : ∀ s, addE o s = .error k -> k ≠ 0 := fun s hs => by unfold addE at hs; split at hs <;> cases hs; decide
 split at he
 ·exact ha _ he
 ·split at he
  ·split at he
   ·cases he; decide
   ·exact ha _ he
  ·split at he
   ·exact ha _ he
   ·split at he
    ·split at he
     ·cases he; decide
     ·split at he
      ·exact hr _ _ _ _ he
      ·cases he; decide
    ·split at he
     ·split at he
      ·cases he; decide
      ·split at he
       ·cases he; decide
       ·exact hr _ _ _ _ he
     ·cases he
theorem ziz {f : Pt -> List UInt8 -> Ev} (hf : ∀ x o k, f x o = .error k -> k ≠ 0) : ∀ {xs : List Pt} {o : List UInt8} {k : Nat}, evL f xs o = .error k -> k ≠ 0
 | [], o, k, he => by rw [evL] at he; cases he
 | x :: r, o, k, he => by
  rw [evL] at he
  cases hx : f x o with
  | ok o2 => rw [hx] at he; exact ziz hf he
  | error e => rw [hx] at he; cases he; exact hf _ _ _ hx
theorem z5i {g : BA} {gs : List Argm} : ∀ {n : Nat} {h : Int} {xs : List Pt} {o : List UInt8} {k : Nat}, evPs g gs n h xs o = .error k -> k ≠ 0
 | 0, h, xs, o, k, he => by rw [evPs] at he; cases he
 | n + 1, h, xs, o, k, he => by
  rw [evPs] at he
  exact ziz (fun x o k h2 => evP_err (fun _ _ _ _ h4 => z5i (n := n) h4) h2) he
theorem ze2 {h : Bool} : ∀ {b : Bool} {xs : List Pt} {k : Nat} {x : Pt}, okPs h b xs = true -> xs[k]? = some x -> okP h x = true
 | b, [], k, x, _, hx => by simp at hx
 | b, y :: r, 0, x, ho, hx => by
  rw [okPs] at ho
  simp only [Bool.and_eq_true] at ho
  obtain rfl : y = x := (by simpa using hx)
  exact ho.1.2
 | b, y :: r, k + 1, x, ho, hx => by
  rw [okPs] at ho
  simp only [Bool.and_eq_true] at ho
  exact ze2 ho.2 (by simpa using hx)
theorem z97 {p : List UInt8 -> Bool} {h : Bool} : ∀ {seen : List (List UInt8)} {cs : List Cs} {c : Cs}, okCs p h seen cs = true -> c ∈ cs -> okPs h false c.kids = true
 | seen, [], c, _, hc => by cases hc
 | seen, y :: r, c, ho, hc => by
  rw [okCs] at ho
  simp only [Bool.and_eq_true] at ho
  rcases List.mem_cons.1 hc with rfl | hc
  ·rw [<- okC_eq]; exact ho.1.2
  ·exact z97 ho.2 hc
theorem zhm {h : Bool} {cs : List Cs} (hc : ∀ c, c ∈ cs -> okPs h false c.kids = true) : ∀ ks : List BA, okPs h false (choF cs ks) = true
 | [] => by rw [choF, okPs]
 | k :: r => by
  rw [choF]
  split
  ·rename_i c hf
   exact hc _ (List.mem_of_find?_eq_some hf)
  ·exact zhm hc r
theorem z7d {gs : List Argm} (h : ArgsOK gs) : findA gs ⟨#[]⟩ = none := z9o (fun q y hq e => by
 have := (h.each q y hq).1
 rw [e] at this
 cases this)
theorem zf9 {s : BA} (h : s.data.toList.isEmpty = true) : s = ⟨#[]⟩ := ByteArray.ext (Array.toList_inj.1 (by simpa using h))
theorem zd1 {s : BA} (h : nameB s.data.toList = true) : s ≠ ⟨#[]⟩ := fun e => by rw [e] at h; cases h
theorem okP_1 {h : Bool} {t nm : BA} {cs : List Cs} (ho : okP h (.mk 1 t nm cs) = true) : nm = ⟨#[]⟩ := by
 rw [okP] at ho; simp only [if_true, Bool.and_eq_true] at ho; exact zf9 ho.1.2
theorem okP_2 {h : Bool} {t nm : BA} {cs : List Cs} (ho : okP h (.mk 2 t nm cs) = true) : nm ≠ ⟨#[]⟩ := by
 rw [okP, if_neg (by decide)] at ho; simp only [if_true, Bool.and_eq_true] at ho; exact zd1 ho.1.2
theorem okP_3 {h : Bool} {t nm : BA} {cs : List Cs} (ho : okP h (.mk 3 t nm cs) = true) : nm = ⟨#[]⟩ := by
 rw [okP, if_neg (by decide), if_neg (by decide)] at ho; simp only [if_true, Bool.and_eq_true] at ho; exact zf9 ho.1.2
theorem okP_4 {h : Bool} {t nm : BA} {cs : List Cs} (ho : okP h (.mk 4 t nm cs) = true) : nm ≠ ⟨#[]⟩ /\ ∀ c, c ∈ cs -> okPs true false c.kids = true := by
 rw [okP, if_neg (by decide), if_neg (by decide), if_neg (by decide)] at ho; simp only [if_true, Bool.and_eq_true] at ho; exact ⟨zd1 ho.1.1.1.2, fun c hc => z97 ho.2 hc⟩
theorem okP_5 {h : Bool} {t nm : BA} {cs : List Cs} (ho : okP h (.mk 5 t nm cs) = true) : nm ≠ ⟨#[]⟩ /\ ∀ c, c ∈ cs -> okPs h false c.kids = true := by
 rw [okP, if_neg (by decide), if_neg (by decide), if_neg (by decide), if_neg (by decide)] at ho; simp only [if_true, Bool.and_eq_true] at ho; exact ⟨zd1 ho.1.1.1.2, fun c hc => z97 ho.2 hc⟩
theorem okP_0 {h : Bool} {k : Int} {t nm : BA} {cs : List Cs} (ho : okP h (.mk k t nm cs) = true) : k = 1 ∨ k = 2 ∨ k = 3 ∨ k = 4 ∨ k = 5 := by
 rw [okP] at ho
 by_cases h1 : k = 1
 ·exact .inl h1
 by_cases h2 : k = 2
 ·exact .inr (.inl h2)
 by_cases h3 : k = 3
 ·exact .inr (.inr (.inl h3))
 by_cases h4 : k = 4
 ·exact .inr (.inr (.inr (.inl h4)))
 by_cases h5 : k = 5
 ·exact .inr (.inr (.inr (.inr h5)))
 rw [if_neg h1, if_neg h2, if_neg h3, if_neg h4, if_neg h5] at ho; cases ho
theorem z1w {k : Nat} {r : Ev} (h : r = .error k) : EvE r (.returned (.tuple #[.string ⟨#[]⟩, .int .i64 k])) := by subst h; rfl
theorem evE_ok {o : List UInt8} {s : BA} {r : Ev} (h : r = .ok o) (hs : s.data.toList = o) : EvE r (.returned (.tuple #[.string s, .int .i64 0])) := by
 subst h; subst hs
 show _ = Ending.returned (.tuple #[.string ⟨s.data.toList.toArray⟩, .int .i64 0])
 rw [zdq]
structure SK (w0 : World) (bp bb m : Nat) (ab : Option Addr) (na capb : Nat) (gs : List Argm) (pk : Int) (t nm : BA) (ca : Option Addr) (nc pc : Nat) (cs : List Cs) (anm : BA) (num : Bool) (an : Int) (s : BA) (W : World) : Prop where
 bel : Below w0.heap.size w0 W
 rp : Row W bp 141 [.int .i64 pk, .string t, .string nm, .slice ca nc pc]
 ra : Row W bb 148 [.string anm, .bool num, .int .i64 an, .string s]
 cs : SlC W (Old W) m (.slice ca nc pc) cs
 sa : SlA W (Old W) (.slice ab na capb) gs
 env : EnvW W
section
variable {w0 : World} {bp bb m : Nat} {ab : Option Addr} {na capb : Nat} {gs : List Argm} {pk : Int} {t nm : BA} {ca : Option Addr} {nc pc : Nat} {cs : List Cs} {anm : BA} {num : Bool} {an : Int} {s : BA} {W W' : World}
theorem SK.step (h : SK w0 bp bb m ab na capb gs pk t nm ca nc pc cs anm num an s W) (hb : Below W.heap.size W W') : SK w0 bp bb m ab na capb gs pk t nm ca nc pc cs anm num an s W' :=
 ⟨z00 h.bel hb, h.rp.below hb, h.ra.below hb, h.cs.old hb, h.sa.old hb, h.env.below hb⟩
theorem SK.cells (h : SK w0 bp bb m ab na capb gs pk t nm ca nc pc cs anm num an s W) : W.cell? ⟨bp, 0, none⟩ = some (.int .i64 pk) /\ W.cell? ⟨bp, 1, none⟩ = some (.string t) /\ W.cell? ⟨bp, 2, none⟩ = some (.string nm) /\ W.cell? ⟨bp, 3, none⟩ = some (.slice ca nc pc) /\ W.cell? ⟨bb, 2, none⟩ = some (.int .i64 an) :=
 ⟨h.rp.cell rfl, h.rp.cell rfl, h.rp.cell rfl, h.rp.cell rfl, h.ra.cell rfl⟩
end
def SayK (n : Nat) : Prop := ∀ (hb : Bool) (lang : BA) (ab : Option Addr) (capb : Nat) (gs : List Argm) (h : Int) (xs : List Pt) (a : Option Addr) (cap : Nat) (said : BA) (w : World), -9223372036854775808 <= h -> h <= 9223372036854775807 ->
 SlP w (Old w) n (.slice a xs.length cap) xs -> SlA w (Old w) (.slice ab gs.length capb) gs -> ArgB gs -> ArgsOK gs -> okPs hb false xs = true -> stPs 140737488351232 xs -> EnvW w -> said.size <= 8000 ->
 Calls Tryz.prog 87 #[.slice a xs.length cap, .string lang, .slice ab gs.length capb, .int .i64 h, .string said] w fun e w' => EvE (evPs lang gs n h xs said.data.toList) e /\ Below w.heap.size w w'
theorem sayK_of (n : Nat) (HI : ∀ m, m < n -> SayK m) : SayK n := by
 intro hb lang ab capb gs h xs a cap said w hh1 hh2 hx has hgb hok hps hst hE hsz
 have HX := hid hx
 have HAS := hid has
 have HGB := hid hgb
 have HOK := hid hok
 have HPS := hid hps
 have HST := hid hst
 have HEV := hid hE
 have HII := hid HI
 have HEQ : Hid (evPs lang gs n h xs said.data.toList = evL (evP lang gs (evPs lang gs (n - 1)) h) xs said.data.toList) := hid (by
  cases n with
  | zero =>
   cases xs with
   | nil => rfl
   | cons x r =>
    obtain ⟨g, off, -, -, hat⟩ := hx.at_ (j := 0) rfl
    obtain ⟨-, -, -, m, -, -, hm, -, -⟩ := hat.p
    omega
  | succ n => rfl)
 have hmx := hx.lenle
 obtain ⟨L, HL⟩ : ∃ L, Hid (L = xs.length) := ⟨_, hid rfl⟩
 obtain ⟨na, HNA⟩ : ∃ na, Hid (na = gs.length) := ⟨_, hid rfl⟩
 have hL2 : L <= 9223372036854775807 := by have := HL.out; omega
 rw [<- HL.out] at HX ⊢
 rw [<- HNA.out] at HAS ⊢
 rw [HEQ.out]
 clear hx has hgb hok hps hst hE hmx HI HEQ
 obtain ⟨f, HF⟩ : ∃ f, Hid (f = evP lang gs (evPs lang gs (n - 1)) h) := ⟨_, hid rfl⟩
 rw [<- HF.out]
 obtain ⟨l0, HL0⟩ : ∃ l0, Hid (l0 = said.data.toList) := ⟨_, hid rfl⟩
 rw [<- HL0.out]
 go_enter Tryz.func87, Tryz.ntmps87
 go_wp2
 go_loopw [21, 4] (fun i s wr => ∃ (k : Nat) (sd : BA), k <= L /\ i = .int .i64 k /\ s = .string sd /\ sd.size <= 8000 /\ Hid (evL f xs l0 = evL f (xs.drop k) sd.data.toList) /\ Hid (Below w.heap.size w wr)) (fun i _ _ => L - (intOf i).toNat)
 case atStart => exact ⟨0, said, Nat.zero_le _, rfl, rfl, hsz, hid (by rw [HL0.out]; rfl), hid (Below.refl _ _)⟩
 case round =>
  obtain ⟨k, sd, hk, rfl, rfl, hsd, HV, HB⟩ := hrel
  by_cases hlt : k < L
  ·obtain ⟨x, hxk⟩ : ∃ x, xs[k]? = some x := ⟨_, List.getElem?_eq_getElem (by have := HL.out; omega)⟩
   obtain ⟨g, off, rfl, -, hat⟩ := (HX.out.old HB.out).at_ hxk
   obtain ⟨c0, c1, c2, m, a1, p1, hm, c3, hcs⟩ := hat.p
   have HDR := hid (z5j hxk)
   have hts := (zaf.1 (z55 HST.out hxk)).1
   have HTC := hid (zaf.1 (z55 HST.out hxk)).2
   have hokp := ze2 HPS.out hxk
   obtain ⟨pk, t, nm, cs⟩ := x
   simp only [Pt.k, Pt.t, Pt.n, Pt.cs] at c0 c1 c2 c3 hcs hts HTC
   obtain ⟨nc, HNC⟩ : ∃ nc, Hid (nc = cs.length) := ⟨_, hid rfl⟩
   rw [<- HNC.out] at c3 hcs
   have HFX : Hid (f = evP lang gs (evPs lang gs m) h) := hid (by rw [HF.out, hm]; rfl)
   have HSM := hid (HII.out m (by omega))
   have hb2 := z02 wr (.cells #[.int .i64 pk, .string t, .string nm, .slice a1 nc p1] 141)
   have HB2 := hid (z00 HB.out hb2)
   have R := z04 wr #[.int .i64 pk, .string t, .string nm, .slice a1 nc p1] 141
   have HR := hid R
   have HCS := hid (hcs.old hb2)
   have HSA2 := hid (HAS.out.old HB2.out)
   have HEV2 := hid (HEV.out.below HB2.out)
   have HAR := hid (rarg_any (wr.alloc (.cells #[.int .i64 pk, .string t, .string nm, .slice a1 nc p1] 141)) ab capb gs nm (by rw [<- HNA.out]; exact HSA2.out))
   rw [<- HNA.out] at HAR
   have d2 := R.cell (i := 2) rfl
   clear R hb2 hxk hat hm hcs
   by_cases h1 : pk = 1
   ·subst h1
    obtain rfl := okP_1 hokp
    rw [z7d HOK.out] at HAR
    have HAD : Hid (f (.mk 1 t ⟨#[]⟩ cs) sd.data.toList = addE sd.data.toList t.data.toList) := hid (by rw [HFX.out]; exact evP_1)
    clear hokp
    go_wp2_with fail
    refine HAR.out.mono ?_
    rintro e w3 ⟨he, hb3⟩
    obtain rfl : e = .returned (.tuple #[.agg #[.string ⟨#[]⟩, .bool false, .int .i64 0, .string ⟨#[]⟩], .bool false]) := he
    have K3 : Hid (SK w wr.heap.size w3.heap.size m ab na capb gs 1 t ⟨#[]⟩ a1 nc p1 cs ⟨#[]⟩ false 0 ⟨#[]⟩ (w3.alloc (.cells #[.string ⟨#[]⟩, .bool false, .int .i64 0, .string ⟨#[]⟩] 148))) := hid
     ⟨z00 (z00 HB2.out hb3) (z02 _ _), (HR.out.below hb3).below (z02 _ _), z04 w3 _ _, (HCS.out.old hb3).old (z02 _ _), (HSA2.out.old hb3).old (z02 _ _), (HEV2.out.below hb3).below (z02 _ _)⟩
    have p0 := K3.out.rp.cell (i := 0) rfl
    have p1' := K3.out.rp.cell (i := 1) rfl
    have p2 := K3.out.rp.cell (i := 2) rfl
    have p3 := K3.out.rp.cell (i := 3) rfl
    have q1 := K3.out.ra.cell (i := 1) rfl
    have q2 := K3.out.ra.cell (i := 2) rfl
    have q3 := K3.out.ra.cell (i := 3) rfl
    clear hb3 HAR c0 c1 c2 c3 d2
    have HBK := hid K3.out.bel
    have hov : ¬ 9223372036854775807 < sd.size + (t).size := by omega
    by_cases hfit : sd.size + (t).size <= 8000
    ·have hi8 : ¬ (8000 : Int) < (sd.size : Int) + ((t).size : Int) := by omega
     have HVN : Hid (evL f xs l0 = evL f (xs.drop (k + 1)) (sd ++ t).data.toList) := hid (by rw [HV.out, HDR.out, z39 (HAD.out.trans (z7l (by rw [z05, z05]; exact hfit)))]; simp)
     have hsn : (sd ++ t).size <= 8000 := by rw [ByteArray.size_append]; exact hfit
     go_wp2
     go_roundw
     case rel => exact ⟨k + 1, _, by omega, by go_num, rfl, hsn, HVN, HBK⟩
     case measure => simp [intOf]; omega
    ·have hi8 : (8000 : Int) < (sd.size : Int) + ((t).size : Int) := by omega
     have HR1 : Hid (f (.mk 1 t ⟨#[]⟩ cs) sd.data.toList = .error 2) := hid (HAD.out.trans (z7m (by rw [z05, z05]; exact hfit)))
     go_wp2
     exact bodyPost_ret (v := .tuple #[.string ⟨#[]⟩, .int .i64 2]) (by simp [results, Tryz.results87, go_sem]) rfl ⟨z1w (by rw [HV.out, HDR.out, z1h HR1.out]), HBK.out⟩
   by_cases h2 : pk = 2
   ·subst h2
    have hne := okP_2 hokp
    have hnm := zc0 hne
    clear hokp hne
    cases hf : findA gs nm with
    | none =>
     have HR1 : Hid (f (.mk 2 t nm cs) sd.data.toList = .error 100) := hid (by rw [HFX.out]; exact evP_2n hf)
     rw [hf] at HAR
     clear hf
     go_wp2_with fail
     refine HAR.out.mono ?_
     rintro e w3 ⟨he, hb3⟩
     obtain rfl : e = .returned (.tuple #[.agg #[.string ⟨#[]⟩, .bool false, .int .i64 0, .string ⟨#[]⟩], .bool false]) := he
     have K3 : Hid (SK w wr.heap.size w3.heap.size m ab na capb gs 2 t nm a1 nc p1 cs ⟨#[]⟩ false 0 ⟨#[]⟩ (w3.alloc (.cells #[.string ⟨#[]⟩, .bool false, .int .i64 0, .string ⟨#[]⟩] 148))) := hid
      ⟨z00 (z00 HB2.out hb3) (z02 _ _), (HR.out.below hb3).below (z02 _ _), z04 w3 _ _, (HCS.out.old hb3).old (z02 _ _), (HSA2.out.old hb3).old (z02 _ _), (HEV2.out.below hb3).below (z02 _ _)⟩
     have p0 := K3.out.rp.cell (i := 0) rfl
     have p1' := K3.out.rp.cell (i := 1) rfl
     have p2 := K3.out.rp.cell (i := 2) rfl
     have p3 := K3.out.rp.cell (i := 3) rfl
     have q1 := K3.out.ra.cell (i := 1) rfl
     have q2 := K3.out.ra.cell (i := 2) rfl
     have q3 := K3.out.ra.cell (i := 3) rfl
     clear hb3 HAR c0 c1 c2 c3 d2
     go_wp2
     exact bodyPost_ret (v := .tuple #[.string ⟨#[]⟩, .int .i64 100]) (by simp [results, Tryz.results87, go_sem]) rfl ⟨z1w (by rw [HV.out, HDR.out, z1h HR1.out]), K3.out.bel⟩
    | some a =>
     obtain ⟨b1, b3, b4⟩ := HGB.out.found hf
     obtain ⟨anm, num, an, s⟩ := a
     simp only at b1 b3 b4
     have HV2 : Hid (f (.mk 2 t nm cs) sd.data.toList = addE sd.data.toList (valL ⟨anm, num, an, s⟩)) := hid (by rw [HFX.out]; exact evP_2s hf)
     rw [hf] at HAR
     clear hf
     cases num with
     | true =>
      obtain ⟨dg, HDG⟩ : ∃ dg : BA, Hid (dg = ⟨(Lib.itoa an).toArray⟩) := ⟨_, hid rfl⟩
      have hdz : dg.size <= 21 := by
       rw [HDG.out]; show (Lib.itoa an).toArray.size <= _; rw [List.size_toArray]; exact Lib.itoa_length_le an b1 b3
      have HAD : Hid (f (.mk 2 t nm cs) sd.data.toList = addE sd.data.toList dg.data.toList) := hid (by rw [HDG.out]; first | (rw [HFX.out]; exact evP_3) | exact HV2.out)
      go_wp2_with fail
      refine HAR.out.mono ?_
      rintro e w3 ⟨he, hb3⟩
      obtain rfl : e = .returned (.tuple #[.agg #[.string anm, .bool true, .int .i64 an, .string s], .bool true]) := he
      have K3 : Hid (SK w wr.heap.size w3.heap.size m ab na capb gs 2 t nm a1 nc p1 cs anm true an s (w3.alloc (.cells #[.string anm, .bool true, .int .i64 an, .string s] 148))) := hid
       ⟨z00 (z00 HB2.out hb3) (z02 _ _), (HR.out.below hb3).below (z02 _ _), z04 w3 _ _, (HCS.out.old hb3).old (z02 _ _), (HSA2.out.old hb3).old (z02 _ _), (HEV2.out.below hb3).below (z02 _ _)⟩
      have p0 := K3.out.rp.cell (i := 0) rfl
      have p1' := K3.out.rp.cell (i := 1) rfl
      have p2 := K3.out.rp.cell (i := 2) rfl
      have p3 := K3.out.rp.cell (i := 3) rfl
      have q1 := K3.out.ra.cell (i := 1) rfl
      have q2 := K3.out.ra.cell (i := 2) rfl
      have q3 := K3.out.ra.cell (i := 3) rfl
      clear hb3 HAR c0 c1 c2 c3 d2
      have HFM := hid (z8z an b1 b3 _ K3.out.env)
      rw [<- HDG.out] at HFM
      have hov : ¬ 9223372036854775807 < sd.size + (dg).size := by omega
      by_cases hfit : sd.size + (dg).size <= 8000
      ·have hi8 : ¬ (8000 : Int) < (sd.size : Int) + ((dg).size : Int) := by omega
       have HVN : Hid (evL f xs l0 = evL f (xs.drop (k + 1)) (sd ++ dg).data.toList) := hid (by rw [HV.out, HDR.out, z39 (HAD.out.trans (z7l (by rw [z05, z05]; exact hfit)))]; simp)
       have hsn : (sd ++ dg).size <= 8000 := by rw [ByteArray.size_append]; exact hfit
       go_wp2_with fail
       refine HFM.out.mono ?_
       rintro e w5 ⟨rfl, hb5⟩
       have HBK := hid (z00 K3.out.bel hb5)
       clear hb5
       go_wp2
       go_roundw
       case rel => exact ⟨k + 1, _, by omega, by go_num, rfl, hsn, HVN, HBK⟩
       case measure => simp [intOf]; omega
      ·have hi8 : (8000 : Int) < (sd.size : Int) + ((dg).size : Int) := by omega
       have HR1 : Hid (f (.mk _ t nm cs) sd.data.toList = .error 2) := hid (HAD.out.trans (z7m (by rw [z05, z05]; exact hfit)))
       go_wp2_with fail
       refine HFM.out.mono ?_
       rintro e w5 ⟨rfl, hb5⟩
       have HBK := hid (z00 K3.out.bel hb5)
       clear hb5
       go_wp2
       exact bodyPost_ret (v := .tuple #[.string ⟨#[]⟩, .int .i64 2]) (by simp [results, Tryz.results87, go_sem]) rfl ⟨z1w (by rw [HV.out, HDR.out, z1h HR1.out]), HBK.out⟩
     | false =>
      have HAD : Hid (f (.mk 2 t nm cs) sd.data.toList = addE sd.data.toList s.data.toList) := hid HV2.out
      go_wp2_with fail
      refine HAR.out.mono ?_
      rintro e w3 ⟨he, hb3⟩
      obtain rfl : e = .returned (.tuple #[.agg #[.string anm, .bool false, .int .i64 an, .string s], .bool true]) := he
      have K3 : Hid (SK w wr.heap.size w3.heap.size m ab na capb gs 2 t nm a1 nc p1 cs anm false an s (w3.alloc (.cells #[.string anm, .bool false, .int .i64 an, .string s] 148))) := hid
       ⟨z00 (z00 HB2.out hb3) (z02 _ _), (HR.out.below hb3).below (z02 _ _), z04 w3 _ _, (HCS.out.old hb3).old (z02 _ _), (HSA2.out.old hb3).old (z02 _ _), (HEV2.out.below hb3).below (z02 _ _)⟩
      have p0 := K3.out.rp.cell (i := 0) rfl
      have p1' := K3.out.rp.cell (i := 1) rfl
      have p2 := K3.out.rp.cell (i := 2) rfl
      have p3 := K3.out.rp.cell (i := 3) rfl
      have q1 := K3.out.ra.cell (i := 1) rfl
      have q2 := K3.out.ra.cell (i := 2) rfl
      have q3 := K3.out.ra.cell (i := 3) rfl
      clear hb3 HAR c0 c1 c2 c3 d2
      have HBK := hid K3.out.bel
      have hov : ¬ 9223372036854775807 < sd.size + (s).size := by omega
      by_cases hfit : sd.size + (s).size <= 8000
      ·have hi8 : ¬ (8000 : Int) < (sd.size : Int) + ((s).size : Int) := by omega
       have HVN : Hid (evL f xs l0 = evL f (xs.drop (k + 1)) (sd ++ s).data.toList) := hid (by rw [HV.out, HDR.out, z39 (HAD.out.trans (z7l (by rw [z05, z05]; exact hfit)))]; simp)
       have hsn : (sd ++ s).size <= 8000 := by rw [ByteArray.size_append]; exact hfit
       go_wp2
       go_roundw
       case rel => exact ⟨k + 1, _, by omega, by go_num, rfl, hsn, HVN, HBK⟩
       case measure => simp [intOf]; omega
      ·have hi8 : (8000 : Int) < (sd.size : Int) + ((s).size : Int) := by omega
       have HR1 : Hid (f (.mk _ t nm cs) sd.data.toList = .error 2) := hid (HAD.out.trans (z7m (by rw [z05, z05]; exact hfit)))
       go_wp2
       exact bodyPost_ret (v := .tuple #[.string ⟨#[]⟩, .int .i64 2]) (by simp [results, Tryz.results87, go_sem]) rfl ⟨z1w (by rw [HV.out, HDR.out, z1h HR1.out]), HBK.out⟩
   by_cases h3 : pk = 3
   ·subst h3
    obtain rfl := okP_3 hokp
    rw [z7d HOK.out] at HAR
    clear hokp
    obtain ⟨dg, HDG⟩ : ∃ dg : BA, Hid (dg = ⟨(Lib.itoa h).toArray⟩) := ⟨_, hid rfl⟩
    have hdz : dg.size <= 21 := by
     rw [HDG.out]; show (Lib.itoa h).toArray.size <= _; rw [List.size_toArray]; exact Lib.itoa_length_le h hh1 hh2
    have HAD : Hid (f (.mk 3 t ⟨#[]⟩ cs) sd.data.toList = addE sd.data.toList dg.data.toList) := hid (by rw [HDG.out]; first | (rw [HFX.out]; exact evP_3) | exact HV2.out)
    go_wp2_with fail
    refine HAR.out.mono ?_
    rintro e w3 ⟨he, hb3⟩
    obtain rfl : e = .returned (.tuple #[.agg #[.string ⟨#[]⟩, .bool false, .int .i64 0, .string ⟨#[]⟩], .bool false]) := he
    have K3 : Hid (SK w wr.heap.size w3.heap.size m ab na capb gs 3 t ⟨#[]⟩ a1 nc p1 cs ⟨#[]⟩ false 0 ⟨#[]⟩ (w3.alloc (.cells #[.string ⟨#[]⟩, .bool false, .int .i64 0, .string ⟨#[]⟩] 148))) := hid
     ⟨z00 (z00 HB2.out hb3) (z02 _ _), (HR.out.below hb3).below (z02 _ _), z04 w3 _ _, (HCS.out.old hb3).old (z02 _ _), (HSA2.out.old hb3).old (z02 _ _), (HEV2.out.below hb3).below (z02 _ _)⟩
    have p0 := K3.out.rp.cell (i := 0) rfl
    have p1' := K3.out.rp.cell (i := 1) rfl
    have p2 := K3.out.rp.cell (i := 2) rfl
    have p3 := K3.out.rp.cell (i := 3) rfl
    have q1 := K3.out.ra.cell (i := 1) rfl
    have q2 := K3.out.ra.cell (i := 2) rfl
    have q3 := K3.out.ra.cell (i := 3) rfl
    clear hb3 HAR c0 c1 c2 c3 d2
    have HFM := hid (z8z h hh1 hh2 _ K3.out.env)
    rw [<- HDG.out] at HFM
    have hov : ¬ 9223372036854775807 < sd.size + (dg).size := by omega
    by_cases hfit : sd.size + (dg).size <= 8000
    ·have hi8 : ¬ (8000 : Int) < (sd.size : Int) + ((dg).size : Int) := by omega
     have HVN : Hid (evL f xs l0 = evL f (xs.drop (k + 1)) (sd ++ dg).data.toList) := hid (by rw [HV.out, HDR.out, z39 (HAD.out.trans (z7l (by rw [z05, z05]; exact hfit)))]; simp)
     have hsn : (sd ++ dg).size <= 8000 := by rw [ByteArray.size_append]; exact hfit
     go_wp2_with fail
     refine HFM.out.mono ?_
     rintro e w5 ⟨rfl, hb5⟩
     have HBK := hid (z00 K3.out.bel hb5)
     clear hb5
     go_wp2
     go_roundw
     case rel => exact ⟨k + 1, _, by omega, by go_num, rfl, hsn, HVN, HBK⟩
     case measure => simp [intOf]; omega
    ·have hi8 : (8000 : Int) < (sd.size : Int) + ((dg).size : Int) := by omega
     have HR1 : Hid (f (.mk 3 t ⟨#[]⟩ cs) sd.data.toList = .error 2) := hid (HAD.out.trans (z7m (by rw [z05, z05]; exact hfit)))
     go_wp2_with fail
     refine HFM.out.mono ?_
     rintro e w5 ⟨rfl, hb5⟩
     have HBK := hid (z00 K3.out.bel hb5)
     clear hb5
     go_wp2
     exact bodyPost_ret (v := .tuple #[.string ⟨#[]⟩, .int .i64 2]) (by simp [results, Tryz.results87, go_sem]) rfl ⟨z1w (by rw [HV.out, HDR.out, z1h HR1.out]), HBK.out⟩
   by_cases h4 : pk = 4
   ·subst h4
    obtain ⟨hne, hkv⟩ := okP_4 hokp
    have hnm := zc0 hne
    have HKV := hid hkv
    clear hokp hne hkv
    cases hf : findA gs nm with
    | none =>
     have HR1 : Hid (f (.mk 4 t nm cs) sd.data.toList = .error 100) := hid (by rw [HFX.out]; exact evP_4n hf)
     rw [hf] at HAR
     clear hf
     go_wp2_with fail
     refine HAR.out.mono ?_
     rintro e w3 ⟨he, hb3⟩
     obtain rfl : e = .returned (.tuple #[.agg #[.string ⟨#[]⟩, .bool false, .int .i64 0, .string ⟨#[]⟩], .bool false]) := he
     have K3 : Hid (SK w wr.heap.size w3.heap.size m ab na capb gs 4 t nm a1 nc p1 cs ⟨#[]⟩ false 0 ⟨#[]⟩ (w3.alloc (.cells #[.string ⟨#[]⟩, .bool false, .int .i64 0, .string ⟨#[]⟩] 148))) := hid
      ⟨z00 (z00 HB2.out hb3) (z02 _ _), (HR.out.below hb3).below (z02 _ _), z04 w3 _ _, (HCS.out.old hb3).old (z02 _ _), (HSA2.out.old hb3).old (z02 _ _), (HEV2.out.below hb3).below (z02 _ _)⟩
     have p0 := K3.out.rp.cell (i := 0) rfl
     have p1' := K3.out.rp.cell (i := 1) rfl
     have p2 := K3.out.rp.cell (i := 2) rfl
     have p3 := K3.out.rp.cell (i := 3) rfl
     have q1 := K3.out.ra.cell (i := 1) rfl
     have q2 := K3.out.ra.cell (i := 2) rfl
     have q3 := K3.out.ra.cell (i := 3) rfl
     clear hb3 HAR c0 c1 c2 c3 d2
     go_wp2
     exact bodyPost_ret (v := .tuple #[.string ⟨#[]⟩, .int .i64 100]) (by simp [results, Tryz.results87, go_sem]) rfl ⟨z1w (by rw [HV.out, HDR.out, z1h HR1.out]), K3.out.bel⟩
    | some a =>
     obtain ⟨b1, b3, b4⟩ := HGB.out.found hf
     obtain ⟨anm, num, an, s⟩ := a
     simp only at b1 b3 b4
     cases num with
     | false =>
      have HR1 : Hid (f (.mk 4 t nm cs) sd.data.toList = .error 101) := hid (by rw [HFX.out]; exact evP_4t hf rfl)
      rw [hf] at HAR
      clear hf
      go_wp2_with fail
      refine HAR.out.mono ?_
      rintro e w3 ⟨he, hb3⟩
      obtain rfl : e = .returned (.tuple #[.agg #[.string anm, .bool false, .int .i64 an, .string s], .bool true]) := he
      have K3 : Hid (SK w wr.heap.size w3.heap.size m ab na capb gs 4 t nm a1 nc p1 cs anm false an s (w3.alloc (.cells #[.string anm, .bool false, .int .i64 an, .string s] 148))) := hid
       ⟨z00 (z00 HB2.out hb3) (z02 _ _), (HR.out.below hb3).below (z02 _ _), z04 w3 _ _, (HCS.out.old hb3).old (z02 _ _), (HSA2.out.old hb3).old (z02 _ _), (HEV2.out.below hb3).below (z02 _ _)⟩
      have p0 := K3.out.rp.cell (i := 0) rfl
      have p1' := K3.out.rp.cell (i := 1) rfl
      have p2 := K3.out.rp.cell (i := 2) rfl
      have p3 := K3.out.rp.cell (i := 3) rfl
      have q1 := K3.out.ra.cell (i := 1) rfl
      have q2 := K3.out.ra.cell (i := 2) rfl
      have q3 := K3.out.ra.cell (i := 3) rfl
      clear hb3 HAR c0 c1 c2 c3 d2
      go_wp2
      exact bodyPost_ret (v := .tuple #[.string ⟨#[]⟩, .int .i64 101]) (by simp [results, Tryz.results87, go_sem]) rfl ⟨z1w (by rw [HV.out, HDR.out, z1h HR1.out]), K3.out.bel⟩
     | true =>
      obtain ⟨ck, HCK⟩ : ∃ ck, Hid (ck = choF cs [⟨(61 :: Lib.itoa an).toArray⟩, Pu.catF lang an, z19]) := ⟨_, hid rfl⟩
      have HV3 : Hid (f (.mk 4 t nm cs) sd.data.toList = evPs lang gs m an ck sd.data.toList) := hid (by rw [HFX.out, HCK.out]; exact evP_4 hf rfl)
      rw [hf] at HAR
      clear hf
      have HCV : Hid (okPs true false ck = true) := hid (by rw [HCK.out]; exact zhm HKV.out _)
      have HCT : Hid (stPs 140737488351232 ck) := hid (by rw [HCK.out]; exact zad HTC.out _)
      obtain ⟨nk, HNK⟩ : ∃ nk, Hid (nk = ck.length) := ⟨_, hid rfl⟩
      go_wp2_with fail
      refine HAR.out.mono ?_
      rintro e w3 ⟨he, hb3⟩
      obtain rfl : e = .returned (.tuple #[.agg #[.string anm, .bool true, .int .i64 an, .string s], .bool true]) := he
      have K3 : Hid (SK w wr.heap.size w3.heap.size m ab na capb gs 4 t nm a1 nc p1 cs anm true an s (w3.alloc (.cells #[.string anm, .bool true, .int .i64 an, .string s] 148))) := hid
       ⟨z00 (z00 HB2.out hb3) (z02 _ _), (HR.out.below hb3).below (z02 _ _), z04 w3 _ _, (HCS.out.old hb3).old (z02 _ _), (HSA2.out.old hb3).old (z02 _ _), (HEV2.out.below hb3).below (z02 _ _)⟩
      have p0 := K3.out.rp.cell (i := 0) rfl
      have p1' := K3.out.rp.cell (i := 1) rfl
      have p2 := K3.out.rp.cell (i := 2) rfl
      have p3 := K3.out.rp.cell (i := 3) rfl
      have q1 := K3.out.ra.cell (i := 1) rfl
      have q2 := K3.out.ra.cell (i := 2) rfl
      have q3 := K3.out.ra.cell (i := 3) rfl
      clear hb3 HAR c0 c1 c2 c3 d2
      have HC1 : Hid (∀ W, Hid (SK w wr.heap.size w3.heap.size m ab na capb gs 4 t nm a1 nc p1 cs anm true an s W) -> Calls Tryz.prog 135 #[.agg #[.int .i64 4, .string t, .string nm, .slice a1 nc p1], .string lang, .int .i64 an] W fun e w' => ∃ a2 p2, e = .returned (.slice a2 nk p2) /\ (w'.cell? ⟨wr.heap.size, 0, none⟩ = some (.int .i64 4) /\ w'.cell? ⟨wr.heap.size, 1, none⟩ = some (.string t) /\ w'.cell? ⟨wr.heap.size, 2, none⟩ = some (.string nm) /\ w'.cell? ⟨wr.heap.size, 3, none⟩ = some (.slice a1 nc p1) /\ w'.cell? ⟨w3.heap.size, 2, none⟩ = some (.int .i64 an)) /\ Hid (SlP w' (Old w') m (.slice a2 nk p2) ck) /\ Hid (SK w wr.heap.size w3.heap.size m ab na capb gs 4 t nm a1 nc p1 cs anm true an s w')) :=
       hid (fun W k => by
        have hc := zck m W 4 t nm a1 p1 cs lang an b1 b3 (by rw [<- HNC.out]; exact k.out.cs) k.out.env
        rw [<- HCK.out, <- HNK.out, <- HNC.out] at hc
        exact hc.mono fun e w' ⟨a2, p2, he, hs, hb⟩ => ⟨a2, p2, he, (k.out.step hb).cells, hid hs, hid (k.out.step hb)⟩)
      have HRK := hid (fun (W : World) a2 p2 (k : SK w wr.heap.size w3.heap.size m ab na capb gs 4 t nm a1 nc p1 cs anm true an s W) (hs : SlP W (Old W) m (.slice a2 ck.length p2) ck) => HSM.out true lang ab capb gs an ck a2 p2 sd W b1 b3 hs (by rw [<- HNA.out]; exact k.sa) HGB.out HOK.out HCV.out HCT.out k.env hsd)
      rw [<- HNK.out, <- HNA.out] at HRK
      cases hr : evPs lang gs m an ck sd.data.toList with
      | error q =>
       have HR1 : Hid (f (.mk 4 t nm cs) sd.data.toList = .error q) := hid (by rw [HV3.out, hr])
       have hq0 := z5i hr
       have hqb : ((q : Int) != 0) = true := by rw [bne_iff_ne]; omega
       clear hq0
       rw [hr] at HRK
       clear hr
       have HC2 : Hid (∀ W a2 p2, Hid (SK w wr.heap.size w3.heap.size m ab na capb gs 4 t nm a1 nc p1 cs anm true an s W) -> Hid (SlP W (Old W) m (.slice a2 nk p2) ck) -> Calls Tryz.prog 87 #[.slice a2 nk p2, .string lang, .slice ab na capb, .int .i64 an, .string sd] W fun e w' => e = .returned (.tuple #[.string ⟨#[]⟩, .int .i64 q]) /\ (w'.cell? ⟨wr.heap.size, 0, none⟩ = some (.int .i64 4) /\ w'.cell? ⟨wr.heap.size, 1, none⟩ = some (.string t) /\ w'.cell? ⟨wr.heap.size, 2, none⟩ = some (.string nm) /\ w'.cell? ⟨wr.heap.size, 3, none⟩ = some (.slice a1 nc p1) /\ w'.cell? ⟨w3.heap.size, 2, none⟩ = some (.int .i64 an)) /\ Hid (SK w wr.heap.size w3.heap.size m ab na capb gs 4 t nm a1 nc p1 cs anm true an s w')) :=
        hid (fun W a2 p2 k hs => (HRK.out W a2 p2 k.out hs.out).mono fun e w' ⟨he, hb⟩ => ⟨he, (k.out.step hb).cells, hid (k.out.step hb)⟩)
       have K0 := hid (K3.out.step (Below.refl _ _).drew)
       have d0 := K0.out.cells
       go_wp2
       go_region_held3 (fun W => (W.cell? ⟨wr.heap.size, 0, none⟩ = some (.int .i64 4) /\ W.cell? ⟨wr.heap.size, 1, none⟩ = some (.string t) /\ W.cell? ⟨wr.heap.size, 2, none⟩ = some (.string nm) /\ W.cell? ⟨wr.heap.size, 3, none⟩ = some (.slice a1 nc p1) /\ W.cell? ⟨w3.heap.size, 2, none⟩ = some (.int .i64 an))) (first | go_keep | assumption)
        (first
         | (go_at_call 135; refine (HC1.out _ ?_).mono ?_; assumption; rintro e U1 ⟨a2, p2, rfl, hq1, hi1, hk1⟩)
         | (go_at_call 87; refine (HC2.out _ _ _ ?_ ?_).mono ?_; assumption; assumption; rintro e U2 ⟨rfl, hq2, hk2⟩)
         | fail)
       all_goals go_wp2
       all_goals exact bodyPost_ret (v := .tuple #[.string ⟨#[]⟩, .int .i64 q]) (by simp [results, Tryz.results87, go_sem]) rfl ⟨z1w (by rw [HV.out, HDR.out, z1h HR1.out]), hk2.out.bel⟩
      | ok o' =>
       have HR1 : Hid (f (.mk 4 t nm cs) sd.data.toList = .ok o') := hid (by rw [HV3.out, hr])
       have hlo := z3o (by rw [z05]; exact hsd) hr
       obtain ⟨so, HSO⟩ : ∃ so : BA, Hid (so = ⟨o'.toArray⟩) := ⟨_, hid rfl⟩
       have hso : so.size <= 8000 := by rw [HSO.out]; show o'.toArray.size <= _; rw [List.size_toArray]; exact hlo
       rw [hr] at HRK
       clear hr
       have HC2 : Hid (∀ W a2 p2, Hid (SK w wr.heap.size w3.heap.size m ab na capb gs 4 t nm a1 nc p1 cs anm true an s W) -> Hid (SlP W (Old W) m (.slice a2 nk p2) ck) -> Calls Tryz.prog 87 #[.slice a2 nk p2, .string lang, .slice ab na capb, .int .i64 an, .string sd] W fun e w' => e = .returned (.tuple #[.string so, .int .i64 0]) /\ (w'.cell? ⟨wr.heap.size, 0, none⟩ = some (.int .i64 4) /\ w'.cell? ⟨wr.heap.size, 1, none⟩ = some (.string t) /\ w'.cell? ⟨wr.heap.size, 2, none⟩ = some (.string nm) /\ w'.cell? ⟨wr.heap.size, 3, none⟩ = some (.slice a1 nc p1) /\ w'.cell? ⟨w3.heap.size, 2, none⟩ = some (.int .i64 an)) /\ Hid (SK w wr.heap.size w3.heap.size m ab na capb gs 4 t nm a1 nc p1 cs anm true an s w')) :=
        hid (fun W a2 p2 k hs => (HRK.out W a2 p2 k.out hs.out).mono fun e w' ⟨he, hb⟩ => ⟨by rw [HSO.out]; exact he, (k.out.step hb).cells, hid (k.out.step hb)⟩)
       have K0 := hid (K3.out.step (Below.refl _ _).drew)
       have d0 := K0.out.cells
       go_wp2
       go_region_held3 (fun W => (W.cell? ⟨wr.heap.size, 0, none⟩ = some (.int .i64 4) /\ W.cell? ⟨wr.heap.size, 1, none⟩ = some (.string t) /\ W.cell? ⟨wr.heap.size, 2, none⟩ = some (.string nm) /\ W.cell? ⟨wr.heap.size, 3, none⟩ = some (.slice a1 nc p1) /\ W.cell? ⟨w3.heap.size, 2, none⟩ = some (.int .i64 an))) (first | go_keep | assumption)
        (first
         | (go_at_call 135; refine (HC1.out _ ?_).mono ?_; assumption; rintro e U1 ⟨a2, p2, rfl, hq1, hi1, hk1⟩)
         | (go_at_call 87; refine (HC2.out _ _ _ ?_ ?_).mono ?_; assumption; assumption; rintro e U2 ⟨rfl, hq2, hk2⟩)
         | fail)
       all_goals have HVN : Hid (evL f xs l0 = evL f (xs.drop (k + 1)) so.data.toList) := hid (by rw [HV.out, HDR.out, z39 HR1.out, HSO.out])
       all_goals (have HBE := hid hk2.out.bel)
       all_goals have hso8 : ¬ (8000 : Int) < (so.size : Int) := by omega
       all_goals go_wp2
       all_goals go_roundw
       all_goals first | (exact ⟨k + 1, so, by omega, by go_num, rfl, hso, HVN, HBE⟩) | (simp [intOf]; omega)
   by_cases h5 : pk = 5
   ·subst h5
    obtain ⟨hne, hkv⟩ := okP_5 hokp
    have hnm := zc0 hne
    have HKV := hid hkv
    clear hokp hne hkv
    cases hf : findA gs nm with
    | none =>
     have HR1 : Hid (f (.mk 5 t nm cs) sd.data.toList = .error 100) := hid (by rw [HFX.out]; exact evP_5n hf)
     rw [hf] at HAR
     clear hf
     go_wp2_with fail
     refine HAR.out.mono ?_
     rintro e w3 ⟨he, hb3⟩
     obtain rfl : e = .returned (.tuple #[.agg #[.string ⟨#[]⟩, .bool false, .int .i64 0, .string ⟨#[]⟩], .bool false]) := he
     have K3 : Hid (SK w wr.heap.size w3.heap.size m ab na capb gs 5 t nm a1 nc p1 cs ⟨#[]⟩ false 0 ⟨#[]⟩ (w3.alloc (.cells #[.string ⟨#[]⟩, .bool false, .int .i64 0, .string ⟨#[]⟩] 148))) := hid
      ⟨z00 (z00 HB2.out hb3) (z02 _ _), (HR.out.below hb3).below (z02 _ _), z04 w3 _ _, (HCS.out.old hb3).old (z02 _ _), (HSA2.out.old hb3).old (z02 _ _), (HEV2.out.below hb3).below (z02 _ _)⟩
     have p0 := K3.out.rp.cell (i := 0) rfl
     have p1' := K3.out.rp.cell (i := 1) rfl
     have p2 := K3.out.rp.cell (i := 2) rfl
     have p3 := K3.out.rp.cell (i := 3) rfl
     have q1 := K3.out.ra.cell (i := 1) rfl
     have q2 := K3.out.ra.cell (i := 2) rfl
     have q3 := K3.out.ra.cell (i := 3) rfl
     clear hb3 HAR c0 c1 c2 c3 d2
     go_wp2
     exact bodyPost_ret (v := .tuple #[.string ⟨#[]⟩, .int .i64 100]) (by simp [results, Tryz.results87, go_sem]) rfl ⟨z1w (by rw [HV.out, HDR.out, z1h HR1.out]), K3.out.bel⟩
    | some a =>
     obtain ⟨b1, b3, b4⟩ := HGB.out.found hf
     obtain ⟨anm, num, an, s⟩ := a
     simp only at b1 b3 b4
     cases num with
     | true =>
      have HR1 : Hid (f (.mk 5 t nm cs) sd.data.toList = .error 101) := hid (by rw [HFX.out]; exact evP_5t hf rfl)
      rw [hf] at HAR
      clear hf
      go_wp2_with fail
      refine HAR.out.mono ?_
      rintro e w3 ⟨he, hb3⟩
      obtain rfl : e = .returned (.tuple #[.agg #[.string anm, .bool true, .int .i64 an, .string s], .bool true]) := he
      have K3 : Hid (SK w wr.heap.size w3.heap.size m ab na capb gs 5 t nm a1 nc p1 cs anm true an s (w3.alloc (.cells #[.string anm, .bool true, .int .i64 an, .string s] 148))) := hid
       ⟨z00 (z00 HB2.out hb3) (z02 _ _), (HR.out.below hb3).below (z02 _ _), z04 w3 _ _, (HCS.out.old hb3).old (z02 _ _), (HSA2.out.old hb3).old (z02 _ _), (HEV2.out.below hb3).below (z02 _ _)⟩
      have p0 := K3.out.rp.cell (i := 0) rfl
      have p1' := K3.out.rp.cell (i := 1) rfl
      have p2 := K3.out.rp.cell (i := 2) rfl
      have p3 := K3.out.rp.cell (i := 3) rfl
      have q1 := K3.out.ra.cell (i := 1) rfl
      have q2 := K3.out.ra.cell (i := 2) rfl
      have q3 := K3.out.ra.cell (i := 3) rfl
      clear hb3 HAR c0 c1 c2 c3 d2
      go_wp2
      exact bodyPost_ret (v := .tuple #[.string ⟨#[]⟩, .int .i64 101]) (by simp [results, Tryz.results87, go_sem]) rfl ⟨z1w (by rw [HV.out, HDR.out, z1h HR1.out]), K3.out.bel⟩
     | false =>
      have HV2 : Hid (f (.mk 5 t nm cs) sd.data.toList = evPs lang gs m h (choF cs [s, z19]) sd.data.toList) := hid (by rw [HFX.out]; exact evP_5 hf rfl)
      rw [hf] at HAR
      clear hf
      go_wp2_with fail
      refine HAR.out.mono ?_
      rintro e w3 ⟨he, hb3⟩
      obtain rfl : e = .returned (.tuple #[.agg #[.string anm, .bool false, .int .i64 an, .string s], .bool true]) := he
      have K3 : Hid (SK w wr.heap.size w3.heap.size m ab na capb gs 5 t nm a1 nc p1 cs anm false an s (w3.alloc (.cells #[.string anm, .bool false, .int .i64 an, .string s] 148))) := hid
       ⟨z00 (z00 HB2.out hb3) (z02 _ _), (HR.out.below hb3).below (z02 _ _), z04 w3 _ _, (HCS.out.old hb3).old (z02 _ _), (HSA2.out.old hb3).old (z02 _ _), (HEV2.out.below hb3).below (z02 _ _)⟩
      have p0 := K3.out.rp.cell (i := 0) rfl
      have p1' := K3.out.rp.cell (i := 1) rfl
      have p2 := K3.out.rp.cell (i := 2) rfl
      have p3 := K3.out.rp.cell (i := 3) rfl
      have q1 := K3.out.ra.cell (i := 1) rfl
      have q2 := K3.out.ra.cell (i := 2) rfl
      have q3 := K3.out.ra.cell (i := 3) rfl
      clear hb3 HAR c0 c1 c2 c3 d2
      have HKK : Hid (∀ key W, SlC W (Old W) m (.slice a1 nc p1) cs -> Calls Tryz.prog 136 #[.agg #[.int .i64 5, .string t, .string nm, .slice a1 nc p1], .string key] W fun e w' => KidE w' m (cs.find? (ky key)) e /\ Below W.heap.size W w') := hid (fun key W hc => by
       have := zap m W 5 t nm a1 p1 cs key (by rw [<- HNC.out]; exact hc)
       rw [<- HNC.out] at this; exact this)
      have HRK : Hid (∀ (ck : List Pt) (W : World) a2 p2, SlP W (Old W) m (.slice a2 ck.length p2) ck -> SlA W (Old W) (.slice ab na capb) gs -> EnvW W -> okPs hb false ck = true -> stPs 140737488351232 ck -> Calls Tryz.prog 87 #[.slice a2 ck.length p2, .string lang, .slice ab na capb, .int .i64 h, .string sd] W fun e w' => EvE (evPs lang gs m h ck sd.data.toList) e /\ Below W.heap.size W w') := hid (fun ck W a2 p2 hs ha he hv ht => by
       have := HSM.out hb lang ab capb gs h ck a2 p2 sd W hh1 hh2 hs (by rw [<- HNA.out]; exact ha) HGB.out HOK.out hv ht he hsd
       rw [<- HNA.out] at this; exact this)
      have HCHO : Hid (okPs hb false (choF cs [s, z19]) = true /\ stPs 140737488351232 (choF cs [s, z19])) := hid ⟨zhm HKV.out _, zad HTC.out _⟩
      have HA1 := hid (HKK.out s _ K3.out.cs)
      cases hr1 : cs.find? (ky s) with
      | some c =>
       have HCE : Hid (choF cs [s, z19] = c.kids) := hid (z4f hr1)
       rw [hr1] at HA1
       clear hr1
       go_wp2_with fail
       refine HA1.out.mono ?_
       rintro e w5 ⟨⟨a2, p2', rfl, hs5⟩, hb5⟩
       have K5 := hid (K3.out.step hb5)
       have HS5 := hid hs5
       clear hs5 hb5 p0 p1' p2 p3 q1 q2 q3
       have HS9 := hid (HRK.out (c.kids) w5 a2 p2' HS5.out K5.out.sa K5.out.env (by have := HCHO.out.1; rw [HCE.out] at this; exact this) (by have := HCHO.out.2; rw [HCE.out] at this; exact this))
       have HV3 : Hid (f (.mk 5 t nm cs) sd.data.toList = evPs lang gs m h (c.kids) sd.data.toList) := hid (by rw [HV2.out, HCE.out])
       cases hr : evPs lang gs m h (c.kids) sd.data.toList with
       | error q =>
        have HR1 : Hid (f (.mk 5 t nm cs) sd.data.toList = .error q) := hid (by rw [HV3.out, hr])
        have hq0 := z5i hr
        have hqb : ((q : Int) != 0) = true := by rw [bne_iff_ne]; omega
        clear hq0
        rw [hr] at HS9
        clear hr
        go_wp2_with fail
        refine HS9.out.mono ?_
        rintro e w9 ⟨he9, hb9⟩
        obtain rfl : e = .returned (.tuple #[.string ⟨#[]⟩, .int .i64 q]) := he9
        have HBE := hid (K5.out.step hb9).bel
        clear hb9
        go_wp2
        exact bodyPost_ret (v := .tuple #[.string ⟨#[]⟩, .int .i64 q]) (by simp [results, Tryz.results87, go_sem]) rfl ⟨z1w (by rw [HV.out, HDR.out, z1h HR1.out]), HBE.out⟩
       | ok o' =>
        have HR1 : Hid (f (.mk 5 t nm cs) sd.data.toList = .ok o') := hid (by rw [HV3.out, hr])
        have hlo := z3o (by rw [z05]; exact hsd) hr
        obtain ⟨so, HSO⟩ : ∃ so : BA, Hid (so = ⟨o'.toArray⟩) := ⟨_, hid rfl⟩
        have hso : so.size <= 8000 := by rw [HSO.out]; show o'.toArray.size <= _; rw [List.size_toArray]; exact hlo
        rw [hr] at HS9
        clear hr
        go_wp2_with fail
        refine HS9.out.mono ?_
        rintro e w9 ⟨he9, hb9⟩
        obtain rfl : e = .returned (.tuple #[.string so, .int .i64 0]) := by rw [HSO.out]; exact he9
        have HBE := hid (K5.out.step hb9).bel
        clear hb9
        have HVN : Hid (evL f xs l0 = evL f (xs.drop (k + 1)) so.data.toList) := hid (by rw [HV.out, HDR.out, z39 HR1.out, HSO.out])
        have hso8 : ¬ (8000 : Int) < (so.size : Int) := by omega
        go_wp2
        go_roundw
        case rel => exact ⟨k + 1, so, by omega, by go_num, rfl, hso, HVN, HBE⟩
        case measure => simp [intOf]; omega
      | none =>
       have HMS : Hid (choF cs [s, z19] = choF cs [z19]) := hid (z2z hr1)
       rw [hr1] at HA1
       clear hr1
       go_wp2_with fail
       refine HA1.out.mono ?_
       rintro e w5 ⟨he5, hb5⟩
       obtain rfl : e = .returned (.tuple #[.slice none 0 0, .bool false]) := he5
       have K5 := hid (K3.out.step hb5)
       clear hb5 p0 p1' p2 p3 q1 q2 q3
       have HA2 := hid (HKK.out z19 _ K5.out.cs)
       have p0 := K5.out.rp.cell (i := 0) rfl
       have p1' := K5.out.rp.cell (i := 1) rfl
       have p2 := K5.out.rp.cell (i := 2) rfl
       have p3 := K5.out.rp.cell (i := 3) rfl
       cases hr2 : cs.find? (ky z19) with
       | some c =>
        have HCE : Hid (choF cs [s, z19] = c.kids) := hid (by rw [HMS.out]; exact z4f hr2)
        rw [hr2] at HA2
        clear hr2
        go_wp2_with fail
        refine HA2.out.mono ?_
        rintro e w6 ⟨⟨a2, p2', rfl, hs6⟩, hb6⟩
        have K6 := hid (K5.out.step hb6)
        have HS6 := hid hs6
        clear hs6 hb6 p0 p1' p2 p3
        have HS9 := hid (HRK.out (c.kids) w6 a2 p2' HS6.out K6.out.sa K6.out.env (by have := HCHO.out.1; rw [HCE.out] at this; exact this) (by have := HCHO.out.2; rw [HCE.out] at this; exact this))
        have HV3 : Hid (f (.mk 5 t nm cs) sd.data.toList = evPs lang gs m h (c.kids) sd.data.toList) := hid (by rw [HV2.out, HCE.out])
        cases hr : evPs lang gs m h (c.kids) sd.data.toList with
        | error q =>
         have HR1 : Hid (f (.mk 5 t nm cs) sd.data.toList = .error q) := hid (by rw [HV3.out, hr])
         have hq0 := z5i hr
         have hqb : ((q : Int) != 0) = true := by rw [bne_iff_ne]; omega
         clear hq0
         rw [hr] at HS9
         clear hr
         go_wp2_with fail
         refine HS9.out.mono ?_
         rintro e w9 ⟨he9, hb9⟩
         obtain rfl : e = .returned (.tuple #[.string ⟨#[]⟩, .int .i64 q]) := he9
         have HBE := hid (K6.out.step hb9).bel
         clear hb9
         go_wp2
         exact bodyPost_ret (v := .tuple #[.string ⟨#[]⟩, .int .i64 q]) (by simp [results, Tryz.results87, go_sem]) rfl ⟨z1w (by rw [HV.out, HDR.out, z1h HR1.out]), HBE.out⟩
        | ok o' =>
         have HR1 : Hid (f (.mk 5 t nm cs) sd.data.toList = .ok o') := hid (by rw [HV3.out, hr])
         have hlo := z3o (by rw [z05]; exact hsd) hr
         obtain ⟨so, HSO⟩ : ∃ so : BA, Hid (so = ⟨o'.toArray⟩) := ⟨_, hid rfl⟩
         have hso : so.size <= 8000 := by rw [HSO.out]; show o'.toArray.size <= _; rw [List.size_toArray]; exact hlo
         rw [hr] at HS9
         clear hr
         go_wp2_with fail
         refine HS9.out.mono ?_
         rintro e w9 ⟨he9, hb9⟩
         obtain rfl : e = .returned (.tuple #[.string so, .int .i64 0]) := by rw [HSO.out]; exact he9
         have HBE := hid (K6.out.step hb9).bel
         clear hb9
         have HVN : Hid (evL f xs l0 = evL f (xs.drop (k + 1)) so.data.toList) := hid (by rw [HV.out, HDR.out, z39 HR1.out, HSO.out])
         have hso8 : ¬ (8000 : Int) < (so.size : Int) := by omega
         go_wp2
         go_roundw
         case rel => exact ⟨k + 1, so, by omega, by go_num, rfl, hso, HVN, HBE⟩
         case measure => simp [intOf]; omega
       | none =>
        have HCE : Hid (choF cs [s, z19] = []) := hid (by rw [HMS.out]; exact z2z hr2)
        rw [hr2] at HA2
        clear hr2
        go_wp2_with fail
        refine HA2.out.mono ?_
        rintro e w6 ⟨he6, hb6⟩
        obtain rfl : e = .returned (.tuple #[.slice none 0 0, .bool false]) := he6
        have K6 := hid (K5.out.step hb6)
        have HS6 : Hid (SlP w6 (Old w6) m (.slice none 0 0) []) := hid (Sl.nil _ _ _ _)
        clear hb6 p0 p1' p2 p3
        have HS9 := hid (HRK.out (([] : List Pt)) w6 none 0 HS6.out K6.out.sa K6.out.env (by have := HCHO.out.1; rw [HCE.out] at this; exact this) (by have := HCHO.out.2; rw [HCE.out] at this; exact this))
        have HV3 : Hid (f (.mk 5 t nm cs) sd.data.toList = evPs lang gs m h (([] : List Pt)) sd.data.toList) := hid (by rw [HV2.out, HCE.out])
        cases hr : evPs lang gs m h (([] : List Pt)) sd.data.toList with
        | error q =>
         have HR1 : Hid (f (.mk 5 t nm cs) sd.data.toList = .error q) := hid (by rw [HV3.out, hr])
         have hq0 := z5i hr
         have hqb : ((q : Int) != 0) = true := by rw [bne_iff_ne]; omega
         clear hq0
         rw [hr] at HS9
         clear hr
         go_wp2_with fail
         refine HS9.out.mono ?_
         rintro e w9 ⟨he9, hb9⟩
         obtain rfl : e = .returned (.tuple #[.string ⟨#[]⟩, .int .i64 q]) := he9
         have HBE := hid (K6.out.step hb9).bel
         clear hb9
         go_wp2
         exact bodyPost_ret (v := .tuple #[.string ⟨#[]⟩, .int .i64 q]) (by simp [results, Tryz.results87, go_sem]) rfl ⟨z1w (by rw [HV.out, HDR.out, z1h HR1.out]), HBE.out⟩
        | ok o' =>
         have HR1 : Hid (f (.mk 5 t nm cs) sd.data.toList = .ok o') := hid (by rw [HV3.out, hr])
         have hlo := z3o (by rw [z05]; exact hsd) hr
         obtain ⟨so, HSO⟩ : ∃ so : BA, Hid (so = ⟨o'.toArray⟩) := ⟨_, hid rfl⟩
         have hso : so.size <= 8000 := by rw [HSO.out]; show o'.toArray.size <= _; rw [List.size_toArray]; exact hlo
         rw [hr] at HS9
         clear hr
         go_wp2_with fail
         refine HS9.out.mono ?_
         rintro e w9 ⟨he9, hb9⟩
         obtain rfl : e = .returned (.tuple #[.string so, .int .i64 0]) := by rw [HSO.out]; exact he9
         have HBE := hid (K6.out.step hb9).bel
         clear hb9
         have HVN : Hid (evL f xs l0 = evL f (xs.drop (k + 1)) so.data.toList) := hid (by rw [HV.out, HDR.out, z39 HR1.out, HSO.out])
         have hso8 : ¬ (8000 : Int) < (so.size : Int) := by omega
         go_wp2
         go_roundw
         case rel => exact ⟨k + 1, so, by omega, by go_num, rfl, hso, HVN, HBE⟩
         case measure => simp [intOf]; omega
   exact absurd (okP_0 hokp) (by omega)
  ·have HFE : Hid (evL f xs l0 = .ok sd.data.toList) := hid (by rw [HV.out, List.drop_eq_nil_of_le (by have := HL.out; omega), evL])
   go_wp2
   exact bodyPost_ret (v := .tuple #[.string sd, .int .i64 0]) (by simp [results, Tryz.results87, go_sem]) rfl ⟨evE_ok HFE.out rfl, HB.out⟩
theorem sayK_all : ∀ n, SayK n := by
 intro n
 induction n using Nat.strongRecOn with
 | _ n ih => exact sayK_of n ih
end Go.Proofs.YtdnedbcmgkilaaaGreatDoor
