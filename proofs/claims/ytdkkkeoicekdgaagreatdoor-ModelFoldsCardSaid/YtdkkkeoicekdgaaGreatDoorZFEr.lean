/- Package catalog: Right. -/
import Derived.Test.YtdkkkeoicekdgaaGreatDoorZFg12

namespace Go.Proofs.YtdkkkeoicekdgaaGreatDoor.Ca
set_option maxHeartbeats 6400000
set_option maxRecDepth 100000
open Go.Lib (hid)
open Go.RowKit Go.Proofs.YtdkkkeoicekdgaaGreatDoor
abbrev cmpFn : Value := .func (.func 155) #[] #[]
abbrev soV (a : Option Addr) (n cap : Nat) : Value := .agg #[.slice a n cap, cmpFn]
theorem z8a (a : Option Addr) (n cap : Nat) (w : World) : Calls Tryz.prog 121 #[.slice a n cap] w fun e w' => e = .returned (soV a n cap) /\ Below w.heap.size w w' := by
 have HB := hid (z04 w (.cells #[.slice a n cap, cmpFn] 172))
 go_enter Tryz.func121, Tryz.ntmps121
 go_wp2;exact bodyPost_ret (v := soV a n cap) (by simp [results, Tryz.results121, go_sem]) rfl ⟨rfl, HB.out⟩
def RisP (xs : List Ent) (w : World) (e : Ending) (w' : World) : Prop := ∃ q : Bool, e = .returned (.bool q) /\ (q = true ↔ Srt xs) /\ Below w.heap.size w w'
theorem RisP.yes {xs : List Ent} {w w' : World} (h : Srt xs) (hb : Below w.heap.size w w') : RisP xs w (.returned (.bool true)) w' := ⟨true, rfl, ⟨fun _ => h, fun _ => rfl⟩, hb⟩
theorem RisP.no {xs : List Ent} {w w' : World} (h : ¬ Srt xs) (hb : Below w.heap.size w w') : RisP xs w (.returned (.bool false)) w' := ⟨false, rfl, ⟨fun h => (by cases h), fun k => absurd k h⟩, hb⟩
theorem zf6 (w : World) (S : Nat) (a : Option Addr) (cap : Nat) (xs : List Ent) (hS : Row w S 172 [.slice a xs.length cap, cmpFn]) (hX : SlE w (Old w) (.slice a xs.length cap) xs) :
  Calls Tryz.prog 122 #[.pointer (some ⟨S, 0, none⟩)] w (RisP xs w) := by
 have hl := hX.len;have HX := hid hX;have HS := hid hS;have c0 := hS.c0;have c1 := hS.c1;obtain ⟨L, HL⟩ := nmd (xs.length)
 have C : L <= 9223372036854775807 := by have := HL.out; omega
 rw [<- HL.out] at HX HS c0;clear hX hS hl
 by_cases h0 : L = 0
 ·have HQ : Hid (Srt xs) := hid (by
   have : xs = [] := List.length_eq_zero_iff.1 (by rw [<- HL.out, h0])
   subst this; exact List.Pairwise.nil)
  subst h0
  go_enter Tryz.func122, Tryz.ntmps122
  go_wp2
  go_loop [10] (fun i => i = .int .i64 0) (fun _ => 0)
  case atStart => exact rfl
  case round =>
   subst hrel;go_wp2;go_ret;exact RisP.yes HQ.out (Below.refl _ _)
 ·have D : 1 <= L := by omega
  clear h0
  go_enter Tryz.func122, Tryz.ntmps122
  go_wp2
  go_loopw [10] (fun i wr => ∃ k : Nat, k + 1 <= L /\ i = .int .i64 k /\ Hid (Below w.heap.size w wr) /\ Hid (∀ (j : Nat) x y, j < k -> xs[j]? = some x -> xs[j + 1]? = some y -> ahB x y = true)) (fun i _ => L - (intOf i).toNat)
  case atStart => exact ⟨0, by omega, rfl, hid (Below.refl _ _), hid (fun j x y h => by omega)⟩
  case round =>
   obtain ⟨k, hk, rfl, HB, HA⟩ := hrel
   by_cases hlt : k + 1 < L
   ·obtain ⟨x, hx⟩ : ∃ x, xs[k]? = some x := ⟨_, List.getElem?_eq_getElem (by have := HL.out; omega)⟩
    obtain ⟨y, hy⟩ : ∃ y, xs[k + 1]? = some y := ⟨_, List.getElem?_eq_getElem (by have := HL.out; omega)⟩;have q := hid (HX.out.old HB.out);have l := hid (HS.out.below HB.out);obtain ⟨b, d, rfl, f, x0, x1, x2⟩ := q.out.get hx;obtain ⟨b', B, m, -, y0, y1, y2⟩ := q.out.get hy
    injection m with m
    injection m with hb1 hb2
    subst hb1 hb2;have s0 := l.out.c0;have s1 := l.out.c1;have r : S < wr.heap.size := l.out.lt;have HC := hid (fun W => z4u x y W)
    have HD : Hid (∀ W, Hid (Below wr.heap.size wr W) -> (W.cell? ⟨S, 0, none⟩ = some (.slice (some ⟨b, d, none⟩) L cap) /\ W.cell? ⟨S, 1, none⟩ = some cmpFn /\ W.cell? ⟨b, d + k * 3, none⟩ = some (.string x.loc) /\ W.cell? ⟨b, d + k * 3 + 1, none⟩ = some (.string x.key) /\ W.cell? ⟨b, d + k * 3 + 2, none⟩ = some (.string x.pat) /\ W.cell? ⟨b, d + (k + 1) * 3, none⟩ = some (.string y.loc) /\ W.cell? ⟨b, d + (k + 1) * 3 + 1, none⟩ = some (.string y.key) /\ W.cell? ⟨b, d + (k + 1) * 3 + 2, none⟩ = some (.string y.pat))) := hid (fun W h =>
     ⟨(h.out.cell (p := ⟨S, 0, none⟩) r).trans s0, (h.out.cell (p := ⟨S, 1, none⟩) r).trans s1, (h.out.cell (p := ⟨b, _, none⟩) f).trans x0, (h.out.cell (p := ⟨b, _, none⟩) f).trans x1, (h.out.cell (p := ⟨b, _, none⟩) f).trans x2, (h.out.cell (p := ⟨b, _, none⟩) f).trans y0, (h.out.cell (p := ⟨b, _, none⟩) f).trans y1, (h.out.cell (p := ⟨b, _, none⟩) f).trans y2⟩)
    have HN : Hid (ahB x y = true -> ∀ (j : Nat) x' y', j < k + 1 -> xs[j]? = some x' -> xs[j + 1]? = some y' -> ahB x' y' = true) := hid (fun h j x' y' hj hx' hy' => by
     rcases Nat.lt_or_eq_of_le (Nat.le_of_lt_succ hj) with h1 | rfl
     ·exact HA.out j x' y' h1 hx' hy'
     ·rw [hx] at hx'; rw [hy] at hy'
      obtain rfl := Option.some.inj hx';obtain rfl := Option.some.inj hy'
      exact h)
    have HF : Hid (ahB x y = false -> ¬ Srt xs) := hid (fun h hs => by rw [z6s hs hx hy] at h; cases h);have g := hid (zcu x y);obtain ⟨c, s⟩ := nmd (cmpE x y);rw [<- s.out] at HC g
    have n : Hid (∀ W, Hid (Below wr.heap.size wr W) -> Calls Tryz.prog 155 #[enV x, enV y] W fun e w' => e = .returned (.int .i64 c) /\ (w'.cell? ⟨S, 0, none⟩ = some (.slice (some ⟨b, d, none⟩) L cap) /\ w'.cell? ⟨S, 1, none⟩ = some cmpFn /\ w'.cell? ⟨b, d + k * 3, none⟩ = some (.string x.loc) /\ w'.cell? ⟨b, d + k * 3 + 1, none⟩ = some (.string x.key) /\ w'.cell? ⟨b, d + k * 3 + 2, none⟩ = some (.string x.pat) /\ w'.cell? ⟨b, d + (k + 1) * 3, none⟩ = some (.string y.loc) /\ w'.cell? ⟨b, d + (k + 1) * 3 + 1, none⟩ = some (.string y.key) /\ w'.cell? ⟨b, d + (k + 1) * 3 + 2, none⟩ = some (.string y.pat)) /\ Hid (Below wr.heap.size wr w')) :=
     hid (fun W h => (HC.out W).mono fun e w' ⟨he, hb⟩ => ⟨he, HD.out w' (hid (z00 h.out hb)), hid (z00 h.out hb)⟩)
    have t : Hid (Below wr.heap.size wr wr.drew) := hid (Below.refl _ _).drew;clear x0 x1 x2 y0 y1 y2;obtain ⟨xl, xk, xp⟩ := x;obtain ⟨yl, yk, yp⟩ := y;simp only at HD n g HN HF;have dd := HD.out _ t;have q1 : IntKind.i64.wrap ((k : Int) + 1) = (k : Int) + 1 := IntWalk.i64_in _ (by omega)
    have q2 : ((k : Int) + 1).toNat = k + 1 := by omega
    have q3 : (0 : Int) <= (k : Int) + 1 := by omega
    have q4 : (k : Int) + 1 < (L : Int) := by omega
    have q5 : (k : Int) < (L : Int) := by omega
    clear hx hy s0 s1
    cases hah : ahB ⟨xl, xk, xp⟩ ⟨yl, yk, yp⟩ with
    | true =>
     have u : c < 0 := by have h1 := g.out; rw [hah] at h1; exact of_decide_eq_true h1
     have v := hid (HN.out hah);clear hah;go_wp2
     go_region_held3 (fun W => W.cell? ⟨S, 0, none⟩ = some (.slice (some ⟨b, d, none⟩) L cap) /\ W.cell? ⟨S, 1, none⟩ = some cmpFn /\ W.cell? ⟨b, d + k * 3, none⟩ = some (.string xl) /\ W.cell? ⟨b, d + k * 3 + 1, none⟩ = some (.string xk) /\ W.cell? ⟨b, d + k * 3 + 2, none⟩ = some (.string xp) /\ W.cell? ⟨b, d + (k + 1) * 3, none⟩ = some (.string yl) /\ W.cell? ⟨b, d + (k + 1) * 3 + 1, none⟩ = some (.string yk) /\ W.cell? ⟨b, d + (k + 1) * 3 + 2, none⟩ = some (.string yp)) (first | go_keep | assumption)
      (first
       | (go_at_call 155; refine (n.out _ ?_).mono ?_; assumption; rintro e U1 ⟨rfl, z, o⟩)
       | fail)
     go_wp2;go_roundw
     case rel => exact ⟨k + 1, by omega, by go_num, hid (z00 HB.out o.out), v⟩
     case measure => simp [intOf]; omega
    | false =>
    have u : 0 <= c := by have h1 := g.out; rw [hah] at h1; have h2 := of_decide_eq_false h1; omega
    have A := hid (HF.out hah);clear hah;go_wp2
    go_region_held3 (fun W => W.cell? ⟨S, 0, none⟩ = some (.slice (some ⟨b, d, none⟩) L cap) /\ W.cell? ⟨S, 1, none⟩ = some cmpFn /\ W.cell? ⟨b, d + k * 3, none⟩ = some (.string xl) /\ W.cell? ⟨b, d + k * 3 + 1, none⟩ = some (.string xk) /\ W.cell? ⟨b, d + k * 3 + 2, none⟩ = some (.string xp) /\ W.cell? ⟨b, d + (k + 1) * 3, none⟩ = some (.string yl) /\ W.cell? ⟨b, d + (k + 1) * 3 + 1, none⟩ = some (.string yk) /\ W.cell? ⟨b, d + (k + 1) * 3 + 2, none⟩ = some (.string yp)) (first | go_keep | assumption)
     (first
      | (go_at_call 155; refine (n.out _ ?_).mono ?_; assumption; rintro e U1 ⟨rfl, z, o⟩)
      | fail)
    go_wp2;go_ret;exact RisP.no A.out (z00 HB.out o.out)
   ·have HQ : Hid (Srt xs) := hid (z5z (fun i a b ha hb => HA.out i a b (by have := (List.getElem?_eq_some_iff.1 hb).1; have := HL.out; omega) ha hb))
    go_wp2;go_ret;exact RisP.yes HQ.out HB.out
def IdxP (xs : List Ent) (w : World) (e : Ending) (w' : World) : Prop := ∃ i : Int, e = .returned (.int .i64 i) /\ ((0 <= i /\ i <= xs.length /\ ¬ (∀ x, x ∈ xs -> mayB x = true)) ∨ (i = -1 /\ ∀ x, x ∈ xs -> mayB x = true)) /\ Below w.heap.size w w'
def AnyP (xs : List Ent) (w : World) (e : Ending) (w' : World) : Prop := ∃ q : Bool, e = .returned (.bool q) /\ (q = false ↔ ∀ x, x ∈ xs -> mayB x = true) /\ Below w.heap.size w w'
theorem zhi (w : World) (a : Option Addr) (cap : Nat) (xs : List Ent) (hX : SlE w (Old w) (.slice a xs.length cap) xs) (hF : ∀ x, x ∈ xs -> FitE x) (hE : EnvC w) :
  Calls Tryz.prog 156 #[.slice a xs.length cap, .func (.func 124) #[] #[]] w (IdxP xs w) := by
 have hl := hX.len;have HX := hid hX;have HF := hid hF;have HE := hid hE;obtain ⟨L, HL⟩ := nmd (xs.length)
 have f : L <= 9223372036854775807 := by have := HL.out; omega
 rw [<- HL.out] at HX ⊢;clear hX hF hE hl
 go_enter Tryz.func156, Tryz.ntmps156
 go_wp2
 go_loopw [8] (fun i wr => ∃ k : Nat, k <= L /\ i = .int .i64 k /\ Hid (Below w.heap.size w wr) /\ Hid (∀ (j : Nat) x, j < k -> xs[j]? = some x -> mayB x = true)) (fun i _ => L - (intOf i).toNat)
 case atStart => exact ⟨0, by omega, rfl, hid (Below.refl _ _), hid (fun j x h => by omega)⟩
 case round =>
  obtain ⟨k, hk, rfl, HB, HA⟩ := hrel
  by_cases hlt : k < L
  ·obtain ⟨x, hx⟩ : ∃ x, xs[k]? = some x := ⟨_, List.getElem?_eq_getElem (by have := HL.out; omega)⟩
   obtain ⟨b, g, rfl, -, x0, x1, x2⟩ := (HX.out.old HB.out).get hx;have HC := hid (z15 x wr (HE.out.below HB.out) (HF.out x (List.mem_of_getElem? hx)));have d := hid hx;clear hx
   cases hm : mayB x with
   | true =>
    have HN : Hid (∀ (j : Nat) y, j < k + 1 -> xs[j]? = some y -> mayB y = true) := hid (fun j y hj hy => by
     rcases Nat.lt_or_eq_of_le (Nat.le_of_lt_succ hj) with h1 | rfl
     ·exact HA.out j y h1 hy
     ·rw [d.out] at hy
      obtain rfl := Option.some.inj hy
      exact hm)
    rw [hm] at HC;clear hm;obtain ⟨xl, xk, xp⟩ := x;simp only at x0 x1 x2 HC
    go_wp2_with fail
    refine HC.out.mono ?_;rintro e w1 ⟨rfl, hb⟩;have c := hid (z00 HB.out hb);clear hb;go_wp2;go_roundw
    case rel => exact ⟨k + 1, by omega, by go_num, c, HN⟩
    case measure => simp [intOf]; omega
   | false =>
    have HN : Hid (¬ (∀ x, x ∈ xs -> mayB x = true)) := hid (fun h => by rw [h x (List.mem_of_getElem? d.out)] at hm; cases hm);rw [hm] at HC;clear hm;obtain ⟨xl, xk, xp⟩ := x;simp only at x0 x1 x2 HC
    go_wp2_with fail
    refine HC.out.mono ?_;rintro e w1 ⟨rfl, hb⟩;have c := hid (z00 HB.out hb);clear hb;go_wp2;go_ret;exact ⟨k, rfl, .inl ⟨by omega, by have := HL.out; omega, HN.out⟩, c.out⟩
  ·have HQ : Hid (∀ x, x ∈ xs -> mayB x = true) := hid (fun x hx => by
    obtain ⟨j, hj⟩ := List.mem_iff_getElem?.1 hx
    exact HA.out j x (by have := (List.getElem?_eq_some_iff.1 hj).1; have := HL.out; omega) hj)
   go_wp2;go_ret;exact ⟨-1, rfl, .inr ⟨rfl, HQ.out⟩, HB.out⟩
theorem zbb (w : World) (a : Option Addr) (cap : Nat) (xs : List Ent) (hX : SlE w (Old w) (.slice a xs.length cap) xs) (hF : ∀ x, x ∈ xs -> FitE x) (hE : EnvC w) :
  Calls Tryz.prog 123 #[.slice a xs.length cap, .func (.func 124) #[] #[]] w (AnyP xs w) := by
 have HC := hid (zhi w a cap xs hX hF hE);have hl := hX.len;clear hX hF hE
 generalize xs.length = L at *
 go_enter Tryz.func123, Tryz.ntmps123
 go_wp2_with fail
 refine HC.out.mono ?_;rintro e w1 ⟨i, rfl, hi, hb⟩;have HB := hid hb;clear hb HC
 rcases hi with ⟨h0, h1, h2⟩ | ⟨h0, h1⟩
 ·have HN := hid h2
  clear h2;go_wp2;go_ret;exact ⟨true, z01 (by first | rfl | (simp; done) | (simp; omega)), ⟨(fun h => by cases h), fun h => absurd h HN.out⟩, HB.out⟩
 ·have HN := hid h1
  clear h1;subst h0;go_wp2;go_ret;exact ⟨false, z01 (by first | rfl | (simp; done) | (simp; omega)), ⟨fun _ => HN.out, fun _ => rfl⟩, HB.out⟩
theorem z6x {l : List Ent} (h : 200 < l.length) : z0n l = 2 := by unfold z0n; rw [if_pos h]
theorem z81 {l : List Ent} (h : ¬ 200 < l.length) (h2 : ¬ ((∀ e, e ∈ l -> mayB e = true) /\ Srt l)) : z0n l = 110 := by unfold z0n; rw [if_neg h, if_neg h2]
theorem za9 {l : List Ent} (h : ¬ 200 < l.length) (h2 : (∀ e, e ∈ l -> mayB e = true) /\ Srt l) : z0n l = 0 := by unfold z0n; rw [if_neg h, if_pos h2]
theorem z2u (w : World) (a : Option Addr) (cap : Nat) (xs : List Ent) (hX : SlE w (Old w) (.slice a xs.length cap) xs) (hF : ∀ x, x ∈ xs -> FitE x) (hE : EnvC w) :
  Calls Tryz.prog 70 #[.slice a xs.length cap] w fun e w' => e = .returned (.int .i64 (z0n xs)) /\ Below w.heap.size w w' := by
 by_cases hlen : 200 < xs.length
 ·have HR := hid (z6x hlen)
  have h1 : (200 : Int) < xs.length := by omega
  clear hlen hX hF hE
  generalize xs.length = L at *
  go_enter Tryz.func70, Tryz.ntmps70
  go_wp2;go_ret;exact ⟨by rw [HR.out]; rfl, Below.refl _ _⟩
 ·have h1 : ¬ (200 : Int) < xs.length := by omega
  have d : Hid (¬ ((∀ e, e ∈ xs -> mayB e = true) /\ Srt xs) -> z0n xs = 110) := hid (z81 hlen);have p : Hid ((∀ e, e ∈ xs -> mayB e = true) /\ Srt xs -> z0n xs = 0) := hid (za9 hlen);have f := hid (z8a a xs.length cap w)
  have g : Hid (∀ w1, Below w.heap.size w w1 -> Calls Tryz.prog 122 #[.pointer (some ⟨w1.heap.size, 0, none⟩)] (w1.alloc (.cells #[.slice a xs.length cap, cmpFn] 172)) (RisP xs (w1.alloc (.cells #[.slice a xs.length cap, cmpFn] 172)))) := hid (fun w1 hb =>
   zf6 _ _ a cap xs (z02 w1 #[.slice a xs.length cap, cmpFn] 172) ((hX.old hb).old (z04 w1 _)))
  have i : Hid (∀ w1, Below w.heap.size w w1 -> Calls Tryz.prog 123 #[.slice a xs.length cap, .func (.func 124) #[] #[]] w1 (AnyP xs w1)) := hid (fun w1 hb => zbb w1 a cap xs (hX.old hb) hF (hE.below hb));clear hlen hX hF hE
  generalize xs.length = L at *
  go_enter Tryz.func70, Tryz.ntmps70
  go_wp2_with fail
  refine f.out.mono ?_;rintro e w1 ⟨rfl, b⟩;have r := hid b;have j := hid (z00 b (z04 w1 (.cells #[.slice a L cap, cmpFn] 172)));have k := hid (g.out w1 b);clear b f g
  go_wp2_with fail
  refine k.out.mono ?_;rintro e w2 ⟨q, rfl, hq, l⟩;have c := hid (z00 j.out l);have HQ := hid hq;have m := hid (i.out w2 c.out);clear l hq i k r j
  cases q with
  | false =>
   have HR := hid (d.out (fun h => by have := HQ.out.2 h.2; cases this));go_wp2;go_ret;exact ⟨by rw [HR.out]; rfl, c.out⟩
  | true =>
   have s := hid (HQ.out.1 rfl)
   go_wp2_with fail
   refine m.out.mono ?_;rintro e w3 ⟨z, rfl, hz, n⟩;have o := hid (z00 c.out n);have HZ := hid hz;clear n hz m
   cases z with
   | true =>
    have HR := hid (d.out (fun h => by have := HZ.out.2 h.1; cases this));go_wp2;go_ret;exact ⟨by rw [HR.out]; rfl, o.out⟩
   | false =>
    have HR := hid (p.out ⟨HZ.out.1 rfl, s.out⟩);go_wp2;go_ret;exact ⟨by rw [HR.out]; rfl, o.out⟩
end Go.Proofs.YtdkkkeoicekdgaaGreatDoor.Ca
