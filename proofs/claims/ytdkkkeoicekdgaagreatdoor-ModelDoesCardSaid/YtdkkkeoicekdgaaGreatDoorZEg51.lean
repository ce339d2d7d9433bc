/- Package catalog: drop, and a change carried out. -/
import Derived.Test.YtdkkkeoicekdgaaGreatDoorZEg29

section

namespace Go.Proofs.YtdkkkeoicekdgaaGreatDoor.Ca
set_option maxHeartbeats 6400000
set_option maxRecDepth 100000
open Go.Lib (hid)
open Go.RowKit Go.Proofs.YtdkkkeoicekdgaaGreatDoor
theorem SoL.stored {B S : Nat} {w W w' : World} {xs ys : List Ent} {v : Value} {a' : Option Addr} {n c' : Nat} (h : SoL B S W xs v) (hB : B <= W.heap.size) (hb : Below B w W) (ho : Own w' B (.slice a' n c') ys) (hg : W.grownBy w' v.ownBlock) :
  w'.cell? ⟨S, 0, none⟩ = some v /\ w'.frozen? ⟨S, 0, none⟩ = false /\ SoL B S (w'.setCell ⟨S, 0, none⟩ (.slice a' n c')) ys (.slice a' n c') /\ Below B w (w'.setCell ⟨S, 0, none⟩ (.slice a' n c')) := by
 have a : Row w' S 172 [v, cmpFn] := h.row.keep (hg.block S h.row.lt (fun e => h.ne e.symm));refine ⟨a.cell rfl, a.thaw 0, ⟨a.set 0 _, ?_, h.lt⟩, ?_⟩
 ·refine z0d ho (fun g hgg => ?_)
  have b : g ≠ S := fun e => by
   subst e
   rcases ho.2 with ⟨h0, -⟩ | ⟨g', cap, cur, hv, -, hh, -⟩
   ·rw [h0] at hgg; cases hgg
   ·rw [hv] at hgg
    obtain rfl : g' = g := Option.some.inj hgg
    unfold Row at a
    rw [hh] at a
    injection a with h1
    injection h1 with _ h2
    cases h2
  exact Below.heap_setCell _ _ _ _ b
 ·have h1 : Below B W w' := zec (ze7 hg) hB (fun k hk => (h.own.lt k hk).1)
  have h2 : Below B w' (w'.setCell ⟨S, 0, none⟩ (.slice a' n c')) := ((But.refl S w').set 0 _).below h.lt;exact (hb.trans h1).trans h2
theorem zi9 (w : World) (B S : Nat) (xs : List Ent) (x : Ent) (v : Value) (hS : SoL B S w xs v) (hs : Srt xs) (hl : xs.length <= 200) (hB : B <= w.heap.size) :
  Calls Tryz.prog 223 #[.pointer (some ⟨S, 0, none⟩), enV x] w fun e w' => z6t B S (dropC x.loc x.key xs) w e (.bool (fndE x xs)) w' := by
 have f := z03 w (.cells (enC x) 81);have b := hS.below f;have r0 := z02 w (enC x) 81;obtain ⟨a, h, rfl, u, m, hg⟩ := hS.slice;have c := hid (zah (w.alloc (.cells (enC x) 81)) S a h xs x b.row b.own.sl hs (by omega));have d0 := r0.c0;have d1 := r0.c1;have d2 := r0.c2;have i := hid f;have HS := hid b;obtain ⟨fb, g⟩ := nmd (fndE x xs);obtain ⟨p, HP⟩ := nmd (posE x xs);rw [<- HP.out, <- g.out] at c;rw [<- g.out]
 cases fb with
 | true =>
  obtain ⟨y, hy, -⟩ := zcs hs g.out.symm
  have o : p < xs.length := by have := (List.getElem?_eq_some_iff.1 hy).1; have := HP.out; omega
  have HD : Hid (dropC x.loc x.key xs = xs.take p ++ xs.drop (p + 1)) := hid (by rw [z9j hs g.out.symm, HP.out])
  have j : Hid (∀ w1, Below (w.alloc (.cells (enC x) 81)).heap.size (w.alloc (.cells (enC x) 81)) w1 -> Calls Tryz.prog 251 #[.slice a xs.length h, .int .i64 p, .int .i64 ((p : Int) + 1)] w1 fun e w' => ∃ a' n c', e = .returned (.slice a' n c') /\ w'.cell? ⟨S, 0, none⟩ = some (.slice a xs.length h) /\ w'.frozen? ⟨S, 0, none⟩ = false /\ Hid (SoL B S (w'.setCell ⟨S, 0, none⟩ (.slice a' n c')) (dropC x.loc x.key xs) (.slice a' n c') /\ Below B w (w'.setCell ⟨S, 0, none⟩ (.slice a' n c')))) := hid (fun w1 hb => by
   have h1 := b.below hb
   refine (zfo w1 B _ xs p h1.own (by omega) o).mono fun e w' hh => ?_
   obtain ⟨v', he, ho, q⟩ := hh;obtain ⟨a', c', hv, -⟩ := z0j ho;subst hv;have l : Below w.heap.size w w1 := z00 f hb;obtain ⟨k1, k2, k3, k4⟩ := h1.stored (w := w) (by have := l.size; omega) (l.mono hB) ho q
   exact ⟨a', _, c', he, k1, k2, hid ⟨by rw [HD.out]; exact k3, k4⟩⟩)
  clear hS b f r0 hs hy hg HD
  generalize hLL : xs.length = L at *
  clear hLL;obtain ⟨xl, xk, xp⟩ := x;simp only at d0 d1 d2 i c HS j
  go_enter Tryz.func223, Tryz.ntmps223
  go_wp2_with fail
  refine c.out.mono ?_;rintro e w1 ⟨rfl, d⟩;have k := hid (HS.out.below d);have r := hid (j.out w1 d);have c0 : w1.cell? ⟨S, 0, none⟩ = some (.slice a L h) := k.out.row.c0;clear d j c d0 d1 d2
  go_wp2_with fail
  refine r.out.mono ?_;rintro e w2 ⟨a2, n2, c2, rfl, z, A, s⟩;go_wp2;go_ret;exact ⟨rfl, _, s.out⟩
 | false =>
  have HD : Hid (dropC x.loc x.key xs = xs) := hid (z7i (zi0 hs g.out.symm));clear hS b f r0 hs hg
  generalize hLL : xs.length = L at *
  clear hLL;obtain ⟨xl, xk, xp⟩ := x;simp only at d0 d1 d2 i c HS HD
  go_enter Tryz.func223, Tryz.ntmps223
  go_wp2_with fail
  refine c.out.mono ?_;rintro e w1 ⟨rfl, d⟩;have k := hid (HS.out.below d);have t := hid ((z00 i.out d).mono hB);go_wp2;go_ret;exact ⟨rfl, _, by rw [HD.out]; exact k.out, t.out⟩
theorem zgz {s : BA} (h : s ≠ ⟨#[]⟩) : s.toList.isEmpty = false := by
 rw [ByteArray.toList_eq]
 cases hl : s.data.toList with
 | nil => exact absurd (ByteArray.ext (Array.toList_inj.1 (by rw [hl]))) h
 | cons => rfl
theorem fnd_iff {xs : List Ent} {x : Ent} (hs : Srt xs) : fndE x xs = (findC xs x.loc x.key).isSome := by
 cases h : fndE x xs with
 | true => obtain ⟨y, -, hy⟩ := zcs hs h; rw [hy]; rfl
 | false => rw [zi0 hs h]; rfl
def OneP (B S : Nat) (r : Ans) (w : World) (e : Ending) (w' : World) : Prop := Below B w w' /\ match r with
 | .ok l => e = .returned (.int .i64 0) /\ ∃ v', SoL B S w' l v'
 | .error k => e = .returned (.int .i64 k)
def dropA (l : List Ent) (x : Ent) : Ans := if x.pat ≠ ⟨#[]⟩ then .error 110 else if (findC l x.loc x.key).isNone then .error 60 else .ok (dropC x.loc x.key l)
theorem drop_any (w : World) (B S : Nat) (xs : List Ent) (x : Ent) (v : Value) (hS : SoL B S w xs v) (hs : Srt xs) (hl : xs.length <= 200) (hB : B <= w.heap.size) :
  Calls Tryz.prog 192 #[.pointer (some ⟨S, 0, none⟩), enV x] w (OneP B S (dropA xs x) w) := by
 have c := z03 w (.cells (enC x) 81);have r0 := z02 w (enC x) 81;have d0 := r0.c0;have d1 := r0.c1;have d2 := r0.c2;have a := hid c;have b := hid (zi9 (w.alloc (.cells (enC x) 81)) B S xs x v (hS.below c) hs hl (by rw [World.size_alloc]; omega));have g := hid (fnd_iff (x := x) hs);obtain ⟨fb, k⟩ := nmd (fndE x xs);rw [<- k.out] at b g;have i : Hid (B <= w.heap.size) := hid hB
 by_cases hp : x.pat = ⟨#[]⟩
 ·cases fb with
  | true =>
   have HA : Hid (dropA xs x = .ok (dropC x.loc x.key xs)) := hid (by
    unfold dropA
    rw [if_neg (by simpa using hp), if_neg (by rw [Option.isNone_iff_eq_none]; intro h; have := g.out; rw [h] at this; cases this)])
   clear hS hs hl c r0;obtain ⟨xl, xk, xp⟩ := x;simp only at d0 d1 d2 a b hp HA;subst hp
   go_enter Tryz.func192, Tryz.ntmps192
   go_wp2_with fail
   refine b.out.mono ?_;rintro e w1 ⟨rfl, v1, f, d⟩;have l := hid f;have j := hid d;clear f d;go_wp2;go_ret;refine ⟨(a.out.mono i.out).trans j.out, ?_⟩;rw [HA.out];exact ⟨rfl, v1, l.out⟩
  | false =>
   have HA : Hid (dropA xs x = .error 60) := hid (by
    unfold dropA
    rw [if_neg (by simpa using hp), if_pos (by rw [Option.isNone_iff_eq_none]; have := g.out; cases h : findC xs x.loc x.key with | none => rfl | some y => rw [h] at this; cases this)])
   clear hS hs hl c r0;obtain ⟨xl, xk, xp⟩ := x;simp only at d0 d1 d2 a b hp HA;subst hp
   go_enter Tryz.func192, Tryz.ntmps192
   go_wp2_with fail
   refine b.out.mono ?_;rintro e w1 ⟨rfl, v1, f, d⟩;have j := hid d;clear f d;go_wp2;go_ret;refine ⟨(a.out.mono i.out).trans j.out, ?_⟩;rw [HA.out]
   rfl
 ·have HA : Hid (dropA xs x = .error 110) := hid (by unfold dropA; rw [if_pos hp])
  have m := zgz hp;clear hS hs hl c r0 hp b;obtain ⟨xl, xk, xp⟩ := x;simp only at d0 d1 d2 a m HA
  go_enter Tryz.func192, Tryz.ntmps192
  go_wp2;go_ret;refine ⟨a.out.mono i.out, ?_⟩;rw [HA.out]
  rfl
abbrev chV (c : Chg) : Value := .agg #[.bool c.drop, .string c.e.loc, .string c.e.key, .string c.e.pat]
abbrev chC (c : Chg) : Array Value := #[.bool c.drop, .string c.e.loc, .string c.e.key, .string c.e.pat]
theorem z92 {l : List Ent} {c : Chg} (h : c.drop = true) : oneC l c = dropA l c.e := by unfold oneC dropA; rw [if_pos h]
theorem zgv {l : List Ent} {c : Chg} (h : c.drop = false) (hm : mayB c.e = false) : oneC l c = .error 110 := by unfold oneC; rw [if_neg (by rw [h]; simp), if_pos hm]
theorem zdm {l : List Ent} {c : Chg} (h : c.drop = false) (hm : mayB c.e = true) (hl : 200 < (putC c.e l).length) : oneC l c = .error 2 := by unfold oneC; rw [if_neg (by rw [h]; simp), if_neg (by rw [hm]; simp), if_pos hl]
theorem zgt {l : List Ent} {c : Chg} (h : c.drop = false) (hm : mayB c.e = true) (hl : ¬ 200 < (putC c.e l).length) : oneC l c = .ok (putC c.e l) := by unfold oneC; rw [if_neg (by rw [h]; simp), if_neg (by rw [hm]; simp), if_neg hl]
theorem z9p (w : World) (B S : Nat) (xs : List Ent) (c : Chg) (v : Value) (hS : SoL B S w xs v) (hs : Srt xs) (hl : xs.length <= 200) (hB : B <= w.heap.size) (hF : FitE c.e) (hE : EnvC w) :
  Calls Tryz.prog 162 #[.pointer (some ⟨S, 0, none⟩), chV c] w (OneP B S (oneC xs c) w) := by
 have b := z03 w (.cells (chC c) 83);have r0 := z02 w (chC c) 83;have d0 := r0.c0;have d1 := r0.c1;have d2 := r0.c2;have d3 := r0.c3;have f := hid (b.mono hB);have d : Hid (B <= (w.alloc (.cells (chC c) 83)).heap.size) := hid (by rw [World.size_alloc]; omega)
 cases hd : c.drop with
 | true =>
  have HA := hid (z92 (l := xs) hd);have o := hid (drop_any (w.alloc (.cells (chC c) 83)) B S xs c.e v (hS.below b) hs hl d.out);clear hS hs hl b r0 hF hE hB d;obtain ⟨cd, xl, xk, xp⟩ := c;simp only at d0 d1 d2 d3 f o HA hd;subst hd
  go_enter Tryz.func162, Tryz.ntmps162
  go_wp2_with fail
  refine o.out.mono ?_;rintro e w1 ⟨a, hr⟩;have g := hid (f.out.trans a);rw [<- HA.out] at hr
  cases ho : oneC xs ⟨true, xl, xk, xp⟩ with
  | ok l =>
   rw [ho] at hr;obtain ⟨rfl, hv⟩ := hr;have HV := hid hv;have HO := hid ho;clear hv ho a;go_wp2;go_ret;refine ⟨g.out, ?_⟩;rw [HO.out];exact ⟨rfl, HV.out⟩
  | error k =>
   rw [ho] at hr;obtain rfl : e = .returned (.int .i64 k) := hr;have HO := hid ho;clear ho a;go_wp2;go_ret;refine ⟨g.out, ?_⟩;rw [HO.out]
   rfl
 | false =>
  have HW := hid (z15 c.e (w.alloc (.cells (chC c) 83)) (hE.below b) hF);have i := hid (hS.below b);have s := hid hs;have j := hid r0
  cases hm : mayB c.e with
  | false =>
   have HA := hid (zgv (l := xs) hd hm);rw [hm] at HW;clear hS hs b r0 hF hE hm;obtain ⟨cd, xl, xk, xp⟩ := c;simp only at d0 d1 d2 d3 f HW HA hd d i j;subst hd
   go_enter Tryz.func162, Tryz.ntmps162
   go_wp2_with fail
   refine HW.out.mono ?_;rintro e w1 ⟨rfl, a⟩;have g := hid (f.out.trans (a.mono d.out));clear a;go_wp2;go_ret;refine ⟨g.out, ?_⟩;rw [HA.out]
   rfl
  | true =>
   rw [hm] at HW;have m := hid (zdm (l := xs) hd hm);have n := hid (zgt (l := xs) hd hm);clear hS hs b r0 hF hE hm;obtain ⟨cd, xl, xk, xp⟩ := c;simp only at d0 d1 d2 d3 f HW m n hd d i j;subst hd
   go_enter Tryz.func162, Tryz.ntmps162
   go_wp2_with fail
   refine HW.out.mono ?_;rintro e w1 ⟨rfl, a⟩;have g := hid (f.out.trans (a.mono d.out));have R1 := j.out.below a;have e1 := R1.c1;have e2 := R1.c2;have e3 := R1.c3;have HP := hid (put_any w1 B S xs ⟨xl, xk, xp⟩ v (i.out.below a) s.out hl (by have := a.size; have := d.out; omega));clear a R1 HW
   go_wp2_with fail
   refine HP.out.mono ?_;rintro e w2 ⟨rfl, v2, h, p⟩;have q := hid (g.out.trans p);obtain ⟨a2, x, rfl, -, y, -⟩ := h.slice;have r := hid h;have c0 := h.row.c0;clear p h HP;obtain ⟨n2, t⟩ := nmd ((putC ⟨xl, xk, xp⟩ xs).length);rw [<- t.out] at c0 r m n
   by_cases hn : 200 < n2
   ·have u : (200 : Int) < n2 := by omega
    have HA := hid (m.out hn);clear hn;go_wp2;go_ret;refine ⟨q.out, ?_⟩;rw [HA.out]
    rfl
   ·have u : ¬ (200 : Int) < n2 := by omega
    have HA := hid (n.out hn);clear hn;go_wp2;go_ret;refine ⟨q.out, ?_⟩;rw [HA.out];exact ⟨rfl, _, r.out⟩

set_option maxHeartbeats 6400000
set_option maxRecDepth 100000
def CH (c : Chg) (cs : List Value) : Prop := cs = [.bool c.drop, .string c.e.loc, .string c.e.key, .string c.e.pat]
abbrev SlH (w : World) (S : Nat -> Prop) (v : Value) (xs : List Chg) : Prop := Sl 4 CH w S v xs
theorem SlH.old {w w' : World} {v : Value} {xs : List Chg} (h : SlH w (Old w) v xs) (hb : Below w.heap.size w w') : SlH w' (Old w') v xs := Sl.keep h (fun b hb2 => hb.block b hb2) (fun _ h => Nat.lt_of_lt_of_le h hb.size) (fun _ _ h => h)
theorem SlH.lt {w w' : World} {B : Nat} {v : Value} {xs : List Chg} (h : SlH w (fun b => b < B) v xs) (hb : Below B w w') : SlH w' (fun b => b < B) v xs := Sl.keep h (fun b hb2 => hb.block b hb2) (fun _ h => h) (fun _ _ h => h)
theorem SlH.len {w : World} {S : Nat -> Prop} {a : Option Addr} {n cap : Nat} {xs : List Chg} (h : SlH w S (.slice a n cap) xs) : n = xs.length /\ xs.length <= cap /\ cap <= 9223372036854775807 := by
 obtain ⟨a', b, hv, h1, h2, -⟩ := h
 injection hv with _ h3 h4
 exact ⟨h3, by omega, by omega⟩
theorem SlH.get {w : World} {S : Nat -> Prop} {a : Option Addr} {n cap : Nat} {xs : List Chg} (h : SlH w S (.slice a n cap) xs) {j : Nat} {x : Chg} (hx : xs[j]? = some x) :
  ∃ b off, a = some ⟨b, off, none⟩ /\ S b /\ w.cell? ⟨b, off + j * 4, none⟩ = some (.bool x.drop) /\ w.cell? ⟨b, off + j * 4 + 1, none⟩ = some (.string x.e.loc) /\ w.cell? ⟨b, off + j * 4 + 2, none⟩ = some (.string x.e.key) /\ w.cell? ⟨b, off + j * 4 + 3, none⟩ = some (.string x.e.pat) := by
 obtain ⟨a', f, hv, h1, h2, h3⟩ := h
 injection hv with h4 _ _
 subst h4;obtain ⟨b, off, ha, hb, d⟩ := h3 (fun e => by subst e; simp at hx);obtain ⟨cs, -, hc, c⟩ := d j x hx
 unfold CH at hc
 subst hc;exact ⟨b, off, ha, hb, c 0 _ rfl, c 1 _ rfl, c 2 _ rfl, c 3 _ rfl⟩
def z18 (r : Ans) (w : World) (e : Ending) (w' : World) : Prop := Below w.heap.size w w' /\ match r with
 | .ok l => ∃ a c, e = .returned (.tuple #[.slice a l.length c, .int .i64 0]) /\ SlE w' (Old w') (.slice a l.length c) l
 | .error k => e = .returned (.tuple #[.slice none 0 0, .int .i64 k])
theorem z18.no {r : Ans} {w w' : World} {k : Nat} (h : r = .error k) (hb : Below w.heap.size w w') : z18 r w (.returned (.tuple #[.slice none 0 0, .int .i64 k])) w' := ⟨hb, by rw [h]⟩
theorem z18.yes {r : Ans} {w w' : World} {l : List Ent} {a : Option Addr} {c : Nat} (h : r = .ok l) (hs : SlE w' (Old w') (.slice a l.length c) l) (hb : Below w.heap.size w w') : z18 r w (.returned (.tuple #[.slice a l.length c, .int .i64 0])) w' := ⟨hb, by rw [h]; exact ⟨a, c, rfl, hs⟩⟩
theorem z8m {l : List Ent} {cs : List Chg} (h : z0o l ≠ 0) : z17 l cs = .error (z0o l) := by unfold z17; rw [if_pos h]
theorem z7p {l : List Ent} {cs : List Chg} (h : z0o l = 0) (h2 : 20 < cs.length) : z17 l cs = .error 2 := by unfold z17; rw [if_neg (by simpa using h), if_pos h2]
theorem zbg {l : List Ent} {cs : List Chg} (h : z0o l = 0) (h2 : ¬ 20 < cs.length) : z17 l cs = foldC l cs := by unfold z17; rw [if_neg (by simpa using h), if_neg h2]
theorem z5a (l : List Ent) : z0o l <= 110 := by
 unfold z0o
 split
 ·omega
 ·split <;> omega
theorem zj2 (w : World) (a : Option Addr) (cap : Nat) (xs : List Ent) (b : Option Addr) (capc : Nat) (cs : List Chg) (hX : SlE w (Old w) (.slice a xs.length cap) xs) (hC : SlH w (Old w) (.slice b cs.length capc) cs) (hF : ∀ x, x ∈ xs -> FitE x) (hFC : ∀ c, c ∈ cs -> FitE c.e) (hE : EnvC w) :
  Calls Tryz.prog 128 #[.slice a xs.length cap, .slice b cs.length capc] w (z18 (z17 xs cs) w) := by
 have HR := hid (z2v w a cap xs hX hF hE);have Z := z5a xs;have aa := hC.len;obtain ⟨q, HQ⟩ := nmd (z0o xs);rw [<- HQ.out] at HR Z
 by_cases h0 : q = 0
 ·have s : Hid (z0o xs = 0) := hid (by rw [<- HQ.out]; exact h0)
  have F : Hid (Rgt xs) := hid (z22.1 s.out);subst h0
  by_cases h20 : 20 < cs.length
  ·have HA := hid (z7p (cs := cs) s.out h20)
   have r : (20 : Int) < cs.length := by omega
   clear hX hC hF hFC hE h20
   generalize xs.length = L at *
   generalize cs.length = M at *
   go_enter Tryz.func128, Tryz.ntmps128
   go_wp2_with fail
   refine HR.out.mono ?_;rintro e w1 ⟨rfl, d⟩;have HB := hid d;clear d;go_wp2
   go_ret2
   exact z18.no HA.out HB.out
  ·have HA := hid (zbg s.out h20)
   have r : ¬ (20 : Int) < cs.length := by omega
   have t : Hid (∀ w1, Below w.heap.size w w1 -> Calls Tryz.prog 79 #[.slice a xs.length cap] w1 (zj7 xs w1)) := hid (fun w1 hb => zbd w1 a cap xs (hX.old hb) (by have := F.out.len; omega));have G : Hid (SlH w (fun k => k < w.heap.size) (.slice b cs.length capc) cs) := hid hC;have af := hid hFC;have HE := hid hE;obtain ⟨M, HM⟩ := nmd (cs.length);rw [<- HM.out] at r h20 G aa
   have au : M <= 20 := by omega
   obtain ⟨L, HL⟩ := nmd (xs.length);rw [<- HL.out] at HR t;rw [<- HM.out, <- HL.out];clear hX hC hF hFC hE h20
   go_enter Tryz.func128, Tryz.ntmps128
   go_wp2_with fail
   refine HR.out.mono ?_;rintro e w1 ⟨rfl, d⟩;have u := hid d;have H := hid (t.out w1 d);clear d HR t
   go_wp2_with fail
   refine H.out.mono ?_;rintro e w2 ⟨v2, rfl, y, I⟩;obtain ⟨a2, c2, J, ax, -, -⟩ := z0j y;rw [<- HL.out] at J;subst J;have N := hid y;have O := hid (z00 u.out I);have ag : Hid (w.heap.size <= w1.heap.size) := hid u.out.size;have R := hid (z8d a2 L c2 w2);clear y I H u
   go_wp2_with fail
   refine R.out.mono ?_;rintro e w3 ⟨rfl, z⟩;have T := hid (z00 O.out z)
   have U : Hid (SoL w.heap.size w3.heap.size (w3.alloc (.cells #[.slice a2 L c2, cmpFn] 172)) xs (.slice a2 L c2)) := hid ⟨z02 w3 #[.slice a2 L c2, cmpFn] 172, by
    have h1 := z0n (z0n N.out z) (z03 w3 (.cells #[.slice a2 L c2, cmpFn] 172))
    exact ⟨h1.1, h1.2.imp id (fun ⟨g, cap, cur, hv, hg, hr⟩ => ⟨g, cap, cur, hv, Nat.le_trans ag.out hg, hr⟩)⟩, T.out.size⟩
   have ah := hid (z00 T.out (z03 w3 (.cells #[.slice a2 L c2, cmpFn] 172)));clear z R O N;obtain ⟨S, HS⟩ := nmd (w3.heap.size);go_wp2;rw [<- HS.out] at U ⊢
   generalize w3.alloc (.cells #[.slice a2 L c2, cmpFn] 172) = w4 at *
   go_loopw [24] (fun i wr => ∃ k : Nat, k <= M /\ i = .int .i64 k /\ ∃ l v, Hid (SoL w.heap.size S wr l v) /\ Hid (Rgt l) /\ Hid (foldC l (cs.drop k) = foldC xs cs) /\ Hid (Below w.heap.size w wr)) (fun i _ => M - (intOf i).toNat)
   case atStart => exact ⟨0, Nat.zero_le _, rfl, xs, _, U, F, hid (by rw [List.drop_zero]), ah⟩
   case round =>
    obtain ⟨k, hk, rfl, l, v, o, A, B, C⟩ := hrel
    by_cases hlt : k < M
    ·obtain ⟨c, hc⟩ : ∃ c, cs[k]? = some c := ⟨_, List.getElem?_eq_getElem (by have := HM.out; omega)⟩
     obtain ⟨b2, aw, rfl, -, x0, x1, x2, x3⟩ := (G.out.lt C.out).get hc
     have V : cs.drop k = c :: cs.drop (k + 1) := by
      obtain ⟨h1, h2⟩ := List.getElem?_eq_some_iff.1 hc;rw [List.drop_eq_getElem_cons h1, h2]
     have p : Hid (foldC l (cs.drop k) = match oneC l c with | .ok l' => foldC l' (cs.drop (k + 1)) | .error k => .error k) := hid (by rw [V, foldC]; cases oneC l c <;> rfl);have D := z03 wr (.cells (chC c) 83);have j := hid (z00 C.out D);have f := hid (z9p (wr.alloc (.cells (chC c) 83)) w.heap.size S l c v (o.out.below D) A.out.srt A.out.len (j.out.size) (af.out c (List.mem_of_getElem? hc)) (HE.out.below j.out));have R5 := z02 wr (chC c) 83;have d0 := R5.c0;have d1 := R5.c1;have d2 := R5.c2;have d3 := R5.c3;clear hc V D R5;obtain ⟨cd, xl, xk, xp⟩ := c;simp only at x0 x1 x2 x3 d0 d1 d2 d3 j f
     cases ho : oneC l ⟨cd, xl, xk, xp⟩ with
     | ok l' =>
      have ai := hid (z78 A.out ho);have m : Hid (foldC l' (cs.drop (k + 1)) = foldC xs cs) := hid (by rw [<- B.out, p.out, ho]);rw [ho] at f;clear ho p
      go_wp2_with fail
      refine f.out.mono ?_;rintro e w6 ⟨n, rfl, v6, X⟩;have aj := hid X;have E := hid (j.out.trans n);clear n X;go_wp2;go_roundw
      case rel => exact ⟨k + 1, by omega, by go_num, l', v6, aj, ai, m, E⟩
      case measure => simp [intOf]; omega
     | error q =>
      have m : Hid (z17 xs cs = .error q) := hid (by rw [HA.out, <- B.out, p.out, ho])
      have hq : q ≠ 0 := by
       intro h; subst h
       unfold oneC at ho
       split at ho
       ·split at ho
        ·cases ho
        ·split at ho <;> cases ho
       ·split at ho
        ·cases ho
        ·split at ho <;> cases ho
      have aq : ((q : Int) != 0) = true := by rw [bne_iff_ne]; omega
      rw [ho] at f;clear ho p hq
      go_wp2_with fail
      refine f.out.mono ?_;rintro e w6 ⟨n, rfl⟩;have E := hid (j.out.trans n);clear n;go_wp2
      go_ret2
      exact z18.no m.out E.out
    ·have m : Hid (z17 xs cs = .ok l) := hid (by rw [HA.out, <- B.out, List.drop_of_length_le (by have := HM.out; omega), foldC])
     obtain ⟨a9, c9, rfl, -⟩ := o.out.slice;have z0 := o.out.row.c0;have ar := hid o.out.own.sl;obtain ⟨n9, Y⟩ := nmd (l.length);rw [<- Y.out] at z0;go_wp2
     go_ret2
     rw [Y.out];exact z18.yes m.out ar.out C.out
 ·have HA := hid (z8m (l := xs) (cs := cs) (by rw [<- HQ.out]; exact h0))
  have aq : ((q : Int) != 0) = true := by rw [bne_iff_ne]; omega
  clear hX hC hF hFC hE h0
  generalize xs.length = L at *
  generalize cs.length = M at *
  go_enter Tryz.func128, Tryz.ntmps128
  go_wp2_with fail
  refine HR.out.mono ?_;rintro e w1 ⟨rfl, d⟩;have HB := hid d;clear d;go_wp2
  go_ret2
  exact z18.no (by rw [HA.out, HQ.out]) HB.out

set_option maxHeartbeats 12800000
set_option maxRecDepth 100000
def restF (x : Ent) (at_ : Int) : Bool -> List Ent -> Nat -> List Ent
 | put, [], _ => if put then [] else [x]
 | put, y :: r, i => if (i : Int) = at_ then restF x at_ put r (i + 1) else if !put && ahB x y then x :: y :: restF x at_ true r (i + 1) else y :: restF x at_ put r (i + 1)
def AtIs (x : Ent) (at_ : Int) (l : List Ent) (i : Nat) : Prop := ∀ (j : Nat) y, l[j]? = some y -> (((i + j : Nat) : Int) = at_ ↔ sameB x.loc x.key y = true)
theorem AtIs.tail {x y : Ent} {at_ : Int} {r : List Ent} {i : Nat} (h : AtIs x at_ (y :: r) i) : AtIs x at_ r (i + 1) := fun j z hz => by
 have := h (j + 1) z (by simpa using hz)
 rwa [show i + (j + 1) = i + 1 + j by omega] at this
theorem z5b {x : Ent} {at_ : Int} : ∀ {l : List Ent} {i : Nat}, AtIs x at_ l i -> restF x at_ true l i = dropC x.loc x.key l
 | [], _, _ => rfl
 | y :: r, i, h => by
  have h0 := h 0 y rfl;rw [Nat.add_zero] at h0;rw [restF]
  by_cases hi : (i : Int) = at_
  ·rw [if_pos hi, z5b h.tail]
   unfold dropC
   rw [List.filter_cons_of_neg (by simp [h0.1 hi])]
  ·rw [if_neg hi]
   simp only [Bool.not_true, Bool.false_and, Bool.false_eq_true, if_false];rw [z5b h.tail]
   have hs : sameB x.loc x.key y = false := by
    cases hh : sameB x.loc x.key y with
    | false => rfl
    | true => exact absurd (h0.2 hh) hi
   unfold dropC
   rw [List.filter_cons_of_pos (by simp [hs])]
theorem z84 {x : Ent} {at_ : Int} : ∀ {l : List Ent} {i : Nat}, AtIs x at_ l i -> restF x at_ false l i = putC x l
 | [], _, _ => rfl
 | y :: r, i, h => by
  have h0 := h 0 y rfl;rw [Nat.add_zero] at h0;have ih := z84 h.tail;rw [restF]
  by_cases hi : (i : Int) = at_
  ·rw [if_pos hi, ih]
   unfold putC dropC
   rw [List.filter_cons_of_neg (by simp [h0.1 hi])]
  ·rw [if_neg hi]
   have hs : sameB x.loc x.key y = false := by
    cases hh : sameB x.loc x.key y with
    | false => rfl
    | true => exact absurd (h0.2 hh) hi
   have hd : dropC x.loc x.key (y :: r) = y :: dropC x.loc x.key r := by
    unfold dropC
    rw [List.filter_cons_of_pos (by simp [hs])]
   unfold putC at ih ⊢
   rw [hd, insC]
   cases ha : ahB x y with
   | true =>
    simp only [Bool.not_false, Bool.true_and, if_true];rw [z5b h.tail]
   | false =>
    simp only [Bool.and_false, Bool.false_eq_true, if_false];rw [ih]
theorem atIs {x : Ent} {l : List Ent} {i : Int} (hs : Srt l) (h : (∃ (k : Nat) (y : Ent), i = k /\ l[k]? = some y /\ findC l x.loc x.key = some y) ∨ (i = -1 /\ findC l x.loc x.key = none)) : AtIs x i l 0 := fun j y hy => by
 rw [Nat.zero_add]
 rcases h with ⟨k, z, rfl, hz, hf⟩ | ⟨rfl, hf⟩
 ·have a := (zi3 hf).2
  constructor
  ·intro hjk
   obtain rfl : j = k := by omega
   rw [hz] at hy;obtain rfl := Option.some.inj hy;exact z0p.2 a
  ·intro hsame
   have b := z0p.1 hsame;have c := (List.getElem?_eq_some_iff.1 hy).1;have d := (List.getElem?_eq_some_iff.1 hz).1
   rcases Nat.lt_trichotomy j k with h1 | h1 | h1
   ·have := List.pairwise_iff_getElem.1 hs j k c d h1
    rw [(List.getElem?_eq_some_iff.1 hy).2, (List.getElem?_eq_some_iff.1 hz).2, z2n (b.1.trans a.1.symm) (b.2.trans a.2.symm)] at this
    cases this
   ·rw [h1]
   ·have := List.pairwise_iff_getElem.1 hs k j d c h1
    rw [(List.getElem?_eq_some_iff.1 hy).2, (List.getElem?_eq_some_iff.1 hz).2, z2n (a.1.trans b.1.symm) (a.2.trans b.2.symm)] at this
    cases this
 ·constructor
  ·intro h; omega
  ·intro hsame
   exact absurd (z0p.1 hsame) (z47.1 hf y (List.mem_of_getElem? hy))
theorem zac {x : Ent} {at_ : Int} {put : Bool} {l : List Ent} {k : Nat} {y : Ent} (hy : l[k]? = some y) (hi : (k : Int) = at_) : restF x at_ put (l.drop k) k = restF x at_ put (l.drop (k + 1)) (k + 1) := by
 obtain ⟨h1, h2⟩ := List.getElem?_eq_some_iff.1 hy;rw [List.drop_eq_getElem_cons h1, h2, restF, if_pos hi]
theorem zgd {x : Ent} {at_ : Int} {l : List Ent} {k : Nat} {y : Ent} (hy : l[k]? = some y) (hi : ¬ (k : Int) = at_) (ha : ahB x y = true) : restF x at_ false (l.drop k) k = x :: y :: restF x at_ true (l.drop (k + 1)) (k + 1) := by
 obtain ⟨h1, h2⟩ := List.getElem?_eq_some_iff.1 hy
 rw [List.drop_eq_getElem_cons h1, h2, restF, if_neg hi, ha]; simp
theorem z8u {x : Ent} {at_ : Int} {put : Bool} {l : List Ent} {k : Nat} {y : Ent} (hy : l[k]? = some y) (hi : ¬ (k : Int) = at_) (ha : put = true ∨ ahB x y = false) : restF x at_ put (l.drop k) k = y :: restF x at_ put (l.drop (k + 1)) (k + 1) := by
 obtain ⟨h1, h2⟩ := List.getElem?_eq_some_iff.1 hy;rw [List.drop_eq_getElem_cons h1, h2, restF, if_neg hi]
 rcases ha with ha | ha <;> simp [ha]
theorem zdc {x : Ent} {at_ : Int} {put : Bool} {l : List Ent} {k : Nat} (h : l.length <= k) : restF x at_ put (l.drop k) k = if put then [] else [x] := by
 rw [List.drop_of_length_le h, restF]
structure OK1 (w : World) (X : Nat) (c : Chg) (l : List Ent) (a : Option Addr) (cap : Nat) (W : World) : Prop where
 row : Row W X 83 [.bool c.drop, .string c.e.loc, .string c.e.key, .string c.e.pat]
 sl : SlE W (fun b => b < w.heap.size) (.slice a l.length cap) l
 below : Below w.heap.size w W
 hX : w.heap.size <= X
theorem OK1.step {w W W' : World} {X : Nat} {c : Chg} {l : List Ent} {a : Option Addr} {cap : Nat} (h : OK1 w X c l a cap W) (hb : Below W.heap.size W W') : OK1 w X c l a cap W' :=
 ⟨h.row.below hb, Sl.keep h.sl (fun b hb2 => hb.block b (Nat.lt_of_lt_of_le hb2 h.below.size)) (fun _ h => h) (fun _ _ h => h), z00 h.below hb, h.hX⟩
theorem OK1.fr {w W W' : World} {X : Nat} {c : Chg} {l : List Ent} {a : Option Addr} {cap : Nat} {r : Option Nat} (h : OK1 w X c l a cap W) (hg : W.grownBy W' r) (hr : ∀ g, r = some g -> w.heap.size <= g /\ g ≠ X) : OK1 w X c l a cap W' :=
 ⟨h.row.keep (hg.block X h.row.lt (fun e => (hr X e.symm).2 rfl)), Sl.keep h.sl (fun b hb2 => hg.block b (Nat.lt_of_lt_of_le hb2 h.below.size) (fun e => by have := (hr b e.symm).1; have d : b < w.heap.size := hb2; omega)) (fun _ h => h) (fun _ _ h => h),
  ⟨hg.os.trans h.below.os, hg.tape.trans h.below.tape, hg.output.trans h.below.output, Nat.le_trans h.below.size hg.size, fun k hk => (hg.block k (Nat.lt_of_lt_of_le hk h.below.size) (fun e => by have := (hr k e.symm).1; omega)).trans (h.below.block k hk)⟩, h.hX⟩
theorem z63 {w W : World} {B : Nat} {X : Nat} {c : Chg} {l : List Ent} {a : Option Addr} {cap : Nat} {v : Value} {out : List Ent} (hk : OK1 w X c l a cap W) (ho : Own W B v out) (hB : w.heap.size <= B) (hXB : X < B) (hBW : B <= W.heap.size) (hl : out.length <= 1000) (y : Ent) :
  ∃ v' w', Hid ((Builtin.append_ #[22, 22] 22 #[v, .slice (some ⟨W.heap.size, 0, none⟩) 1 1]).run Tryz.prog (W.alloc (.cells (enC y) 81)) = .ok v' w') /\ Hid (Own w' B v' (out ++ [y])) /\ Hid (OK1 w X c l a cap w') /\ W.heap.size + 1 <= w'.heap.size /\ Hid (∀ b, b < W.heap.size + 1 -> v.ownBlock ≠ some b -> w'.heap[b]? = (W.alloc (.cells (enC y) 81)).heap[b]?) := by
 have hb := z03 W (.cells (enC y) 81);obtain ⟨v', w', hr, h2, h3, -⟩ := z3a (W.alloc (.cells (enC y) 81)) 22 B v out (z0n ho hb) (some ⟨W.heap.size, 0, none⟩) 1 [y] (one_sl (z02 W (enC y) 81)) (by simp; omega) (by rw [World.size_alloc]; omega);refine ⟨v', w', hid hr, hid h2, hid ((hk.step hb).fr h3 (fun g hg => ?_)), by have := h3.size; rw [World.size_alloc] at this; exact this, hid (fun b hb2 hne => h3.block b (by rw [World.size_alloc]; exact hb2) (fun e => hne e.symm))⟩;have := (ho.lt g hg).1;exact ⟨by omega, by omega⟩
theorem z0x {p : Prop} (h : Hid p) : p := h.out
theorem one_a (w : World) (a : Option Addr) (cap : Nat) (l : List Ent) (c : Chg) (hX : SlE w (Old w) (.slice a l.length cap) l) (hr : Rgt l) (_hF : FitE c.e) (_hE : EnvC w) (hd : c.drop = true) (hp : c.e.pat ≠ ⟨#[]⟩) :
  Calls Tryz.prog 87 #[.slice a l.length cap, chV c] w (z18 (oneC l c) w) := by
 have d := z03 w (.cells (chC c) 83);have K0 : Hid (OK1 w w.heap.size c l a cap (w.alloc (.cells (chC c) 83))) := hid ⟨z02 w (chC c) 83, Sl.keep hX (fun b hb2 => d.block b hb2) (fun _ h => h) (fun _ _ h => h), d, Nat.le_refl _⟩;have r0 := z02 w (chC c) 83;have d0 := r0.c0;have d1 := r0.c1;have d2 := r0.c2;have d3 := r0.c3;have f := hid d;have j := hid hr;have i := hr.len;have HA : Hid (oneC l c = .error 110) := hid (by rw [z92 hd]; unfold dropA; rw [if_pos hp]);have g := zgz hp;clear hX hr _hF _hE d r0 hp
 generalize l.length = L at *
 obtain ⟨cd, xl, xk, xp⟩ := c;simp only at d0 d1 d2 d3 f g HA hd;subst hd
 go_enter Tryz.func87, Tryz.ntmps87
 go_wp2
 go_ret2
 exact z18.no HA.out f.out
theorem one_b (w : World) (a : Option Addr) (cap : Nat) (l : List Ent) (c : Chg) (hX : SlE w (Old w) (.slice a l.length cap) l) (hr : Rgt l) (hF : FitE c.e) (hE : EnvC w) (hd : c.drop = false) (hm : mayB c.e = false) :
  Calls Tryz.prog 87 #[.slice a l.length cap, chV c] w (z18 (oneC l c) w) := by
 have d := z03 w (.cells (chC c) 83);have K0 : Hid (OK1 w w.heap.size c l a cap (w.alloc (.cells (chC c) 83))) := hid ⟨z02 w (chC c) 83, Sl.keep hX (fun b hb2 => d.block b hb2) (fun _ h => h) (fun _ _ h => h), d, Nat.le_refl _⟩;have r0 := z02 w (chC c) 83;have d0 := r0.c0;have d1 := r0.c1;have d2 := r0.c2;have d3 := r0.c3;have f := hid d;have k := hid hr;have j := hr.len;have HA := hid (zgv (l := l) hd hm);have HM := hid (zci c.e (w.alloc (.cells (chC c) 83)) (hE.below d) hF);rw [hm] at HM;clear hX hr hF hE d r0 hm
 generalize l.length = L at *
 obtain ⟨cd, xl, xk, xp⟩ := c;simp only at d0 d1 d2 d3 f HA hd HM;subst hd
 go_enter Tryz.func87, Tryz.ntmps87
 go_wp2_with fail
 refine HM.out.mono ?_;rintro e w1 ⟨rfl, g⟩;have i := hid (z00 f.out g);clear g;go_wp2
 go_ret2
 exact z18.no HA.out i.out

set_option maxHeartbeats 12800000
set_option maxRecDepth 100000
theorem one_d (w : World) (a : Option Addr) (cap : Nat) (l : List Ent) (c : Chg) (hX : SlE w (Old w) (.slice a l.length cap) l) (hr : Rgt l) (_hF : FitE c.e) (_hE : EnvC w) (hd : c.drop = true) (hp : c.e.pat = ⟨#[]⟩) :
  Calls Tryz.prog 87 #[.slice a l.length cap, chV c] w (z18 (oneC l c) w) := by
 have d := z03 w (.cells (chC c) 83);have K0 : Hid (OK1 w w.heap.size c l a cap (w.alloc (.cells (chC c) 83))) := hid ⟨z02 w (chC c) 83, Sl.keep hX (fun b f => d.block b f) (fun _ h => h) (fun _ _ h => h), d, Nat.le_refl _⟩;have r0 := z02 w (chC c) 83;have d0 := r0.c0;have d1 := r0.c1;have d2 := r0.c2;have d3 := r0.c3;have R := hid d;have s := hid hr;have C := hr.len;have j := hid (at_any (w.alloc (.cells (chC c) 83)) a cap l c.e.loc c.e.key (hX.old d));have t := hid (z92 (l := l) hd);obtain ⟨L, HL⟩ := nmd (l.length);rw [<- HL.out] at j C ⊢;clear hX hr _hF _hE d r0;obtain ⟨cd, xl, xk, xp⟩ := c;simp only at d0 d1 d2 d3 R t j K0 hd hp;subst hd hp
 go_enter Tryz.func87, Tryz.ntmps87
 go_wp2_with fail
 refine j.out.mono ?_;rintro e w2 ⟨i0, rfl, hi, f⟩;have K2 := hid (K0.out.step f);have D := AtP.yes s.out.srt hi;have T := hid (atIs (x := ⟨xl, xk, ⟨#[]⟩⟩) s.out.srt D);have U := hid K2.out.below;have b0 := K2.out.row.c0;clear f d0 d1 d2 d3 j hi K0
 rcases D with ⟨k0, y0, hik, hy0, hf⟩ | ⟨hik, hf⟩
 ·have HA : Hid (oneC l ⟨true, ⟨xl, xk, ⟨#[]⟩⟩⟩ = .ok (dropC xl xk l)) := hid (by rw [t.out]; unfold dropA; rw [if_neg (by simp), if_neg (by rw [hf]; simp)])
  have aa : 0 <= i0 := by omega
  have af : ¬ i0 < 0 := by omega
  clear hik hy0 hf;have E : Hid (Own (w2.alloc (.cells #[] 81)) w2.heap.size (.slice (some ⟨w2.heap.size, 0, none⟩) 0 0) []) := hid (World.ownsRow_made w2 #[] 0 (Nat.le_refl _) (Nat.zero_le _) (by simp));have K3 := hid (K2.out.step (z03 w2 (.cells #[] 81)))
  have F : w2.heap.size <= (w2.alloc (.cells #[] 81)).heap.size := by rw [World.size_alloc]; omega
  have G : w.heap.size < w2.heap.size := K2.out.row.lt;have H : w.heap.size <= w2.heap.size := K2.out.below.size;obtain ⟨B, I⟩ := nmd (w2.heap.size);rw [<- I.out] at E F G H;have KC := K3.out.row;have e0 := KC.c0;have e1 := KC.c1;have e2 := KC.c2;have e3 := KC.c3;clear KC;go_wp2;rw [<- I.out]
  generalize w2.alloc (.cells #[] 81) = w3 at *
  clear e0 e1 e2 e3 b0
  go_loopw [7, 8, 49] (fun v pu i wr => ∃ k : Nat, k <= L /\ i = .int .i64 k /\ ∃ (out : List Ent), pu = .bool true /\ out.length <= 2 * k /\ Hid (Own wr B v out) /\ Hid (out ++ restF ⟨xl, xk, ⟨#[]⟩⟩ i0 true (l.drop k) k = dropC xl xk l) /\ Hid (OK1 w w.heap.size ⟨true, xl, xk, ⟨#[]⟩⟩ l a cap wr) /\ Hid (B <= wr.heap.size)) (fun _ _ i _ => L - (intOf i).toNat)
  case atStart => exact ⟨0, Nat.zero_le _, rfl, [], rfl, by simp, E, hid (by rw [List.nil_append, List.drop_zero]; exact z5b T.out), K3, hid F⟩
  case round =>
   obtain ⟨k, hk, rfl, out, rfl, ag, HO, m, HK, V⟩ := hrel
   by_cases hlt : k < L
   ·obtain ⟨y, hy⟩ : ∃ y, l[k]? = some y := ⟨_, List.getElem?_eq_getElem (by have := HL.out; omega)⟩
    obtain ⟨g, ah, rfl, -, y0, y1, y2⟩ := HK.out.sl.get hy;have HY := hid hy;have u := z03 wr (.cells (enC y) 81);have K5 := hid (HK.out.step u);have z := hid (z0n HO.out u);have R5 := z02 wr (enC y) 81;have ai := hid R5;have f0 := R5.c0;have f1 := R5.c1;have f2 := R5.c2;have c0 := K5.out.row.c0;have c1 := K5.out.row.c1;have c2 := K5.out.row.c2;have c3 := K5.out.row.c3
    have A : B <= (wr.alloc (.cells (enC y) 81)).heap.size := by rw [World.size_alloc]; have := V.out; omega
    have aj : wr.heap.size < (wr.alloc (.cells (enC y) 81)).heap.size := by rw [World.size_alloc]; omega
    have X : ∀ g9, (wr.alloc (.cells (enC y) 81)).heap.size <= g9 -> True := fun _ _ => trivial
    have J : ∀ v : Value, Own wr B v out -> v.ownBlock ≠ some wr.heap.size := fun v ho e => by have := (ho.lt _ e).2; omega
    have aq := hid (J _ HO.out);clear hy u R5 X J
    by_cases hki : (k : Int) = i0
    ·have n : Hid (out ++ restF ⟨xl, xk, ⟨#[]⟩⟩ i0 true (l.drop (k + 1)) (k + 1) = dropC xl xk l) := hid (by rw [<- zac HY.out hki]; exact m.out)
     have Y : ((k : Int) == i0) = true := by rw [beq_iff_eq]; exact hki
     have ar := hid hki;clear hki;obtain ⟨yl, yk, yp⟩ := y;simp only at y0 y1 y2 f0 f1 f2 K5 z A;go_wp2;go_roundw
     case rel => exact ⟨k + 1, by omega, by go_num, out, rfl, by omega, z, n, K5, hid A⟩
     case measure => simp [intOf]; omega
    ·have Y : ((k : Int) == i0) = false := by rw [beq_eq_false_iff_ne]; exact hki
     have n : Hid ((out ++ [y]) ++ restF ⟨xl, xk, ⟨#[]⟩⟩ i0 true (l.drop (k + 1)) (k + 1) = dropC xl xk l) := hid (by rw [List.append_assoc, List.singleton_append, <- z8u HY.out hki (.inl rfl)]; exact m.out);obtain ⟨v7, w7, M, N, K7, au, -⟩ := z63 K5.out z.out H G A (by omega) y;clear hki m;obtain ⟨yl, yk, yp⟩ := y;simp only [World.size_alloc] at y0 y1 y2 f0 f1 f2 M N n
     go_wp2_with (at_builtin; refine z0x ?_)
     refine hid ?_;refine Lib.wpList_append_run _ rfl (.tmp 70) (.tmp 72) 22 22 rfl _ (.slice (some ⟨_, 0, none⟩) 1 1) ?hs ?hx _ _ M.out ?_
     case hs => rfl
     case hx => rfl
     go_wp2;go_roundw
     case rel => exact ⟨k + 1, by omega, by go_num, _, rfl, by rw [List.length_append, List.length_singleton]; omega, N, n, K7, hid (by omega)⟩
     case measure => simp [intOf]; omega
   ·have p := zdc (x := ⟨xl, xk, ⟨#[]⟩⟩) (at_ := i0) (put := true) (l := l) (k := k) (by have := HL.out; omega)
    have q : Hid (out = dropC xl xk l) := hid (by have := m.out; rw [p] at this; simpa using this);obtain ⟨a9, c9, Z, aw, -⟩ := z0j HO.out;subst Z;have O := hid HO.out.sl
    have r : out.length <= 200 := by rw [q.out]; exact Nat.le_trans (List.length_filter_le _ _) s.out.len
    obtain ⟨n9, o⟩ := nmd (out.length);rw [<- o.out] at O r
    have ax : ¬ (200 : Int) < n9 := by omega
    clear p r;rw [<- o.out];go_wp2
    go_ret2
    rw [o.out];exact z18.yes (by rw [HA.out, q.out]) (by rw [<- o.out]; exact O.out) HK.out.below
 ·have HA : Hid (oneC l ⟨true, ⟨xl, xk, ⟨#[]⟩⟩⟩ = .error 60) := hid (by rw [t.out]; unfold dropA; rw [if_neg (by simp), if_pos (by rw [hf]; rfl)])
  subst hik;clear hf;go_wp2
  go_ret2
  exact z18.no HA.out U.out
end Go.Proofs.YtdkkkeoicekdgaaGreatDoor.Ca

end
