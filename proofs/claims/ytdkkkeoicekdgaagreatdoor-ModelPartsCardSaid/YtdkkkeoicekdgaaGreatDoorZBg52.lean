/- Package catalog: drop, and a change carried out. -/
import Derived.Test.YtdkkkeoicekdgaaGreatDoorZBg2

section

namespace Go.Proofs.YtdkkkeoicekdgaaGreatDoor.Ca
set_option maxHeartbeats 6400000
set_option maxRecDepth 100000
open Go.Lib (hid)
open Go.RowKit Go.Proofs.YtdkkkeoicekdgaaGreatDoor
theorem SoL.stored {B S : Nat} {w W w' : World} {xs ys : List Ent} {v : Value} {a' : Option Addr} {n c' : Nat} (h : SoL B S W xs v) (hB : B <= W.heap.size) (hb : Below B w W) (ho : Own w' B (.slice a' n c') ys) (hg : W.grownBy w' v.ownBlock) :
  w'.cell? ⟨S, 0, none⟩ = some v /\ w'.frozen? ⟨S, 0, none⟩ = false /\ SoL B S (w'.setCell ⟨S, 0, none⟩ (.slice a' n c')) ys (.slice a' n c') /\ Below B w (w'.setCell ⟨S, 0, none⟩ (.slice a' n c')) := by
 have hS' : Row w' S 172 [v, cmpFn] := h.row.keep (hg.block S h.row.lt (fun e => h.ne e.symm))
 refine ⟨hS'.cell rfl, hS'.thaw 0, ⟨hS'.set 0 _, ?_, h.lt⟩, ?_⟩
 ·refine z0f ho (fun g hgg => ?_)
  have hne : g ≠ S := fun e => by
   subst e
   rcases ho.2 with ⟨h0, -⟩ | ⟨g', cap, cur, hv, -, hh, -⟩
   ·rw [h0] at hgg; cases hgg
   ·rw [hv] at hgg
    obtain rfl : g' = g := Option.some.inj hgg
    unfold Row at hS'
    rw [hh] at hS'
    injection hS' with h1
    injection h1 with _ h2
    cases h2
  exact Below.heap_setCell _ _ _ _ hne
 ·have h1 : Below B W w' := z9w (z9r hg) hB (fun k hk => (h.own.lt k hk).1)
  have h2 : Below B w' (w'.setCell ⟨S, 0, none⟩ (.slice a' n c')) := ((But.refl S w').set 0 _).below h.lt
  exact (hb.trans h1).trans h2
theorem zd0 (w : World) (B S : Nat) (xs : List Ent) (x : Ent) (v : Value) (hS : SoL B S w xs v) (hs : Srt xs) (hl : xs.length <= 200) (hB : B <= w.heap.size) :
  Calls Tryz.prog 223 #[.pointer (some ⟨S, 0, none⟩), enV x] w fun e w' => z4n B S (dropC x.loc x.key xs) w e (.bool (fndE x xs)) w' := by
 have hb0 := z04 w (.cells (enC x) 81)
 have HS0 := hS.below hb0
 have r0 := z01 w (enC x) 81
 obtain ⟨a, cap, rfl, hcap, hcap2, hg⟩ := hS.slice
 have HPL := hid (z7a (w.alloc (.cells (enC x) 81)) S a cap xs x HS0.row HS0.own.sl hs (by omega))
 have d0 := r0.cell (i := 0) rfl
 have d1 := r0.cell (i := 1) rfl
 have d2 := r0.cell (i := 2) rfl
 have HB0 := hid hb0
 have HS := hid HS0
 obtain ⟨fb, HFB⟩ : ∃ p, Hid (p = fndE x xs) := ⟨_, hid rfl⟩
 obtain ⟨p, HP⟩ : ∃ p, Hid (p = posE x xs) := ⟨_, hid rfl⟩
 rw [<- HP.out, <- HFB.out] at HPL
 rw [<- HFB.out]
 cases fb with
 | true =>
  obtain ⟨y, hy, -⟩ := z8s hs HFB.out.symm
  have hpl : p < xs.length := by have := (List.getElem?_eq_some_iff.1 hy).1; have := HP.out; omega
  have HD : Hid (dropC x.loc x.key xs = xs.take p ++ xs.drop (p + 1)) := hid (by rw [z6h hs HFB.out.symm, HP.out])
  have HDL : Hid (∀ w1, Below (w.alloc (.cells (enC x) 81)).heap.size (w.alloc (.cells (enC x) 81)) w1 -> Calls Tryz.prog 251 #[.slice a xs.length cap, .int .i64 p, .int .i64 ((p : Int) + 1)] w1 fun e w' => ∃ a' n c', e = .returned (.slice a' n c') /\ w'.cell? ⟨S, 0, none⟩ = some (.slice a xs.length cap) /\ w'.frozen? ⟨S, 0, none⟩ = false /\ Hid (SoL B S (w'.setCell ⟨S, 0, none⟩ (.slice a' n c')) (dropC x.loc x.key xs) (.slice a' n c') /\ Below B w (w'.setCell ⟨S, 0, none⟩ (.slice a' n c')))) := hid (fun w1 hb => by
   have h1 := HS0.below hb
   refine (zaw w1 B _ xs p h1.own (by omega) hpl).mono fun e w' hh => ?_
   obtain ⟨v', he, ho, hg'⟩ := hh
   obtain ⟨a', c', hv, -⟩ := z0g ho
   subst hv
   have hw1 : Below w.heap.size w w1 := z00 hb0 hb
   obtain ⟨k1, k2, k3, k4⟩ := h1.stored (w := w) (by have := hw1.size; omega) (hw1.mono hB) ho hg'
   exact ⟨a', _, c', he, k1, k2, hid ⟨by rw [HD.out]; exact k3, k4⟩⟩)
  clear hS HS0 hb0 r0 hs hy hg HD
  generalize hLL : xs.length = L at *
  clear hLL
  obtain ⟨xl, xk, xp⟩ := x
  simp only at d0 d1 d2 HB0 HPL HS HDL
  go_enter Tryz.func223, Tryz.ntmps223
  go_wp2_with fail
  refine HPL.out.mono ?_
  rintro e w1 ⟨rfl, hb1⟩
  have HS1 := hid (HS.out.below hb1)
  have HD1 := hid (HDL.out w1 hb1)
  have c0 : w1.cell? ⟨S, 0, none⟩ = some (.slice a L cap) := HS1.out.row.cell (i := 0) rfl
  clear hb1 HDL HPL d0 d1 d2
  go_wp2_with fail
  refine HD1.out.mono ?_
  rintro e w2 ⟨a2, n2, c2, rfl, hc2, hf2, hE2⟩
  go_wp2
  go_ret
  exact ⟨rfl, _, hE2.out⟩
 | false =>
  have HD : Hid (dropC x.loc x.key xs = xs) := hid (z55 (zcx hs HFB.out.symm))
  clear hS HS0 hb0 r0 hs hg
  generalize hLL : xs.length = L at *
  clear hLL
  obtain ⟨xl, xk, xp⟩ := x
  simp only at d0 d1 d2 HB0 HPL HS HD
  go_enter Tryz.func223, Tryz.ntmps223
  go_wp2_with fail
  refine HPL.out.mono ?_
  rintro e w1 ⟨rfl, hb1⟩
  have HS1 := hid (HS.out.below hb1)
  have HB1 := hid ((z00 HB0.out hb1).mono hB)
  go_wp2
  go_ret
  exact ⟨rfl, _, by rw [HD.out]; exact HS1.out, HB1.out⟩
theorem not_emp {s : BA} (h : s ≠ ⟨#[]⟩) : s.toList.isEmpty = false := by
 rw [ByteArray.toList_eq]
 cases hl : s.data.toList with
 | nil => exact absurd (ByteArray.ext (Array.toList_inj.1 (by rw [hl]))) h
 | cons => rfl
theorem fnd_iff {xs : List Ent} {x : Ent} (hs : Srt xs) : fndE x xs = (findC xs x.loc x.key).isSome := by
 cases h : fndE x xs with
 | true => obtain ⟨y, -, hy⟩ := z8s hs h; rw [hy]; rfl
 | false => rw [zcx hs h]; rfl
def OneP (B S : Nat) (r : Ans) (w : World) (e : Ending) (w' : World) : Prop := Below B w w' /\ match r with
 | .ok l => e = .returned (.int .i64 0) /\ ∃ v', SoL B S w' l v'
 | .error k => e = .returned (.int .i64 k)
def dropA (l : List Ent) (x : Ent) : Ans := if x.pat ≠ ⟨#[]⟩ then .error 110 else if (findC l x.loc x.key).isNone then .error 60 else .ok (dropC x.loc x.key l)
theorem drop_any (w : World) (B S : Nat) (xs : List Ent) (x : Ent) (v : Value) (hS : SoL B S w xs v) (hs : Srt xs) (hl : xs.length <= 200) (hB : B <= w.heap.size) :
  Calls Tryz.prog 192 #[.pointer (some ⟨S, 0, none⟩), enV x] w (OneP B S (dropA xs x) w) := by
 have hb0 := z04 w (.cells (enC x) 81)
 have r0 := z01 w (enC x) 81
 have d0 := r0.cell (i := 0) rfl
 have d1 := r0.cell (i := 1) rfl
 have d2 := r0.cell (i := 2) rfl
 have HB0 := hid hb0
 have HDR := hid (zd0 (w.alloc (.cells (enC x) 81)) B S xs x v (hS.below hb0) hs hl (by rw [World.size_alloc]; omega))
 have HFI := hid (fnd_iff (x := x) hs)
 obtain ⟨fb, HFB⟩ : ∃ p, Hid (p = fndE x xs) := ⟨_, hid rfl⟩
 rw [<- HFB.out] at HDR HFI
 have HBB : Hid (B <= w.heap.size) := hid hB
 by_cases hp : x.pat = ⟨#[]⟩
 ·cases fb with
  | true =>
   have HA : Hid (dropA xs x = .ok (dropC x.loc x.key xs)) := hid (by
    unfold dropA
    rw [if_neg (by simpa using hp), if_neg (by rw [Option.isNone_iff_eq_none]; intro h; have := HFI.out; rw [h] at this; cases this)])
   clear hS hs hl hb0 r0
   obtain ⟨xl, xk, xp⟩ := x
   simp only at d0 d1 d2 HB0 HDR hp HA
   subst hp
   go_enter Tryz.func192, Tryz.ntmps192
   go_wp2_with fail
   refine HDR.out.mono ?_
   rintro e w1 ⟨rfl, v1, hs1, hb1⟩
   have HS1 := hid hs1
   have HB1 := hid hb1
   clear hs1 hb1
   go_wp2
   go_ret
   refine ⟨(HB0.out.mono HBB.out).trans HB1.out, ?_⟩
   rw [HA.out]
   exact ⟨rfl, v1, HS1.out⟩
  | false =>
   have HA : Hid (dropA xs x = .error 60) := hid (by
    unfold dropA
    rw [if_neg (by simpa using hp), if_pos (by rw [Option.isNone_iff_eq_none]; have := HFI.out; cases h : findC xs x.loc x.key with | none => rfl | some y => rw [h] at this; cases this)])
   clear hS hs hl hb0 r0
   obtain ⟨xl, xk, xp⟩ := x
   simp only at d0 d1 d2 HB0 HDR hp HA
   subst hp
   go_enter Tryz.func192, Tryz.ntmps192
   go_wp2_with fail
   refine HDR.out.mono ?_
   rintro e w1 ⟨rfl, v1, hs1, hb1⟩
   have HB1 := hid hb1
   clear hs1 hb1
   go_wp2
   go_ret
   refine ⟨(HB0.out.mono HBB.out).trans HB1.out, ?_⟩
   rw [HA.out]
   rfl
 ·have HA : Hid (dropA xs x = .error 110) := hid (by unfold dropA; rw [if_pos hp])
  have hpe := not_emp hp
  clear hS hs hl hb0 r0 hp HDR
  obtain ⟨xl, xk, xp⟩ := x
  simp only at d0 d1 d2 HB0 hpe HA
  go_enter Tryz.func192, Tryz.ntmps192
  go_wp2
  go_ret
  refine ⟨HB0.out.mono HBB.out, ?_⟩
  rw [HA.out]
  rfl
abbrev chV (c : Chg) : Value := .agg #[.bool c.drop, .string c.e.loc, .string c.e.key, .string c.e.pat]
abbrev chC (c : Chg) : Array Value := #[.bool c.drop, .string c.e.loc, .string c.e.key, .string c.e.pat]
theorem one_drop {l : List Ent} {c : Chg} (h : c.drop = true) : oneC l c = dropA l c.e := by unfold oneC dropA; rw [if_pos h]
theorem one_bad {l : List Ent} {c : Chg} (h : c.drop = false) (hm : mayB c.e = false) : oneC l c = .error 110 := by unfold oneC; rw [if_neg (by rw [h]; simp), if_pos hm]
theorem one_long {l : List Ent} {c : Chg} (h : c.drop = false) (hm : mayB c.e = true) (hl : 200 < (putC c.e l).length) : oneC l c = .error 2 := by unfold oneC; rw [if_neg (by rw [h]; simp), if_neg (by rw [hm]; simp), if_pos hl]
theorem one_put {l : List Ent} {c : Chg} (h : c.drop = false) (hm : mayB c.e = true) (hl : ¬ 200 < (putC c.e l).length) : oneC l c = .ok (putC c.e l) := by unfold oneC; rw [if_neg (by rw [h]; simp), if_neg (by rw [hm]; simp), if_neg hl]
theorem z6l (w : World) (B S : Nat) (xs : List Ent) (c : Chg) (v : Value) (hS : SoL B S w xs v) (hs : Srt xs) (hl : xs.length <= 200) (hB : B <= w.heap.size) (hF : FitE c.e) (hE : EnvC w) :
  Calls Tryz.prog 162 #[.pointer (some ⟨S, 0, none⟩), chV c] w (OneP B S (oneC xs c) w) := by
 have hb0 := z04 w (.cells (chC c) 83)
 have r0 := z01 w (chC c) 83
 have d0 := r0.cell (i := 0) rfl
 have d1 := r0.cell (i := 1) rfl
 have d2 := r0.cell (i := 2) rfl
 have d3 := r0.cell (i := 3) rfl
 have HB0 := hid (hb0.mono hB)
 have HSZ : Hid (B <= (w.alloc (.cells (chC c) 83)).heap.size) := hid (by rw [World.size_alloc]; omega)
 cases hd : c.drop with
 | true =>
  have HA := hid (one_drop (l := xs) hd)
  have HDR := hid (drop_any (w.alloc (.cells (chC c) 83)) B S xs c.e v (hS.below hb0) hs hl HSZ.out)
  clear hS hs hl hb0 r0 hF hE hB HSZ
  obtain ⟨cd, xl, xk, xp⟩ := c
  simp only at d0 d1 d2 d3 HB0 HDR HA hd
  subst hd
  go_enter Tryz.func162, Tryz.ntmps162
  go_wp2_with fail
  refine HDR.out.mono ?_
  rintro e w1 ⟨hb1, hr⟩
  have HB1 := hid (HB0.out.trans hb1)
  rw [<- HA.out] at hr
  cases ho : oneC xs ⟨true, xl, xk, xp⟩ with
  | ok l =>
   rw [ho] at hr
   obtain ⟨rfl, hv⟩ := hr
   have HV := hid hv
   have HO := hid ho
   clear hv ho hb1
   go_wp2
   go_ret
   refine ⟨HB1.out, ?_⟩
   rw [HO.out]
   exact ⟨rfl, HV.out⟩
  | error k =>
   rw [ho] at hr
   obtain rfl : e = .returned (.int .i64 k) := hr
   have HO := hid ho
   clear ho hb1
   go_wp2
   go_ret
   refine ⟨HB1.out, ?_⟩
   rw [HO.out]
   rfl
 | false =>
  have HW := hid (z6q c.e (w.alloc (.cells (chC c) 83)) (hE.below hb0) hF)
  have HS1 := hid (hS.below hb0)
  have HSR := hid hs
  have HRR := hid r0
  cases hm : mayB c.e with
  | false =>
   have HA := hid (one_bad (l := xs) hd hm)
   rw [hm] at HW
   clear hS hs hb0 r0 hF hE hm
   obtain ⟨cd, xl, xk, xp⟩ := c
   simp only at d0 d1 d2 d3 HB0 HW HA hd HSZ HS1 HRR
   subst hd
   go_enter Tryz.func162, Tryz.ntmps162
   go_wp2_with fail
   refine HW.out.mono ?_
   rintro e w1 ⟨rfl, hb1⟩
   have HB1 := hid (HB0.out.trans (hb1.mono HSZ.out))
   clear hb1
   go_wp2
   go_ret
   refine ⟨HB1.out, ?_⟩
   rw [HA.out]
   rfl
  | true =>
   rw [hm] at HW
   have HAL := hid (one_long (l := xs) hd hm)
   have HAO := hid (one_put (l := xs) hd hm)
   clear hS hs hb0 r0 hF hE hm
   obtain ⟨cd, xl, xk, xp⟩ := c
   simp only at d0 d1 d2 d3 HB0 HW HAL HAO hd HSZ HS1 HRR
   subst hd
   go_enter Tryz.func162, Tryz.ntmps162
   go_wp2_with fail
   refine HW.out.mono ?_
   rintro e w1 ⟨rfl, hb1⟩
   have HB1 := hid (HB0.out.trans (hb1.mono HSZ.out))
   have R1 := HRR.out.below hb1
   have e1 := R1.cell (i := 1) rfl
   have e2 := R1.cell (i := 2) rfl
   have e3 := R1.cell (i := 3) rfl
   have HP := hid (put_any w1 B S xs ⟨xl, xk, xp⟩ v (HS1.out.below hb1) HSR.out hl (by have := hb1.size; have := HSZ.out; omega))
   clear hb1 R1 HW
   go_wp2_with fail
   refine HP.out.mono ?_
   rintro e w2 ⟨rfl, v2, hs2, hb2⟩
   have HB2 := hid (HB1.out.trans hb2)
   obtain ⟨a2, cap2, rfl, -, hc2, -⟩ := hs2.slice
   have HS2 := hid hs2
   have c0 := hs2.row.cell (i := 0) rfl
   clear hb2 hs2 HP
   obtain ⟨n2, HN2⟩ : ∃ n, Hid (n = (putC ⟨xl, xk, xp⟩ xs).length) := ⟨_, hid rfl⟩
   rw [<- HN2.out] at c0 HS2 HAL HAO
   by_cases hn : 200 < n2
   ·have hn2 : (200 : Int) < n2 := by omega
    have HA := hid (HAL.out hn)
    clear hn
    go_wp2
    go_ret
    refine ⟨HB2.out, ?_⟩
    rw [HA.out]
    rfl
   ·have hn2 : ¬ (200 : Int) < n2 := by omega
    have HA := hid (HAO.out hn)
    clear hn
    go_wp2
    go_ret
    refine ⟨HB2.out, ?_⟩
    rw [HA.out]
    exact ⟨rfl, _, HS2.out⟩
end Go.Proofs.YtdkkkeoicekdgaaGreatDoor.Ca

end

section

namespace Go.Proofs.YtdkkkeoicekdgaaGreatDoor.Ca
set_option maxHeartbeats 6400000
set_option maxRecDepth 100000
open Go.Lib (hid)
open Go.RowKit Go.Proofs.YtdkkkeoicekdgaaGreatDoor
def CH (c : Chg) (cs : List Value) : Prop := cs = [.bool c.drop, .string c.e.loc, .string c.e.key, .string c.e.pat]
abbrev SlH (w : World) (S : Nat -> Prop) (v : Value) (xs : List Chg) : Prop := Sl 4 CH w S v xs
theorem SlH.old {w w' : World} {v : Value} {xs : List Chg} (h : SlH w (Old w) v xs) (hb : Below w.heap.size w w') : SlH w' (Old w') v xs := Sl.keep h (fun b hb2 => hb.block b hb2) (fun _ h => Nat.lt_of_lt_of_le h hb.size) (fun _ _ h => h)
theorem SlH.lt {w w' : World} {B : Nat} {v : Value} {xs : List Chg} (h : SlH w (fun b => b < B) v xs) (hb : Below B w w') : SlH w' (fun b => b < B) v xs := Sl.keep h (fun b hb2 => hb.block b hb2) (fun _ h => h) (fun _ _ h => h)
theorem SlH.len {w : World} {S : Nat -> Prop} {a : Option Addr} {n cap : Nat} {xs : List Chg} (h : SlH w S (.slice a n cap) xs) : n = xs.length /\ xs.length <= cap /\ cap <= 9223372036854775807 := by
 obtain ⟨a', cap', hv, h1, h2, -⟩ := h
 injection hv with _ h3 h4
 exact ⟨h3, by omega, by omega⟩
theorem SlH.get {w : World} {S : Nat -> Prop} {a : Option Addr} {n cap : Nat} {xs : List Chg} (h : SlH w S (.slice a n cap) xs) {j : Nat} {x : Chg} (hx : xs[j]? = some x) :
  ∃ b off, a = some ⟨b, off, none⟩ /\ S b /\ w.cell? ⟨b, off + j * 4, none⟩ = some (.bool x.drop) /\ w.cell? ⟨b, off + j * 4 + 1, none⟩ = some (.string x.e.loc) /\ w.cell? ⟨b, off + j * 4 + 2, none⟩ = some (.string x.e.key) /\ w.cell? ⟨b, off + j * 4 + 3, none⟩ = some (.string x.e.pat) := by
 obtain ⟨a', cap', hv, h1, h2, h3⟩ := h
 injection hv with h4 _ _
 subst h4
 obtain ⟨b, off, ha, hb, hat⟩ := h3 (fun e => by subst e; simp at hx)
 obtain ⟨cs, -, hc, hcc⟩ := hat j x hx
 unfold CH at hc
 subst hc
 exact ⟨b, off, ha, hb, hcc 0 _ rfl, hcc 1 _ rfl, hcc 2 _ rfl, hcc 3 _ rfl⟩
def z3q (r : Ans) (w : World) (e : Ending) (w' : World) : Prop := Below w.heap.size w w' /\ match r with
 | .ok l => ∃ a c, e = .returned (.tuple #[.slice a l.length c, .int .i64 0]) /\ SlE w' (Old w') (.slice a l.length c) l
 | .error k => e = .returned (.tuple #[.slice none 0 0, .int .i64 k])
theorem z3q.no {r : Ans} {w w' : World} {k : Nat} (h : r = .error k) (hb : Below w.heap.size w w') : z3q r w (.returned (.tuple #[.slice none 0 0, .int .i64 k])) w' := ⟨hb, by rw [h]⟩
theorem z3q.yes {r : Ans} {w w' : World} {l : List Ent} {a : Option Addr} {c : Nat} (h : r = .ok l) (hs : SlE w' (Old w') (.slice a l.length c) l) (hb : Below w.heap.size w w') : z3q r w (.returned (.tuple #[.slice a l.length c, .int .i64 0])) w' := ⟨hb, by rw [h]; exact ⟨a, c, rfl, hs⟩⟩
theorem zb3 {l : List Ent} {cs : List Chg} (h : z0m l ≠ 0) : z18 l cs = .error (z0m l) := by unfold z18; rw [if_pos h]
theorem z91 {l : List Ent} {cs : List Chg} (h : z0m l = 0) (h2 : 20 < cs.length) : z18 l cs = .error 2 := by unfold z18; rw [if_neg (by simpa using h), if_pos h2]
theorem zdj {l : List Ent} {cs : List Chg} (h : z0m l = 0) (h2 : ¬ 20 < cs.length) : z18 l cs = foldC l cs := by unfold z18; rw [if_neg (by simpa using h), if_neg h2]
theorem z74 (l : List Ent) : z0m l <= 110 := by
 unfold z0m
 split
 ·omega
 ·split <;> omega
theorem zdi (w : World) (a : Option Addr) (cap : Nat) (xs : List Ent) (b : Option Addr) (capc : Nat) (cs : List Chg) (hX : SlE w (Old w) (.slice a xs.length cap) xs) (hC : SlH w (Old w) (.slice b cs.length capc) cs) (hF : ∀ x, x ∈ xs -> FitE x) (hFC : ∀ c, c ∈ cs -> FitE c.e) (hE : EnvC w) :
  Calls Tryz.prog 128 #[.slice a xs.length cap, .slice b cs.length capc] w (z3q (z18 xs cs) w) := by
 have HR := hid (z1l w a cap xs hX hF hE)
 have hle := z74 xs
 have hcl := hC.len
 obtain ⟨q, HQ⟩ : ∃ q, Hid (q = z0m xs) := ⟨_, hid rfl⟩
 rw [<- HQ.out] at HR hle
 by_cases h0 : q = 0
 ·have HQ0 : Hid (z0m xs = 0) := hid (by rw [<- HQ.out]; exact h0)
  have HRG : Hid (Rgt xs) := hid (z1p.1 HQ0.out)
  subst h0
  by_cases h20 : 20 < cs.length
  ·have HA := hid (z91 (cs := cs) HQ0.out h20)
   have h20' : (20 : Int) < cs.length := by omega
   clear hX hC hF hFC hE h20
   generalize xs.length = L at *
   generalize cs.length = M at *
   go_enter Tryz.func128, Tryz.ntmps128
   go_wp2_with fail
   refine HR.out.mono ?_
   rintro e w1 ⟨rfl, hb1⟩
   have HB := hid hb1
   clear hb1
   go_wp2
   go_ret2
   exact z3q.no HA.out HB.out
  ·have HA := hid (zdj HQ0.out h20)
   have h20' : ¬ (20 : Int) < cs.length := by omega
   have HCL : Hid (∀ w1, Below w.heap.size w w1 -> Calls Tryz.prog 79 #[.slice a xs.length cap] w1 (zdm xs w1)) := hid (fun w1 hb => z7y w1 a cap xs (hX.old hb) (by have := HRG.out.len; omega))
   have HCS : Hid (SlH w (fun k => k < w.heap.size) (.slice b cs.length capc) cs) := hid hC
   have HFC := hid hFC
   have HE := hid hE
   obtain ⟨M, HM⟩ : ∃ M, Hid (M = cs.length) := ⟨_, hid rfl⟩
   rw [<- HM.out] at h20' h20 HCS hcl
   have h20n : M <= 20 := by omega
   obtain ⟨L, HL⟩ : ∃ L, Hid (L = xs.length) := ⟨_, hid rfl⟩
   rw [<- HL.out] at HR HCL
   rw [<- HM.out, <- HL.out]
   clear hX hC hF hFC hE h20
   go_enter Tryz.func128, Tryz.ntmps128
   go_wp2_with fail
   refine HR.out.mono ?_
   rintro e w1 ⟨rfl, hb1⟩
   have HB1 := hid hb1
   have HC1 := hid (HCL.out w1 hb1)
   clear hb1 HR HCL
   go_wp2_with fail
   refine HC1.out.mono ?_
   rintro e w2 ⟨v2, rfl, ho2, hb2⟩
   obtain ⟨a2, c2, hv2, hc2, -, -⟩ := z0g ho2
   rw [<- HL.out] at hv2
   subst hv2
   have HO2 := hid ho2
   have HB2 := hid (z00 HB1.out hb2)
   have HW1 : Hid (w.heap.size <= w1.heap.size) := hid HB1.out.size
   have HLI := hid (z5q a2 L c2 w2)
   clear ho2 hb2 HC1 HB1
   go_wp2_with fail
   refine HLI.out.mono ?_
   rintro e w3 ⟨rfl, hb3⟩
   have HB3 := hid (z00 HB2.out hb3)
   have HSO : Hid (SoL w.heap.size w3.heap.size (w3.alloc (.cells #[.slice a2 L c2, cmpFn] 172)) xs (.slice a2 L c2)) := hid ⟨z01 w3 #[.slice a2 L c2, cmpFn] 172, by
    have h1 := z17 (z17 HO2.out hb3) (z04 w3 (.cells #[.slice a2 L c2, cmpFn] 172))
    exact ⟨h1.1, h1.2.imp id (fun ⟨g, cap, cur, hv, hg, hr⟩ => ⟨g, cap, cur, hv, Nat.le_trans HW1.out hg, hr⟩)⟩, HB3.out.size⟩
   have HBS := hid (z00 HB3.out (z04 w3 (.cells #[.slice a2 L c2, cmpFn] 172)))
   clear hb3 HLI HB2 HO2
   obtain ⟨S, HS⟩ : ∃ S, Hid (S = w3.heap.size) := ⟨_, hid rfl⟩
   go_wp2
   rw [<- HS.out] at HSO ⊢
   generalize w3.alloc (.cells #[.slice a2 L c2, cmpFn] 172) = w4 at *
   go_loopw [24] (fun i wr => ∃ k : Nat, k <= M /\ i = .int .i64 k /\ ∃ l v, Hid (SoL w.heap.size S wr l v) /\ Hid (Rgt l) /\ Hid (foldC l (cs.drop k) = foldC xs cs) /\ Hid (Below w.heap.size w wr)) (fun i _ => M - (intOf i).toNat)
   case atStart => exact ⟨0, Nat.zero_le _, rfl, xs, _, HSO, HRG, hid (by rw [List.drop_zero]), HBS⟩
   case round =>
    obtain ⟨k, hk, rfl, l, v, HSr, HRr, HFr, HBr⟩ := hrel
    by_cases hlt : k < M
    ·obtain ⟨c, hc⟩ : ∃ c, cs[k]? = some c := ⟨_, List.getElem?_eq_getElem (by have := HM.out; omega)⟩
     obtain ⟨b2, off2, rfl, -, x0, x1, x2, x3⟩ := (HCS.out.lt HBr.out).get hc
     have hdr : cs.drop k = c :: cs.drop (k + 1) := by
      obtain ⟨h1, h2⟩ := List.getElem?_eq_some_iff.1 hc
      rw [List.drop_eq_getElem_cons h1, h2]
     have HST : Hid (foldC l (cs.drop k) = match oneC l c with | .ok l' => foldC l' (cs.drop (k + 1)) | .error k => .error k) := hid (by rw [hdr, foldC]; cases oneC l c <;> rfl)
     have hb5 := z04 wr (.cells (chC c) 83)
     have HB5 := hid (z00 HBr.out hb5)
     have HONE := hid (z6l (wr.alloc (.cells (chC c) 83)) w.heap.size S l c v (HSr.out.below hb5) HRr.out.srt HRr.out.len (HB5.out.size) (HFC.out c (List.mem_of_getElem? hc)) (HE.out.below HB5.out))
     have R5 := z01 wr (chC c) 83
     have d0 := R5.cell (i := 0) rfl
     have d1 := R5.cell (i := 1) rfl
     have d2 := R5.cell (i := 2) rfl
     have d3 := R5.cell (i := 3) rfl
     clear hc hdr hb5 R5
     obtain ⟨cd, xl, xk, xp⟩ := c
     simp only at x0 x1 x2 x3 d0 d1 d2 d3 HB5 HONE
     cases ho : oneC l ⟨cd, xl, xk, xp⟩ with
     | ok l' =>
      have HRN := hid (z7e HRr.out ho)
      have HFN : Hid (foldC l' (cs.drop (k + 1)) = foldC xs cs) := hid (by rw [<- HFr.out, HST.out, ho])
      rw [ho] at HONE
      clear ho HST
      go_wp2_with fail
      refine HONE.out.mono ?_
      rintro e w6 ⟨hb6, rfl, v6, hs6⟩
      have HS6 := hid hs6
      have HB6 := hid (HB5.out.trans hb6)
      clear hb6 hs6
      go_wp2
      go_roundw
      case rel => exact ⟨k + 1, by omega, by go_num, l', v6, HS6, HRN, HFN, HB6⟩
      case measure => simp [intOf]; omega
     | error q =>
      have HFN : Hid (z18 xs cs = .error q) := hid (by rw [HA.out, <- HFr.out, HST.out, ho])
      have hq : q ≠ 0 := by
       intro h; subst h
       unfold oneC at ho
       split at ho
       ·split at ho
        ·cases ho
        ·split at ho <;> cases ho
       ·split at ho
        ·cases ho
        ·split at ho <;> cases ho
      have hqb : ((q : Int) != 0) = true := by rw [bne_iff_ne]; omega
      rw [ho] at HONE
      clear ho HST hq
      go_wp2_with fail
      refine HONE.out.mono ?_
      rintro e w6 ⟨hb6, rfl⟩
      have HB6 := hid (HB5.out.trans hb6)
      clear hb6
      go_wp2
      go_ret2
      exact z3q.no HFN.out HB6.out
    ·have HFN : Hid (z18 xs cs = .ok l) := hid (by rw [HA.out, <- HFr.out, List.drop_of_length_le (by have := HM.out; omega), foldC])
     obtain ⟨a9, c9, rfl, -⟩ := HSr.out.slice
     have z0 := HSr.out.row.cell (i := 0) rfl
     have HSL := hid HSr.out.own.sl
     obtain ⟨n9, HN9⟩ : ∃ n, Hid (n = l.length) := ⟨_, hid rfl⟩
     rw [<- HN9.out] at z0
     go_wp2
     go_ret2
     rw [HN9.out]
     exact z3q.yes HFN.out HSL.out HBr.out
 ·have HA := hid (zb3 (l := xs) (cs := cs) (by rw [<- HQ.out]; exact h0))
  have hqb : ((q : Int) != 0) = true := by rw [bne_iff_ne]; omega
  clear hX hC hF hFC hE h0
  generalize xs.length = L at *
  generalize cs.length = M at *
  go_enter Tryz.func128, Tryz.ntmps128
  go_wp2_with fail
  refine HR.out.mono ?_
  rintro e w1 ⟨rfl, hb1⟩
  have HB := hid hb1
  clear hb1
  go_wp2
  go_ret2
  exact z3q.no (by rw [HA.out, HQ.out]) HB.out
end Go.Proofs.YtdkkkeoicekdgaaGreatDoor.Ca

end

section

namespace Go.Proofs.YtdkkkeoicekdgaaGreatDoor.Ca
open Go.RowKit Go.Proofs.YtdkkkeoicekdgaaGreatDoor
def AtIs (x : Ent) (at_ : Int) (l : List Ent) (i : Nat) : Prop := ∀ (j : Nat) y, l[j]? = some y -> (((i + j : Nat) : Int) = at_ ↔ sameB x.loc x.key y = true)
theorem AtIs.tail {x y : Ent} {at_ : Int} {r : List Ent} {i : Nat} (h : AtIs x at_ (y :: r) i) : AtIs x at_ r (i + 1) := fun j z hz => by
 have := h (j + 1) z (by simpa using hz)
 rwa [show i + (j + 1) = i + 1 + j by omega] at this
structure OK1 (w : World) (X : Nat) (c : Chg) (l : List Ent) (a : Option Addr) (cap : Nat) (W : World) : Prop where
 row : Row W X 83 [.bool c.drop, .string c.e.loc, .string c.e.key, .string c.e.pat]
 sl : SlE W (fun b => b < w.heap.size) (.slice a l.length cap) l
 below : Below w.heap.size w W
 hX : w.heap.size <= X
theorem OK1.step {w W W' : World} {X : Nat} {c : Chg} {l : List Ent} {a : Option Addr} {cap : Nat} (h : OK1 w X c l a cap W) (hb : Below W.heap.size W W') : OK1 w X c l a cap W' :=
 ⟨h.row.below hb, Sl.keep h.sl (fun b hb2 => hb.block b (Nat.lt_of_lt_of_le hb2 h.below.size)) (fun _ h => h) (fun _ _ h => h), z00 h.below hb, h.hX⟩
theorem OK1.fr {w W W' : World} {X : Nat} {c : Chg} {l : List Ent} {a : Option Addr} {cap : Nat} {r : Option Nat} (h : OK1 w X c l a cap W) (hg : W.grownBy W' r) (hr : ∀ g, r = some g -> w.heap.size <= g /\ g ≠ X) : OK1 w X c l a cap W' :=
 ⟨h.row.keep (hg.block X h.row.lt (fun e => (hr X e.symm).2 rfl)), Sl.keep h.sl (fun b hb2 => hg.block b (Nat.lt_of_lt_of_le hb2 h.below.size) (fun e => by have := (hr b e.symm).1; have hb3 : b < w.heap.size := hb2; omega)) (fun _ h => h) (fun _ _ h => h),
  ⟨hg.os.trans h.below.os, hg.tape.trans h.below.tape, hg.output.trans h.below.output, Nat.le_trans h.below.size hg.size, fun k hk => (hg.block k (Nat.lt_of_lt_of_le hk h.below.size) (fun e => by have := (hr k e.symm).1; omega)).trans (h.below.block k hk)⟩, h.hX⟩
theorem OK1.old {w W : World} {X : Nat} {c : Chg} {l : List Ent} {a : Option Addr} {cap : Nat} (h : OK1 w X c l a cap W) : SlE W (Old W) (.slice a l.length cap) l := Sl.keep h.sl (fun _ _ => rfl) (fun _ hb => Nat.lt_of_lt_of_le hb h.below.size) (fun _ _ h => h)
theorem zbd {p : Prop} (h : Hid p) : p := h.out
end Go.Proofs.YtdkkkeoicekdgaaGreatDoor.Ca

end

section

namespace Go.Proofs.YtdkkkeoicekdgaaGreatDoor.Ca
open Go.RowKit Go.Proofs.YtdkkkeoicekdgaaGreatDoor
end Go.Proofs.YtdkkkeoicekdgaaGreatDoor.Ca

end
