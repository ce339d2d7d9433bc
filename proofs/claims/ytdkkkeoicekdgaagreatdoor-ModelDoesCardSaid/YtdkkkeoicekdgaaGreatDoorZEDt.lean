/- The document's reader in memory: parts. -/
import Derived.Test.YtdkkkeoicekdgaaGreatDoorZEg20

namespace Go.Proofs.YtdkkkeoicekdgaaGreatDoor.Dr
set_option maxHeartbeats 12800000
set_option maxRecDepth 100000
open Go.Lib (hid)
open Go.RowKit Go.Proofs.YtdkkkeoicekdgaaGreatDoor
theorem nowP {pb : Nat} {s : BA} {S : St} {w : World} (hs : s.size <= 2000) (h : PAt w pb s S) : Calls Tryz.prog 226 #[.pointer (some ⟨pb, 0, none⟩)] w fun e w' => e = .returned (.int .i64 (nowI s.data.toList S)) /\ PAt w' pb s S /\ Fr (· = pb) w w' :=
 (z1q pb s S w hs h).mono (fun _ _ ⟨h1, n, h2⟩ => by
  subst h2
  exact ⟨h1, h.drewN n, Fr.of_same ((Same.refl _).drewN _)⟩)
def lastT (xs : List Pt) : Nat := match xs.getLast? with | some x => x.t.size | none => 0
theorem z2r (xs : List Pt) (x : Pt) : lastT (xs ++ [x]) = x.t.size := by unfold lastT; rw [List.getLast?_concat]
theorem z7q (xs : List Pt) (c : UInt8) : (addF xs c).length <= xs.length + 1 /\ lastT (addF xs c) <= lastT xs + 1 := by
 rcases List.eq_nil_or_concat xs with rfl | ⟨ys, x, rfl⟩
 ·rw [zj5]; exact ⟨by simp, by rw [z2r]; exact Nat.le_add_left 1 _⟩
 ·simp only [List.concat_eq_append]
  by_cases hk : x.k = 1
  ·rw [zez ys hk, z2r, z2r, List.length_append, List.length_append]
   refine ⟨by simp, ?_⟩
   show (x.t ++ ⟨#[c]⟩ : BA).size <= _
   rw [ByteArray.size_append]; exact Nat.le_refl _
  ·rw [zey hk, z2r]
   exact ⟨by simp, Nat.le_add_left 1 _⟩
theorem z7f {xs : List Pt} {m : Nat} (h : lastT xs <= m) : ∀ x, xs.getLast? = some x -> x.t.size <= m := fun x hx => by
 unfold lastT at h; rw [hx] at h; exact h
structure PaU (s : BA) (pb : Nat) (w wr : World) (n : Nat) (v : Value) (xs : List Pt) (vs : List Value) (T : St) : Prop where
 gw : Gw 263 4 (CPn (n + 1)) w.heap.size wr v xs vs
 pt : PAt wr pb s T
 fr : Fr (· = pb) w wr
section
variable {s : BA} {pb : Nat} {w wr w2 : World} {n : Nat} {v : Value} {xs : List Pt} {vs : List Value} {T T2 : St}
theorem PaU.step (h : PaU s pb w wr n v xs vs T) (hlr : pb < w.heap.size) (hf : Fr (· = pb) wr w2) (hp : PAt w2 pb s T2) : PaU s pb w w2 n v xs vs T2 :=
 ⟨h.gw.fr (kpP _) hf (fun _ hB _ e => by omega), hp, h.fr.trans hf⟩
theorem PaU.le {m : Nat} (h : PaU s pb w wr n v xs vs T) (hm : n <= m) : PaU s pb w wr m v xs vs T := ⟨h.gw.leP (by omega), h.pt, h.fr⟩
theorem PaU.alloc (h : PaU s pb w wr n v xs vs T) (hlr : pb < w.heap.size) (o : Obj) : PaU s pb w (wr.alloc o) n v xs vs T := h.step hlr ((Fr.refl _ _).alloc _) (h.pt.alloc o)
theorem PaU.on {i : Nat} (h : PaU s pb w wr n v xs vs (i, 0)) (hlr : pb < w.heap.size) : PaU s pb w (wr.setCell ⟨pb, 1, none⟩ (.int .i64 ((i : Int) + 1))) n v xs vs (i + 1, 0) := h.step hlr (z0l 1 _) (PAt.on (S := (i, 0)) h.pt)
theorem PaU.own (h : PaU s pb w wr n v xs vs T) : wr.ownsRow w.heap.size 263 4 v xs.length vs := h.gw.own
theorem PaU.lt (h : PaU s pb w wr n v xs vs T) : ∀ b, v.ownBlock = some b -> w.heap.size <= b /\ b < wr.heap.size := fun b hb => h.gw.own.lt b hb
theorem PaU.push {w9 : World} {o : Obj} {x : Pt} {cs : List Value} {g c m B2 : Nat} (h : PaU s pb w wr n v xs vs T) (hlr : pb < w.heap.size) (hm : m = xs.length) (hx : CPn (n + 1) wr (Fsh B2 wr) x cs) (hB : w.heap.size <= B2) (hv : ∀ b, v.ownBlock = some b -> b < B2) (hk : cs.length = 4)
  (hg : (wr.alloc o).grownBy w9 v.ownBlock) (hown : w9.ownsRow w.heap.size 263 4 (.slice (some ⟨g, 0, none⟩) (m + 1) c) (m + 1) (vs ++ cs)) (hgl : v.ownBlock = some g ∨ wr.heap.size <= g) :
  PaU s pb w w9 n (.slice (some ⟨g, 0, none⟩) (m + 1) c) (xs ++ [x]) (vs ++ cs) T :=
 ⟨h.gw.push (kpP _) hm hx hB hv hk hg hown hgl,
  h.pt.keep ((hg.block pb (by have := h.pt.lt; rw [World.size_alloc]; omega) (fun e => by have := (h.lt pb e.symm).1; omega)).trans (Below.heap_alloc _ _ _ h.pt.lt)),
  (h.fr.alloc o).grown hg (fun g hg => .inl (h.lt g hg).1)⟩
theorem PaU.added {a : Option Addr} {cap : Nat} {ys : List Pt} {us : List Value} (h : PaU s pb w wr n v xs vs T) (hlr : pb < w.heap.size) (hg : Gw 263 4 (CPn (n + 1)) w.heap.size w2 (.slice a ys.length cap) ys us) (hf : Fr (fun b => v.ownBlock = some b) wr w2) : PaU s pb w w2 n (.slice a ys.length cap) ys us T :=
 ⟨hg, h.pt.keep (hf.block pb h.pt.lt (fun e => by have := (h.lt pb e).1; omega)),
  ⟨hf.os.trans h.fr.os, hf.tape.trans h.fr.tape, hf.output.trans h.fr.output, Nat.le_trans h.fr.size hf.size, fun k hk hx => (hf.block k (Nat.lt_of_lt_of_le hk h.fr.size) (fun e => by have := (h.lt k e).1; omega)).trans (h.fr.block k hk hx)⟩⟩
end
def z64 (pb : Nat) (s : BA) (w : World) (r : List Pt × St) (e : Ending) (w' : World) : Prop :=
 ∃ a cap n, e = .returned (.slice a r.1.length cap) /\ SlP w' (Fsh w.heap.size w') n (.slice a r.1.length cap) r.1 /\ PAt w' pb s r.2 /\ Fr (· = pb) w w'
def zj8 (pb : Nat) (s : BA) (w : World) (r : Pt × St) (e : Ending) (w' : World) : Prop :=
 ∃ v n, e = .returned (.agg #[.int .i64 r.1.k, .string r.1.t, .string r.1.n, v]) /\ SlC w' (Fsh w.heap.size w') n v r.1.cs /\ PAt w' pb s r.2 /\ Fr (· = pb) w w'
def zj6 (f : Nat) : Prop := ∀ (o : Nat) (h : Bool) (pb : Nat) (s : BA) (S : St) (w : World), s.size <= 2000 -> o + f <= 4000 -> Wf s.data.toList S -> (S.2 = 0 -> s.size - S.1 < f) -> PAt w pb s S ->
 Calls Tryz.prog 195 #[.pointer (some ⟨pb, 0, none⟩), .int .i64 o, .bool h] w (z64 pb s w (z05 s.data.toList f o h [] S))
def HoleD (f : Nat) : Prop := ∀ (o : Nat) (h : Bool) (pb : Nat) (s : BA) (S : St) (w : World), s.size <= 2000 -> o + f <= 4000 -> Wf s.data.toList S -> nowF s.data.toList S = some 123 -> s.size - S.1 < f + 1 -> PAt w pb s S ->
 Calls Tryz.prog 228 #[.pointer (some ⟨pb, 0, none⟩), .int .i64 o, .bool h] w (zj8 pb s w (z1g s.data.toList (fun h S => z0f s.data.toList f o h [] S) h S))
section
variable {l : List UInt8} {g o : Nat} {h : Bool} {acc : List Pt} {T : St} {c d : UInt8}
theorem dp_none (hn : nowF l T = none) : z05 l g o h acc T = (acc, T) := by
 cases g with
 | zero => rw [z05]
 | succ g => rw [z05, hn]
theorem dp_end (hn : nowF l T = some 125) (ho : 0 < o) : z05 l g o h acc T = (acc, T) := by
 cases g with
 | zero => rw [z05]
 | succ g => rw [z05, hn]; simp only; rw [if_pos ⟨trivial, ho⟩]
theorem dp_brace (hn : nowF l T = some 125) (ho : ¬ 0 < o) : z05 l (g + 1) o h acc T = (acc, failF l T) := by
 rw [z05, hn]; simp only; rw [if_neg (fun e => ho e.2), if_pos (.inl trivial)]
theorem dp_num (hn : nowF l T = some 35) (hh : h = false) : z05 l (g + 1) o h acc T = (acc, failF l T) := by
 rw [z05, hn]; simp only; rw [if_neg (fun e => absurd e.1 (by decide)), if_pos (.inr ⟨trivial, hh⟩)]
theorem dp_hole (hn : nowF l T = some 123) : z05 l (g + 1) o h acc T = z05 l g o h (acc ++ [(z1g l (fun h S => z0f l g o h [] S) h T).1]) (z1g l (fun h S => z0f l g o h [] S) h T).2 := by
 rw [z05, hn]; simp only; rw [if_neg (fun e => absurd e.1 (by decide)), if_neg (fun e => by rcases e with e | e; exact absurd e (by decide); exact absurd e.1 (by decide)), if_pos trivial]
theorem dp_hash (hn : nowF l T = some 35) (hh : h = true) : z05 l (g + 1) o h acc T = z05 l g o h (acc ++ [.mk 3 (ba []) (ba []) []]) (T.1 + 1, 0) := by
 rw [z05, hn]; simp only; rw [if_neg (fun e => absurd e.1 (by decide)), if_neg (fun e => by rcases e with e | e; exact absurd e (by decide); rw [hh] at e; exact absurd e.2 (by decide)), if_neg (by decide), if_pos trivial]
theorem z6p (hn : nowF l T = some 39) : z05 l (g + 1) o h acc T = (match nowF l (T.1 + 1, 0) with
  | some d => if isSp d then z05 l g o h (addF acc d) (if d = 39 then (T.1 + 2, 0) else wordF l [39] (T.1 + 2, 0)) else (acc, failF l (T.1 + 1, 0))
  | none => (acc, failF l (T.1 + 1, 0))) := by
 rw [z05, hn]; simp only; rw [if_neg (fun e => absurd e.1 (by decide)), if_neg (fun e => by rcases e with e | e; exact absurd e (by decide); exact absurd e.1 (by decide)), if_neg (by decide), if_neg (by decide), if_pos trivial]
 cases nowF l (T.1 + 1, 0) <;> rfl
theorem dq_none (hn : nowF l T = some 39) (hd : nowF l (T.1 + 1, 0) = none) : z05 l (g + 1) o h acc T = (acc, failF l (T.1 + 1, 0)) := by rw [z6p hn, hd]
theorem dq_not (hn : nowF l T = some 39) (hd : nowF l (T.1 + 1, 0) = some d) (hs : ¬ isSp d) : z05 l (g + 1) o h acc T = (acc, failF l (T.1 + 1, 0)) := by rw [z6p hn, hd]; simp only; rw [if_neg hs]
theorem dq_same (hn : nowF l T = some 39) (hd : nowF l (T.1 + 1, 0) = some 39) : z05 l (g + 1) o h acc T = z05 l g o h (addF acc 39) (T.1 + 2, 0) := by
 rw [z6p hn, hd]; simp only; rw [if_pos (.inl rfl), if_pos trivial]
theorem zcv (hn : nowF l T = some 39) (hd : nowF l (T.1 + 1, 0) = some d) (hs : isSp d) (h9 : d ≠ 39) : z05 l (g + 1) o h acc T = z05 l g o h (addF acc d) (wordF l [39] (T.1 + 2, 0)) := by rw [z6p hn, hd]; simp only; rw [if_pos hs, if_neg h9]
theorem dp_byte (hn : nowF l T = some c) (h1 : c ≠ 125) (h2 : c ≠ 35) (h3 : c ≠ 123) (h4 : c ≠ 39) : z05 l (g + 1) o h acc T = z05 l g o h (addF acc c) (T.1 + 1, 0) := by
 rw [z05, hn]; simp only; rw [if_neg (fun e => h1 e.1), if_neg (fun e => by rcases e with e | e; exact h1 e; exact h2 e.1), if_neg h3, if_neg h2, if_neg h4]
theorem hole_t {cf : Bool -> St -> List Cs × St} {S : St} : (z1g l cf h S).1.t.size = 0 := by
 unfold z1g; simp only; split
 ·rfl
 ·split <;> rfl
end
def pl3 (m pb : Nat) (w : World) : Nat := match w.cell? ⟨pb, 1, none⟩, w.cell? ⟨pb, 2, none⟩ with
 | some (.int _ a), some (.int _ e) => 2 * (m - a.toNat) + (if e = 0 then 1 else 0)
 | _, _ => 0
theorem zdi {m pb : Nat} {w : World} {s : BA} {S : St} (h : PAt w pb s S) : pl3 m pb w = 2 * (m - S.1) + (if S.2 = 0 then 1 else 0) := by
 unfold pl3; rw [h.row.c1, h.row.c2]
 by_cases h0 : S.2 = 0
 ·rw [h0]; simp
 ·rw [if_neg h0]; simp [h0]
theorem z77 {m pb : Nat} {w : World} {s : BA} {S : St} (h : PAt w pb s S) : pl3 m pb w <= 2 * (m - S.1) + 1 := by
 rw [zdi h]; split <;> omega
theorem z4b {c d : UInt8} (h : c ≠ d) : ((c.toNat : Int) == (d.toNat : Int)) = false := by
 rw [beq_eq_false_iff_ne]
 intro e; exact h (by rw [<- UInt8.toNat_inj]; exact Int.ofNat.inj e)
theorem z6q {c d : UInt8} {n : Int} (h : c ≠ d) (hn : n = d.toNat) : ((c.toNat : Int) != n) = true := by
 rw [hn, bne, z4b h]; rfl
theorem zia (f : Nat) (HH : ∀ g, g < f -> HoleD g) : zj6 f := by
 intro o h pb s S w hs ho hS hfu hR;obtain ⟨i0, hi, bA, bB, bC⟩ := info_parts zhi;have j := hR.lt;have bD : Hid (PaU s pb w (w.alloc (.cells #[] 263)) 0 (.slice (some ⟨w.heap.size, 0, none⟩) 0 0) [] [] S) := hid ⟨gw_new _ _ _ (Nat.le_refl _), hR.alloc _, (Fr.refl _ _).alloc _⟩;have bE := hid hS;have bh := hid hfu;have bQ := hid HH;clear hS hfu hR HH
 go_enter Tryz.func195, Tryz.ntmps195
 go_wp2
 generalize w.alloc (.cells #[] 263) = w0 at *
 go_loopw [7] (fun v wr => ∃ (xs : List Pt) (vs : List Value) (a : Option Addr) (aj n g : Nat) (T : St), v = .slice a xs.length aj /\ g <= f /\ Hid (PaU s pb w wr n (.slice a xs.length aj) xs vs T) /\ Hid (Wf s.data.toList T) /\ Hid (T.2 = 0 -> s.size - T.1 < g) /\ Hid (xs.length <= T.1) /\ Hid (lastT xs <= T.1) /\ Hid (z05 s.data.toList f o h [] S = z05 s.data.toList g o h xs T)) (fun _ wr => pl3 s.size pb wr)
 case atStart => exact ⟨[], [], some ⟨w.heap.size, 0, none⟩, 0, 0, f, S, rfl, Nat.le_refl _, bD, bE, bh, hid (Nat.zero_le _), hid (Nat.zero_le _), hid rfl⟩
 case round =>
  obtain ⟨xs, vs, a, aj, n, g, T, rfl, bW, HU, bf, bF, bG, aQ, HQ⟩ := hrel;clear bD bE bh;have bi := hid (zdi (m := s.size) HU.out.pt);have A : Hid (∀ W, PAt W pb s T -> Calls Tryz.prog 226 #[.pointer (some ⟨pb, 0, none⟩)] W fun e w' => e = .returned (.int .i64 (nowI s.data.toList T)) /\ PAt w' pb s T /\ Fr (· = pb) W w') := hid (fun W h => nowP hs h);obtain ⟨L, HL⟩ := nmd (xs.length);rw [<- HL.out]
  have bX : L <= 2000 := by have h1 := bG.out; have h2 := z3j bf.out; have h3 := HL.out; omega
  cases hn : nowF s.data.toList T with
  | none =>
   have HE := hid (HQ.out.trans (dp_none hn));have B := z1r hn;rw [B] at A;clear B hn;have C := hid (A.out _ HU.out.pt)
   go_wp2_with fail
   refine C.out.mono ?_;rintro e w2 ⟨rfl, D, E⟩;have u := hid (HU.out.step j E D);clear D E C;go_wp2;go_ret;rw [HE.out];exact ⟨a, aj, _, by rw [HL.out]; rfl, u.out.gw.done (kpP _), u.out.pt, u.out.fr⟩
  | some c =>
   obtain ⟨bH, aX⟩ := z0b hn;obtain ⟨i, st⟩ := T;simp only at bH aX;subst bH;have aq : Hid (i < s.size) := hid (by have := z0z aX; rw [z08] at this; exact this);have aR : Hid (pl3 s.size pb wr = 2 * (s.size - i) + 1) := hid (by rw [bi.out]; simp);have bY := aq.out
   have bZ : lastT xs <= 2000 := by have h1 := aQ.out; simp only at h1; omega
   obtain ⟨g', rfl⟩ : ∃ g', g = g' + 1 := ⟨g - 1, by have := bF.out rfl; omega⟩;have aw : Hid (s.size - i < g' + 1) := hid (bF.out rfl);have ay : Hid (xs.length <= i) := hid bG.out;have aJ : Hid (lastT xs <= i) := hid aQ.out;clear aX bi
   by_cases h125 : c = 125
   ·subst h125
    by_cases ho0 : 0 < o
    ·have HE := hid (HQ.out.trans (dp_end hn ho0))
     have B : nowI s.data.toList (i, 0) = 125 := z0g hn;rw [B] at A;clear B hn
     have bR : (0 : Int) < (o : Int) := by omega
     have C := hid (A.out _ HU.out.pt)
     go_wp2_with fail
     refine C.out.mono ?_;rintro e w2 ⟨rfl, D, E⟩;have u := hid (HU.out.step j E D);clear D E C;clear HU;have G := hid (A.out _ u.out.pt)
     go_wp2_with fail
     refine G.out.mono ?_;rintro e w3 ⟨rfl, H, I⟩;have p := hid (u.out.step j I H);clear H I G;clear u;go_wp2;go_ret;rw [HE.out];exact ⟨a, aj, _, by rw [HL.out]; rfl, p.out.gw.done (kpP _), p.out.pt, p.out.fr⟩
    ·have HE := hid (HQ.out.trans (dp_brace hn ho0))
     have B : nowI s.data.toList (i, 0) = 125 := z0g hn;rw [B] at A;clear B hn
     have bR : ¬ (0 : Int) < (o : Int) := by omega
     have C := hid (A.out _ HU.out.pt)
     go_wp2_with fail
     refine C.out.mono ?_;rintro e w2 ⟨rfl, D, E⟩;have u := hid (HU.out.step j E D);clear D E C;clear HU;have G := hid (A.out _ u.out.pt)
     go_wp2_with fail
     refine G.out.mono ?_;rintro e w3 ⟨rfl, H, I⟩;have p := hid (u.out.step j I H);clear H I G;clear u;have az := hid (z15 pb s (i, 0) _ hs bf.out p.out.pt)
     go_wp2_with fail
     refine az.out.mono ?_;rintro e w7 ⟨rfl, aA, aB⟩;have ar := hid (p.out.step j aB aA);clear aA aB az;go_wp2;go_ret;rw [HE.out];exact ⟨a, aj, _, by rw [HL.out]; rfl, ar.out.gw.done (kpP _), ar.out.pt, ar.out.fr⟩
   by_cases h35 : c = 35
   ·subst h35
    clear h125
    cases h with
    | false =>
     have HE := hid (HQ.out.trans (dp_num hn rfl));have B : nowI s.data.toList (i, 0) = 35 := z0g hn;rw [B] at A;clear B hn;have C := hid (A.out _ HU.out.pt)
     go_wp2_with fail
     refine C.out.mono ?_;rintro e w2 ⟨rfl, D, E⟩;have u := hid (HU.out.step j E D);clear D E C;clear HU;have G := hid (A.out _ u.out.pt)
     go_wp2_with fail
     refine G.out.mono ?_;rintro e w3 ⟨rfl, H, I⟩;have p := hid (u.out.step j I H);clear H I G;clear u;have az := hid (z15 pb s (i, 0) _ hs bf.out p.out.pt)
     go_wp2_with fail
     refine az.out.mono ?_;rintro e w7 ⟨rfl, aA, aB⟩;have ar := hid (p.out.step j aB aA);clear aA aB az;go_wp2;go_ret;rw [HE.out];exact ⟨a, aj, _, by rw [HL.out]; rfl, ar.out.gw.done (kpP _), ar.out.pt, ar.out.fr⟩
    | true =>
     have HE := hid (HQ.out.trans (dp_hash hn rfl));have U := hid (z0u hn);have y : Hid (i + 1 <= i + 1) := hid (Nat.le_refl _);have X : Hid (s.size - (i + 1) < g') := hid (by have h1 := aw.out; have h2 := y.out; have h3 := aq.out; omega);have B : nowI s.data.toList (i, 0) = 35 := z0g hn;rw [B] at A;clear B hn;have C := hid (A.out _ HU.out.pt)
     go_wp2_with fail
     refine C.out.mono ?_;rintro e w2 ⟨rfl, D, E⟩;have u := hid (HU.out.step j E D);clear D E C;clear HU;have G := hid (A.out _ u.out.pt)
     go_wp2_with fail
     refine G.out.mono ?_;rintro e w3 ⟨rfl, H, I⟩;have p := hid (u.out.step j I H);clear H I G;clear u;have F := hid (p.out.on j);have c1 := p.out.pt.row.c1;have z1 := p.out.pt.row.thaw 1;simp only at c1;have aC := F.out;have aS := F.out.own;rw [<- HL.out] at aS aC;have HO := hid aS;have M := hid aC;have bo := p.out.fr.size;have aY : Hid (∀ b, (Value.slice a L aj).ownBlock = some b -> b < w3.heap.size) := hid (by rw [HL.out]; exact fun b hb => (p.out.lt b hb).2);clear aS aC
     go_wp2_with (at_builtin; refine wpList_append_lies _ rfl _ _ 199 rfl w.heap.size 263 i0 _ 4 64 Tryz.underlying199 hi bA bB bC rfl (by decide) _ _ _ rfl (HO.out.alloc _) _ 1 1 [.int .i64 3, .string ⟨#[]⟩, .string ⟨#[]⟩, .slice none 0 0] rfl rfl (z1v _ #[.int .i64 3, .string ⟨#[]⟩, .string ⟨#[]⟩, .slice none 0 0] _ (by simp [World.setCell])) (by simp [Value.oneCell']) (by decide) (by unfold maxLen; omega) (by omega) (by simp; omega) (w3.heap.size + 1) (by simp [World.setCell]) ?_; intro g5 c5 w9 hown9 hgrow9 Y _; have bq := hid hown9; have bt := hid hgrow9; have aZ := hid Y; clear hown9 hgrow9 Y)
     have aD : Hid ((xs ++ [Pt.mk 3 (ba []) (ba []) []]).length = L + 1) := hid (by rw [List.length_append, HL.out]; rfl);have Z := hid (M.out.push (x := .mk 3 (ba []) (ba []) []) (B2 := w3.heap.size) j HL.out (CP.mk (Sl.nil _ _ _ _)) bo aY.out rfl bt.out bq.out (by rcases aZ.out with z | z; exact .inl z; right; rw [z]; simp [World.setCell]));go_roundw
     case rel => exact ⟨_, _, some ⟨g5, 0, none⟩, c5, n, g', (i + 1, 0), by rw [aD.out], by omega, by rw [aD.out]; exact Z, U, hid (fun _ => X.out), hid (by rw [aD.out]; have h2 := ay.out; have h3 := HL.out; first | omega | (simp only; omega)), hid (by rw [z2r]; exact Nat.zero_le _), HE⟩
     case measure =>
      have h1 := z77 (m := s.size) Z.out.pt;have h2 := y.out;have h3 := aq.out
      try simp only at h1
      rw [aR.out]
      omega
   by_cases h123 : c = 123
   ·subst h123
    clear h125 h35;have HE := hid (HQ.out.trans (dp_hole hn));have bc := hid (fun W hW => bQ.out g' (by omega) o h pb s (i, 0) W hs (by omega) bf.out hn aw.out hW);have bS := hid (z0u hn);have bu := hid (zeb (cf := fun h S => z0f s.data.toList g' o h [] S) (fun h S => zhw _ _ _ _ _ _) h ((i, 0) : St));have bI := hid (hole_t (l := s.data.toList) (h := h) (cf := fun h S => z0f s.data.toList g' o h [] S) (S := ((i, 0) : St)));have B : nowI s.data.toList (i, 0) = 123 := z0g hn;rw [B] at A;clear B hn;have C := hid (A.out _ HU.out.pt)
    go_wp2_with fail
    refine C.out.mono ?_;rintro e w2 ⟨rfl, D, E⟩;have u := hid (HU.out.step j E D);clear D E C;clear HU;have G := hid (A.out _ u.out.pt)
    go_wp2_with fail
    refine G.out.mono ?_;rintro e w3 ⟨rfl, H, I⟩;have p := hid (u.out.step j I H);clear H I G;clear u;have bj := hid (bc.out _ p.out.pt);clear bc
    generalize z1g s.data.toList (fun h S => z0f s.data.toList g' o h [] S) h (i, 0) = r at *
    obtain ⟨⟨k, t, nm, cs⟩, V⟩ := r;simp only [Pt.t] at HE bu bI;have y : Hid (i + 1 <= V.1) := hid bu.out.1;have X : Hid (s.size - (V.1) < g') := hid (by have h1 := aw.out; have h2 := y.out; have h3 := aq.out; omega);have U := hid (bu.out.2.1 bS.out)
    go_wp2_with fail
    refine bj.out.mono ?_;rintro e w4 ⟨v2, q, he, bg, bv, bw⟩;simp only [Pt.k, Pt.t, Pt.n, Pt.cs] at he bg bv;obtain ⟨a2, l2, p2, rfl, -⟩ := bg.form;subst he;obtain ⟨K, HK⟩ : ∃ K, Hid (n <= K /\ q <= K) := ⟨max n q, hid ⟨Nat.le_max_left _ _, Nat.le_max_right _ _⟩⟩;have N := hid (((p.out.step j bw bv).le HK.out.1).alloc j (.cells #[.int .i64 k, .string t, .string nm, .slice a2 l2 p2] 263));have bJ : Hid (SlC (w4.alloc (.cells #[.int .i64 k, .string t, .string nm, .slice a2 l2 p2] 263)) (Fsh w3.heap.size (w4.alloc (.cells #[.int .i64 k, .string t, .string nm, .slice a2 l2 p2] 263))) K (.slice a2 l2 p2) cs) := hid ((bg.le HK.out.2).keep (fun b hb => Below.heap_alloc _ _ _ hb.2) (fun b hb => ⟨hb.1, by rw [World.size_alloc]; have := hb.2; omega⟩));have R := z02 w4 #[.int .i64 k, .string t, .string nm, .slice a2 l2 p2] 263;have q0 := R.c0;have q1 := R.c1;have q2 := R.c2;have q3 := R.c3;have aC := N.out;have aS := N.out.own;rw [<- HL.out] at aS aC;have HO := hid aS;have M := hid aC;have bo := p.out.fr.size;have aY : Hid (∀ b, (Value.slice a L aj).ownBlock = some b -> b < w3.heap.size) := hid (by rw [HL.out]; exact fun b hb => (p.out.lt b hb).2);have bV : w3.heap.size <= w4.heap.size := bw.size;have bK : (w4.alloc (.cells #[.int .i64 k, .string t, .string nm, .slice a2 l2 p2] 263)).heap.size = w4.heap.size + 1 := World.size_alloc _ _;clear aS aC R bg bv bw bj N
    go_wp2_with (at_builtin; refine wpList_append_lies _ rfl _ _ 199 rfl w.heap.size 263 i0 _ 4 64 Tryz.underlying199 hi bA bB bC rfl (by decide) _ _ _ rfl (HO.out.alloc _) _ 1 1 [.int .i64 k, .string t, .string nm, .slice a2 l2 p2] rfl rfl (z1v _ #[.int .i64 k, .string t, .string nm, .slice a2 l2 p2] _ bK) (by simp [Value.oneCell']) (by decide) (by unfold maxLen; omega) (by omega) (by simp; omega) (w4.heap.size + 1 + 1) (by simp) ?_; intro g5 c5 w9 hown9 hgrow9 Y _; have bq := hid hown9; have bt := hid hgrow9; have aZ := hid Y; clear hown9 hgrow9 Y)
    have aD : Hid ((xs ++ [Pt.mk k t nm cs]).length = L + 1) := hid (by rw [List.length_append, HL.out]; rfl);have Z := hid (M.out.push (x := .mk k t nm cs) (B2 := w3.heap.size) j HL.out (CP.mk bJ.out) bo aY.out rfl bt.out bq.out (by rcases aZ.out with z | z; exact .inl z; right; rw [z, bK]; omega));go_roundw
    case rel => exact ⟨_, _, some ⟨g5, 0, none⟩, c5, K, g', V, by rw [aD.out], by omega, by rw [aD.out]; exact Z, U, hid (fun _ => X.out), hid (by rw [aD.out]; have h2 := ay.out; have h3 := HL.out; have h4 := y.out; omega), hid (by rw [z2r]; have := bI.out; show t.size <= _; omega), HE⟩
    case measure =>
     have h1 := z77 (m := s.size) Z.out.pt;have h2 := y.out;have h3 := aq.out
     try simp only at h1
     rw [aR.out]
     omega
   by_cases h39 : c = 39
   ·subst h39
    clear h125 h35 h123
    cases hd : nowF s.data.toList (i + 1, 0) with
    | none =>
     have HE := hid (HQ.out.trans (dq_none hn hd));have aK := hid (z0u hn);have aE := z1r hd;have B : nowI s.data.toList (i, 0) = 39 := z0g hn;rw [B] at A;clear B hn;have C := hid (A.out _ HU.out.pt)
     go_wp2_with fail
     refine C.out.mono ?_;rintro e w2 ⟨rfl, D, E⟩;have u := hid (HU.out.step j E D);clear D E C;clear HU;have G := hid (A.out _ u.out.pt)
     go_wp2_with fail
     refine G.out.mono ?_;rintro e w3 ⟨rfl, H, I⟩;have p := hid (u.out.step j I H);clear H I G;clear u;obtain ⟨i1, J⟩ := nmd (i + 1);have F := hid (p.out.on j);rw [<- J.out] at F
     have aF : Hid (∀ W, PAt W pb s (i1, 0) -> Calls Tryz.prog 226 #[.pointer (some ⟨pb, 0, none⟩)] W fun e w' => e = .returned (.int .i64 (-1)) /\ PAt w' pb s (i1, 0) /\ Fr (· = pb) W w') := hid (fun W h => by
      have := nowP hs h;rw [J.out, aE] at this
      rw [J.out]; exact this)
     have c1 := p.out.pt.row.c1;have z1 := p.out.pt.row.thaw 1;simp only at c1;have ag := hid (aF.out _ F.out.pt)
     go_wp2_with fail
     generalize w3.setCell ⟨pb, 1, none⟩ (.int .i64 ((i : Int) + 1)) = w4 at *
     refine ag.out.mono ?_;rintro e w5 ⟨rfl, ah, ai⟩;have N := hid (F.out.step j ai ah);clear ah ai ag;clear c1 z1 p F;rw [<- J.out] at aK HE;have az := hid (z15 pb s (i1, 0) _ hs aK.out N.out.pt)
     go_wp2_with fail
     refine az.out.mono ?_;rintro e w7 ⟨rfl, aA, aB⟩;have ar := hid (N.out.step j aB aA);clear aA aB az;go_wp2;go_ret;rw [HE.out];exact ⟨a, aj, _, by rw [HL.out]; rfl, ar.out.gw.done (kpP _), ar.out.pt, ar.out.fr⟩
    | some d =>
     by_cases hsp : isSp d
     ·by_cases hd39 : d = 39
      ·subst hd39
       have HE := hid (HQ.out.trans (dq_same hn hd));have U : Hid (Wf s.data.toList (i + 2, 0)) := hid (z0u (S := (i + 1, 0)) hd);have aT : Hid (i + 1 < s.size) := hid (by have := z0z (z0b hd).2; rw [z08] at this; exact this);have y : Hid (i + 1 <= i + 2) := hid (by omega);have aE := z0g hd;have X : Hid (s.size - (i + 2) < g') := hid (by have h1 := aw.out; have h2 := y.out; have h3 := aq.out; omega);have B : nowI s.data.toList (i, 0) = 39 := z0g hn;rw [B] at A;clear B hn;have C := hid (A.out _ HU.out.pt)
       go_wp2_with fail
       refine C.out.mono ?_;rintro e w2 ⟨rfl, D, E⟩;have u := hid (HU.out.step j E D);clear D E C;clear HU;have G := hid (A.out _ u.out.pt)
       go_wp2_with fail
       refine G.out.mono ?_;rintro e w3 ⟨rfl, H, I⟩;have p := hid (u.out.step j I H);clear H I G;clear u;obtain ⟨i1, J⟩ := nmd (i + 1);have F := hid (p.out.on j);rw [<- J.out] at F
       have aF : Hid (∀ W, PAt W pb s (i1, 0) -> Calls Tryz.prog 226 #[.pointer (some ⟨pb, 0, none⟩)] W fun e w' => e = .returned (.int .i64 39) /\ PAt w' pb s (i1, 0) /\ Fr (· = pb) W w') := hid (fun W h => by
        have := nowP hs h;rw [J.out, aE] at this
        rw [J.out]; exact this)
       have c1 := p.out.pt.row.c1;have z1 := p.out.pt.row.thaw 1;simp only at c1;have ag := hid (aF.out _ F.out.pt)
       go_wp2_with fail
       generalize w3.setCell ⟨pb, 1, none⟩ (.int .i64 ((i : Int) + 1)) = w4 at *
       refine ag.out.mono ?_;rintro e w5 ⟨rfl, ah, ai⟩;have N := hid (F.out.step j ai ah);clear ah ai ag;clear c1 z1 p F;have c1 := N.out.pt.row.c1;have z1 := N.out.pt.row.thaw 1;simp only at c1
       have bz : i1 < s.size := by have := aT.out; have := J.out; omega
       have aa := hid (N.out.on j);have aU : Hid (i1 + 1 = i + 2) := hid (by rw [J.out]);rw [aU.out] at aa;have aG := hid (z7r 39 w.heap.size n _ a aj xs vs aa.out.fr.size aa.out.gw (by have := HL.out; omega) (fun x hx => by have := z7f aQ.out x hx; omega));rw [<- HL.out] at aG;have af := aa.out;rw [<- HL.out] at af;have M := hid af;clear af;have O := hid (z7q xs 39)
       generalize addF xs 39 = ys at *
       go_wp2_with fail
       refine aG.out.mono ?_;rintro e w9 ⟨a9, c9, aI, rfl, Y, au⟩;have Z := hid (M.out.added j Y au);clear Y au aG M;go_wp2;go_roundw
       case rel => exact ⟨ys, aI, a9, c9, n, g', (i + 2, 0), rfl, by omega, Z, U, hid (fun _ => X.out), hid (by have h1 := O.out.1; have h2 := ay.out; have h3 := y.out; first | omega | (simp only; omega)), hid (by have h1 := O.out.2; have h2 := aJ.out; have h3 := y.out; first | omega | (simp only; omega)), HE⟩
       case measure =>
        have h1 := z77 (m := s.size) Z.out.pt;have h2 := y.out;have h3 := aq.out
        try simp only at h1
        rw [aR.out]
        omega
      ·have bL : d = 123 ∨ d = 125 ∨ d = 35 := by
        rcases hsp with e | e | e | e
        ·exact absurd e hd39
        ·exact .inl e
        ·exact .inr (.inl e)
        ·exact .inr (.inr e)
       clear hd39
       rcases bL with rfl | rfl | rfl
       ·have HE := hid (HQ.out.trans (zcv hn hd hsp (by decide)))
        have ax : Hid (Wf s.data.toList (i + 2, 0)) := hid (z0u (S := (i + 1, 0)) hd);have aM := hid (z06 s.data.toList [39] (i + 2, 0));have aT : Hid (i + 1 < s.size) := hid (by have := z0z (z0b hd).2; rw [z08] at this; exact this);have aE := z0g hd;have B : nowI s.data.toList (i, 0) = 39 := z0g hn;rw [B] at A;clear B hn;have C := hid (A.out _ HU.out.pt)
        go_wp2_with fail
        refine C.out.mono ?_;rintro e w2 ⟨rfl, D, E⟩;have u := hid (HU.out.step j E D);clear D E C;clear HU;have G := hid (A.out _ u.out.pt)
        go_wp2_with fail
        refine G.out.mono ?_;rintro e w3 ⟨rfl, H, I⟩;have p := hid (u.out.step j I H);clear H I G;clear u;obtain ⟨i1, J⟩ := nmd (i + 1);have F := hid (p.out.on j);rw [<- J.out] at F
        have aF : Hid (∀ W, PAt W pb s (i1, 0) -> Calls Tryz.prog 226 #[.pointer (some ⟨pb, 0, none⟩)] W fun e w' => e = .returned (.int .i64 123) /\ PAt w' pb s (i1, 0) /\ Fr (· = pb) W w') := hid (fun W h => by
         have := nowP hs h;rw [J.out, aE] at this
         rw [J.out]; exact this)
        have c1 := p.out.pt.row.c1;have z1 := p.out.pt.row.thaw 1;simp only at c1;have ag := hid (aF.out _ F.out.pt)
        go_wp2_with fail
        generalize w3.setCell ⟨pb, 1, none⟩ (.int .i64 ((i : Int) + 1)) = w4 at *
        refine ag.out.mono ?_;rintro e w5 ⟨rfl, ah, ai⟩;have N := hid (F.out.step j ai ah);clear ah ai ag;clear c1 z1 p F;have c1 := N.out.pt.row.c1;have z1 := N.out.pt.row.thaw 1;simp only at c1
        have bz : i1 < s.size := by have := aT.out; have := J.out; omega
        have aa := hid (N.out.on j);have aU : Hid (i1 + 1 = i + 2) := hid (by rw [J.out]);rw [aU.out] at aa;have aN : Hid (Calls Tryz.prog 229 #[.pointer (some ⟨pb, 0, none⟩), .string ⟨#[39]⟩] (w5.setCell ⟨pb, 1, none⟩ (.int .i64 ((i1 : Int) + 1))) fun e w' => e = .returned (.tuple #[]) /\ PAt w' pb s (wordF s.data.toList [39] (i + 2, 0)) /\ Fr (· = pb) (w5.setCell ⟨pb, 1, none⟩ (.int .i64 ((i1 : Int) + 1))) w') := hid (z6g pb s ⟨#[39]⟩ (i + 2, 0) _ hs (by decide) ax.out aa.out.pt)
        generalize wordF s.data.toList [39] (i + 2, 0) = V at *
        have y : Hid (i + 1 <= V.1) := hid (by have := aM.out.1; simp only at this; omega);have U := hid (aM.out.2.1 ax.out);have X : Hid (s.size - (V.1) < g') := hid (by have h1 := aw.out; have h2 := y.out; have h3 := aq.out; omega)
        go_wp2_with fail
        generalize w5.setCell ⟨pb, 1, none⟩ (.int .i64 ((i1 : Int) + 1)) = w6 at *
        refine aN.out.mono ?_;rintro e w8 ⟨rfl, aO, aP⟩;have aH := hid (aa.out.step j aP aO);clear aO aP aN aa c1 z1;have aV := hid (z7r 123 w.heap.size n _ a aj xs vs aH.out.fr.size aH.out.gw (by have := HL.out; omega) (fun x hx => by have := z7f aQ.out x hx; omega));rw [<- HL.out] at aV;have af := aH.out;rw [<- HL.out] at af;have M := hid af;clear af;have O := hid (z7q xs 123)
        generalize addF xs 123 = ys at *
        go_wp2_with fail
        refine aV.out.mono ?_;rintro e w9 ⟨a9, c9, aI, rfl, Y, au⟩;have Z := hid (M.out.added j Y au);clear Y au aV M;go_wp2;go_roundw
        case rel => exact ⟨ys, aI, a9, c9, n, g', V, rfl, by omega, Z, U, hid (fun _ => X.out), hid (by have h1 := O.out.1; have h2 := ay.out; have h3 := y.out; first | omega | (simp only; omega)), hid (by have h1 := O.out.2; have h2 := aJ.out; have h3 := y.out; first | omega | (simp only; omega)), HE⟩
        case measure =>
         have h1 := z77 (m := s.size) Z.out.pt;have h2 := y.out;have h3 := aq.out
         try simp only at h1
         rw [aR.out]
         omega
       ·have HE := hid (HQ.out.trans (zcv hn hd hsp (by decide)))
        have ax : Hid (Wf s.data.toList (i + 2, 0)) := hid (z0u (S := (i + 1, 0)) hd);have aM := hid (z06 s.data.toList [39] (i + 2, 0));have aT : Hid (i + 1 < s.size) := hid (by have := z0z (z0b hd).2; rw [z08] at this; exact this);have aE := z0g hd;have B : nowI s.data.toList (i, 0) = 39 := z0g hn;rw [B] at A;clear B hn;have C := hid (A.out _ HU.out.pt)
        go_wp2_with fail
        refine C.out.mono ?_;rintro e w2 ⟨rfl, D, E⟩;have u := hid (HU.out.step j E D);clear D E C;clear HU;have G := hid (A.out _ u.out.pt)
        go_wp2_with fail
        refine G.out.mono ?_;rintro e w3 ⟨rfl, H, I⟩;have p := hid (u.out.step j I H);clear H I G;clear u;obtain ⟨i1, J⟩ := nmd (i + 1);have F := hid (p.out.on j);rw [<- J.out] at F
        have aF : Hid (∀ W, PAt W pb s (i1, 0) -> Calls Tryz.prog 226 #[.pointer (some ⟨pb, 0, none⟩)] W fun e w' => e = .returned (.int .i64 125) /\ PAt w' pb s (i1, 0) /\ Fr (· = pb) W w') := hid (fun W h => by
         have := nowP hs h;rw [J.out, aE] at this
         rw [J.out]; exact this)
        have c1 := p.out.pt.row.c1;have z1 := p.out.pt.row.thaw 1;simp only at c1;have ag := hid (aF.out _ F.out.pt)
        go_wp2_with fail
        generalize w3.setCell ⟨pb, 1, none⟩ (.int .i64 ((i : Int) + 1)) = w4 at *
        refine ag.out.mono ?_;rintro e w5 ⟨rfl, ah, ai⟩;have N := hid (F.out.step j ai ah);clear ah ai ag;clear c1 z1 p F;have c1 := N.out.pt.row.c1;have z1 := N.out.pt.row.thaw 1;simp only at c1
        have bz : i1 < s.size := by have := aT.out; have := J.out; omega
        have aa := hid (N.out.on j);have aU : Hid (i1 + 1 = i + 2) := hid (by rw [J.out]);rw [aU.out] at aa;have aN : Hid (Calls Tryz.prog 229 #[.pointer (some ⟨pb, 0, none⟩), .string ⟨#[39]⟩] (w5.setCell ⟨pb, 1, none⟩ (.int .i64 ((i1 : Int) + 1))) fun e w' => e = .returned (.tuple #[]) /\ PAt w' pb s (wordF s.data.toList [39] (i + 2, 0)) /\ Fr (· = pb) (w5.setCell ⟨pb, 1, none⟩ (.int .i64 ((i1 : Int) + 1))) w') := hid (z6g pb s ⟨#[39]⟩ (i + 2, 0) _ hs (by decide) ax.out aa.out.pt)
        generalize wordF s.data.toList [39] (i + 2, 0) = V at *
        have y : Hid (i + 1 <= V.1) := hid (by have := aM.out.1; simp only at this; omega);have U := hid (aM.out.2.1 ax.out);have X : Hid (s.size - (V.1) < g') := hid (by have h1 := aw.out; have h2 := y.out; have h3 := aq.out; omega)
        go_wp2_with fail
        generalize w5.setCell ⟨pb, 1, none⟩ (.int .i64 ((i1 : Int) + 1)) = w6 at *
        refine aN.out.mono ?_;rintro e w8 ⟨rfl, aO, aP⟩;have aH := hid (aa.out.step j aP aO);clear aO aP aN aa c1 z1;have aW := hid (z7r 125 w.heap.size n _ a aj xs vs aH.out.fr.size aH.out.gw (by have := HL.out; omega) (fun x hx => by have := z7f aQ.out x hx; omega));rw [<- HL.out] at aW;have af := aH.out;rw [<- HL.out] at af;have M := hid af;clear af;have O := hid (z7q xs 125)
        generalize addF xs 125 = ys at *
        go_wp2_with fail
        refine aW.out.mono ?_;rintro e w9 ⟨a9, c9, aI, rfl, Y, au⟩;have Z := hid (M.out.added j Y au);clear Y au aW M;go_wp2;go_roundw
        case rel => exact ⟨ys, aI, a9, c9, n, g', V, rfl, by omega, Z, U, hid (fun _ => X.out), hid (by have h1 := O.out.1; have h2 := ay.out; have h3 := y.out; first | omega | (simp only; omega)), hid (by have h1 := O.out.2; have h2 := aJ.out; have h3 := y.out; first | omega | (simp only; omega)), HE⟩
        case measure =>
         have h1 := z77 (m := s.size) Z.out.pt;have h2 := y.out;have h3 := aq.out
         try simp only at h1
         rw [aR.out]
         omega
       ·have HE := hid (HQ.out.trans (zcv hn hd hsp (by decide)))
        have ax : Hid (Wf s.data.toList (i + 2, 0)) := hid (z0u (S := (i + 1, 0)) hd);have aM := hid (z06 s.data.toList [39] (i + 2, 0));have aT : Hid (i + 1 < s.size) := hid (by have := z0z (z0b hd).2; rw [z08] at this; exact this);have aE := z0g hd;have B : nowI s.data.toList (i, 0) = 39 := z0g hn;rw [B] at A;clear B hn;have C := hid (A.out _ HU.out.pt)
        go_wp2_with fail
        refine C.out.mono ?_;rintro e w2 ⟨rfl, D, E⟩;have u := hid (HU.out.step j E D);clear D E C;clear HU;have G := hid (A.out _ u.out.pt)
        go_wp2_with fail
        refine G.out.mono ?_;rintro e w3 ⟨rfl, H, I⟩;have p := hid (u.out.step j I H);clear H I G;clear u;obtain ⟨i1, J⟩ := nmd (i + 1);have F := hid (p.out.on j);rw [<- J.out] at F
        have aF : Hid (∀ W, PAt W pb s (i1, 0) -> Calls Tryz.prog 226 #[.pointer (some ⟨pb, 0, none⟩)] W fun e w' => e = .returned (.int .i64 35) /\ PAt w' pb s (i1, 0) /\ Fr (· = pb) W w') := hid (fun W h => by
         have := nowP hs h;rw [J.out, aE] at this
         rw [J.out]; exact this)
        have c1 := p.out.pt.row.c1;have z1 := p.out.pt.row.thaw 1;simp only at c1;have ag := hid (aF.out _ F.out.pt)
        go_wp2_with fail
        generalize w3.setCell ⟨pb, 1, none⟩ (.int .i64 ((i : Int) + 1)) = w4 at *
        refine ag.out.mono ?_;rintro e w5 ⟨rfl, ah, ai⟩;have N := hid (F.out.step j ai ah);clear ah ai ag;clear c1 z1 p F;have c1 := N.out.pt.row.c1;have z1 := N.out.pt.row.thaw 1;simp only at c1
        have bz : i1 < s.size := by have := aT.out; have := J.out; omega
        have aa := hid (N.out.on j);have aU : Hid (i1 + 1 = i + 2) := hid (by rw [J.out]);rw [aU.out] at aa;have aN : Hid (Calls Tryz.prog 229 #[.pointer (some ⟨pb, 0, none⟩), .string ⟨#[39]⟩] (w5.setCell ⟨pb, 1, none⟩ (.int .i64 ((i1 : Int) + 1))) fun e w' => e = .returned (.tuple #[]) /\ PAt w' pb s (wordF s.data.toList [39] (i + 2, 0)) /\ Fr (· = pb) (w5.setCell ⟨pb, 1, none⟩ (.int .i64 ((i1 : Int) + 1))) w') := hid (z6g pb s ⟨#[39]⟩ (i + 2, 0) _ hs (by decide) ax.out aa.out.pt)
        generalize wordF s.data.toList [39] (i + 2, 0) = V at *
        have y : Hid (i + 1 <= V.1) := hid (by have := aM.out.1; simp only at this; omega);have U := hid (aM.out.2.1 ax.out);have X : Hid (s.size - (V.1) < g') := hid (by have h1 := aw.out; have h2 := y.out; have h3 := aq.out; omega)
        go_wp2_with fail
        generalize w5.setCell ⟨pb, 1, none⟩ (.int .i64 ((i1 : Int) + 1)) = w6 at *
        refine aN.out.mono ?_;rintro e w8 ⟨rfl, aO, aP⟩;have aH := hid (aa.out.step j aP aO);clear aO aP aN aa c1 z1;have bd := hid (z7r 35 w.heap.size n _ a aj xs vs aH.out.fr.size aH.out.gw (by have := HL.out; omega) (fun x hx => by have := z7f aQ.out x hx; omega));rw [<- HL.out] at bd;have af := aH.out;rw [<- HL.out] at af;have M := hid af;clear af;have O := hid (z7q xs 35)
        generalize addF xs 35 = ys at *
        go_wp2_with fail
        refine bd.out.mono ?_;rintro e w9 ⟨a9, c9, aI, rfl, Y, au⟩;have Z := hid (M.out.added j Y au);clear Y au bd M;go_wp2;go_roundw
        case rel => exact ⟨ys, aI, a9, c9, n, g', V, rfl, by omega, Z, U, hid (fun _ => X.out), hid (by have h1 := O.out.1; have h2 := ay.out; have h3 := y.out; first | omega | (simp only; omega)), hid (by have h1 := O.out.2; have h2 := aJ.out; have h3 := y.out; first | omega | (simp only; omega)), HE⟩
        case measure =>
         have h1 := z77 (m := s.size) Z.out.pt;have h2 := y.out;have h3 := aq.out
         try simp only at h1
         rw [aR.out]
         omega
     ·have HE := hid (HQ.out.trans (dq_not hn hd hsp))
      have aK := hid (z0u hn);have aE := z0g hd
      have bM : d ≠ 39 := fun e => hsp (.inl e)
      have bm : d ≠ 123 := fun e => hsp (.inr (.inl e))
      have bn : d ≠ 125 := fun e => hsp (.inr (.inr (.inl e)))
      have bN : d ≠ 35 := fun e => hsp (.inr (.inr (.inr e)))
      have bT : ((d.toNat : Int) != 39) = true := z6q bM rfl;have bO : ((d.toNat : Int) != 123) = true := z6q bm rfl;have bP : ((d.toNat : Int) != 125) = true := z6q bn rfl;have bU : ((d.toNat : Int) != 35) = true := z6q bN rfl;clear bM bm bn bN hsp;have B : nowI s.data.toList (i, 0) = 39 := z0g hn;rw [B] at A;clear B hn;have C := hid (A.out _ HU.out.pt)
      go_wp2_with fail
      refine C.out.mono ?_;rintro e w2 ⟨rfl, D, E⟩;have u := hid (HU.out.step j E D);clear D E C;clear HU;have G := hid (A.out _ u.out.pt)
      go_wp2_with fail
      refine G.out.mono ?_;rintro e w3 ⟨rfl, H, I⟩;have p := hid (u.out.step j I H);clear H I G;clear u;obtain ⟨i1, J⟩ := nmd (i + 1);have F := hid (p.out.on j);rw [<- J.out] at F
      have aF : Hid (∀ W, PAt W pb s (i1, 0) -> Calls Tryz.prog 226 #[.pointer (some ⟨pb, 0, none⟩)] W fun e w' => e = .returned (.int .i64 (d.toNat : Int)) /\ PAt w' pb s (i1, 0) /\ Fr (· = pb) W w') := hid (fun W h => by
       have := nowP hs h;rw [J.out, aE] at this
       rw [J.out]; exact this)
      have c1 := p.out.pt.row.c1;have z1 := p.out.pt.row.thaw 1;simp only at c1;have ag := hid (aF.out _ F.out.pt)
      go_wp2_with fail
      generalize w3.setCell ⟨pb, 1, none⟩ (.int .i64 ((i : Int) + 1)) = w4 at *
      refine ag.out.mono ?_;rintro e w5 ⟨rfl, ah, ai⟩;have N := hid (F.out.step j ai ah);clear ah ai ag;clear c1 z1 p F;rw [<- J.out] at aK HE;have az := hid (z15 pb s (i1, 0) _ hs aK.out N.out.pt)
      go_wp2_with fail
      refine az.out.mono ?_;rintro e w7 ⟨rfl, aA, aB⟩;have ar := hid (N.out.step j aB aA);clear aA aB az;go_wp2;go_ret;rw [HE.out];exact ⟨a, aj, _, by rw [HL.out]; rfl, ar.out.gw.done (kpP _), ar.out.pt, ar.out.fr⟩
   ·have HE := hid (HQ.out.trans (dp_byte hn h125 h35 h123 h39))
    have U := hid (z0u hn);have y : Hid (i + 1 <= i + 1) := hid (Nat.le_refl _);have X : Hid (s.size - (i + 1) < g') := hid (by have h1 := aw.out; have h2 := y.out; have h3 := aq.out; omega);have B : nowI s.data.toList (i, 0) = (c.toNat : Int) := z0g hn;rw [B] at A;clear B hn;have bP : ((c.toNat : Int) == 125) = false := z4b (d := 125) h125;have bU : ((c.toNat : Int) == 35) = false := z4b (d := 35) h35;have bO : ((c.toNat : Int) == 123) = false := z4b (d := 123) h123;have bT : ((c.toNat : Int) == 39) = false := z4b (d := 39) h39;have b7 := c.toNat_lt;clear h125 h35 h123 h39;have C := hid (A.out _ HU.out.pt)
    go_wp2_with fail
    refine C.out.mono ?_;rintro e w2 ⟨rfl, D, E⟩;have u := hid (HU.out.step j E D);clear D E C;clear HU;have G := hid (A.out _ u.out.pt)
    go_wp2_with fail
    refine G.out.mono ?_;rintro e w3 ⟨rfl, H, I⟩;have p := hid (u.out.step j I H);clear H I G;clear u;have F := hid (p.out.on j);have c1 := p.out.pt.row.c1;have z1 := p.out.pt.row.thaw 1;simp only at c1;have aG := hid (z7r c w.heap.size n _ a aj xs vs F.out.fr.size F.out.gw (by have := HL.out; omega) (fun x hx => by have := z7f aQ.out x hx; omega));rw [<- HL.out] at aG;have af := F.out;rw [<- HL.out] at af;have M := hid af;clear af;have O := hid (z7q xs c)
    generalize addF xs c = ys at *
    go_wp2_with fail
    refine aG.out.mono ?_;rintro e w9 ⟨a9, c9, aI, rfl, Y, au⟩;have Z := hid (M.out.added j Y au);clear Y au aG M;go_wp2;go_roundw
    case rel => exact ⟨ys, aI, a9, c9, n, g', (i + 1, 0), rfl, by omega, Z, U, hid (fun _ => X.out), hid (by have h1 := O.out.1; have h2 := ay.out; have h3 := y.out; first | omega | (simp only; omega)), hid (by have h1 := O.out.2; have h2 := aJ.out; have h3 := y.out; first | omega | (simp only; omega)), HE⟩
    case measure =>
     have h1 := z77 (m := s.size) Z.out.pt;have h2 := y.out;have h3 := aq.out
     try simp only at h1
     rw [aR.out]
     omega
end Go.Proofs.YtdkkkeoicekdgaaGreatDoor.Dr
