/- The document's reader in memory: parts. -/
import Derived.Test.YtdnedbcmgkilaaaGreatDoorZSDa

namespace Go.Proofs.YtdnedbcmgkilaaaGreatDoor.Dr
set_option maxHeartbeats 12800000
set_option maxRecDepth 100000
open Go.Lib (hid)
open Go.RowKit Go.Proofs.YtdnedbcmgkilaaaGreatDoor
theorem nowP {pb : Nat} {s : BA} {S : St} {w : World} (hs : s.size <= 2000) (h : PAt w pb s S) : Calls Tryz.prog 125 #[.pointer (some ⟨pb, 0, none⟩)] w fun e w' => e = .returned (.int .i64 (nowI s.data.toList S)) /\ PAt w' pb s S /\ Fr (· = pb) w w' :=
 (z1p pb s S w hs h).mono (fun _ _ ⟨h1, n, h2⟩ => by
  subst h2
  exact ⟨h1, h.drewN n, Fr.of_same ((Same.refl _).drewN _)⟩)
def lastT (xs : List Pt) : Nat := match xs.getLast? with | some x => x.t.size | none => 0
theorem z2s (xs : List Pt) (x : Pt) : lastT (xs ++ [x]) = x.t.size := by unfold lastT; rw [List.getLast?_concat]
theorem z7k (xs : List Pt) (c : UInt8) : (addF xs c).length <= xs.length + 1 /\ lastT (addF xs c) <= lastT xs + 1 := by
 rcases List.eq_nil_or_concat xs with rfl | ⟨ys, x, rfl⟩
 ·rw [zjt]; exact ⟨by simp, by rw [z2s]; exact Nat.le_add_left 1 _⟩
 ·simp only [List.concat_eq_append]
  by_cases hk : x.k = 1
  ·rw [zfb ys hk, z2s, z2s, List.length_append, List.length_append]
   refine ⟨by simp, ?_⟩
   show (x.t ++ ⟨#[c]⟩ : BA).size <= _
   rw [ByteArray.size_append]; exact Nat.le_refl _
  ·rw [zfa hk, z2s]
   exact ⟨by simp, Nat.le_add_left 1 _⟩
theorem z79 {xs : List Pt} {m : Nat} (h : lastT xs <= m) : ∀ x, xs.getLast? = some x -> x.t.size <= m := fun x hx => by
 unfold lastT at h; rw [hx] at h; exact h
structure PaU (s : BA) (pb : Nat) (w wr : World) (n : Nat) (v : Value) (xs : List Pt) (vs : List Value) (T : St) : Prop where
 gw : Gw 141 4 (CPn (n + 1)) w.heap.size wr v xs vs
 pt : PAt wr pb s T
 fr : Fr (· = pb) w wr
section
variable {s : BA} {pb : Nat} {w wr w2 : World} {n : Nat} {v : Value} {xs : List Pt} {vs : List Value} {T T2 : St}
theorem PaU.step (h : PaU s pb w wr n v xs vs T) (hlr : pb < w.heap.size) (hf : Fr (· = pb) wr w2) (hp : PAt w2 pb s T2) : PaU s pb w w2 n v xs vs T2 :=
 ⟨h.gw.fr (kpP _) hf (fun _ hB _ e => by omega), hp, h.fr.trans hf⟩
theorem PaU.le {m : Nat} (h : PaU s pb w wr n v xs vs T) (hm : n <= m) : PaU s pb w wr m v xs vs T := ⟨h.gw.leP (by omega), h.pt, h.fr⟩
theorem PaU.alloc (h : PaU s pb w wr n v xs vs T) (hlr : pb < w.heap.size) (o : Obj) : PaU s pb w (wr.alloc o) n v xs vs T := h.step hlr ((Fr.refl _ _).alloc _) (h.pt.alloc o)
theorem PaU.on {i : Nat} (h : PaU s pb w wr n v xs vs (i, 0)) (hlr : pb < w.heap.size) : PaU s pb w (wr.setCell ⟨pb, 1, none⟩ (.int .i64 ((i : Int) + 1))) n v xs vs (i + 1, 0) := h.step hlr (z0d 1 _) (PAt.on (S := (i, 0)) h.pt)
theorem PaU.own (h : PaU s pb w wr n v xs vs T) : wr.ownsRow w.heap.size 141 4 v xs.length vs := h.gw.own
theorem PaU.lt (h : PaU s pb w wr n v xs vs T) : ∀ b, v.ownBlock = some b -> w.heap.size <= b /\ b < wr.heap.size := fun b hb => h.gw.own.lt b hb
theorem PaU.push {w9 : World} {o : Obj} {x : Pt} {cs : List Value} {g c m B2 : Nat} (h : PaU s pb w wr n v xs vs T) (hlr : pb < w.heap.size) (hm : m = xs.length) (hx : CPn (n + 1) wr (Fsh B2 wr) x cs) (hB : w.heap.size <= B2) (hv : ∀ b, v.ownBlock = some b -> b < B2) (hk : cs.length = 4)
  (hg : (wr.alloc o).grownBy w9 v.ownBlock) (hown : w9.ownsRow w.heap.size 141 4 (.slice (some ⟨g, 0, none⟩) (m + 1) c) (m + 1) (vs ++ cs)) (hgl : v.ownBlock = some g ∨ wr.heap.size <= g) :
  PaU s pb w w9 n (.slice (some ⟨g, 0, none⟩) (m + 1) c) (xs ++ [x]) (vs ++ cs) T :=
 ⟨h.gw.push (kpP _) hm hx hB hv hk hg hown hgl,
  h.pt.keep ((hg.block pb (by have := h.pt.lt; rw [World.size_alloc]; omega) (fun e => by have := (h.lt pb e.symm).1; omega)).trans (Below.heap_alloc _ _ _ h.pt.lt)),
  (h.fr.alloc o).grown hg (fun g hg => .inl (h.lt g hg).1)⟩
theorem PaU.added {a : Option Addr} {cap : Nat} {ys : List Pt} {us : List Value} (h : PaU s pb w wr n v xs vs T) (hlr : pb < w.heap.size) (hg : Gw 141 4 (CPn (n + 1)) w.heap.size w2 (.slice a ys.length cap) ys us) (hf : Fr (fun b => v.ownBlock = some b) wr w2) : PaU s pb w w2 n (.slice a ys.length cap) ys us T :=
 ⟨hg, h.pt.keep (hf.block pb h.pt.lt (fun e => by have := (h.lt pb e).1; omega)),
  ⟨hf.os.trans h.fr.os, hf.tape.trans h.fr.tape, hf.output.trans h.fr.output, Nat.le_trans h.fr.size hf.size, fun k hk hx => (hf.block k (Nat.lt_of_lt_of_le hk h.fr.size) (fun e => by have := (h.lt k e).1; omega)).trans (h.fr.block k hk hx)⟩⟩
end
def z60 (pb : Nat) (s : BA) (w : World) (r : List Pt × St) (e : Ending) (w' : World) : Prop :=
 ∃ a cap n, e = .returned (.slice a r.1.length cap) /\ SlP w' (Fsh w.heap.size w') n (.slice a r.1.length cap) r.1 /\ PAt w' pb s r.2 /\ Fr (· = pb) w w'
def zjz (pb : Nat) (s : BA) (w : World) (r : Pt × St) (e : Ending) (w' : World) : Prop :=
 ∃ v n, e = .returned (.agg #[.int .i64 r.1.k, .string r.1.t, .string r.1.n, v]) /\ SlC w' (Fsh w.heap.size w') n v r.1.cs /\ PAt w' pb s r.2 /\ Fr (· = pb) w w'
def zjw (f : Nat) : Prop := ∀ (o : Nat) (h : Bool) (pb : Nat) (s : BA) (S : St) (w : World), s.size <= 2000 -> o + f <= 4000 -> Wf s.data.toList S -> (S.2 = 0 -> s.size - S.1 < f) -> PAt w pb s S ->
 Calls Tryz.prog 84 #[.pointer (some ⟨pb, 0, none⟩), .int .i64 o, .bool h] w (z60 pb s w (z07 s.data.toList f o h [] S))
def HoleD (f : Nat) : Prop := ∀ (o : Nat) (h : Bool) (pb : Nat) (s : BA) (S : St) (w : World), s.size <= 2000 -> o + f <= 4000 -> Wf s.data.toList S -> nowF s.data.toList S = some 123 -> s.size - S.1 < f + 1 -> PAt w pb s S ->
 Calls Tryz.prog 127 #[.pointer (some ⟨pb, 0, none⟩), .int .i64 o, .bool h] w (zjz pb s w (z1f s.data.toList (fun h S => z0c s.data.toList f o h [] S) h S))
section
variable {l : List UInt8} {g o : Nat} {h : Bool} {acc : List Pt} {T : St} {c d : UInt8}
theorem dp_none (hn : nowF l T = none) : z07 l g o h acc T = (acc, T) := by
 cases g with
 | zero => rw [z07]
 | succ g => rw [z07, hn]
theorem dp_end (hn : nowF l T = some 125) (ho : 0 < o) : z07 l g o h acc T = (acc, T) := by
 cases g with
 | zero => rw [z07]
 | succ g => rw [z07, hn]; simp only; rw [if_pos ⟨trivial, ho⟩]
theorem dp_brace (hn : nowF l T = some 125) (ho : ¬ 0 < o) : z07 l (g + 1) o h acc T = (acc, failF l T) := by
 rw [z07, hn]; simp only; rw [if_neg (fun e => ho e.2), if_pos (.inl trivial)]
theorem dp_num (hn : nowF l T = some 35) (hh : h = false) : z07 l (g + 1) o h acc T = (acc, failF l T) := by
 rw [z07, hn]; simp only; rw [if_neg (fun e => absurd e.1 (by decide)), if_pos (.inr ⟨trivial, hh⟩)]
theorem dp_hole (hn : nowF l T = some 123) : z07 l (g + 1) o h acc T = z07 l g o h (acc ++ [(z1f l (fun h S => z0c l g o h [] S) h T).1]) (z1f l (fun h S => z0c l g o h [] S) h T).2 := by
 rw [z07, hn]; simp only; rw [if_neg (fun e => absurd e.1 (by decide)), if_neg (fun e => by rcases e with e | e; exact absurd e (by decide); exact absurd e.1 (by decide)), if_pos trivial]
theorem dp_hash (hn : nowF l T = some 35) (hh : h = true) : z07 l (g + 1) o h acc T = z07 l g o h (acc ++ [.mk 3 (ba []) (ba []) []]) (T.1 + 1, 0) := by
 rw [z07, hn]; simp only; rw [if_neg (fun e => absurd e.1 (by decide)), if_neg (fun e => by rcases e with e | e; exact absurd e (by decide); rw [hh] at e; exact absurd e.2 (by decide)), if_neg (by decide), if_pos trivial]
theorem z6n (hn : nowF l T = some 39) : z07 l (g + 1) o h acc T = (match nowF l (T.1 + 1, 0) with
  | some d => if isSp d then z07 l g o h (addF acc d) (if d = 39 then (T.1 + 2, 0) else wordF l [39] (T.1 + 2, 0)) else (acc, failF l (T.1 + 1, 0))
  | none => (acc, failF l (T.1 + 1, 0))) := by
 rw [z07, hn]; simp only; rw [if_neg (fun e => absurd e.1 (by decide)), if_neg (fun e => by rcases e with e | e; exact absurd e (by decide); exact absurd e.1 (by decide)), if_neg (by decide), if_neg (by decide), if_pos trivial]
 cases nowF l (T.1 + 1, 0) <;> rfl
theorem dq_none (hn : nowF l T = some 39) (hd : nowF l (T.1 + 1, 0) = none) : z07 l (g + 1) o h acc T = (acc, failF l (T.1 + 1, 0)) := by rw [z6n hn, hd]
theorem dq_not (hn : nowF l T = some 39) (hd : nowF l (T.1 + 1, 0) = some d) (hs : ¬ isSp d) : z07 l (g + 1) o h acc T = (acc, failF l (T.1 + 1, 0)) := by rw [z6n hn, hd]; simp only; rw [if_neg hs]
theorem dq_same (hn : nowF l T = some 39) (hd : nowF l (T.1 + 1, 0) = some 39) : z07 l (g + 1) o h acc T = z07 l g o h (addF acc 39) (T.1 + 2, 0) := by
 rw [z6n hn, hd]; simp only; rw [if_pos (.inl rfl), if_pos trivial]
theorem zdc (hn : nowF l T = some 39) (hd : nowF l (T.1 + 1, 0) = some d) (hs : isSp d) (h9 : d ≠ 39) : z07 l (g + 1) o h acc T = z07 l g o h (addF acc d) (wordF l [39] (T.1 + 2, 0)) := by rw [z6n hn, hd]; simp only; rw [if_pos hs, if_neg h9]
theorem dp_byte (hn : nowF l T = some c) (h1 : c ≠ 125) (h2 : c ≠ 35) (h3 : c ≠ 123) (h4 : c ≠ 39) : z07 l (g + 1) o h acc T = z07 l g o h (addF acc c) (T.1 + 1, 0) := by
 rw [z07, hn]; simp only; rw [if_neg (fun e => h1 e.1), if_neg (fun e => by rcases e with e | e; exact h1 e; exact h2 e.1), if_neg h3, if_neg h2, if_neg h4]
theorem hole_t {cf : Bool -> St -> List Cs × St} {S : St} : (z1f l cf h S).1.t.size = 0 := by
 unfold z1f; simp only; split
 ·rfl
 ·split <;> rfl
end
def pl3 (m pb : Nat) (w : World) : Nat := match w.cell? ⟨pb, 1, none⟩, w.cell? ⟨pb, 2, none⟩ with
 | some (.int _ a), some (.int _ e) => 2 * (m - a.toNat) + (if e = 0 then 1 else 0)
 | _, _ => 0
theorem zdz {m pb : Nat} {w : World} {s : BA} {S : St} (h : PAt w pb s S) : pl3 m pb w = 2 * (m - S.1) + (if S.2 = 0 then 1 else 0) := by
 unfold pl3; rw [h.row.cell (i := 1) rfl, h.row.cell (i := 2) rfl]
 by_cases h0 : S.2 = 0
 ·rw [h0]; simp
 ·rw [if_neg h0]; simp [h0]
theorem z71 {m pb : Nat} {w : World} {s : BA} {S : St} (h : PAt w pb s S) : pl3 m pb w <= 2 * (m - S.1) + 1 := by
 rw [zdz h]; split <;> omega
theorem z3d {c d : UInt8} (h : c ≠ d) : ((c.toNat : Int) == (d.toNat : Int)) = false := by
 rw [beq_eq_false_iff_ne]
 intro e; exact h (by rw [<- UInt8.toNat_inj]; exact Int.ofNat.inj e)
theorem z6o {c d : UInt8} {n : Int} (h : c ≠ d) (hn : n = d.toNat) : ((c.toNat : Int) != n) = true := by
 rw [hn, bne, z3d h]; rfl
theorem zj2 (f : Nat) (HH : ∀ g, g < f -> HoleD g) : zjw f := by
 intro o h pb s S w hs ho hS hfu hR
 obtain ⟨i0, hi, hz0, hz1, hz2⟩ := info_parts zia
 have hlr := hR.lt
 have HP0 : Hid (PaU s pb w (w.alloc (.cells #[] 141)) 0 (.slice (some ⟨w.heap.size, 0, none⟩) 0 0) [] [] S) := hid ⟨gw_new _ _ _ (Nat.le_refl _), hR.alloc _, (Fr.refl _ _).alloc _⟩
 have HS0 := hid hS
 have HFU0 := hid hfu
 have HHH := hid HH
 clear hS hfu hR HH
 go_enter Tryz.func84, Tryz.ntmps84
 go_wp2
 generalize w.alloc (.cells #[] 141) = w0 at *
 go_loopw [7] (fun v wr => ∃ (xs : List Pt) (vs : List Value) (a : Option Addr) (cap n g : Nat) (T : St), v = .slice a xs.length cap /\ g <= f /\ Hid (PaU s pb w wr n (.slice a xs.length cap) xs vs T) /\ Hid (Wf s.data.toList T) /\ Hid (T.2 = 0 -> s.size - T.1 < g) /\ Hid (xs.length <= T.1) /\ Hid (lastT xs <= T.1) /\ Hid (z07 s.data.toList f o h [] S = z07 s.data.toList g o h xs T)) (fun _ wr => pl3 s.size pb wr)
 case atStart => exact ⟨[], [], some ⟨w.heap.size, 0, none⟩, 0, 0, f, S, rfl, Nat.le_refl _, HP0, HS0, HFU0, hid (Nat.zero_le _), hid (Nat.zero_le _), hid rfl⟩
 case round =>
  obtain ⟨xs, vs, a, cap, n, g, T, rfl, hgf, HU, HWF, HFU, HLE, HLT, HQ⟩ := hrel
  clear HP0 HS0 HFU0
  have HMES := hid (zdz (m := s.size) HU.out.pt)
  have HNW : Hid (∀ W, PAt W pb s T -> Calls Tryz.prog 125 #[.pointer (some ⟨pb, 0, none⟩)] W fun e w' => e = .returned (.int .i64 (nowI s.data.toList T)) /\ PAt w' pb s T /\ Fr (· = pb) W w') := hid (fun W h => nowP hs h)
  obtain ⟨L, HL⟩ : ∃ L, Hid (L = xs.length) := ⟨_, hid rfl⟩
  rw [<- HL.out]
  have hL2 : L <= 2000 := by have h1 := HLE.out; have h2 := z3j HWF.out; have h3 := HL.out; omega
  cases hn : nowF s.data.toList T with
  | none =>
   have HE := hid (HQ.out.trans (dp_none hn))
   have hnv := z1q hn
   rw [hnv] at HNW
   clear hnv hn
   have HC2 := hid (HNW.out _ HU.out.pt)
   go_wp2_with fail
   refine HC2.out.mono ?_
   rintro e w2 ⟨rfl, hp2, hf2⟩
   have HU2 := hid (HU.out.step hlr hf2 hp2)
   clear hp2 hf2 HC2
   go_wp2
   go_ret
   rw [HE.out]
   exact ⟨a, cap, _, by rw [HL.out]; rfl, HU2.out.gw.done (kpP _), HU2.out.pt, HU2.out.fr⟩
  | some c =>
   obtain ⟨hst, hget⟩ := z0b hn
   obtain ⟨i, st⟩ := T
   simp only at hst hget
   subst hst
   have HTL : Hid (i < s.size) := hid (by have := z0l hget; rw [z05] at this; exact this)
   have HMS : Hid (pl3 s.size pb wr = 2 * (s.size - i) + 1) := hid (by rw [HMES.out]; simp)
   have htl := HTL.out
   have hT2 : lastT xs <= 2000 := by have h1 := HLT.out; simp only at h1; omega
   obtain ⟨g', rfl⟩ : ∃ g', g = g' + 1 := ⟨g - 1, by have := HFU.out rfl; omega⟩
   have HFUB : Hid (s.size - i < g' + 1) := hid (HFU.out rfl)
   have HLEB : Hid (xs.length <= i) := hid HLE.out
   have HLTB : Hid (lastT xs <= i) := hid HLT.out
   clear hget HMES
   by_cases h125 : c = 125
   ·subst h125
    by_cases ho0 : 0 < o
    ·have HE := hid (HQ.out.trans (dp_end hn ho0))
     have hnv : nowI s.data.toList (i, 0) = 125 := z0f hn
     rw [hnv] at HNW
     clear hnv hn
     have hoi : (0 : Int) < (o : Int) := by omega
     have HC2 := hid (HNW.out _ HU.out.pt)
     go_wp2_with fail
     refine HC2.out.mono ?_
     rintro e w2 ⟨rfl, hp2, hf2⟩
     have HU2 := hid (HU.out.step hlr hf2 hp2)
     clear hp2 hf2 HC2
     clear HU
     have HC3 := hid (HNW.out _ HU2.out.pt)
     go_wp2_with fail
     refine HC3.out.mono ?_
     rintro e w3 ⟨rfl, hp3, hf3⟩
     have HU3 := hid (HU2.out.step hlr hf3 hp3)
     clear hp3 hf3 HC3
     clear HU2
     go_wp2
     go_ret
     rw [HE.out]
     exact ⟨a, cap, _, by rw [HL.out]; rfl, HU3.out.gw.done (kpP _), HU3.out.pt, HU3.out.fr⟩
    ·have HE := hid (HQ.out.trans (dp_brace hn ho0))
     have hnv : nowI s.data.toList (i, 0) = 125 := z0f hn
     rw [hnv] at HNW
     clear hnv hn
     have hoi : ¬ (0 : Int) < (o : Int) := by omega
     have HC2 := hid (HNW.out _ HU.out.pt)
     go_wp2_with fail
     refine HC2.out.mono ?_
     rintro e w2 ⟨rfl, hp2, hf2⟩
     have HU2 := hid (HU.out.step hlr hf2 hp2)
     clear hp2 hf2 HC2
     clear HU
     have HC3 := hid (HNW.out _ HU2.out.pt)
     go_wp2_with fail
     refine HC3.out.mono ?_
     rintro e w3 ⟨rfl, hp3, hf3⟩
     have HU3 := hid (HU2.out.step hlr hf3 hp3)
     clear hp3 hf3 HC3
     clear HU2
     have HWR := hid (z16 pb s (i, 0) _ hs HWF.out HU3.out.pt)
     go_wp2_with fail
     refine HWR.out.mono ?_
     rintro e w7 ⟨rfl, hp7, hf7⟩
     have HU7 := hid (HU3.out.step hlr hf7 hp7)
     clear hp7 hf7 HWR
     go_wp2
     go_ret
     rw [HE.out]
     exact ⟨a, cap, _, by rw [HL.out]; rfl, HU7.out.gw.done (kpP _), HU7.out.pt, HU7.out.fr⟩
   by_cases h35 : c = 35
   ·subst h35
    clear h125
    cases h with
    | false =>
     have HE := hid (HQ.out.trans (dp_num hn rfl))
     have hnv : nowI s.data.toList (i, 0) = 35 := z0f hn
     rw [hnv] at HNW
     clear hnv hn
     have HC2 := hid (HNW.out _ HU.out.pt)
     go_wp2_with fail
     refine HC2.out.mono ?_
     rintro e w2 ⟨rfl, hp2, hf2⟩
     have HU2 := hid (HU.out.step hlr hf2 hp2)
     clear hp2 hf2 HC2
     clear HU
     have HC3 := hid (HNW.out _ HU2.out.pt)
     go_wp2_with fail
     refine HC3.out.mono ?_
     rintro e w3 ⟨rfl, hp3, hf3⟩
     have HU3 := hid (HU2.out.step hlr hf3 hp3)
     clear hp3 hf3 HC3
     clear HU2
     have HWR := hid (z16 pb s (i, 0) _ hs HWF.out HU3.out.pt)
     go_wp2_with fail
     refine HWR.out.mono ?_
     rintro e w7 ⟨rfl, hp7, hf7⟩
     have HU7 := hid (HU3.out.step hlr hf7 hp7)
     clear hp7 hf7 HWR
     go_wp2
     go_ret
     rw [HE.out]
     exact ⟨a, cap, _, by rw [HL.out]; rfl, HU7.out.gw.done (kpP _), HU7.out.pt, HU7.out.fr⟩
    | true =>
     have HE := hid (HQ.out.trans (dp_hash hn rfl))
     have HWF2 := hid (z0t hn)
     have HADV : Hid (i + 1 <= i + 1) := hid (Nat.le_refl _)
     have HFUN : Hid (s.size - (i + 1) < g') := hid (by have h1 := HFUB.out; have h2 := HADV.out; have h3 := HTL.out; omega)
     have hnv : nowI s.data.toList (i, 0) = 35 := z0f hn
     rw [hnv] at HNW
     clear hnv hn
     have HC2 := hid (HNW.out _ HU.out.pt)
     go_wp2_with fail
     refine HC2.out.mono ?_
     rintro e w2 ⟨rfl, hp2, hf2⟩
     have HU2 := hid (HU.out.step hlr hf2 hp2)
     clear hp2 hf2 HC2
     clear HU
     have HC3 := hid (HNW.out _ HU2.out.pt)
     go_wp2_with fail
     refine HC3.out.mono ?_
     rintro e w3 ⟨rfl, hp3, hf3⟩
     have HU3 := hid (HU2.out.step hlr hf3 hp3)
     clear hp3 hf3 HC3
     clear HU2
     have HU4 := hid (HU3.out.on hlr)
     have c1 := HU3.out.pt.row.cell (i := 1) rfl
     have z1 := HU3.out.pt.row.thaw 1
     simp only at c1
     have HULA := HU4.out
     have HUO := HU4.out.own
     rw [<- HL.out] at HUO HULA
     have HO := hid HUO
     have HULH := hid HULA
     have hzw := HU3.out.fr.size
     have HLT3 : Hid (∀ b, (Value.slice a L cap).ownBlock = some b -> b < w3.heap.size) := hid (by rw [HL.out]; exact fun b hb => (HU3.out.lt b hb).2)
     clear HUO HULA
     go_wp2_with (at_builtin; refine wpList_append_lies _ rfl _ _ 70 rfl w.heap.size 141 i0 _ 4 64 Tryz.underlying70 hi hz0 hz1 hz2 rfl (by decide) _ _ _ rfl (HO.out.alloc _) _ 1 1 [.int .i64 3, .string ⟨#[]⟩, .string ⟨#[]⟩, .slice none 0 0] rfl rfl (z0s _ #[.int .i64 3, .string ⟨#[]⟩, .string ⟨#[]⟩, .slice none 0 0] _ (by simp [World.setCell])) (by simp [Value.oneCell']) (by decide) (by unfold maxLen; omega) (by omega) (by simp; omega) (w3.heap.size + 1) (by simp [World.setCell]) ?_; intro g5 c5 w9 hown9 hgrow9 hg9 _; have HO9 := hid hown9; have HG9 := hid hgrow9; have HGL9 := hid hg9; clear hown9 hgrow9 hg9)
     have HLEN : Hid ((xs ++ [Pt.mk 3 (ba []) (ba []) []]).length = L + 1) := hid (by rw [List.length_append, HL.out]; rfl)
     have HU9 := hid (HULH.out.push (x := .mk 3 (ba []) (ba []) []) (B2 := w3.heap.size) hlr HL.out (CP.mk (Sl.nil _ _ _ _)) hzw HLT3.out rfl HG9.out HO9.out (by rcases HGL9.out with z | z; exact .inl z; right; rw [z]; simp [World.setCell]))
     go_roundw
     case rel => exact ⟨_, _, some ⟨g5, 0, none⟩, c5, n, g', (i + 1, 0), by rw [HLEN.out], by omega, by rw [HLEN.out]; exact HU9, HWF2, hid (fun _ => HFUN.out), hid (by rw [HLEN.out]; have h2 := HLEB.out; have h3 := HL.out; first | omega | (simp only; omega)), hid (by rw [z2s]; exact Nat.zero_le _), HE⟩
     case measure =>
      have h1 := z71 (m := s.size) HU9.out.pt
      have h2 := HADV.out
      have h3 := HTL.out
      try simp only at h1
      rw [HMS.out]
      omega
   by_cases h123 : c = 123
   ·subst h123
    clear h125 h35
    have HE := hid (HQ.out.trans (dp_hole hn))
    have HCALL := hid (fun W hW => HHH.out g' (by omega) o h pb s (i, 0) W hs (by omega) HWF.out hn HFUB.out hW)
    have HWN := hid (z0t hn)
    have HGE := hid (zej (cf := fun h S => z0c s.data.toList g' o h [] S) (fun h S => zip _ _ _ _ _ _) h ((i, 0) : St))
    have HT0 := hid (hole_t (l := s.data.toList) (h := h) (cf := fun h S => z0c s.data.toList g' o h [] S) (S := ((i, 0) : St)))
    have hnv : nowI s.data.toList (i, 0) = 123 := z0f hn
    rw [hnv] at HNW
    clear hnv hn
    have HC2 := hid (HNW.out _ HU.out.pt)
    go_wp2_with fail
    refine HC2.out.mono ?_
    rintro e w2 ⟨rfl, hp2, hf2⟩
    have HU2 := hid (HU.out.step hlr hf2 hp2)
    clear hp2 hf2 HC2
    clear HU
    have HC3 := hid (HNW.out _ HU2.out.pt)
    go_wp2_with fail
    refine HC3.out.mono ?_
    rintro e w3 ⟨rfl, hp3, hf3⟩
    have HU3 := hid (HU2.out.step hlr hf3 hp3)
    clear hp3 hf3 HC3
    clear HU2
    have HCL3 := hid (HCALL.out _ HU3.out.pt)
    clear HCALL
    generalize z1f s.data.toList (fun h S => z0c s.data.toList g' o h [] S) h (i, 0) = r at *
    obtain ⟨⟨k, t, nm, cs⟩, V⟩ := r
    simp only [Pt.t] at HE HGE HT0
    have HADV : Hid (i + 1 <= V.1) := hid HGE.out.1
    have HFUN : Hid (s.size - (V.1) < g') := hid (by have h1 := HFUB.out; have h2 := HADV.out; have h3 := HTL.out; omega)
    have HWF2 := hid (HGE.out.2.1 HWN.out)
    go_wp2_with fail
    refine HCL3.out.mono ?_
    rintro e w4 ⟨v2, q, he, hsl, hp4, hf4⟩
    simp only [Pt.k, Pt.t, Pt.n, Pt.cs] at he hsl hp4
    obtain ⟨a2, l2, p2, rfl, -⟩ := hsl.form
    subst he
    obtain ⟨K, HK⟩ : ∃ K, Hid (n <= K /\ q <= K) := ⟨max n q, hid ⟨Nat.le_max_left _ _, Nat.le_max_right _ _⟩⟩
    have HU5 := hid (((HU3.out.step hlr hf4 hp4).le HK.out.1).alloc hlr (.cells #[.int .i64 k, .string t, .string nm, .slice a2 l2 p2] 141))
    have HSL5 : Hid (SlC (w4.alloc (.cells #[.int .i64 k, .string t, .string nm, .slice a2 l2 p2] 141)) (Fsh w3.heap.size (w4.alloc (.cells #[.int .i64 k, .string t, .string nm, .slice a2 l2 p2] 141))) K (.slice a2 l2 p2) cs) := hid ((hsl.le HK.out.2).keep (fun b hb => Below.heap_alloc _ _ _ hb.2) (fun b hb => ⟨hb.1, by rw [World.size_alloc]; have := hb.2; omega⟩))
    have R := z04 w4 #[.int .i64 k, .string t, .string nm, .slice a2 l2 p2] 141
    have q0 := R.cell (i := 0) rfl
    have q1 := R.cell (i := 1) rfl
    have q2 := R.cell (i := 2) rfl
    have q3 := R.cell (i := 3) rfl
    have HULA := HU5.out
    have HUO := HU5.out.own
    rw [<- HL.out] at HUO HULA
    have HO := hid HUO
    have HULH := hid HULA
    have hzw := HU3.out.fr.size
    have HLT3 : Hid (∀ b, (Value.slice a L cap).ownBlock = some b -> b < w3.heap.size) := hid (by rw [HL.out]; exact fun b hb => (HU3.out.lt b hb).2)
    have hzw4 : w3.heap.size <= w4.heap.size := hf4.size
    have hsz : (w4.alloc (.cells #[.int .i64 k, .string t, .string nm, .slice a2 l2 p2] 141)).heap.size = w4.heap.size + 1 := World.size_alloc _ _
    clear HUO HULA R hsl hp4 hf4 HCL3 HU5
    go_wp2_with (at_builtin; refine wpList_append_lies _ rfl _ _ 70 rfl w.heap.size 141 i0 _ 4 64 Tryz.underlying70 hi hz0 hz1 hz2 rfl (by decide) _ _ _ rfl (HO.out.alloc _) _ 1 1 [.int .i64 k, .string t, .string nm, .slice a2 l2 p2] rfl rfl (z0s _ #[.int .i64 k, .string t, .string nm, .slice a2 l2 p2] _ hsz) (by simp [Value.oneCell']) (by decide) (by unfold maxLen; omega) (by omega) (by simp; omega) (w4.heap.size + 1 + 1) (by simp) ?_; intro g5 c5 w9 hown9 hgrow9 hg9 _; have HO9 := hid hown9; have HG9 := hid hgrow9; have HGL9 := hid hg9; clear hown9 hgrow9 hg9)
    have HLEN : Hid ((xs ++ [Pt.mk k t nm cs]).length = L + 1) := hid (by rw [List.length_append, HL.out]; rfl)
    have HU9 := hid (HULH.out.push (x := .mk k t nm cs) (B2 := w3.heap.size) hlr HL.out (CP.mk HSL5.out) hzw HLT3.out rfl HG9.out HO9.out (by rcases HGL9.out with z | z; exact .inl z; right; rw [z, hsz]; omega))
    go_roundw
    case rel => exact ⟨_, _, some ⟨g5, 0, none⟩, c5, K, g', V, by rw [HLEN.out], by omega, by rw [HLEN.out]; exact HU9, HWF2, hid (fun _ => HFUN.out), hid (by rw [HLEN.out]; have h2 := HLEB.out; have h3 := HL.out; have h4 := HADV.out; omega), hid (by rw [z2s]; have := HT0.out; show t.size <= _; omega), HE⟩
    case measure =>
     have h1 := z71 (m := s.size) HU9.out.pt
     have h2 := HADV.out
     have h3 := HTL.out
     try simp only at h1
     rw [HMS.out]
     omega
   by_cases h39 : c = 39
   ·subst h39
    clear h125 h35 h123
    cases hd : nowF s.data.toList (i + 1, 0) with
    | none =>
     have HE := hid (HQ.out.trans (dq_none hn hd))
     have HWF4 := hid (z0t hn)
     have hd2 := z1q hd
     have hnv : nowI s.data.toList (i, 0) = 39 := z0f hn
     rw [hnv] at HNW
     clear hnv hn
     have HC2 := hid (HNW.out _ HU.out.pt)
     go_wp2_with fail
     refine HC2.out.mono ?_
     rintro e w2 ⟨rfl, hp2, hf2⟩
     have HU2 := hid (HU.out.step hlr hf2 hp2)
     clear hp2 hf2 HC2
     clear HU
     have HC3 := hid (HNW.out _ HU2.out.pt)
     go_wp2_with fail
     refine HC3.out.mono ?_
     rintro e w3 ⟨rfl, hp3, hf3⟩
     have HU3 := hid (HU2.out.step hlr hf3 hp3)
     clear hp3 hf3 HC3
     clear HU2
     obtain ⟨i1, HI1⟩ : ∃ i1, Hid (i1 = i + 1) := ⟨_, hid rfl⟩
     have HU4 := hid (HU3.out.on hlr)
     rw [<- HI1.out] at HU4
     have HN4 : Hid (∀ W, PAt W pb s (i1, 0) -> Calls Tryz.prog 125 #[.pointer (some ⟨pb, 0, none⟩)] W fun e w' => e = .returned (.int .i64 (-1)) /\ PAt w' pb s (i1, 0) /\ Fr (· = pb) W w') := hid (fun W h => by
      have := nowP hs h
      rw [HI1.out, hd2] at this
      rw [HI1.out]; exact this)
     have c1 := HU3.out.pt.row.cell (i := 1) rfl
     have z1 := HU3.out.pt.row.thaw 1
     simp only at c1
     have HC5 := hid (HN4.out _ HU4.out.pt)
     go_wp2_with fail
     generalize w3.setCell ⟨pb, 1, none⟩ (.int .i64 ((i : Int) + 1)) = w4 at *
     refine HC5.out.mono ?_
     rintro e w5 ⟨rfl, hp5, hf5⟩
     have HU5 := hid (HU4.out.step hlr hf5 hp5)
     clear hp5 hf5 HC5
     clear c1 z1 HU3 HU4
     rw [<- HI1.out] at HWF4 HE
     have HWR := hid (z16 pb s (i1, 0) _ hs HWF4.out HU5.out.pt)
     go_wp2_with fail
     refine HWR.out.mono ?_
     rintro e w7 ⟨rfl, hp7, hf7⟩
     have HU7 := hid (HU5.out.step hlr hf7 hp7)
     clear hp7 hf7 HWR
     go_wp2
     go_ret
     rw [HE.out]
     exact ⟨a, cap, _, by rw [HL.out]; rfl, HU7.out.gw.done (kpP _), HU7.out.pt, HU7.out.fr⟩
    | some d =>
     by_cases hsp : isSp d
     ·by_cases hd39 : d = 39
      ·subst hd39
       have HE := hid (HQ.out.trans (dq_same hn hd))
       have HWF2 : Hid (Wf s.data.toList (i + 2, 0)) := hid (z0t (S := (i + 1, 0)) hd)
       have HDL : Hid (i + 1 < s.size) := hid (by have := z0l (z0b hd).2; rw [z05] at this; exact this)
       have HADV : Hid (i + 1 <= i + 2) := hid (by omega)
       have hd2 := z0f hd
       have HFUN : Hid (s.size - (i + 2) < g') := hid (by have h1 := HFUB.out; have h2 := HADV.out; have h3 := HTL.out; omega)
       have hnv : nowI s.data.toList (i, 0) = 39 := z0f hn
       rw [hnv] at HNW
       clear hnv hn
       have HC2 := hid (HNW.out _ HU.out.pt)
       go_wp2_with fail
       refine HC2.out.mono ?_
       rintro e w2 ⟨rfl, hp2, hf2⟩
       have HU2 := hid (HU.out.step hlr hf2 hp2)
       clear hp2 hf2 HC2
       clear HU
       have HC3 := hid (HNW.out _ HU2.out.pt)
       go_wp2_with fail
       refine HC3.out.mono ?_
       rintro e w3 ⟨rfl, hp3, hf3⟩
       have HU3 := hid (HU2.out.step hlr hf3 hp3)
       clear hp3 hf3 HC3
       clear HU2
       obtain ⟨i1, HI1⟩ : ∃ i1, Hid (i1 = i + 1) := ⟨_, hid rfl⟩
       have HU4 := hid (HU3.out.on hlr)
       rw [<- HI1.out] at HU4
       have HN4 : Hid (∀ W, PAt W pb s (i1, 0) -> Calls Tryz.prog 125 #[.pointer (some ⟨pb, 0, none⟩)] W fun e w' => e = .returned (.int .i64 39) /\ PAt w' pb s (i1, 0) /\ Fr (· = pb) W w') := hid (fun W h => by
        have := nowP hs h
        rw [HI1.out, hd2] at this
        rw [HI1.out]; exact this)
       have c1 := HU3.out.pt.row.cell (i := 1) rfl
       have z1 := HU3.out.pt.row.thaw 1
       simp only at c1
       have HC5 := hid (HN4.out _ HU4.out.pt)
       go_wp2_with fail
       generalize w3.setCell ⟨pb, 1, none⟩ (.int .i64 ((i : Int) + 1)) = w4 at *
       refine HC5.out.mono ?_
       rintro e w5 ⟨rfl, hp5, hf5⟩
       have HU5 := hid (HU4.out.step hlr hf5 hp5)
       clear hp5 hf5 HC5
       clear c1 z1 HU3 HU4
       have c1 := HU5.out.pt.row.cell (i := 1) rfl
       have z1 := HU5.out.pt.row.thaw 1
       simp only at c1
       have hi1 : i1 < s.size := by have := HDL.out; have := HI1.out; omega
       have HU6 := hid (HU5.out.on hlr)
       have HX1 : Hid (i1 + 1 = i + 2) := hid (by rw [HI1.out])
       rw [HX1.out] at HU6
       have HADD := hid (z4y 39 w.heap.size n _ a cap xs vs HU6.out.fr.size HU6.out.gw (by have := HL.out; omega) (fun x hx => by have := z79 HLT.out x hx; omega))
       rw [<- HL.out] at HADD
       have HUL := HU6.out
       rw [<- HL.out] at HUL
       have HULH := hid HUL
       clear HUL
       have HLE2 := hid (z7k xs 39)
       generalize addF xs 39 = ys at *
       go_wp2_with fail
       refine HADD.out.mono ?_
       rintro e w9 ⟨a9, c9, vs9, rfl, hg9, hf9⟩
       have HU9 := hid (HULH.out.added hlr hg9 hf9)
       clear hg9 hf9 HADD HULH
       go_wp2
       go_roundw
       case rel => exact ⟨ys, vs9, a9, c9, n, g', (i + 2, 0), rfl, by omega, HU9, HWF2, hid (fun _ => HFUN.out), hid (by have h1 := HLE2.out.1; have h2 := HLEB.out; have h3 := HADV.out; first | omega | (simp only; omega)), hid (by have h1 := HLE2.out.2; have h2 := HLTB.out; have h3 := HADV.out; first | omega | (simp only; omega)), HE⟩
       case measure =>
        have h1 := z71 (m := s.size) HU9.out.pt
        have h2 := HADV.out
        have h3 := HTL.out
        try simp only at h1
        rw [HMS.out]
        omega
      ·have hsp3 : d = 123 ∨ d = 125 ∨ d = 35 := by
        rcases hsp with e | e | e | e
        ·exact absurd e hd39
        ·exact .inl e
        ·exact .inr (.inl e)
        ·exact .inr (.inr e)
       clear hd39
       rcases hsp3 with rfl | rfl | rfl
       ·have HE := hid (HQ.out.trans (zdc hn hd hsp (by decide)))
        have HWF1 : Hid (Wf s.data.toList (i + 2, 0)) := hid (z0t (S := (i + 1, 0)) hd)
        have HGW := hid (z06 s.data.toList [39] (i + 2, 0))
        have HDL : Hid (i + 1 < s.size) := hid (by have := z0l (z0b hd).2; rw [z05] at this; exact this)
        have hd2 := z0f hd
        have hnv : nowI s.data.toList (i, 0) = 39 := z0f hn
        rw [hnv] at HNW
        clear hnv hn
        have HC2 := hid (HNW.out _ HU.out.pt)
        go_wp2_with fail
        refine HC2.out.mono ?_
        rintro e w2 ⟨rfl, hp2, hf2⟩
        have HU2 := hid (HU.out.step hlr hf2 hp2)
        clear hp2 hf2 HC2
        clear HU
        have HC3 := hid (HNW.out _ HU2.out.pt)
        go_wp2_with fail
        refine HC3.out.mono ?_
        rintro e w3 ⟨rfl, hp3, hf3⟩
        have HU3 := hid (HU2.out.step hlr hf3 hp3)
        clear hp3 hf3 HC3
        clear HU2
        obtain ⟨i1, HI1⟩ : ∃ i1, Hid (i1 = i + 1) := ⟨_, hid rfl⟩
        have HU4 := hid (HU3.out.on hlr)
        rw [<- HI1.out] at HU4
        have HN4 : Hid (∀ W, PAt W pb s (i1, 0) -> Calls Tryz.prog 125 #[.pointer (some ⟨pb, 0, none⟩)] W fun e w' => e = .returned (.int .i64 123) /\ PAt w' pb s (i1, 0) /\ Fr (· = pb) W w') := hid (fun W h => by
         have := nowP hs h
         rw [HI1.out, hd2] at this
         rw [HI1.out]; exact this)
        have c1 := HU3.out.pt.row.cell (i := 1) rfl
        have z1 := HU3.out.pt.row.thaw 1
        simp only at c1
        have HC5 := hid (HN4.out _ HU4.out.pt)
        go_wp2_with fail
        generalize w3.setCell ⟨pb, 1, none⟩ (.int .i64 ((i : Int) + 1)) = w4 at *
        refine HC5.out.mono ?_
        rintro e w5 ⟨rfl, hp5, hf5⟩
        have HU5 := hid (HU4.out.step hlr hf5 hp5)
        clear hp5 hf5 HC5
        clear c1 z1 HU3 HU4
        have c1 := HU5.out.pt.row.cell (i := 1) rfl
        have z1 := HU5.out.pt.row.thaw 1
        simp only at c1
        have hi1 : i1 < s.size := by have := HDL.out; have := HI1.out; omega
        have HU6 := hid (HU5.out.on hlr)
        have HX1 : Hid (i1 + 1 = i + 2) := hid (by rw [HI1.out])
        rw [HX1.out] at HU6
        have HTK : Hid (Calls Tryz.prog 128 #[.pointer (some ⟨pb, 0, none⟩), .string ⟨#[39]⟩] (w5.setCell ⟨pb, 1, none⟩ (.int .i64 ((i1 : Int) + 1))) fun e w' => e = .returned (.tuple #[]) /\ PAt w' pb s (wordF s.data.toList [39] (i + 2, 0)) /\ Fr (· = pb) (w5.setCell ⟨pb, 1, none⟩ (.int .i64 ((i1 : Int) + 1))) w') := hid (z6a pb s ⟨#[39]⟩ (i + 2, 0) _ hs (by decide) HWF1.out HU6.out.pt)
        generalize wordF s.data.toList [39] (i + 2, 0) = V at *
        have HADV : Hid (i + 1 <= V.1) := hid (by have := HGW.out.1; simp only at this; omega)
        have HWF2 := hid (HGW.out.2.1 HWF1.out)
        have HFUN : Hid (s.size - (V.1) < g') := hid (by have h1 := HFUB.out; have h2 := HADV.out; have h3 := HTL.out; omega)
        go_wp2_with fail
        generalize w5.setCell ⟨pb, 1, none⟩ (.int .i64 ((i1 : Int) + 1)) = w6 at *
        refine HTK.out.mono ?_
        rintro e w8 ⟨rfl, hp8, hf8⟩
        have HU8 := hid (HU6.out.step hlr hf8 hp8)
        clear hp8 hf8 HTK HU6 c1 z1
        have HA123 := hid (z4y 123 w.heap.size n _ a cap xs vs HU8.out.fr.size HU8.out.gw (by have := HL.out; omega) (fun x hx => by have := z79 HLT.out x hx; omega))
        rw [<- HL.out] at HA123
        have HUL := HU8.out
        rw [<- HL.out] at HUL
        have HULH := hid HUL
        clear HUL
        have HLE2 := hid (z7k xs 123)
        generalize addF xs 123 = ys at *
        go_wp2_with fail
        refine HA123.out.mono ?_
        rintro e w9 ⟨a9, c9, vs9, rfl, hg9, hf9⟩
        have HU9 := hid (HULH.out.added hlr hg9 hf9)
        clear hg9 hf9 HA123 HULH
        go_wp2
        go_roundw
        case rel => exact ⟨ys, vs9, a9, c9, n, g', V, rfl, by omega, HU9, HWF2, hid (fun _ => HFUN.out), hid (by have h1 := HLE2.out.1; have h2 := HLEB.out; have h3 := HADV.out; first | omega | (simp only; omega)), hid (by have h1 := HLE2.out.2; have h2 := HLTB.out; have h3 := HADV.out; first | omega | (simp only; omega)), HE⟩
        case measure =>
         have h1 := z71 (m := s.size) HU9.out.pt
         have h2 := HADV.out
         have h3 := HTL.out
         try simp only at h1
         rw [HMS.out]
         omega
       ·have HE := hid (HQ.out.trans (zdc hn hd hsp (by decide)))
        have HWF1 : Hid (Wf s.data.toList (i + 2, 0)) := hid (z0t (S := (i + 1, 0)) hd)
        have HGW := hid (z06 s.data.toList [39] (i + 2, 0))
        have HDL : Hid (i + 1 < s.size) := hid (by have := z0l (z0b hd).2; rw [z05] at this; exact this)
        have hd2 := z0f hd
        have hnv : nowI s.data.toList (i, 0) = 39 := z0f hn
        rw [hnv] at HNW
        clear hnv hn
        have HC2 := hid (HNW.out _ HU.out.pt)
        go_wp2_with fail
        refine HC2.out.mono ?_
        rintro e w2 ⟨rfl, hp2, hf2⟩
        have HU2 := hid (HU.out.step hlr hf2 hp2)
        clear hp2 hf2 HC2
        clear HU
        have HC3 := hid (HNW.out _ HU2.out.pt)
        go_wp2_with fail
        refine HC3.out.mono ?_
        rintro e w3 ⟨rfl, hp3, hf3⟩
        have HU3 := hid (HU2.out.step hlr hf3 hp3)
        clear hp3 hf3 HC3
        clear HU2
        obtain ⟨i1, HI1⟩ : ∃ i1, Hid (i1 = i + 1) := ⟨_, hid rfl⟩
        have HU4 := hid (HU3.out.on hlr)
        rw [<- HI1.out] at HU4
        have HN4 : Hid (∀ W, PAt W pb s (i1, 0) -> Calls Tryz.prog 125 #[.pointer (some ⟨pb, 0, none⟩)] W fun e w' => e = .returned (.int .i64 125) /\ PAt w' pb s (i1, 0) /\ Fr (· = pb) W w') := hid (fun W h => by
         have := nowP hs h
         rw [HI1.out, hd2] at this
         rw [HI1.out]; exact this)
        have c1 := HU3.out.pt.row.cell (i := 1) rfl
        have z1 := HU3.out.pt.row.thaw 1
        simp only at c1
        have HC5 := hid (HN4.out _ HU4.out.pt)
        go_wp2_with fail
        generalize w3.setCell ⟨pb, 1, none⟩ (.int .i64 ((i : Int) + 1)) = w4 at *
        refine HC5.out.mono ?_
        rintro e w5 ⟨rfl, hp5, hf5⟩
        have HU5 := hid (HU4.out.step hlr hf5 hp5)
        clear hp5 hf5 HC5
        clear c1 z1 HU3 HU4
        have c1 := HU5.out.pt.row.cell (i := 1) rfl
        have z1 := HU5.out.pt.row.thaw 1
        simp only at c1
        have hi1 : i1 < s.size := by have := HDL.out; have := HI1.out; omega
        have HU6 := hid (HU5.out.on hlr)
        have HX1 : Hid (i1 + 1 = i + 2) := hid (by rw [HI1.out])
        rw [HX1.out] at HU6
        have HTK : Hid (Calls Tryz.prog 128 #[.pointer (some ⟨pb, 0, none⟩), .string ⟨#[39]⟩] (w5.setCell ⟨pb, 1, none⟩ (.int .i64 ((i1 : Int) + 1))) fun e w' => e = .returned (.tuple #[]) /\ PAt w' pb s (wordF s.data.toList [39] (i + 2, 0)) /\ Fr (· = pb) (w5.setCell ⟨pb, 1, none⟩ (.int .i64 ((i1 : Int) + 1))) w') := hid (z6a pb s ⟨#[39]⟩ (i + 2, 0) _ hs (by decide) HWF1.out HU6.out.pt)
        generalize wordF s.data.toList [39] (i + 2, 0) = V at *
        have HADV : Hid (i + 1 <= V.1) := hid (by have := HGW.out.1; simp only at this; omega)
        have HWF2 := hid (HGW.out.2.1 HWF1.out)
        have HFUN : Hid (s.size - (V.1) < g') := hid (by have h1 := HFUB.out; have h2 := HADV.out; have h3 := HTL.out; omega)
        go_wp2_with fail
        generalize w5.setCell ⟨pb, 1, none⟩ (.int .i64 ((i1 : Int) + 1)) = w6 at *
        refine HTK.out.mono ?_
        rintro e w8 ⟨rfl, hp8, hf8⟩
        have HU8 := hid (HU6.out.step hlr hf8 hp8)
        clear hp8 hf8 HTK HU6 c1 z1
        have HA125 := hid (z4y 125 w.heap.size n _ a cap xs vs HU8.out.fr.size HU8.out.gw (by have := HL.out; omega) (fun x hx => by have := z79 HLT.out x hx; omega))
        rw [<- HL.out] at HA125
        have HUL := HU8.out
        rw [<- HL.out] at HUL
        have HULH := hid HUL
        clear HUL
        have HLE2 := hid (z7k xs 125)
        generalize addF xs 125 = ys at *
        go_wp2_with fail
        refine HA125.out.mono ?_
        rintro e w9 ⟨a9, c9, vs9, rfl, hg9, hf9⟩
        have HU9 := hid (HULH.out.added hlr hg9 hf9)
        clear hg9 hf9 HA125 HULH
        go_wp2
        go_roundw
        case rel => exact ⟨ys, vs9, a9, c9, n, g', V, rfl, by omega, HU9, HWF2, hid (fun _ => HFUN.out), hid (by have h1 := HLE2.out.1; have h2 := HLEB.out; have h3 := HADV.out; first | omega | (simp only; omega)), hid (by have h1 := HLE2.out.2; have h2 := HLTB.out; have h3 := HADV.out; first | omega | (simp only; omega)), HE⟩
        case measure =>
         have h1 := z71 (m := s.size) HU9.out.pt
         have h2 := HADV.out
         have h3 := HTL.out
         try simp only at h1
         rw [HMS.out]
         omega
       ·have HE := hid (HQ.out.trans (zdc hn hd hsp (by decide)))
        have HWF1 : Hid (Wf s.data.toList (i + 2, 0)) := hid (z0t (S := (i + 1, 0)) hd)
        have HGW := hid (z06 s.data.toList [39] (i + 2, 0))
        have HDL : Hid (i + 1 < s.size) := hid (by have := z0l (z0b hd).2; rw [z05] at this; exact this)
        have hd2 := z0f hd
        have hnv : nowI s.data.toList (i, 0) = 39 := z0f hn
        rw [hnv] at HNW
        clear hnv hn
        have HC2 := hid (HNW.out _ HU.out.pt)
        go_wp2_with fail
        refine HC2.out.mono ?_
        rintro e w2 ⟨rfl, hp2, hf2⟩
        have HU2 := hid (HU.out.step hlr hf2 hp2)
        clear hp2 hf2 HC2
        clear HU
        have HC3 := hid (HNW.out _ HU2.out.pt)
        go_wp2_with fail
        refine HC3.out.mono ?_
        rintro e w3 ⟨rfl, hp3, hf3⟩
        have HU3 := hid (HU2.out.step hlr hf3 hp3)
        clear hp3 hf3 HC3
        clear HU2
        obtain ⟨i1, HI1⟩ : ∃ i1, Hid (i1 = i + 1) := ⟨_, hid rfl⟩
        have HU4 := hid (HU3.out.on hlr)
        rw [<- HI1.out] at HU4
        have HN4 : Hid (∀ W, PAt W pb s (i1, 0) -> Calls Tryz.prog 125 #[.pointer (some ⟨pb, 0, none⟩)] W fun e w' => e = .returned (.int .i64 35) /\ PAt w' pb s (i1, 0) /\ Fr (· = pb) W w') := hid (fun W h => by
         have := nowP hs h
         rw [HI1.out, hd2] at this
         rw [HI1.out]; exact this)
        have c1 := HU3.out.pt.row.cell (i := 1) rfl
        have z1 := HU3.out.pt.row.thaw 1
        simp only at c1
        have HC5 := hid (HN4.out _ HU4.out.pt)
        go_wp2_with fail
        generalize w3.setCell ⟨pb, 1, none⟩ (.int .i64 ((i : Int) + 1)) = w4 at *
        refine HC5.out.mono ?_
        rintro e w5 ⟨rfl, hp5, hf5⟩
        have HU5 := hid (HU4.out.step hlr hf5 hp5)
        clear hp5 hf5 HC5
        clear c1 z1 HU3 HU4
        have c1 := HU5.out.pt.row.cell (i := 1) rfl
        have z1 := HU5.out.pt.row.thaw 1
        simp only at c1
        have hi1 : i1 < s.size := by have := HDL.out; have := HI1.out; omega
        have HU6 := hid (HU5.out.on hlr)
        have HX1 : Hid (i1 + 1 = i + 2) := hid (by rw [HI1.out])
        rw [HX1.out] at HU6
        have HTK : Hid (Calls Tryz.prog 128 #[.pointer (some ⟨pb, 0, none⟩), .string ⟨#[39]⟩] (w5.setCell ⟨pb, 1, none⟩ (.int .i64 ((i1 : Int) + 1))) fun e w' => e = .returned (.tuple #[]) /\ PAt w' pb s (wordF s.data.toList [39] (i + 2, 0)) /\ Fr (· = pb) (w5.setCell ⟨pb, 1, none⟩ (.int .i64 ((i1 : Int) + 1))) w') := hid (z6a pb s ⟨#[39]⟩ (i + 2, 0) _ hs (by decide) HWF1.out HU6.out.pt)
        generalize wordF s.data.toList [39] (i + 2, 0) = V at *
        have HADV : Hid (i + 1 <= V.1) := hid (by have := HGW.out.1; simp only at this; omega)
        have HWF2 := hid (HGW.out.2.1 HWF1.out)
        have HFUN : Hid (s.size - (V.1) < g') := hid (by have h1 := HFUB.out; have h2 := HADV.out; have h3 := HTL.out; omega)
        go_wp2_with fail
        generalize w5.setCell ⟨pb, 1, none⟩ (.int .i64 ((i1 : Int) + 1)) = w6 at *
        refine HTK.out.mono ?_
        rintro e w8 ⟨rfl, hp8, hf8⟩
        have HU8 := hid (HU6.out.step hlr hf8 hp8)
        clear hp8 hf8 HTK HU6 c1 z1
        have HA35 := hid (z4y 35 w.heap.size n _ a cap xs vs HU8.out.fr.size HU8.out.gw (by have := HL.out; omega) (fun x hx => by have := z79 HLT.out x hx; omega))
        rw [<- HL.out] at HA35
        have HUL := HU8.out
        rw [<- HL.out] at HUL
        have HULH := hid HUL
        clear HUL
        have HLE2 := hid (z7k xs 35)
        generalize addF xs 35 = ys at *
        go_wp2_with fail
        refine HA35.out.mono ?_
        rintro e w9 ⟨a9, c9, vs9, rfl, hg9, hf9⟩
        have HU9 := hid (HULH.out.added hlr hg9 hf9)
        clear hg9 hf9 HA35 HULH
        go_wp2
        go_roundw
        case rel => exact ⟨ys, vs9, a9, c9, n, g', V, rfl, by omega, HU9, HWF2, hid (fun _ => HFUN.out), hid (by have h1 := HLE2.out.1; have h2 := HLEB.out; have h3 := HADV.out; first | omega | (simp only; omega)), hid (by have h1 := HLE2.out.2; have h2 := HLTB.out; have h3 := HADV.out; first | omega | (simp only; omega)), HE⟩
        case measure =>
         have h1 := z71 (m := s.size) HU9.out.pt
         have h2 := HADV.out
         have h3 := HTL.out
         try simp only at h1
         rw [HMS.out]
         omega
     ·have HE := hid (HQ.out.trans (dq_not hn hd hsp))
      have HWF4 := hid (z0t hn)
      have hd2 := z0f hd
      have n39 : d ≠ 39 := fun e => hsp (.inl e)
      have n123 : d ≠ 123 := fun e => hsp (.inr (.inl e))
      have n125 : d ≠ 125 := fun e => hsp (.inr (.inr (.inl e)))
      have n35 : d ≠ 35 := fun e => hsp (.inr (.inr (.inr e)))
      have b39 : ((d.toNat : Int) != 39) = true := z6o n39 rfl
      have b123 : ((d.toNat : Int) != 123) = true := z6o n123 rfl
      have b125 : ((d.toNat : Int) != 125) = true := z6o n125 rfl
      have b35 : ((d.toNat : Int) != 35) = true := z6o n35 rfl
      clear n39 n123 n125 n35 hsp
      have hnv : nowI s.data.toList (i, 0) = 39 := z0f hn
      rw [hnv] at HNW
      clear hnv hn
      have HC2 := hid (HNW.out _ HU.out.pt)
      go_wp2_with fail
      refine HC2.out.mono ?_
      rintro e w2 ⟨rfl, hp2, hf2⟩
      have HU2 := hid (HU.out.step hlr hf2 hp2)
      clear hp2 hf2 HC2
      clear HU
      have HC3 := hid (HNW.out _ HU2.out.pt)
      go_wp2_with fail
      refine HC3.out.mono ?_
      rintro e w3 ⟨rfl, hp3, hf3⟩
      have HU3 := hid (HU2.out.step hlr hf3 hp3)
      clear hp3 hf3 HC3
      clear HU2
      obtain ⟨i1, HI1⟩ : ∃ i1, Hid (i1 = i + 1) := ⟨_, hid rfl⟩
      have HU4 := hid (HU3.out.on hlr)
      rw [<- HI1.out] at HU4
      have HN4 : Hid (∀ W, PAt W pb s (i1, 0) -> Calls Tryz.prog 125 #[.pointer (some ⟨pb, 0, none⟩)] W fun e w' => e = .returned (.int .i64 (d.toNat : Int)) /\ PAt w' pb s (i1, 0) /\ Fr (· = pb) W w') := hid (fun W h => by
       have := nowP hs h
       rw [HI1.out, hd2] at this
       rw [HI1.out]; exact this)
      have c1 := HU3.out.pt.row.cell (i := 1) rfl
      have z1 := HU3.out.pt.row.thaw 1
      simp only at c1
      have HC5 := hid (HN4.out _ HU4.out.pt)
      go_wp2_with fail
      generalize w3.setCell ⟨pb, 1, none⟩ (.int .i64 ((i : Int) + 1)) = w4 at *
      refine HC5.out.mono ?_
      rintro e w5 ⟨rfl, hp5, hf5⟩
      have HU5 := hid (HU4.out.step hlr hf5 hp5)
      clear hp5 hf5 HC5
      clear c1 z1 HU3 HU4
      rw [<- HI1.out] at HWF4 HE
      have HWR := hid (z16 pb s (i1, 0) _ hs HWF4.out HU5.out.pt)
      go_wp2_with fail
      refine HWR.out.mono ?_
      rintro e w7 ⟨rfl, hp7, hf7⟩
      have HU7 := hid (HU5.out.step hlr hf7 hp7)
      clear hp7 hf7 HWR
      go_wp2
      go_ret
      rw [HE.out]
      exact ⟨a, cap, _, by rw [HL.out]; rfl, HU7.out.gw.done (kpP _), HU7.out.pt, HU7.out.fr⟩
   ·have HE := hid (HQ.out.trans (dp_byte hn h125 h35 h123 h39))
    have HWF2 := hid (z0t hn)
    have HADV : Hid (i + 1 <= i + 1) := hid (Nat.le_refl _)
    have HFUN : Hid (s.size - (i + 1) < g') := hid (by have h1 := HFUB.out; have h2 := HADV.out; have h3 := HTL.out; omega)
    have hnv : nowI s.data.toList (i, 0) = (c.toNat : Int) := z0f hn
    rw [hnv] at HNW
    clear hnv hn
    have b125 : ((c.toNat : Int) == 125) = false := z3d (d := 125) h125
    have b35 : ((c.toNat : Int) == 35) = false := z3d (d := 35) h35
    have b123 : ((c.toNat : Int) == 123) = false := z3d (d := 123) h123
    have b39 : ((c.toNat : Int) == 39) = false := z3d (d := 39) h39
    have hc8 := c.toNat_lt
    clear h125 h35 h123 h39
    have HC2 := hid (HNW.out _ HU.out.pt)
    go_wp2_with fail
    refine HC2.out.mono ?_
    rintro e w2 ⟨rfl, hp2, hf2⟩
    have HU2 := hid (HU.out.step hlr hf2 hp2)
    clear hp2 hf2 HC2
    clear HU
    have HC3 := hid (HNW.out _ HU2.out.pt)
    go_wp2_with fail
    refine HC3.out.mono ?_
    rintro e w3 ⟨rfl, hp3, hf3⟩
    have HU3 := hid (HU2.out.step hlr hf3 hp3)
    clear hp3 hf3 HC3
    clear HU2
    have HU4 := hid (HU3.out.on hlr)
    have c1 := HU3.out.pt.row.cell (i := 1) rfl
    have z1 := HU3.out.pt.row.thaw 1
    simp only at c1
    have HADD := hid (z4y c w.heap.size n _ a cap xs vs HU4.out.fr.size HU4.out.gw (by have := HL.out; omega) (fun x hx => by have := z79 HLT.out x hx; omega))
    rw [<- HL.out] at HADD
    have HUL := HU4.out
    rw [<- HL.out] at HUL
    have HULH := hid HUL
    clear HUL
    have HLE2 := hid (z7k xs c)
    generalize addF xs c = ys at *
    go_wp2_with fail
    refine HADD.out.mono ?_
    rintro e w9 ⟨a9, c9, vs9, rfl, hg9, hf9⟩
    have HU9 := hid (HULH.out.added hlr hg9 hf9)
    clear hg9 hf9 HADD HULH
    go_wp2
    go_roundw
    case rel => exact ⟨ys, vs9, a9, c9, n, g', (i + 1, 0), rfl, by omega, HU9, HWF2, hid (fun _ => HFUN.out), hid (by have h1 := HLE2.out.1; have h2 := HLEB.out; have h3 := HADV.out; first | omega | (simp only; omega)), hid (by have h1 := HLE2.out.2; have h2 := HLTB.out; have h3 := HADV.out; first | omega | (simp only; omega)), HE⟩
    case measure =>
     have h1 := z71 (m := s.size) HU9.out.pt
     have h2 := HADV.out
     have h3 := HTL.out
     try simp only at h1
     rw [HMS.out]
     omega
end Go.Proofs.YtdnedbcmgkilaaaGreatDoor.Dr
