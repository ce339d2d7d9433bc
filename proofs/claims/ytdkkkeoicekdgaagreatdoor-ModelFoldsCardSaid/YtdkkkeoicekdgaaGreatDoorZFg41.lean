/- Package code's Get: what the call answers and leaves. -/
import Derived.Test.YtdkkkeoicekdgaaGreatDoorZFCList
import Derived.Test.YtdkkkeoicekdgaaGreatDoorZFg47
import Derived.Test.YtdkkkeoicekdgaaGreatDoorZFEwp

section

namespace Go.Proofs.YtdkkkeoicekdgaaGreatDoor.Co
open Go.RowKit
def z9r (r : Res) (w : World) (e : Ending) (w' : World) : Prop :=
  (match r with
   | .ok t k => ∃ v, e = .returned (.tuple #[v, .int .i64 0, .int .i64 k]) /\ Rep w' (fun b => w.heap.size <= b /\ b < w'.heap.size) t v
   | .bad er k => e = .returned (.tuple #[zeroV, .int .i64 er, .int .i64 k])) /\ Below w.heap.size w w'
theorem Fr.below_of {X : Nat -> Prop} {B : Nat} {w W w1 : World} (hW : Below B w W) (hB : B <= W.heap.size) (hf : Fr X W w1) (hX : ∀ k, k < B -> ¬ X k) : Below B w w1 :=
  hW.trans ⟨hf.os, hf.tape, hf.output, hf.size, fun k hk => hf.block k (by omega) (hX k hk)⟩
theorem But.below {B h : Nat} {w w1 w4 : World} (hW : Below B w w1) (hb : But h w1 w4) (h1 : B <= h) : Below B w w4 :=
  hW.trans ⟨hb.os, hb.tape, hb.output, by rw [hb.size]; exact Nat.le_refl _, fun k hk => hb.block k (by omega)⟩
theorem z9r.bad {er k h c : Nat} {r : Res × Nat} {w W w1 w4 : World} {e : Ending} (hW : Below w.heap.size w W) (hp : Post r c W e w1) (hc : w.heap.size <= c) (hb : But h w1 w4) (h1 : w.heap.size <= h) (o : Obj) :
    z9r (.bad er k) w (.returned (.tuple #[zeroV, .int .i64 er, .int .i64 k])) (w4.alloc o) :=
  ⟨rfl, Below.alloc (But.below (Fr.below_of hW hW.size hp.2.2 (fun k hk => by omega)) hb h1) (by have := hp.2.2.size; have := hW.size; rw [hb.size]; omega) o⟩
theorem z9r.ok {k h c cn : Nat} {t : Tree} {v : Value} {w W w1 w4 : World} {e : Ending} (hW : Below w.heap.size w W) (hp : Post (.ok t k, cn) c W e w1) (hrep : Rep w1 (fun b => W.heap.size <= b /\ b < w1.heap.size) t v) (hc : w.heap.size <= c) (hb : But h w1 w4) (h1 : w.heap.size <= h) (h2 : h < W.heap.size) (o : Obj) :
    z9r (.ok t 0) w (.returned (.tuple #[v, .int .i64 0, .int .i64 0])) (w4.alloc o) :=
  ⟨⟨v, rfl, Rep.keep (fun b hbb => (Below.heap_alloc _ _ _ (by rw [hb.size]; exact hbb.2)).trans (hb.block b (by omega))) (fun b hbb => ⟨by have := hW.size; omega, by simp; rw [hb.size]; omega⟩) _ _ hrep⟩,
    Below.alloc (But.below (Fr.below_of hW hW.size hp.2.2 (fun k hk => by omega)) hb h1) (by have := hp.2.2.size; have := hW.size; rw [hb.size]; omega) o⟩
end Go.Proofs.YtdkkkeoicekdgaaGreatDoor.Co

end

section

namespace Go.Proofs.YtdkkkeoicekdgaaGreatDoor.Co

end Go.Proofs.YtdkkkeoicekdgaaGreatDoor.Co

end

section

namespace Go.Proofs.YtdkkkeoicekdgaaGreatDoor.Ca
open Go.Proofs.YtdkkkeoicekdgaaGreatDoor
def entT (e : Ent) : Co.Tree := .list [.text e.loc.data.toList, .text e.key.data.toList, .text e.pat.data.toList]
def catT (l : List Ent) : Co.Tree := .list (l.map entT)
theorem zh0 (e : Ent) : Co.nodes (entT e) = 4 := by simp [entT, Co.nodes, Co.z0s]
theorem z87 : ∀ l : List Ent, Co.z0s (l.map entT) = 4 * l.length
 | [] => rfl
 | e :: r => by rw [List.map_cons, Co.z0s, zh0, z87 r, List.length_cons]; omega
theorem zaj (l : List Ent) : Co.nodes (catT l) = 1 + 4 * l.length := by unfold catT; rw [Co.nodes, z87]
theorem zh8 (l : List Ent) : Co.Lev 1 (catT l) := by
 unfold catT
 rw [Co.Lev];refine ⟨by decide, ?_⟩
 induction l with
 | nil => rw [List.map_nil, Co.LevL]; trivial
 | cons e r ih =>
  rw [List.map_cons, Co.LevL];refine ⟨?_, ih⟩
  simp [entT, Co.Lev, Co.LevL]
theorem ok_cat (l : List Ent) : Co.Ok (catT l) := by
 unfold catT
 rw [Co.Ok]
 induction l with
 | nil => rw [List.map_nil, Co.OkL]; trivial
 | cons e r ih =>
  rw [List.map_cons, Co.OkL];refine ⟨?_, ih⟩
  simp [entT, Co.Ok, Co.OkL]
def TxE (m : Nat) (e : Ent) : Prop := e.loc.size <= m /\ e.key.size <= m /\ e.pat.size <= m
theorem zdx (s : BA) : s.data.toList.length = s.size := by simp
theorem tx_cat {l : List Ent} (h : ∀ e, e ∈ l -> TxE 140737488351232 e) : Co.Tx (catT l) := by
 unfold catT
 rw [Co.Tx]
 induction l with
 | nil => rw [List.map_nil, Co.TxL]; trivial
 | cons e r ih =>
  rw [List.map_cons, Co.TxL];refine ⟨?_, ih (fun y hy => h y (by simp [hy]))⟩;obtain ⟨h1, h2, h3⟩ := h e (by simp);simp only [entT, Co.Tx, Co.TxL, zdx];exact ⟨h1, h2, h3, trivial⟩
theorem loc_32 {l : List UInt8} (h : locOK l = true) : l.length <= 32 := by
 unfold locOK at h
 rw [Bool.or_eq_true] at h
 rcases h with h | h
 ·have : l = [] := by simpa using h
  subst this; simp
 ·unfold Lc.locB at h
  simp only [Bool.and_eq_true, decide_eq_true_eq] at h;exact h.1
theorem pat_2000 {l : List UInt8} (h : patB l = true) : l.length <= 2000 := by
 unfold patB at h
 rw [decide_eq_true_eq] at h
 unfold z0q at h
 split at h
 ·cases h
 ·omega
theorem may_tx {e : Ent} (h : mayB e = true) : TxE 2000 e := by
 unfold mayB at h
 simp only [Bool.and_eq_true] at h;obtain ⟨⟨h1, h2⟩, h3⟩ := h;have k1 := loc_32 h1;have k3 := pat_2000 h3
 unfold keyB at h2
 simp only [Bool.and_eq_true, decide_eq_true_eq] at h2;rw [zdx] at k1 k3;have k2 := h2.1.2;rw [zdx] at k2;exact ⟨by omega, by omega, by omega⟩
noncomputable def z0r (l : List Ent) : List UInt8 × Int := if z0n l ≠ 0 then ([], z0n l) else Co.putF (catT l)
theorem zbd {l : List Ent} (h : Rgt l) (hl : (Co.enc (catT l)).length <= 131072) : z0r l = (Co.enc (catT l), 0) := by
 unfold z0r
 rw [z22.2 h, if_neg (by simp), Co.z8v hl]
theorem zfo {l : List Ent} (h : Rgt l) (hl : 131072 < (Co.enc (catT l)).length) : z0r l = ([], 2) := by
 unfold z0r
 rw [z22.2 h, if_neg (by simp), Co.zc2 hl]
theorem zix {l : List Ent} (h : ¬ Rgt l) : z0r l = ([], (z0n l : Int)) := by
 unfold z0r
 rw [if_pos (fun e => h (z22.1 e))]
end Go.Proofs.YtdkkkeoicekdgaaGreatDoor.Ca

end

section

namespace Go.Proofs.YtdkkkeoicekdgaaGreatDoor.Md
open Go.Proofs.YtdkkkeoicekdgaaGreatDoor Go.Proofs.YtdkkkeoicekdgaaGreatDoor.Ca
structure Cli where
 id : Int
 sq : Int
 an : Int
 vr : Int
structure Mdl where
 vr : Int
 es : List Ent
 cs : List Cli
structure Cmd where
 cl : Int
 sq : Int
 ch : List Chg
def cntB (n : Int) : Bool := decide (1 <= n) && decide (n <= 1073741824)
def cliB (v : Int) (c : Cli) : Bool := cntB c.id && cntB c.sq && decide (0 <= c.an) && decide (c.an <= 255) && decide (0 <= c.vr) && decide (c.vr <= v)
def SrtC (l : List Cli) : Prop := l.Pairwise (fun a b => a.id < b.id)
structure RgtC (v : Int) (l : List Cli) : Prop where
 len : l.length <= 16
 ok : ∀ c, c ∈ l -> cliB v c = true
 srt : SrtC l
structure RgtM (m : Mdl) : Prop where
 lo : 0 <= m.vr
 hi : m.vr <= 1073741824
 cs : RgtC m.vr m.cs
 es : (z0r m.es).2 = 0
def mayC (c : Cmd) : Bool := cntB c.cl && cntB c.sq && decide (1 <= c.ch.length) && decide (c.ch.length <= 20)
theorem zer {n : Int} : cntB n = true ↔ 1 <= n /\ n <= 1073741824 := by unfold cntB; simp
theorem z5f {v : Int} {c : Cli} : cliB v c = true ↔ (1 <= c.id /\ c.id <= 1073741824) /\ (1 <= c.sq /\ c.sq <= 1073741824) /\ 0 <= c.an /\ c.an <= 255 /\ 0 <= c.vr /\ c.vr <= v := by
 unfold cliB
 simp only [Bool.and_eq_true, zer, decide_eq_true_eq]
 constructor
 ·rintro ⟨⟨⟨⟨⟨h1, h2⟩, h3⟩, h4⟩, h5⟩, h6⟩; exact ⟨h1, h2, h3, h4, h5, h6⟩
 ·rintro ⟨h1, h2, h3, h4, h5, h6⟩; exact ⟨⟨⟨⟨⟨h1, h2⟩, h3⟩, h4⟩, h5⟩, h6⟩
theorem zdq {c : Cmd} : mayC c = true ↔ (1 <= c.cl /\ c.cl <= 1073741824) /\ (1 <= c.sq /\ c.sq <= 1073741824) /\ 1 <= c.ch.length /\ c.ch.length <= 20 := by
 unfold mayC
 simp only [Bool.and_eq_true, zer, decide_eq_true_eq]
 constructor
 ·rintro ⟨⟨⟨h1, h2⟩, h3⟩, h4⟩; exact ⟨h1, h2, h3, h4⟩
 ·rintro ⟨h1, h2, h3, h4⟩; exact ⟨⟨⟨h1, h2⟩, h3⟩, h4⟩
theorem z7j (l : List Ent) (h : Rgt l) : z0r l = (Co.enc (catT l), 0) ∨ z0r l = ([], 2) := by
 by_cases hl : (Co.enc (catT l)).length <= 131072
 ·exact .inl (zbd h hl)
 ·exact .inr (zfo h (by omega))
theorem z19 {l : List Ent} (h : (z0r l).2 = 0) : Rgt l := by
 by_cases hr : Rgt l
 ·exact hr
 ·rw [zix hr] at h
  have : z0n l ≠ 0 := fun e => hr (z22.1 e)
  simp only at h
  omega
theorem ziw : (z0r []).2 = 0 := by
 have hr : Rgt [] := ⟨by simp, fun e he => (by cases he), List.Pairwise.nil⟩
 rcases z7j [] hr with h | h
 ·rw [h]
 ·have h1 := zbd hr (by simp [catT, Co.enc, Co.encL])
  rw [h1]
def putL (c : Cli) : List Cli -> List Cli
 | [] => [c]
 | x :: r => if x.id < c.id then x :: putL c r else if x.id = c.id then c :: r else c :: x :: r
def z2g (l : List Cli) (id : Int) : Option Cli := l.find? (fun x => decide (x.id = id))
noncomputable def chgF (v : Int) (es : List Ent) (ch : List Chg) : Ans := match z17 es ch with
 | .error k => .error k
 | .ok l => if (z0r l).2 ≠ 0 then .error 2 else if v = 1073741824 then .error 130 else .ok l
noncomputable def exeF (m : Mdl) (c : Cmd) : Mdl × Cli := match chgF m.vr m.es c.ch with
 | .error k => (⟨m.vr, m.es, putL ⟨c.cl, c.sq, k, m.vr⟩ m.cs⟩, ⟨c.cl, c.sq, k, m.vr⟩)
 | .ok l => (⟨m.vr + 1, l, putL ⟨c.cl, c.sq, 0, m.vr + 1⟩ m.cs⟩, ⟨c.cl, c.sq, 0, m.vr + 1⟩)
noncomputable def doF (m : Mdl) (c : Cmd) : Mdl × Cli := match z2g m.cs c.cl with
 | some x => if x.sq = c.sq then (m, x) else if c.sq < x.sq then (m, ⟨c.cl, c.sq, 121, 0⟩) else exeF m c
 | none => if m.cs.length = 16 then (m, ⟨c.cl, c.sq, 130, 0⟩) else exeF m c
noncomputable def foldM : Mdl -> List Cmd -> Option Mdl
 | m, [] => some m
 | m, c :: r => if mayC c then foldM (doF m c).1 r else none
abbrev zeroM : Mdl := ⟨0, [], []⟩
theorem z7z : RgtM zeroM := ⟨Int.le_refl _, by decide, ⟨by simp, fun c h => (by cases h), List.Pairwise.nil⟩, ziw⟩
theorem z59 {c : Cli} : ∀ {l : List Cli} {e : Cli}, e ∈ putL c l -> e = c ∨ e ∈ l
 | [], e, h => by rw [putL] at h; exact .inl (by simpa using h)
 | x :: r, e, h => by
  rw [putL] at h
  split at h
  ·rcases List.mem_cons.1 h with rfl | h
   ·exact .inr (by simp)
   ·rcases z59 h with h | h
    ·exact .inl h
    ·exact .inr (by simp [h])
  ·split at h
   ·rcases List.mem_cons.1 h with rfl | h
    ·exact .inl rfl
    ·exact .inr (by simp [h])
   ·rcases List.mem_cons.1 h with rfl | h
    ·exact .inl rfl
    ·exact .inr h
theorem zdd {c : Cli} : ∀ {l : List Cli}, SrtC l -> SrtC (putL c l)
 | [], _ => by rw [putL]; exact List.pairwise_singleton _ _
 | x :: r, h => by
  unfold SrtC at h
  rw [List.pairwise_cons] at h;rw [putL]
  split
  ·rename_i hx
   refine List.pairwise_cons.2 ⟨fun e he => ?_, zdd h.2⟩
   rcases z59 he with rfl | he
   ·exact hx
   ·exact h.1 e he
  ·split
   ·rename_i hx
    exact List.pairwise_cons.2 ⟨fun e he => by rw [<- hx]; exact h.1 e he, h.2⟩
   ·refine List.pairwise_cons.2 ⟨fun e he => ?_, List.pairwise_cons.2 h⟩
    rcases List.mem_cons.1 he with rfl | he
    ·omega
    ·have := h.1 e he; omega
theorem z2x {l : List Cli} {id : Int} : z2g l id = none ↔ ∀ x, x ∈ l -> x.id ≠ id := by
 unfold z2g
 rw [List.find?_eq_none];exact ⟨fun h x hx e => h x hx (by simpa using e), fun h x hx e => h x hx (by simpa using e)⟩
theorem zb2 {l : List Cli} {id : Int} {x : Cli} (h : z2g l id = some x) : x ∈ l /\ x.id = id :=
 ⟨List.mem_of_find?_eq_some h, by simpa using List.find?_some h⟩
theorem zdc {c : Cli} : ∀ {l : List Cli}, (∀ x, x ∈ l -> x.id ≠ c.id) -> (putL c l).length = l.length + 1
 | [], _ => rfl
 | x :: r, h => by
  rw [putL]
  split
  ·rw [List.length_cons, zdc (fun y hy => h y (by simp [hy])), List.length_cons]
  ·rw [if_neg (h x (by simp))]; rfl
theorem zdb {c : Cli} : ∀ {l : List Cli} {x : Cli}, SrtC l -> x ∈ l -> x.id = c.id -> (putL c l).length = l.length
 | y :: r, x, h, hx, he => by
  unfold SrtC at h
  rw [List.pairwise_cons] at h;rw [putL]
  split
  ·rename_i hy
   rcases List.mem_cons.1 hx with rfl | hx
   ·omega
   ·rw [List.length_cons, zdb h.2 hx he, List.length_cons]
  ·split
   ·rfl
   ·rename_i h1 h2
    rcases List.mem_cons.1 hx with rfl | hx
    ·exact absurd he h2
    ·have := h.1 x hx; omega
theorem z8i {l l' : List Ent} {cs : List Chg} (h : Rgt l) (ho : z17 l cs = .ok l') : Rgt l' := by
 unfold z17 at ho
 rw [z22.2 h, if_neg (by simp)] at ho
 split at ho
 ·cases ho
 ·exact z8b h ho
theorem one_err2 {l : List Ent} {c : Chg} {k : Nat} (h : oneC l c = .error k) : k = 110 ∨ k = 60 ∨ k = 2 := by
 unfold oneC at h
 split at h
 ·split at h
  ·cases h; exact .inl rfl
  ·split at h
   ·cases h; exact .inr (.inl rfl)
   ·cases h
 ·split at h
  ·cases h; exact .inl rfl
  ·split at h
   ·cases h; exact .inr (.inr rfl)
   ·cases h
theorem zay {k : Nat} : ∀ {cs : List Chg} {l : List Ent}, foldC l cs = .error k -> k = 110 ∨ k = 60 ∨ k = 2
 | [], l, h => by rw [foldC] at h; cases h
 | c :: r, l, h => by
  rw [foldC] at h
  cases h1 : oneC l c with
  | ok m => rw [h1] at h; exact zay h
  | error j => rw [h1] at h; cases h; exact one_err2 h1
theorem z5u {l : List Ent} {cs : List Chg} {k : Nat} (h : Rgt l) (ho : z17 l cs = .error k) : 1 <= k /\ k <= 130 := by
 unfold z17 at ho
 rw [z22.2 h, if_neg (by simp)] at ho
 split at ho
 ·cases ho; exact ⟨by decide, by decide⟩
 ·rcases zay ho with rfl | rfl | rfl <;> exact ⟨by decide, by decide⟩
theorem chg_err {v : Int} {l : List Ent} {cs : List Chg} {k : Nat} (h : Rgt l) (ho : chgF v l cs = .error k) : 1 <= k /\ k <= 130 := by
 unfold chgF at ho
 split at ho
 ·rename_i j hj
  cases ho
  exact z5u h hj
 ·split at ho
  ·cases ho; exact ⟨by decide, by decide⟩
  ·split at ho
   ·cases ho; exact ⟨by decide, by decide⟩
   ·cases ho
theorem chg_ok {v : Int} {l l' : List Ent} {cs : List Chg} (ho : chgF v l cs = .ok l') : (z0r l').2 = 0 /\ v ≠ 1073741824 := by
 unfold chgF at ho
 split at ho
 ·cases ho
 ·split at ho
  ·cases ho
  ·split at ho
   ·cases ho
   ·rename_i h1 h2
    cases ho
    exact ⟨by simpa using h1, h2⟩
theorem zgb {v v' : Int} {l : List Cli} (h : RgtC v l) (hv : v <= v') : RgtC v' l := ⟨h.len, fun c hc => by
 have := z5f.1 (h.ok c hc)
 exact z5f.2 ⟨this.1, this.2.1, this.2.2.1, this.2.2.2.1, this.2.2.2.2.1, by omega⟩, h.srt⟩
theorem zd8 {v : Int} {l : List Cli} {c : Cli} (h : RgtC v l) (hc : cliB v c = true) (hl : (∃ x, x ∈ l /\ x.id = c.id) ∨ l.length ≠ 16 /\ ∀ x, x ∈ l -> x.id ≠ c.id) : RgtC v (putL c l) := by
 refine ⟨?_, fun x hx => ?_, zdd h.srt⟩
 ·have := h.len
  rcases hl with ⟨x, hx, he⟩ | ⟨h16, hn⟩
  ·rw [zdb h.srt hx he]; exact h.len
  ·rw [zdc hn]; omega
 ·rcases z59 hx with rfl | hx
  ·exact hc
  ·exact h.ok x hx
theorem zb4 {m : Mdl} {c : Cmd} (h : RgtM m) (hc : mayC c = true) (hl : (∃ x, x ∈ m.cs /\ x.id = c.cl) ∨ m.cs.length ≠ 16 /\ ∀ x, x ∈ m.cs -> x.id ≠ c.cl) : RgtM (exeF m c).1 := by
 obtain ⟨h1, h2, -, -⟩ := zdq.1 hc;have a := h.lo;have b := h.hi
 unfold exeF
 split
 ·rename_i k hk
  have := chg_err (z19 h.es) hk;exact ⟨h.lo, h.hi, zd8 h.cs (z5f.2 ⟨h1, h2, by simp only; omega, by simp only; omega, h.lo, Int.le_refl _⟩) hl, h.es⟩
 ·rename_i l hk
  have := chg_ok hk;exact ⟨by simp only; omega, by simp only; omega, zd8 (v := m.vr + 1) (zgb h.cs (by omega)) (z5f.2 ⟨h1, h2, Int.le_refl _, by simp only; omega, by simp only; omega, Int.le_refl _⟩) hl, this.1⟩
theorem zei {m : Mdl} {c : Cmd} (h : RgtM m) (hc : mayC c = true) : RgtM (doF m c).1 := by
 unfold doF
 split
 ·rename_i x hx
  obtain ⟨a, b⟩ := zb2 hx
  split
  ·exact h
  ·split
   ·exact h
   ·exact zb4 h hc (.inl ⟨x, a, b⟩)
 ·rename_i hx
  split
  ·exact h
  ·rename_i h16
   exact zb4 h hc (.inr ⟨h16, z2x.1 hx⟩)
end Go.Proofs.YtdkkkeoicekdgaaGreatDoor.Md

end

section

namespace Go.Proofs.YtdkkkeoicekdgaaGreatDoor.Md
set_option maxHeartbeats 1600000
set_option maxRecDepth 100000
open Go.Lib (hid)
open Go.RowKit Go.Proofs.YtdkkkeoicekdgaaGreatDoor Go.Proofs.YtdkkkeoicekdgaaGreatDoor.Ca
def CLc (x : Cli) (cs : List Value) : Prop := cs = [.int .i64 x.id, .int .i64 x.sq, .int .i64 x.an, .int .i64 x.vr]
abbrev clV (x : Cli) : Value := .agg #[.int .i64 x.id, .int .i64 x.sq, .int .i64 x.an, .int .i64 x.vr]
abbrev clC (x : Cli) : Array Value := #[.int .i64 x.id, .int .i64 x.sq, .int .i64 x.an, .int .i64 x.vr]
abbrev SlL (w : World) (S : Nat -> Prop) (v : Value) (xs : List Cli) : Prop := Sl 4 CLc w S v xs
theorem SlL.old {w w' : World} {v : Value} {xs : List Cli} (h : SlL w (Old w) v xs) (hb : Below w.heap.size w w') : SlL w' (Old w') v xs := Sl.keep h (fun b hb2 => hb.block b hb2) (fun _ h => Nat.lt_of_lt_of_le h hb.size) (fun _ _ h => h)
theorem atL {w : World} {b o : Nat} {x : Cli} (h : At 4 CLc w b o x) : w.cell? ⟨b, o, none⟩ = some (.int .i64 x.id) /\ w.cell? ⟨b, o + 1, none⟩ = some (.int .i64 x.sq) /\ w.cell? ⟨b, o + 2, none⟩ = some (.int .i64 x.an) /\ w.cell? ⟨b, o + 3, none⟩ = some (.int .i64 x.vr) := by
 obtain ⟨cs, -, rfl, hc⟩ := h;exact ⟨hc 0 _ rfl, hc 1 _ rfl, hc 2 _ rfl, hc 3 _ rfl⟩
theorem SlL.len {w : World} {S : Nat -> Prop} {a : Option Addr} {n cap : Nat} {xs : List Cli} (h : SlL w S (.slice a n cap) xs) : n = xs.length /\ xs.length <= cap /\ cap <= 9223372036854775807 := by
 obtain ⟨a', b, hv, h1, h2, -⟩ := h
 injection hv with _ h3 h4
 exact ⟨h3, by omega, by omega⟩
theorem SlL.get {w : World} {S : Nat -> Prop} {a : Option Addr} {n cap : Nat} {xs : List Cli} (h : SlL w S (.slice a n cap) xs) {j : Nat} {x : Cli} (hx : xs[j]? = some x) :
  ∃ b off, a = some ⟨b, off, none⟩ /\ S b /\ w.cell? ⟨b, off + j * 4, none⟩ = some (.int .i64 x.id) /\ w.cell? ⟨b, off + j * 4 + 1, none⟩ = some (.int .i64 x.sq) /\ w.cell? ⟨b, off + j * 4 + 2, none⟩ = some (.int .i64 x.an) /\ w.cell? ⟨b, off + j * 4 + 3, none⟩ = some (.int .i64 x.vr) := by
 obtain ⟨a', d, hv, h1, h2, h3⟩ := h
 injection hv with h4 _ _
 subst h4;obtain ⟨b, off, ha, hb, c⟩ := h3 (fun e => by subst e; simp at hx);exact ⟨b, off, ha, hb, atL (c j x hx)⟩
theorem SlL.take {w : World} {S : Nat -> Prop} {a : Option Addr} {n cap : Nat} {xs : List Cli} (h : SlL w S (.slice a n cap) xs) (k : Nat) (hk : k <= xs.length) : SlL w S (.slice a k cap) (xs.take k) := by
 obtain ⟨a', g, hv, h1, h2, h3⟩ := h
 injection hv with h4 _ h5
 subst h4 h5;refine ⟨a, cap, by rw [List.length_take, Nat.min_eq_left hk], by rw [List.length_take]; omega, h2, fun hne => ?_⟩;obtain ⟨b, c, ha, hb, d⟩ := h3 (fun e => by subst e; simp at hne);refine ⟨b, c, ha, hb, fun j x hj => d j x ?_⟩;have f := (List.getElem?_eq_some_iff.1 hj).1;rw [List.length_take] at f;rw [List.getElem?_take, if_pos (by omega)] at hj;exact hj
theorem SlL.drop {w : World} {S : Nat -> Prop} {ad : Addr} {n cap : Nat} {xs : List Cli} (h : SlL w S (.slice (some ad) n cap) xs) (k : Nat) (hk : k <= xs.length) : SlL w S (.slice (some (ad.add (k * 4))) (xs.length - k) (cap - k)) (xs.drop k) := by
 obtain ⟨a', d, hv, h1, h2, h3⟩ := h
 injection hv with h4 _ h5
 subst h4 h5;refine ⟨some (ad.add (k * 4)), cap - k, by rw [List.length_drop], by rw [List.length_drop]; omega, by omega, fun hne => ?_⟩;obtain ⟨b, a, ha, hb, c⟩ := h3 (fun e => by subst e; simp at hne);obtain rfl := Option.some.inj ha;refine ⟨b, a + k * 4, by rw [Addr.add_mid], hb, fun j x hj => ?_⟩;have := c (k + j) x (by rw [List.getElem?_drop] at hj; exact hj);rw [show a + k * 4 + j * 4 = a + (k + j) * 4 by omega];exact this
def flatL : List Cli -> List Value
 | [] => []
 | x :: r => .int .i64 x.id :: .int .i64 x.sq :: .int .i64 x.an :: .int .i64 x.vr :: flatL r
theorem z33 : ∀ xs : List Cli, (flatL xs).length = xs.length * 4
 | [] => rfl
 | x :: r => by simp only [flatL, List.length_cons, z33 r]; omega
theorem z34 : ∀ xs ys : List Cli, flatL (xs ++ ys) = flatL xs ++ flatL ys
 | [], _ => rfl
 | x :: r, ys => by simp only [List.cons_append, flatL, z34 r ys]
theorem zaz : ∀ {xs : List Cli} {j : Nat} {x : Cli}, xs[j]? = some x -> (flatL xs)[j * 4]? = some (.int .i64 x.id) /\ (flatL xs)[j * 4 + 1]? = some (.int .i64 x.sq) /\ (flatL xs)[j * 4 + 2]? = some (.int .i64 x.an) /\ (flatL xs)[j * 4 + 3]? = some (.int .i64 x.vr)
 | y :: r, 0, x, h => by
  obtain rfl := Option.some.inj h;exact ⟨rfl, rfl, rfl, rfl⟩
 | y :: r, j + 1, x, h => by
  have := zaz (xs := r) (j := j) (x := x) (by simpa using h);rw [show (j + 1) * 4 = j * 4 + 4 by omega]
  simpa [flatL] using this
theorem z7c : ∀ {xs : List Cli}, ∀ u ∈ flatL xs, u.oneCell' = true
 | x :: r, u, h => by
  simp only [flatL, List.mem_cons] at h
  rcases h with rfl | rfl | rfl | rfl | h
  ·rfl
  ·rfl
  ·rfl
  ·rfl
  ·exact z7c u h
theorem zfj {xs : List Cli} {i : Nat} {u : Value} (h : (flatL xs)[i]? = some u) : ∃ j x, xs[j]? = some x /\ (i = j * 4 /\ u = .int .i64 x.id ∨ i = j * 4 + 1 /\ u = .int .i64 x.sq ∨ i = j * 4 + 2 /\ u = .int .i64 x.an ∨ i = j * 4 + 3 /\ u = .int .i64 x.vr) := by
 have a : i < (flatL xs).length := (List.getElem?_eq_some_iff.1 h).1;rw [z33] at a;have hj : xs[i / 4]? = some (xs[i / 4]'(by omega)) := List.getElem?_eq_getElem (by omega);obtain ⟨h0, h1, h2, h4⟩ := zaz hj;refine ⟨i / 4, _, hj, ?_⟩
 have h3 : i = i / 4 * 4 ∨ i = i / 4 * 4 + 1 ∨ i = i / 4 * 4 + 2 ∨ i = i / 4 * 4 + 3 := by omega
 rcases h3 with e | e | e | e
 ·rw [<- e, h] at h0; exact .inl ⟨e, Option.some.inj h0⟩
 ·rw [<- e, h] at h1; exact .inr (.inl ⟨e, Option.some.inj h1⟩)
 ·rw [<- e, h] at h2; exact .inr (.inr (.inl ⟨e, Option.some.inj h2⟩))
 ·rw [<- e, h] at h4; exact .inr (.inr (.inr ⟨e, Option.some.inj h4⟩))
theorem zb0 : ∀ xs : List Cli, Cat 4 CLc xs (flatL xs)
 | [] => rfl
 | x :: r => ⟨[.int .i64 x.id, .int .i64 x.sq, .int .i64 x.an, .int .i64 x.vr], flatL r, rfl, rfl, rfl, zb0 r⟩
theorem SlL.cells {w : World} {S : Nat -> Prop} {a : Addr} {n cap : Nat} {xs : List Cli} (h : SlL w S (.slice (some a) n cap) xs) : ∀ i u, (flatL xs)[i]? = some u -> w.cell? (a.add i) = some u := fun i u hu => by
 obtain ⟨j, x, hx, hj⟩ := zfj hu;obtain ⟨b, c, ha, -, h0, h1, h2, h3⟩ := h.get hx;obtain rfl := Option.some.inj ha;rw [Addr.add_mid]
 rcases hj with ⟨rfl, rfl⟩ | ⟨rfl, rfl⟩ | ⟨rfl, rfl⟩ | ⟨rfl, rfl⟩
 ·exact h0
 ·exact h1
 ·exact h2
 ·exact h3
abbrev OwnL (w : World) (base : Nat) (v : Value) (xs : List Cli) : Prop := w.ownsRow base 32 4 v xs.length (flatL xs)
theorem OwnL.sl {w : World} {base : Nat} {v : Value} {xs : List Cli} (h : OwnL w base v xs) : SlL w (Old w) v xs := Sl.of_owns h (zb0 xs) (fun _ _ _ hh => (Array.getElem?_eq_some_iff.1 hh).1)
theorem infoL : (Tryz.prog.info? 32).map (fun i => (i.zero, i.size, i.bytes)) = some (some (.agg #[.int .i64 0, .int .i64 0, .int .i64 0, .int .i64 0]), 4, 32) := by kernel_rfl
theorem z3a (w : World) (ty : TypeId) (base : Nat) (v : Value) (xs : List Cli) (hown : OwnL w base v xs) (a : Option Addr) (c : Nat) (ys : List Cli) (hin : SlL w (Old w) (.slice a ys.length c) ys) (h63 : xs.length + ys.length <= 1000000) (hbase : base <= w.heap.size) :
  ∃ v' w', (Builtin.append_ #[23, 23] ty #[v, .slice a ys.length c]).run Tryz.prog w = .ok v' w' /\ OwnL w' base v' (xs ++ ys) /\ w.grownBy w' v.ownBlock /\ (v'.ownBlock = v.ownBlock ∨ v'.ownBlock = some w.heap.size) := by
 obtain ⟨i0, hi, d, f, h⟩ := info_parts infoL
 cases a with
 | none =>
  have hy : ys = [] := by
   cases ys with
   | nil => rfl
   | cons y r => obtain ⟨b, i, ha, -⟩ := hin.get (j := 0) rfl; cases ha
  subst hy;refine ⟨v, w, ?_, by simpa [OwnL] using hown, World.grownBy.refl w _, .inl rfl⟩
  rcases hown.2 with ⟨rfl, h0⟩ | ⟨g, cap, cur, rfl, _, _, hnc, _⟩
  ·simp [Builtin.append_, run_underlying Tryz.underlying23, sizeOf, typeInfo, hi, Builtin.lenOf, Builtin.firstCells]
  ·simp [Builtin.append_, run_underlying Tryz.underlying23, sizeOf, typeInfo, hi, Builtin.lenOf, Builtin.firstCells, hnc, storeCells]
 | some ad =>
  obtain ⟨v', w', hr, h2, h3, -, h5⟩ := run_append_own_at (P := Tryz.prog) w base 23 ty 32 i0 _ 4 32 Tryz.underlying23 hi d f h rfl (by decide) v xs.length (flatL xs) hown ad ys.length c (flatL ys) (z33 ys) hin.cells z7c (by unfold maxLen; omega) (by omega) hbase;exact ⟨v', w', hr, by unfold OwnL; rw [z34, List.length_append]; exact h2, h3, h5⟩
def z9q (xs : List Cli) (w : World) (e : Ending) (w' : World) : Prop := ∃ v, e = .returned v /\ OwnL w' w.heap.size v xs /\ Below w.heap.size w w'
theorem z8g (w : World) (a : Option Addr) (cap : Nat) (xs : List Cli) (hX : SlL w (Old w) (.slice a xs.length cap) xs) (hl : xs.length <= 1000) :
  Calls Tryz.prog 80 #[.slice a xs.length cap] w (z9q xs w) := by
 have g : ∀ (w : World) (a : Option Addr) (n c n' c' : Nat), (binOp .eql 23 (.slice a n c) (.slice none n' c')).run Tryz.prog w = .ok (.bool a.isNone) w := fun w a n c n' c' => Lib.run_eql_slice_nil w _ _ a n c n' c' Tryz.underlying23
 cases a with
 | none =>
  have hy : xs = [] := by
   cases xs with
   | nil => rfl
   | cons y r => obtain ⟨b, h, ha, -⟩ := hX.get (j := 0) rfl; cases ha
  subst hy;clear hX
  go_enter Tryz.func80, Tryz.ntmps80
  go_wp2;go_ret;exact ⟨_, rfl, World.ownsRow_nil _ _ _ _, Below.refl _ _⟩
 | some ad =>
  obtain ⟨v', w', hr, f, d, -⟩ := z3a (w.alloc (.cells #[] 32)) 23 w.heap.size (.slice (some ⟨w.heap.size, 0, none⟩) 0 0) [] (World.ownsRow_made w #[] 0 (Nat.le_refl _) (Nat.zero_le _) (by simp)) (some ad) cap xs (hX.old (z04 _ _)) (by simp; omega) (by simp);have HO : Hid (OwnL w' w.heap.size v' xs) := hid (by simpa using f);have HB : Hid (Below w.heap.size w w') := hid ((z04 w _).grown d (by simp) (by intro k hk; simp [Value.ownBlock] at hk; omega));have HR := hid hr;clear hr f d hX
  go_enter Tryz.func80, Tryz.ntmps80
  go_wp2_with (at_builtin; refine Lib.wpList_append_run _ rfl _ _ _ _ rfl _ _ rfl rfl _ _ HR.out ?_)
  go_ret;exact ⟨v', rfl, HO.out, HB.out⟩
theorem z3s (z : Array Value) (n : Nat) : (Builtin.zeroCells z n).size = n * z.size := by simp [Builtin.zeroCells]
theorem zhl (w : World) (n : Nat) (h0 : 0 < n) (hn : n <= 1000000) : Calls Tryz.prog 163 #[.slice none 0 0, .int .i64 n] w (z9q [] w) := by
 obtain ⟨i0, hi, c, d, a⟩ := info_parts infoL;have hG : n <= grownCap w n 0 32 := grownCap_ge w _ _ _;have b : grownCap w n 0 32 <= maxLen := grownCap_le_maxLen w n 0 32 (by unfold maxLen; omega)
 obtain ⟨w', HR, HO, HB⟩ : ∃ w', Hid ((Builtin.append_ #[23, 3] 23 #[.slice none 0 0, .int .i64 n]).run Tryz.prog w = .ok (.slice (some ⟨w.heap.size, 0, none⟩) n (grownCap w n 0 32)) w') /\ Hid (OwnL w' w.heap.size (.slice (some ⟨w.heap.size, 0, none⟩) 0 (grownCap w n 0 32)) []) /\ Hid (Below w.heap.size w w') := by
  have h := Lib.run_append_grow_zeros (P := Tryz.prog) w 23 3 23 32 i0 _ .i64 .i64 Tryz.underlying23 Tryz.underlying3 hi c none 0 0 [] (run_firstCells_none w.drew i0.size 0 0 0) n h0 (by omega) (by omega) (by omega) (by rw [a]; omega) (growslice_fits (by omega) (by rw [a]; omega));simp only [Nat.zero_add] at h;refine ⟨_, hid h, hid ?_, hid ((Below.refl _ w).drew.alloc (Nat.le_refl _) _)⟩;refine World.ownsRow_made w.drew _ _ (Nat.le_refl _) b ?_;rw [Array.size_append, Array.size_append, z3s, z3s]
  show 0 + n * 4 + (grownCap w n 0 32 - n) * 4 = grownCap w n 0 32 * 4
  omega
 unfold maxLen at b
 generalize grownCap w n 0 32 = G at *
 go_enter Tryz.func163, Tryz.ntmps163
 go_wp2_with (at_builtin; refine Lib.wpList_append_run _ rfl _ _ _ _ rfl _ _ rfl rfl _ _ HR.out ?_)
 go_ret;exact ⟨_, rfl, HO.out, HB.out⟩
def z65 (w : World) (B : Nat) (ls : List (List Cli)) : Prop := B < w.heap.size /\ ∀ (k : Nat) (l : List Cli), ls[k]? = some l -> ∃ a c, w.cell? ⟨B, k, none⟩ = some (.slice a l.length c) /\ SlL w (Old w) (.slice a l.length c) l
theorem z65.below {w w' : World} {B : Nat} {ls : List (List Cli)} (h : z65 w B ls) (hb : Below w.heap.size w w') : z65 w' B ls :=
 ⟨Nat.lt_of_lt_of_le h.1 hb.size, fun k l hl => by
  obtain ⟨a, c, h1, h2⟩ := h.2 k l hl
  exact ⟨a, c, (hb.cell (p := ⟨B, k, none⟩) h.1).trans h1, h2.old hb⟩⟩
theorem z5l {ls : List (List Cli)} {k : Nat} {l : List Cli} (h : ls[k]? = some l) : (ls.take (k + 1)).flatten = (ls.take k).flatten ++ l := by
 obtain ⟨a, rfl⟩ := List.getElem?_eq_some_iff.1 h
 rw [List.take_succ_eq_append_getElem a, List.flatten_append]; simp
theorem z54 (ls : List (List Cli)) (k : Nat) : (ls.take k).flatten.length <= ls.flatten.length := by
 have : ls.flatten = (ls.take k).flatten ++ (ls.drop k).flatten := by rw [<- List.flatten_append, List.take_append_drop]
 rw [this, List.length_append]; omega
theorem z3n (w : World) (B c : Nat) (ls : List (List Cli)) (h : z65 w B ls) (hl : ls.length <= 1000) (h0 : 0 < ls.flatten.length) (hn : ls.flatten.length <= 1000000) :
  Calls Tryz.prog 129 #[.slice (some ⟨B, 0, none⟩) ls.length c] w (z9q ls.flatten w) := by
 have HL := hid h;have hB := h.1;clear h
 go_enter Tryz.func129, Tryz.ntmps129
 go_wp2
 go_loop [3, 11] (fun s i => ∃ k : Nat, k <= ls.length /\ i = .int .i64 k /\ s = .int .i64 ((ls.take k).flatten.length : Nat)) (fun _ i => ls.length - (intOf i).toNat)
 case atStart => exact ⟨0, by omega, rfl, rfl⟩
 case round =>
  obtain ⟨k, hk, rfl, rfl⟩ := hrel
  by_cases hlt : k < ls.length
  ·obtain ⟨l, b⟩ : ∃ l, ls[k]? = some l := ⟨_, List.getElem?_eq_getElem hlt⟩
   obtain ⟨a, c1, hc, -⟩ := HL.out.2 k l b;have HT : Hid ((ls.take (k + 1)).flatten.length = (ls.take k).flatten.length + l.length) := hid (by rw [z5l b, List.length_append]);have o := z54 ls (k + 1);rw [HT.out] at o;clear b
   generalize (ls.take k).flatten.length = m at *
   go_wp2
   go_round
   case rel => exact ⟨k + 1, by omega, by go_num, by rw [HT.out]; go_num⟩
   case measure => simp [intOf]; omega
  ·have HK : Hid ((ls.take k).flatten = ls.flatten) := hid (by rw [List.take_of_length_le (by omega)])
   have e1 : (ls.take k).flatten.length = ls.flatten.length := by rw [HK.out]
   rw [e1];clear e1;have q : ∃ n, Hid (n = ls.flatten.length) /\ 0 < n /\ n <= 1000000 := ⟨_, hid rfl, h0, hn⟩;obtain ⟨n, HN, u, x⟩ := q;rw [<- HN.out]
   go_wp2_with fail
   refine (zhl w n u x).mono ?_;rintro e w1 ⟨v, rfl, d, r⟩;have HO := hid d;have HB := hid r;clear d r;go_wp2
   go_loopw [6, 27] (fun s i wr => ∃ k : Nat, k <= ls.length /\ i = .int .i64 k /\ Hid (OwnL wr w.heap.size s (ls.take k).flatten) /\ Hid (Below w.heap.size w wr)) (fun _ i _ => ls.length - (intOf i).toNat)
   case atStart => exact ⟨0, by omega, rfl, hid (by simpa using HO.out), HB⟩
   case round =>
    obtain ⟨k, hk, rfl, p, f⟩ := hrel
    by_cases hlt : k < ls.length
    ·obtain ⟨l, b⟩ : ∃ l, ls[k]? = some l := ⟨_, List.getElem?_eq_getElem hlt⟩
     obtain ⟨a, c1, hc, t⟩ := (HL.out.below f.out).2 k l b;have o := z54 ls (k + 1);rw [z5l b, List.length_append] at o;obtain ⟨v', w', hr, d, j, -⟩ := z3a wr 23 w.heap.size u6 (ls.take k).flatten p.out a c1 l t (by omega) f.out.size;have y : Hid (OwnL w' w.heap.size v' (ls.take (k + 1)).flatten) := hid (by rw [z5l b]; exact d);have z : Hid (Below w.heap.size w w') := hid (f.out.grown j (f.out.size) (by intro g hg; exact (p.out.lt g hg).1));have HR := hid hr;clear hr d j t b o;obtain ⟨a0, D, A, -⟩ := z0i p.out;subst A
     go_wp2_with (at_builtin; refine Lib.wpList_append_run _ rfl _ _ _ _ rfl _ _ rfl rfl _ _ HR.out ?_)
     go_roundw
     case rel => exact ⟨k + 1, by omega, by go_num, y, z⟩
     case measure => simp [intOf]; omega
    ·have C : Hid (OwnL wr w.heap.size u6 ls.flatten) := hid (by have := p.out; rwa [List.take_of_length_le (by omega)] at this)
     go_wp2;go_ret;exact ⟨u6, rfl, C.out, f.out⟩
end Go.Proofs.YtdkkkeoicekdgaaGreatDoor.Md

end

section

namespace Go.Proofs.YtdkkkeoicekdgaaGreatDoor.Ca
open Go.RowKit Go.Proofs.YtdkkkeoicekdgaaGreatDoor
theorem one_err {l : List Ent} {c : Chg} {k : Nat} (h : oneC l c = .error k) : k ≠ 0 := by
 intro h0; subst h0
 unfold oneC at h
 split at h
 ·split at h
  ·cases h
  ·split at h <;> cases h
 ·split at h
  ·cases h
  ·split at h <;> cases h
theorem ne0 {k : Nat} (h : k ≠ 0) : ((k : Int) != 0) = true := by rw [bne_iff_ne]; omega

abbrev lsC (L : Value) : Array Value := #[.int .i64 3, .int .i64 0, .string ⟨#[]⟩, L]
abbrev txV (s : BA) : Value := .agg #[.int .i64 2, .int .i64 0, .string s, .slice none 0 0]
structure BI (b B : Nat) (w wr : World) (L : Value) (ts : List Co.Tree) (vs : List Value) : Prop where
 blk : wr.heap[b]? = some (.cells (lsC L) 88 (0, 0))
 own : wr.ownsRow B 88 4 L ts.length vs
 rep : Co.z0h wr (fun g => g < wr.heap.size /\ b < g /\ some g ≠ L.ownBlock) ts vs
 below : Below w.heap.size w wr
 hb : w.heap.size <= b
 hB : b < B
theorem BI.call {b B : Nat} {w wr w2 : World} {L : Value} {ts : List Co.Tree} {vs : List Value} (h : BI b B w wr L ts vs) (hb : Below wr.heap.size wr w2) : BI b B w w2 L ts vs :=
 ⟨(hb.block _ (Co.z03 h.blk)).trans h.blk, Co.z0a h.own (fun g hg => hb.block g (h.own.lt g hg).2),
  Co.z0h.keep (fun g hg => hb.block g hg.1) (fun _ hg => ⟨Nat.lt_of_lt_of_le hg.1 hb.size, hg.2⟩) _ _ h.rep, h.below.trans (hb.mono h.below.size), h.hb, h.hB⟩
theorem BI.step {b B g c : Nat} {w wr w2 w3 : World} {L : Value} {ts : List Co.Tree} {vs : List Value} {t : Co.Tree} {c0 c1 c2 c3 : Value} {o : Obj} (h : BI b B w wr L ts vs) {m : Nat} (hm : ts.length = m) (hb2 : Below wr.heap.size wr w2)
  (hr : Co.Rep w2 (fun g => wr.heap.size <= g /\ g < w2.heap.size) t (.agg #[c0, c1, c2, c3]))
  (hown : w3.ownsRow B 88 4 (.slice (some ⟨g, 0, none⟩) (m + 1) c) (m + 1) (vs ++ [c0, c1, c2, c3])) (hg : (w2.alloc o).grownBy w3 L.ownBlock) {n : Nat} (hN : w2.heap.size = n) (hl : L.ownBlock = some g ∨ g = n + 1) :
  BI b B w (w3.setCell ⟨b, 3, none⟩ (.slice (some ⟨g, 0, none⟩) (m + 1) c)) (.slice (some ⟨g, 0, none⟩) (m + 1) c) (ts ++ [t]) (vs ++ [c0, c1, c2, c3]) := by
 subst hm;subst hN;have h2 := h.call hb2;have l := Co.z03 h2.blk;have p := Co.z03 h.blk;have hB := h.hB;have q := h.below.size;have r := h.hb
 have f : ∀ k, L.ownBlock = some k -> B <= k /\ k < wr.heap.size := fun k hk => h.own.lt k hk
 have s : B <= g := (hown.lt g rfl).1
 have u : w2.heap.size + 1 <= w3.heap.size := by have := hg.size; rw [World.size_alloc] at this; exact this
 have i : ∀ k, k < w2.heap.size -> some k ≠ L.ownBlock -> w3.heap[k]? = w2.heap[k]? := fun k hk hn => (hg.block k (by rw [World.size_alloc]; omega) hn).trans (Below.heap_alloc _ _ _ hk)
 have a : ∀ k, k ≠ b -> (w3.setCell ⟨b, 3, none⟩ (.slice (some ⟨g, 0, none⟩) (ts.length + 1) c)).heap[k]? = w3.heap[k]? := fun k hk => Below.heap_setCell _ _ _ _ hk
 have j : w3.heap[b]? = some (.cells (lsC L) 88 (0, 0)) := (i b l (fun e => by have := f b e.symm; omega)).trans h2.blk
 have d : (w3.setCell ⟨b, 3, none⟩ (.slice (some ⟨g, 0, none⟩) (ts.length + 1) c)).heap.size = w3.heap.size := by simp [World.setCell]
 refine ⟨Co.z25 j 3 _, ?_, ?_, ?_, h.hb, h.hB⟩
 ·rw [List.length_append]
  exact Co.z0a hown (fun g' hg' => by
   obtain rfl : g = g' := Option.some.inj hg'
   exact a g (by omega))
 ·refine Co.z0h.snoc ?_ ts vs ?_
  ·refine Co.Rep.keep (fun k hk => ?_) (fun k hk => ?_) t _ hr
   ·exact (a k (by omega)).trans (i k hk.2 (fun e => by have := f k e.symm; omega))
   ·refine ⟨by rw [d]; omega, by omega, fun e => ?_⟩
    obtain rfl : k = g := Option.some.inj e
    rcases hl with hl | hl
    ·have := f k hl; omega
    ·omega
  ·refine Co.z0h.keep (fun k hk => ?_) (fun k hk => ?_) ts vs h2.rep
   ·exact (a k (by have := hk.2.1; omega)).trans (i k hk.1 hk.2.2)
   ·refine ⟨by rw [d]; omega, hk.2.1, fun e => ?_⟩
    obtain rfl : k = g := Option.some.inj e
    rcases hl with hl | hl
    ·exact hk.2.2 hl.symm
    ·have := hk.1; omega
 ·refine h2.below.trans ⟨?_, ?_, ?_, by rw [d]; omega, fun k hk => ?_⟩
  ·exact hg.os
  ·exact hg.tape
  ·exact hg.output
  ·have h5 := h2.below.size
   exact (a k (by omega)).trans (i k (by omega) (fun e => by have := f k e.symm; omega))
theorem BI.blk3 {b B : Nat} {w wr w2 w3 : World} {L : Value} {ts : List Co.Tree} {vs : List Value} {o : Obj} (h : BI b B w wr L ts vs) (hb2 : Below wr.heap.size wr w2) (hg : (w2.alloc o).grownBy w3 L.ownBlock) :
  w3.heap[b]? = some (.cells (lsC L) 88 (0, 0)) := by
 have h2 := h.call hb2;have a := Co.z03 h2.blk;have hB := h.hB;exact ((hg.block b (by rw [World.size_alloc]; omega) (fun e => by have := (h.own.lt b e.symm).1; omega)).trans (Below.heap_alloc _ _ _ a)).trans h2.blk
theorem BI.start (w w1 : World) (hb : Below w.heap.size w w1) : BI w1.heap.size (w1.heap.size + 1) w (w1.alloc (.cells (lsC (.slice none 0 0)) 88)) (.slice none 0 0) [] [] :=
 ⟨heap_alloc_new _ _, World.ownsRow_nil _ _ _ _, by rw [Co.z0h], hb.alloc hb.size _, hb.size, Nat.lt_succ_self _⟩
theorem BI.slice {b B : Nat} {w wr : World} {L : Value} {ts : List Co.Tree} {vs : List Value} (h : BI b B w wr L ts vs) : ∃ a cap, L = .slice a ts.length cap := by
 rcases h.own.2 with ⟨rfl, h0⟩ | ⟨g, cap, cur, rfl, -⟩
 ·exact ⟨none, 0, by rw [h0]⟩
 ·exact ⟨_, cap, rfl⟩
theorem BI.new {b B : Nat} {w wr : World} {L : Value} {ts : List Co.Tree} {vs : List Value} (h : BI b B w wr L ts vs) : Co.Rep wr (fun g => b < g /\ g < wr.heap.size) (.list ts) (.agg (lsC L)) := by
 rw [Co.Rep];have hB := h.hB;refine ⟨L, vs, rfl, ?_, fun g hg => by have := h.own.lt g hg; exact ⟨by omega, this.2⟩, Co.z0h.keep (fun _ _ => rfl) (fun g hg => ⟨hg.2.1, hg.1⟩) _ _ h.rep⟩;refine ⟨h.own.1, ?_⟩
 rcases h.own.2 with h0 | ⟨g, cap, cur, hv, hb, hr⟩
 ·exact .inl h0
 ·exact .inr ⟨g, cap, cur, hv, Nat.zero_le _, hr⟩
theorem BI.tree {b B : Nat} {w wr : World} {L : Value} {ts : List Co.Tree} {vs : List Value} (h : BI b B w wr L ts vs) : Co.Rep wr (Co.S24 wr) (.list ts) (.agg (lsC L)) :=
 Co.Rep.s24 _ _ (Co.Rep.keep (fun _ _ => rfl) (fun _ hg => hg.2) _ _ h.new)
theorem infoV : (Tryz.prog.info? 88).map (fun i => (i.zero, i.size, i.bytes)) = some (some (.agg #[.int .i64 0, .int .i64 0, .string ByteArray.empty, .slice none 0 0]), 4, 56) := by kernel_rfl
theorem z7i (w : World) (x y z u : Value) (t : TypeId) {n : Nat} (hB : w.heap.size = n) : ∀ j v, [x, y, z, u][j]? = some v -> (w.alloc (.cells #[x, y, z, u] t)).cell? (Addr.add ⟨n, 0, none⟩ j) = some v := fun j v hv => by
 subst hB;rw [Addr.add_mid, Nat.zero_add];exact (z02 w #[x, y, z, u] t).cell hv
theorem zdr {xs : List Ent} {k : Nat} {x : Ent} (h : xs[k]? = some x) : (xs.take (k + 1)).map entT = (xs.take k).map entT ++ [entT x] := by
 obtain ⟨a, rfl⟩ := List.getElem?_eq_some_iff.1 h
 rw [List.take_succ_eq_append_getElem a, List.map_append]; rfl
def NewVal (t : Co.Tree) (w : World) (e : Ending) (w' : World) : Prop := ∃ c0 c1 c2 c3, e = .returned (.agg #[c0, c1, c2, c3]) /\ Co.Rep w' (fun g => w.heap.size <= g /\ g < w'.heap.size) t (.agg #[c0, c1, c2, c3]) /\ Below w.heap.size w w'
end Go.Proofs.YtdkkkeoicekdgaaGreatDoor.Ca

end

section

namespace Go.Proofs.YtdkkkeoicekdgaaGreatDoor.Ca
set_option maxHeartbeats 6400000
set_option maxRecDepth 100000
open Go.Lib (hid)
open Go.RowKit Go.Proofs.YtdkkkeoicekdgaaGreatDoor
theorem zf9 (w : World) (a : Option Addr) (cap : Nat) (xs : List Ent) (b : Option Addr) (capc : Nat) (cs : List Chg) (hX : SlE w (Old w) (.slice a xs.length cap) xs) (hC : SlH w (Old w) (.slice b cs.length capc) cs) (hF : ∀ x, x ∈ xs -> FitE x) (hFC : ∀ c, c ∈ cs -> FitE c.e) (hE : EnvC w) :
  Calls Tryz.prog 46 #[.slice a xs.length cap, .slice b cs.length capc] w (z18 (z17 xs cs) w) := by
 have HR := hid (z2q w a cap xs hX hF hE);have E := z56 xs;have F := hC.len;obtain ⟨q, HQ⟩ := nmd (z0n xs);rw [<- HQ.out] at HR E
 by_cases h0 : q = 0
 ·have p : Hid (z0n xs = 0) := hid (by rw [<- HQ.out]; exact h0)
  have G : Hid (Rgt xs) := hid (z22.1 p.out);subst h0
  by_cases h20 : 20 < cs.length
  ·have HA := hid (z7l (cs := cs) p.out h20)
   have o : (20 : Int) < cs.length := by omega
   clear hX hC hF hFC hE h20
   generalize xs.length = L at *
   generalize cs.length = M at *
   go_enter Tryz.func46, Tryz.ntmps46
   go_wp2_with fail
   refine HR.out.mono ?_;rintro e w1 ⟨rfl, f⟩;have HB := hid f;clear f;go_wp2
   go_ret2
   exact z18.no HA.out HB.out
  ·have HA := hid (zbe p.out h20)
   have o : ¬ (20 : Int) < cs.length := by omega
   have HX := hid hX;have v : Hid (SlH w (fun k => k < w.heap.size) (.slice b cs.length capc) cs) := hid hC;have H := hid hFC;have HE := hid hE;obtain ⟨M, HM⟩ := nmd (cs.length);rw [<- HM.out] at o h20 v F
   have T : M <= 20 := by omega
   obtain ⟨L, HL⟩ := nmd (xs.length);rw [<- HL.out] at HR;rw [<- HM.out, <- HL.out];clear hX hC hF hFC hE h20
   go_enter Tryz.func46, Tryz.ntmps46
   go_wp2_with fail
   refine HR.out.mono ?_;rintro e w1 ⟨rfl, f⟩;have I := hid f;have J := hid (HX.out.old f);clear f HR HX;go_wp2
   go_loopw [0, 21] (fun st i wr => ∃ k : Nat, k <= M /\ i = .int .i64 k /\ ∃ (m : List Ent) (a' : Option Addr) (n' c' : Nat), st = .slice a' n' c' /\ Hid (n' = m.length) /\ Hid (SlE wr (Old wr) (.slice a' m.length c') m) /\ Hid (Rgt m) /\ Hid (foldC m (cs.drop k) = foldC xs cs) /\ Hid (Below w.heap.size w wr)) (fun _ i _ => M - (intOf i).toNat)
   case atStart => exact ⟨0, Nat.zero_le _, rfl, xs, a, L, cap, rfl, HL, J, G, hid (by rw [List.drop_zero]), I⟩
   case round =>
    obtain ⟨k, hk, rfl, m, a', n', c', rfl, y, z, A, r, s⟩ := hrel
    by_cases hlt : k < M
    ·obtain ⟨c, hc⟩ : ∃ c, cs[k]? = some c := ⟨_, List.getElem?_eq_getElem (by have := HM.out; omega)⟩
     obtain ⟨b2, U, rfl, -, x0, x1, x2, x3⟩ := (v.out.lt s.out).get hc
     have B : cs.drop k = c :: cs.drop (k + 1) := by
      obtain ⟨h1, h2⟩ := List.getElem?_eq_some_iff.1 hc;rw [List.drop_eq_getElem_cons h1, h2]
     have j : Hid (foldC m (cs.drop k) = match oneC m c with | .ok l' => foldC l' (cs.drop (k + 1)) | .error k => .error k) := hid (by rw [B, foldC]; cases oneC m c <;> rfl);have t := z04 wr (.cells (chC c) 83);have n := hid (z00 s.out t);have d := hid (rone_any (wr.alloc (.cells (chC c) 83)) a' c' m c (z.out.old t) A.out (H.out c (List.mem_of_getElem? hc)) (HE.out.below n.out));rw [<- y.out] at d;have R5 := z02 wr (chC c) 83;have d0 := R5.c0;have d1 := R5.c1;have d2 := R5.c2;have d3 := R5.c3;clear hc B t R5;obtain ⟨cd, xl, xk, xp⟩ := c;simp only at x0 x1 x2 x3 d0 d1 d2 d3 n d
     cases ho : oneC m ⟨cd, xl, xk, xp⟩ with
     | ok l' =>
      have N := hid (z71 A.out ho);have g : Hid (foldC l' (cs.drop (k + 1)) = foldC xs cs) := hid (by rw [<- r.out, j.out, ho]);rw [ho] at d;clear ho j
      go_wp2_with fail
      refine d.out.mono ?_;rintro e w6 ⟨h, a6, c6, rfl, C⟩;have O := hid C;have u := hid (z00 n.out h);obtain ⟨n6, D⟩ := nmd (l'.length);rw [<- D.out];clear h C;go_wp2;go_roundw
      case rel => exact ⟨k + 1, by omega, by go_num, l', a6, n6, c6, rfl, D, O, N, g, u⟩
      case measure => simp [intOf]; omega
     | error q =>
      have g : Hid (z17 xs cs = .error q) := hid (by rw [HA.out, <- r.out, j.out, ho]);have R := ne0 (one_err ho);rw [ho] at d;clear ho j
      go_wp2_with fail
      refine d.out.mono ?_;rintro e w6 ⟨h, rfl⟩;have u := hid (z00 n.out h);clear h;go_wp2
      go_ret2
      exact z18.no g.out u.out
    ·have g : Hid (z17 xs cs = .ok m) := hid (by rw [HA.out, <- r.out, List.drop_of_length_le (by have := HM.out; omega), foldC])
     go_wp2
     go_ret2
     rw [y.out];exact z18.yes g.out z.out s.out
 ·have HA := hid (z8j (l := xs) (cs := cs) (by rw [<- HQ.out]; exact h0))
  have R : ((q : Int) != 0) = true := by rw [bne_iff_ne]; omega
  clear hX hC hF hFC hE h0
  generalize xs.length = L at *
  generalize cs.length = M at *
  go_enter Tryz.func46, Tryz.ntmps46
  go_wp2_with fail
  refine HR.out.mono ?_;rintro e w1 ⟨rfl, f⟩;have HB := hid f;clear f;go_wp2
  go_ret2
  exact z18.no (by rw [HA.out, HQ.out]) HB.out
end Go.Proofs.YtdkkkeoicekdgaaGreatDoor.Ca

end
