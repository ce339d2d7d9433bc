/- What is read of bytes, written again, is the bytes: the plain mathematics. -/
import Derived.Deep.RegionLaw
import Derived.Deep.AppendLies
import Derived.Test.YtdkkkeoicekdgaaGreatDoorZACGet
import Derived.Test.YtdkkkeoicekdgaaGreatDoorZAg38
import Derived.Test.YtdkkkeoicekdgaaGreatDoorZAg18
import Derived.Test.YtdkkkeoicekdgaaGreatDoorZAg30
import Derived.Test.YtdkkkeoicekdgaaGreatDoorZAg3
import Derived.Test.YtdkkkeoicekdgaaGreatDoorZAg42

section

namespace Go.Proofs.YtdkkkeoicekdgaaGreatDoor.Co
end Go.Proofs.YtdkkkeoicekdgaaGreatDoor.Co

end

section

namespace Go.Proofs.YtdkkkeoicekdgaaGreatDoor.Co
end Go.Proofs.YtdkkkeoicekdgaaGreatDoor.Co

end

section

namespace Go.Proofs.YtdkkkeoicekdgaaGreatDoor.Ca
open Go.Proofs.YtdkkkeoicekdgaaGreatDoor
def entT (e : Ent) : Co.Tree := .list [.text e.loc.data.toList, .text e.key.data.toList, .text e.pat.data.toList]
def catT (l : List Ent) : Co.Tree := .list (l.map entT)
theorem zc3 (e : Ent) : Co.nodes (entT e) = 4 := by simp [entT, Co.nodes, Co.z0t]
theorem z5m : ∀ l : List Ent, Co.z0t (l.map entT) = 4 * l.length
 | [] => rfl
 | e :: r => by rw [List.map_cons, Co.z0t, zc3, z5m r, List.length_cons]; omega
theorem zc4 (l : List Ent) : Co.nodes (catT l) = 1 + 4 * l.length := by unfold catT; rw [Co.nodes, z5m]
theorem lev_cat (l : List Ent) : Co.Lev 1 (catT l) := by
 unfold catT
 rw [Co.Lev]
 refine ⟨by decide, ?_⟩
 induction l with
 | nil => rw [List.map_nil, Co.LevL]; trivial
 | cons e r ih =>
  rw [List.map_cons, Co.LevL]
  refine ⟨?_, ih⟩
  simp [entT, Co.Lev, Co.LevL]
theorem ok_cat (l : List Ent) : Co.Ok (catT l) := by
 unfold catT
 rw [Co.Ok]
 induction l with
 | nil => rw [List.map_nil, Co.OkL]; trivial
 | cons e r ih =>
  rw [List.map_cons, Co.OkL]
  refine ⟨?_, ih⟩
  simp [entT, Co.Ok, Co.OkL]
def TxE (m : Nat) (e : Ent) : Prop := e.loc.size <= m /\ e.key.size <= m /\ e.pat.size <= m
theorem zcb (s : BA) : s.data.toList.length = s.size := by simp
theorem tx_cat {l : List Ent} (h : ∀ e, e ∈ l -> TxE 140737488351232 e) : Co.Tx (catT l) := by
 unfold catT
 rw [Co.Tx]
 induction l with
 | nil => rw [List.map_nil, Co.TxL]; trivial
 | cons e r ih =>
  rw [List.map_cons, Co.TxL]
  refine ⟨?_, ih (fun y hy => h y (by simp [hy]))⟩
  obtain ⟨h1, h2, h3⟩ := h e (by simp)
  simp only [entT, Co.Tx, Co.TxL, zcb]
  exact ⟨h1, h2, h3, trivial⟩
theorem loc_32 {l : List UInt8} (h : locOK l = true) : l.length <= 32 := by
 unfold locOK at h
 rw [Bool.or_eq_true] at h
 rcases h with h | h
 ·have : l = [] := by simpa using h
  subst this; simp
 ·unfold Lc.locB at h
  simp only [Bool.and_eq_true, decide_eq_true_eq] at h
  exact h.1
theorem pat_2000 {l : List UInt8} (h : patB l = true) : l.length <= 2000 := by
 unfold patB at h
 rw [decide_eq_true_eq] at h
 unfold z0q at h
 split at h
 ·cases h
 ·omega
theorem may_tx {e : Ent} (h : mayB e = true) : TxE 2000 e := by
 unfold mayB at h
 simp only [Bool.and_eq_true] at h
 obtain ⟨⟨h1, h2⟩, h3⟩ := h
 have k1 := loc_32 h1
 have k3 := pat_2000 h3
 unfold keyB at h2
 simp only [Bool.and_eq_true, decide_eq_true_eq] at h2
 rw [zcb] at k1 k3
 have k2 := h2.1.2
 rw [zcb] at k2
 exact ⟨by omega, by omega, by omega⟩
noncomputable def z0o (l : List Ent) : List UInt8 × Int := if z0m l ≠ 0 then ([], z0m l) else Co.putF (catT l)
theorem zdg {l : List Ent} (h : Rgt l) (hl : (Co.enc (catT l)).length <= 131072) : z0o l = (Co.enc (catT l), 0) := by
 unfold z0o
 rw [z1q.2 h, if_neg (by simp), Co.z9b hl]
theorem zax {l : List Ent} (h : Rgt l) (hl : 131072 < (Co.enc (catT l)).length) : z0o l = ([], 2) := by
 unfold z0o
 rw [z1q.2 h, if_neg (by simp), Co.zbr hl]
theorem zdi {l : List Ent} (h : ¬ Rgt l) : z0o l = ([], (z0m l : Int)) := by
 unfold z0o
 rw [if_pos (fun e => h (z1q.1 e))]
end Go.Proofs.YtdkkkeoicekdgaaGreatDoor.Ca

end

section

namespace Go.Proofs.YtdkkkeoicekdgaaGreatDoor.Md
open Go.Proofs.YtdkkkeoicekdgaaGreatDoor Go.Proofs.YtdkkkeoicekdgaaGreatDoor.Ca
structure Cli where
 id : Int
 sq : Int
 an : Int
 vr : Int
structure Mdl where
 vr : Int
 es : List Ent
 cs : List Cli
structure Cmd where
 cl : Int
 sq : Int
 ch : List Chg
def cntB (n : Int) : Bool := decide (1 <= n) && decide (n <= 1073741824)
def cliB (v : Int) (c : Cli) : Bool := cntB c.id && cntB c.sq && decide (0 <= c.an) && decide (c.an <= 255) && decide (0 <= c.vr) && decide (c.vr <= v)
def SrtC (l : List Cli) : Prop := l.Pairwise (fun a b => a.id < b.id)
structure RgtC (v : Int) (l : List Cli) : Prop where
 len : l.length <= 16
 ok : ∀ c, c ∈ l -> cliB v c = true
 srt : SrtC l
structure RgtM (m : Mdl) : Prop where
 lo : 0 <= m.vr
 hi : m.vr <= 1073741824
 cs : RgtC m.vr m.cs
 es : (z0o m.es).2 = 0
def mayC (c : Cmd) : Bool := cntB c.cl && cntB c.sq && decide (1 <= c.ch.length) && decide (c.ch.length <= 20)
theorem za3 {n : Int} : cntB n = true ↔ 1 <= n /\ n <= 1073741824 := by unfold cntB; simp
theorem z2e {v : Int} {c : Cli} : cliB v c = true ↔ (1 <= c.id /\ c.id <= 1073741824) /\ (1 <= c.sq /\ c.sq <= 1073741824) /\ 0 <= c.an /\ c.an <= 255 /\ 0 <= c.vr /\ c.vr <= v := by
 unfold cliB
 simp only [Bool.and_eq_true, za3, decide_eq_true_eq]
 constructor
 ·rintro ⟨⟨⟨⟨⟨h1, h2⟩, h3⟩, h4⟩, h5⟩, h6⟩; exact ⟨h1, h2, h3, h4, h5, h6⟩
 ·rintro ⟨h1, h2, h3, h4, h5, h6⟩; exact ⟨⟨⟨⟨⟨h1, h2⟩, h3⟩, h4⟩, h5⟩, h6⟩
theorem z6b {c : Cmd} : mayC c = true ↔ (1 <= c.cl /\ c.cl <= 1073741824) /\ (1 <= c.sq /\ c.sq <= 1073741824) /\ 1 <= c.ch.length /\ c.ch.length <= 20 := by
 unfold mayC
 simp only [Bool.and_eq_true, za3, decide_eq_true_eq]
 constructor
 ·rintro ⟨⟨⟨h1, h2⟩, h3⟩, h4⟩; exact ⟨h1, h2, h3, h4⟩
 ·rintro ⟨h1, h2, h3, h4⟩; exact ⟨⟨⟨h1, h2⟩, h3⟩, h4⟩
theorem zdh (l : List Ent) (h : Rgt l) : z0o l = (Co.enc (catT l), 0) ∨ z0o l = ([], 2) := by
 by_cases hl : (Co.enc (catT l)).length <= 131072
 ·exact .inl (zdg h hl)
 ·exact .inr (zax h (by omega))
theorem z0p {l : List Ent} (h : (z0o l).2 = 0) : Rgt l := by
 by_cases hr : Rgt l
 ·exact hr
 ·rw [zdi hr] at h
  have : z0m l ≠ 0 := fun e => hr (z1q.1 e)
  simp only at h
  omega
def putL (c : Cli) : List Cli -> List Cli
 | [] => [c]
 | x :: r => if x.id < c.id then x :: putL c r else if x.id = c.id then c :: r else c :: x :: r
def z0x (l : List Cli) (id : Int) : Option Cli := l.find? (fun x => decide (x.id = id))
noncomputable def chgF (v : Int) (es : List Ent) (ch : List Chg) : Ans := match z18 es ch with
 | .error k => .error k
 | .ok l => if (z0o l).2 ≠ 0 then .error 2 else if v = 1073741824 then .error 130 else .ok l
noncomputable def exeF (m : Mdl) (c : Cmd) : Mdl × Cli := match chgF m.vr m.es c.ch with
 | .error k => (⟨m.vr, m.es, putL ⟨c.cl, c.sq, k, m.vr⟩ m.cs⟩, ⟨c.cl, c.sq, k, m.vr⟩)
 | .ok l => (⟨m.vr + 1, l, putL ⟨c.cl, c.sq, 0, m.vr + 1⟩ m.cs⟩, ⟨c.cl, c.sq, 0, m.vr + 1⟩)
noncomputable def doF (m : Mdl) (c : Cmd) : Mdl × Cli := match z0x m.cs c.cl with
 | some x => if x.sq = c.sq then (m, x) else if c.sq < x.sq then (m, ⟨c.cl, c.sq, 121, 0⟩) else exeF m c
 | none => if m.cs.length = 16 then (m, ⟨c.cl, c.sq, 130, 0⟩) else exeF m c
theorem z3c {c : Cli} : ∀ {l : List Cli} {e : Cli}, e ∈ putL c l -> e = c ∨ e ∈ l
 | [], e, h => by rw [putL] at h; exact .inl (by simpa using h)
 | x :: r, e, h => by
  rw [putL] at h
  split at h
  ·rcases List.mem_cons.1 h with rfl | h
   ·exact .inr (by simp)
   ·rcases z3c h with h | h
    ·exact .inl h
    ·exact .inr (by simp [h])
  ·split at h
   ·rcases List.mem_cons.1 h with rfl | h
    ·exact .inl rfl
    ·exact .inr (by simp [h])
   ·rcases List.mem_cons.1 h with rfl | h
    ·exact .inl rfl
    ·exact .inr h
theorem z99 {c : Cli} : ∀ {l : List Cli}, SrtC l -> SrtC (putL c l)
 | [], _ => by rw [putL]; exact List.pairwise_singleton _ _
 | x :: r, h => by
  unfold SrtC at h
  rw [List.pairwise_cons] at h
  rw [putL]
  split
  ·rename_i hx
   refine List.pairwise_cons.2 ⟨fun e he => ?_, z99 h.2⟩
   rcases z3c he with rfl | he
   ·exact hx
   ·exact h.1 e he
  ·split
   ·rename_i hx
    exact List.pairwise_cons.2 ⟨fun e he => by rw [<- hx]; exact h.1 e he, h.2⟩
   ·refine List.pairwise_cons.2 ⟨fun e he => ?_, List.pairwise_cons.2 h⟩
    rcases List.mem_cons.1 he with rfl | he
    ·omega
    ·have := h.1 e he; omega
theorem z1m {l : List Cli} {id : Int} : z0x l id = none ↔ ∀ x, x ∈ l -> x.id ≠ id := by
 unfold z0x
 rw [List.find?_eq_none]
 exact ⟨fun h x hx e => h x hx (by simpa using e), fun h x hx e => h x hx (by simpa using e)⟩
theorem z52 {l : List Cli} {id : Int} {x : Cli} (h : z0x l id = some x) : x ∈ l /\ x.id = id :=
 ⟨List.mem_of_find?_eq_some h, by simpa using List.find?_some h⟩
theorem z98 {c : Cli} : ∀ {l : List Cli}, (∀ x, x ∈ l -> x.id ≠ c.id) -> (putL c l).length = l.length + 1
 | [], _ => rfl
 | x :: r, h => by
  rw [putL]
  split
  ·rw [List.length_cons, z98 (fun y hy => h y (by simp [hy])), List.length_cons]
  ·rw [if_neg (h x (by simp))]; rfl
theorem z97 {c : Cli} : ∀ {l : List Cli} {x : Cli}, SrtC l -> x ∈ l -> x.id = c.id -> (putL c l).length = l.length
 | y :: r, x, h, hx, he => by
  unfold SrtC at h
  rw [List.pairwise_cons] at h
  rw [putL]
  split
  ·rename_i hy
   rcases List.mem_cons.1 hx with rfl | hx
   ·omega
   ·rw [List.length_cons, z97 h.2 hx he, List.length_cons]
  ·split
   ·rfl
   ·rename_i h1 h2
    rcases List.mem_cons.1 hx with rfl | hx
    ·exact absurd he h2
    ·have := h.1 x hx; omega
theorem z64 {c : Cli} : ∀ {l : List Cli}, z0x (putL c l) c.id = some c
 | [] => by simp [putL, z0x]
 | x :: r => by
  rw [putL]
  split
  ·unfold z0x
   rw [List.find?_cons_of_neg (by simp; omega)]
   exact z64 (l := r)
  ·split
   ·simp [z0x]
   ·simp [z0x]
theorem zaz {l l' : List Ent} {cs : List Chg} (h : Rgt l) (ho : z18 l cs = .ok l') : Rgt l' := by
 unfold z18 at ho
 rw [z1q.2 h, if_neg (by simp)] at ho
 split at ho
 ·cases ho
 ·exact z5q h ho
theorem one_err2 {l : List Ent} {c : Chg} {k : Nat} (h : oneC l c = .error k) : k = 110 ∨ k = 60 ∨ k = 2 := by
 unfold oneC at h
 split at h
 ·split at h
  ·cases h; exact .inl rfl
  ·split at h
   ·cases h; exact .inr (.inl rfl)
   ·cases h
 ·split at h
  ·cases h; exact .inl rfl
  ·split at h
   ·cases h; exact .inr (.inr rfl)
   ·cases h
theorem z7p {k : Nat} : ∀ {cs : List Chg} {l : List Ent}, foldC l cs = .error k -> k = 110 ∨ k = 60 ∨ k = 2
 | [], l, h => by rw [foldC] at h; cases h
 | c :: r, l, h => by
  rw [foldC] at h
  cases h1 : oneC l c with
  | ok m => rw [h1] at h; exact z7p h
  | error j => rw [h1] at h; cases h; exact one_err2 h1
theorem z5w {l : List Ent} {cs : List Chg} {k : Nat} (h : Rgt l) (ho : z18 l cs = .error k) : 1 <= k /\ k <= 130 := by
 unfold z18 at ho
 rw [z1q.2 h, if_neg (by simp)] at ho
 split at ho
 ·cases ho; exact ⟨by decide, by decide⟩
 ·rcases z7p ho with rfl | rfl | rfl <;> exact ⟨by decide, by decide⟩
theorem zd8 {v : Int} {l : List Ent} {cs : List Chg} {k : Nat} (h : Rgt l) (ho : chgF v l cs = .error k) : 1 <= k /\ k <= 130 := by
 unfold chgF at ho
 split at ho
 ·rename_i j hj
  cases ho
  exact z5w h hj
 ·split at ho
  ·cases ho; exact ⟨by decide, by decide⟩
  ·split at ho
   ·cases ho; exact ⟨by decide, by decide⟩
   ·cases ho
theorem chg_ok {v : Int} {l l' : List Ent} {cs : List Chg} (ho : chgF v l cs = .ok l') : (z0o l').2 = 0 /\ v ≠ 1073741824 := by
 unfold chgF at ho
 split at ho
 ·cases ho
 ·split at ho
  ·cases ho
  ·split at ho
   ·cases ho
   ·rename_i h1 h2
    cases ho
    exact ⟨by simpa using h1, h2⟩
theorem zbk {v v' : Int} {l : List Cli} (h : RgtC v l) (hv : v <= v') : RgtC v' l := ⟨h.len, fun c hc => by
 have := z2e.1 (h.ok c hc)
 exact z2e.2 ⟨this.1, this.2.1, this.2.2.1, this.2.2.2.1, this.2.2.2.2.1, by omega⟩, h.srt⟩
theorem z95 {v : Int} {l : List Cli} {c : Cli} (h : RgtC v l) (hc : cliB v c = true) (hl : (∃ x, x ∈ l /\ x.id = c.id) ∨ l.length ≠ 16 /\ ∀ x, x ∈ l -> x.id ≠ c.id) : RgtC v (putL c l) := by
 refine ⟨?_, fun x hx => ?_, z99 h.srt⟩
 ·have := h.len
  rcases hl with ⟨x, hx, he⟩ | ⟨h16, hn⟩
  ·rw [z97 h.srt hx he]; exact h.len
  ·rw [z98 hn]; omega
 ·rcases z3c hx with rfl | hx
  ·exact hc
  ·exact h.ok x hx
theorem z7u {m : Mdl} {c : Cmd} (h : RgtM m) (hc : mayC c = true) (hl : (∃ x, x ∈ m.cs /\ x.id = c.cl) ∨ m.cs.length ≠ 16 /\ ∀ x, x ∈ m.cs -> x.id ≠ c.cl) : RgtM (exeF m c).1 := by
 obtain ⟨h1, h2, -, -⟩ := z6b.1 hc
 have hlo := h.lo
 have hhi := h.hi
 unfold exeF
 split
 ·rename_i k hk
  have := zd8 (z0p h.es) hk
  exact ⟨h.lo, h.hi, z95 h.cs (z2e.2 ⟨h1, h2, by simp only; omega, by simp only; omega, h.lo, Int.le_refl _⟩) hl, h.es⟩
 ·rename_i l hk
  have := chg_ok hk
  exact ⟨by simp only; omega, by simp only; omega, z95 (v := m.vr + 1) (zbk h.cs (by omega)) (z2e.2 ⟨h1, h2, Int.le_refl _, by simp only; omega, by simp only; omega, Int.le_refl _⟩) hl, this.1⟩
theorem z9z {m : Mdl} {c : Cmd} (h : RgtM m) (hc : mayC c = true) : RgtM (doF m c).1 := by
 unfold doF
 split
 ·rename_i x hx
  obtain ⟨hx1, hx2⟩ := z52 hx
  split
  ·exact h
  ·split
   ·exact h
   ·exact z7u h hc (.inl ⟨x, hx1, hx2⟩)
 ·rename_i hx
  split
  ·exact h
  ·rename_i h16
   exact z7u h hc (.inr ⟨h16, z1m.1 hx⟩)
theorem exe_find {m : Mdl} {c : Cmd} : z0x (exeF m c).1.cs c.cl = some (exeF m c).2 /\ (exeF m c).2.sq = c.sq := by
 unfold exeF
 split
 ·exact ⟨z64 (c := ⟨c.cl, c.sq, _, m.vr⟩), rfl⟩
 ·exact ⟨z64 (c := ⟨c.cl, c.sq, 0, m.vr + 1⟩), rfl⟩
theorem do_twice (m : Mdl) (c : Cmd) : doF (doF m c).1 c = doF m c := by
 have hx := exe_find (m := m) (c := c)
 have key : doF (exeF m c).1 c = exeF m c := by
  rw [doF, hx.1]
  simp only
  rw [if_pos hx.2]
 cases h : z0x m.cs c.cl with
 | some x =>
  by_cases h1 : x.sq = c.sq
  ·have e : doF m c = (m, x) := by rw [doF, h]; simp only; rw [if_pos h1]
   rw [e]; exact e
  ·by_cases h2 : c.sq < x.sq
   ·have e : doF m c = (m, ⟨c.cl, c.sq, 121, 0⟩) := by rw [doF, h]; simp only; rw [if_neg h1, if_pos h2]
    rw [e]; exact e
   ·have e : doF m c = exeF m c := by rw [doF, h]; simp only; rw [if_neg h1, if_neg h2]
    rw [e]; exact key
 | none =>
  by_cases h1 : m.cs.length = 16
  ·have e : doF m c = (m, ⟨c.cl, c.sq, 130, 0⟩) := by rw [doF, h]; simp only; rw [if_pos h1]
   rw [e]; exact e
  ·have e : doF m c = exeF m c := by rw [doF, h]; simp only; rw [if_neg h1]
   rw [e]; exact key
def seqOf (l : List Cli) (id : Int) : Int := match z0x l id with
 | some x => x.sq
 | none => 0
theorem zas {m : Mdl} {c : Cmd} (h : RgtM m) (hc : mayC c = true) :
  if c.sq <= seqOf m.cs c.cl ∨ (doF m c).2.an ≠ 0 then (doF m c).1.vr = m.vr else (doF m c).1.vr = m.vr + 1 /\ (doF m c).2.vr = m.vr + 1 := by
 obtain ⟨-, h2, -, -⟩ := z6b.1 hc
 have key : if (exeF m c).2.an ≠ 0 then (exeF m c).1.vr = m.vr else (exeF m c).1.vr = m.vr + 1 /\ (exeF m c).2.vr = m.vr + 1 := by
  unfold exeF
  split
  ·rename_i k hk
   have := zd8 (z0p h.es) hk
   rw [if_pos (by simp only; omega)]
  ·rw [if_neg (by simp)]; exact ⟨rfl, rfl⟩
 cases hf : z0x m.cs c.cl with
 | some x =>
  have hs : seqOf m.cs c.cl = x.sq := by unfold seqOf; rw [hf]
  by_cases h1 : x.sq = c.sq
  ·have e : doF m c = (m, x) := by rw [doF, hf]; simp only; rw [if_pos h1]
   rw [e, hs, if_pos (.inl (by omega))]
  ·by_cases h3 : c.sq < x.sq
   ·have e : doF m c = (m, ⟨c.cl, c.sq, 121, 0⟩) := by rw [doF, hf]; simp only; rw [if_neg h1, if_pos h3]
    rw [e, hs, if_pos (.inl (by omega))]
   ·have e : doF m c = exeF m c := by rw [doF, hf]; simp only; rw [if_neg h1, if_neg h3]
    rw [e, hs]
    by_cases ha : (exeF m c).2.an ≠ 0
    ·rw [if_pos ha] at key; rw [if_pos (.inr ha)]; exact key
    ·rw [if_neg ha] at key; rw [if_neg (fun hh => hh.elim (fun h9 => by omega) ha)]; exact key
 | none =>
  have hs : seqOf m.cs c.cl = 0 := by unfold seqOf; rw [hf]
  by_cases h1 : m.cs.length = 16
  ·have e : doF m c = (m, ⟨c.cl, c.sq, 130, 0⟩) := by rw [doF, hf]; simp only; rw [if_pos h1]
   rw [e, if_pos (.inr (by simp))]
  ·have e : doF m c = exeF m c := by rw [doF, hf]; simp only; rw [if_neg h1]
   rw [e, hs]
   by_cases ha : (exeF m c).2.an ≠ 0
   ·rw [if_pos ha] at key; rw [if_pos (.inr ha)]; exact key
   ·rw [if_neg ha] at key; rw [if_neg (fun hh => hh.elim (fun h9 => by omega) ha)]; exact key
end Go.Proofs.YtdkkkeoicekdgaaGreatDoor.Md

end

section

namespace Go.Proofs.YtdkkkeoicekdgaaGreatDoor.Md
set_option maxHeartbeats 1600000
set_option maxRecDepth 100000
open Go.Lib (hid)
open Go.RowKit Go.Proofs.YtdkkkeoicekdgaaGreatDoor Go.Proofs.YtdkkkeoicekdgaaGreatDoor.Ca
def CLc (x : Cli) (cs : List Value) : Prop := cs = [.int .i64 x.id, .int .i64 x.sq, .int .i64 x.an, .int .i64 x.vr]
abbrev clV (x : Cli) : Value := .agg #[.int .i64 x.id, .int .i64 x.sq, .int .i64 x.an, .int .i64 x.vr]
abbrev clC (x : Cli) : Array Value := #[.int .i64 x.id, .int .i64 x.sq, .int .i64 x.an, .int .i64 x.vr]
abbrev SlL (w : World) (S : Nat -> Prop) (v : Value) (xs : List Cli) : Prop := Sl 4 CLc w S v xs
theorem SlL.old {w w' : World} {v : Value} {xs : List Cli} (h : SlL w (Old w) v xs) (hb : Below w.heap.size w w') : SlL w' (Old w') v xs := Sl.keep h (fun b hb2 => hb.block b hb2) (fun _ h => Nat.lt_of_lt_of_le h hb.size) (fun _ _ h => h)
theorem atL {w : World} {b o : Nat} {x : Cli} (h : At 4 CLc w b o x) : w.cell? ⟨b, o, none⟩ = some (.int .i64 x.id) /\ w.cell? ⟨b, o + 1, none⟩ = some (.int .i64 x.sq) /\ w.cell? ⟨b, o + 2, none⟩ = some (.int .i64 x.an) /\ w.cell? ⟨b, o + 3, none⟩ = some (.int .i64 x.vr) := by
 obtain ⟨cs, -, rfl, hc⟩ := h
 exact ⟨hc 0 _ rfl, hc 1 _ rfl, hc 2 _ rfl, hc 3 _ rfl⟩
theorem SlL.len {w : World} {S : Nat -> Prop} {a : Option Addr} {n cap : Nat} {xs : List Cli} (h : SlL w S (.slice a n cap) xs) : n = xs.length /\ xs.length <= cap /\ cap <= 9223372036854775807 := by
 obtain ⟨a', cap', hv, h1, h2, -⟩ := h
 injection hv with _ h3 h4
 exact ⟨h3, by omega, by omega⟩
theorem SlL.get {w : World} {S : Nat -> Prop} {a : Option Addr} {n cap : Nat} {xs : List Cli} (h : SlL w S (.slice a n cap) xs) {j : Nat} {x : Cli} (hx : xs[j]? = some x) :
  ∃ b off, a = some ⟨b, off, none⟩ /\ S b /\ w.cell? ⟨b, off + j * 4, none⟩ = some (.int .i64 x.id) /\ w.cell? ⟨b, off + j * 4 + 1, none⟩ = some (.int .i64 x.sq) /\ w.cell? ⟨b, off + j * 4 + 2, none⟩ = some (.int .i64 x.an) /\ w.cell? ⟨b, off + j * 4 + 3, none⟩ = some (.int .i64 x.vr) := by
 obtain ⟨a', cap', hv, h1, h2, h3⟩ := h
 injection hv with h4 _ _
 subst h4
 obtain ⟨b, off, ha, hb, hat⟩ := h3 (fun e => by subst e; simp at hx)
 exact ⟨b, off, ha, hb, atL (hat j x hx)⟩
theorem SlL.take {w : World} {S : Nat -> Prop} {a : Option Addr} {n cap : Nat} {xs : List Cli} (h : SlL w S (.slice a n cap) xs) (k : Nat) (hk : k <= xs.length) : SlL w S (.slice a k cap) (xs.take k) := by
 obtain ⟨a', cap', hv, h1, h2, h3⟩ := h
 injection hv with h4 _ h5
 subst h4 h5
 refine ⟨a, cap, by rw [List.length_take, Nat.min_eq_left hk], by rw [List.length_take]; omega, h2, fun hne => ?_⟩
 obtain ⟨b, off, ha, hb, hat⟩ := h3 (fun e => by subst e; simp at hne)
 refine ⟨b, off, ha, hb, fun j x hj => hat j x ?_⟩
 have hlt := (List.getElem?_eq_some_iff.1 hj).1
 rw [List.length_take] at hlt
 rw [List.getElem?_take, if_pos (by omega)] at hj
 exact hj
theorem SlL.drop {w : World} {S : Nat -> Prop} {ad : Addr} {n cap : Nat} {xs : List Cli} (h : SlL w S (.slice (some ad) n cap) xs) (k : Nat) (hk : k <= xs.length) : SlL w S (.slice (some (ad.add (k * 4))) (xs.length - k) (cap - k)) (xs.drop k) := by
 obtain ⟨a', cap', hv, h1, h2, h3⟩ := h
 injection hv with h4 _ h5
 subst h4 h5
 refine ⟨some (ad.add (k * 4)), cap - k, by rw [List.length_drop], by rw [List.length_drop]; omega, by omega, fun hne => ?_⟩
 obtain ⟨b, off, ha, hb, hat⟩ := h3 (fun e => by subst e; simp at hne)
 obtain rfl := Option.some.inj ha
 refine ⟨b, off + k * 4, by rw [Addr.add_mid], hb, fun j x hj => ?_⟩
 have := hat (k + j) x (by rw [List.getElem?_drop] at hj; exact hj)
 rw [show off + k * 4 + j * 4 = off + (k + j) * 4 by omega]
 exact this
def flatL : List Cli -> List Value
 | [] => []
 | x :: r => .int .i64 x.id :: .int .i64 x.sq :: .int .i64 x.an :: .int .i64 x.vr :: flatL r
theorem z1t : ∀ xs : List Cli, (flatL xs).length = xs.length * 4
 | [] => rfl
 | x :: r => by simp only [flatL, List.length_cons, z1t r]; omega
theorem z1u : ∀ xs ys : List Cli, flatL (xs ++ ys) = flatL xs ++ flatL ys
 | [], _ => rfl
 | x :: r, ys => by simp only [List.cons_append, flatL, z1u r ys]
theorem z7q : ∀ {xs : List Cli} {j : Nat} {x : Cli}, xs[j]? = some x -> (flatL xs)[j * 4]? = some (.int .i64 x.id) /\ (flatL xs)[j * 4 + 1]? = some (.int .i64 x.sq) /\ (flatL xs)[j * 4 + 2]? = some (.int .i64 x.an) /\ (flatL xs)[j * 4 + 3]? = some (.int .i64 x.vr)
 | y :: r, 0, x, h => by
  obtain rfl := Option.some.inj h
  exact ⟨rfl, rfl, rfl, rfl⟩
 | y :: r, j + 1, x, h => by
  have := z7q (xs := r) (j := j) (x := x) (by simpa using h)
  rw [show (j + 1) * 4 = j * 4 + 4 by omega]
  simpa [flatL] using this
theorem z50 : ∀ {xs : List Cli}, ∀ u ∈ flatL xs, u.oneCell' = true
 | x :: r, u, h => by
  simp only [flatL, List.mem_cons] at h
  rcases h with rfl | rfl | rfl | rfl | h
  ·rfl
  ·rfl
  ·rfl
  ·rfl
  ·exact z50 u h
theorem zaq {xs : List Cli} {i : Nat} {u : Value} (h : (flatL xs)[i]? = some u) : ∃ j x, xs[j]? = some x /\ (i = j * 4 /\ u = .int .i64 x.id ∨ i = j * 4 + 1 /\ u = .int .i64 x.sq ∨ i = j * 4 + 2 /\ u = .int .i64 x.an ∨ i = j * 4 + 3 /\ u = .int .i64 x.vr) := by
 have hlt : i < (flatL xs).length := (List.getElem?_eq_some_iff.1 h).1
 rw [z1t] at hlt
 have hj : xs[i / 4]? = some (xs[i / 4]'(by omega)) := List.getElem?_eq_getElem (by omega)
 obtain ⟨h0, h1, h2, h4⟩ := z7q hj
 refine ⟨i / 4, _, hj, ?_⟩
 have h3 : i = i / 4 * 4 ∨ i = i / 4 * 4 + 1 ∨ i = i / 4 * 4 + 2 ∨ i = i / 4 * 4 + 3 := by omega
 rcases h3 with e | e | e | e
 ·rw [<- e, h] at h0; exact .inl ⟨e, Option.some.inj h0⟩
 ·rw [<- e, h] at h1; exact .inr (.inl ⟨e, Option.some.inj h1⟩)
 ·rw [<- e, h] at h2; exact .inr (.inr (.inl ⟨e, Option.some.inj h2⟩))
 ·rw [<- e, h] at h4; exact .inr (.inr (.inr ⟨e, Option.some.inj h4⟩))
theorem z7r : ∀ xs : List Cli, Cat 4 CLc xs (flatL xs)
 | [] => rfl
 | x :: r => ⟨[.int .i64 x.id, .int .i64 x.sq, .int .i64 x.an, .int .i64 x.vr], flatL r, rfl, rfl, rfl, z7r r⟩
theorem SlL.cells {w : World} {S : Nat -> Prop} {a : Addr} {n cap : Nat} {xs : List Cli} (h : SlL w S (.slice (some a) n cap) xs) : ∀ i u, (flatL xs)[i]? = some u -> w.cell? (a.add i) = some u := fun i u hu => by
 obtain ⟨j, x, hx, hj⟩ := zaq hu
 obtain ⟨b, off, ha, -, h0, h1, h2, h3⟩ := h.get hx
 obtain rfl := Option.some.inj ha
 rw [Addr.add_mid]
 rcases hj with ⟨rfl, rfl⟩ | ⟨rfl, rfl⟩ | ⟨rfl, rfl⟩ | ⟨rfl, rfl⟩
 ·exact h0
 ·exact h1
 ·exact h2
 ·exact h3
abbrev OwnL (w : World) (base : Nat) (v : Value) (xs : List Cli) : Prop := w.ownsRow base 32 4 v xs.length (flatL xs)
theorem OwnL.sl {w : World} {base : Nat} {v : Value} {xs : List Cli} (h : OwnL w base v xs) : SlL w (Old w) v xs := Sl.of_owns h (z7r xs) (fun _ _ _ hh => (Array.getElem?_eq_some_iff.1 hh).1)
theorem infoL : (Tryz.prog.info? 32).map (fun i => (i.zero, i.size, i.bytes)) = some (some (.agg #[.int .i64 0, .int .i64 0, .int .i64 0, .int .i64 0]), 4, 32) := by kernel_rfl
theorem z2t (w : World) (ty : TypeId) (base : Nat) (v : Value) (xs : List Cli) (hown : OwnL w base v xs) (a : Option Addr) (c : Nat) (ys : List Cli) (hin : SlL w (Old w) (.slice a ys.length c) ys) (h63 : xs.length + ys.length <= 1000000) (hbase : base <= w.heap.size) :
  ∃ v' w', (Builtin.append_ #[23, 23] ty #[v, .slice a ys.length c]).run Tryz.prog w = .ok v' w' /\ OwnL w' base v' (xs ++ ys) /\ w.grownBy w' v.ownBlock /\ (v'.ownBlock = v.ownBlock ∨ v'.ownBlock = some w.heap.size) := by
 obtain ⟨i0, hi, hz0, hz1, hz2⟩ := info_parts infoL
 cases a with
 | none =>
  have hy : ys = [] := by
   cases ys with
   | nil => rfl
   | cons y r => obtain ⟨b, off, ha, -⟩ := hin.get (j := 0) rfl; cases ha
  subst hy
  refine ⟨v, w, ?_, by simpa [OwnL] using hown, World.grownBy.refl w _, .inl rfl⟩
  rcases hown.2 with ⟨rfl, h0⟩ | ⟨g, cap, cur, rfl, _, _, hnc, _⟩
  ·simp [Builtin.append_, run_underlying Tryz.underlying23, sizeOf, typeInfo, hi, Builtin.lenOf, Builtin.firstCells]
  ·simp [Builtin.append_, run_underlying Tryz.underlying23, sizeOf, typeInfo, hi, Builtin.lenOf, Builtin.firstCells, hnc, storeCells]
 | some ad =>
  obtain ⟨v', w', hr, h2, h3, -, h5⟩ := run_append_own_at (P := Tryz.prog) w base 23 ty 32 i0 _ 4 32 Tryz.underlying23 hi hz0 hz1 hz2 rfl (by decide) v xs.length (flatL xs) hown ad ys.length c (flatL ys) (z1t ys) hin.cells z50 (by unfold maxLen; omega) (by omega) hbase
  exact ⟨v', w', hr, by unfold OwnL; rw [z1u, List.length_append]; exact h2, h3, h5⟩
def z6p (xs : List Cli) (w : World) (e : Ending) (w' : World) : Prop := ∃ v, e = .returned v /\ OwnL w' w.heap.size v xs /\ Below w.heap.size w w'
theorem z5v (w : World) (a : Option Addr) (cap : Nat) (xs : List Cli) (hX : SlL w (Old w) (.slice a xs.length cap) xs) (hl : xs.length <= 1000) :
  Calls Tryz.prog 80 #[.slice a xs.length cap] w (z6p xs w) := by
 have q22 : ∀ (w : World) (a : Option Addr) (n c n' c' : Nat), (binOp .eql 23 (.slice a n c) (.slice none n' c')).run Tryz.prog w = .ok (.bool a.isNone) w := fun w a n c n' c' => Lib.run_eql_slice_nil w _ _ a n c n' c' Tryz.underlying23
 cases a with
 | none =>
  have hy : xs = [] := by
   cases xs with
   | nil => rfl
   | cons y r => obtain ⟨b, off, ha, -⟩ := hX.get (j := 0) rfl; cases ha
  subst hy
  clear hX
  go_enter Tryz.func80, Tryz.ntmps80
  go_wp2
  go_ret
  exact ⟨_, rfl, World.ownsRow_nil _ _ _ _, Below.refl _ _⟩
 | some ad =>
  obtain ⟨v', w', hr, hown, hgrow, -⟩ := z2t (w.alloc (.cells #[] 32)) 23 w.heap.size (.slice (some ⟨w.heap.size, 0, none⟩) 0 0) [] (World.ownsRow_made w #[] 0 (Nat.le_refl _) (Nat.zero_le _) (by simp)) (some ad) cap xs (hX.old (z04 _ _)) (by simp; omega) (by simp)
  have HO : Hid (OwnL w' w.heap.size v' xs) := hid (by simpa using hown)
  have HB : Hid (Below w.heap.size w w') := hid ((z04 w _).grown hgrow (by simp) (by intro k hk; simp [Value.ownBlock] at hk; omega))
  have HR := hid hr
  clear hr hown hgrow hX
  go_enter Tryz.func80, Tryz.ntmps80
  go_wp2_with (at_builtin; refine Lib.wpList_append_run _ rfl _ _ _ _ rfl _ _ rfl rfl _ _ HR.out ?_)
  go_ret
  exact ⟨v', rfl, HO.out, HB.out⟩
theorem z2h (z : Array Value) (n : Nat) : (Builtin.zeroCells z n).size = n * z.size := by simp [Builtin.zeroCells]
theorem zcl (w : World) (n : Nat) (h0 : 0 < n) (hn : n <= 1000000) : Calls Tryz.prog 163 #[.slice none 0 0, .int .i64 n] w (z6p [] w) := by
 obtain ⟨i0, hi, hz0, hz1, hz2⟩ := info_parts infoL
 have hG : n <= grownCap w n 0 32 := grownCap_ge w _ _ _
 have hG2 : grownCap w n 0 32 <= maxLen := grownCap_le_maxLen w n 0 32 (by unfold maxLen; omega)
 obtain ⟨w', HR, HO, HB⟩ : ∃ w', Hid ((Builtin.append_ #[23, 3] 23 #[.slice none 0 0, .int .i64 n]).run Tryz.prog w = .ok (.slice (some ⟨w.heap.size, 0, none⟩) n (grownCap w n 0 32)) w') /\ Hid (OwnL w' w.heap.size (.slice (some ⟨w.heap.size, 0, none⟩) 0 (grownCap w n 0 32)) []) /\ Hid (Below w.heap.size w w') := by
  have h := Lib.run_append_grow_zeros (P := Tryz.prog) w 23 3 23 32 i0 _ .i64 .i64 Tryz.underlying23 Tryz.underlying3 hi hz0 none 0 0 [] (run_firstCells_none w.drew i0.size 0 0 0) n h0 (by omega) (by omega) (by omega) (by rw [hz2]; omega) (growslice_fits (by omega) (by rw [hz2]; omega))
  simp only [Nat.zero_add] at h
  refine ⟨_, hid h, hid ?_, hid ((Below.refl _ w).drew.alloc (Nat.le_refl _) _)⟩
  refine World.ownsRow_made w.drew _ _ (Nat.le_refl _) hG2 ?_
  rw [Array.size_append, Array.size_append, z2h, z2h]
  show 0 + n * 4 + (grownCap w n 0 32 - n) * 4 = grownCap w n 0 32 * 4
  omega
 unfold maxLen at hG2
 generalize grownCap w n 0 32 = G at *
 go_enter Tryz.func163, Tryz.ntmps163
 go_wp2_with (at_builtin; refine Lib.wpList_append_run _ rfl _ _ _ _ rfl _ _ rfl rfl _ _ HR.out ?_)
 go_ret
 exact ⟨_, rfl, HO.out, HB.out⟩
def z49 (w : World) (B : Nat) (ls : List (List Cli)) : Prop := B < w.heap.size /\ ∀ (k : Nat) (l : List Cli), ls[k]? = some l -> ∃ a c, w.cell? ⟨B, k, none⟩ = some (.slice a l.length c) /\ SlL w (Old w) (.slice a l.length c) l
theorem z49.below {w w' : World} {B : Nat} {ls : List (List Cli)} (h : z49 w B ls) (hb : Below w.heap.size w w') : z49 w' B ls :=
 ⟨Nat.lt_of_lt_of_le h.1 hb.size, fun k l hl => by
  obtain ⟨a, c, h1, h2⟩ := h.2 k l hl
  exact ⟨a, c, (hb.cell (p := ⟨B, k, none⟩) h.1).trans h1, h2.old hb⟩⟩
theorem z3q {ls : List (List Cli)} {k : Nat} {l : List Cli} (h : ls[k]? = some l) : (ls.take (k + 1)).flatten = (ls.take k).flatten ++ l := by
 obtain ⟨hlt, rfl⟩ := List.getElem?_eq_some_iff.1 h
 rw [List.take_succ_eq_append_getElem hlt, List.flatten_append]; simp
theorem z3a (ls : List (List Cli)) (k : Nat) : (ls.take k).flatten.length <= ls.flatten.length := by
 have : ls.flatten = (ls.take k).flatten ++ (ls.drop k).flatten := by rw [<- List.flatten_append, List.take_append_drop]
 rw [this, List.length_append]; omega
theorem z2d (w : World) (B c : Nat) (ls : List (List Cli)) (h : z49 w B ls) (hl : ls.length <= 1000) (h0 : 0 < ls.flatten.length) (hn : ls.flatten.length <= 1000000) :
  Calls Tryz.prog 129 #[.slice (some ⟨B, 0, none⟩) ls.length c] w (z6p ls.flatten w) := by
 have HL := hid h
 have hB := h.1
 clear h
 go_enter Tryz.func129, Tryz.ntmps129
 go_wp2
 go_loop [3, 11] (fun s i => ∃ k : Nat, k <= ls.length /\ i = .int .i64 k /\ s = .int .i64 ((ls.take k).flatten.length : Nat)) (fun _ i => ls.length - (intOf i).toNat)
 case atStart => exact ⟨0, by omega, rfl, rfl⟩
 case round =>
  obtain ⟨k, hk, rfl, rfl⟩ := hrel
  by_cases hlt : k < ls.length
  ·obtain ⟨l, hl1⟩ : ∃ l, ls[k]? = some l := ⟨_, List.getElem?_eq_getElem hlt⟩
   obtain ⟨a, c1, hc, -⟩ := HL.out.2 k l hl1
   have HT : Hid ((ls.take (k + 1)).flatten.length = (ls.take k).flatten.length + l.length) := hid (by rw [z3q hl1, List.length_append])
   have hle := z3a ls (k + 1)
   rw [HT.out] at hle
   clear hl1
   generalize (ls.take k).flatten.length = m at *
   go_wp2
   go_round
   case rel => exact ⟨k + 1, by omega, by go_num, by rw [HT.out]; go_num⟩
   case measure => simp [intOf]; omega
  ·have HK : Hid ((ls.take k).flatten = ls.flatten) := hid (by rw [List.take_of_length_le (by omega)])
   have e1 : (ls.take k).flatten.length = ls.flatten.length := by rw [HK.out]
   rw [e1]
   clear e1
   have HLEN : ∃ n, Hid (n = ls.flatten.length) /\ 0 < n /\ n <= 1000000 := ⟨_, hid rfl, h0, hn⟩
   obtain ⟨n, HN, hn0, hn1⟩ := HLEN
   rw [<- HN.out]
   go_wp2_with fail
   refine (zcl w n hn0 hn1).mono ?_
   rintro e w1 ⟨v, rfl, hown, hb1⟩
   have HO := hid hown
   have HB := hid hb1
   clear hown hb1
   go_wp2
   go_loopw [6, 27] (fun s i wr => ∃ k : Nat, k <= ls.length /\ i = .int .i64 k /\ Hid (OwnL wr w.heap.size s (ls.take k).flatten) /\ Hid (Below w.heap.size w wr)) (fun _ i _ => ls.length - (intOf i).toNat)
   case atStart => exact ⟨0, by omega, rfl, hid (by simpa using HO.out), HB⟩
   case round =>
    obtain ⟨k, hk, rfl, HOr, HBr⟩ := hrel
    by_cases hlt : k < ls.length
    ·obtain ⟨l, hl1⟩ : ∃ l, ls[k]? = some l := ⟨_, List.getElem?_eq_getElem hlt⟩
     obtain ⟨a, c1, hc, hIn⟩ := (HL.out.below HBr.out).2 k l hl1
     have hle := z3a ls (k + 1)
     rw [z3q hl1, List.length_append] at hle
     obtain ⟨v', w', hr, hown, hgrow, -⟩ := z2t wr 23 w.heap.size u6 (ls.take k).flatten HOr.out a c1 l hIn (by omega) HBr.out.size
     have HO2 : Hid (OwnL w' w.heap.size v' (ls.take (k + 1)).flatten) := hid (by rw [z3q hl1]; exact hown)
     have HB2 : Hid (Below w.heap.size w w') := hid (HBr.out.grown hgrow (HBr.out.size) (by intro g hg; exact (HOr.out.lt g hg).1))
     have HR := hid hr
     clear hr hown hgrow hIn hl1 hle
     obtain ⟨a0, cap0, hv0, -⟩ := z0g HOr.out
     subst hv0
     go_wp2_with (at_builtin; refine Lib.wpList_append_run _ rfl _ _ _ _ rfl _ _ rfl rfl _ _ HR.out ?_)
     go_roundw
     case rel => exact ⟨k + 1, by omega, by go_num, HO2, HB2⟩
     case measure => simp [intOf]; omega
    ·have HK2 : Hid (OwnL wr w.heap.size u6 ls.flatten) := hid (by have := HOr.out; rwa [List.take_of_length_le (by omega)] at this)
     go_wp2
     go_ret
     exact ⟨u6, rfl, HK2.out, HBr.out⟩
end Go.Proofs.YtdkkkeoicekdgaaGreatDoor.Md

end

section

namespace Go.Proofs.YtdkkkeoicekdgaaGreatDoor.Ca
open Go.RowKit Go.Proofs.YtdkkkeoicekdgaaGreatDoor
theorem ne0 {k : Nat} (h : k ≠ 0) : ((k : Int) != 0) = true := by rw [bne_iff_ne]; omega
end Go.Proofs.YtdkkkeoicekdgaaGreatDoor.Ca

end

section

namespace Go.Proofs.YtdkkkeoicekdgaaGreatDoor.Ca
open Go.RowKit Go.Proofs.YtdkkkeoicekdgaaGreatDoor
abbrev lsC (L : Value) : Array Value := #[.int .i64 3, .int .i64 0, .string ⟨#[]⟩, L]
abbrev txV (s : BA) : Value := .agg #[.int .i64 2, .int .i64 0, .string s, .slice none 0 0]
structure BI (b B : Nat) (w wr : World) (L : Value) (ts : List Co.Tree) (vs : List Value) : Prop where
 blk : wr.heap[b]? = some (.cells (lsC L) 88 (0, 0))
 own : wr.ownsRow B 88 4 L ts.length vs
 rep : Co.z0a wr (fun g => g < wr.heap.size /\ b < g /\ some g ≠ L.ownBlock) ts vs
 below : Below w.heap.size w wr
 hb : w.heap.size <= b
 hB : b < B
theorem BI.call {b B : Nat} {w wr w2 : World} {L : Value} {ts : List Co.Tree} {vs : List Value} (h : BI b B w wr L ts vs) (hb : Below wr.heap.size wr w2) : BI b B w w2 L ts vs :=
 ⟨(hb.block _ (Co.z01 h.blk)).trans h.blk, Co.z0e h.own (fun g hg => hb.block g (h.own.lt g hg).2),
  Co.z0a.keep (fun g hg => hb.block g hg.1) (fun _ hg => ⟨Nat.lt_of_lt_of_le hg.1 hb.size, hg.2⟩) _ _ h.rep, h.below.trans (hb.mono h.below.size), h.hb, h.hB⟩
theorem BI.step {b B g c : Nat} {w wr w2 w3 : World} {L : Value} {ts : List Co.Tree} {vs : List Value} {t : Co.Tree} {c0 c1 c2 c3 : Value} {o : Obj} (h : BI b B w wr L ts vs) {m : Nat} (hm : ts.length = m) (hb2 : Below wr.heap.size wr w2)
  (hr : Co.Rep w2 (fun g => wr.heap.size <= g /\ g < w2.heap.size) t (.agg #[c0, c1, c2, c3]))
  (hown : w3.ownsRow B 88 4 (.slice (some ⟨g, 0, none⟩) (m + 1) c) (m + 1) (vs ++ [c0, c1, c2, c3])) (hg : (w2.alloc o).grownBy w3 L.ownBlock) {n : Nat} (hN : w2.heap.size = n) (hl : L.ownBlock = some g ∨ g = n + 1) :
  BI b B w (w3.setCell ⟨b, 3, none⟩ (.slice (some ⟨g, 0, none⟩) (m + 1) c)) (.slice (some ⟨g, 0, none⟩) (m + 1) c) (ts ++ [t]) (vs ++ [c0, c1, c2, c3]) := by
 subst hm
 subst hN
 have h2 := h.call hb2
 have hlb := Co.z01 h2.blk
 have hlb0 := Co.z01 h.blk
 have hB := h.hB
 have hws := h.below.size
 have hwb := h.hb
 have hne : ∀ k, L.ownBlock = some k -> B <= k /\ k < wr.heap.size := fun k hk => h.own.lt k hk
 have hgb : B <= g := (hown.lt g rfl).1
 have hsz : w2.heap.size + 1 <= w3.heap.size := by have := hg.size; rw [World.size_alloc] at this; exact this
 have hst : ∀ k, k < w2.heap.size -> some k ≠ L.ownBlock -> w3.heap[k]? = w2.heap[k]? := fun k hk hn => (hg.block k (by rw [World.size_alloc]; omega) hn).trans (Below.heap_alloc _ _ _ hk)
 have hset : ∀ k, k ≠ b -> (w3.setCell ⟨b, 3, none⟩ (.slice (some ⟨g, 0, none⟩) (ts.length + 1) c)).heap[k]? = w3.heap[k]? := fun k hk => Below.heap_setCell _ _ _ _ hk
 have hblk3 : w3.heap[b]? = some (.cells (lsC L) 88 (0, 0)) := (hst b hlb (fun e => by have := hne b e.symm; omega)).trans h2.blk
 have hszs : (w3.setCell ⟨b, 3, none⟩ (.slice (some ⟨g, 0, none⟩) (ts.length + 1) c)).heap.size = w3.heap.size := by simp [World.setCell]
 refine ⟨Co.z1d hblk3 3 _, ?_, ?_, ?_, h.hb, h.hB⟩
 ·rw [List.length_append]
  exact Co.z0e hown (fun g' hg' => by
   obtain rfl : g = g' := Option.some.inj hg'
   exact hset g (by omega))
 ·refine Co.z0a.snoc ?_ ts vs ?_
  ·refine Co.Rep.keep (fun k hk => ?_) (fun k hk => ?_) t _ hr
   ·exact (hset k (by omega)).trans (hst k hk.2 (fun e => by have := hne k e.symm; omega))
   ·refine ⟨by rw [hszs]; omega, by omega, fun e => ?_⟩
    obtain rfl : k = g := Option.some.inj e
    rcases hl with hl | hl
    ·have := hne k hl; omega
    ·omega
  ·refine Co.z0a.keep (fun k hk => ?_) (fun k hk => ?_) ts vs h2.rep
   ·exact (hset k (by have := hk.2.1; omega)).trans (hst k hk.1 hk.2.2)
   ·refine ⟨by rw [hszs]; omega, hk.2.1, fun e => ?_⟩
    obtain rfl : k = g := Option.some.inj e
    rcases hl with hl | hl
    ·exact hk.2.2 hl.symm
    ·have := hk.1; omega
 ·refine h2.below.trans ⟨?_, ?_, ?_, by rw [hszs]; omega, fun k hk => ?_⟩
  ·exact hg.os
  ·exact hg.tape
  ·exact hg.output
  ·have h5 := h2.below.size
   exact (hset k (by omega)).trans (hst k (by omega) (fun e => by have := hne k e.symm; omega))
theorem BI.blk3 {b B : Nat} {w wr w2 w3 : World} {L : Value} {ts : List Co.Tree} {vs : List Value} {o : Obj} (h : BI b B w wr L ts vs) (hb2 : Below wr.heap.size wr w2) (hg : (w2.alloc o).grownBy w3 L.ownBlock) :
  w3.heap[b]? = some (.cells (lsC L) 88 (0, 0)) := by
 have h2 := h.call hb2
 have hlb := Co.z01 h2.blk
 have hB := h.hB
 exact ((hg.block b (by rw [World.size_alloc]; omega) (fun e => by have := (h.own.lt b e.symm).1; omega)).trans (Below.heap_alloc _ _ _ hlb)).trans h2.blk
theorem BI.start (w w1 : World) (hb : Below w.heap.size w w1) : BI w1.heap.size (w1.heap.size + 1) w (w1.alloc (.cells (lsC (.slice none 0 0)) 88)) (.slice none 0 0) [] [] :=
 ⟨heap_alloc_new _ _, World.ownsRow_nil _ _ _ _, by rw [Co.z0a], hb.alloc hb.size _, hb.size, Nat.lt_succ_self _⟩
theorem BI.slice {b B : Nat} {w wr : World} {L : Value} {ts : List Co.Tree} {vs : List Value} (h : BI b B w wr L ts vs) : ∃ a cap, L = .slice a ts.length cap := by
 rcases h.own.2 with ⟨rfl, h0⟩ | ⟨g, cap, cur, rfl, -⟩
 ·exact ⟨none, 0, by rw [h0]⟩
 ·exact ⟨_, cap, rfl⟩
theorem BI.new {b B : Nat} {w wr : World} {L : Value} {ts : List Co.Tree} {vs : List Value} (h : BI b B w wr L ts vs) : Co.Rep wr (fun g => b < g /\ g < wr.heap.size) (.list ts) (.agg (lsC L)) := by
 rw [Co.Rep]
 have hB := h.hB
 refine ⟨L, vs, rfl, ?_, fun g hg => by have := h.own.lt g hg; exact ⟨by omega, this.2⟩, Co.z0a.keep (fun _ _ => rfl) (fun g hg => ⟨hg.2.1, hg.1⟩) _ _ h.rep⟩
 refine ⟨h.own.1, ?_⟩
 rcases h.own.2 with h0 | ⟨g, cap, cur, hv, hb, hr⟩
 ·exact .inl h0
 ·exact .inr ⟨g, cap, cur, hv, Nat.zero_le _, hr⟩
theorem BI.tree {b B : Nat} {w wr : World} {L : Value} {ts : List Co.Tree} {vs : List Value} (h : BI b B w wr L ts vs) : Co.Rep wr (Co.S24 wr) (.list ts) (.agg (lsC L)) :=
 Co.Rep.s24 _ _ (Co.Rep.keep (fun _ _ => rfl) (fun _ hg => hg.2) _ _ h.new)
theorem infoV : (Tryz.prog.info? 88).map (fun i => (i.zero, i.size, i.bytes)) = some (some (.agg #[.int .i64 0, .int .i64 0, .string ByteArray.empty, .slice none 0 0]), 4, 56) := by kernel_rfl
theorem z81 (w : World) (x y z u : Value) (t : TypeId) {n : Nat} (hB : w.heap.size = n) : ∀ j v, [x, y, z, u][j]? = some v -> (w.alloc (.cells #[x, y, z, u] t)).cell? (Addr.add ⟨n, 0, none⟩ j) = some v := fun j v hv => by
 subst hB
 rw [Addr.add_mid, Nat.zero_add]
 exact (z02 w #[x, y, z, u] t).cell hv
theorem map_take {xs : List Ent} {k : Nat} {x : Ent} (h : xs[k]? = some x) : (xs.take (k + 1)).map entT = (xs.take k).map entT ++ [entT x] := by
 obtain ⟨hlt, rfl⟩ := List.getElem?_eq_some_iff.1 h
 rw [List.take_succ_eq_append_getElem hlt, List.map_append]; rfl
def NewVal (t : Co.Tree) (w : World) (e : Ending) (w' : World) : Prop := ∃ c0 c1 c2 c3, e = .returned (.agg #[c0, c1, c2, c3]) /\ Co.Rep w' (fun g => w.heap.size <= g /\ g < w'.heap.size) t (.agg #[c0, c1, c2, c3]) /\ Below w.heap.size w w'
end Go.Proofs.YtdkkkeoicekdgaaGreatDoor.Ca

end

section

namespace Go.Proofs.YtdkkkeoicekdgaaGreatDoor.Ca
set_option maxHeartbeats 6400000
set_option maxRecDepth 100000
open Go.Lib (hid)
open Go.RowKit Go.Proofs.YtdkkkeoicekdgaaGreatDoor
theorem str_eta (s : BA) : (⟨s.data.toList.toArray⟩ : BA) = s := by cases s; simp
abbrev txts (x : Ent) : List BA := [x.loc, x.key, x.pat]
abbrev txT (s : BA) : Co.Tree := .text s.data.toList
theorem txt_take {x : Ent} {k : Nat} {s : BA} (h : (txts x)[k]? = some s) : ((txts x).take (k + 1)).map txT = ((txts x).take k).map txT ++ [txT s] := by
 obtain ⟨hlt, rfl⟩ := List.getElem?_eq_some_iff.1 h
 rw [List.take_succ_eq_append_getElem hlt, List.map_append]; rfl
theorem txt_cell {x : Ent} {k : Nat} {s : BA} (h : (txts x)[k]? = some s) : [Value.string x.loc, Value.string x.key, Value.string x.pat][k]? = some (Value.string s) := by
 have : ((txts x).map Value.string)[k]? = some (Value.string s) := by rw [List.getElem?_map, h]; rfl
 exact this
theorem rep_txt (w : World) (S : Nat -> Prop) (s : BA) : Co.Rep w S (txT s) (txV s) := by
 rw [Co.Rep, str_eta]
abbrev zV : Array Value := #[.int .i64 0, .int .i64 0, .string ⟨#[]⟩, .slice none 0 0]
theorem zb5 (x : Ent) (w : World) : Calls Tryz.prog 85 #[enV x] w fun e w' => NewVal (entT x) w e w' := by
 obtain ⟨i0, hi, hz0, hz1, hz2⟩ := info_parts infoV
 have HTX : Hid (∀ k s, (txts x)[k]? = some s -> ((txts x).take (k + 1)).map txT = ((txts x).take k).map txT ++ [txT s]) := hid (fun k s h => txt_take h)
 have HTC : Hid (∀ k s, (txts x)[k]? = some s -> [Value.string x.loc, Value.string x.key, Value.string x.pat][k]? = some (Value.string s)) := hid (fun k s h => txt_cell h)
 have HEN : Hid (entT x = .list (((txts x).take 3).map txT)) := hid rfl
 have HLN : Hid ((txts x).length = 3) := hid rfl
 obtain ⟨xl, xk, xp⟩ := x
 simp only at HTC
 obtain ⟨sts, HSS⟩ : ∃ sts, Hid (sts = txts ⟨xl, xk, xp⟩) := ⟨_, hid rfl⟩
 rw [<- HSS.out] at HTX HTC HEN HLN
 have R0 := z02 w #[.string xl, .string xk, .string xp] 81
 have c0 := R0.cell (i := 0) rfl
 have c1 := R0.cell (i := 1) rfl
 have c2 := R0.cell (i := 2) rfl
 have hz := z02 (w.alloc (.cells #[.string xl, .string xk, .string xp] 81)) zV 88
 rw [World.size_alloc] at hz
 obtain ⟨W, HWE⟩ : ∃ W, Hid (W = (w.alloc (.cells #[.string xl, .string xk, .string xp] 81)).alloc (.cells zV 88)) := ⟨_, hid rfl⟩
 rw [<- HWE.out] at hz
 have hWs : W.heap.size = w.heap.size + 1 + 1 := by rw [HWE.out, World.size_alloc, World.size_alloc]
 have HW1 : Hid (Below w.heap.size w W) := hid (by rw [HWE.out]; exact z00 (z04 _ _) (z04 _ _))
 have HBI : Hid (BI (w.heap.size + 1 + 1) (w.heap.size + 1 + 1 + 1 + 1) w ((W.alloc (.cells (lsC (.slice none 0 0)) 88)).alloc (.cells #[.string xl, .string xk, .string xp] 9)) (.slice none 0 0) ((sts.take 0).map txT) []) := hid ⟨(Below.heap_alloc _ _ _ (by rw [World.size_alloc, hWs]; omega)).trans (by rw [<- hWs]; exact heap_alloc_new _ _), World.ownsRow_nil _ _ _ _, by rw [List.take_zero, List.map_nil, Co.z0a], z00 HW1.out (z00 (z04 _ _) (z04 _ _)), by omega, by omega⟩
 have hs0 := z02 (W.alloc (.cells (lsC (.slice none 0 0)) 88)) #[.string xl, .string xk, .string xp] 9
 rw [World.size_alloc, hWs] at hs0
 have HS0 := hid hs0
 have HZ0 := hid ((hz.alloc (.cells (lsC (.slice none 0 0)) 88)).alloc (.cells #[.string xl, .string xk, .string xp] 9))
 clear R0 hz hs0
 go_enter Tryz.func85, Tryz.ntmps85
 go_wp2
 rw [<- HWE.out]
 generalize (W.alloc (.cells (lsC (.slice none 0 0)) 88)).alloc (.cells #[.string xl, .string xk, .string xp] 9) = W4 at *
 clear c0 c1 c2
 go_loopw [15] (fun i wr => ∃ (k : Nat) (L : Value) (vs : List Value), k <= 3 /\ i = .int .i64 k /\ Hid (BI (w.heap.size + 1 + 1) (w.heap.size + 1 + 1 + 1 + 1) w wr L ((sts.take k).map txT) vs) /\ Hid (Row wr (w.heap.size + 1 + 1 + 1) 9 [.string xl, .string xk, .string xp]) /\ Hid (Row wr (w.heap.size + 1) 88 zV.toList)) (fun i _ => 3 - (intOf i).toNat)
 case atStart => exact ⟨0, _, _, by omega, rfl, HBI, HS0, HZ0⟩
 case round =>
  obtain ⟨k, L, vs, hk, rfl, HI, HSr, HZr⟩ := hrel
  have hlk : ((sts.take k).map txT).length = k := by rw [List.length_map, List.length_take, HLN.out]; omega
  have HLK := hid hlk
  have hbk := HI.out.blk
  have hlb := Co.z01 hbk
  obtain ⟨aL, cL, hL⟩ := HI.out.slice
  rw [hlk] at hL
  subst hL
  have l3 : wr.cell? ⟨w.heap.size + 1 + 1, 3, none⟩ = some (.slice aL k cL) := by simp [World.cell?, hbk]
  by_cases hlt : k < 3
  ·obtain ⟨s, hs⟩ : ∃ s, sts[k]? = some s := ⟨_, List.getElem?_eq_getElem (by rw [HLN.out]; exact hlt)⟩
   have s0 := HSr.out.cell (HTC.out k s hs)
   have HMT := hid (HTX.out k s hs)
   have HZC := hid HZr.out.lt
   have HSC := hid HSr.out.lt
   clear hs hlk hbk
   go_wp2_with (at_builtin; refine zbb ?_)
   refine hid ?_
   refine wpList_append_lies _ rfl (.tmp 20) (.tmp 23) 86 rfl (w.heap.size + 1 + 1 + 1 + 1) 88 i0 _ 4 56 Tryz.underlying86 hi hz0 hz1 hz2 rfl (by omega) (.slice aL k cL) k vs ?hs ?ho ⟨wr.heap.size, 0, none⟩ 1 1 [.int .i64 2, .int .i64 0, .string s, .slice none 0 0] ?hx rfl (z81 _ _ _ _ _ _ rfl) (by simp [Value.oneCell']) (by omega) (by unfold maxLen; omega) (by omega) (by rw [World.size_alloc]; have := HSC.out; omega) (wr.heap.size + 1) (by simp) ?_
   case hs => rfl
   case hx => rfl
   case ho =>
    have h9 := HI.out.own
    rw [HLK.out] at h9
    exact h9.alloc _
   intro g c w3 hown hgrow hl hlt3
   have s3 := BI.blk3 HI.out (Below.refl _ _) hgrow
   have z3 : w3.cell? ⟨w.heap.size + 1 + 1, 3, none⟩ = some (.slice aL k cL) := by simp [World.cell?, s3]
   have f3 := Co.frozen_of_heap s3 3
   have HST := hid (BI.step HI.out HLK.out (Below.refl _ _) (rep_txt _ _ s) hown hgrow rfl hl)
   have hkeep : ∀ j, j < wr.heap.size -> j < w.heap.size + 1 + 1 + 1 + 1 -> j ≠ w.heap.size + 1 + 1 -> (w3.setCell ⟨w.heap.size + 1 + 1, 3, none⟩ (.slice (some ⟨g, 0, none⟩) (k + 1) c)).heap[j]? = wr.heap[j]? := fun j h1 h2 h3 => (Below.heap_setCell _ _ _ _ h3).trans ((hgrow.block j (by rw [World.size_alloc]; omega) (fun e => by have := (HI.out.own.lt j e.symm).1; omega)).trans (Below.heap_alloc _ _ _ h1))
   have HS3 := hid (HSr.out.keep (hkeep _ HSC.out (by omega) (by omega)))
   have HZ3 := hid (HZr.out.keep (hkeep _ HZC.out (by omega) (by omega)))
   clear hown hgrow hl s3 hkeep
   go_wp2
   go_roundw
   case rel => exact ⟨k + 1, _, _, by omega, by go_num, hid (by rw [HMT.out]; exact HST.out), HS3, HZ3⟩
   case measure => simp [intOf]; omega
  ·obtain rfl : k = 3 := by omega
   have hR := HZr.out
   have z0 := hR.cell (i := 0) rfl
   have z1 := hR.cell (i := 1) rfl
   have z2 := hR.cell (i := 2) rfl
   have z3 := hR.cell (i := 3) rfl
   have r0 := hR.thaw 0
   have r1 := hR.thaw 1
   have r2 := hR.thaw 2
   have r3 := hR.thaw 3
   have l0 : wr.cell? ⟨w.heap.size + 1 + 1, 0, none⟩ = some (.int .i64 3) := by simp [World.cell?, hbk]
   have l1 : wr.cell? ⟨w.heap.size + 1 + 1, 1, none⟩ = some (.int .i64 0) := by simp [World.cell?, hbk]
   have l2 : wr.cell? ⟨w.heap.size + 1 + 1, 2, none⟩ = some (.string ⟨#[]⟩) := by simp [World.cell?, hbk]
   have HP := hid (Co.zck hR (.int .i64 3) (.int .i64 0) (.string ⟨#[]⟩) (.slice aL 3 cL))
   have HBut := hid (Co.But.put4 (w.heap.size + 1) wr (.int .i64 3) (.int .i64 0) (.string ⟨#[]⟩) (.slice aL 3 cL))
   clear hR hbk hlk
   go_wp2
   generalize (((wr.setCell ⟨w.heap.size + 1, 0, none⟩ (.int .i64 3)).setCell ⟨w.heap.size + 1, 1, none⟩ (.int .i64 0)).setCell ⟨w.heap.size + 1, 2, none⟩ (.string ⟨#[]⟩)).setCell ⟨w.heap.size + 1, 3, none⟩ (.slice aL 3 cL) = w9 at *
   have hP := HP.out
   have hBw := HI.out.below
   refine bodyPost_ret (v := .agg #[.int .i64 3, .int .i64 0, .string ⟨#[]⟩, .slice aL 3 cL]) (by simp [results, Tryz.results85, go_sem, World.cell?, hP]) rfl ⟨_, _, _, _, rfl, ?_, ?_⟩
   ·rw [HEN.out]
    exact Co.Rep.keep (fun g hg => HBut.out.block g (by omega)) (fun g hg => ⟨by omega, by rw [HBut.out.size]; exact hg.2⟩) _ _ HI.out.new
   ·exact hBw.trans ⟨HBut.out.os, HBut.out.tape, HBut.out.output, Nat.le_of_eq HBut.out.size.symm, fun j hj => HBut.out.block j (by omega)⟩
end Go.Proofs.YtdkkkeoicekdgaaGreatDoor.Ca

end
