/- Package format: what was written is told, nothing too; evaluated, whatever happens. -/
import Derived.Test.YtdnedbcmgkilaaaGreatDoorZSg1
import Derived.Test.YtdnedbcmgkilaaaGreatDoorZSg2
import Derived.Test.YtdnedbcmgkilaaaGreatDoorZSPw

section

namespace Go.Proofs.YtdnedbcmgkilaaaGreatDoor
set_option maxHeartbeats 3200000
set_option maxRecDepth 100000
open Go.Lib (hid)
open Go.RowKit
theorem zca (B b : Nat) (w : World) (h : Lib.IsBuilderF 153 5 B b [] w) (hB : B <= w.heap.size) :
  Calls Tryz.prog 65 #[.pointer (some ⟨b, 0, none⟩)] w fun e w' => e = .returned (.string ⟨#[]⟩) /\ (Below B w w' /\ Lib.OthersKept 5 (some b) w w') := by
 obtain ⟨p, -, v, hbk, hown, -⟩ : ∃ p, Lib.BuilderAtF 153 5 B b p [] w := by
  rcases h with h | h
  ·exact ⟨_, h⟩
  ·exact ⟨_, h⟩
 have hUS : ∀ (W : World) (q : Option Addr), (Builtin.unsafeString_ #[129, 3] 9 #[.pointer q, .int .i64 0]).run Tryz.prog W = .ok (.string .empty) W := fun W q => Lib.run_unsafeString_none (w := W) 129 3 9 q
 have mixed : Tryz.prog.follows Departure.mixedOrders = true := by kernel_rfl
 have HF : Hid (Below B w w.drew /\ Lib.OthersKept 5 (some b) w w.drew) := hid ⟨Below.drew (Below.refl B w), (Lib.OthersKept.refl _ _ w).drew⟩
 rcases hown.2 with ⟨rfl, _⟩ | ⟨g, cap, cur, fz, rfl, hbg, hg, _, _, _, _, _⟩
 ·have c1 : w.drew.cell? ⟨b, 1, none⟩ = some (.slice none 0 0) := by
   have : w.drew.heap[b]? = some (.cells #[p, .slice none 0 0] 153 (0, 0)) := hbk
   rw [Lib.cell_of_heap this]; rfl
  have hSD : (Builtin.unsafeSliceData_ #[81] 129 #[.slice none 0 0]).run Tryz.prog w.drew = .ok (.pointer none) w.drew := rfl
  clear hown hbk h
  go_enter Tryz.func65, Tryz.ntmps65
  go_wp2
  go_region_o
  all_goals (go_wp2; go_ret; exact ⟨rfl, HF.out⟩)
 ·have hlt : b < w.heap.size := by
   rcases Nat.lt_or_ge b w.heap.size with h' | h'
   ·exact h'
   ·simp [Array.getElem?_eq_none h'] at hbk
  simp only [List.length_nil] at hbk
  by_cases hc0 : cap = 0
  ·subst hc0
   have c1 : w.drew.cell? ⟨b, 1, none⟩ = some (.slice (some ⟨g, 0, none⟩) 0 0) := by
    have : w.drew.heap[b]? = some (.cells #[p, .slice (some ⟨g, 0, none⟩) 0 0] 153 (0, 0)) := hbk
    rw [Lib.cell_of_heap this]; rfl
   have hSD : (Builtin.unsafeSliceData_ #[81] 129 #[.slice (some ⟨g, 0, none⟩) 0 0]).run Tryz.prog w.drew = .ok (.pointer (some ⟨w.drew.heap.size, 0, none⟩)) (w.drew.alloc (.view ⟨g, 0, none⟩ 5)) :=
    Lib.run_unsafeSliceData_zero w.drew _ _ 5 Tryz.underlying129 ⟨g, 0, none⟩ 0 (5, cur.size) (by have hg' : w.drew.heap[g]? = some (.cells cur 5 fz) := hg; simp [World.shape?, hg'])
   have c2 : (w.drew.alloc (.view ⟨g, 0, none⟩ 5)).cell? ⟨b, 1, none⟩ = some (.slice (some ⟨g, 0, none⟩) 0 0) := by
    have : (w.drew.alloc (.view ⟨g, 0, none⟩ 5)).heap[b]? = _ := (Lib.alloc_old w.drew _ b hlt).trans hbk
    rw [Lib.cell_of_heap this]; rfl
   have c3 : (w.alloc (.view ⟨g, 0, none⟩ 5)).drew.cell? ⟨b, 1, none⟩ = some (.slice (some ⟨g, 0, none⟩) 0 0) := c2
   have c0 : w.cell? ⟨b, 1, none⟩ = some (.slice (some ⟨g, 0, none⟩) 0 0) := c1
   have HF2 : Hid (Below B w (w.drew.alloc (.view ⟨g, 0, none⟩ 5)) /\ Lib.OthersKept 5 (some b) w (w.drew.alloc (.view ⟨g, 0, none⟩ 5))) := hid ⟨HF.out.1.alloc hB _, HF.out.2.alloc _⟩
   clear hown hbk h hg
   go_enter Tryz.func65, Tryz.ntmps65
   go_wp2
   go_region_o
   all_goals (go_wp2; go_ret; exact ⟨rfl, HF2.out⟩)
  ·have c1 : w.drew.cell? ⟨b, 1, none⟩ = some (.slice (some ⟨g, 0, none⟩) 0 cap) := by
    have : w.drew.heap[b]? = some (.cells #[p, .slice (some ⟨g, 0, none⟩) 0 cap] 153 (0, 0)) := hbk
    rw [Lib.cell_of_heap this]; rfl
   have hSD : (Builtin.unsafeSliceData_ #[81] 129 #[.slice (some ⟨g, 0, none⟩) 0 cap]).run Tryz.prog w.drew = .ok (.pointer (some ⟨g, 0, none⟩)) w.drew := Lib.run_unsafeSliceData_row _ _ _ _ _ _ hc0
   clear hc0 hown hbk h hg
   go_enter Tryz.func65, Tryz.ntmps65
   go_wp2
   go_region_o
   all_goals (go_wp2; go_ret; exact ⟨rfl, HF.out⟩)
theorem zfj (B b : Nat) (l : List UInt8) (w : World) (h : Lib.IsBuilderF 153 5 B b (Lib.byteCells l) w) (hB : B <= w.heap.size) :
  Calls Tryz.prog 65 #[.pointer (some ⟨b, 0, none⟩)] w fun e w' => e = .returned (.string ⟨l.toArray⟩) /\ (Below B w w' /\ Lib.OthersKept 5 (some b) w w') := by
 cases l with
 | nil => exact zca B b w h hB
 | cons x r => exact zfi B b (x :: r) w h (by simp)
theorem zjg (p q : Nat) (k : Nat) (w : World) (s : BA) (x : Int) (hpq : p ≠ q) (hp : Row w p 9 [.string s]) (hq : Row w q 25 [.int .i64 x]) :
  CallsD Tryz.prog 121 #[.pointer (some ⟨p, 0, none⟩), .pointer (some ⟨q, 0, none⟩)] (.panicking ({ v := .iface 25 (.int .i64 k), recovered := false } :: [])) w fun e u' w' =>
   e = .returned (.tuple #[]) /\ u' = .panicking ({ v := .iface 25 (.int .i64 k), recovered := true } :: []) /\ Row w' p 9 [.string ⟨#[]⟩] /\ Row w' q 25 [.int .i64 k] /\ (∀ B, B <= p -> B <= q -> Below B w w') := by
 refine callsD_of_wpS Tryz.func121 rfl fun c₀ cs hu => ?_
 apply wpS_seq
 apply wpS_region
 simp [wpOpsS, go_sem, recoverD, hu, Tryz.ntmps121, Exit.thenS]
 apply wpS_seq
 apply wpS_region
 simp [wpOpsS, go_sem, Act.eval, Exit.thenS, Array.replicate]
 refine wpS_cond (t := true) (by simp [Act.eval]) ?_
 simp only [if_true]
 refine wpS_of_wp ?_
 have a0 := hp.cell (i := 0) rfl
 have a1 := hq.cell (i := 0) rfl
 have z0 := hp.thaw 0
 have z1 := hq.thaw 0
 have hta : ∀ W : World, (Instr.typeAssert (.iface 25 (.int .i64 (k : Int))) 20 25 false).run Tryz.prog W = .ok (.int .i64 k) W := fun W => by kernel_rfl
 have mixed : Tryz.prog.follows Departure.mixedOrders = true := by kernel_rfl
 have HF : Hid (∀ W, Same ((w.setCell ⟨p, 0, none⟩ (.string ⟨#[]⟩)).setCell ⟨q, 0, none⟩ (.int .i64 k)) W ∨ Same ((w.setCell ⟨q, 0, none⟩ (.int .i64 k)).setCell ⟨p, 0, none⟩ (.string ⟨#[]⟩)) W -> Row W p 9 [.string ⟨#[]⟩] /\ Row W q 25 [.int .i64 k] /\ (∀ B, B <= p -> B <= q -> Below B w W)) := hid (by
  rintro W (hs | hs)
  ·refine ⟨hs.row ((Row.set (cs := [.string s]) hp 0 (.string ⟨#[]⟩)).keep (Below.heap_setCell _ _ _ _ (by simpa using hpq))), hs.row (Row.set (cs := [.int .i64 x]) (hq.keep (Below.heap_setCell _ _ _ _ (by simpa using Ne.symm hpq))) 0 (.int .i64 k)), fun B h1 h2 => ?_⟩
   exact (((Below.refl B w).setCell (p := ⟨p, 0, none⟩) h1 (.string ⟨#[]⟩)).setCell (p := ⟨q, 0, none⟩) h2 (.int .i64 k)).trans hs.below
  ·refine ⟨hs.row (Row.set (cs := [.string s]) (hp.keep (Below.heap_setCell _ _ _ _ (by simpa using hpq))) 0 (.string ⟨#[]⟩)), hs.row ((Row.set (cs := [.int .i64 x]) hq 0 (.int .i64 k)).keep (Below.heap_setCell _ _ _ _ (by simpa using Ne.symm hpq))), fun B h1 h2 => ?_⟩
   exact (((Below.refl B w).setCell (p := ⟨q, 0, none⟩) h2 (.int .i64 k)).setCell (p := ⟨p, 0, none⟩) h1 (.string ⟨#[]⟩)).trans hs.below)
 have b0 : (w.setCell ⟨q, 0, none⟩ (.int .i64 k)).drew.cell? ⟨p, 0, none⟩ = some (.string s) := (World.cell?_of_block (a := ⟨p, 0, none⟩) (Below.heap_setCell w ⟨q, 0, none⟩ (.int .i64 k) p (by simpa using hpq))).trans a0
 go_region_o
 all_goals (
  simp [bodyPostS, results, Tryz.results121]
  exact HF.out _ (by first | exact .inl ((Same.refl _).drew) | exact .inr ((Same.refl _).drew)))
def PostP (B b : Nat) (W : World) (r : Ev) (e : Ending) (w' : World) : Prop := (match r with
 | .ok o => e = .returned (.tuple #[]) /\ OutAt B b o w'
 | .error k => e = panE k) /\ Ekp B b W w'
def EvE (r : Ev) (e : Ending) : Prop := match r with
 | .ok o => e = .returned (.tuple #[.string ⟨o.toArray⟩, .int .i64 0])
 | .error k => e = .returned (.tuple #[.string ⟨#[]⟩, .int .i64 k])
def PartsE (w : World) (lang : BA) (asl psl : Value) (r : Ev) : Prop := ∀ (W : World) (b : Nat), Below w.heap.size w W -> w.heap.size <= b -> OutAt w.heap.size b [] W ->
 Calls Tryz.prog 122 #[.agg #[.string lang, asl], psl, .int .i64 0, addFn b] W (PostP w.heap.size b W r)
theorem z9p (w : World) (lang : BA) (asl psl : Value) (r : Ev) (HP : PartsE w lang asl psl r) :
  Calls Tryz.prog 82 #[psl, .agg #[.string lang, asl]] w fun e w' => EvE r e /\ Below w.heap.size w w' := by
 have hmf : ∀ (fn : Fn) (first cap : Array Value) (w : World), (Instr.makeFunc fn first cap).run Tryz.prog w = .ok (.func fn first cap) w := fun _ _ _ _ => rfl
 have R1 : Row ((((w.alloc (.cells #[.string lang, asl] 115)).alloc (.cells #[.string ⟨#[]⟩] 9)).alloc (.cells #[.int .i64 0] 25)).alloc (.cells #[.pointer none, .slice none 0 0] 153)) (w.heap.size + 1) 9 [.string ⟨#[]⟩] := by
  have := ((z04 (w.alloc (.cells #[.string lang, asl] 115)) #[.string ⟨#[]⟩] 9).alloc (.cells #[.int .i64 0] 25)).alloc (.cells #[.pointer none, .slice none 0 0] 153)
  rw [World.size_alloc] at this; exact this
 have R2 : Row ((((w.alloc (.cells #[.string lang, asl] 115)).alloc (.cells #[.string ⟨#[]⟩] 9)).alloc (.cells #[.int .i64 0] 25)).alloc (.cells #[.pointer none, .slice none 0 0] 153)) (w.heap.size + 1 + 1) 25 [.int .i64 0] := by
  have := (z04 ((w.alloc (.cells #[.string lang, asl] 115)).alloc (.cells #[.string ⟨#[]⟩] 9)) #[.int .i64 0] 25).alloc (.cells #[.pointer none, .slice none 0 0] 153)
  rw [World.size_alloc, World.size_alloc] at this; exact this
 have R3 : Row ((((w.alloc (.cells #[.string lang, asl] 115)).alloc (.cells #[.string ⟨#[]⟩] 9)).alloc (.cells #[.int .i64 0] 25)).alloc (.cells #[.pointer none, .slice none 0 0] 153)) (w.heap.size + 1 + 1 + 1) 153 [.pointer none, .slice none 0 0] := by
  have := z04 (((w.alloc (.cells #[.string lang, asl] 115)).alloc (.cells #[.string ⟨#[]⟩] 9)).alloc (.cells #[.int .i64 0] 25)) #[.pointer none, .slice none 0 0] 153
  rw [World.size_alloc, World.size_alloc, World.size_alloc] at this; exact this
 have HB4 := hid ((below3 w (.cells #[.string lang, asl] 115) (.cells #[.string ⟨#[]⟩] 9) (.cells #[.int .i64 0] 25)).alloc (by rw [World.size_alloc, World.size_alloc, World.size_alloc]; omega) (.cells #[.pointer none, .slice none 0 0] 153))
 have HPP := hid HP
 clear HP
 go_enter_defers Tryz.func82, Tryz.ntmps82
 go_wp2_with fail
 generalize (((w.alloc (.cells #[.string lang, asl] 115)).alloc (.cells #[.string ⟨#[]⟩] 9)).alloc (.cells #[.int .i64 0] 25)).alloc (.cells #[.pointer none, .slice none 0 0] 153) = w4 at *
 have ho : OutAt w.heap.size (w.heap.size + 1 + 1 + 1) [] w4 := .inl ⟨by omega, .slice none 0 0, R3, World.ownsRowF_of (World.ownsRow_nil _ _ _ _), by simp [Value.ownBlock]⟩
 refine (HPP.out w4 _ HB4.out (by omega) ho).mono ?_
 clear ho R3
 cases r with
 | ok l =>
  rintro e w5 ⟨⟨rfl, h5⟩, e5⟩
  have HS := hid (zfj w.heap.size (w.heap.size + 1 + 1 + 1) l w5 h5 (by have := HB4.out.size; have := e5.below.size; omega))
  have HR1 := hid (e5.row R1 (by decide) (by omega))
  have HR2 := hid (e5.row R2 (by decide) (by omega))
  have HB5 := hid (HB4.out.trans e5.below)
  clear h5 e5 R1 R2 HB4 HPP
  go_wp2_with fail
  refine HS.out.mono ?_
  rintro e w6 ⟨rfl, b6, o6⟩
  have e6 : Ekp w.heap.size (w.heap.size + 1 + 1 + 1) w5 w6 := ⟨b6, o6⟩
  have HR3 := hid (e6.row HR1.out (by decide) (by omega))
  have HR4 := hid (e6.row HR2.out (by decide) (by omega))
  have HB6 := hid (HB5.out.trans b6)
  clear e6 b6 o6 HR1 HR2 HB5 HS
  have z1 := HR3.out.thaw 0
  have z2 := HR4.out.thaw 0
  have c1 := HR3.out.cell (i := 0) rfl
  have c2 := HR4.out.cell (i := 0) rfl
  have HQ1 : Hid (Row ((w6.setCell ⟨w.heap.size + 1, 0, none⟩ (.string ⟨l.toArray⟩)).setCell ⟨w.heap.size + 1 + 1, 0, none⟩ (.int .i64 0)) (w.heap.size + 1) 9 [.string ⟨l.toArray⟩]) := hid (Row.keep (Row.set (cs := [.string ⟨#[]⟩]) HR3.out 0 (.string ⟨l.toArray⟩)) (Below.heap_setCell _ _ _ _ (by simp)))
  have HQ2 : Hid (Row ((w6.setCell ⟨w.heap.size + 1, 0, none⟩ (.string ⟨l.toArray⟩)).setCell ⟨w.heap.size + 1 + 1, 0, none⟩ (.int .i64 0)) (w.heap.size + 1 + 1) 25 [.int .i64 0]) := hid (Row.set (cs := [.int .i64 0]) (Row.keep HR4.out (Below.heap_setCell _ _ _ _ (by simp))) 0 (.int .i64 0))
  have HB8 : Hid (Below w.heap.size w ((w6.setCell ⟨w.heap.size + 1, 0, none⟩ (.string ⟨l.toArray⟩)).setCell ⟨w.heap.size + 1 + 1, 0, none⟩ (.int .i64 0))) := hid ((HB6.out.setCell (p := ⟨w.heap.size + 1, 0, none⟩) (Nat.le_succ _) _).setCell (p := ⟨w.heap.size + 1 + 1, 0, none⟩) (Nat.le_trans (Nat.le_succ _) (Nat.le_succ _)) _)
  go_wp2
  generalize (w6.setCell ⟨w.heap.size + 1, 0, none⟩ (.string ⟨l.toArray⟩)).setCell ⟨w.heap.size + 1 + 1, 0, none⟩ (.int .i64 0) = w8 at *
  refine leaves_cons (f := 121) (args := #[.pointer (some ⟨w.heap.size + 1, 0, none⟩), .pointer (some ⟨w.heap.size + 1 + 1, 0, none⟩)]) (by simp) (by simp [go_sem]) ?_
  refine (idle_any _ _ _).mono ?_
  rintro e u' w9 ⟨rfl, rfl, rfl⟩
  have d1 := HQ1.out.cell (i := 0) rfl
  have d2 := HQ2.out.cell (i := 0) rfl
  simp [Leaves, settle, results, Tryz.results82, go_sem, d1, d2]
  exact ⟨rfl, HB8.out⟩
 | error k =>
  rintro e w5 ⟨he, e5⟩
  obtain rfl : e = panE k := he
  have HR1 := hid (e5.row R1 (by decide) (by omega))
  have HR2 := hid (e5.row R2 (by decide) (by omega))
  have HB5 := hid (HB4.out.trans e5.below)
  clear e5 R1 R2 HB4 HPP
  go_wp2
  refine leaves_cons (f := 121) (args := #[.pointer (some ⟨w.heap.size + 1, 0, none⟩), .pointer (some ⟨w.heap.size + 1 + 1, 0, none⟩)]) (by simp) (by simp [go_sem]) ?_
  refine (zjg (w.heap.size + 1) (w.heap.size + 1 + 1) k w5 _ _ (by omega) HR1.out HR2.out).mono ?_
  rintro e u' w9 ⟨rfl, rfl, r1, r2, hb⟩
  have HB9 := hid (HB5.out.trans (hb w.heap.size (by omega) (by omega)))
  have d1 := r1.cell (i := 0) rfl
  have d2 := r2.cell (i := 0) rfl
  clear hb
  simp [Leaves, settle, results, Tryz.results82, go_sem, d1, d2]
  exact ⟨rfl, HB9.out⟩
end Go.Proofs.YtdnedbcmgkilaaaGreatDoor

end

section

namespace Go.Proofs.YtdnedbcmgkilaaaGreatDoor
set_option maxHeartbeats 3200000
set_option maxRecDepth 100000
open Go.Lib (hid)
open Go.RowKit
mutual
def stP (m : Nat) : Pt -> Prop
 | .mk _ t _ cs => t.size <= m /\ stCs m cs
def stPs (m : Nat) : List Pt -> Prop
 | [] => True
 | x :: r => stP m x /\ stPs m r
def stCs (m : Nat) : List Cs -> Prop
 | [] => True
 | x :: r => stC m x /\ stCs m r
def stC (m : Nat) : Cs -> Prop
 | .mk _ kids => stPs m kids
end
theorem zaf {m : Nat} {x : Pt} : stP m x ↔ (x.t.size <= m /\ stCs m x.cs) := by cases x; rw [stP]; rfl
theorem stC_eq {m : Nat} {x : Cs} : stC m x ↔ stPs m x.kids := by cases x; rw [stC]; rfl
theorem z55 {m : Nat} : ∀ {xs : List Pt} {k : Nat} {x : Pt}, stPs m xs -> xs[k]? = some x -> stP m x
 | [], k, x, _, h => by simp at h
 | y :: r, 0, x, h, hx => by rw [stPs] at h; obtain rfl : y = x := (by simpa using hx); exact h.1
 | y :: r, k + 1, x, h, hx => by rw [stPs] at h; exact z55 h.2 (by simpa using hx)
theorem zdr {m : Nat} : ∀ {cs : List Cs} {x : Cs}, stCs m cs -> x ∈ cs -> stC m x
 | [], x, _, h => by cases h
 | y :: r, x, h, hx => by
  rw [stCs] at h
  rcases List.mem_cons.1 hx with rfl | hx
  ·exact h.1
  ·exact zdr h.2 hx
theorem zad {m : Nat} {cs : List Cs} (h : stCs m cs) : ∀ ks : List BA, stPs m (choF cs ks)
 | [] => by rw [choF, stPs]; trivial
 | k :: r => by
  rw [choF]
  split
  ·rename_i c hc
   exact stC_eq.1 (zdr h (List.mem_of_find?_eq_some hc))
  ·exact zad h r
theorem za3 (B b : Nat) (l : List UInt8) (s : BA) (w : World) (h : OutAt B b l w) (hl : l.length <= 8000) (hs : s.size <= 140737488351232) (hB : B <= w.heap.size) :
  Calls Tryz.prog 123 #[.pointer (some ⟨b, 0, none⟩), .string s] w (PostP B b w (addE l s.data.toList)) := by
 have hsl := z05 s
 by_cases hf : l.length + s.size <= 8000
 ·rw [z7l (by omega)]
  exact (z4y B b l s w h hf hB).mono fun e w' ⟨he, ho, hk⟩ => ⟨⟨he, ho⟩, hk⟩
 ·rw [z7m (by omega)]
  exact (add_long B b l s w h hf hs hl).mono fun e w' ⟨he, hw⟩ => ⟨he, by subst hw; exact .of_below hB (Below.refl _ _)⟩
theorem zf2 (m : Nat) (S : Nat -> Prop) (w : World) (a : Option Addr) (cap : Nat) (cs : List Cs) (b : Option Addr) (capb : Nat) (ks : List BA) (hS : ∀ b, S b -> b < w.heap.size) (hcs : SlC w S m (.slice a cs.length cap) cs) (hks : SlS w (Old w) (.slice b ks.length capb) ks) :
  Calls Tryz.prog 164 #[.slice a cs.length cap, .slice b ks.length capb] w fun e w' => ∃ a1 p1, e = .returned (.slice a1 (choF cs ks).length p1) /\ SlP w' S m (.slice a1 (choF cs ks).length p1) (choF cs ks) /\ Below w.heap.size w w' := by
 have hl1 := hcs.lenle
 have hl2 := hks.lenleS
 have HC := hid hcs
 have HSS := hid hS
 have HK := hid hks
 obtain ⟨L, HL⟩ : ∃ L, Hid (L = cs.length) := ⟨_, hid rfl⟩
 obtain ⟨M, HM⟩ : ∃ M, Hid (M = ks.length) := ⟨_, hid rfl⟩
 have hL : L <= 9223372036854775807 := by have := HL.out; omega
 have hM : M <= 9223372036854775807 := by have := HM.out; omega
 rw [<- HL.out] at HC ⊢
 rw [<- HM.out] at HK ⊢
 clear hcs hks hl1 hl2 hS
 go_enter Tryz.func164, Tryz.ntmps164
 go_wp2
 go_loopw [11] (fun i wr => ∃ (k : Nat), k <= M /\ i = .int .i64 k /\ Hid (Below w.heap.size w wr) /\ Hid (∀ (j : Nat) y, j < k -> ks[j]? = some y -> cs.find? (ky y) = none)) (fun i _ => M - (intOf i).toNat)
 case atStart => exact ⟨0, Nat.zero_le _, rfl, hid (Below.refl _ _), hid (fun j x h => by omega)⟩
 case round =>
  obtain ⟨k, hk, rfl, HB, HN⟩ := hrel
  by_cases hlt : k < M
  ·obtain ⟨key, hkey⟩ : ∃ x, ks[k]? = some x := ⟨_, List.getElem?_eq_getElem (by have := HM.out; omega)⟩
   obtain ⟨g1, off1, rfl, -, hat⟩ := (HK.out.old HB.out).at_ hkey
   have h0 := hat.st
   simp only [Nat.mul_one] at h0
   have HKY := hid hkey
   have HBX := hid HB.out
   obtain ⟨wx, hwx⟩ : ∃ wx, Hid (wr = wx) := ⟨_, hid rfl⟩
   rw [hwx.out] at HBX
   clear hat hkey
   go_wp2
   clear h0
   go_loopw [17] (fun j w4 => ∃ k2 : Nat, k2 <= L /\ j = .int .i64 k2 /\ Hid (Below w.heap.size w w4) /\ Hid (∀ (q : Nat) y, q < k2 -> cs[q]? = some y -> y.key ≠ key)) (fun j _ => L - (intOf j).toNat)
   case atStart => exact ⟨0, Nat.zero_le _, rfl, HB, hid (fun q y h => by omega)⟩
   case round =>
    obtain ⟨k2, hk2, rfl, HB4, HD⟩ := hrel
    by_cases hlt2 : k2 < L
    ·obtain ⟨c, hc⟩ : ∃ y, cs[k2]? = some y := ⟨_, List.getElem?_eq_getElem (by have := HL.out; omega)⟩
     obtain ⟨g2, off2, hg2, -, hat2⟩ := ((SlC.keep (S' := S) HC.out (fun b hb => HB4.out.block b (HSS.out b hb)) (fun _ hb => hb)).at_ hc)
     subst hg2
     obtain ⟨y0, a1, p1, y1, hkid⟩ := hat2.c
     have HCC := hid hc
     obtain ⟨ck, kids⟩ := c
     simp only [Cs.key, Cs.kids] at y0 y1 hkid
     obtain ⟨nk, HNK⟩ : ∃ nk, Hid (nk = kids.length) := ⟨_, hid rfl⟩
     rw [<- HNK.out] at y1 hkid
     have HKD := hid (SlP.keep (S' := S) hkid (fun b hb => (z02 wr (.cells #[.string ck, .slice a1 nk p1] 185)).block b (Nat.lt_of_lt_of_le (HSS.out b hb) HB4.out.size)) (fun _ hb => hb))
     have R := z04 wr #[.string ck, .slice a1 nk p1] 185
     have d0 := R.cell (i := 0) rfl
     have d1 := R.cell (i := 1) rfl
     have HB5 := hid (z00 HB4.out (z02 wr (.cells #[.string ck, .slice a1 nk p1] 185)))
     clear hat2 hc hkid R
     by_cases he : ck = key
     ·have HE : Hid (choF cs ks = kids) := hid (cho_at HN.out HKY.out (z7c HD.out HCC.out he))
      subst he
      go_wp2
      go_ret
      exact ⟨a1, p1, by rw [HE.out, HNK.out]; rfl, by rw [HE.out, <- HNK.out]; exact HKD.out, HB5.out⟩
     ·have HN2 : Hid (∀ (q : Nat) y, q < k2 + 1 -> cs[q]? = some y -> y.key ≠ key) := hid (fun q y hq hqy => by
       rcases Nat.lt_or_eq_of_le (Nat.le_of_lt_succ hq) with h | rfl
       ·exact HD.out q y h hqy
       ·rw [HCC.out] at hqy
        obtain rfl := Option.some.inj hqy
        exact he)
      have hbe : (ck.toList == key.toList) = false := by
       rw [ByteArray.toList_eq, ByteArray.toList_eq]
       exact beq_eq_false_iff_ne.2 (fun e => he (ByteArray.ext (Array.toList_inj.1 e)))
      clear he
      go_wp2
      go_roundw
      case rel => exact ⟨k2 + 1, by omega, by go_num, HB5, HN2⟩
      case measure => simp [intOf]; omega
    ·have HNN : Hid (∀ (j : Nat) y, j < k + 1 -> ks[j]? = some y -> cs.find? (ky y) = none) := hid (fun j y hj hy => by
      rcases Nat.lt_or_eq_of_le (Nat.le_of_lt_succ hj) with h | rfl
      ·exact HN.out j y h hy
      ·rw [HKY.out] at hy
       obtain rfl := Option.some.inj hy
       exact zit (fun q y hq => HD.out q y (by have := HL.out; have := (List.getElem?_eq_some_iff.1 hq).1; omega) hq))
     go_wp2
     go_roundw
     case rel => exact ⟨k + 1, by omega, by go_num, HB4, HNN⟩
     case measure => simp [intOf]; omega
  ·have HE : Hid (choF cs ks = []) := hid (cho_no (fun j y hy => HN.out j y (by have := HM.out; have := (List.getElem?_eq_some_iff.1 hy).1; omega) hy))
   go_wp2
   go_ret
   exact ⟨none, 0, by rw [HE.out]; rfl, by rw [HE.out]; exact Sl.nil _ _ _ _, HB.out⟩
structure PG (W0 : World) (B b bx bp m : Nat) (l : List UInt8) (lang : BA) (ab : Option Addr) (na capb : Nat) (gs : List Argm) (k : Int) (t nm : BA) (ca : Option Addr) (nc pc : Nat) (cs : List Cs) (W : World) : Prop where
 e : Ekp B b W0 W
 o : OutAt B b l W
 env : Env W B
 rx : Row W bx 115 [.string lang, .slice ab na capb]
 rp : Row W bp 141 [.int .i64 k, .string t, .string nm, .slice ca nc pc]
 cs : SlC W (Lt B) m (.slice ca nc pc) cs
 sa : SlA W (Lt B) (.slice ab na capb) gs
 hB : B <= W.heap.size
abbrev SG (bx bp : Nat) (lang : BA) (ab : Option Addr) (na capb : Nat) (nm : BA) (ca : Option Addr) (nc pc : Nat) (W : World) : Prop := W.cell? ⟨bx, 0, none⟩ = some (.string lang) /\ W.cell? ⟨bx, 1, none⟩ = some (.slice ab na capb) /\ W.cell? ⟨bp, 2, none⟩ = some (.string nm) /\ W.cell? ⟨bp, 3, none⟩ = some (.slice ca nc pc)
theorem SlA.lt {w w' : World} {B : Nat} {v : Value} {xs : List Argm} (h : SlA w (Lt B) v xs) (hb : Below B w w') : SlA w' (Lt B) v xs := Sl.keep h (fun b hb2 => hb.block b hb2) (fun _ h => h) (fun _ _ h => h)
theorem SlP.lt {n : Nat} {w w' : World} {B : Nat} {v : Value} {xs : List Pt} (h : SlP w (Lt B) n v xs) (hb : Below B w w') : SlP w' (Lt B) n v xs := SlP.keep h (fun b hb2 => hb.block b hb2) (fun _ h => h)
theorem SlC.lt {n : Nat} {w w' : World} {B : Nat} {v : Value} {xs : List Cs} (h : SlC w (Lt B) n v xs) (hb : Below B w w') : SlC w' (Lt B) n v xs := SlC.keep h (fun b hb2 => hb.block b hb2) (fun _ h => h)
theorem SlA.all {w : World} {B : Nat} {v : Value} {xs : List Argm} (h : SlA w (Lt B) v xs) (hB : B <= w.heap.size) : SlA w (Old w) v xs := Sl.keep h (fun _ _ => rfl) (fun _ h => Nat.lt_of_lt_of_le h hB) (fun _ _ h => h)
theorem Env.lt {w w' : World} {B : Nat} (h : Env w B) (hb : Below B w w') : Env w' B := by
 obtain ⟨W, h1, h2, h3⟩ := h
 exact ⟨W, h1, h2.trans (hb.mono h3), h3⟩
section
variable {W0 : World} {B b bx bp m : Nat} {l : List UInt8} {lang : BA} {ab : Option Addr} {na capb : Nat} {gs : List Argm} {k : Int} {t nm : BA} {ca : Option Addr} {nc pc : Nat} {cs : List Cs} {W W' : World}
theorem PG.step (h : PG W0 B b bx bp m l lang ab na capb gs k t nm ca nc pc cs W) (hb : Below W.heap.size W W') : PG W0 B b bx bp m l lang ab na capb gs k t nm ca nc pc cs W' :=
 ⟨h.e.trans (.of_below h.hB hb), z9z h.o hb, h.env.below hb, h.rx.below hb, h.rp.below hb, h.cs.lt (hb.mono h.hB), h.sa.lt (hb.mono h.hB), Nat.le_trans h.hB hb.size⟩
theorem PG.cells (h : PG W0 B b bx bp m l lang ab na capb gs k t nm ca nc pc cs W) : SG bx bp lang ab na capb nm ca nc pc W := ⟨h.rx.cell rfl, h.rx.cell rfl, h.rp.cell rfl, h.rp.cell rfl⟩
theorem PG.keep (h : PG W0 B b bx bp m l lang ab na capb gs k t nm ca nc pc cs W) (he : Ekp B b W W') (h1 : bx ≠ b) (h2 : bp ≠ b) : SG bx bp lang ab na capb nm ca nc pc W' := by
 have r1 := he.row h.rx (by decide) h1
 have r2 := he.row h.rp (by decide) h2
 exact ⟨r1.cell rfl, r1.cell rfl, r2.cell rfl, r2.cell rfl⟩
end
theorem zgl (w : World) (x y : BA) : SlS (w.alloc (.cells #[.string x, .string y] 9)) (Old (w.alloc (.cells #[.string x, .string y] 9))) (.slice (some ⟨w.heap.size, 0, none⟩) 2 2) [x, y] := by
 have ho := z2h w #[.string x, .string y] 9 0 2 1 rfl (Nat.zero_le _) (by decide)
 exact Sl.of_owns (xs := [x, y]) ho ⟨[.string x], _, rfl, rfl, rfl, [.string y], _, rfl, rfl, rfl, rfl⟩ (fun b cs z h => (Array.getElem?_eq_some_iff.1 h).1)
def zjv (n : Nat) : Prop := ∀ (B b : Nat) (l : List UInt8) (lang : BA) (ab : Option Addr) (capb : Nat) (gs : List Argm) (h : Int) (xs : List Pt) (a : Option Addr) (cap : Nat) (w : World), -9223372036854775808 <= h -> h <= 9223372036854775807 ->
 SlP w (Lt B) n (.slice a xs.length cap) xs -> SlA w (Lt B) (.slice ab gs.length capb) gs -> ArgB gs -> stPs 140737488351232 xs -> Env w B -> OutAt B b l w -> l.length <= 8000 -> B <= w.heap.size ->
 Calls Tryz.prog 122 #[.agg #[.string lang, .slice ab gs.length capb], .slice a xs.length cap, .int .i64 h, addFn b] w (PostP B b w (evPs lang gs n h xs l))
def z7o (Q : Exit -> Act -> World -> Prop) : Exit -> Act -> World -> Prop
 | .panic c, a, w => ∀ a', a'.defers = a.defers -> Q (.panic c) a' w
 | e, a, w => Q e a w
theorem z7o.imp {Q : Exit -> Act -> World -> Prop} : ∀ (e : Exit) (a : Act) (w : World), z7o Q e a w -> Q e a w := fun e a w h => by
 cases e <;> first | exact h | exact h a rfl
theorem z7o.put {Q : Exit -> Act -> World -> Prop} {c : List PanicEntry} {a : Act} {d : Option Tmp} {v : Value} {w : World} (h : z7o Q (.panic c) (a.put d v) w) : z7o Q (.panic c) a w := fun a' ha => h a' (by cases d <;> exact ha)
theorem z1l {P : Program} {id : Nat} {ops : Array Oper} {b : Bool} {Q : Exit -> Act -> World -> Prop} {a : Act} {w : World} (h : (Code.region id ops b).wp P (z7o Q) a w) : (Code.region id ops b).wp P Q a w :=
 Code.wp_mono z7o.imp h
theorem z1j {B b k : Nat} {W w' : World} {r : Ev} (h : r = .error k) (hk : Ekp B b W w') : PostP B b W r (panE k) w' := by subst h; exact ⟨rfl, hk⟩
theorem postP_ok {B b : Nat} {o : List UInt8} {W w' : World} {r : Ev} (h : r = .ok o) (ho : OutAt B b o w') (hk : Ekp B b W w') : PostP B b W r (.returned (.tuple #[])) w' := by subst h; exact ⟨⟨rfl, ho⟩, hk⟩
end Go.Proofs.YtdnedbcmgkilaaaGreatDoor

end
