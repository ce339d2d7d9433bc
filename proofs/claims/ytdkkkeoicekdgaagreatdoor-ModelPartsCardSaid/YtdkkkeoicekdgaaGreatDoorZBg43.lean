/- Package code's Right, at a value that a reading made. -/
import Derived.Laws.EntriesVeiled
import Derived.Test.YtdkkkeoicekdgaaGreatDoorZBg42

section

namespace Go.Proofs.YtdkkkeoicekdgaaGreatDoor.Co
set_option maxHeartbeats 1600000
set_option maxRecDepth 100000
open Go.Lib (hid)
open Go.RowKit
mutual
def nodes : Tree -> Nat
 | .num _ => 1
 | .text _ => 1
 | .list ts => 1 + z0s ts
def z0s : List Tree -> Nat
 | [] => 0
 | t :: ts => nodes t + z0s ts
end
mutual
def vDeep : Nat -> Nat -> Tree -> Nat
 | d, lev, .num _ => max d lev
 | d, lev, .text _ => max d lev
 | d, lev, .list ts => z1d (max d lev) (lev + 1) ts
def z1d : Nat -> Nat -> List Tree -> Nat
 | d, _, [] => d
 | d, lev, t :: ts => z1d (vDeep d lev t) lev ts
end
mutual
def Lev : Nat -> Tree -> Prop
 | lev, .num _ => lev <= 30
 | lev, .text _ => lev <= 30
 | lev, .list ts => lev <= 30 /\ LevL (lev + 1) ts
def LevL : Nat -> List Tree -> Prop
 | _, [] => True
 | lev, t :: ts => Lev lev t /\ LevL lev ts
end
abbrev z0x (cb db fb vb : Nat) : Value := .func (.func 133) #[] #[.pointer (some ⟨cb, 0, none⟩), .pointer (some ⟨db, 0, none⟩), .pointer (some ⟨fb, 0, none⟩), .pointer (some ⟨vb, 0, none⟩)]
structure VEnv (cb db fb vb : Nat) (count deep : Nat) (w : World) : Prop where
 cnt : w.heap[cb]? = some (.cells #[.int .i64 count] 3 (0, 0))
 dep : w.heap[db]? = some (.cells #[.int .i64 deep] 3 (0, 0))
 frm : w.heap[fb]? = some (.cells #[.bool true] 4 (0, 0))
 vis : w.heap[vb]? = some (.cells #[z0x cb db fb vb] 181 (0, 0))
 ne : cb ≠ db
theorem z5b {w : World} {S : Nat -> Prop} (t : Tree) (v : Value) (h : Rep w S t v) (W : World) : Calls Tryz.prog 134 #[v] W fun e w' => e = .returned (.bool true) /\ Below W.heap.size W w' := by
 cases t with
 | num n =>
  rw [Rep] at h; subst h
  go_enter Tryz.func134, Tryz.ntmps134
  go_wp2
  go_ret
  exact ⟨rfl, z04 _ _⟩
 | text bs =>
  rw [Rep] at h; subst h
  go_enter Tryz.func134, Tryz.ntmps134
  go_wp2
  go_ret
  exact ⟨rfl, z04 _ _⟩
 | list ts =>
  rw [Rep] at h
  obtain ⟨L, xs, rfl, ho, -, -⟩ := h
  obtain ⟨a, n, cap, rfl⟩ : ∃ a n cap, L = .slice a n cap := by
   rcases ho.2 with ⟨rfl, -⟩ | ⟨g, cap, cur, rfl, -⟩ <;> exact ⟨_, _, _, rfl⟩
  clear ho
  go_enter Tryz.func134, Tryz.ntmps134
  go_wp2
  go_ret
  exact ⟨rfl, z04 _ _⟩
def z2m (t : Tree) : Prop := ∀ (cb db fb vb count deep level : Nat) (w : World) (v : Value), VEnv cb db fb vb count deep w -> Rep w (S24 w) t v -> Lev level t -> count + nodes t <= 4000 -> deep <= 30 ->
 Calls Tryz.prog 133 #[v, .int .i64 level, .pointer (some ⟨cb, 0, none⟩), .pointer (some ⟨db, 0, none⟩), .pointer (some ⟨fb, 0, none⟩), .pointer (some ⟨vb, 0, none⟩)] w fun e w' =>
  e = .returned (.tuple #[]) /\ VEnv cb db fb vb (count + nodes t) (vDeep deep level t) w' /\ Fr (fun k => k = cb ∨ k = db) w w'
def kids : Tree -> List Tree
 | .list ts => ts
 | _ => []
theorem z5n (t : Tree) : nodes t = 1 + z0s (kids t) := by cases t <;> rw [nodes] <;> simp [kids, z0s]
theorem zaf (d lev : Nat) (t : Tree) : vDeep d lev t = z1d (max d lev) (lev + 1) (kids t) := by cases t <;> rw [vDeep] <;> simp [kids, z1d]
theorem lev_kids {lev : Nat} {t : Tree} (h : Lev lev t) : lev <= 30 /\ LevL (lev + 1) (kids t) := by
 cases t <;> rw [Lev] at h
 ·exact ⟨h, by simp [kids, LevL]⟩
 ·exact ⟨h, by simp [kids, LevL]⟩
 ·exact h
theorem rep_kids {w : World} {t : Tree} {v : Value} (h : Rep w (S24 w) t v) : ∃ (kd n0 : Int) (b0 : ByteArray) (a : Option Addr) (cap : Nat) (xs : List Value), v = .agg #[.int .i64 kd, .int .i64 n0, .string b0, .slice a (kids t).length cap] /\
  w.ownsRow 0 88 4 (.slice a (kids t).length cap) (kids t).length xs /\ z0a w (S24 w) (kids t) xs := by
 cases t with
 | num n => rw [Rep] at h; exact ⟨_, _, _, _, _, [], h, World.ownsRow_nil _ _ _ _, by simp [kids, z0a]⟩
 | text bs => rw [Rep] at h; exact ⟨_, _, _, _, _, [], h, World.ownsRow_nil _ _ _ _, by simp [kids, z0a]⟩
 | list ts =>
  rw [Rep] at h
  obtain ⟨L, xs, rfl, ho, -, hr⟩ := h
  obtain ⟨a, n, cap, rfl, hn⟩ : ∃ a n cap, L = .slice a n cap /\ n = ts.length := by
   rcases ho.2 with ⟨rfl, h0⟩ | ⟨g, cap, cur, rfl, -⟩
   ·exact ⟨_, _, _, rfl, h0.symm⟩
   ·exact ⟨_, _, _, rfl, rfl⟩
  subst hn
  exact ⟨_, _, _, a, cap, xs, rfl, ho, hr⟩
theorem z1h : ∀ (a b : List Tree), z0s (a ++ b) = z0s a + z0s b
 | [], b => by rw [z0s]; simp
 | t :: a, b => by
  show z0s (t :: (a ++ b)) = _
  rw [z0s, z0s, z1h a b, Nat.add_assoc]
theorem z3a : ∀ (a b : List Tree) (d lev : Nat), z1d d lev (a ++ b) = z1d (z1d d lev a) lev b
 | [], b, d, lev => by rw [z1d]; simp
 | t :: a, b, d, lev => by
  show z1d d lev (t :: (a ++ b)) = _
  rw [z1d, z1d, z3a a b]
theorem z60 {ts : List Tree} {k : Nat} (h : k < ts.length) : ts.take (k + 1) = ts.take k ++ [ts[k]] := List.take_succ_eq_append_getElem h
theorem zc8 (ts : List Tree) (k : Nat) : z0s (ts.take k) <= z0s ts := by
 have := z1h (ts.take k) (ts.drop k)
 rw [List.take_append_drop] at this
 omega
theorem z7f (t : Tree) : 1 <= nodes t := by rw [z5n]; omega
theorem z3v : ∀ ts : List Tree, ts.length <= z0s ts
 | [] => by simp
 | t :: ts => by
  rw [z0s, List.length_cons]
  have := z7f t
  have := z3v ts
  omega
theorem z9o : ∀ {ts : List Tree} {lev : Nat}, LevL lev ts -> ∀ t, t ∈ ts -> Lev lev t
 | [], _, _, t, ht => by cases ht
 | u :: ts, lev, h, t, ht => by
  rw [LevL] at h
  rcases List.mem_cons.1 ht with rfl | ht
  ·exact h.1
  ·exact z9o h.2 t ht
mutual
theorem z94 : ∀ (t : Tree) (d lev : Nat), Lev lev t -> d <= 30 -> vDeep d lev t <= 30
 | .num _, d, lev, h, hd => by rw [Lev] at h; rw [vDeep]; omega
 | .text _, d, lev, h, hd => by rw [Lev] at h; rw [vDeep]; omega
 | .list ts, d, lev, h, hd => by rw [Lev] at h; rw [vDeep]; exact z4p ts _ _ h.2 (by omega)
theorem z4p : ∀ (ts : List Tree) (d lev : Nat), LevL lev ts -> d <= 30 -> z1d d lev ts <= 30
 | [], d, lev, h, hd => by rw [z1d]; exact hd
 | t :: ts, d, lev, h, hd => by rw [LevL] at h; rw [z1d]; exact z4p ts _ _ h.2 (z94 t d lev h.1 hd)
end
theorem z7j : ∀ {ts : List Tree} {lev : Nat} (k : Nat), LevL lev ts -> LevL lev (ts.take k)
 | _, _, 0, _ => by simp [LevL]
 | [], _, k + 1, _ => by simp [LevL]
 | t :: ts, lev, k + 1, h => by rw [LevL] at h; simp only [List.take_succ_cons]; rw [LevL]; exact ⟨h.1, z7j k h.2⟩
theorem VEnv.alloc {cb db fb vb count deep : Nat} {w : World} (h : VEnv cb db fb vb count deep w) (o : Obj) : VEnv cb db fb vb count deep (w.alloc o) :=
 ⟨(Below.heap_alloc _ _ _ (z02 h.cnt)).trans h.cnt, (Below.heap_alloc _ _ _ (z02 h.dep)).trans h.dep, (Below.heap_alloc _ _ _ (z02 h.frm)).trans h.frm, (Below.heap_alloc _ _ _ (z02 h.vis)).trans h.vis, h.ne⟩
theorem VEnv.below {cb db fb vb count deep : Nat} {w w' : World} (h : VEnv cb db fb vb count deep w) (hb : Below w.heap.size w w') : VEnv cb db fb vb count deep w' :=
 ⟨(hb.block _ (z02 h.cnt)).trans h.cnt, (hb.block _ (z02 h.dep)).trans h.dep, (hb.block _ (z02 h.frm)).trans h.frm, (hb.block _ (z02 h.vis)).trans h.vis, h.ne⟩
theorem VEnv.same {cb db fb vb count deep : Nat} {w w' : World} (h : VEnv cb db fb vb count deep w) (hb : ∀ k : Nat, w'.heap[k]? = w.heap[k]?) : VEnv cb db fb vb count deep w' :=
 ⟨(hb _).trans h.cnt, (hb _).trans h.dep, (hb _).trans h.frm, (hb _).trans h.vis, h.ne⟩
theorem z1w {w : World} {k j : Nat} {cs ds : Array Value} {t u : TypeId} {f g : Nat × Nat} (h : w.heap[k]? = some (.cells cs t f)) (h' : w.heap[j]? = some (.cells ds u g)) (ht : t ≠ u) : k ≠ j := by
 rintro rfl
 rw [h] at h'
 injection h' with h'
 injection h' with _ h'
 exact ht h'
theorem VEnv.set {cb db fb vb count deep : Nat} {w : World} (h : VEnv cb db fb vb count deep w) (c' d' : Nat) : VEnv cb db fb vb c' d' ((w.setCell ⟨cb, 0, none⟩ (.int .i64 c')).setCell ⟨db, 0, none⟩ (.int .i64 d')) := by
 have n1 := z1w h.frm h.cnt (by decide)
 have n2 := z1w h.frm h.dep (by decide)
 have n3 := z1w h.vis h.cnt (by decide)
 have n4 := z1w h.vis h.dep (by decide)
 refine ⟨?_, ?_, ?_, ?_, h.ne⟩
 ·rw [Below.heap_setCell _ _ _ _ h.ne]; exact z1c h.cnt 0 _
 ·exact z1c ((Below.heap_setCell _ _ _ _ h.ne.symm).trans h.dep) 0 _
 ·rw [Below.heap_setCell _ _ _ _ n2, Below.heap_setCell _ _ _ _ n1]; exact h.frm
 ·rw [Below.heap_setCell _ _ _ _ n4, Below.heap_setCell _ _ _ _ n3]; exact h.vis
theorem z39 {t : Tree} (ht : ∀ u, u ∈ kids t -> z2m u) : z2m t := by
 intro cb db fb vb count deep level w v env hrep hlev hcn hd
 obtain ⟨hl30, hlevL⟩ := lev_kids hlev
 have HWF := hid (fun W => z5b t v hrep W)
 obtain ⟨kd, n0, b0, a, cap, xs, rfl, hown, hall⟩ := rep_kids hrep
 have hnk := z5n t
 have hlen := z3v (kids t)
 have hlenb : (kids t).length <= 4000 := by omega
 have hltc := z02 env.cnt
 have hltd := z02 env.dep
 have hltf := z02 env.frm
 have hltv := z02 env.vis
 have hcc := cell_of_heap env.cnt
 have hcd := cell_of_heap env.dep
 have hcf := cell_of_heap env.frm
 have hfc : w.frozen? ⟨cb, 0, none⟩ = false := frozen_of_heap env.cnt 0
 have hfd : w.frozen? ⟨db, 0, none⟩ = false := frozen_of_heap env.dep 0
 have hne := env.ne
 have hcd1 : (w.setCell ⟨cb, 0, none⟩ (.int .i64 ((count : Int) + 1))).cell? ⟨db, 0, none⟩ = some (.int .i64 deep) := (World.cell?_setCell_other w _ _ _ (fun e => by injection e; omega)).trans hcd
 have env2 : VEnv cb db fb vb (count + 1) (max deep level) ((w.setCell ⟨cb, 0, none⟩ (.int .i64 ((count : Int) + 1))).setCell ⟨db, 0, none⟩ (.int .i64 (max (deep : Int) (level : Int)))) := by
  have := env.set (count + 1) (max deep level)
  rw [show ((max deep level : Nat) : Int) = max (deep : Int) (level : Int) from by omega] at this
  exact this
 have hfr2 : Fr (fun k => k = cb ∨ k = db) w ((w.setCell ⟨cb, 0, none⟩ (.int .i64 ((count : Int) + 1))).setCell ⟨db, 0, none⟩ (.int .i64 (max (deep : Int) (level : Int)))) :=
  ((Fr.refl _ w).setCell (p := ⟨cb, 0, none⟩) (.inr (.inl rfl)) _).setCell (p := ⟨db, 0, none⟩) (.inr (.inr rfl)) _
 have hk2 : K24 w ((w.setCell ⟨cb, 0, none⟩ (.int .i64 ((count : Int) + 1))).setCell ⟨db, 0, none⟩ (.int .i64 (max (deep : Int) (level : Int)))) := fun g cur e => by
  rw [Below.heap_setCell _ _ _ _ (z1w e env.dep (by decide)), Below.heap_setCell _ _ _ _ (z1w e env.cnt (by decide))]; exact e
 have hcf2 := cell_of_heap env2.frm
 have hsz2 : ((w.setCell ⟨cb, 0, none⟩ (.int .i64 ((count : Int) + 1))).setCell ⟨db, 0, none⟩ (.int .i64 (max (deep : Int) (level : Int)))).heap.size = w.heap.size := by simp [World.setCell]
 have HE2 := hid env2
 have HF2 := hid hfr2
 have HK2 := hid hk2
 have HS2 := hid hsz2
 have HT := hid ht
 have HW := hid hown
 have HA := hid hall
 have HN := hid hnk
 have HL := hid hlevL
 clear ht hown hall env hrep hlev hnk env2 hfr2 hk2 hsz2 hlevL hcf
 go_enter Tryz.func133, Tryz.ntmps133
 go_wp2_with fail
 generalize hW : (w.setCell ⟨cb, 0, none⟩ (.int .i64 ((count : Int) + 1))).setCell ⟨db, 0, none⟩ (.int .i64 (max (deep : Int) (level : Int))) = W2 at *
 clear hW hcd1 hcc hcd hfc hfd hcf2
 refine (HWF.out _).mono ?_
 rintro e w3 ⟨rfl, hb3⟩
 have env3 := (HE2.out.alloc _).below hb3
 have hsz3 := hb3.size
 simp only [World.size_alloc] at hsz3
 have hszw := HS2.out
 have hbox : w3.heap[w.heap.size]? = some (.cells #[.int .i64 kd, .int .i64 n0, .string b0, .slice a (kids t).length cap] 88 (0, 0)) := by
  rw [hb3.block _ (by simp; omega), <- hszw]; exact heap_alloc_new _ _
 have hcf3 := cell_of_heap env3.frm
 have hff3 : w3.frozen? ⟨fb, 0, none⟩ = false := frozen_of_heap env3.frm 0
 have hcL : w3.cell? ⟨w.heap.size, 3, none⟩ = some (.slice a (kids t).length cap) := by simp [World.cell?, hbox]
 have hsame := z71 env3.frm
 have env4 := env3.same hsame
 have hfr4 : Fr (fun k => k = cb ∨ k = db) w (w3.setCell ⟨fb, 0, none⟩ (.bool true)) := by
  have h := (HF2.out.alloc _).trans (Fr.of_below hb3)
  exact ⟨h.os, h.tape, h.output, by simpa [World.setCell] using h.size, fun k hk hx => (hsame k).trans (h.block k hk hx)⟩
 have hk4 : K24 w (w3.setCell ⟨fb, 0, none⟩ (.bool true)) := fun g cur e => (hsame g).trans ((hb3.block g (by have := z02 (HK2.out g cur e); simp; omega)).trans ((HK2.out.alloc _) g cur e))
 have hbox4 := (hsame w.heap.size).trans hbox
 have hcL4 : (w3.setCell ⟨fb, 0, none⟩ (.bool true)).cell? ⟨w.heap.size, 3, none⟩ = some (.slice a (kids t).length cap) := by simp [World.cell?, hbox4]
 have HE4 := hid env4
 have HF4 := hid hfr4
 have HK4 := hid hk4
 clear env3 env4 hfr4 hk4 hbox hbox4 hsame hb3 hszw
 go_wp2
 generalize hW4 : w3.setCell ⟨fb, 0, none⟩ (.bool true) = w4 at *
 clear hW4 hcL4
 go_loopw [23] (fun i wr => ∃ k C D : Nat, k <= (kids t).length /\ C <= 4000 /\ i = .int .i64 k /\ Hid (C = count + 1 + z0s ((kids t).take k)) /\ Hid (D = z1d (max deep level) (level + 1) ((kids t).take k)) /\ Hid (VEnv cb db fb vb C D wr) /\ Hid (Fr (fun k => k = cb ∨ k = db) w wr) /\ Hid (K24 w wr)) (fun i _ => (kids t).length - (intOf i).toNat)
 case atStart => exact ⟨0, count + 1, max deep level, Nat.zero_le _, by have := z7f t; omega, rfl, hid (by simp [z0s]), hid (by simp [z1d]), HE4, HF4, HK4⟩
 case round =>
  obtain ⟨k, C, D, hk, hC4, rfl, HC, HD, E, F, K⟩ := hrel
  by_cases hlt : k < (kids t).length
  ·obtain ⟨c0, c1, c2, c3, x0, x1, x2, x3, hrep⟩ := z0a.get (kids t) xs k (kids t)[k] HA.out (List.getElem?_eq_getElem hlt)
   obtain ⟨g, rfl⟩ : ∃ g, a = some ⟨g, 0, none⟩ := by
    rcases HW.out.2 with ⟨-, h0⟩ | ⟨g, cap, cur, hv, -⟩
    ·omega
    ·injection hv with hv; exact ⟨g, hv⟩
   have hown := HW.out
   have hownr : wr.ownsRow 0 88 4 (.slice (some ⟨g, 0, none⟩) (kids t).length cap) (kids t).length xs := z0f hown (fun g' hg' => by obtain ⟨cur, hc⟩ := own24 hown g' hg'; exact (K.out g' cur hc).trans hc.symm)
   have hcell0 : wr.cell? ⟨g, k * 4, none⟩ = some c0 := z1o hownr x0
   have hcell1 : wr.cell? ⟨g, k * 4 + 1, none⟩ = some c1 := z1o hownr x1
   have hcell2 : wr.cell? ⟨g, k * 4 + 2, none⟩ = some c2 := z1o hownr x2
   have hcell3 : wr.cell? ⟨g, k * 4 + 3, none⟩ = some c3 := z1o hownr x3
   have hrepr := hrep.k24 K.out
   obtain ⟨kd1, n1, b1, a1, len1, cap1, hcv⟩ := Rep.cells _ _ hrep
   injection hcv with hcv
   injection hcv with hcv
   injection hcv with h0 hcv
   injection hcv with h1 hcv
   injection hcv with h2 hcv
   injection hcv with h3 hcv
   subst h0 h1 h2 h3
   have hcv' : wr.cell? ⟨vb, 0, none⟩ = some (z0x cb db fb vb) := cell_of_heap E.out.vis
   have hcc : wr.cell? ⟨cb, 0, none⟩ = some (.int .i64 C) := cell_of_heap E.out.cnt
   have hltc' := z02 E.out.cnt
   have hltv' := z02 E.out.vis
   have HRr := hid hrepr
   have hn1 := zc8 (kids t) (k + 1)
   rw [z60 hlt, z1h] at hn1
   simp only [z0s] at hn1
   have hD30 : D <= 30 := by rw [HD.out]; exact z4p _ _ _ (z7j k HL.out) (by omega)
   have hfit : C + nodes (kids t)[k] <= 4000 := by rw [HC.out]; rw [HN.out] at hcn; omega
   clear x0 x1 x2 x3 hrep hrepr hcv hown hownr hn1
   go_wp2_with fail
   have hcall := HT.out (kids t)[k] (List.getElem_mem hlt) cb db fb vb C D (level + 1) (wr.alloc (.cells #[.int .i64 kd1, .int .i64 n1, .string b1, .slice a1 len1 cap1] 88)) _ (E.out.alloc _) (HRr.out.k24 ((K24.refl _).alloc _)) (z9o HL.out _ (List.getElem_mem hlt)) hfit hD30
   refine Calls.mono hcall ?_
   clear hcall
   rintro e w5 ⟨rfl, henv5, hfr5⟩
   have E5 := hid henv5
   have F5 := hid ((F.out.alloc _).trans hfr5)
   have K5 : Hid (K24 w w5) := hid (fun g' cur e => (hfr5.block g' (by have := z02 (K.out g' cur e); simp; omega) (by
    have h1 := z1w (K.out g' cur e) E.out.cnt (by decide)
    have h2 := z1w (K.out g' cur e) E.out.dep (by decide)
    omega)).trans ((K.out.alloc _) g' cur e))
   clear henv5 hfr5
   go_wp2
   go_roundw
   case rel => exact ⟨k + 1, C + nodes (kids t)[k], vDeep D (level + 1) (kids t)[k], by omega, hfit, by go_num, hid (by rw [HC.out, z60 hlt, z1h]; simp [z0s]; omega), hid (by rw [HD.out, z60 hlt, z3a]; simp [z1d]), E5, F5, K5⟩
   case measure => simp [intOf]; omega
  ·have hkn : (kids t).take k = kids t := List.take_of_length_le (by omega)
   have HCe : Hid (C = count + nodes t) := hid (by rw [HC.out, hkn, HN.out]; omega)
   have HDe : Hid (D = vDeep deep level t) := hid (by rw [HD.out, hkn, zaf])
   clear hkn
   go_wp2
   go_end0
   exact ⟨rfl, by rw [<- HCe.out, <- HDe.out]; exact E.out, F.out⟩
mutual
theorem z93 : ∀ t : Tree, z2m t
 | .num n => z39 (fun u hu => by cases hu)
 | .text bs => z39 (fun u hu => by cases hu)
 | .list ts => z39 (z6t ts)
theorem z6t : ∀ ts : List Tree, ∀ t, t ∈ ts -> z2m t
 | [], t, ht => by cases ht
 | u :: ts, t, ht => by
  rcases List.mem_cons.1 ht with h' | h'
  ·rw [h']; exact z93 u
  ·exact z6t ts t h'
end
end Go.Proofs.YtdkkkeoicekdgaaGreatDoor.Co

end

section

namespace Go.Proofs.YtdkkkeoicekdgaaGreatDoor.Co
set_option maxHeartbeats 1600000
set_option maxRecDepth 100000
open Go.Lib (hid)
open Go.RowKit
theorem Fr.to_below {X : Nat -> Prop} {B : Nat} {w W w1 : World} (hW : Below B w W) (hB : B <= W.heap.size) (hf : Fr X W w1) (hX : ∀ k, k < B -> ¬ X k) : Below B w w1 :=
 hW.trans ⟨hf.os, hf.tape, hf.output, hf.size, fun k hk => hf.block k (by omega) (hX k hk)⟩
theorem z3i {w : World} {o : Obj} {k : Nat} (h : k = w.heap.size) : (w.alloc o).heap[k]? = some o := by subst h; exact heap_alloc_new _ _
theorem z1g {w : World} {o x : Obj} {k : Nat} (h : k < w.heap.size) (hx : w.heap[k]? = some x) : (w.alloc o).heap[k]? = some x := (Below.heap_alloc _ _ _ h).trans hx
theorem five_get (w : World) (o0 o1 o2 o3 o4 : Obj) :
  (((((w.alloc o0).alloc o1).alloc o2).alloc o3).alloc o4).heap[w.heap.size]? = some o0 /\ (((((w.alloc o0).alloc o1).alloc o2).alloc o3).alloc o4).heap[w.heap.size + 1]? = some o1 /\ (((((w.alloc o0).alloc o1).alloc o2).alloc o3).alloc o4).heap[w.heap.size + 1 + 1]? = some o2 /\
  (((((w.alloc o0).alloc o1).alloc o2).alloc o3).alloc o4).heap[w.heap.size + 1 + 1 + 1]? = some o3 /\ (((((w.alloc o0).alloc o1).alloc o2).alloc o3).alloc o4).heap[w.heap.size + 1 + 1 + 1 + 1]? = some o4 := by
 exact ⟨(z1g (by simp only [World.size_alloc]; omega) (z1g (by simp only [World.size_alloc]; omega) (z1g (by simp only [World.size_alloc]; omega) (z1g (by simp only [World.size_alloc]; omega) (z3i rfl))))), (z1g (by simp only [World.size_alloc]; omega) (z1g (by simp only [World.size_alloc]; omega) (z1g (by simp only [World.size_alloc]; omega) (z3i (by first | rfl | simp only [World.size_alloc]))))), (z1g (by simp only [World.size_alloc]; omega) (z1g (by simp only [World.size_alloc]; omega) (z3i (by first | rfl | simp only [World.size_alloc])))), (z1g (by simp only [World.size_alloc]; omega) (z3i (by first | rfl | simp only [World.size_alloc]))), (z3i (by first | rfl | simp only [World.size_alloc]))⟩
theorem four_get (w : World) (o0 o1 o2 o3 : Obj) :
  ((((w.alloc o0).alloc o1).alloc o2).alloc o3).heap[w.heap.size]? = some o0 /\ ((((w.alloc o0).alloc o1).alloc o2).alloc o3).heap[w.heap.size + 1]? = some o1 /\ ((((w.alloc o0).alloc o1).alloc o2).alloc o3).heap[w.heap.size + 1 + 1]? = some o2 /\
  ((((w.alloc o0).alloc o1).alloc o2).alloc o3).heap[w.heap.size + 1 + 1 + 1]? = some o3 := by
 exact ⟨(z1g (by simp only [World.size_alloc]; omega) (z1g (by simp only [World.size_alloc]; omega) (z1g (by simp only [World.size_alloc]; omega) (z3i (by first | rfl | simp only [World.size_alloc]))))), (z1g (by simp only [World.size_alloc]; omega) (z1g (by simp only [World.size_alloc]; omega) (z3i (by first | rfl | simp only [World.size_alloc])))), (z1g (by simp only [World.size_alloc]; omega) (z3i (by first | rfl | simp only [World.size_alloc]))), (z3i (by first | rfl | simp only [World.size_alloc]))⟩
theorem zat (w : World) (o0 o1 o2 o3 : Obj) : Below w.heap.size w ((((w.alloc o0).alloc o1).alloc o2).alloc o3) :=
 (((z04 _ _).alloc (by simp) _).alloc (by simp; omega) _).alloc (by simp; omega) _
theorem zav (w : World) (o0 o1 o2 o3 o4 : Obj) : Below w.heap.size w (((((w.alloc o0).alloc o1).alloc o2).alloc o3).alloc o4) :=
 ((((z04 _ _).alloc (by simp) _).alloc (by simp; omega) _).alloc (by simp; omega) _).alloc (by simp; omega) _
theorem z1l {t : Tree} {v : Value} {w : World} (hrep : Rep w (S24 w) t v) (hlev : Lev 1 t) (hn : nodes t <= 4000) :
  Calls Tryz.prog 88 #[v] w fun e w' => e = .returned (.int .i64 0) /\ Below w.heap.size w w' := by
 have hmf : ∀ (fn : Fn) (first cap : Array Value) (w : World), (Instr.makeFunc fn first cap).run Tryz.prog w = .ok (.func fn first cap) w := fun _ _ _ _ => rfl
 obtain ⟨kd, n0, b0, a, len, cap, rfl⟩ := Rep.cells t v hrep
 have hd30 := z94 t 0 1 hlev (by omega)
 have HV : Hid (∀ W, VEnv (w.heap.size + 1) (w.heap.size + 1 + 1) (w.heap.size + 1 + 1 + 1) (w.heap.size + 1 + 1 + 1 + 1) 0 0 W -> K24 w W -> Calls Tryz.prog 133 #[.agg #[.int .i64 kd, .int .i64 n0, .string b0, .slice a len cap], .int .i64 1, .pointer (some ⟨w.heap.size + 1, 0, none⟩), .pointer (some ⟨w.heap.size + 1 + 1, 0, none⟩), .pointer (some ⟨w.heap.size + 1 + 1 + 1, 0, none⟩), .pointer (some ⟨w.heap.size + 1 + 1 + 1 + 1, 0, none⟩)] W fun e w' =>
   e = .returned (.tuple #[]) /\ VEnv (w.heap.size + 1) (w.heap.size + 1 + 1) (w.heap.size + 1 + 1 + 1) (w.heap.size + 1 + 1 + 1 + 1) (0 + nodes t) (vDeep 0 1 t) w' /\ Fr (fun k => k = w.heap.size + 1 ∨ k = w.heap.size + 1 + 1) W w') :=
  hid (fun W hE hK => z93 t _ _ _ _ 0 0 1 W _ hE (hrep.k24 hK) hlev (by omega) (by omega))
 clear hrep hlev
 go_enter Tryz.func88, Tryz.ntmps88
 go_wp2_with fail
 obtain ⟨g0, g1, g2, g3, g4⟩ := five_get w (.cells #[.int .i64 kd, .int .i64 n0, .string b0, .slice a len cap] 88) (.cells #[.int .i64 0] 3) (.cells #[.int .i64 0] 3) (.cells #[.bool true] 4) (.cells #[z0x (w.heap.size + 1) (w.heap.size + 1 + 1) (w.heap.size + 1 + 1 + 1) (w.heap.size + 1 + 1 + 1 + 1)] 181)
 have hbl := zav w (.cells #[.int .i64 kd, .int .i64 n0, .string b0, .slice a len cap] 88) (.cells #[.int .i64 0] 3) (.cells #[.int .i64 0] 3) (.cells #[.bool true] 4) (.cells #[z0x (w.heap.size + 1) (w.heap.size + 1 + 1) (w.heap.size + 1 + 1 + 1) (w.heap.size + 1 + 1 + 1 + 1)] 181)
 generalize (((((w.alloc (.cells #[.int .i64 kd, .int .i64 n0, .string b0, .slice a len cap] 88)).alloc (.cells #[.int .i64 0] 3)).alloc (.cells #[.int .i64 0] 3)).alloc (.cells #[.bool true] 4)).alloc (.cells #[z0x (w.heap.size + 1) (w.heap.size + 1 + 1) (w.heap.size + 1 + 1 + 1) (w.heap.size + 1 + 1 + 1 + 1)] 181)) = W at g0 g1 g2 g3 g4 hbl ⊢
 refine Calls.mono (HV.out W ⟨g1, g2, g3, g4, by omega⟩ (fun g cur e => (hbl.block g (z02 e)).trans e)) ?_
 rintro e w1 ⟨rfl, hE, hF⟩
 have hcc := cell_of_heap hE.cnt
 have hcd := cell_of_heap hE.dep
 have hcf := cell_of_heap hE.frm
 have hB : Hid (Below w.heap.size w w1) := hid (Fr.to_below hbl hbl.size hF (fun k hk => by omega))
 rw [Nat.zero_add] at hcc
 generalize nodes t = N at *
 generalize vDeep 0 1 t = D at *
 clear hE hF HV hbl g0 g1 g2 g3 g4 hmf
 go_wp2
 go_ret
 exact ⟨rfl, hB.out⟩
end Go.Proofs.YtdkkkeoicekdgaaGreatDoor.Co

end
