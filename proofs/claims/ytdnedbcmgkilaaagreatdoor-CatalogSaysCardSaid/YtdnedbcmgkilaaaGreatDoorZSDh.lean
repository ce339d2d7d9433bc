/- The document's reader in memory: a placeholder. -/
import Derived.Deep.DeepCutAuto
import Derived.Test.YtdnedbcmgkilaaaGreatDoorZSDt

namespace Go.Proofs.YtdnedbcmgkilaaaGreatDoor.Dr
set_option maxHeartbeats 12800000
set_option maxRecDepth 100000
open Go.Lib (hid)
open Go.RowKit Go.Proofs.YtdnedbcmgkilaaaGreatDoor
structure HoU (s : BA) (pb : Nat) (w wr : World) (n : Nat) (k : Int) (nm : BA) (v : Value) (cs : List Cs) (vs : List Value) (T : St) : Prop where
 gw : Gw 185 2 (CCn n) (w.heap.size + 2) wr v cs vs
 rb : Row wr (w.heap.size + 1) 141 [.int .i64 k, .string ⟨#[]⟩, .string nm, v]
 ra : Row wr w.heap.size 141 [.int .i64 0, .string ⟨#[]⟩, .string ⟨#[]⟩, .slice none 0 0]
 pt : PAt wr pb s T
 fr : Fr (· = pb) w wr
section
variable {s : BA} {pb : Nat} {w wr w2 : World} {n : Nat} {k : Int} {nm : BA} {v : Value} {cs : List Cs} {vs : List Value} {T T2 : St}
theorem HoU.step (h : HoU s pb w wr n k nm v cs vs T) (hlr : pb < w.heap.size) (hf : Fr (· = pb) wr w2) (hp : PAt w2 pb s T2) : HoU s pb w w2 n k nm v cs vs T2 :=
 ⟨h.gw.fr (kpC _) hf (fun _ hB _ e => by omega), h.rb.keep (hf.block _ h.rb.lt (by omega)), h.ra.keep (hf.block _ h.ra.lt (by omega)), hp, h.fr.trans hf⟩
theorem HoU.le {m : Nat} (h : HoU s pb w wr n k nm v cs vs T) (hm : n <= m) : HoU s pb w wr m k nm v cs vs T := ⟨h.gw.leC hm, h.rb, h.ra, h.pt, h.fr⟩
theorem HoU.on {i : Nat} (h : HoU s pb w wr n k nm v cs vs (i, 0)) (hlr : pb < w.heap.size) : HoU s pb w (wr.setCell ⟨pb, 1, none⟩ (.int .i64 ((i : Int) + 1))) n k nm v cs vs (i + 1, 0) := h.step hlr (z0d 1 _) (PAt.on (S := (i, 0)) h.pt)
theorem HoU.setB (h : HoU s pb w wr n k nm v cs vs T) (hlr : pb < w.heap.size) (i : Nat) (u : Value) (k2 : Int) (nm2 : BA) (hr : ([.int .i64 k, .string ⟨#[]⟩, .string nm, v] : List Value).set i u = [.int .i64 k2, .string ⟨#[]⟩, .string nm2, v]) : HoU s pb w (wr.setCell ⟨w.heap.size + 1, i, none⟩ u) n k2 nm2 v cs vs T := by
 have hb := (But.refl (w.heap.size + 1) wr).set i u
 have hf : Fr (· = w.heap.size + 1) wr (wr.setCell ⟨w.heap.size + 1, i, none⟩ u) := z0d i u
 exact ⟨h.gw.fr (kpC _) hf (fun _ hB _ e => by omega), by rw [<- hr]; exact h.rb.set i u, hb.row h.ra (by omega), h.pt.keep (hb.block pb (by omega)), hb.fr h.fr (by omega)⟩
theorem HoU.lt (h : HoU s pb w wr n k nm v cs vs T) : ∀ b, v.ownBlock = some b -> w.heap.size + 2 <= b /\ b < wr.heap.size := fun b hb => h.gw.own.lt b hb
theorem HoU.rb9 {w9 : World} {o : Obj} (h : HoU s pb w wr n k nm v cs vs T) (hg : (wr.alloc o).grownBy w9 v.ownBlock) : Row w9 (w.heap.size + 1) 141 [.int .i64 k, .string ⟨#[]⟩, .string nm, v] :=
 h.rb.keep ((hg.block _ (by have := h.rb.lt; rw [World.size_alloc]; omega) (fun e => by have := (h.lt _ e.symm).1; omega)).trans (Below.heap_alloc _ _ _ h.rb.lt))
theorem HoU.push {w9 : World} {o : Obj} {x : Cs} {us : List Value} {g c m B2 : Nat} (h : HoU s pb w wr n k nm v cs vs T) (hlr : pb < w.heap.size) (hm : m = cs.length) (hx : CCn n wr (Fsh B2 wr) x us) (hB : w.heap.size + 2 <= B2) (hv : ∀ b, v.ownBlock = some b -> b < B2) (hk : us.length = 2)
  (hg : (wr.alloc o).grownBy w9 v.ownBlock) (hown : w9.ownsRow (w.heap.size + 2) 185 2 (.slice (some ⟨g, 0, none⟩) (m + 1) c) (m + 1) (vs ++ us)) (hgl : v.ownBlock = some g ∨ wr.heap.size <= g) :
  HoU s pb w (w9.setCell ⟨w.heap.size + 1, 3, none⟩ (.slice (some ⟨g, 0, none⟩) (m + 1) c)) n k nm (.slice (some ⟨g, 0, none⟩) (m + 1) c) (cs ++ [x]) (vs ++ us) T := by
 have hb := (But.refl (w.heap.size + 1) w9).set 3 (.slice (some ⟨g, 0, none⟩) (m + 1) c)
 have hf : Fr (· = w.heap.size + 1) w9 (w9.setCell ⟨w.heap.size + 1, 3, none⟩ (.slice (some ⟨g, 0, none⟩) (m + 1) c)) := z0d 3 _
 have hkeep : ∀ b, b < w.heap.size + 2 -> b < wr.heap.size -> w9.heap[b]? = wr.heap[b]? := fun b h1 h2 => (hg.block b (by rw [World.size_alloc]; omega) (fun e => by have := (h.lt b e.symm).1; omega)).trans (Below.heap_alloc _ _ _ h2)
 exact ⟨(h.gw.push (kpC _) hm hx hB hv hk hg hown hgl).fr (kpC _) hf (fun _ hB _ e => by omega), (h.rb9 hg).set 3 _, hb.row (h.ra.keep (hkeep _ (by omega) h.ra.lt)) (by omega),
  h.pt.keep ((hb.block pb (by omega)).trans (hkeep pb (by omega) h.pt.lt)), hb.fr ((h.fr.alloc o).grown hg (fun g hg => .inl (by have := (h.lt g hg).1; omega))) (by omega)⟩
end
section
variable {l : List UInt8} {g o : Nat} {h : Bool} {acc : List Cs} {T K R V E : St} {ky : List UInt8} {kids : List Pt}
theorem dc_stop (h0 : T.2 ≠ 0) : z0c l g o h acc T = (acc, T) := z27 h0
theorem dc_deep (h0 : T.2 = 0) (hk : dKey l (wordF l [32] T) = (ky, K)) (hr : wordF l [32] K = R) (hn : nowF l R = some 123) (ho : 32 <= o) : z0c l (g + 1) o h acc T = (acc, (R.1, 12)) := by
 rw [z0c, if_pos h0]; simp only; rw [hk]; simp only; rw [hr, if_pos ⟨hn, ho⟩]
theorem dc_end (h0 : T.2 = 0) (hk : dKey l (wordF l [32] T) = (ky, K)) (hr : wordF l [32] K = R) (hn : ¬ (nowF l R = some 123 /\ 32 <= o)) (hp : z07 l g (o + 1) h [] (wordF l [123] R) = (kids, V)) (he : wordF l [125] V = E) (h2 : nowF l E = some 125) : z0c l (g + 1) o h acc T = (acc ++ [.mk (ba ky) kids], (E.1 + 1, 0)) := by
 rw [z0c, if_pos h0]; simp only; rw [hk]; simp only; rw [hr, if_neg hn, hp]; simp only; rw [he, if_pos h2]
theorem dc_more (h0 : T.2 = 0) (hk : dKey l (wordF l [32] T) = (ky, K)) (hr : wordF l [32] K = R) (hn : ¬ (nowF l R = some 123 /\ 32 <= o)) (hp : z07 l g (o + 1) h [] (wordF l [123] R) = (kids, V)) (he : wordF l [125] V = E) (h2 : nowF l E ≠ some 125) : z0c l (g + 1) o h acc T = z0c l g o h (acc ++ [.mk (ba ky) kids]) E := by
 rw [z0c, if_pos h0]; simp only; rw [hk]; simp only; rw [hr, if_neg hn, hp]; simp only; rw [he, if_neg h2]
theorem dh_arg {cf : Bool -> St -> List Cs × St} {S N : St} {nm : List UInt8} (hN : dName l (S.1 + 1, 0) = (nm, N)) (h1 : nowF l N = some 125) : z1f l cf h S = (.mk 2 (ba []) (ba nm) [], (N.1 + 1, 0)) := by
 unfold z1f; simp only; rw [hN]; simp only; rw [if_pos h1]
theorem dh_sel {cf : Bool -> St -> List Cs × St} {S N : St} {nm : List UInt8} (hN : dName l (S.1 + 1, 0) = (nm, N)) (h1 : nowF l N ≠ some 125) (h2 : nowF l (wordF l [44, 32] N) = some 115) : z1f l cf h S = (.mk 5 (ba []) (ba nm) (cf h (wordF l seT (wordF l [44, 32] N))).1, (cf h (wordF l seT (wordF l [44, 32] N))).2) := by
 unfold z1f; simp only; rw [hN]; simp only; rw [if_neg h1, if_pos h2]
theorem dh_plu {cf : Bool -> St -> List Cs × St} {S N : St} {nm : List UInt8} (hN : dName l (S.1 + 1, 0) = (nm, N)) (h1 : nowF l N ≠ some 125) (h2 : nowF l (wordF l [44, 32] N) ≠ some 115) : z1f l cf h S = (.mk 4 (ba []) (ba nm) (cf true (wordF l plT (wordF l [44, 32] N))).1, (cf true (wordF l plT (wordF l [44, 32] N))).2) := by
 unfold z1f; simp only; rw [hN]; simp only; rw [if_neg h1, if_neg h2]
end
theorem takeP {pb : Nat} {s t : BA} {l : List UInt8} {S : St} {w : World} (hs : s.size <= 2000) (ht : t.data.toList = l) (hl : t.size <= 100) (hS : Wf s.data.toList S) (h : PAt w pb s S) : Calls Tryz.prog 128 #[.pointer (some ⟨pb, 0, none⟩), .string t] w fun e w' => e = .returned (.tuple #[]) /\ PAt w' pb s (wordF s.data.toList l S) /\ Fr (· = pb) w w' := by
 subst ht; exact z6a pb s t S w hs hl hS h
theorem z6l (l : List UInt8) (S : St) (c : UInt8) : (nowF l S = some c /\ (nowI l S == (c.toNat : Int)) = true) ∨ (nowF l S ≠ some c /\ (nowI l S == (c.toNat : Int)) = false) := by
 by_cases h : nowF l S = some c
 ·exact .inl ⟨h, by rw [z99, decide_eq_true h]⟩
 ·exact .inr ⟨h, by rw [z99, decide_eq_false h]⟩
structure CU (s : BA) (pb C : Nat) (wr wx : World) (ky u : Value) (T : St) : Prop where
 hx : Fr (· = pb) wr wx
 pt : PAt wx pb s T
 rc : Row wx C 185 [ky, u]
section
variable {s : BA} {pb C : Nat} {wr wx w2 : World} {ky u : Value} {T T2 : St}
theorem CU.step (h : CU s pb C wr wx ky u T) (hC : pb < C) (hf : Fr (· = pb) wx w2) (hp : PAt w2 pb s T2) : CU s pb C wr w2 ky u T2 :=
 ⟨h.hx.trans hf, hp, h.rc.keep (hf.block C h.rc.lt (by omega))⟩
theorem CU.setC (h : CU s pb C wr wx ky u T) (hC : pb < C) (hwC : wr.heap.size <= C) (i : Nat) (y ky2 u2 : Value) (hr : ([ky, u] : List Value).set i y = [ky2, u2]) : CU s pb C wr (wx.setCell ⟨C, i, none⟩ y) ky2 u2 T :=
 ⟨h.hx.setCell (.inl hwC) _, h.pt.keep (Below.heap_setCell _ _ _ _ (by simp only; omega)), by rw [<- hr]; exact h.rc.set i y⟩
end
theorem hole_of (f : Nat) (HP : ∀ g, g < f -> zjw g) : HoleD f := by
 intro o h pb s S w hs ho hS hn hfu hR
 obtain ⟨i0, hi, hz0, hz1, hz2⟩ := info_parts info44
 have hlr := hR.lt
 obtain ⟨hst, hget⟩ := z0b hn
 obtain ⟨i, st⟩ := S
 simp only at hst hget hfu
 subst hst
 have HTL : Hid (i < s.size) := hid (by have := z0l hget; rw [z05] at this; exact this)
 have htl := HTL.out
 have c1 := hR.row.cell (i := 1) rfl
 have z1 := hR.row.thaw 1
 simp only at c1
 have HPP := hid HP
 have HW1 := hid (z0t hn)
 have HFUB := hid hfu
 have HU1 : Hid (HoU s pb w (((w.setCell ⟨pb, 1, none⟩ (.int .i64 ((i : Int) + 1))).alloc (.cells #[.int .i64 0, .string ⟨#[]⟩, .string ⟨#[]⟩, .slice none 0 0] 141)).alloc (.cells #[.int .i64 2, .string ⟨#[]⟩, .string ⟨#[]⟩, .slice none 0 0] 141)) 0 2 ⟨#[]⟩ (.slice none 0 0) [] [] (i + 1, 0)) := hid (by
  have hsz1 : (w.setCell ⟨pb, 1, none⟩ (.int .i64 ((i : Int) + 1))).heap.size = w.heap.size := by simp [World.setCell]
  have hr1 := z04 (w.setCell ⟨pb, 1, none⟩ (.int .i64 ((i : Int) + 1))) #[.int .i64 0, .string ⟨#[]⟩, .string ⟨#[]⟩, .slice none 0 0] 141
  have hr2 := z04 ((w.setCell ⟨pb, 1, none⟩ (.int .i64 ((i : Int) + 1))).alloc (.cells #[.int .i64 0, .string ⟨#[]⟩, .string ⟨#[]⟩, .slice none 0 0] 141)) #[.int .i64 2, .string ⟨#[]⟩, .string ⟨#[]⟩, .slice none 0 0] 141
  rw [hsz1] at hr1
  rw [World.size_alloc, hsz1] at hr2
  exact ⟨Gw.nil _ _ _ _ _, hr2, hr1.alloc _, ((PAt.on (S := (i, 0)) hR).alloc _).alloc _, ((z0d 1 _).alloc _).alloc _⟩)
 have HGN := hid (z9k s.data.toList (i + 1, 0))
 have HNM : Hid (∀ W, PAt W pb s (i + 1, 0) -> Calls Tryz.prog 168 #[.pointer (some ⟨pb, 0, none⟩)] W fun e w' => e = .returned (.string (ba (dName s.data.toList (i + 1, 0)).1)) /\ PAt w' pb s (dName s.data.toList (i + 1, 0)).2 /\ Fr (· = pb) W w') := hid (fun W hW => z3m pb s (i + 1, 0) W hs HW1.out hW)
 obtain ⟨nm, N, HND⟩ : ∃ nm N, Hid (dName s.data.toList (i + 1, 0) = (nm, N)) := ⟨_, _, hid rfl⟩
 rw [HND.out] at HGN HNM
 simp only at HGN HNM
 have HWN := hid (HGN.out.2.1 HW1.out)
 clear hS hn hfu hR hget HP
 go_enter Tryz.func127, Tryz.ntmps127
 have HC2 := hid (HNM.out _ HU1.out.pt)
 go_wp2_with fail
 generalize ((w.setCell ⟨pb, 1, none⟩ (.int .i64 ((i : Int) + 1))).alloc (.cells #[.int .i64 0, .string ⟨#[]⟩, .string ⟨#[]⟩, .slice none 0 0] 141)).alloc (.cells #[.int .i64 2, .string ⟨#[]⟩, .string ⟨#[]⟩, .slice none 0 0] 141) = w1 at *
 refine HC2.out.mono ?_
 rintro e w2 ⟨rfl, hp2, hf2⟩
 have HU2 := hid (HU1.out.step hlr hf2 hp2)
 clear hp2 hf2 HC2 HNM HU1 c1 z1
 have d2 := HU2.out.rb.cell (i := 2) rfl
 have y2 := HU2.out.rb.thaw 2
 have HU3 := hid (HU2.out.setB hlr 2 (.string (ba nm)) 2 (ba nm) rfl)
 have HC4 := hid (nowP hs HU3.out.pt)
 go_wp2_with fail
 generalize w2.setCell ⟨w.heap.size + 1, 2, none⟩ (.string (ba nm)) = w3 at *
 refine HC4.out.mono ?_
 rintro e w4 ⟨rfl, hp4, hf4⟩
 have HU4 := hid (HU3.out.step hlr hf4 hp4)
 clear hp4 hf4 HC4
 clear d2 y2 HU2 HU3
 rcases z6l s.data.toList N 125 with ⟨hn, hB⟩ | ⟨hn, hB⟩
 ·have HE := hid (dh_arg (h := h) (cf := fun h S => z0c s.data.toList f o h [] S) (S := ((i, 0) : St)) HND.out hn)
  obtain ⟨hst, hget⟩ := z0b hn
  obtain ⟨j, st⟩ := N
  simp only at hst hget
  subst hst
  have htj := z0l hget
  rw [z05] at htj
  clear hn hget
  rw [show ((125 : UInt8).toNat : Int) = 125 from rfl] at hB
  have HU5 := hid (HU4.out.on hlr)
  have c1 := HU4.out.pt.row.cell (i := 1) rfl
  have z1 := HU4.out.pt.row.thaw 1
  simp only at c1
  generalize nowI s.data.toList (j, 0) = v at *
  have q0 := HU5.out.rb.cell (i := 0) rfl
  have q1 := HU5.out.rb.cell (i := 1) rfl
  have q2 := HU5.out.rb.cell (i := 2) rfl
  have q3 := HU5.out.rb.cell (i := 3) rfl
  have a0 := HU5.out.ra.cell (i := 0) rfl
  have a1 := HU5.out.ra.cell (i := 1) rfl
  have a2 := HU5.out.ra.cell (i := 2) rfl
  have a3 := HU5.out.ra.cell (i := 3) rfl
  have y0 := HU5.out.ra.thaw 0
  have y1 := HU5.out.ra.thaw 1
  have y2 := HU5.out.ra.thaw 2
  have y3 := HU5.out.ra.thaw 3
  go_wp2
  have Q7 := HU5.out.ra.put4 (.int .i64 2) (.string ⟨#[]⟩) (.string (ba nm)) (.slice none 0 0)
  have B7 := But.put4 w.heap.size (w4.setCell ⟨pb, 1, none⟩ (.int .i64 ((j : Int) + 1))) (.int .i64 2) (.string ⟨#[]⟩) (.string (ba nm)) (.slice none 0 0)
  generalize (((((w4.setCell ⟨pb, 1, none⟩ (.int .i64 ((j : Int) + 1)))).setCell ⟨w.heap.size, 0, none⟩ (.int .i64 2)).setCell ⟨w.heap.size, 1, none⟩ (.string ⟨#[]⟩)).setCell ⟨w.heap.size, 2, none⟩ (.string (ba nm))).setCell ⟨w.heap.size, 3, none⟩ (.slice none 0 0) = wz at *
  have e0 := Q7.cell (i := 0) rfl
  have e1 := Q7.cell (i := 1) rfl
  have e2 := Q7.cell (i := 2) rfl
  have e3 := Q7.cell (i := 3) rfl
  exact bodyPost_ret (v := .agg #[.int .i64 2, .string ⟨#[]⟩, .string (ba nm), .slice none 0 0]) (by simp [results, Tryz.results127, go_sem, e0, e1, e2, e3]) rfl (by
   rw [HE.out]
   exact ⟨.slice none 0 0, _, rfl, SlC.fsh (HU5.out.gw.done (kpC _)) (fun b hb _ => B7.block b (by omega)) (by omega) (by rw [B7.size]; exact Nat.le_refl _), HU5.out.pt.keep (B7.block pb (by omega)), But.fr HU5.out.fr B7 (Nat.le_refl _)⟩)
 rw [show ((125 : UInt8).toNat : Int) = 125 from rfl] at hB
 have HN1 := hid hn
 clear hn
 generalize nowI s.data.toList N = v at *
 have HC5 := hid (takeP (t := ⟨#[44, 32]⟩) (l := [44, 32]) hs rfl (by decide) HWN.out HU4.out.pt)
 go_wp2_with fail
 refine HC5.out.mono ?_
 rintro e w5 ⟨rfl, hp5, hf5⟩
 have HU5 := hid (HU4.out.step hlr hf5 hp5)
 clear hp5 hf5 HC5
 obtain ⟨W1, HW⟩ : ∃ W1, Hid (wordF s.data.toList [44, 32] N = W1) := ⟨_, hid rfl⟩
 have HGW1 := hid (z06 s.data.toList [44, 32] N)
 rw [HW.out] at HU5 HGW1
 have HWW := hid (HGW1.out.2.1 HWN.out)
 clear hB HU4
 have d0 := HU5.out.rb.cell (i := 0) rfl
 have y0 := HU5.out.rb.thaw 0
 have HU6 := hid (HU5.out.setB hlr 0 (.int .i64 4) 4 (ba nm) rfl)
 have HC7 := hid (nowP hs HU6.out.pt)
 go_wp2_with fail
 generalize w5.setCell ⟨w.heap.size + 1, 0, none⟩ (.int .i64 4) = w6 at *
 refine HC7.out.mono ?_
 rintro e w7 ⟨rfl, hp7, hf7⟩
 have HU7 := hid (HU6.out.step hlr hf7 hp7)
 clear hp7 hf7 HC7
 clear d0 y0 HU5 HU6
 have HGI : Hid (i + 1 <= N.1 /\ N.1 <= W1.1) := hid ⟨HGN.out.1, HGW1.out.1⟩
 go_upto_if 36 with (fail)
 go_cut [] (fun wx => ∃ (k : Int) (b2 : Bool) (T : St), (k = 4 /\ b2 = true ∨ k = 5 /\ h = b2) /\ Hid (Wf s.data.toList T /\ i + 1 <= T.1) /\ Hid (z1f s.data.toList (fun h S => z0c s.data.toList f o h [] S) h ((i, 0) : St) = (.mk k (ba []) (ba nm) (z0c s.data.toList f o b2 [] T).1, (z0c s.data.toList f o b2 [] T).2)) /\ Hid (HoU s pb w wx 0 k (ba nm) (.slice none 0 0) [] [] T))
 case first =>
  rcases z6l s.data.toList W1 115 with ⟨hn, hB⟩ | ⟨hn, hB⟩
  ·have HE := hid (dh_sel (h := h) (cf := fun h S => z0c s.data.toList f o h [] S) (S := ((i, 0) : St)) HND.out HN1.out (by rw [HW.out]; exact hn))
   rw [HW.out] at HE
   rw [show ((115 : UInt8).toNat : Int) = 115 from rfl] at hB
   have HGW2 := hid (z06 s.data.toList seT W1)
   have HWF : Hid (Wf s.data.toList (wordF s.data.toList seT W1) /\ i + 1 <= (wordF s.data.toList seT W1).1) := hid ⟨HGW2.out.2.1 HWW.out, by have h1 := HGW2.out.1; have h2 := HGI.out; omega⟩
   clear hn
   generalize nowI s.data.toList W1 = v2 at *
   have d0 := HU7.out.rb.cell (i := 0) rfl
   have y0 := HU7.out.rb.thaw 0
   have HU8 := hid (HU7.out.setB hlr 0 (.int .i64 5) 5 (ba nm) rfl)
   have HC9 := hid (takeP (t := ⟨#[115, 101, 108, 101, 99, 116, 44]⟩) (l := [115, 101, 108, 101, 99, 116, 44]) hs rfl (by decide) HWW.out HU8.out.pt)
   go_wp2_with fail
   refine HC9.out.mono ?_
   rintro e w9 ⟨rfl, hp9, hf9⟩
   have HU9 := hid (HU8.out.step hlr hf9 hp9)
   clear hp9 hf9 HC9
   go_wp2
   go_meet
   case rel => exact ⟨5, h, _, .inr ⟨rfl, rfl⟩, HWF, HE, HU9⟩
  ·have HE := hid (dh_plu (h := h) (cf := fun h S => z0c s.data.toList f o h [] S) (S := ((i, 0) : St)) HND.out HN1.out (by rw [HW.out]; exact hn))
   rw [HW.out] at HE
   rw [show ((115 : UInt8).toNat : Int) = 115 from rfl] at hB
   have HGW2 := hid (z06 s.data.toList plT W1)
   have HWF : Hid (Wf s.data.toList (wordF s.data.toList plT W1) /\ i + 1 <= (wordF s.data.toList plT W1).1) := hid ⟨HGW2.out.2.1 HWW.out, by have h1 := HGW2.out.1; have h2 := HGI.out; omega⟩
   clear hn
   generalize nowI s.data.toList W1 = v2 at *
   have HC9 := hid (takeP (t := ⟨#[112, 108, 117, 114, 97, 108, 44]⟩) (l := [112, 108, 117, 114, 97, 108, 44]) hs rfl (by decide) HWW.out HU7.out.pt)
   go_wp2_with fail
   refine HC9.out.mono ?_
   rintro e w9 ⟨rfl, hp9, hf9⟩
   have HU9 := hid (HU7.out.step hlr hf9 hp9)
   clear hp9 hf9 HC9
   go_wp2
   go_meet
   case rel => exact ⟨4, true, _, .inl ⟨rfl, rfl⟩, HWF, HE, HU9⟩
 case rest =>
  obtain ⟨k, b2, T0, hkb, HWT0, HHE, HU8⟩ := hcut
  clear HU7 HND HN1 HW HWW HWN HGN HGW1 HGI HW1
  have HFT : Hid (T0.2 = 0 -> s.size - T0.1 < f) := hid (fun _ => by have h1 := HWT0.out.2; have h2 := HFUB.out; have h3 := HTL.out; omega)
  go_wp2
  go_loopw [] (fun wr => ∃ (cs : List Cs) (vs : List Value) (a : Option Addr) (cap n g : Nat) (T : St), g <= f /\ Hid (HoU s pb w wr n k (ba nm) (.slice a cs.length cap) cs vs T) /\ Hid (Wf s.data.toList T) /\ Hid (T.2 = 0 -> s.size - T.1 < g) /\ Hid (cs.length <= T.1 + (if T.2 = 0 then 0 else 1)) /\ Hid (z0c s.data.toList f o b2 [] T0 = z0c s.data.toList g o b2 cs T)) (fun wr => pl3 s.size pb wr)
  case atStart => exact ⟨[], [], none, 0, 0, f, T0, Nat.le_refl _, HU8, hid HWT0.out.1, HFT, hid (Nat.zero_le _), hid rfl⟩
  case round =>
   obtain ⟨cs, vs, a, cap, n, g, T, hgf, HU, HWT, HFU, HLE, HQ⟩ := hrel
   clear HU8 HWT0 HFT
   have HMES := hid (zdz (m := s.size) HU.out.pt)
   have c2 := HU.out.pt.row.cell (i := 2) rfl
   by_cases h0 : T.2 = 0
   rotate_left
   ·have HE := hid (HHE.out.trans (by rw [HQ.out, dc_stop h0]))
    have hB : ((T.2 : Int) == 0) = false := by rw [beq_eq_false_iff_ne]; omega
    clear h0
    have q0 := HU.out.rb.cell (i := 0) rfl
    have q1 := HU.out.rb.cell (i := 1) rfl
    have q2 := HU.out.rb.cell (i := 2) rfl
    have q3 := HU.out.rb.cell (i := 3) rfl
    have a0 := HU.out.ra.cell (i := 0) rfl
    have a1 := HU.out.ra.cell (i := 1) rfl
    have a2 := HU.out.ra.cell (i := 2) rfl
    have a3 := HU.out.ra.cell (i := 3) rfl
    have y0 := HU.out.ra.thaw 0
    have y1 := HU.out.ra.thaw 1
    have y2 := HU.out.ra.thaw 2
    have y3 := HU.out.ra.thaw 3
    go_wp2
    have Q7 := HU.out.ra.put4 (.int .i64 k) (.string ⟨#[]⟩) (.string (ba nm)) (.slice a cs.length cap)
    have B7 := But.put4 w.heap.size (wr) (.int .i64 k) (.string ⟨#[]⟩) (.string (ba nm)) (.slice a cs.length cap)
    generalize (((((wr)).setCell ⟨w.heap.size, 0, none⟩ (.int .i64 k)).setCell ⟨w.heap.size, 1, none⟩ (.string ⟨#[]⟩)).setCell ⟨w.heap.size, 2, none⟩ (.string (ba nm))).setCell ⟨w.heap.size, 3, none⟩ (.slice a cs.length cap) = wz at *
    have e0 := Q7.cell (i := 0) rfl
    have e1 := Q7.cell (i := 1) rfl
    have e2 := Q7.cell (i := 2) rfl
    have e3 := Q7.cell (i := 3) rfl
    exact bodyPost_ret (v := .agg #[.int .i64 k, .string ⟨#[]⟩, .string (ba nm), .slice a cs.length cap]) (by simp [results, Tryz.results127, go_sem, e0, e1, e2, e3]) rfl (by
     rw [HE.out]
     exact ⟨.slice a cs.length cap, _, rfl, SlC.fsh (HU.out.gw.done (kpC _)) (fun b hb _ => B7.block b (by omega)) (by omega) (by rw [B7.size]; exact Nat.le_refl _), HU.out.pt.keep (B7.block pb (by omega)), But.fr HU.out.fr B7 (Nat.le_refl _)⟩)
   ·obtain ⟨t1, st⟩ := T
    simp only at h0
    subst h0
    have HMS : Hid (pl3 s.size pb wr = 2 * (s.size - t1) + 1) := hid (by rw [HMES.out]; simp)
    have HFUB2 : Hid (s.size - t1 < g) := hid (HFU.out rfl)
    have HLEB : Hid (cs.length <= t1) := hid (by have := HLE.out; simpa using this)
    have hwt : t1 <= s.size := z3j HWT.out
    obtain ⟨g', rfl⟩ : ∃ g', g = g' + 1 := ⟨g - 1, by have := HFUB2.out; omega⟩
    obtain ⟨L, HL⟩ : ∃ L, Hid (L = cs.length) := ⟨_, hid rfl⟩
    have hL2 : L <= 2000 := by have := HLEB.out; have := HL.out; omega
    have HOL0 : Hid (∀ b, (Value.slice a L cap).ownBlock = some b -> b < wr.heap.size) := hid (by rw [HL.out]; exact fun b hb => (HU.out.lt b hb).2)
    obtain ⟨C, HCC⟩ : ∃ C, Hid (C = wr.heap.size) := ⟨_, hid rfl⟩
    have hwC : wr.heap.size <= C := by have := HCC.out; omega
    have hpC : pb < C := by have := HU.out.pt.lt; omega
    have HRa : Hid (CU s pb C wr (wr.alloc (.cells #[.string ⟨#[]⟩, .slice none 0 0] 185)) (.string ⟨#[]⟩) (.slice none 0 0) (t1, 0)) := hid ⟨(Fr.refl _ _).alloc _, HU.out.pt.alloc _, by rw [HCC.out]; exact z04 wr #[.string ⟨#[]⟩, .slice none 0 0] 185⟩
    obtain ⟨K0, HK0⟩ : ∃ K0, Hid (wordF s.data.toList [32] (t1, 0) = K0) := ⟨_, hid rfl⟩
    have HG0 := hid (z06 s.data.toList [32] (t1, 0))
    rw [HK0.out] at HG0
    have HW0 := hid (HG0.out.2.1 HWT.out)
    obtain ⟨ky, KK, HKD⟩ : ∃ ky KK, Hid (dKey s.data.toList K0 = (ky, KK)) := ⟨_, _, hid rfl⟩
    have HG1 := hid (zio s.data.toList K0)
    rw [HKD.out] at HG1
    have HW1 := hid (HG1.out.2.1 HW0.out)
    obtain ⟨R, HRR⟩ : ∃ R, Hid (wordF s.data.toList [32] KK = R) := ⟨_, hid rfl⟩
    have HG2 := hid (z06 s.data.toList [32] KK)
    rw [HRR.out] at HG2
    have HW2 := hid (HG2.out.2.1 HW1.out)
    obtain ⟨T2, HT2⟩ : ∃ T2, Hid (wordF s.data.toList [123] R = T2) := ⟨_, hid rfl⟩
    have HG3 := hid (z06 s.data.toList [123] R)
    have HA3 : Hid ((wordF s.data.toList [123] R).2 = 0 -> R.1 + 1 <= (wordF s.data.toList [123] R).1) := hid z48
    rw [HT2.out] at HG3 HA3
    have HW3 := hid (HG3.out.2.1 HW2.out)
    obtain ⟨kids, V, HPD⟩ : ∃ kids V, Hid (z07 s.data.toList g' (o + 1) b2 [] T2 = (kids, V)) := ⟨_, _, hid rfl⟩
    have HG4 := hid (zin s.data.toList g' (o + 1) b2 [] T2)
    rw [HPD.out] at HG4
    have HWV := hid (HG4.out.2.1 HW3.out)
    obtain ⟨E, HEE⟩ : ∃ E, Hid (wordF s.data.toList [125] V = E) := ⟨_, hid rfl⟩
    have HG5 := hid (z06 s.data.toList [125] V)
    rw [HEE.out] at HG5
    have HWE := hid (HG5.out.2.1 HWV.out)
    have HGT : Hid (t1 <= E.1) := hid (by have h0 := HG0.out.1; have h1 := HG1.out.1; have h2 := HG2.out.1; have h3 := HG3.out.1; have h4 := HG4.out.1; have h5 := HG5.out.1; simp only at h0 h1 h4; omega)
    have HADT : Hid (T2.2 = 0 -> t1 + 1 <= T2.1) := hid (fun e => by have h0 := HG0.out.1; have h1 := HG1.out.1; have h2 := HG2.out.1; have h3 := HA3.out e; simp only at h0 h1; omega)
    have HADV : Hid (E.2 = 0 -> t1 + 1 <= E.1) := hid (fun e => by
     have h5 := HG5.out.live e
     have h4 := HG4.out.live h5
     have h3 := HADT.out h4
     have g4 := HG4.out.1
     have g5 := HG5.out.1
     simp only at g4
     omega)
    have HFE : Hid (E.2 = 0 -> s.size - E.1 < g') := hid (fun e => by have h1 := HADV.out e; have h2 := HFUB2.out; have h3 := z3j HWE.out; omega)
    have HFT2 : Hid (T2.2 = 0 -> s.size - T2.1 < g') := hid (fun e => by have h1 := HADT.out e; have h2 := HFUB2.out; have h3 := z3j HW3.out; omega)
    have HLEN : Hid ((cs ++ [Cs.mk (ba ky) kids]).length = L + 1) := hid (by rw [List.length_append, HL.out]; rfl)
    have HLEE : Hid ((cs ++ [Cs.mk (ba ky) kids]).length <= E.1 + (if E.2 = 0 then 0 else 1)) := hid (by
     rw [HLEN.out]
     have h1 := HLEB.out
     have h2 := HL.out
     have h3 := HGT.out
     by_cases e : E.2 = 0
     ·rw [if_pos e]; have := HADV.out e; omega
     ·rw [if_neg e]; omega)
    have HDD : Hid (nowF s.data.toList R = some 123 -> 32 <= o -> z0c s.data.toList (g' + 1) o b2 cs (t1, 0) = (cs, (R.1, 12))) := hid (fun h1 h2 => dc_deep rfl (by rw [HK0.out]; exact HKD.out) HRR.out h1 h2)
    have HDE1 : Hid (¬ (nowF s.data.toList R = some 123 /\ 32 <= o) -> nowF s.data.toList E = some 125 -> z0c s.data.toList (g' + 1) o b2 cs (t1, 0) = (cs ++ [.mk (ba ky) kids], (E.1 + 1, 0))) := hid (fun h1 h2 => dc_end rfl (by rw [HK0.out]; exact HKD.out) HRR.out h1 (by rw [HT2.out]; exact HPD.out) HEE.out h2)
    have HDM1 : Hid (¬ (nowF s.data.toList R = some 123 /\ 32 <= o) -> nowF s.data.toList E ≠ some 125 -> z0c s.data.toList (g' + 1) o b2 cs (t1, 0) = z0c s.data.toList g' o b2 (cs ++ [.mk (ba ky) kids]) E) := hid (fun h1 h2 => dc_more rfl (by rw [HK0.out]; exact HKD.out) HRR.out h1 (by rw [HT2.out]; exact HPD.out) HEE.out h2)
    have HKC : Hid (∀ W, PAt W pb s K0 -> Calls Tryz.prog 169 #[.pointer (some ⟨pb, 0, none⟩)] W fun e w' => e = .returned (.string (ba ky)) /\ PAt w' pb s KK /\ Fr (· = pb) W w') := hid (fun W hW => by
     have := zd6 pb s K0 W hs HW0.out hW
     rw [HKD.out] at this; exact this)
    have HPC0 : Hid (∀ W, PAt W pb s T2 -> Calls Tryz.prog 84 #[.pointer (some ⟨pb, 0, none⟩), .int .i64 (o + 1 : Nat), .bool b2] W (z60 pb s W (kids, V))) := hid (fun W hW => by
     have := HPP.out g' (by omega) (o + 1) b2 pb s T2 W hs (by omega) HW3.out HFT2.out hW
     rw [HPD.out] at this; exact this)
    rw [show (((o + 1 : Nat)) : Int) = (o : Int) + 1 by omega] at HPC0
    have ho1 : (o : Int) <= 4000 := by omega
    clear HMES HFU HLE HG0 HG1 HG2 HG3 HG4 HG5 HA3 HADT HPD HFT2 HPP
    simp only [Int.natCast_zero] at c2
    have HCa := hid (takeP (t := ⟨#[32]⟩) (l := [32]) hs rfl (by decide) HWT.out HRa.out.pt)
    go_wp2_with fail
    generalize wr.alloc (.cells #[.string ⟨#[]⟩, .slice none 0 0] 185) = wq at *
    try rw [<- HCC.out]
    refine HCa.out.mono ?_
    rintro e wa ⟨rfl, hpa, hfa⟩
    have HRa := hid (HRa.out.step hpC hfa hpa)
    clear hpa hfa HCa
    rw [HK0.out] at HRa
    have HCb := hid (HKC.out _ HRa.out.pt)
    go_wp2_with fail
    refine HCb.out.mono ?_
    rintro e wb ⟨rfl, hpb, hfb⟩
    have HRb0 := hid (HRa.out.step hpC hfb hpb)
    clear hpb hfb HCb HKC
    have k0 := HRb0.out.rc.cell (i := 0) rfl
    have y0 := HRb0.out.rc.thaw 0
    have HRb := hid (HRb0.out.setC hpC hwC 0 (.string (ba ky)) _ _ rfl)
    have HC1 := hid (takeP (t := ⟨#[32]⟩) (l := [32]) hs rfl (by decide) HW1.out HRb.out.pt)
    go_wp2_with fail
    generalize wb.setCell ⟨C, 0, none⟩ (.string (ba ky)) = wb1 at *
    refine HC1.out.mono ?_
    rintro e w1 ⟨rfl, hp1, hf1⟩
    have HR1 := hid (HRb.out.step hpC hf1 hp1)
    clear hp1 hf1 HC1
    rw [HRR.out] at HR1
    clear k0 y0 HRb0 HRb HRa
    have HC2 := hid (nowP hs HR1.out.pt)
    go_wp2_with fail
    refine HC2.out.mono ?_
    rintro e w2 ⟨rfl, hp2, hf2⟩
    have HR2 := hid (HR1.out.step hpC hf2 hp2)
    clear hp2 hf2 HC2
    clear HR1
    have hcase : (nowF s.data.toList R = some 123 /\ 32 <= o) ∨ (¬ (nowF s.data.toList R = some 123 /\ 32 <= o) /\ ((nowI s.data.toList R == (123 : Int)) = false ∨ ((nowI s.data.toList R == (123 : Int)) = true /\ ¬ (32 : Int) <= (o : Int)))) := by
     rcases z6l s.data.toList R 123 with ⟨hn, hB⟩ | ⟨hn, hB⟩
     ·by_cases ho32 : 32 <= o
      ·exact .inl ⟨hn, ho32⟩
      ·exact .inr ⟨fun e => ho32 e.2, .inr ⟨hB, by omega⟩⟩
     ·exact .inr ⟨fun e => hn e.1, .inl hB⟩
    rcases hcase with ⟨hn, ho32⟩ | ⟨hnd, hv⟩
    ·have HE := hid (HHE.out.trans (by rw [HQ.out, HDD.out hn ho32]))
     have hB : (nowI s.data.toList R == (123 : Int)) = true := by rw [z0f hn]; rfl
     have hoi : (32 : Int) <= (o : Int) := by omega
     clear hn ho32
     have HUx := hid (HU.out.step (w2 := w2.setCell ⟨pb, 2, none⟩ (.int .i64 12)) (T2 := (R.1, 12)) hlr (HR2.out.hx.trans (z0d 2 _)) (HR2.out.pt.bad 12))
     have p2 := HR2.out.pt.row.cell (i := 2) rfl
     have z2 := HR2.out.pt.row.thaw 2
     generalize nowI s.data.toList R = v at *
     have q0 := HUx.out.rb.cell (i := 0) rfl
     have q1 := HUx.out.rb.cell (i := 1) rfl
     have q2 := HUx.out.rb.cell (i := 2) rfl
     have q3 := HUx.out.rb.cell (i := 3) rfl
     have a0 := HUx.out.ra.cell (i := 0) rfl
     have a1 := HUx.out.ra.cell (i := 1) rfl
     have a2 := HUx.out.ra.cell (i := 2) rfl
     have a3 := HUx.out.ra.cell (i := 3) rfl
     have y0 := HUx.out.ra.thaw 0
     have y1 := HUx.out.ra.thaw 1
     have y2 := HUx.out.ra.thaw 2
     have y3 := HUx.out.ra.thaw 3
     go_wp2
     have Q7 := HUx.out.ra.put4 (.int .i64 k) (.string ⟨#[]⟩) (.string (ba nm)) (.slice a cs.length cap)
     have B7 := But.put4 w.heap.size (w2.setCell ⟨pb, 2, none⟩ (.int .i64 12)) (.int .i64 k) (.string ⟨#[]⟩) (.string (ba nm)) (.slice a cs.length cap)
     generalize (((((w2.setCell ⟨pb, 2, none⟩ (.int .i64 12))).setCell ⟨w.heap.size, 0, none⟩ (.int .i64 k)).setCell ⟨w.heap.size, 1, none⟩ (.string ⟨#[]⟩)).setCell ⟨w.heap.size, 2, none⟩ (.string (ba nm))).setCell ⟨w.heap.size, 3, none⟩ (.slice a cs.length cap) = wz at *
     have e0 := Q7.cell (i := 0) rfl
     have e1 := Q7.cell (i := 1) rfl
     have e2 := Q7.cell (i := 2) rfl
     have e3 := Q7.cell (i := 3) rfl
     exact bodyPost_ret (v := .agg #[.int .i64 k, .string ⟨#[]⟩, .string (ba nm), .slice a cs.length cap]) (by simp [results, Tryz.results127, go_sem, e0, e1, e2, e3]) rfl (by
      rw [HE.out]
      exact ⟨.slice a cs.length cap, _, rfl, SlC.fsh (HUx.out.gw.done (kpC _)) (fun b hb _ => B7.block b (by omega)) (by omega) (by rw [B7.size]; exact Nat.le_refl _), HUx.out.pt.keep (B7.block pb (by omega)), But.fr HUx.out.fr B7 (Nat.le_refl _)⟩)
    have HDE := hid (HDE1.out hnd)
    have HDM := hid (HDM1.out hnd)
    clear HDE1 HDM1 HDD hnd
    generalize nowI s.data.toList R = v at *
    rcases hv with hB | ⟨hB, hoi⟩
    all_goals
     have HCc := hid (takeP (t := ⟨#[123]⟩) (l := [123]) hs rfl (by decide) HW2.out HR2.out.pt)
     go_wp2_with fail
     refine HCc.out.mono ?_
     rintro e wc ⟨rfl, hpc, hfc⟩
     have HRc := hid (HR2.out.step hpC hfc hpc)
     clear hpc hfc HCc
     rw [HT2.out] at HRc
     have HPC := hid (HPC0.out wc HRc.out.pt)
     clear HPC0 HR2
     have HOL : Hid (∀ b, (Value.slice a L cap).ownBlock = some b -> b < wc.heap.size) := hid (fun b hb => by have h1 := HOL0.out b hb; have h2 := HRc.out.hx.size; omega)
     have kk := (HU.out.step hlr HRc.out.hx HRc.out.pt).rb.cell (i := 0) rfl
     have hkb2 : ((k == 4) = true /\ b2 = true) ∨ ((k == 4) = false /\ h = b2) := by
      rcases hkb with ⟨e1, e2⟩ | ⟨e1, e2⟩
      ·exact .inl ⟨by rw [e1]; rfl, e2⟩
      ·exact .inr ⟨by rw [e1]; rfl, e2⟩
     have HKB := hid hkb
     clear hkb HKB
     rcases hkb2 with ⟨hk4, rfl⟩ | ⟨hk4, rfl⟩
     all_goals
      cases h
      all_goals
       go_wp2_with fail
       refine HPC.out.mono ?_
       rintro e wd ⟨a2, p2, q, rfl, hsl, hpd, hfd⟩
       simp only at hsl hpd
       have HRd := hid (HRc.out.step hpC hfd hpd)
       obtain ⟨L2, HL2⟩ : ∃ L2, Hid (L2 = kids.length) := ⟨_, hid rfl⟩
       rw [<- HL2.out] at hsl ⊢
       have HSL := hid hsl
       have HZD : Hid (wc.heap.size <= wd.heap.size) := hid hfd.size
       clear hpd hfd hsl HPC
       have k0 := HRd.out.rc.cell (i := 1) rfl
       have y0 := HRd.out.rc.thaw 1
       have HRe := hid (HRd.out.setC hpC hwC 1 (.slice a2 L2 p2) _ _ rfl)
       have HSLe : Hid (SlP (wd.setCell ⟨C, 1, none⟩ (.slice a2 L2 p2)) (Fsh wc.heap.size (wd.setCell ⟨C, 1, none⟩ (.slice a2 L2 p2))) q (.slice a2 L2 p2) kids) := hid (HSL.out.keep (fun b hb => Below.heap_setCell _ _ _ _ (by have := HRc.out.rc.lt; have := hb.1; simp only; omega)) (fun b hb => ⟨hb.1, by simpa [World.setCell] using hb.2⟩))
       have HZE : Hid (wc.heap.size <= (wd.setCell ⟨C, 1, none⟩ (.slice a2 L2 p2)).heap.size) := hid (by simpa [World.setCell] using HZD.out)
       have HCf := hid (takeP (t := ⟨#[125]⟩) (l := [125]) hs rfl (by decide) HWV.out HRe.out.pt)
       go_wp2_with fail
       generalize wd.setCell ⟨C, 1, none⟩ (.slice a2 L2 p2) = we at *
       refine HCf.out.mono ?_
       rintro e wf ⟨rfl, hpf, hff⟩
       have HRf := hid (HRe.out.step hpC hff hpf)
       have HSLf : Hid (SlP wf (Fsh wc.heap.size wf) q (.slice a2 L2 p2) kids) := hid (HSLe.out.keep (fun b hb => hff.block b hb.2 (by have := hb.1; have := HRc.out.pt.lt; omega)) (fun b hb => ⟨hb.1, Nat.lt_of_lt_of_le hb.2 hff.size⟩))
       have HZF : Hid (wc.heap.size <= wf.heap.size) := hid (Nat.le_trans HZE.out hff.size)
       clear hpf hff HCf k0 y0 HRd HRe HSL HSLe HZD HZE
       rw [HEE.out] at HRf
       obtain ⟨K, HK⟩ : ∃ K, Hid (n <= K /\ q <= K) := ⟨max n q, hid ⟨Nat.le_max_left _ _, Nat.le_max_right _ _⟩⟩
       have hul := (HU.out.step hlr HRf.out.hx HRf.out.pt).le HK.out.1
       have hol := hul.gw.own
       rw [<- HL.out] at hul hol
       have HUL := hid hul
       have HO := hid hol
       clear hul hol
       have b0 := HRf.out.rc.cell (i := 0) rfl
       have b1 := HRf.out.rc.cell (i := 1) rfl
       have d3 := HUL.out.rb.cell (i := 3) rfl
       have hzw : w.heap.size + 2 <= wc.heap.size := by have := HRc.out.hx.size; have := HU.out.rb.lt; omega
       have hzf : wc.heap.size <= wf.heap.size := HZF.out
       go_wp2_with (at_builtin; refine wpList_append_lies _ rfl _ _ 139 rfl (w.heap.size + 2) 185 i0 _ 2 40 Tryz.underlying139 hi hz0 hz1 hz2 rfl (by decide) _ _ _ rfl (HO.out.alloc _) _ 1 1 [.string (ba ky), .slice a2 L2 p2] rfl rfl (z0s _ #[.string (ba ky), .slice a2 L2 p2] _ rfl) (by simp [Value.oneCell']) (by decide) (by unfold maxLen; omega) (by omega) (by simp; omega) (wf.heap.size + 1) (by simp) ?_; intro g5 c5 w9 hown9 hgrow9 hg9 _; have HB9 := hid (HUL.out.rb9 hgrow9); have HPU := hid (HUL.out.push (x := .mk (ba ky) kids) (B2 := wc.heap.size) hlr HL.out (CC.mk (HSLf.out.le HK.out.2)) hzw HOL.out rfl hgrow9 hown9 (by rcases hg9 with z | z; exact .inl z; right; rw [z]; omega)); have b3 := HB9.out.cell (i := 3) rfl; have y3 := HB9.out.thaw 3; clear hown9 hgrow9 hg9 b0 b1 d3)
       have HCg := hid (nowP hs HPU.out.pt)
       refine HCg.out.mono ?_
       rintro e wg ⟨rfl, hpg, hfg⟩
       have HUg := hid (HPU.out.step hlr hfg hpg)
       clear hpg hfg HCg HPU HB9 b3 y3 HUL HO HRf HSLf
       rcases z6l s.data.toList E 125 with ⟨hn, hB⟩ | ⟨hn, hB⟩
       ·have HE := hid (HHE.out.trans (by rw [HQ.out, HDE.out hn]))
        obtain ⟨hst, hget⟩ := z0b hn
        obtain ⟨j, st⟩ := E
        simp only at hst hget
        subst hst
        have htj := z0l hget
        rw [z05] at htj
        clear hn hget
        rw [show ((125 : UInt8).toNat : Int) = 125 from rfl] at hB
        have HUh := hid (HUg.out.on hlr)
        have c1 := HUg.out.pt.row.cell (i := 1) rfl
        have z1 := HUg.out.pt.row.thaw 1
        simp only at c1
        generalize nowI s.data.toList (j, 0) = v at *
        have q0 := HUh.out.rb.cell (i := 0) rfl
        have q1 := HUh.out.rb.cell (i := 1) rfl
        have q2 := HUh.out.rb.cell (i := 2) rfl
        have q3 := HUh.out.rb.cell (i := 3) rfl
        have a0 := HUh.out.ra.cell (i := 0) rfl
        have a1 := HUh.out.ra.cell (i := 1) rfl
        have a2 := HUh.out.ra.cell (i := 2) rfl
        have a3 := HUh.out.ra.cell (i := 3) rfl
        have y0 := HUh.out.ra.thaw 0
        have y1 := HUh.out.ra.thaw 1
        have y2 := HUh.out.ra.thaw 2
        have y3 := HUh.out.ra.thaw 3
        go_wp2
        have Q7 := HUh.out.ra.put4 (.int .i64 k) (.string ⟨#[]⟩) (.string (ba nm)) (.slice (some ⟨g5, 0, none⟩) (L + 1) c5)
        have B7 := But.put4 w.heap.size (wg.setCell ⟨pb, 1, none⟩ (.int .i64 ((j : Int) + 1))) (.int .i64 k) (.string ⟨#[]⟩) (.string (ba nm)) (.slice (some ⟨g5, 0, none⟩) (L + 1) c5)
        generalize (((((wg.setCell ⟨pb, 1, none⟩ (.int .i64 ((j : Int) + 1)))).setCell ⟨w.heap.size, 0, none⟩ (.int .i64 k)).setCell ⟨w.heap.size, 1, none⟩ (.string ⟨#[]⟩)).setCell ⟨w.heap.size, 2, none⟩ (.string (ba nm))).setCell ⟨w.heap.size, 3, none⟩ (.slice (some ⟨g5, 0, none⟩) (L + 1) c5) = wz at *
        have e0 := Q7.cell (i := 0) rfl
        have e1 := Q7.cell (i := 1) rfl
        have e2 := Q7.cell (i := 2) rfl
        have e3 := Q7.cell (i := 3) rfl
        exact bodyPost_ret (v := .agg #[.int .i64 k, .string ⟨#[]⟩, .string (ba nm), .slice (some ⟨g5, 0, none⟩) (L + 1) c5]) (by simp [results, Tryz.results127, go_sem, e0, e1, e2, e3]) rfl (by
         rw [HE.out]
         exact ⟨.slice (some ⟨g5, 0, none⟩) (L + 1) c5, _, rfl, SlC.fsh (HUh.out.gw.done (kpC _)) (fun b hb _ => B7.block b (by omega)) (by omega) (by rw [B7.size]; exact Nat.le_refl _), HUh.out.pt.keep (B7.block pb (by omega)), But.fr HUh.out.fr B7 (Nat.le_refl _)⟩)
       ·rw [show ((125 : UInt8).toNat : Int) = 125 from rfl] at hB
        have HE := hid (HQ.out.trans (HDM.out hn))
        clear hn
        generalize nowI s.data.toList E = v at *
        go_wp2
        go_roundw
        case rel => exact ⟨_, _, some ⟨g5, 0, none⟩, c5, K, g', E, by omega, by rw [HLEN.out]; exact HUg, HWE, HFE, HLEE, HE⟩
        case measure =>
         have h1 := zdz (m := s.size) HUg.out.pt
         have h2 := HADV.out
         have h3 := HGT.out
         have h4 := z3j HWE.out
         rw [HMS.out, h1]
         by_cases e : E.2 = 0
         ·rw [if_pos e]; have := h2 e; omega
         ·rw [if_neg e]; omega
theorem both_d : ∀ f, zjw f /\ HoleD f := by
 intro f
 induction f using Nat.strongRecOn with
 | _ f ih => exact ⟨zj2 f (fun g hg => (ih g hg).2), hole_of f (fun g hg => (ih g hg).1)⟩
end Go.Proofs.YtdnedbcmgkilaaaGreatDoor.Dr
