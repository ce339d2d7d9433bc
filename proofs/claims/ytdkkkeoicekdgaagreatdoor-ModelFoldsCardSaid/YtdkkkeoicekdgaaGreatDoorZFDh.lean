/- The document's reader in memory: a placeholder. -/
import Derived.Deep.DeepCutAuto
import Derived.Test.YtdkkkeoicekdgaaGreatDoorZFDt

namespace Go.Proofs.YtdkkkeoicekdgaaGreatDoor.Dr
set_option maxHeartbeats 12800000
set_option maxRecDepth 100000
open Go.Lib (hid)
open Go.RowKit Go.Proofs.YtdkkkeoicekdgaaGreatDoor
structure HoU (s : BA) (pb : Nat) (w wr : World) (n : Nat) (k : Int) (nm : BA) (v : Value) (cs : List Cs) (vs : List Value) (T : St) : Prop where
 gw : Gw 284 2 (CCn n) (w.heap.size + 2) wr v cs vs
 rb : Row wr (w.heap.size + 1) 263 [.int .i64 k, .string ⟨#[]⟩, .string nm, v]
 ra : Row wr w.heap.size 263 [.int .i64 0, .string ⟨#[]⟩, .string ⟨#[]⟩, .slice none 0 0]
 pt : PAt wr pb s T
 fr : Fr (· = pb) w wr
section
variable {s : BA} {pb : Nat} {w wr w2 : World} {n : Nat} {k : Int} {nm : BA} {v : Value} {cs : List Cs} {vs : List Value} {T T2 : St}
theorem HoU.step (h : HoU s pb w wr n k nm v cs vs T) (hlr : pb < w.heap.size) (hf : Fr (· = pb) wr w2) (hp : PAt w2 pb s T2) : HoU s pb w w2 n k nm v cs vs T2 :=
 ⟨h.gw.fr (kpC _) hf (fun _ hB _ e => by omega), h.rb.keep (hf.block _ h.rb.lt (by omega)), h.ra.keep (hf.block _ h.ra.lt (by omega)), hp, h.fr.trans hf⟩
theorem HoU.le {m : Nat} (h : HoU s pb w wr n k nm v cs vs T) (hm : n <= m) : HoU s pb w wr m k nm v cs vs T := ⟨h.gw.leC hm, h.rb, h.ra, h.pt, h.fr⟩
theorem HoU.on {i : Nat} (h : HoU s pb w wr n k nm v cs vs (i, 0)) (hlr : pb < w.heap.size) : HoU s pb w (wr.setCell ⟨pb, 1, none⟩ (.int .i64 ((i : Int) + 1))) n k nm v cs vs (i + 1, 0) := h.step hlr (z0k 1 _) (PAt.on (S := (i, 0)) h.pt)
theorem HoU.setB (h : HoU s pb w wr n k nm v cs vs T) (hlr : pb < w.heap.size) (i : Nat) (u : Value) (k2 : Int) (nm2 : BA) (hr : ([.int .i64 k, .string ⟨#[]⟩, .string nm, v] : List Value).set i u = [.int .i64 k2, .string ⟨#[]⟩, .string nm2, v]) : HoU s pb w (wr.setCell ⟨w.heap.size + 1, i, none⟩ u) n k2 nm2 v cs vs T := by
 have hb := (But.refl (w.heap.size + 1) wr).set i u;have hf : Fr (· = w.heap.size + 1) wr (wr.setCell ⟨w.heap.size + 1, i, none⟩ u) := z0k i u;exact ⟨h.gw.fr (kpC _) hf (fun _ hB _ e => by omega), by rw [<- hr]; exact h.rb.set i u, hb.row h.ra (by omega), h.pt.keep (hb.block pb (by omega)), hb.fr h.fr (by omega)⟩
theorem HoU.lt (h : HoU s pb w wr n k nm v cs vs T) : ∀ b, v.ownBlock = some b -> w.heap.size + 2 <= b /\ b < wr.heap.size := fun b hb => h.gw.own.lt b hb
theorem HoU.rb9 {w9 : World} {o : Obj} (h : HoU s pb w wr n k nm v cs vs T) (hg : (wr.alloc o).grownBy w9 v.ownBlock) : Row w9 (w.heap.size + 1) 263 [.int .i64 k, .string ⟨#[]⟩, .string nm, v] :=
 h.rb.keep ((hg.block _ (by have := h.rb.lt; rw [World.size_alloc]; omega) (fun e => by have := (h.lt _ e.symm).1; omega)).trans (Below.heap_alloc _ _ _ h.rb.lt))
theorem HoU.push {w9 : World} {o : Obj} {x : Cs} {us : List Value} {g c m B2 : Nat} (h : HoU s pb w wr n k nm v cs vs T) (hlr : pb < w.heap.size) (hm : m = cs.length) (hx : CCn n wr (Fsh B2 wr) x us) (hB : w.heap.size + 2 <= B2) (hv : ∀ b, v.ownBlock = some b -> b < B2) (hk : us.length = 2)
  (hg : (wr.alloc o).grownBy w9 v.ownBlock) (hown : w9.ownsRow (w.heap.size + 2) 284 2 (.slice (some ⟨g, 0, none⟩) (m + 1) c) (m + 1) (vs ++ us)) (hgl : v.ownBlock = some g ∨ wr.heap.size <= g) :
  HoU s pb w (w9.setCell ⟨w.heap.size + 1, 3, none⟩ (.slice (some ⟨g, 0, none⟩) (m + 1) c)) n k nm (.slice (some ⟨g, 0, none⟩) (m + 1) c) (cs ++ [x]) (vs ++ us) T := by
 have hb := (But.refl (w.heap.size + 1) w9).set 3 (.slice (some ⟨g, 0, none⟩) (m + 1) c);have hf : Fr (· = w.heap.size + 1) w9 (w9.setCell ⟨w.heap.size + 1, 3, none⟩ (.slice (some ⟨g, 0, none⟩) (m + 1) c)) := z0k 3 _
 have a : ∀ b, b < w.heap.size + 2 -> b < wr.heap.size -> w9.heap[b]? = wr.heap[b]? := fun b h1 h2 => (hg.block b (by rw [World.size_alloc]; omega) (fun e => by have := (h.lt b e.symm).1; omega)).trans (Below.heap_alloc _ _ _ h2)
 exact ⟨(h.gw.push (kpC _) hm hx hB hv hk hg hown hgl).fr (kpC _) hf (fun _ hB _ e => by omega), (h.rb9 hg).set 3 _, hb.row (h.ra.keep (a _ (by omega) h.ra.lt)) (by omega),
  h.pt.keep ((hb.block pb (by omega)).trans (a pb (by omega) h.pt.lt)), hb.fr ((h.fr.alloc o).grown hg (fun g hg => .inl (by have := (h.lt g hg).1; omega))) (by omega)⟩
end
section
variable {l : List UInt8} {g o : Nat} {h : Bool} {acc : List Cs} {T K R V E : St} {ky : List UInt8} {kids : List Pt}
theorem dc_stop (h0 : T.2 ≠ 0) : z0e l g o h acc T = (acc, T) := z2b h0
theorem dc_deep (h0 : T.2 = 0) (hk : dKey l (wordF l [32] T) = (ky, K)) (hr : wordF l [32] K = R) (hn : nowF l R = some 123) (ho : 32 <= o) : z0e l (g + 1) o h acc T = (acc, (R.1, 12)) := by
 rw [z0e, if_pos h0]; simp only; rw [hk]; simp only; rw [hr, if_pos ⟨hn, ho⟩]
theorem dc_end (h0 : T.2 = 0) (hk : dKey l (wordF l [32] T) = (ky, K)) (hr : wordF l [32] K = R) (hn : ¬ (nowF l R = some 123 /\ 32 <= o)) (hp : z05 l g (o + 1) h [] (wordF l [123] R) = (kids, V)) (he : wordF l [125] V = E) (h2 : nowF l E = some 125) : z0e l (g + 1) o h acc T = (acc ++ [.mk (ba ky) kids], (E.1 + 1, 0)) := by
 rw [z0e, if_pos h0]; simp only; rw [hk]; simp only; rw [hr, if_neg hn, hp]; simp only; rw [he, if_pos h2]
theorem dc_more (h0 : T.2 = 0) (hk : dKey l (wordF l [32] T) = (ky, K)) (hr : wordF l [32] K = R) (hn : ¬ (nowF l R = some 123 /\ 32 <= o)) (hp : z05 l g (o + 1) h [] (wordF l [123] R) = (kids, V)) (he : wordF l [125] V = E) (h2 : nowF l E ≠ some 125) : z0e l (g + 1) o h acc T = z0e l g o h (acc ++ [.mk (ba ky) kids]) E := by
 rw [z0e, if_pos h0]; simp only; rw [hk]; simp only; rw [hr, if_neg hn, hp]; simp only; rw [he, if_neg h2]
theorem dh_arg {cf : Bool -> St -> List Cs × St} {S N : St} {nm : List UInt8} (hN : dName l (S.1 + 1, 0) = (nm, N)) (h1 : nowF l N = some 125) : z1g l cf h S = (.mk 2 (ba []) (ba nm) [], (N.1 + 1, 0)) := by
 unfold z1g; simp only; rw [hN]; simp only; rw [if_pos h1]
theorem dh_sel {cf : Bool -> St -> List Cs × St} {S N : St} {nm : List UInt8} (hN : dName l (S.1 + 1, 0) = (nm, N)) (h1 : nowF l N ≠ some 125) (h2 : nowF l (wordF l [44, 32] N) = some 115) : z1g l cf h S = (.mk 5 (ba []) (ba nm) (cf h (wordF l seT (wordF l [44, 32] N))).1, (cf h (wordF l seT (wordF l [44, 32] N))).2) := by
 unfold z1g; simp only; rw [hN]; simp only; rw [if_neg h1, if_pos h2]
theorem dh_plu {cf : Bool -> St -> List Cs × St} {S N : St} {nm : List UInt8} (hN : dName l (S.1 + 1, 0) = (nm, N)) (h1 : nowF l N ≠ some 125) (h2 : nowF l (wordF l [44, 32] N) ≠ some 115) : z1g l cf h S = (.mk 4 (ba []) (ba nm) (cf true (wordF l plT (wordF l [44, 32] N))).1, (cf true (wordF l plT (wordF l [44, 32] N))).2) := by
 unfold z1g; simp only; rw [hN]; simp only; rw [if_neg h1, if_neg h2]
end
theorem takeP {pb : Nat} {s t : BA} {l : List UInt8} {S : St} {w : World} (hs : s.size <= 2000) (ht : t.data.toList = l) (hl : t.size <= 100) (hS : Wf s.data.toList S) (h : PAt w pb s S) : Calls Tryz.prog 229 #[.pointer (some ⟨pb, 0, none⟩), .string t] w fun e w' => e = .returned (.tuple #[]) /\ PAt w' pb s (wordF s.data.toList l S) /\ Fr (· = pb) w w' := by
 subst ht; exact z6a pb s t S w hs hl hS h
theorem z6g (l : List UInt8) (S : St) (c : UInt8) : (nowF l S = some c /\ (nowI l S == (c.toNat : Int)) = true) ∨ (nowF l S ≠ some c /\ (nowI l S == (c.toNat : Int)) = false) := by
 by_cases h : nowF l S = some c
 ·exact .inl ⟨h, by rw [z94, decide_eq_true h]⟩
 ·exact .inr ⟨h, by rw [z94, decide_eq_false h]⟩
structure CU (s : BA) (pb C : Nat) (wr wx : World) (ky u : Value) (T : St) : Prop where
 hx : Fr (· = pb) wr wx
 pt : PAt wx pb s T
 rc : Row wx C 284 [ky, u]
section
variable {s : BA} {pb C : Nat} {wr wx w2 : World} {ky u : Value} {T T2 : St}
theorem CU.step (h : CU s pb C wr wx ky u T) (hC : pb < C) (hf : Fr (· = pb) wx w2) (hp : PAt w2 pb s T2) : CU s pb C wr w2 ky u T2 :=
 ⟨h.hx.trans hf, hp, h.rc.keep (hf.block C h.rc.lt (by omega))⟩
theorem CU.setC (h : CU s pb C wr wx ky u T) (hC : pb < C) (hwC : wr.heap.size <= C) (i : Nat) (y ky2 u2 : Value) (hr : ([ky, u] : List Value).set i y = [ky2, u2]) : CU s pb C wr (wx.setCell ⟨C, i, none⟩ y) ky2 u2 T :=
 ⟨h.hx.setCell (.inl hwC) _, h.pt.keep (Below.heap_setCell _ _ _ _ (by simp only; omega)), by rw [<- hr]; exact h.rc.set i y⟩
end
theorem hole_of (f : Nat) (HP : ∀ g, g < f -> zj4 g) : HoleD f := by
 intro o h pb s S w hs ho hS hn hfu hR;obtain ⟨i0, hi, cZ, da, de⟩ := info_parts info44;have p := hR.lt;obtain ⟨D, d⟩ := z0b hn;obtain ⟨i, st⟩ := S;simp only at D d hfu;subst D;have bN : Hid (i < s.size) := hid (by have := z0z d; rw [z07] at this; exact this);have dr := bN.out;have c1 := hR.row.c1;have z1 := hR.row.thaw 1;simp only at c1;have bO := hid HP;have O := hid (z0u hn);have bP := hid hfu
 have bi : Hid (HoU s pb w (((w.setCell ⟨pb, 1, none⟩ (.int .i64 ((i : Int) + 1))).alloc (.cells #[.int .i64 0, .string ⟨#[]⟩, .string ⟨#[]⟩, .slice none 0 0] 263)).alloc (.cells #[.int .i64 2, .string ⟨#[]⟩, .string ⟨#[]⟩, .slice none 0 0] 263)) 0 2 ⟨#[]⟩ (.slice none 0 0) [] [] (i + 1, 0)) := hid (by
  have aW : (w.setCell ⟨pb, 1, none⟩ (.int .i64 ((i : Int) + 1))).heap.size = w.heap.size := by simp [World.setCell]
  have bQ := z02 (w.setCell ⟨pb, 1, none⟩ (.int .i64 ((i : Int) + 1))) #[.int .i64 0, .string ⟨#[]⟩, .string ⟨#[]⟩, .slice none 0 0] 263;have bR := z02 ((w.setCell ⟨pb, 1, none⟩ (.int .i64 ((i : Int) + 1))).alloc (.cells #[.int .i64 0, .string ⟨#[]⟩, .string ⟨#[]⟩, .slice none 0 0] 263)) #[.int .i64 2, .string ⟨#[]⟩, .string ⟨#[]⟩, .slice none 0 0] 263;rw [aW] at bQ;rw [World.size_alloc, aW] at bR
  exact ⟨Gw.nil _ _ _ _ _, bR, bQ.alloc _, ((PAt.on (S := (i, 0)) hR).alloc _).alloc _, ((z0k 1 _).alloc _).alloc _⟩)
 have af := hid (z9b s.data.toList (i + 1, 0));have aM : Hid (∀ W, PAt W pb s (i + 1, 0) -> Calls Tryz.prog 255 #[.pointer (some ⟨pb, 0, none⟩)] W fun e w' => e = .returned (.string (ba (dName s.data.toList (i + 1, 0)).1)) /\ PAt w' pb s (dName s.data.toList (i + 1, 0)).2 /\ Fr (· = pb) W w') := hid (fun W hW => z4d pb s (i + 1, 0) W hs O.out hW);obtain ⟨nm, N, ag⟩ : ∃ nm N, Hid (dName s.data.toList (i + 1, 0) = (nm, N)) := ⟨_, _, hid rfl⟩;rw [ag.out] at af aM;simp only at af aM;have bj := hid (af.out.2.1 O.out);clear hS hn hfu hR d HP
 go_enter Tryz.func228, Tryz.ntmps228
 have ah := hid (aM.out _ bi.out.pt)
 go_wp2_with fail
 generalize ((w.setCell ⟨pb, 1, none⟩ (.int .i64 ((i : Int) + 1))).alloc (.cells #[.int .i64 0, .string ⟨#[]⟩, .string ⟨#[]⟩, .slice none 0 0] 263)).alloc (.cells #[.int .i64 2, .string ⟨#[]⟩, .string ⟨#[]⟩, .slice none 0 0] 263) = w1 at *
 refine ah.out.mono ?_;rintro e w2 ⟨rfl, ai, aj⟩;have aN := hid (bi.out.step p aj ai);clear ai aj ah aM bi c1 z1;have d2 := aN.out.rb.c2;have y2 := aN.out.rb.thaw 2;have bm := hid (aN.out.setB p 2 (.string (ba nm)) 2 (ba nm) rfl);have bS := hid (nowP hs bm.out.pt)
 go_wp2_with fail
 generalize w2.setCell ⟨w.heap.size + 1, 2, none⟩ (.string (ba nm)) = w3 at *
 refine bS.out.mono ?_;rintro e w4 ⟨rfl, bT, bU⟩;have U := hid (bm.out.step p bU bT);clear bT bU bS;clear d2 y2 aN bm
 rcases z6g s.data.toList N 125 with ⟨hn, hB⟩ | ⟨hn, hB⟩
 ·have HE := hid (dh_arg (h := h) (cf := fun h S => z0e s.data.toList f o h [] S) (S := ((i, 0) : St)) ag.out hn)
  obtain ⟨D, d⟩ := z0b hn;obtain ⟨j, st⟩ := N;simp only at D d;subst D;have bn := z0z d;rw [z07] at bn;clear hn d;rw [show ((125 : UInt8).toNat : Int) = 125 from rfl] at hB;have c := hid (U.out.on p);have c1 := U.out.pt.row.c1;have z1 := U.out.pt.row.thaw 1;simp only at c1
  generalize nowI s.data.toList (j, 0) = v at *
  have q0 := c.out.rb.c0;have q1 := c.out.rb.c1;have q2 := c.out.rb.c2;have q3 := c.out.rb.c3;have a0 := c.out.ra.c0;have a1 := c.out.ra.c1;have a2 := c.out.ra.c2;have a3 := c.out.ra.c3;have y0 := c.out.ra.thaw 0;have y1 := c.out.ra.thaw 1;have y2 := c.out.ra.thaw 2;have y3 := c.out.ra.thaw 3;go_wp2;have Q7 := c.out.ra.put4 (.int .i64 2) (.string ⟨#[]⟩) (.string (ba nm)) (.slice none 0 0);have B7 := But.put4 w.heap.size (w4.setCell ⟨pb, 1, none⟩ (.int .i64 ((j : Int) + 1))) (.int .i64 2) (.string ⟨#[]⟩) (.string (ba nm)) (.slice none 0 0)
  generalize (((((w4.setCell ⟨pb, 1, none⟩ (.int .i64 ((j : Int) + 1)))).setCell ⟨w.heap.size, 0, none⟩ (.int .i64 2)).setCell ⟨w.heap.size, 1, none⟩ (.string ⟨#[]⟩)).setCell ⟨w.heap.size, 2, none⟩ (.string (ba nm))).setCell ⟨w.heap.size, 3, none⟩ (.slice none 0 0) = wz at *
  have e0 := Q7.c0;have e1 := Q7.c1;have e2 := Q7.c2;have e3 := Q7.c3
  exact bodyPost_ret (v := .agg #[.int .i64 2, .string ⟨#[]⟩, .string (ba nm), .slice none 0 0]) (by simp [results, Tryz.results228, go_sem, e0, e1, e2, e3]) rfl (by
   rw [HE.out]
   exact ⟨.slice none 0 0, _, rfl, SlC.fsh (c.out.gw.done (kpC _)) (fun b hb _ => B7.block b (by omega)) (by omega) (by rw [B7.size]; exact Nat.le_refl _), c.out.pt.keep (B7.block pb (by omega)), But.fr c.out.fr B7 (Nat.le_refl _)⟩)
 rw [show ((125 : UInt8).toNat : Int) = 125 from rfl] at hB;have bo := hid hn;clear hn
 generalize nowI s.data.toList N = v at *
 have bV := hid (takeP (t := ⟨#[44, 32]⟩) (l := [44, 32]) hs rfl (by decide) bj.out U.out.pt)
 go_wp2_with fail
 refine bV.out.mono ?_;rintro e w5 ⟨rfl, bW, bX⟩;have c := hid (U.out.step p bX bW);clear bW bX bV;obtain ⟨W1, HW⟩ : ∃ W1, Hid (wordF s.data.toList [44, 32] N = W1) := ⟨_, hid rfl⟩;have J := hid (z06 s.data.toList [44, 32] N);rw [HW.out] at c J;have aq := hid (J.out.2.1 bj.out);clear hB U;have d0 := c.out.rb.c0;have y0 := c.out.rb.thaw 0;have bq := hid (c.out.setB p 0 (.int .i64 4) 4 (ba nm) rfl);have bY := hid (nowP hs bq.out.pt)
 go_wp2_with fail
 generalize w5.setCell ⟨w.heap.size + 1, 0, none⟩ (.int .i64 4) = w6 at *
 refine bY.out.mono ?_;rintro e w7 ⟨rfl, bZ, b7⟩;have X := hid (bq.out.step p b7 bZ);clear bZ b7 bY;clear d0 y0 c bq;have bt : Hid (i + 1 <= N.1 /\ N.1 <= W1.1) := hid ⟨af.out.1, J.out.1⟩
 go_upto_if 36 with (fail)
 go_cut [] (fun wx => ∃ (k : Int) (b2 : Bool) (T : St), (k = 4 /\ b2 = true ∨ k = 5 /\ h = b2) /\ Hid (Wf s.data.toList T /\ i + 1 <= T.1) /\ Hid (z1g s.data.toList (fun h S => z0e s.data.toList f o h [] S) h ((i, 0) : St) = (.mk k (ba []) (ba nm) (z0e s.data.toList f o b2 [] T).1, (z0e s.data.toList f o b2 [] T).2)) /\ Hid (HoU s pb w wx 0 k (ba nm) (.slice none 0 0) [] [] T))
 case first =>
  rcases z6g s.data.toList W1 115 with ⟨hn, hB⟩ | ⟨hn, hB⟩
  ·have HE := hid (dh_sel (h := h) (cf := fun h S => z0e s.data.toList f o h [] S) (S := ((i, 0) : St)) ag.out bo.out (by rw [HW.out]; exact hn))
   rw [HW.out] at HE;rw [show ((115 : UInt8).toNat : Int) = 115 from rfl] at hB;have F := hid (z06 s.data.toList seT W1);have bu : Hid (Wf s.data.toList (wordF s.data.toList seT W1) /\ i + 1 <= (wordF s.data.toList seT W1).1) := hid ⟨F.out.2.1 aq.out, by have h1 := F.out.1; have h2 := bt.out; omega⟩;clear hn
   generalize nowI s.data.toList W1 = v2 at *
   have d0 := X.out.rb.c0;have y0 := X.out.rb.thaw 0;have ar := hid (X.out.setB p 0 (.int .i64 5) 5 (ba nm) rfl);have au := hid (takeP (t := ⟨#[115, 101, 108, 101, 99, 116, 44]⟩) (l := [115, 101, 108, 101, 99, 116, 44]) hs rfl (by decide) aq.out ar.out.pt)
   go_wp2_with fail
   refine au.out.mono ?_;rintro e w9 ⟨rfl, aw, ax⟩;have bv := hid (ar.out.step p ax aw);clear aw ax au;go_wp2
   go_meet
   case rel => exact ⟨5, h, _, .inr ⟨rfl, rfl⟩, bu, HE, bv⟩
  ·have HE := hid (dh_plu (h := h) (cf := fun h S => z0e s.data.toList f o h [] S) (S := ((i, 0) : St)) ag.out bo.out (by rw [HW.out]; exact hn))
   rw [HW.out] at HE;rw [show ((115 : UInt8).toNat : Int) = 115 from rfl] at hB;have F := hid (z06 s.data.toList plT W1);have bu : Hid (Wf s.data.toList (wordF s.data.toList plT W1) /\ i + 1 <= (wordF s.data.toList plT W1).1) := hid ⟨F.out.2.1 aq.out, by have h1 := F.out.1; have h2 := bt.out; omega⟩;clear hn
   generalize nowI s.data.toList W1 = v2 at *
   have au := hid (takeP (t := ⟨#[112, 108, 117, 114, 97, 108, 44]⟩) (l := [112, 108, 117, 114, 97, 108, 44]) hs rfl (by decide) aq.out X.out.pt)
   go_wp2_with fail
   refine au.out.mono ?_;rintro e w9 ⟨rfl, aw, ax⟩;have bv := hid (X.out.step p ax aw);clear aw ax au;go_wp2
   go_meet
   case rel => exact ⟨4, true, _, .inl ⟨rfl, rfl⟩, bu, HE, bv⟩
 case rest =>
  obtain ⟨k, b2, T0, bw, ay, bz, ar⟩ := hcut;clear X ag bo HW aq bj af J bt O;have b8 : Hid (T0.2 = 0 -> s.size - T0.1 < f) := hid (fun _ => by have h1 := ay.out.2; have h2 := bP.out; have h3 := bN.out; omega);go_wp2
  go_loopw [] (fun wr => ∃ (cs : List Cs) (vs : List Value) (a : Option Addr) (y n g : Nat) (T : St), g <= f /\ Hid (HoU s pb w wr n k (ba nm) (.slice a cs.length y) cs vs T) /\ Hid (Wf s.data.toList T) /\ Hid (T.2 = 0 -> s.size - T.1 < g) /\ Hid (cs.length <= T.1 + (if T.2 = 0 then 0 else 1)) /\ Hid (z0e s.data.toList f o b2 [] T0 = z0e s.data.toList g o b2 cs T)) (fun wr => pl3 s.size pb wr)
  case atStart => exact ⟨[], [], none, 0, 0, f, T0, Nat.le_refl _, ar, hid ay.out.1, b8, hid (Nat.zero_le _), hid rfl⟩
  case round =>
   obtain ⟨cs, vs, a, y, n, g, T, dt, HU, bA, b9, cg, HQ⟩ := hrel;clear ar ay b8;have aX := hid (zdf (m := s.size) HU.out.pt);have c2 := HU.out.pt.row.c2
   by_cases h0 : T.2 = 0
   rotate_left
   ·have HE := hid (bz.out.trans (by rw [HQ.out, dc_stop h0]))
    have hB : ((T.2 : Int) == 0) = false := by rw [beq_eq_false_iff_ne]; omega
    clear h0;have q0 := HU.out.rb.c0;have q1 := HU.out.rb.c1;have q2 := HU.out.rb.c2;have q3 := HU.out.rb.c3;have a0 := HU.out.ra.c0;have a1 := HU.out.ra.c1;have a2 := HU.out.ra.c2;have a3 := HU.out.ra.c3;have y0 := HU.out.ra.thaw 0;have y1 := HU.out.ra.thaw 1;have y2 := HU.out.ra.thaw 2;have y3 := HU.out.ra.thaw 3;go_wp2;have Q7 := HU.out.ra.put4 (.int .i64 k) (.string ⟨#[]⟩) (.string (ba nm)) (.slice a cs.length y);have B7 := But.put4 w.heap.size (wr) (.int .i64 k) (.string ⟨#[]⟩) (.string (ba nm)) (.slice a cs.length y)
    generalize (((((wr)).setCell ⟨w.heap.size, 0, none⟩ (.int .i64 k)).setCell ⟨w.heap.size, 1, none⟩ (.string ⟨#[]⟩)).setCell ⟨w.heap.size, 2, none⟩ (.string (ba nm))).setCell ⟨w.heap.size, 3, none⟩ (.slice a cs.length y) = wz at *
    have e0 := Q7.c0;have e1 := Q7.c1;have e2 := Q7.c2;have e3 := Q7.c3
    exact bodyPost_ret (v := .agg #[.int .i64 k, .string ⟨#[]⟩, .string (ba nm), .slice a cs.length y]) (by simp [results, Tryz.results228, go_sem, e0, e1, e2, e3]) rfl (by
     rw [HE.out]
     exact ⟨.slice a cs.length y, _, rfl, SlC.fsh (HU.out.gw.done (kpC _)) (fun b hb _ => B7.block b (by omega)) (by omega) (by rw [B7.size]; exact Nat.le_refl _), HU.out.pt.keep (B7.block pb (by omega)), But.fr HU.out.fr B7 (Nat.le_refl _)⟩)
   ·obtain ⟨t1, st⟩ := T
    simp only at h0;subst h0;have df : Hid (pl3 s.size pb wr = 2 * (s.size - t1) + 1) := hid (by rw [aX.out]; simp);have G : Hid (s.size - t1 < g) := hid (b9.out rfl);have aY : Hid (cs.length <= t1) := hid (by have := cg.out; simpa using this);have du : t1 <= s.size := z3j bA.out;obtain ⟨g', rfl⟩ : ∃ g', g = g' + 1 := ⟨g - 1, by have := G.out; omega⟩;obtain ⟨L, HL⟩ := nmd (cs.length)
    have dv : L <= 2000 := by have := aY.out; have := HL.out; omega
    have cj : Hid (∀ b, (Value.slice a L y).ownBlock = some b -> b < wr.heap.size) := hid (by rw [HL.out]; exact fun b hb => (HU.out.lt b hb).2);obtain ⟨C, bB⟩ := nmd (wr.heap.size)
    have ck : wr.heap.size <= C := by have := bB.out; omega
    have A : pb < C := by have := HU.out.pt.lt; omega
    have H : Hid (CU s pb C wr (wr.alloc (.cells #[.string ⟨#[]⟩, .slice none 0 0] 284)) (.string ⟨#[]⟩) (.slice none 0 0) (t1, 0)) := hid ⟨(Fr.refl _ _).alloc _, HU.out.pt.alloc _, by rw [bB.out]; exact z02 wr #[.string ⟨#[]⟩, .slice none 0 0] 284⟩;obtain ⟨K0, az⟩ : ∃ K0, Hid (wordF s.data.toList [32] (t1, 0) = K0) := ⟨_, hid rfl⟩;have aA := hid (z06 s.data.toList [32] (t1, 0));rw [az.out] at aA;have cr := hid (aA.out.2.1 bA.out);obtain ⟨ky, KK, aB⟩ : ∃ ky KK, Hid (dKey s.data.toList K0 = (ky, KK)) := ⟨_, _, hid rfl⟩;have aC := hid (zhu s.data.toList K0);rw [aB.out] at aC;have O := hid (aC.out.2.1 cr.out);obtain ⟨R, aD⟩ : ∃ R, Hid (wordF s.data.toList [32] KK = R) := ⟨_, hid rfl⟩;have aE := hid (z06 s.data.toList [32] KK);rw [aD.out] at aE;have ct := hid (aE.out.2.1 O.out);obtain ⟨T2, aO⟩ : ∃ T2, Hid (wordF s.data.toList [123] R = T2) := ⟨_, hid rfl⟩;have aP := hid (z06 s.data.toList [123] R);have bC : Hid ((wordF s.data.toList [123] R).2 = 0 -> R.1 + 1 <= (wordF s.data.toList [123] R).1) := hid z4b;rw [aO.out] at aP bC;have bD := hid (aP.out.2.1 ct.out);obtain ⟨kids, V, aF⟩ : ∃ kids V, Hid (z05 s.data.toList g' (o + 1) b2 [] T2 = (kids, V)) := ⟨_, _, hid rfl⟩;have Y := hid (zht s.data.toList g' (o + 1) b2 [] T2);rw [aF.out] at Y;have cu := hid (Y.out.2.1 bD.out);obtain ⟨E, aQ⟩ : ∃ E, Hid (wordF s.data.toList [125] V = E) := ⟨_, hid rfl⟩;have Z := hid (z06 s.data.toList [125] V);rw [aQ.out] at Z;have bE := hid (Z.out.2.1 cu.out);have cx : Hid (t1 <= E.1) := hid (by have h0 := aA.out.1; have h1 := aC.out.1; have h2 := aE.out.1; have h3 := aP.out.1; have h4 := Y.out.1; have h5 := Z.out.1; simp only at h0 h1 h4; omega)
    have aG : Hid (T2.2 = 0 -> t1 + 1 <= T2.1) := hid (fun e => by have h0 := aA.out.1; have h1 := aC.out.1; have h2 := aE.out.1; have h3 := bC.out e; simp only at h0 h1; omega)
    have aH : Hid (E.2 = 0 -> t1 + 1 <= E.1) := hid (fun e => by
     have h5 := Z.out.live e;have h4 := Y.out.live h5;have h3 := aG.out h4;have g4 := Y.out.1;have g5 := Z.out.1;simp only at g4
     omega)
    have dg : Hid (E.2 = 0 -> s.size - E.1 < g') := hid (fun e => by have h1 := aH.out e; have h2 := G.out; have h3 := z3j bE.out; omega);have aZ : Hid (T2.2 = 0 -> s.size - T2.1 < g') := hid (fun e => by have h1 := aG.out e; have h2 := G.out; have h3 := z3j bD.out; omega);have bc : Hid ((cs ++ [Cs.mk (ba ky) kids]).length = L + 1) := hid (by rw [List.length_append, HL.out]; rfl)
    have cy : Hid ((cs ++ [Cs.mk (ba ky) kids]).length <= E.1 + (if E.2 = 0 then 0 else 1)) := hid (by
     rw [bc.out];have h1 := aY.out;have h2 := HL.out;have h3 := cx.out
     by_cases e : E.2 = 0
     ·rw [if_pos e]; have := aH.out e; omega
     ·rw [if_neg e]; omega)
    have cz : Hid (nowF s.data.toList R = some 123 -> 32 <= o -> z0e s.data.toList (g' + 1) o b2 cs (t1, 0) = (cs, (R.1, 12))) := hid (fun h1 h2 => dc_deep rfl (by rw [az.out]; exact aB.out) aD.out h1 h2);have bd : Hid (¬ (nowF s.data.toList R = some 123 /\ 32 <= o) -> nowF s.data.toList E = some 125 -> z0e s.data.toList (g' + 1) o b2 cs (t1, 0) = (cs ++ [.mk (ba ky) kids], (E.1 + 1, 0))) := hid (fun h1 h2 => dc_end rfl (by rw [az.out]; exact aB.out) aD.out h1 (by rw [aO.out]; exact aF.out) aQ.out h2);have bf : Hid (¬ (nowF s.data.toList R = some 123 /\ 32 <= o) -> nowF s.data.toList E ≠ some 125 -> z0e s.data.toList (g' + 1) o b2 cs (t1, 0) = z0e s.data.toList g' o b2 (cs ++ [.mk (ba ky) kids]) E) := hid (fun h1 h2 => dc_more rfl (by rw [az.out]; exact aB.out) aD.out h1 (by rw [aO.out]; exact aF.out) aQ.out h2)
    have cA : Hid (∀ W, PAt W pb s K0 -> Calls Tryz.prog 256 #[.pointer (some ⟨pb, 0, none⟩)] W fun e w' => e = .returned (.string (ba ky)) /\ PAt w' pb s KK /\ Fr (· = pb) W w') := hid (fun W hW => by
     have := zci pb s K0 W hs cr.out hW
     rw [aB.out] at this; exact this)
    have aI : Hid (∀ W, PAt W pb s T2 -> Calls Tryz.prog 195 #[.pointer (some ⟨pb, 0, none⟩), .int .i64 (o + 1 : Nat), .bool b2] W (z5w pb s W (kids, V))) := hid (fun W hW => by
     have := bO.out g' (by omega) (o + 1) b2 pb s T2 W hs (by omega) bD.out aZ.out hW
     rw [aF.out] at this; exact this)
    rw [show (((o + 1 : Nat)) : Int) = (o : Int) + 1 by omega] at aI
    have dw : (o : Int) <= 4000 := by omega
    clear aX b9 cg aA aC aE aP Y Z bC aG aF aZ bO;simp only [Int.natCast_zero] at c2;have cB := hid (takeP (t := ⟨#[32]⟩) (l := [32]) hs rfl (by decide) bA.out H.out.pt)
    go_wp2_with fail
    generalize wr.alloc (.cells #[.string ⟨#[]⟩, .slice none 0 0] 284) = wq at *
    try rw [<- bB.out]
    refine cB.out.mono ?_;rintro e wa ⟨rfl, cC, cD⟩;have H := hid (H.out.step A cD cC);clear cC cD cB;rw [az.out] at H;have cE := hid (cA.out _ H.out.pt)
    go_wp2_with fail
    refine cE.out.mono ?_;rintro e wb ⟨rfl, cF, cG⟩;have M := hid (H.out.step A cG cF);clear cF cG cE cA;have k0 := M.out.rc.c0;have y0 := M.out.rc.thaw 0;have bF := hid (M.out.setC A ck 0 (.string (ba ky)) _ _ rfl);have cH := hid (takeP (t := ⟨#[32]⟩) (l := [32]) hs rfl (by decide) O.out bF.out.pt)
    go_wp2_with fail
    generalize wb.setCell ⟨C, 0, none⟩ (.string (ba ky)) = dx at *
    refine cH.out.mono ?_;rintro e w1 ⟨rfl, cI, cJ⟩;have aR := hid (bF.out.step A cJ cI);clear cI cJ cH;rw [aD.out] at aR;clear k0 y0 M bF H;have ah := hid (nowP hs aR.out.pt)
    go_wp2_with fail
    refine ah.out.mono ?_;rintro e w2 ⟨rfl, ai, aj⟩;have I := hid (aR.out.step A aj ai);clear ai aj ah;clear aR
    have bG : (nowF s.data.toList R = some 123 /\ 32 <= o) ∨ (¬ (nowF s.data.toList R = some 123 /\ 32 <= o) /\ ((nowI s.data.toList R == (123 : Int)) = false ∨ ((nowI s.data.toList R == (123 : Int)) = true /\ ¬ (32 : Int) <= (o : Int)))) := by
     rcases z6g s.data.toList R 123 with ⟨hn, hB⟩ | ⟨hn, hB⟩
     ·by_cases ho32 : 32 <= o
      ·exact .inl ⟨hn, ho32⟩
      ·exact .inr ⟨fun e => ho32 e.2, .inr ⟨hB, by omega⟩⟩
     ·exact .inr ⟨fun e => hn e.1, .inl hB⟩
    rcases bG with ⟨hn, ho32⟩ | ⟨hnd, hv⟩
    ·have HE := hid (bz.out.trans (by rw [HQ.out, cz.out hn ho32]))
     have hB : (nowI s.data.toList R == (123 : Int)) = true := by rw [z0g hn]; rfl
     have dh : (32 : Int) <= (o : Int) := by omega
     clear hn ho32;have r := hid (HU.out.step (w2 := w2.setCell ⟨pb, 2, none⟩ (.int .i64 12)) (T2 := (R.1, 12)) p (I.out.hx.trans (z0k 2 _)) (I.out.pt.bad 12));have p2 := I.out.pt.row.c2;have z2 := I.out.pt.row.thaw 2
     generalize nowI s.data.toList R = v at *
     have q0 := r.out.rb.c0;have q1 := r.out.rb.c1;have q2 := r.out.rb.c2;have q3 := r.out.rb.c3;have a0 := r.out.ra.c0;have a1 := r.out.ra.c1;have a2 := r.out.ra.c2;have a3 := r.out.ra.c3;have y0 := r.out.ra.thaw 0;have y1 := r.out.ra.thaw 1;have y2 := r.out.ra.thaw 2;have y3 := r.out.ra.thaw 3;go_wp2;have Q7 := r.out.ra.put4 (.int .i64 k) (.string ⟨#[]⟩) (.string (ba nm)) (.slice a cs.length y);have B7 := But.put4 w.heap.size (w2.setCell ⟨pb, 2, none⟩ (.int .i64 12)) (.int .i64 k) (.string ⟨#[]⟩) (.string (ba nm)) (.slice a cs.length y)
     generalize (((((w2.setCell ⟨pb, 2, none⟩ (.int .i64 12))).setCell ⟨w.heap.size, 0, none⟩ (.int .i64 k)).setCell ⟨w.heap.size, 1, none⟩ (.string ⟨#[]⟩)).setCell ⟨w.heap.size, 2, none⟩ (.string (ba nm))).setCell ⟨w.heap.size, 3, none⟩ (.slice a cs.length y) = wz at *
     have e0 := Q7.c0;have e1 := Q7.c1;have e2 := Q7.c2;have e3 := Q7.c3
     exact bodyPost_ret (v := .agg #[.int .i64 k, .string ⟨#[]⟩, .string (ba nm), .slice a cs.length y]) (by simp [results, Tryz.results228, go_sem, e0, e1, e2, e3]) rfl (by
      rw [HE.out]
      exact ⟨.slice a cs.length y, _, rfl, SlC.fsh (r.out.gw.done (kpC _)) (fun b hb _ => B7.block b (by omega)) (by omega) (by rw [B7.size]; exact Nat.le_refl _), r.out.pt.keep (B7.block pb (by omega)), But.fr r.out.fr B7 (Nat.le_refl _)⟩)
    have di := hid (bd.out hnd);have dj := hid (bf.out hnd);clear bd bf cz hnd
    generalize nowI s.data.toList R = v at *
    rcases hv with hB | ⟨hB, dh⟩
    all_goals
     have cK := hid (takeP (t := ⟨#[123]⟩) (l := [123]) hs rfl (by decide) ct.out I.out.pt)
     go_wp2_with fail
     refine cK.out.mono ?_;rintro e wc ⟨rfl, cM, cN⟩;have B := hid (I.out.step A cN cM);clear cM cN cK;rw [aO.out] at B;have cO := hid (aI.out wc B.out.pt);clear aI I;have dk : Hid (∀ b, (Value.slice a L y).ownBlock = some b -> b < wc.heap.size) := hid (fun b hb => by have h1 := cj.out b hb; have h2 := B.out.hx.size; omega);have kk := (HU.out.step p B.out.hx B.out.pt).rb.c0
     have cP : ((k == 4) = true /\ b2 = true) ∨ ((k == 4) = false /\ h = b2) := by
      rcases bw with ⟨e1, e2⟩ | ⟨e1, e2⟩
      ·exact .inl ⟨by rw [e1]; rfl, e2⟩
      ·exact .inr ⟨by rw [e1]; rfl, e2⟩
     have dl := hid bw;clear bw dl
     rcases cP with ⟨hk4, rfl⟩ | ⟨hk4, rfl⟩
     all_goals
      cases h
      all_goals
       go_wp2_with fail
       refine cO.out.mono ?_;rintro e wd ⟨a2, p2, q, rfl, aS, bH, bI⟩;simp only at aS bH;have aT := hid (B.out.step A bI bH);obtain ⟨L2, dm⟩ := nmd (kids.length);rw [<- dm.out] at aS ⊢;have cQ := hid aS;have cS : Hid (wc.heap.size <= wd.heap.size) := hid bI.size;clear bH bI aS cO;have k0 := aT.out.rc.c1;have y0 := aT.out.rc.thaw 1;have bJ := hid (aT.out.setC A ck 1 (.slice a2 L2 p2) _ _ rfl);have bg : Hid (SlP (wd.setCell ⟨C, 1, none⟩ (.slice a2 L2 p2)) (Fsh wc.heap.size (wd.setCell ⟨C, 1, none⟩ (.slice a2 L2 p2))) q (.slice a2 L2 p2) kids) := hid (cQ.out.keep (fun b hb => Below.heap_setCell _ _ _ _ (by have := B.out.rc.lt; have := hb.1; simp only; omega)) (fun b hb => ⟨hb.1, by simpa [World.setCell] using hb.2⟩));have cT : Hid (wc.heap.size <= (wd.setCell ⟨C, 1, none⟩ (.slice a2 L2 p2)).heap.size) := hid (by simpa [World.setCell] using cS.out);have cU := hid (takeP (t := ⟨#[125]⟩) (l := [125]) hs rfl (by decide) cu.out bJ.out.pt)
       go_wp2_with fail
       generalize wd.setCell ⟨C, 1, none⟩ (.slice a2 L2 p2) = we at *
       refine cU.out.mono ?_;rintro e wf ⟨rfl, cV, aJ⟩;have aa := hid (bJ.out.step A aJ cV);have bh : Hid (SlP wf (Fsh wc.heap.size wf) q (.slice a2 L2 p2) kids) := hid (bg.out.keep (fun b hb => aJ.block b hb.2 (by have := hb.1; have := B.out.pt.lt; omega)) (fun b hb => ⟨hb.1, Nat.lt_of_lt_of_le hb.2 aJ.size⟩));have dn : Hid (wc.heap.size <= wf.heap.size) := hid (Nat.le_trans cT.out aJ.size);clear cV aJ cU k0 y0 aT bJ cQ bg cS cT;rw [aQ.out] at aa;obtain ⟨K, HK⟩ : ∃ K, Hid (n <= K /\ q <= K) := ⟨max n q, hid ⟨Nat.le_max_left _ _, Nat.le_max_right _ _⟩⟩;have aU := (HU.out.step p aa.out.hx aa.out.pt).le HK.out.1;have bK := aU.gw.own;rw [<- HL.out] at aU bK;have aV := hid aU;have HO := hid bK;clear aU bK;have b0 := aa.out.rc.c0;have b1 := aa.out.rc.c1;have d3 := aV.out.rb.c3
       have dq : w.heap.size + 2 <= wc.heap.size := by have := B.out.hx.size; have := HU.out.rb.lt; omega
       have dy : wc.heap.size <= wf.heap.size := dn.out
       go_wp2_with (at_builtin; refine wpList_append_lies _ rfl _ _ 261 rfl (w.heap.size + 2) 284 i0 _ 2 40 Tryz.underlying261 hi cZ da de rfl (by decide) _ _ _ rfl (HO.out.alloc _) _ 1 1 [.string (ba ky), .slice a2 L2 p2] rfl rfl (z1v _ #[.string (ba ky), .slice a2 L2 p2] _ rfl) (by simp [Value.oneCell']) (by decide) (by unfold maxLen; omega) (by omega) (by simp; omega) (wf.heap.size + 1) (by simp) ?_; intro g5 c5 w9 hown9 hgrow9 hg9 _; have bL := hid (aV.out.rb9 hgrow9); have bM := hid (aV.out.push (x := .mk (ba ky) kids) (B2 := wc.heap.size) p HL.out (CC.mk (bh.out.le HK.out.2)) dq dk.out rfl hgrow9 hown9 (by rcases hg9 with z | z; exact .inl z; right; rw [z]; omega)); have b3 := bL.out.c3; have y3 := bL.out.thaw 3; clear hown9 hgrow9 hg9 b0 b1 d3)
       have cW := hid (nowP hs bM.out.pt);refine cW.out.mono ?_;rintro e wg ⟨rfl, cX, cY⟩;have aK := hid (bM.out.step p cY cX);clear cX cY cW bM bL b3 y3 aV HO aa bh
       rcases z6g s.data.toList E 125 with ⟨hn, hB⟩ | ⟨hn, hB⟩
       ·have HE := hid (bz.out.trans (by rw [HQ.out, di.out hn]))
        obtain ⟨D, d⟩ := z0b hn;obtain ⟨j, st⟩ := E;simp only at D d;subst D;have bn := z0z d;rw [z07] at bn;clear hn d;rw [show ((125 : UInt8).toNat : Int) = 125 from rfl] at hB;have u := hid (aK.out.on p);have c1 := aK.out.pt.row.c1;have z1 := aK.out.pt.row.thaw 1;simp only at c1
        generalize nowI s.data.toList (j, 0) = v at *
        have q0 := u.out.rb.c0;have q1 := u.out.rb.c1;have q2 := u.out.rb.c2;have q3 := u.out.rb.c3;have a0 := u.out.ra.c0;have a1 := u.out.ra.c1;have a2 := u.out.ra.c2;have a3 := u.out.ra.c3;have y0 := u.out.ra.thaw 0;have y1 := u.out.ra.thaw 1;have y2 := u.out.ra.thaw 2;have y3 := u.out.ra.thaw 3;go_wp2;have Q7 := u.out.ra.put4 (.int .i64 k) (.string ⟨#[]⟩) (.string (ba nm)) (.slice (some ⟨g5, 0, none⟩) (L + 1) c5);have B7 := But.put4 w.heap.size (wg.setCell ⟨pb, 1, none⟩ (.int .i64 ((j : Int) + 1))) (.int .i64 k) (.string ⟨#[]⟩) (.string (ba nm)) (.slice (some ⟨g5, 0, none⟩) (L + 1) c5)
        generalize (((((wg.setCell ⟨pb, 1, none⟩ (.int .i64 ((j : Int) + 1)))).setCell ⟨w.heap.size, 0, none⟩ (.int .i64 k)).setCell ⟨w.heap.size, 1, none⟩ (.string ⟨#[]⟩)).setCell ⟨w.heap.size, 2, none⟩ (.string (ba nm))).setCell ⟨w.heap.size, 3, none⟩ (.slice (some ⟨g5, 0, none⟩) (L + 1) c5) = wz at *
        have e0 := Q7.c0;have e1 := Q7.c1;have e2 := Q7.c2;have e3 := Q7.c3
        exact bodyPost_ret (v := .agg #[.int .i64 k, .string ⟨#[]⟩, .string (ba nm), .slice (some ⟨g5, 0, none⟩) (L + 1) c5]) (by simp [results, Tryz.results228, go_sem, e0, e1, e2, e3]) rfl (by
         rw [HE.out]
         exact ⟨.slice (some ⟨g5, 0, none⟩) (L + 1) c5, _, rfl, SlC.fsh (u.out.gw.done (kpC _)) (fun b hb _ => B7.block b (by omega)) (by omega) (by rw [B7.size]; exact Nat.le_refl _), u.out.pt.keep (B7.block pb (by omega)), But.fr u.out.fr B7 (Nat.le_refl _)⟩)
       ·rw [show ((125 : UInt8).toNat : Int) = 125 from rfl] at hB
        have HE := hid (HQ.out.trans (dj.out hn));clear hn
        generalize nowI s.data.toList E = v at *
        go_wp2;go_roundw
        case rel => exact ⟨_, _, some ⟨g5, 0, none⟩, c5, K, g', E, by omega, by rw [bc.out]; exact aK, bE, dg, cy, HE⟩
        case measure =>
         have h1 := zdf (m := s.size) aK.out.pt;have h2 := aH.out;have h3 := cx.out;have h4 := z3j bE.out;rw [df.out, h1]
         by_cases e : E.2 = 0
         ·rw [if_pos e]; have := h2 e; omega
         ·rw [if_neg e]; omega
theorem both_d : ∀ f, zj4 f /\ HoleD f := by
 intro f
 induction f using Nat.strongRecOn with
 | _ f ih => exact ⟨zi9 f (fun g hg => (ih g hg).2), hole_of f (fun g hg => (ih g hg).1)⟩
end Go.Proofs.YtdkkkeoicekdgaaGreatDoor.Dr
