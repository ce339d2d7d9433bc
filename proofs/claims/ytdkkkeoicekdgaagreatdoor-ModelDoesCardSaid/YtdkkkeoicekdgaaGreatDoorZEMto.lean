/- The document's told. -/
import Derived.Test.YtdkkkeoicekdgaaGreatDoorZEg39

namespace Go.Proofs.YtdkkkeoicekdgaaGreatDoor.Md
set_option maxHeartbeats 12800000
set_option maxRecDepth 100000
open Go.RowKit Go.Maps Go.WideShapes Go.WideMaps Go.Proofs.YtdkkkeoicekdgaaGreatDoor Go.Proofs.YtdkkkeoicekdgaaGreatDoor.Ca
theorem told_any (w : World) (m : Mdl) (ae : Option Addr) (ce : Nat) (ac : Option Addr) (cc : Nat) (c : Cli) (hC : SlL w (Old w) (.slice ac m.cs.length cc) m.cs) (hs : SrtC m.cs) (hl : m.cs.length <= 16) :
  Calls Tryz.prog 47 #[.agg (mdC m.vr (.slice ae m.es.length ce) (.slice ac m.cs.length cc)), clV c] w fun e w' => ∃ a9 c9, e = .returned (.agg (mdC m.vr (.slice ae m.es.length ce) (.slice a9 (putL c m.cs).length c9))) /\ SlL w' (Fsh w.heap.size w') (.slice a9 (putL c m.cs).length c9) (putL c m.cs) /\ Below w.heap.size w w' := by
 obtain ⟨vr, es, cs⟩ := m;obtain ⟨ci, cq, ca, cv⟩ := c;simp only at hC hs hl ⊢;obtain ⟨L, HL⟩ := nmd (cs.length);obtain ⟨Le, H⟩ := nmd (es.length);have HS := Lib.hid hs;obtain ⟨W4, o⟩ := nmd (((((w.alloc (.cells (mdC vr (.slice ae Le ce) (.slice ac L cc)) 25)).alloc (.cells #[.int .i64 ci, .int .i64 cq, .int .i64 ca, .int .i64 cv] 32)).alloc (.cells #[.int .i64 0, .slice none 0 0, .slice none 0 0] 25)).alloc (.cells #[] 32)));have Z : Hid (Below w.heap.size w W4) := Lib.hid (by rw [o.out]; exact (z4q w _ _ _).alloc (by simp; omega) _)
 have T : Hid (TK w w.heap.size (w.heap.size + 1) (w.heap.size + 1 + 1) ⟨vr, es, cs⟩ ⟨ci, cq, ca, cv⟩ ae ce ac cc W4) := Lib.hid (by
  have hb := Z.out;refine ⟨?_, ?_, Sl.keep hC (fun b hb2 => hb.block b hb2) (fun _ h => h) (fun _ _ h => h), hb, ?_, Nat.le_refl _, by omega, by omega⟩
  ·rw [o.out, HL.out, H.out]; exact (((z02 w (mdC vr (.slice ae es.length ce) (.slice ac cs.length cc)) _).alloc _).alloc _).alloc _
  ·rw [o.out]
   have h := ((z02 (w.alloc (.cells (mdC vr (.slice ae Le ce) (.slice ac L cc)) 25)) #[.int .i64 ci, .int .i64 cq, .int .i64 ca, .int .i64 cv] 32).alloc (.cells #[.int .i64 0, .slice none 0 0, .slice none 0 0] 25)).alloc (.cells #[] 32)
   simpa only [World.size_alloc] using h
  ·rw [o.out]
   have h := (z02 ((w.alloc (.cells (mdC vr (.slice ae Le ce) (.slice ac L cc)) 25)).alloc (.cells #[.int .i64 ci, .int .i64 cq, .int .i64 ca, .int .i64 cv] 32)) #[.int .i64 0, .slice none 0 0, .slice none 0 0] 25).alloc (.cells #[] 32)
   simpa only [World.size_alloc] using h)
 obtain ⟨B, z⟩ := nmd (w.heap.size + 1 + 1 + 1)
 have aa : Hid (OwnL W4 B (.slice (some ⟨w.heap.size + 1 + 1 + 1, 0, none⟩) 0 0) []) := Lib.hid (by
  have h : OwnL ((((w.alloc (.cells (mdC vr (.slice ae Le ce) (.slice ac L cc)) 25)).alloc (.cells #[.int .i64 ci, .int .i64 cq, .int .i64 ca, .int .i64 cv] 32)).alloc (.cells #[.int .i64 0, .slice none 0 0, .slice none 0 0] 25)).alloc (.cells #[] 32)) (((w.alloc (.cells (mdC vr (.slice ae Le ce) (.slice ac L cc)) 25)).alloc (.cells #[.int .i64 ci, .int .i64 cq, .int .i64 ca, .int .i64 cv] 32)).alloc (.cells #[.int .i64 0, .slice none 0 0, .slice none 0 0] 25)).heap.size (.slice (some ⟨(((w.alloc (.cells (mdC vr (.slice ae Le ce) (.slice ac L cc)) 25)).alloc (.cells #[.int .i64 ci, .int .i64 cq, .int .i64 ca, .int .i64 cv] 32)).alloc (.cells #[.int .i64 0, .slice none 0 0, .slice none 0 0] 25)).heap.size, 0, none⟩) 0 0) [] := World.ownsRow_made (((w.alloc (.cells (mdC vr (.slice ae Le ce) (.slice ac L cc)) 25)).alloc (.cells #[.int .i64 ci, .int .i64 cq, .int .i64 ca, .int .i64 cv] 32)).alloc (.cells #[.int .i64 0, .slice none 0 0, .slice none 0 0] 25)) #[] 0 (Nat.le_refl _) (Nat.zero_le _) (by simp);rw [o.out, z.out]
  simpa only [World.size_alloc] using h)
 have A : w.heap.size <= B := by have := z.out; omega
 have C : w.heap.size < B := by have := z.out; omega
 have D : w.heap.size + 1 < B := by have := z.out; omega
 have E : w.heap.size + 1 + 1 < B := by have := z.out; omega
 have af : B <= W4.heap.size := by rw [o.out, z.out]; simp
 have c2 : ((((w.alloc (.cells (mdC vr (.slice ae Le ce) (.slice ac L cc)) 25)).alloc (.cells #[.int .i64 ci, .int .i64 cq, .int .i64 ca, .int .i64 cv] 32)).alloc (.cells #[.int .i64 0, .slice none 0 0, .slice none 0 0] 25)).alloc (.cells #[] 32)).cell? ⟨w.heap.size, 2, none⟩ = some (.slice ac L cc) := by rw [<- o.out, HL.out]; exact T.out.rm.cell rfl
 have ar : L <= 16 := by have := HL.out; omega
 rw [<- HL.out, <- H.out];clear hC hs hl
 go_enter Tryz.func47, Tryz.ntmps47
 go_wp2;rw [<- o.out];clear c2 o
 go_loopw [5, 6, 13] (fun v pu i wr => ∃ k : Nat, k <= L /\ i = .int .i64 k /\ ∃ (out : List Cli) (b : Bool), pu = .bool b /\ out.length <= 2 * k /\ Hid (OwnL wr B v out) /\ Hid (out ++ tolF ⟨ci, cq, ca, cv⟩ b (cs.drop k) = putL ⟨ci, cq, ca, cv⟩ cs) /\ Hid (TK w w.heap.size (w.heap.size + 1) (w.heap.size + 1 + 1) ⟨vr, es, cs⟩ ⟨ci, cq, ca, cv⟩ ae ce ac cc wr) /\ Hid (B <= wr.heap.size)) (fun _ _ i _ => L - (intOf i).toNat)
 case atStart => exact ⟨0, Nat.zero_le _, rfl, [], false, rfl, by simp, aa, Lib.hid (by rw [List.nil_append, List.drop_zero]; exact zfy HS.out), T, Lib.hid af⟩
 case round =>
  obtain ⟨k, hk, rfl, out, b, rfl, au, HO, j, HK, I⟩ := hrel
  by_cases hlt : k < L
  ·obtain ⟨y, hy⟩ : ∃ y, cs[k]? = some y := ⟨_, List.getElem?_eq_getElem (by have := HL.out; omega)⟩
   obtain ⟨g, aw, rfl, -, y0, y1, y2, y3⟩ := HK.out.sl.get hy;have n := Lib.hid (tol_at (c := (⟨ci, cq, ca, cv⟩ : Cli)) (put := b) hy);have J := z03 wr (.cells (clC y) 32);have K5 := Lib.hid (HK.out.step J);have F := Lib.hid (z0n HO.out J);have R5 := z02 wr (clC y) 32;have ag := Lib.hid R5;have f0 := R5.c0;have f1 := R5.c1;have f2 := R5.c2;have f3 := R5.c3;have c0 := K5.out.rc.c0;have c1 := K5.out.rc.c1;have c2 := K5.out.rc.c2;have c3 := K5.out.rc.c3
   have G : B <= (wr.alloc (.cells (clC y) 32)).heap.size := by rw [World.size_alloc]; have := I.out; omega
   have ax : wr.heap.size < (wr.alloc (.cells (clC y) 32)).heap.size := by rw [World.size_alloc]; omega
   have U : ∀ v : Value, OwnL wr B v out -> v.ownBlock ≠ some wr.heap.size := fun v ho e => by have := (ho.lt _ e).2; omega
   have ah := Lib.hid (U _ HO.out);clear U;clear hy J R5
   cases b with
   | true =>
    by_cases hid : y.id = ci
    ·have a : Hid (out ++ tolF (⟨ci, cq, ca, cv⟩ : Cli) true (cs.drop (k + 1)) = putL (⟨ci, cq, ca, cv⟩ : Cli) cs) := Lib.hid (by have h := j.out; rwa [n.out, if_pos hid, if_pos rfl] at h)
     have u1 : (y.id != ci) = false := by rw [hid]; simp
     clear hid n j;obtain ⟨xi, xq, xa, xv⟩ := y;simp only at y0 y1 y2 y3 f0 f1 f2 f3 K5 F G u1;go_wp2;go_roundw
     case rel => exact ⟨k + 1, by omega, by go_num, out, true, rfl, by omega, F, a, K5, Lib.hid G⟩
     case measure => simp [intOf]; omega
    ·have a : Hid ((out ++ [y]) ++ tolF (⟨ci, cq, ca, cv⟩ : Cli) true (cs.drop (k + 1)) = putL (⟨ci, cq, ca, cv⟩ : Cli) cs) := Lib.hid (by have h := j.out; rw [n.out, if_neg hid, if_neg (by simp)] at h; rwa [List.append_assoc, List.singleton_append])
     have u1 : (y.id != ci) = true := by rw [bne_iff_ne]; exact hid
     obtain ⟨v7, w7, d, f, K7, r, -⟩ := zbh K5.out F.out A C D E G (by omega) y
     have s : B <= w7.heap.size := by omega
     clear hid n j;obtain ⟨xi, xq, xa, xv⟩ := y;simp only [World.size_alloc] at y0 y1 y2 y3 f0 f1 f2 f3 d f a r u1
     go_wp2_with (at_builtin; refine z0x ?_)
     refine Lib.hid ?_;refine Lib.wpList_append_run _ rfl (.tmp 35) (.tmp 37) 23 23 rfl _ (.slice (some ⟨_, 0, none⟩) 1 1) ?hs ?hx _ _ d.out ?_
     case hs => rfl
     case hx => rfl
     go_wp2;go_roundw
     case rel => exact ⟨k + 1, by omega, by go_num, _, true, rfl, by simp only [List.length_append, List.length_singleton]; omega, f, a, K7, Lib.hid s⟩
     case measure => simp [intOf]; omega
   | false =>
    by_cases hid : y.id < ci
    ·have a : Hid ((out ++ [y]) ++ tolF (⟨ci, cq, ca, cv⟩ : Cli) false (cs.drop (k + 1)) = putL (⟨ci, cq, ca, cv⟩ : Cli) cs) := Lib.hid (by have h := j.out; rw [n.out, if_neg (by simp only; omega), if_neg (by simp only; omega)] at h; rwa [List.append_assoc, List.singleton_append])
     have u1 : (y.id != ci) = true := by rw [bne_iff_ne]; omega
     have u2 : decide (ci <= y.id) = false := decide_eq_false (by omega);obtain ⟨v7, w7, d, f, K7, r, -⟩ := zbh K5.out F.out A C D E G (by omega) y
     have s : B <= w7.heap.size := by omega
     clear hid n j;obtain ⟨xi, xq, xa, xv⟩ := y;simp only [World.size_alloc] at y0 y1 y2 y3 f0 f1 f2 f3 d f a r u1 u2
     go_wp2_with (at_builtin; refine z0x ?_)
     refine Lib.hid ?_;refine Lib.wpList_append_run _ rfl (.tmp 35) (.tmp 37) 23 23 rfl _ (.slice (some ⟨_, 0, none⟩) 1 1) ?hs ?hx _ _ d.out ?_
     case hs => rfl
     case hx => rfl
     go_wp2;go_roundw
     case rel => exact ⟨k + 1, by omega, by go_num, _, false, rfl, by simp only [List.length_append, List.length_singleton]; omega, f, a, K7, Lib.hid s⟩
     case measure => simp [intOf]; omega
    ·have u2 : decide (ci <= y.id) = true := decide_eq_true (by omega)
     obtain ⟨v7, w7, d, f, K7, r, V⟩ := zbh K5.out F.out A C D E G (by omega) (⟨ci, cq, ca, cv⟩ : Cli);have R7 : Row w7 wr.heap.size 32 [.int .i64 y.id, .int .i64 y.sq, .int .i64 y.an, .int .i64 y.vr] := (ag.out.alloc (.cells (clC (⟨ci, cq, ca, cv⟩ : Cli)) 32)).keep (V.out wr.heap.size (by omega) ah.out);have g0 := R7.c0;have g1 := R7.c1;have g2 := R7.c2;have g3 := R7.c3;have d0 := K7.out.rc.c0
     have s : B <= w7.heap.size := by omega
     have M := Lib.hid (zbh K7.out f.out A C D E s (by rw [List.length_append, List.length_singleton]; omega) y);clear R7 V
     by_cases he : y.id = ci
     ·have a : Hid ((out ++ [(⟨ci, cq, ca, cv⟩ : Cli)]) ++ tolF (⟨ci, cq, ca, cv⟩ : Cli) true (cs.drop (k + 1)) = putL (⟨ci, cq, ca, cv⟩ : Cli) cs) := Lib.hid (by have h := j.out; rw [n.out, if_pos he, if_neg (by simp)] at h; rwa [List.append_assoc, List.singleton_append])
      have u1 : (y.id != ci) = false := by rw [he]; simp
      clear hid he n j M;obtain ⟨xi, xq, xa, xv⟩ := y;simp only [World.size_alloc] at y0 y1 y2 y3 f0 f1 f2 f3 d f a r u1 u2 g0 g1 g2 g3
      go_wp2_with (at_builtin; refine z0x ?_)
      refine Lib.hid ?_;refine Lib.wpList_append_run _ rfl (.tmp 26) (.tmp 28) 23 23 rfl _ (.slice (some ⟨_, 0, none⟩) 1 1) ?hs ?hx _ _ d.out ?_
      case hs => rfl
      case hx => rfl
      go_wp2;go_roundw
      case rel => exact ⟨k + 1, by omega, by go_num, _, true, rfl, by simp only [List.length_append, List.length_singleton]; omega, f, a, K7, Lib.hid s⟩
      case measure => simp [intOf]; omega
     ·have a : Hid (((out ++ [(⟨ci, cq, ca, cv⟩ : Cli)]) ++ [y]) ++ tolF (⟨ci, cq, ca, cv⟩ : Cli) true (cs.drop (k + 1)) = putL (⟨ci, cq, ca, cv⟩ : Cli) cs) := Lib.hid (by have h := j.out; rw [n.out, if_neg he, if_pos ⟨rfl, by simp only; omega⟩] at h; rwa [List.append_assoc, List.append_assoc, List.singleton_append, List.singleton_append])
      have u1 : (y.id != ci) = true := by rw [bne_iff_ne]; exact he
      obtain ⟨v8, w8, X, Y, K8, ai, -⟩ := M.out
      have aj : B <= w8.heap.size := by omega
      clear hid he n j M;obtain ⟨xi, xq, xa, xv⟩ := y;simp only [World.size_alloc] at y0 y1 y2 y3 f0 f1 f2 f3 d f a r u1 u2 g0 g1 g2 g3 X Y ai
      go_wp2_with (at_builtin; refine z0x ?_)
      refine Lib.hid ?_;refine Lib.wpList_append_run _ rfl (.tmp 26) (.tmp 28) 23 23 rfl _ (.slice (some ⟨_, 0, none⟩) 1 1) ?hs ?hx _ _ d.out ?_
      case hs => rfl
      case hx => rfl
      go_wp2_with (at_builtin; refine z0x ?_)
      refine Lib.hid ?_;refine Lib.wpList_append_run _ rfl (.tmp 35) (.tmp 37) 23 23 rfl _ (.slice (some ⟨_, 0, none⟩) 1 1) ?hs ?hx _ _ X.out ?_
      case hs => rfl
      case hx => rfl
      go_wp2;go_roundw
      case rel => exact ⟨k + 1, by omega, by go_num, _, true, rfl, by simp only [List.length_append, List.length_singleton]; omega, Y, a, K8, Lib.hid aj⟩
      case measure => simp [intOf]; omega
  ·have x := tol_end (c := (⟨ci, cq, ca, cv⟩ : Cli)) (put := b) (l := cs) (k := k) (by have := HL.out; omega)
   cases b with
   | true =>
    have q : Hid (out = putL (⟨ci, cq, ca, cv⟩ : Cli) cs) := Lib.hid (by have := j.out; rw [x] at this; simpa using this);clear x;obtain ⟨a9, c9, N, aq, -⟩ := z0j HO.out;subst N;obtain ⟨n9, p⟩ := nmd ((out).length);have HP : Hid (n9 = (putL (⟨ci, cq, ca, cv⟩ : Cli) cs).length) := Lib.hid (by rw [p.out, q.out])
    have O : Hid (SlL (putM wr (w.heap.size + 1 + 1) vr (.slice ae Le ce) (.slice a9 n9 c9)) (Fsh w.heap.size (putM wr (w.heap.size + 1 + 1) vr (.slice ae Le ce) (.slice a9 n9 c9))) (.slice a9 n9 c9) (putL (⟨ci, cq, ca, cv⟩ : Cli) cs)) := Lib.hid (by
     have t := z1e wr (w.heap.size + 1 + 1) vr (.slice ae Le ce) (.slice a9 n9 c9);rw [<- q.out];have h := (HO.out).fsh;rw [p.out];rw [p.out] at t
     exact Sl.keep h (fun b hb2 => t.block b (by have := hb2.1; omega)) (fun b hb2 => ⟨by have := hb2.1; omega, by have := hb2.2; have h3 := t.size; omega⟩) (fun _ _ h => h))
    have R : Hid (Below w.heap.size w (putM wr (w.heap.size + 1 + 1) vr (.slice ae Le ce) (.slice a9 n9 c9))) := Lib.hid (HK.out.below.trans ((z1e wr (w.heap.size + 1 + 1) vr (.slice ae Le ce) (.slice a9 n9 c9)).below (by omega)));have u := Lib.hid (z5f HK.out.rz vr (.slice ae Le ce) (.slice a9 n9 c9));have r0 := HK.out.rm.c0;have r1 := HK.out.rm.c1;simp only at r0 r1;rw [<- H.out] at r1;have z0 := HK.out.rz.c0;have z1 := HK.out.rz.c1;have z2 := HK.out.rz.c2;have t0 := HK.out.rz.thaw 0;have t1 := HK.out.rz.thaw 1;have t2 := HK.out.rz.thaw 2;rw [<- p.out];go_wp2;have e0 := u.out.c0;have e1 := u.out.c1;have e2 := u.out.c2;exact bodyPost_ret (v := .agg (mdC vr (.slice ae Le ce) (.slice a9 n9 c9))) (by simp [results, Tryz.results47, go_sem, e0, e1, e2]) rfl ⟨a9, c9, by rw [<- HP.out], by rw [<- HP.out]; exact O.out, R.out⟩
   | false =>
    have q : Hid (out ++ [(⟨ci, cq, ca, cv⟩ : Cli)] = putL (⟨ci, cq, ca, cv⟩ : Cli) cs) := Lib.hid (by have := j.out; rw [x] at this; simpa using this);clear x;obtain ⟨v7, w7, d, f, K7, r, -⟩ := zbh HK.out HO.out A C D E I.out (by omega) (⟨ci, cq, ca, cv⟩ : Cli);have c0 := HK.out.rc.c0;have c1 := HK.out.rc.c1;have c2 := HK.out.rc.c2;have c3 := HK.out.rc.c3;have ay := I.out
    have s : B <= w7.heap.size := by omega
    obtain ⟨a9, c9, N, aq, -⟩ := z0j f.out;subst N;obtain ⟨n9, p⟩ := nmd ((out ++ [(⟨ci, cq, ca, cv⟩ : Cli)]).length);have HP : Hid (n9 = (putL (⟨ci, cq, ca, cv⟩ : Cli) cs).length) := Lib.hid (by rw [p.out, q.out])
    have O : Hid (SlL (putM w7 (w.heap.size + 1 + 1) vr (.slice ae Le ce) (.slice a9 n9 c9)) (Fsh w.heap.size (putM w7 (w.heap.size + 1 + 1) vr (.slice ae Le ce) (.slice a9 n9 c9))) (.slice a9 n9 c9) (putL (⟨ci, cq, ca, cv⟩ : Cli) cs)) := Lib.hid (by
     have t := z1e w7 (w.heap.size + 1 + 1) vr (.slice ae Le ce) (.slice a9 n9 c9);rw [<- q.out];have h := (f.out).fsh;rw [p.out];rw [p.out] at t
     exact Sl.keep h (fun b hb2 => t.block b (by have := hb2.1; omega)) (fun b hb2 => ⟨by have := hb2.1; omega, by have := hb2.2; have h3 := t.size; omega⟩) (fun _ _ h => h))
    have R : Hid (Below w.heap.size w (putM w7 (w.heap.size + 1 + 1) vr (.slice ae Le ce) (.slice a9 n9 c9))) := Lib.hid (K7.out.below.trans ((z1e w7 (w.heap.size + 1 + 1) vr (.slice ae Le ce) (.slice a9 n9 c9)).below (by omega)));have u := Lib.hid (z5f K7.out.rz vr (.slice ae Le ce) (.slice a9 n9 c9));have r0 := K7.out.rm.c0;have r1 := K7.out.rm.c1;simp only at r0 r1;rw [<- H.out] at r1;have z0 := K7.out.rz.c0;have z1 := K7.out.rz.c1;have z2 := K7.out.rz.c2;have t0 := K7.out.rz.thaw 0;have t1 := K7.out.rz.thaw 1;have t2 := K7.out.rz.thaw 2;rw [<- p.out] at d
    go_wp2_with (at_builtin; refine z0x ?_)
    refine Lib.hid ?_;refine Lib.wpList_append_run _ rfl (.tmp 42) (.tmp 44) 23 23 rfl _ (.slice (some ⟨_, 0, none⟩) 1 1) ?hs ?hx _ _ d.out ?_
    case hs => rfl
    case hx => rfl
    go_wp2;have e0 := u.out.c0;have e1 := u.out.c1;have e2 := u.out.c2;exact bodyPost_ret (v := .agg (mdC vr (.slice ae Le ce) (.slice a9 n9 c9))) (by simp [results, Tryz.results47, go_sem, e0, e1, e2]) rfl ⟨a9, c9, by rw [<- HP.out], by rw [<- HP.out]; exact O.out, R.out⟩
end Go.Proofs.YtdkkkeoicekdgaaGreatDoor.Md
