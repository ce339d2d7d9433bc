/- A catalog as bytes, by the document. -/
import Derived.Test.YtdkkkeoicekdgaaGreatDoorZFg32

namespace Go.Proofs.YtdkkkeoicekdgaaGreatDoor.Ca
set_option maxHeartbeats 40000000
set_option maxRecDepth 100000
open Go.Lib (hid)
open Go.RowKit Go.Proofs.YtdkkkeoicekdgaaGreatDoor
abbrev tx12 (a b c : BA) : Array Value := #[.int .i64 2, .int .i64 0, .string a, .slice none 0 0, .int .i64 2, .int .i64 0, .string b, .slice none 0 0, .int .i64 2, .int .i64 0, .string c, .slice none 0 0]
theorem rep_ent (x : Ent) (w : World) : Co.Rep (w.alloc (.cells (tx12 x.loc x.key x.pat) 88)) (fun g => w.heap.size <= g /\ g < w.heap.size + 1) (entT x) (.agg (lsC (.slice (some ⟨w.heap.size, 0, none⟩) 3 3))) := by
 unfold entT
 rw [Co.Rep];refine ⟨_, (tx12 x.loc x.key x.pat).toList, rfl, ⟨rfl, .inr ⟨w.heap.size, 3, _, rfl, Nat.zero_le _, heap_alloc_new _ _, Nat.le_refl _, by decide, rfl, rfl⟩⟩, fun g' hg' => ?_, ?_⟩
 ·obtain rfl : w.heap.size = g' := Option.some.inj hg'
  omega
 ·rw [Co.z0h]
  refine ⟨_, _, _, _, _, rfl, z8s _ _ _, ?_⟩;rw [Co.z0h];refine ⟨_, _, _, _, _, rfl, z8s _ _ _, ?_⟩;rw [Co.z0h];refine ⟨_, _, _, _, _, rfl, z8s _ _ _, ?_⟩;rw [Co.z0h]
theorem zcq {s : BA} (h : s.size <= 2000) : (Co.enc (txT s)).length <= 3000 := by
 have hl : s.data.toList.length <= 2000 := by rw [zdx]; exact h
 have := Lib.itoa_length_le (s.data.toList.length : Int) (by omega) (by omega);rw [Co.enc, List.length_append, List.length_cons]
 omega
theorem enc_ent {e : Ent} (h : mayB e = true) : (Co.enc (entT e)).length <= 10000 := by
 obtain ⟨h1, h2, h3⟩ := may_tx h;have k1 := zcq h1;have k2 := zcq h2;have k3 := zcq h3
 unfold entT
 simp only [Co.enc, Co.encL, List.length_append, List.length_cons, List.length_nil] at k1 k2 k3 ⊢
 omega
theorem zee : ∀ {l : List Ent}, (∀ e, e ∈ l -> mayB e = true) -> (Co.encL (l.map entT)).length <= 10000 * l.length
 | [], _ => by simp [Co.encL]
 | e :: r, h => by
  have h1 := enc_ent (h e (by simp));have h2 := zee (l := r) (fun y hy => h y (by simp [hy]));rw [List.map_cons, Co.encL, List.length_append, List.length_cons]
  omega
theorem enc_cat {l : List Ent} (h : Rgt l) : (Co.enc (catT l)).length <= 100000000000 := by
 have h1 := zee h.may;have h2 := h.len
 unfold catT
 rw [Co.enc, List.length_cons, List.length_append, List.length_cons, List.length_nil]
 omega
theorem zf8 (w : World) (a : Option Addr) (cap : Nat) (xs : List Ent) (hX : SlE w (Old w) (.slice a xs.length cap) xs) (hF : ∀ x, x ∈ xs -> FitE x) (hE : EnvC w) :
  Calls Tryz.prog 44 #[.slice a xs.length cap] w fun e w' => e = .returned (.tuple #[.string ⟨(z0r xs).1.toArray⟩, .int .i64 (z0r xs).2]) /\ Below w.heap.size w w' := by
 have HR := hid (z2q w a cap xs hX hF hE);have B := z56 xs;have C := hX.len;obtain ⟨q, HQ⟩ := nmd (z0n xs);rw [<- HQ.out] at HR B
 by_cases h0 : q = 0
 ·have t : Hid (z0n xs = 0) := hid (by rw [<- HQ.out]; exact h0)
  have u : Hid (Rgt xs) := hid (z22.1 t.out);have D : Hid (z0r xs = Co.putF (catT xs)) := hid (by unfold z0r; rw [t.out, if_neg (by simp)]);subst h0;obtain ⟨i0, hi, E, F, G⟩ := info_parts infoV;have v : Hid (SlE w (fun b => b < w.heap.size) (.slice a xs.length cap) xs) := hid hX;have H := hid (fun W (hb : Below w.heap.size w W) => (hE.below hb).env);have m : xs.length <= 200 := u.out.len;obtain ⟨M, HM⟩ := nmd (xs.length);rw [<- HM.out] at HR v m;rw [<- HM.out, D.out];clear hX hF hE C
  go_enter Tryz.func44, Tryz.ntmps44
  go_wp2_with fail
  refine HR.out.mono ?_;rintro e w1 ⟨rfl, j⟩;have T := hid j;have HS : Hid (BI w1.heap.size (w1.heap.size + 1) w (w1.alloc (.cells (lsC (.slice none 0 0)) 88)) (.slice none 0 0) ((xs.take 0).map entT) []) := hid (BI.start w w1 j);clear j;go_wp2
  generalize w1.alloc (.cells #[.int .i64 3, .int .i64 0, .string ⟨#[]⟩, .slice none 0 0] 88) = W0 at *
  go_loopw [16] (fun i wr => ∃ (k : Nat) (L : Value) (vs : List Value), k <= M /\ i = .int .i64 k /\ Hid (BI w1.heap.size (w1.heap.size + 1) w wr L ((xs.take k).map entT) vs)) (fun i _ => M - (intOf i).toNat)
  case atStart => exact ⟨0, _, _, by omega, rfl, HS⟩
  case round =>
   clear HS;obtain ⟨k, L, vs, hk, rfl, HI⟩ := hrel
   have y : ((xs.take k).map entT).length = k := by rw [List.length_map, List.length_take, <- HM.out]; omega
   by_cases hlt : k < M
   ·obtain ⟨x, hx⟩ : ∃ x, xs[k]? = some x := ⟨_, List.getElem?_eq_getElem (by have := HM.out; omega)⟩
    obtain ⟨b, U, rfl, V, h0, h1, h2⟩ := (v.out.blw HI.out.below).get hx;have I := hid (zdr hx);have n := hid y;obtain ⟨Q3, o⟩ := zi6 wr x;have p := hid (rep_ent x (wr.alloc (.cells (enC x) 81)));have d := HI.out.blk;have f := (o.out.block _ (Co.z03 d)).trans d;clear hx y;obtain ⟨xl, xk, xp⟩ := x;simp only at h0 h1 h2 Q3 o f p;have c0 := Q3.out.c0;have c1 := Q3.out.c1;have c2 := Q3.out.c2
    have l3 : (wr.alloc (.cells #[.string xl, .string xk, .string xp] 81)).cell? ⟨w1.heap.size, 3, none⟩ = some L := by simp [World.cell?, f]
    have X := Co.z03 f;obtain ⟨aL, cL, hL⟩ := HI.out.slice;rw [n.out] at hL;subst hL;have r : Hid (Below wr.heap.size wr ((wr.alloc (.cells #[.string xl, .string xk, .string xp] 81)).alloc (.cells (tx12 xl xk xp) 88))) := hid (z00 o.out (z04 _ _));have l : Hid (((wr.alloc (.cells #[.string xl, .string xk, .string xp] 81)).alloc (.cells (tx12 xl xk xp) 88)).heap.size = wr.heap.size + 1 + 1) := hid (by rw [World.size_alloc, World.size_alloc])
    have J : Hid (Co.Rep ((wr.alloc (.cells #[.string xl, .string xk, .string xp] 81)).alloc (.cells (tx12 xl xk xp) 88)) (fun g => wr.heap.size <= g /\ g < ((wr.alloc (.cells #[.string xl, .string xk, .string xp] 81)).alloc (.cells (tx12 xl xk xp) 88)).heap.size) (entT ⟨xl, xk, xp⟩) (.agg (lsC (.slice (some ⟨wr.heap.size + 1, 0, none⟩) 3 3)))) := hid (by
     have h := p.out;rw [World.size_alloc] at h
     exact Co.Rep.keep (fun _ _ => rfl) (fun g hg => ⟨by omega, by rw [l.out]; omega⟩) _ _ h)
    have HH := hid (Co.z03 HI.out.blk);clear d f p
    go_wp2_with (at_builtin; refine z0x ?_)
    refine hid ?_;refine wpList_append_lies _ rfl (.tmp 21) (.tmp 33) 86 rfl (w1.heap.size + 1) 88 i0 _ 4 56 Tryz.underlying86 hi E F G rfl (by omega) (.slice aL k cL) k vs ?hs ?ho ⟨wr.heap.size + 1 + 1, 0, none⟩ 1 1 [.int .i64 3, .int .i64 0, .string ⟨#[]⟩, .slice (some ⟨wr.heap.size + 1, 0, none⟩) 3 3] ?hx rfl (z7i _ _ _ _ _ _ l.out) (by simp [Value.oneCell']) (by omega) (by unfold maxLen; omega) (by omega) (by rw [World.size_alloc, l.out]; have := HH.out; omega) (wr.heap.size + 1 + 1 + 1) (by rw [World.size_alloc, l.out]) ?_
    case hs => rfl
    case hx => rfl
    case ho =>
     have h9 := (HI.out.call r.out).own;rw [n.out] at h9;exact h9.alloc _
    intro g c w3 hown hgrow hl hlt3;have s3 := BI.blk3 HI.out r.out hgrow
    have z3 : w3.cell? ⟨w1.heap.size, 3, none⟩ = some (.slice aL k cL) := by simp [World.cell?, s3]
    have f3 := Co.frozen_of_heap s3 3;have N := hid (BI.step HI.out n.out r.out J.out hown hgrow l.out hl);clear hown hgrow hl s3;go_wp2;go_roundw
    case rel => exact ⟨k + 1, _, _, by omega, by go_num, hid (by rw [I.out]; exact N.out)⟩
    case measure => simp [intOf]; omega
   ·have z : xs.take k = xs := List.take_of_length_le (by have := HM.out; omega)
    have hB := HI.out;rw [z] at hB;have d := hB.blk;obtain ⟨aL, cL, hL⟩ := hB.slice;rw [List.length_map, <- HM.out] at hL;subst hL;have s := hB.tree;rw [show Co.Tree.list (xs.map entT) = catT xs from rfl] at s;have HP := hid (Co.rput_any s (ok_cat xs) (zh8 xs) (by rw [zaj]; have := HM.out; omega) (enc_cat u.out) (H.out _ hB.below).tab);have O := hid hB.below;clear s
    have c0 : wr.cell? ⟨w1.heap.size, 0, none⟩ = some (.int .i64 3) := by simp [World.cell?, d]
    have c1 : wr.cell? ⟨w1.heap.size, 1, none⟩ = some (.int .i64 0) := by simp [World.cell?, d]
    have c2 : wr.cell? ⟨w1.heap.size, 2, none⟩ = some (.string ⟨#[]⟩) := by simp [World.cell?, d]
    have c3 : wr.cell? ⟨w1.heap.size, 3, none⟩ = some (.slice aL M cL) := by simp [World.cell?, d]
    clear hB d z
    go_wp2_with fail
    refine HP.out.mono ?_;rintro e w5 ⟨rfl, A⟩;have R := hid (z00 O.out A);clear A;go_wp2
    go_ret2
    exact ⟨rfl, R.out⟩
 ·have HA : Hid (z0r xs = ([], (z0n xs : Int))) := hid (by unfold z0r; rw [if_pos (by rw [<- HQ.out]; exact h0)])
  have Y : ((q : Int) != 0) = true := by rw [bne_iff_ne]; omega
  rw [HA.out];clear hX hF hE h0
  generalize xs.length = L at *
  go_enter Tryz.func44, Tryz.ntmps44
  go_wp2_with fail
  refine HR.out.mono ?_;rintro e w1 ⟨rfl, j⟩;have HB := hid j;clear j;go_wp2
  go_ret2
  exact ⟨by rw [HQ.out]; rfl, HB.out⟩
end Go.Proofs.YtdkkkeoicekdgaaGreatDoor.Ca
