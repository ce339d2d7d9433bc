/- Package code's Put: what writing a value makes of what is written, whether it fits or not. -/
import Derived.Lib.ItoaLen
import Derived.Test.YtdkkkeoicekdgaaGreatDoorZEg33

namespace Go.Proofs.YtdkkkeoicekdgaaGreatDoor.Co
set_option maxHeartbeats 1600000
set_option maxRecDepth 100000
open Go.Lib (hid)
open Go.RowKit
mutual
def wrT : Tree -> St -> St
 | .num n, st => addS (addS (addS st [105]) (Lib.itoa n)) [101]
 | .text bs, st => addS (addS (addS st (Lib.itoa bs.length)) [58]) bs
 | .list ts, st => addS (wrL ts (addS st [108])) [101]
def wrL : List Tree -> St -> St
 | [], st => st
 | t :: ts, st => wrL ts (wrT t st)
end
theorem z7z : ∀ (a b : List Tree) (st : St), wrL (a ++ b) st = wrL b (wrL a st)
 | [], b, st => by rw [wrL]; rfl
 | t :: a, b, st => by
  show wrL (t :: (a ++ b)) st = _
  rw [wrL, wrL, z7z a b]
theorem wrL_take {ts : List Tree} {k : Nat} {t : Tree} (h : ts[k]? = some t) (st : St) : wrL (ts.take (k + 1)) st = wrT t (wrL (ts.take k) st) := by
 obtain ⟨hk, rfl⟩ := List.getElem?_eq_some_iff.1 h;rw [List.take_succ_eq_append_getElem hk, z7z, wrL, wrL]
theorem z0w (s : List UInt8) (l : List UInt8) : addS (l, false) s = (l, false) := by unfold addS; rw [if_neg (by simp)]
theorem z39 {l s : List UInt8} (h : l.length + s.length <= 131072) : addS (l, true) s = (l ++ s, true) := by unfold addS; rw [if_pos ⟨rfl, h⟩]
theorem z7s {l s : List UInt8} (h : 131072 < l.length + s.length) : addS (l, true) s = (l, false) := by unfold addS; rw [if_neg (fun h' => by have := h'.2; simp only at this; omega)]
mutual
theorem zfu : ∀ (t : Tree) (l : List UInt8), wrT t (l, false) = (l, false)
 | .num n, l => by rw [wrT, z0w, z0w, z0w]
 | .text bs, l => by rw [wrT, z0w, z0w, z0w]
 | .list ts, l => by rw [wrT, z0w, z52 ts, z0w]
theorem z52 : ∀ (ts : List Tree) (l : List UInt8), wrL ts (l, false) = (l, false)
 | [], l => by rw [wrL]
 | t :: ts, l => by rw [wrL, zfu t, z52 ts]
end
theorem add3 {l a b c : List UInt8} : (l.length + (a ++ (b ++ c)).length <= 131072 -> addS (addS (addS (l, true) a) b) c = (l ++ (a ++ (b ++ c)), true)) /\ (131072 < l.length + (a ++ (b ++ c)).length -> ∃ l', addS (addS (addS (l, true) a) b) c = (l', false)) := by
 simp only [List.length_append];refine ⟨fun h => ?_, fun h => ?_⟩
 ·rw [z39 (by omega), z39 (by rw [List.length_append]; omega), z39 (by rw [List.length_append, List.length_append]; omega)]
  simp
 ·by_cases h1 : l.length + a.length <= 131072
  ·rw [z39 h1]
   by_cases h2 : (l ++ a).length + b.length <= 131072
   ·rw [z39 h2, z7s (by rw [List.length_append, List.length_append]; omega)]
    exact ⟨_, rfl⟩
   ·rw [z7s (by omega), z0w]; exact ⟨_, rfl⟩
  ·rw [z7s (by omega), z0w, z0w]; exact ⟨_, rfl⟩
mutual
theorem z4z : ∀ (t : Tree) (l : List UInt8), l.length <= 131072 -> (l.length + (enc t).length <= 131072 -> wrT t (l, true) = (l ++ enc t, true)) /\ (131072 < l.length + (enc t).length -> ∃ l', wrT t (l, true) = (l', false))
 | .num n, l, _ => by rw [enc, wrT]; exact add3 (a := [105]) (b := Lib.itoa n) (c := [101])
 | .text bs, l, _ => by rw [enc, wrT]; exact add3 (a := Lib.itoa bs.length) (b := [58]) (c := bs)
 | .list ts, l, hl => by
  rw [enc, wrT];simp only [List.length_cons, List.length_append, List.length_nil];refine ⟨fun h => ?_, fun h => ?_⟩
  ·rw [z39 (by simp only [List.length_cons, List.length_nil]; omega), (z50 ts (l ++ [108]) (by simp only [List.length_append, List.length_cons, List.length_nil]; omega)).1 (by simp only [List.length_append, List.length_cons, List.length_nil]; omega), z39 (by simp only [List.length_append, List.length_cons, List.length_nil]; omega)]
   simp
  ·by_cases h1 : l.length + 1 <= 131072
   ·rw [z39 (by simp only [List.length_cons, List.length_nil]; omega)]
    by_cases h2 : (l ++ [108]).length + (encL ts).length <= 131072
    ·rw [(z50 ts (l ++ [108]) (by simp only [List.length_append, List.length_cons, List.length_nil]; omega)).1 h2, z7s (by simp only [List.length_append, List.length_cons, List.length_nil] at h2 ⊢; omega)]
     exact ⟨_, rfl⟩
    ·obtain ⟨l', d⟩ := (z50 ts (l ++ [108]) (by simp only [List.length_append, List.length_cons, List.length_nil]; omega)).2 (by omega)
     rw [d, z0w]; exact ⟨_, rfl⟩
   ·rw [z7s (by simp only [List.length_cons, List.length_nil]; omega), z52, z0w]; exact ⟨_, rfl⟩
theorem z50 : ∀ (ts : List Tree) (l : List UInt8), l.length <= 131072 -> (l.length + (encL ts).length <= 131072 -> wrL ts (l, true) = (l ++ encL ts, true)) /\ (131072 < l.length + (encL ts).length -> ∃ l', wrL ts (l, true) = (l', false))
 | [], l, hl => by
  rw [encL, wrL];exact ⟨fun _ => by simp, fun h => absurd h (by simp only [List.length_nil]; omega)⟩
 | t :: ts, l, hl => by
  rw [encL, wrL, List.length_append];refine ⟨fun h => ?_, fun h => ?_⟩
  ·rw [(z4z t l hl).1 (by omega), (z50 ts (l ++ enc t) (by rw [List.length_append]; omega)).1 (by rw [List.length_append]; omega), List.append_assoc]
  ·by_cases h1 : l.length + (enc t).length <= 131072
   ·rw [(z4z t l hl).1 h1]
    exact (z50 ts (l ++ enc t) (by rw [List.length_append]; omega)).2 (by rw [List.length_append]; omega)
   ·obtain ⟨l', a⟩ := (z4z t l hl).2 (by omega)
    rw [a, z52]; exact ⟨_, rfl⟩
end
structure WEnvS (B b fb ab wb : Nat) (w : World) : Prop where
 add : w.heap[ab]? = some (.cells #[addFn fb b] 141 (0, 0))
 wr : w.heap[wb]? = some (.cells #[z5p ab wb] 142 (0, 0))
 tab : Lib.TabBelow Tryz.prog B w "internal/strconv.uint64pow10" .u64 Lib.pow10Tab
 hB : B <= w.heap.size
 hfb : B <= fb
section
variable {B b fb ab wb : Nat} {w w' : World} {st st' : St}
theorem WEnvS.kept (h : WEnvS B b fb ab wb w) (hb : Below B w w') (ho : Oth w w') : WEnvS B b fb ab wb w' :=
 ⟨ho _ _ _ _ h.add (by decide) (by decide) (by decide), ho _ _ _ _ h.wr (by decide) (by decide) (by decide), fun w'' hb'' => h.tab w'' (hb.trans hb''), Nat.le_trans h.hB hb.size, h.hfb⟩
theorem WEnvS.after (h : WEnvS B b fb ab wb w) (hw : WroteS B b fb st' w w') : WEnvS B b fb ab wb w' := h.kept hw.below hw.oth
theorem WEnvS.below (h : WEnvS B b fb ab wb w) (hb : Below w.heap.size w w') : WEnvS B b fb ab wb w' := h.kept (hb.mono h.hB) (Oth.of_below hb)
theorem WEnvS.alloc (h : WEnvS B b fb ab wb w) (o : Obj) : WEnvS B b fb ab wb (w.alloc o) := h.below (z03 w o)
theorem z1n (env : WEnvS B b fb ab wb w) (hh : HoldS B b fb st w) (s : ByteArray) (hs : s.size <= 140737488351232) :
  Calls Tryz.prog 89 #[.string s, .pointer (some ⟨fb, 0, none⟩), .pointer (some ⟨b, 0, none⟩)] w fun e w' => e = .returned (.tuple #[]) /\ WroteS B b fb (addS st s.data.toList) w w' := addS_any B b fb st s w hh env.hB env.hfb hs
end
theorem zf2 {B b fb ab wb : Nat} {w : World} {st : St} (env : WEnvS B b fb ab wb w) (hh : HoldS B b fb st w) (n : Int) (h0 : -9223372036854775808 <= n) (h1 : n <= 9223372036854775807) :
  Calls Tryz.prog 91 #[numV n, .pointer (some ⟨ab, 0, none⟩), .pointer (some ⟨wb, 0, none⟩)] w fun e w' => e = .returned (.tuple #[]) /\ WroteS B b fb (wrT (.num n) st) w w' := by
 rw [wrT];have o := z04 env.add;have p := z04 env.wr;have q := cell_of_heap env.add;have r := Lib.itoa_length_le n h0 h1;have HE := hid (env.alloc (.cells #[.int .i64 1, .int .i64 n, .string ⟨#[]⟩, .slice none 0 0] 88));have HH := hid (hh.alloc (.cells #[.int .i64 1, .int .i64 n, .string ⟨#[]⟩, .slice none 0 0] 88));have HB := hid env.hB;clear env hh
 go_enter Tryz.func91, Tryz.ntmps91
 go_wp2_with fail
 have f : (w.alloc (.cells #[.int .i64 1, .int .i64 n, .string ⟨#[]⟩, .slice none 0 0] 88)).heap[w.heap.size]? = some (.cells #[.int .i64 1, .int .i64 n, .string ⟨#[]⟩, .slice none 0 0] 88 (0, 0)) := heap_alloc_new _ _;refine (z1n HE.out HH.out ⟨#[105]⟩ (by decide)).mono ?_;rintro e w1 ⟨rfl, d⟩;have a := HE.out.after d;have c := d.oth _ _ _ _ f (by decide) (by decide) (by decide);have g := cell_of_heap a.add
 have h : w1.cell? ⟨w.heap.size, 1, none⟩ = some (.int .i64 n) := by simp [World.cell?, c]
 have E1 := hid a;have H1 := hid d;have B1 := hid c
 have HF : Hid (Calls Tryz.prog 92 #[.int .i64 n, .int .i64 10] w1.drew fun e w' => e = .returned (.string ⟨(Lib.itoa n).toArray⟩) /\ w'.cell? ⟨ab, 0, none⟩ = some (addFn fb b) /\ w'.cell? ⟨w.heap.size, 1, none⟩ = some (.int .i64 n) /\ Below w1.heap.size w1 w') :=
  hid ((zi1 n h0 h1 B w1.drew a.hB (zd7 a.tab)).mono fun _ w' ⟨he, hb⟩ => ⟨he, (World.cell?_of_block (hb.block ab (z04 a.add))).trans g, (World.cell?_of_block (hb.block w.heap.size (z04 c))).trans h, z69 hb⟩)
 have HA : Hid (∀ w2, Below w1.heap.size w1 w2 -> Calls Tryz.prog 89 #[.string ⟨(Lib.itoa n).toArray⟩, .pointer (some ⟨fb, 0, none⟩), .pointer (some ⟨b, 0, none⟩)] w2 fun e w' => e = .returned (.tuple #[]) /\ w'.cell? ⟨ab, 0, none⟩ = some (addFn fb b) /\ w'.cell? ⟨w.heap.size, 1, none⟩ = some (.int .i64 n) /\ WroteS B b fb (addS (addS st [105]) (Lib.itoa n)) w1 w' /\ WEnvS B b fb ab wb w') :=
  hid (fun w2 hb2 => by
   have e2 := a.below hb2;have h2 := d.holds.below hb2
   refine (z1n e2 h2 ⟨(Lib.itoa n).toArray⟩ (by show (Lib.itoa n).toArray.size <= _; rw [List.size_toArray]; omega)).mono fun _ w' ⟨he, hw⟩ => ?_
   have e3 := e2.after hw;have m := hw.oth _ _ _ _ ((hb2.block _ (z04 c)).trans c) (by decide) (by decide) (by decide)
   exact ⟨he, cell_of_heap e3.add, by simp [World.cell?, m], WroteS.ahead hb2 a.hB hw, e3⟩)
 clear a d c f;go_wp2
 go_region_held3 (fun w' => w'.cell? ⟨ab, 0, none⟩ = some (addFn fb b) /\ w'.cell? ⟨w.heap.size, 1, none⟩ = some (.int .i64 n)) (first | go_keep | (constructor <;> assumption))
  (first | (go_at_call 92; refine HF.out.mono ?_; rintro e w2 ⟨rfl, hA2, hN2, hb2⟩) | (go_at_call 89; refine (HA.out _ (by assumption)).mono ?_; rintro e w3 ⟨rfl, s, t, i, j⟩))
 have H3 := hid i;have E3 := hid j;clear i j
 go_wp2_with fail
 refine (z1n E3.out H3.out.holds ⟨#[101]⟩ (by decide)).mono ?_;rintro e w4 ⟨rfl, k⟩;have l : Hid (WroteS B b fb (addS (addS (addS st [105]) (Lib.itoa n)) [101]) w w4) := hid (WroteS.ahead (z03 w _) HB.out ((H1.out.trans H3.out).trans k));clear k;go_wp2
 go_end0
 exact ⟨rfl, l.out⟩
theorem zbk {B b fb ab wb : Nat} {w : World} {st : St} (env : WEnvS B b fb ab wb w) (hh : HoldS B b fb st w) (bb : ByteArray) (hbb : bb.size <= 140737488351232) :
  Calls Tryz.prog 91 #[textV bb, .pointer (some ⟨ab, 0, none⟩), .pointer (some ⟨wb, 0, none⟩)] w fun e w' => e = .returned (.tuple #[]) /\ WroteS B b fb (addS (addS (addS st (Lib.itoa bb.size)) [58]) bb.data.toList) w w' := by
 have s := z04 env.add;have o := cell_of_heap env.add;have t := Lib.itoa_length_le (bb.size : Int) (by omega) (by omega);have a := env.alloc (.cells #[.int .i64 2, .int .i64 0, .string bb, .slice none 0 0] 88);have g := hh.alloc (.cells #[.int .i64 2, .int .i64 0, .string bb, .slice none 0 0] 88);have c : (w.alloc (.cells #[.int .i64 2, .int .i64 0, .string bb, .slice none 0 0] 88)).heap[w.heap.size]? = some (.cells #[.int .i64 2, .int .i64 0, .string bb, .slice none 0 0] 88 (0, 0)) := heap_alloc_new _ _;have p : Hid (Below w.heap.size w (w.alloc (.cells #[.int .i64 2, .int .i64 0, .string bb, .slice none 0 0] 88))) := hid (z03 w _);have HB := hid env.hB
 go_enter Tryz.func91, Tryz.ntmps91
 go_wp2
 generalize hw0 : w.alloc (.cells #[.int .i64 2, .int .i64 0, .string bb, .slice none 0 0] 88) = w0 at *
 clear hw0 o;have h := cell_of_heap a.add
 have i : w0.cell? ⟨w.heap.size, 2, none⟩ = some (.string bb) := by simp [World.cell?, c]
 have HF : Hid (Calls Tryz.prog 93 #[.int .i64 bb.size] w0.drew fun e w' => e = .returned (.string ⟨(Lib.itoa bb.size).toArray⟩) /\ w'.cell? ⟨ab, 0, none⟩ = some (addFn fb b) /\ w'.cell? ⟨w.heap.size, 2, none⟩ = some (.string bb) /\ Below w0.heap.size w0 w') :=
  hid ((ze4 bb.size (by omega) (by omega) B w0.drew a.hB (zd7 a.tab)).mono fun _ w' ⟨he, hb⟩ => ⟨he, (World.cell?_of_block (hb.block ab (z04 a.add))).trans h, (World.cell?_of_block (hb.block w.heap.size (z04 c))).trans i, z69 hb⟩)
 have HA : Hid (∀ w2, Below w0.heap.size w0 w2 -> Calls Tryz.prog 89 #[.string ⟨(Lib.itoa bb.size).toArray⟩, .pointer (some ⟨fb, 0, none⟩), .pointer (some ⟨b, 0, none⟩)] w2 fun e w' => e = .returned (.tuple #[]) /\ w'.cell? ⟨ab, 0, none⟩ = some (addFn fb b) /\ w'.cell? ⟨w.heap.size, 2, none⟩ = some (.string bb) /\ WroteS B b fb (addS st (Lib.itoa bb.size)) w0 w' /\ WEnvS B b fb ab wb w' /\ w'.heap[w.heap.size]? = some (.cells #[.int .i64 2, .int .i64 0, .string bb, .slice none 0 0] 88 (0, 0))) :=
  hid (fun w2 hb2 => by
   have e2 := a.below hb2;have h2 := g.below hb2
   refine (z1n e2 h2 ⟨(Lib.itoa bb.size).toArray⟩ (by show (Lib.itoa bb.size).toArray.size <= _; rw [List.size_toArray]; omega)).mono fun _ w' ⟨he, hw⟩ => ?_
   have e3 := e2.after hw;have d := hw.oth _ _ _ _ ((hb2.block _ (z04 c)).trans c) (by decide) (by decide) (by decide)
   exact ⟨he, cell_of_heap e3.add, by simp [World.cell?, d], WroteS.ahead hb2 a.hB hw, e3, d⟩)
 clear a g c env hh
 go_region_held3 (fun w' => w'.cell? ⟨ab, 0, none⟩ = some (addFn fb b) /\ w'.cell? ⟨w.heap.size, 2, none⟩ = some (.string bb)) (first | go_keep | (constructor <;> assumption))
  (first | (go_at_call 93; refine HF.out.mono ?_; rintro e w2 ⟨rfl, hA2, hN2, hb2⟩) | (go_at_call 89; refine (HA.out _ (by assumption)).mono ?_; rintro e w3 ⟨rfl, u, v, j, k, d⟩))
 have H3 := hid j;have E3 := hid k;have B3 := hid d;clear j k d
 go_wp2_with fail
 refine (z1n E3.out H3.out.holds ⟨#[58]⟩ (by decide)).mono ?_;rintro e w4 ⟨rfl, f⟩;have e4 := E3.out.after f;have l := f.oth _ _ _ _ B3.out (by decide) (by decide) (by decide);have q := cell_of_heap e4.add
 have r : w4.cell? ⟨w.heap.size, 2, none⟩ = some (.string bb) := by simp [World.cell?, l]
 have E4 := hid e4;have H4 := hid f;clear e4 l f
 go_wp2_with fail
 refine (z1n E4.out H4.out.holds bb hbb).mono ?_;rintro e w5 ⟨rfl, m⟩;have n : Hid (WroteS B b fb (addS (addS (addS st (Lib.itoa bb.size)) [58]) bb.data.toList) w w5) := hid (WroteS.ahead p.out HB.out ((H3.out.trans H4.out).trans m));clear m;go_wp2
 go_end0
 exact ⟨rfl, n.out⟩
end Go.Proofs.YtdkkkeoicekdgaaGreatDoor.Co
