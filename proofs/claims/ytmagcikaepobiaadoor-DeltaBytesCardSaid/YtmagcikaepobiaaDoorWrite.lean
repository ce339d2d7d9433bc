/- Package code's Put: the closure that writes a value: what it adds to what is written. -/
import Derived.Test.YtmagcikaepobiaaDoorAdd
import Derived.Test.YtmagcikaepobiaaDoorRead
import Derived.Deep.RegionHeld3
import Derived.Lib.ItoaMem
namespace Go.Proofs.YtmagcikaepobiaaDoor
open Go.RowKit

mutual
/-- The bytes of a value. -/
def enc : Tree → List UInt8
  | .num n => 105 :: (Lib.itoa n ++ [101])
  | .text bs => Lib.itoa bs.length ++ 58 :: bs
  | .list ts => 108 :: (encL ts ++ [101])
def encL : List Tree → List UInt8
  | [] => []
  | t :: ts => enc t ++ encL ts
end
mutual
/-- Its integers are such as an int64 holds. -/
def Ok : Tree → Prop
  | .num n => -9223372036854775808 ≤ n ∧ n ≤ 9223372036854775807
  | .text _ => True
  | .list ts => OkL ts
def OkL : List Tree → Prop
  | [] => True
  | t :: ts => Ok t ∧ OkL ts
end

abbrev addFn (fb b : Nat) : Value := .func (.func 24) #[] #[.pointer (some ⟨fb, 0, none⟩), .pointer (some ⟨b, 0, none⟩)]
abbrev writeFn (ab wb : Nat) : Value := .func (.func 27) #[] #[.pointer (some ⟨ab, 0, none⟩), .pointer (some ⟨wb, 0, none⟩)]

structure WEnv (B b fb ab wb : Nat) (w : World) : Prop where
  fits : w.heap[fb]? = some (.cells #[.bool true] 4 (0, 0))
  add : w.heap[ab]? = some (.cells #[addFn fb b] 55 (0, 0))
  wr : w.heap[wb]? = some (.cells #[writeFn ab wb] 56 (0, 0))
  tab : Lib.TabBelow Tryd.prog B w "internal/strconv.uint64pow10" .u64 Lib.pow10Tab
  hB : B ≤ w.heap.size

/-- What a step of writing leaves. -/
structure Wrote (B b : Nat) (l' : List UInt8) (w w' : World) : Prop where
  holds : Holds B b l' w'
  below : Below B w w'
  others : Lib.OthersKept 5 (some b) w w'

section
variable {B b fb ab wb : Nat} {w w' : World} {l l' : List UInt8}
theorem WEnv.kept (h : WEnv B b fb ab wb w) (hh : Holds B b l w) (hb : Below B w w') (ho : Lib.OthersKept 5 (some b) w w') : WEnv B b fb ab wb w' :=
  ⟨others_at ho h.fits (fun e => hh.ne h.fits (by decide) (by injection e)) (by decide), others_at ho h.add (fun e => hh.ne h.add (by decide) (by injection e)) (by decide), others_at ho h.wr (fun e => hh.ne h.wr (by decide) (by injection e)) (by decide),
    fun w'' hb'' => h.tab w'' (hb.trans hb''), Nat.le_trans h.hB hb.size⟩
theorem below_others {b : Option Nat} (hb : Below w.heap.size w w') : Lib.OthersKept 5 b w w' := fun k _ h _ _ => (hb.block k (lt_of_heap h)).trans h
theorem Wrote.trans {w'' : World} (h : Wrote B b l w w') (h' : Wrote B b l' w' w'') : Wrote B b l' w w'' := ⟨h'.holds, h.below.trans h'.below, h.others.trans h'.others⟩
theorem WEnv.after (h : WEnv B b fb ab wb w) (hh : Holds B b l w) (hw : Wrote B b l' w w') : WEnv B b fb ab wb w' := h.kept hh hw.below hw.others
theorem WEnv.alloc (h : WEnv B b fb ab wb w) (hh : Holds B b l w) (o : Obj) : WEnv B b fb ab wb (w.alloc o) := h.kept hh ((Below.refl _ _).alloc h.hB o) ((Lib.OthersKept.refl _ _ _).alloc o)
theorem holds_below (hh : Holds B b l w) (hb : Below w.heap.size w w') : Holds B b l w' := by
  have hk : ∀ {p : Value}, Lib.BuilderAtF 49 5 B b p (Lib.byteCells l) w → Lib.BuilderAtF 49 5 B b p (Lib.byteCells l) w' := fun h => by
    obtain ⟨hB, v, hbk, hown, hne⟩ := h
    refine ⟨hB, v, (hb.block b (lt_of_heap hbk)).trans hbk, ⟨hown.1, ?_⟩, hne⟩
    rcases hown.2 with h0 | ⟨g, cap, cur, fz, hv, h1, h2, hr⟩
    · exact .inl h0
    · exact .inr ⟨g, cap, cur, fz, hv, h1, (hb.block g (lt_of_heap h2)).trans h2, hr⟩
  exact hh.imp hk hk
end

theorem below_grow (w : World) (k : Nat) (os : Array Obj) : Below w.heap.size w (Sort.grow (w.drewN k) os) := by
  refine ⟨rfl, rfl, rfl, ?_, fun j hj => ?_⟩
  · show w.heap.size ≤ (w.heap ++ os).size
    simp
  · show (w.heap ++ os)[j]? = w.heap[j]?
    rw [Array.getElem?_append_left hj]

/-- FormatInt, at base 10. -/
theorem fmt_any (n : Int) (h0 : -9223372036854775808 ≤ n) (h1 : n ≤ 9223372036854775807) (B : Nat) (w : World) (_ : B ≤ w.heap.size) (htab : Lib.TabBelow Tryd.prog B w "internal/strconv.uint64pow10" .u64 Lib.pow10Tab) :
    Calls Tryd.prog 28 #[.int .i64 n, .int .i64 10] w fun e w' => e = .returned (.string ⟨(Lib.itoa n).toArray⟩) ∧ Below w.heap.size w w' :=
  (Tryd.strconv_FormatInt_10 n h0 h1 w htab.here).mono fun _ _ ⟨he, k, os, hw⟩ => ⟨he, by subst hw; exact below_grow w k os⟩
theorem itoa_any (n : Int) (h0 : -9223372036854775808 ≤ n) (h1 : n ≤ 9223372036854775807) (B : Nat) (w : World) (_ : B ≤ w.heap.size) (htab : Lib.TabBelow Tryd.prog B w "internal/strconv.uint64pow10" .u64 Lib.pow10Tab) :
    Calls Tryd.prog 29 #[.int .i64 n] w fun e w' => e = .returned (.string ⟨(Lib.itoa n).toArray⟩) ∧ Below w.heap.size w w' :=
  (Tryd.strconv_Itoa n h0 h1 w htab.here).mono fun _ _ ⟨he, k, os, hw⟩ => ⟨he, by subst hw; exact below_grow w k os⟩

theorem tab_drew {B : Nat} {w : World} {name : String} {k : IntKind} {zs : List Int} (h : Lib.TabBelow Tryd.prog B w name k zs) : Lib.TabBelow Tryd.prog B w.drew name k zs := fun w'' hb => h w'' ⟨hb.os, hb.tape, hb.output, hb.size, hb.block⟩
theorem below_undrew {B : Nat} {w w' : World} (hb : Below B w.drew w') : Below B w w' := ⟨hb.os, hb.tape, hb.output, hb.size, hb.block⟩

/-- A text added. -/
theorem add_wrote {B b fb ab wb : Nat} {w : World} {l : List UInt8} (env : WEnv B b fb ab wb w) (hh : Holds B b l w) (s : ByteArray) (hlen : l.length + s.size ≤ 131072) :
    Calls Tryd.prog 24 #[.string s, .pointer (some ⟨fb, 0, none⟩), .pointer (some ⟨b, 0, none⟩)] w fun e w' => e = .returned (.tuple #[]) ∧ Wrote B b (l ++ s.data.toList) w w' :=
  (add_any B b fb l s w hh env.hB env.fits hlen).mono fun _ _ ⟨he, h1, h2, h3⟩ => ⟨he, h1, h2, h3⟩

set_option maxHeartbeats 1000000 in
set_option maxRecDepth 100000 in
theorem write_num {B b fb ab wb : Nat} {w : World} {l : List UInt8} (env : WEnv B b fb ab wb w) (hh : Holds B b l w) (n : Int) (h0 : -9223372036854775808 ≤ n) (h1 : n ≤ 9223372036854775807) (hlen : l.length + (enc (.num n)).length ≤ 131072) :
    Calls Tryd.prog 27 #[numV n, .pointer (some ⟨ab, 0, none⟩), .pointer (some ⟨wb, 0, none⟩)] w fun e w' => e = .returned (.tuple #[]) ∧ Wrote B b (l ++ enc (.num n)) w w' := by
  rw [enc] at hlen ⊢
  simp only [List.length_cons, List.length_append, List.length_nil] at hlen
  have hla := lt_of_heap env.add
  have hlw := lt_of_heap env.wr
  have hca := cell_of_heap env.add
  have HE := Lib.hid (env.alloc hh (.cells #[.int .i64 1, .int .i64 n, .string ⟨#[]⟩, .slice none 0 0] 36))
  have HH : Hid (Holds B b l (w.alloc (.cells #[.int .i64 1, .int .i64 n, .string ⟨#[]⟩, .slice none 0 0] 36))) := Lib.hid (Lib.IsBuilderF.alloc hh _)
  have HB := Lib.hid env.hB
  clear env hh
  go_enter Tryd.func27, Tryd.ntmps27
  go_wp2_with fail
  have hW0 : (w.alloc (.cells #[.int .i64 1, .int .i64 n, .string ⟨#[]⟩, .slice none 0 0] 36)).heap[w.heap.size]? = some (.cells #[.int .i64 1, .int .i64 n, .string ⟨#[]⟩, .slice none 0 0] 36 (0, 0)) := heap_alloc_new _ _
  refine (add_wrote HE.out HH.out ⟨#[105]⟩ (by simp [ByteArray.size]; omega)).mono ?_
  rintro e w1 ⟨rfl, hw1⟩
  have env1 := HE.out.after HH.out hw1
  have hb1 := others_at hw1.others hW0 (fun e => HH.out.ne hW0 (by decide) (by injection e)) (by decide)
  have hca1 := cell_of_heap env1.add
  have hcn1 : w1.cell? ⟨w.heap.size, 1, none⟩ = some (.int .i64 n) := by simp [World.cell?, hb1]
  have E1 := Lib.hid env1
  have H1 := Lib.hid hw1
  have B1 := Lib.hid hb1
  have HF : Hid (Calls Tryd.prog 28 #[.int .i64 n, .int .i64 10] w1.drew fun e w' => e = .returned (.string ⟨(Lib.itoa n).toArray⟩) ∧ w'.cell? ⟨ab, 0, none⟩ = some (addFn fb b) ∧ w'.cell? ⟨w.heap.size, 1, none⟩ = some (.int .i64 n) ∧ Below w1.heap.size w1 w') :=
    Lib.hid ((fmt_any n h0 h1 B w1.drew env1.hB (tab_drew env1.tab)).mono fun _ w' ⟨he, hb⟩ => ⟨he, (World.cell?_of_block (hb.block ab (lt_of_heap env1.add))).trans hca1, (World.cell?_of_block (hb.block w.heap.size (lt_of_heap hb1))).trans hcn1, below_undrew hb⟩)
  have HA : Hid (∀ w2, Below w1.heap.size w1 w2 → Calls Tryd.prog 24 #[.string ⟨(Lib.itoa n).toArray⟩, .pointer (some ⟨fb, 0, none⟩), .pointer (some ⟨b, 0, none⟩)] w2 fun e w' => e = .returned (.tuple #[]) ∧ w'.cell? ⟨ab, 0, none⟩ = some (addFn fb b) ∧ w'.cell? ⟨w.heap.size, 1, none⟩ = some (.int .i64 n) ∧ Wrote B b ((l ++ [105]) ++ Lib.itoa n) w1 w' ∧ WEnv B b fb ab wb w') :=
    Lib.hid (fun w2 hb2 => by
      have e2 := env1.kept hw1.holds (hb2.mono env1.hB) (below_others hb2)
      have h2 := holds_below hw1.holds hb2
      refine (add_wrote e2 h2 ⟨(Lib.itoa n).toArray⟩ (by simp [ByteArray.size]; omega)).mono fun _ w' ⟨he, hw⟩ => ?_
      have e3 := e2.after h2 hw
      have hb3 := others_at hw.others ((hb2.block _ (lt_of_heap hb1)).trans hb1) (fun e => h2.ne ((hb2.block _ (lt_of_heap hb1)).trans hb1) (by decide) (by injection e)) (by decide)
      exact ⟨he, cell_of_heap e3.add, by simp [World.cell?, hb3], ⟨by simpa using hw.holds, (hb2.mono env1.hB).trans hw.below, (below_others hb2).trans hw.others⟩, e3⟩)
  clear env1 hw1 hb1 hW0
  go_wp2
  go_region_held3 (fun w' => w'.cell? ⟨ab, 0, none⟩ = some (addFn fb b) ∧ w'.cell? ⟨w.heap.size, 1, none⟩ = some (.int .i64 n)) (first | go_keep | (constructor <;> assumption))
    (first | (go_at_call 28; refine HF.out.mono ?_; rintro e w2 ⟨rfl, hA2, hN2, hb2⟩) | (go_at_call 24; refine (HA.out _ (by assumption)).mono ?_; rintro e w3 ⟨rfl, hA3, hN3, hw3, he3⟩))
  have H3 := Lib.hid hw3
  have E3 := Lib.hid he3
  clear hw3 he3
  go_wp2_with fail
  refine (add_wrote E3.out H3.out.holds ⟨#[101]⟩ (by simp [ByteArray.size]; omega)).mono ?_
  rintro e w4 ⟨rfl, hw4⟩
  have hend : Hid (Wrote B b (l ++ 105 :: (Lib.itoa n ++ [101])) w w4) := Lib.hid (by
    have h := (H1.out.trans H3.out).trans hw4
    exact ⟨by simpa using h.holds, ((Below.refl _ _).alloc HB.out _).trans h.below, ((Lib.OthersKept.refl _ _ _).alloc _).trans h.others⟩)
  clear hw4
  go_wp2
  go_end0
  exact ⟨rfl, hend.out⟩

set_option maxHeartbeats 1000000 in
set_option maxRecDepth 100000 in
theorem write_textB {B b fb ab wb : Nat} {w : World} {l : List UInt8} (env : WEnv B b fb ab wb w) (hh : Holds B b l w) (bb : ByteArray) (hlen : l.length + ((Lib.itoa bb.size).length + 1 + bb.size) ≤ 131072) :
    Calls Tryd.prog 27 #[textV bb, .pointer (some ⟨ab, 0, none⟩), .pointer (some ⟨wb, 0, none⟩)] w fun e w' => e = .returned (.tuple #[]) ∧ Wrote B b (((l ++ Lib.itoa bb.size) ++ [58]) ++ bb.data.toList) w w' := by
  have hla := lt_of_heap env.add
  have hca := cell_of_heap env.add
  have env0 := env.alloc hh (.cells #[.int .i64 2, .int .i64 0, .string bb, .slice none 0 0] 36)
  have hh0 : Holds B b l (w.alloc (.cells #[.int .i64 2, .int .i64 0, .string bb, .slice none 0 0] 36)) := Lib.IsBuilderF.alloc hh _
  have hb0 : (w.alloc (.cells #[.int .i64 2, .int .i64 0, .string bb, .slice none 0 0] 36)).heap[w.heap.size]? = some (.cells #[.int .i64 2, .int .i64 0, .string bb, .slice none 0 0] 36 (0, 0)) := heap_alloc_new _ _
  have HB0 : Hid (Below B w (w.alloc (.cells #[.int .i64 2, .int .i64 0, .string bb, .slice none 0 0] 36))) := Lib.hid ((Below.refl _ _).alloc env.hB _)
  have HO0 : Hid (Lib.OthersKept 5 (some b) w (w.alloc (.cells #[.int .i64 2, .int .i64 0, .string bb, .slice none 0 0] 36))) := Lib.hid ((Lib.OthersKept.refl _ _ _).alloc _)
  go_enter Tryd.func27, Tryd.ntmps27
  go_wp2
  generalize hw0 : w.alloc (.cells #[.int .i64 2, .int .i64 0, .string bb, .slice none 0 0] 36) = w0 at *
  clear hw0 hca
  have hca0 := cell_of_heap env0.add
  have hcs0 : w0.cell? ⟨w.heap.size, 2, none⟩ = some (.string bb) := by simp [World.cell?, hb0]
  have HF : Hid (Calls Tryd.prog 29 #[.int .i64 bb.size] w0.drew fun e w' => e = .returned (.string ⟨(Lib.itoa bb.size).toArray⟩) ∧ w'.cell? ⟨ab, 0, none⟩ = some (addFn fb b) ∧ w'.cell? ⟨w.heap.size, 2, none⟩ = some (.string bb) ∧ Below w0.heap.size w0 w') :=
    Lib.hid ((itoa_any bb.size (by omega) (by omega) B w0.drew env0.hB (tab_drew env0.tab)).mono fun _ w' ⟨he, hb⟩ => ⟨he, (World.cell?_of_block (hb.block ab (lt_of_heap env0.add))).trans hca0, (World.cell?_of_block (hb.block w.heap.size (lt_of_heap hb0))).trans hcs0, below_undrew hb⟩)
  have HA : Hid (∀ w2, Below w0.heap.size w0 w2 → Calls Tryd.prog 24 #[.string ⟨(Lib.itoa bb.size).toArray⟩, .pointer (some ⟨fb, 0, none⟩), .pointer (some ⟨b, 0, none⟩)] w2 fun e w' => e = .returned (.tuple #[]) ∧ w'.cell? ⟨ab, 0, none⟩ = some (addFn fb b) ∧ w'.cell? ⟨w.heap.size, 2, none⟩ = some (.string bb) ∧ Wrote B b (l ++ Lib.itoa bb.size) w0 w' ∧ WEnv B b fb ab wb w' ∧ w'.heap[w.heap.size]? = some (.cells #[.int .i64 2, .int .i64 0, .string bb, .slice none 0 0] 36 (0, 0))) :=
    Lib.hid (fun w2 hb2 => by
      have e2 := env0.kept hh0 (hb2.mono env0.hB) (below_others hb2)
      have h2 := holds_below hh0 hb2
      refine (add_wrote e2 h2 ⟨(Lib.itoa bb.size).toArray⟩ (by show l.length + (Lib.itoa bb.size).toArray.size ≤ _; rw [List.size_toArray]; omega)).mono fun _ w' ⟨he, hw⟩ => ?_
      have e3 := e2.after h2 hw
      have hb3 := others_at hw.others ((hb2.block _ (lt_of_heap hb0)).trans hb0) (fun e => h2.ne ((hb2.block _ (lt_of_heap hb0)).trans hb0) (by decide) (by injection e)) (by decide)
      exact ⟨he, cell_of_heap e3.add, by simp [World.cell?, hb3], ⟨by simpa using hw.holds, (hb2.mono env0.hB).trans hw.below, (below_others hb2).trans hw.others⟩, e3, hb3⟩)
  clear env0 hh0 hb0 env hh
  go_region_held3 (fun w' => w'.cell? ⟨ab, 0, none⟩ = some (addFn fb b) ∧ w'.cell? ⟨w.heap.size, 2, none⟩ = some (.string bb)) (first | go_keep | (constructor <;> assumption))
    (first | (go_at_call 29; refine HF.out.mono ?_; rintro e w2 ⟨rfl, hA2, hN2, hb2⟩) | (go_at_call 24; refine (HA.out _ (by assumption)).mono ?_; rintro e w3 ⟨rfl, hA3, hN3, hw3, he3, hb3⟩))
  have H3 := Lib.hid hw3
  have E3 := Lib.hid he3
  have B3 := Lib.hid hb3
  clear hw3 he3 hb3
  go_wp2_with fail
  refine (add_wrote E3.out H3.out.holds ⟨#[58]⟩ (by rw [List.length_append]; show _ + 1 ≤ _; omega)).mono ?_
  rintro e w4 ⟨rfl, hw4⟩
  have e4 := E3.out.after H3.out.holds hw4
  have hb4 := others_at hw4.others B3.out (fun e => H3.out.holds.ne B3.out (by decide) (by injection e)) (by decide)
  have hca4 := cell_of_heap e4.add
  have hcs4 : w4.cell? ⟨w.heap.size, 2, none⟩ = some (.string bb) := by simp [World.cell?, hb4]
  have E4 := Lib.hid e4
  have H4 := Lib.hid hw4
  clear e4 hb4 hw4
  go_wp2_with fail
  refine (add_wrote E4.out H4.out.holds bb (by rw [List.length_append, List.length_append]; show _ + 1 + _ ≤ _; omega)).mono ?_
  rintro e w5 ⟨rfl, hw5⟩
  have hend : Hid (Wrote B b (((l ++ Lib.itoa bb.size) ++ [58]) ++ bb.data.toList) w w5) := Lib.hid (by
    have h := (H3.out.trans H4.out).trans hw5
    exact ⟨h.holds, HB0.out.trans h.below, HO0.out.trans h.others⟩)
  clear hw5
  go_wp2
  go_end0
  exact ⟨rfl, hend.out⟩

theorem write_text {B b fb ab wb : Nat} {w : World} {l : List UInt8} (env : WEnv B b fb ab wb w) (hh : Holds B b l w) (bs : List UInt8) (hlen : l.length + (enc (.text bs)).length ≤ 131072) :
    Calls Tryd.prog 27 #[textV ⟨bs.toArray⟩, .pointer (some ⟨ab, 0, none⟩), .pointer (some ⟨wb, 0, none⟩)] w fun e w' => e = .returned (.tuple #[]) ∧ Wrote B b (l ++ enc (.text bs)) w w' := by
  have hsz : (⟨bs.toArray⟩ : ByteArray).size = bs.length := by simp [ByteArray.size]
  rw [enc] at hlen ⊢
  simp only [List.length_cons, List.length_append] at hlen
  have := write_textB env hh ⟨bs.toArray⟩ (by rw [hsz]; omega)
  rw [hsz] at this
  refine this.mono fun _ _ ⟨he, hw⟩ => ⟨he, ?_⟩
  simpa using hw

end Go.Proofs.YtmagcikaepobiaaDoor
