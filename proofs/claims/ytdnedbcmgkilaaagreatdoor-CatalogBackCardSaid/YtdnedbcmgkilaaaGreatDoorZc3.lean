/- strings.Builder at this program: copyCheck and WriteString. -/
import Derived.Test.YtdnedbcmgkilaaaGreatDoorChecked
import Derived.WalkKit
import Derived.Lib.Hide
import Derived.Lib.OthersKept
import Derived.Lib.AppendIntMem
import Derived.Deep.RegionHeld3
import Derived.Lib.ItoaMem
import Derived.Test.YtdnedbcmgkilaaaGreatDoorZB
import Derived.Test.YtdnedbcmgkilaaaGreatDoorZc1
import Derived.Test.YtdnedbcmgkilaaaGreatDoorZc2

section

namespace Go.Proofs.YtdnedbcmgkilaaaGreatDoor.Co
open Go.RowKit

theorem infoBld : (Tryz.prog.info? 83).map (·.size) = some 2 := by kernel_rfl
theorem liesBld : liesAt Tryz.prog Tryz.prog.depth 83 (2 / Tryz.prog.cellsOf 83) 0 83 1 = true := by kernel_rfl
theorem infoByte : (Tryz.prog.info? 5).map (fun i => (i.zero, i.size, i.bytes)) = some (some (.int .u8 0), 1, 1) := by kernel_rfl

set_option maxHeartbeats 1000000 in
set_option maxRecDepth 100000 in
theorem copyCheck_used (b : Nat) (w : World) (h0 : w.cell? ⟨b, 0, none⟩ = some (.pointer (some ⟨b, 0, none⟩))) :
    Calls Tryz.prog 98 #[.pointer (some ⟨b, 0, none⟩)] w fun e w' => e = .returned (.tuple #[]) ∧ w' = w := by
  obtain ⟨j, hj, _⟩ := Option.map_eq_some_iff.1 infoBld
  go_enter Tryz.func98, Tryz.ntmps98
  go_wp2
  rw [Lib.run_neq_ptr_same w _ Tryz.underlying80 hj]
  go_wp2
  go_end0
  exact ⟨rfl, rfl⟩

set_option maxHeartbeats 1000000 in
set_option maxRecDepth 100000 in
theorem copyCheck_fresh (b : Nat) (w : World) (h0 : w.cell? ⟨b, 0, none⟩ = some (.pointer none)) (hsh : w.shape? b = some (83, 2)) (hfz : w.frozen? ⟨b, 0, none⟩ = false) :
    Calls Tryz.prog 98 #[.pointer (some ⟨b, 0, none⟩)] w fun e w' => e = .returned (.tuple #[]) ∧ w' = w.setCell ⟨b, 0, none⟩ (.pointer (some ⟨b, 0, none⟩)) := by
  obtain ⟨j, hj, hjs⟩ := Option.map_eq_some_iff.1 infoBld
  go_enter Tryz.func98, Tryz.ntmps98
  go_wp2
  rw [Lib.run_to_unsafe w ⟨b, 0, none⟩ Tryz.underlying80 Tryz.underlying168 hj (by rw [hjs]; decide) hsh (Nat.zero_lt_succ 1)]
  simp only [Result.andThen]
  rw [Oper.upon_value]
  go_wp2
  rw [run_callFunc_extern Tryz.func143 (by kernel_rfl) (by kernel_rfl) (by kernel_rfl) (e := Extern.AbiNoEscape.same) (by kernel_rfl)]
  rw [Lib.run_noEscape]
  simp only [Result.andThen]
  rw [Oper.upon_value]
  go_wp2
  rw [Lib.run_from_unsafe w ⟨b, 0, none⟩ Tryz.underlying168 Tryz.underlying80 hj hsh liesBld]
  simp only [Result.andThen]
  rw [Oper.upon_value]
  go_wp2
  go_end0
  exact ⟨rfl, rfl⟩
theorem copyCheck_any (B b : Nat) (bs : List Value) (w : World) (h : Lib.IsBuilderF 83 5 B b bs w) :
    Calls Tryz.prog 98 #[.pointer (some ⟨b, 0, none⟩)] w fun e w' => e = .returned (.tuple #[]) ∧ (Lib.BuilderAtF 83 5 B b (.pointer (some ⟨b, 0, none⟩)) bs w' ∧ Below B w w' ∧ Lib.OthersKept 5 (some b) w w') := by
  rcases h with h | h
  · refine (copyCheck_fresh b w h.cell0 h.shape h.frozen0).mono ?_
    rintro e w' ⟨rfl, rfl⟩
    exact ⟨rfl, h.used _, (Below.refl B w).setCell (p := ⟨b, 0, none⟩) h.1 _, (Lib.OthersKept.refl _ _ w).setCell ⟨b, 0, none⟩ rfl _⟩
  · refine (copyCheck_used b w h.cell0).mono ?_
    rintro e w' ⟨rfl, rfl⟩
    exact ⟨rfl, h, Below.refl B _, Lib.OthersKept.refl _ _ _⟩

set_option maxHeartbeats 1000000 in
set_option maxRecDepth 100000 in
theorem writeString_any (B b : Nat) (bs : List Value) (s : ByteArray) (w : World) (h : Lib.IsBuilderF 83 5 B b bs w) (hlen : bs.length + s.size ≤ 140737488355328) (hBw : B ≤ w.heap.size) :
    Calls Tryz.prog 61 #[.pointer (some ⟨b, 0, none⟩), .string s] w fun e w' => e = .returned (.tuple #[.int .i64 s.size, .nilIface]) ∧ (Lib.BuilderAtF 83 5 B b (.pointer (some ⟨b, 0, none⟩)) (bs ++ Lib.strCells s) w' ∧ Below B w w' ∧ Lib.OthersKept 5 (some b) w w') := by
  obtain ⟨i0, hi, hz0, hz1, hz2⟩ := info_parts infoByte
  have HC := Lib.hid (copyCheck_any B b bs w h)
  clear h
  go_enter Tryz.func61, Tryz.ntmps61
  go_wp2_with fail
  refine HC.out.mono ?_
  rintro e w1 ⟨rfl, h1, hb1, hk1⟩
  obtain ⟨hB, v, hbk, hown, hne⟩ := h1
  have c0 : w1.cell? ⟨b, 0, none⟩ = some (.pointer (some ⟨b, 0, none⟩)) := by rw [Lib.cell_of_heap hbk]; rfl
  have c1 : w1.cell? ⟨b, 1, none⟩ = some v := by rw [Lib.cell_of_heap hbk]; rfl
  have HK := Lib.hid hbk
  have HO := Lib.hid hown
  clear hbk hown
  go_wp2_with (at_builtin; refine Lib.wpList_append_own_stringF _ rfl _ _ 81 9 rfl B 5 i0 Tryz.underlying81 Tryz.underlying9 hi hz0 hz1 hz2 _ _ _ rfl HO.out s rfl ?c3 ?c4 ?c5 ?_)
  case c3 => unfold maxLen; omega
  case c4 => omega
  case c5 => have := hb1.size; omega
  intro v' w2 hown' hgrow _
  have hbk := HK.out
  have hown := HO.out
  have hlt : b < w1.heap.size := by
    rcases Nat.lt_or_ge b w1.heap.size with h' | h'
    · exact h'
    · simp [Array.getElem?_eq_none h'] at hbk
  have hb2 : w2.heap[b]? = some (.cells #[.pointer (some ⟨b, 0, none⟩), v] 83 (0, 0)) := by
    rw [hgrow.block b hlt (fun e => hne e.symm)]
    exact hbk
  have d0 : w2.cell? ⟨b, 0, none⟩ = some (.pointer (some ⟨b, 0, none⟩)) := by rw [Lib.cell_of_heap hb2]; rfl
  have d1 : w2.cell? ⟨b, 1, none⟩ = some v := by rw [Lib.cell_of_heap hb2]; rfl
  have f1 : w2.frozen? ⟨b, 1, none⟩ = false := Lib.frozen_of_heap hb2 1
  obtain ⟨ao, n', cap, rfl⟩ : ∃ ao n' cap, v' = .slice ao n' cap := by
    rcases hown'.2 with ⟨hv, _⟩ | ⟨g, cap, cur, fz, hv, _⟩
    · exact ⟨_, _, _, hv⟩
    · exact ⟨_, _, _, hv⟩
  have HB2 := Lib.hid hb2
  have HO2 := Lib.hid hown'
  clear hb2 hown' hbk hown
  go_wp2
  go_ret2
  refine ⟨rfl, ?_, ?_, (hk1.grown hgrow (Lib.ownsRowF_kind HO.out)).setCell ⟨b, 1, none⟩ rfl _⟩
  · exact Lib.BuilderAtF.put (T := 83) (e := 5) hB HB2.out (bs' := bs ++ Lib.strCells s) (by simpa [Lib.strCells_length] using HO2.out) (by decide)
  · exact (hb1.grown hgrow (by have := hb1.size; omega) (fun k hk => (HO.out.lt k hk).1)).setCell (p := ⟨b, 1, none⟩) hB _

end Go.Proofs.YtdnedbcmgkilaaaGreatDoor.Co

end

/- Package code's Put: the closure that adds a text to what is written, as long as it fits. -/
section

namespace Go.Proofs.YtdnedbcmgkilaaaGreatDoor.Co
open Go.RowKit

/-- A builder at block b that holds the bytes l. -/
abbrev Holds (B b : Nat) (l : List UInt8) (w : World) : Prop := Lib.IsBuilderF 83 5 B b (Lib.byteCells l) w

theorem builderAt_same {T e : TypeId} {B b : Nat} {p : Value} {bs : List Value} {w w' : World} (h : Lib.BuilderAtF T e B b p bs w) (hk : ∀ k : Nat, w'.heap[k]? = w.heap[k]?) : Lib.BuilderAtF T e B b p bs w' := by
  obtain ⟨hB, v, hb, hown, hne⟩ := h
  refine ⟨hB, v, (hk b).trans hb, ⟨hown.1, ?_⟩, hne⟩
  rcases hown.2 with h0 | ⟨g, cap, cur, fz, hv, h1, h2, hr⟩
  · exact .inl h0
  · exact .inr ⟨g, cap, cur, fz, hv, h1, (hk g).trans h2, hr⟩
theorem holds_same {B b : Nat} {l : List UInt8} {w w' : World} (h : Holds B b l w) (hk : ∀ k : Nat, w'.heap[k]? = w.heap[k]?) : Holds B b l w' :=
  h.imp (builderAt_same · hk) (builderAt_same · hk)
theorem Holds.lt {B b : Nat} {l : List UInt8} {w : World} (h : Holds B b l w) : b < w.heap.size := by
  rcases h with h | h <;> exact h.lt
theorem Holds.ne {B b k : Nat} {l : List UInt8} {w : World} (h : Holds B b l w) {cs : Array Value} {t : TypeId} {fz : Nat × Nat} (hk : w.heap[k]? = some (.cells cs t fz)) (ht : t ≠ 83) : k ≠ b := by
  rintro rfl
  rcases h with ⟨_, v, hb, _⟩ | ⟨_, v, hb, _⟩ <;> rw [hk] at hb <;> injection hb with hb <;> injection hb with _ hb <;> exact ht hb

theorem setCell_same {w : World} {k : Nat} {v : Value} {t : TypeId} (h : w.heap[k]? = some (.cells #[v] t (0, 0))) : ∀ j : Nat, (w.setCell ⟨k, 0, none⟩ v).heap[j]? = w.heap[j]? := by
  intro j
  by_cases hj : j = k
  · subst hj; rw [heap_set h 0 v, h]; rfl
  · exact Below.heap_setCell _ _ _ _ hj
theorem below_same {B : Nat} {w w' : World} (hb : Below B w w') {k : Nat} {v : Value} {t : TypeId} (h : w'.heap[k]? = some (.cells #[v] t (0, 0))) : Below B w (w'.setCell ⟨k, 0, none⟩ v) :=
  hb.trans ⟨rfl, rfl, rfl, by simp [World.setCell], fun j _ => setCell_same h j⟩
theorem others_same {w w' : World} (hk : ∀ k : Nat, w'.heap[k]? = w.heap[k]?) (b : Option Nat) : Lib.OthersKept 5 b w w' := fun k _ h _ _ => (hk k).trans h
theorem others_at {w w' : World} {b : Option Nat} (h : Lib.OthersKept 5 b w w') {k : Nat} {cs : Array Value} {t : TypeId} {fz : Nat × Nat} (hk : w.heap[k]? = some (.cells cs t fz)) (hb : some k ≠ b) (ht : t ≠ 5) : w'.heap[k]? = some (.cells cs t fz) :=
  h k _ hk hb (fun c f e => by injection e with _ e; exact ht e)

set_option maxHeartbeats 1000000 in
set_option maxRecDepth 100000 in
theorem add_any (B b fb : Nat) (l : List UInt8) (s : ByteArray) (w : World) (hI : Holds B b l w) (hB : B ≤ w.heap.size) (hf : w.heap[fb]? = some (.cells #[.bool true] 4 (0, 0))) (hlen : l.length + s.size ≤ 131072) :
    Calls Tryz.prog 59 #[.string s, .pointer (some ⟨fb, 0, none⟩), .pointer (some ⟨b, 0, none⟩)] w fun e w' => e = .returned (.tuple #[]) ∧ (Holds B b (l ++ s.data.toList) w' ∧ Below B w w' ∧ Lib.OthersKept 5 (some b) w w') := by
  have hsame := setCell_same hf
  have hcf : w.cell? ⟨fb, 0, none⟩ = some (.bool true) := by simp [World.cell?, hf]
  have hff : w.frozen? ⟨fb, 0, none⟩ = false := by simp [World.frozen?, hf]
  have HL := Lib.hid (Tryz.Builder_Len_f B b (Lib.byteCells l) w hI)
  have HW := Lib.hid (writeString_any B b (Lib.byteCells l) s (w.setCell ⟨fb, 0, none⟩ (.bool true)) (holds_same hI hsame) (by rw [Lib.byteCells_length]; omega) (by simpa [World.setCell] using hB))
  have HB : Hid (Below B w (w.setCell ⟨fb, 0, none⟩ (.bool true))) := Lib.hid (below_same (Below.refl _ _) hf)
  have HO : Hid (Lib.OthersKept 5 (some b) w (w.setCell ⟨fb, 0, none⟩ (.bool true))) := Lib.hid (others_same hsame _)
  have hbl : Hid ((Lib.byteCells l).length = l.length) := Lib.hid (Lib.byteCells_length l)
  clear hsame hf hI
  go_enter Tryz.func59, Tryz.ntmps59
  go_wp2_with fail
  refine HL.out.mono ?_
  rintro e w' ⟨rfl, rfl⟩
  rw [hbl.out]
  have hq : decide ((s.size : Int) ≤ 131072 - (l.length : Int)) = true := by simp; omega
  go_wp2_with fail
  refine HW.out.mono ?_
  rintro e w2 ⟨rfl, h2, hb2, ho2⟩
  go_wp2
  go_end0
  refine ⟨rfl, .inr ?_, HB.out.trans hb2, HO.out.trans ho2⟩
  have : Lib.byteCells (l ++ s.data.toList) = Lib.byteCells l ++ Lib.strCells s := by simp [Lib.byteCells, Lib.strCells]
  rw [this]; exact h2

end Go.Proofs.YtdnedbcmgkilaaaGreatDoor.Co

end

/- Package code's Put: the closure that writes a value: what it adds to what is written. -/
section

namespace Go.Proofs.YtdnedbcmgkilaaaGreatDoor.Co
open Go.RowKit

mutual
/-- The bytes of a value. -/
def enc : Tree → List UInt8
  | .num n => 105 :: (Lib.itoa n ++ [101])
  | .text bs => Lib.itoa bs.length ++ 58 :: bs
  | .list ts => 108 :: (encL ts ++ [101])
def encL : List Tree → List UInt8
  | [] => []
  | t :: ts => enc t ++ encL ts
end
mutual
/-- Its integers are such as an int64 holds. -/
def Ok : Tree → Prop
  | .num n => -9223372036854775808 ≤ n ∧ n ≤ 9223372036854775807
  | .text _ => True
  | .list ts => OkL ts
def OkL : List Tree → Prop
  | [] => True
  | t :: ts => Ok t ∧ OkL ts
end

abbrev addFn (fb b : Nat) : Value := .func (.func 59) #[] #[.pointer (some ⟨fb, 0, none⟩), .pointer (some ⟨b, 0, none⟩)]
abbrev writeFn (ab wb : Nat) : Value := .func (.func 62) #[] #[.pointer (some ⟨ab, 0, none⟩), .pointer (some ⟨wb, 0, none⟩)]

structure WEnv (B b fb ab wb : Nat) (w : World) : Prop where
  fits : w.heap[fb]? = some (.cells #[.bool true] 4 (0, 0))
  add : w.heap[ab]? = some (.cells #[addFn fb b] 89 (0, 0))
  wr : w.heap[wb]? = some (.cells #[writeFn ab wb] 90 (0, 0))
  tab : Lib.TabBelow Tryz.prog B w "internal/strconv.uint64pow10" .u64 Lib.pow10Tab
  hB : B ≤ w.heap.size

/-- What a step of writing leaves. -/
structure Wrote (B b : Nat) (l' : List UInt8) (w w' : World) : Prop where
  holds : Holds B b l' w'
  below : Below B w w'
  others : Lib.OthersKept 5 (some b) w w'

section
variable {B b fb ab wb : Nat} {w w' : World} {l l' : List UInt8}
theorem WEnv.kept (h : WEnv B b fb ab wb w) (hh : Holds B b l w) (hb : Below B w w') (ho : Lib.OthersKept 5 (some b) w w') : WEnv B b fb ab wb w' :=
  ⟨others_at ho h.fits (fun e => hh.ne h.fits (by decide) (by injection e)) (by decide), others_at ho h.add (fun e => hh.ne h.add (by decide) (by injection e)) (by decide), others_at ho h.wr (fun e => hh.ne h.wr (by decide) (by injection e)) (by decide),
    fun w'' hb'' => h.tab w'' (hb.trans hb''), Nat.le_trans h.hB hb.size⟩
theorem below_others {b : Option Nat} (hb : Below w.heap.size w w') : Lib.OthersKept 5 b w w' := fun k _ h _ _ => (hb.block k (lt_of_heap h)).trans h
theorem Wrote.trans {w'' : World} (h : Wrote B b l w w') (h' : Wrote B b l' w' w'') : Wrote B b l' w w'' := ⟨h'.holds, h.below.trans h'.below, h.others.trans h'.others⟩
theorem WEnv.after (h : WEnv B b fb ab wb w) (hh : Holds B b l w) (hw : Wrote B b l' w w') : WEnv B b fb ab wb w' := h.kept hh hw.below hw.others
theorem WEnv.alloc (h : WEnv B b fb ab wb w) (hh : Holds B b l w) (o : Obj) : WEnv B b fb ab wb (w.alloc o) := h.kept hh ((Below.refl _ _).alloc h.hB o) ((Lib.OthersKept.refl _ _ _).alloc o)
theorem holds_below (hh : Holds B b l w) (hb : Below w.heap.size w w') : Holds B b l w' := by
  have hk : ∀ {p : Value}, Lib.BuilderAtF 83 5 B b p (Lib.byteCells l) w → Lib.BuilderAtF 83 5 B b p (Lib.byteCells l) w' := fun h => by
    obtain ⟨hB, v, hbk, hown, hne⟩ := h
    refine ⟨hB, v, (hb.block b (lt_of_heap hbk)).trans hbk, ⟨hown.1, ?_⟩, hne⟩
    rcases hown.2 with h0 | ⟨g, cap, cur, fz, hv, h1, h2, hr⟩
    · exact .inl h0
    · exact .inr ⟨g, cap, cur, fz, hv, h1, (hb.block g (lt_of_heap h2)).trans h2, hr⟩
  exact hh.imp hk hk
end

theorem below_grow (w : World) (k : Nat) (os : Array Obj) : Below w.heap.size w (Sort.grow (w.drewN k) os) := by
  refine ⟨rfl, rfl, rfl, ?_, fun j hj => ?_⟩
  · show w.heap.size ≤ (w.heap ++ os).size
    simp
  · show (w.heap ++ os)[j]? = w.heap[j]?
    rw [Array.getElem?_append_left hj]

/-- FormatInt, at base 10. -/
theorem fmt_any (n : Int) (h0 : -9223372036854775808 ≤ n) (h1 : n ≤ 9223372036854775807) (B : Nat) (w : World) (_ : B ≤ w.heap.size) (htab : Lib.TabBelow Tryz.prog B w "internal/strconv.uint64pow10" .u64 Lib.pow10Tab) :
    Calls Tryz.prog 63 #[.int .i64 n, .int .i64 10] w fun e w' => e = .returned (.string ⟨(Lib.itoa n).toArray⟩) ∧ Below w.heap.size w w' :=
  (Tryz.strconv_FormatInt_10 n h0 h1 w htab.here).mono fun _ _ ⟨he, k, os, hw⟩ => ⟨he, by subst hw; exact below_grow w k os⟩
theorem itoa_any (n : Int) (h0 : -9223372036854775808 ≤ n) (h1 : n ≤ 9223372036854775807) (B : Nat) (w : World) (_ : B ≤ w.heap.size) (htab : Lib.TabBelow Tryz.prog B w "internal/strconv.uint64pow10" .u64 Lib.pow10Tab) :
    Calls Tryz.prog 64 #[.int .i64 n] w fun e w' => e = .returned (.string ⟨(Lib.itoa n).toArray⟩) ∧ Below w.heap.size w w' :=
  (Tryz.strconv_Itoa n h0 h1 w htab.here).mono fun _ _ ⟨he, k, os, hw⟩ => ⟨he, by subst hw; exact below_grow w k os⟩

theorem tab_drew {B : Nat} {w : World} {name : String} {k : IntKind} {zs : List Int} (h : Lib.TabBelow Tryz.prog B w name k zs) : Lib.TabBelow Tryz.prog B w.drew name k zs := fun w'' hb => h w'' ⟨hb.os, hb.tape, hb.output, hb.size, hb.block⟩
theorem below_undrew {B : Nat} {w w' : World} (hb : Below B w.drew w') : Below B w w' := ⟨hb.os, hb.tape, hb.output, hb.size, hb.block⟩

/-- A text added. -/
theorem add_wrote {B b fb ab wb : Nat} {w : World} {l : List UInt8} (env : WEnv B b fb ab wb w) (hh : Holds B b l w) (s : ByteArray) (hlen : l.length + s.size ≤ 131072) :
    Calls Tryz.prog 59 #[.string s, .pointer (some ⟨fb, 0, none⟩), .pointer (some ⟨b, 0, none⟩)] w fun e w' => e = .returned (.tuple #[]) ∧ Wrote B b (l ++ s.data.toList) w w' :=
  (add_any B b fb l s w hh env.hB env.fits hlen).mono fun _ _ ⟨he, h1, h2, h3⟩ => ⟨he, h1, h2, h3⟩

set_option maxHeartbeats 1000000 in
set_option maxRecDepth 100000 in
theorem write_num {B b fb ab wb : Nat} {w : World} {l : List UInt8} (env : WEnv B b fb ab wb w) (hh : Holds B b l w) (n : Int) (h0 : -9223372036854775808 ≤ n) (h1 : n ≤ 9223372036854775807) (hlen : l.length + (enc (.num n)).length ≤ 131072) :
    Calls Tryz.prog 62 #[numV n, .pointer (some ⟨ab, 0, none⟩), .pointer (some ⟨wb, 0, none⟩)] w fun e w' => e = .returned (.tuple #[]) ∧ Wrote B b (l ++ enc (.num n)) w w' := by
  rw [enc] at hlen ⊢
  simp only [List.length_cons, List.length_append, List.length_nil] at hlen
  have hla := lt_of_heap env.add
  have hlw := lt_of_heap env.wr
  have hca := cell_of_heap env.add
  have HE := Lib.hid (env.alloc hh (.cells #[.int .i64 1, .int .i64 n, .string ⟨#[]⟩, .slice none 0 0] 60))
  have HH : Hid (Holds B b l (w.alloc (.cells #[.int .i64 1, .int .i64 n, .string ⟨#[]⟩, .slice none 0 0] 60))) := Lib.hid (Lib.IsBuilderF.alloc hh _)
  have HB := Lib.hid env.hB
  clear env hh
  go_enter Tryz.func62, Tryz.ntmps62
  go_wp2_with fail
  have hW0 : (w.alloc (.cells #[.int .i64 1, .int .i64 n, .string ⟨#[]⟩, .slice none 0 0] 60)).heap[w.heap.size]? = some (.cells #[.int .i64 1, .int .i64 n, .string ⟨#[]⟩, .slice none 0 0] 60 (0, 0)) := heap_alloc_new _ _
  refine (add_wrote HE.out HH.out ⟨#[105]⟩ (by simp [ByteArray.size]; omega)).mono ?_
  rintro e w1 ⟨rfl, hw1⟩
  have env1 := HE.out.after HH.out hw1
  have hb1 := others_at hw1.others hW0 (fun e => HH.out.ne hW0 (by decide) (by injection e)) (by decide)
  have hca1 := cell_of_heap env1.add
  have hcn1 : w1.cell? ⟨w.heap.size, 1, none⟩ = some (.int .i64 n) := by simp [World.cell?, hb1]
  have E1 := Lib.hid env1
  have H1 := Lib.hid hw1
  have B1 := Lib.hid hb1
  have HF : Hid (Calls Tryz.prog 63 #[.int .i64 n, .int .i64 10] w1.drew fun e w' => e = .returned (.string ⟨(Lib.itoa n).toArray⟩) ∧ w'.cell? ⟨ab, 0, none⟩ = some (addFn fb b) ∧ w'.cell? ⟨w.heap.size, 1, none⟩ = some (.int .i64 n) ∧ Below w1.heap.size w1 w') :=
    Lib.hid ((fmt_any n h0 h1 B w1.drew env1.hB (tab_drew env1.tab)).mono fun _ w' ⟨he, hb⟩ => ⟨he, (World.cell?_of_block (hb.block ab (lt_of_heap env1.add))).trans hca1, (World.cell?_of_block (hb.block w.heap.size (lt_of_heap hb1))).trans hcn1, below_undrew hb⟩)
  have HA : Hid (∀ w2, Below w1.heap.size w1 w2 → Calls Tryz.prog 59 #[.string ⟨(Lib.itoa n).toArray⟩, .pointer (some ⟨fb, 0, none⟩), .pointer (some ⟨b, 0, none⟩)] w2 fun e w' => e = .returned (.tuple #[]) ∧ w'.cell? ⟨ab, 0, none⟩ = some (addFn fb b) ∧ w'.cell? ⟨w.heap.size, 1, none⟩ = some (.int .i64 n) ∧ Wrote B b ((l ++ [105]) ++ Lib.itoa n) w1 w' ∧ WEnv B b fb ab wb w') :=
    Lib.hid (fun w2 hb2 => by
      have e2 := env1.kept hw1.holds (hb2.mono env1.hB) (below_others hb2)
      have h2 := holds_below hw1.holds hb2
      refine (add_wrote e2 h2 ⟨(Lib.itoa n).toArray⟩ (by simp [ByteArray.size]; omega)).mono fun _ w' ⟨he, hw⟩ => ?_
      have e3 := e2.after h2 hw
      have hb3 := others_at hw.others ((hb2.block _ (lt_of_heap hb1)).trans hb1) (fun e => h2.ne ((hb2.block _ (lt_of_heap hb1)).trans hb1) (by decide) (by injection e)) (by decide)
      exact ⟨he, cell_of_heap e3.add, by simp [World.cell?, hb3], ⟨by simpa using hw.holds, (hb2.mono env1.hB).trans hw.below, (below_others hb2).trans hw.others⟩, e3⟩)
  clear env1 hw1 hb1 hW0
  go_wp2
  go_region_held3 (fun w' => w'.cell? ⟨ab, 0, none⟩ = some (addFn fb b) ∧ w'.cell? ⟨w.heap.size, 1, none⟩ = some (.int .i64 n)) (first | go_keep | (constructor <;> assumption))
    (first | (go_at_call 63; refine HF.out.mono ?_; rintro e w2 ⟨rfl, hA2, hN2, hb2⟩) | (go_at_call 59; refine (HA.out _ (by assumption)).mono ?_; rintro e w3 ⟨rfl, hA3, hN3, hw3, he3⟩))
  have H3 := Lib.hid hw3
  have E3 := Lib.hid he3
  clear hw3 he3
  go_wp2_with fail
  refine (add_wrote E3.out H3.out.holds ⟨#[101]⟩ (by simp [ByteArray.size]; omega)).mono ?_
  rintro e w4 ⟨rfl, hw4⟩
  have hend : Hid (Wrote B b (l ++ 105 :: (Lib.itoa n ++ [101])) w w4) := Lib.hid (by
    have h := (H1.out.trans H3.out).trans hw4
    exact ⟨by simpa using h.holds, ((Below.refl _ _).alloc HB.out _).trans h.below, ((Lib.OthersKept.refl _ _ _).alloc _).trans h.others⟩)
  clear hw4
  go_wp2
  go_end0
  exact ⟨rfl, hend.out⟩

set_option maxHeartbeats 1000000 in
set_option maxRecDepth 100000 in
theorem write_textB {B b fb ab wb : Nat} {w : World} {l : List UInt8} (env : WEnv B b fb ab wb w) (hh : Holds B b l w) (bb : ByteArray) (hlen : l.length + ((Lib.itoa bb.size).length + 1 + bb.size) ≤ 131072) :
    Calls Tryz.prog 62 #[textV bb, .pointer (some ⟨ab, 0, none⟩), .pointer (some ⟨wb, 0, none⟩)] w fun e w' => e = .returned (.tuple #[]) ∧ Wrote B b (((l ++ Lib.itoa bb.size) ++ [58]) ++ bb.data.toList) w w' := by
  have hla := lt_of_heap env.add
  have hca := cell_of_heap env.add
  have env0 := env.alloc hh (.cells #[.int .i64 2, .int .i64 0, .string bb, .slice none 0 0] 60)
  have hh0 : Holds B b l (w.alloc (.cells #[.int .i64 2, .int .i64 0, .string bb, .slice none 0 0] 60)) := Lib.IsBuilderF.alloc hh _
  have hb0 : (w.alloc (.cells #[.int .i64 2, .int .i64 0, .string bb, .slice none 0 0] 60)).heap[w.heap.size]? = some (.cells #[.int .i64 2, .int .i64 0, .string bb, .slice none 0 0] 60 (0, 0)) := heap_alloc_new _ _
  have HB0 : Hid (Below B w (w.alloc (.cells #[.int .i64 2, .int .i64 0, .string bb, .slice none 0 0] 60))) := Lib.hid ((Below.refl _ _).alloc env.hB _)
  have HO0 : Hid (Lib.OthersKept 5 (some b) w (w.alloc (.cells #[.int .i64 2, .int .i64 0, .string bb, .slice none 0 0] 60))) := Lib.hid ((Lib.OthersKept.refl _ _ _).alloc _)
  go_enter Tryz.func62, Tryz.ntmps62
  go_wp2
  generalize hw0 : w.alloc (.cells #[.int .i64 2, .int .i64 0, .string bb, .slice none 0 0] 60) = w0 at *
  clear hw0 hca
  have hca0 := cell_of_heap env0.add
  have hcs0 : w0.cell? ⟨w.heap.size, 2, none⟩ = some (.string bb) := by simp [World.cell?, hb0]
  have HF : Hid (Calls Tryz.prog 64 #[.int .i64 bb.size] w0.drew fun e w' => e = .returned (.string ⟨(Lib.itoa bb.size).toArray⟩) ∧ w'.cell? ⟨ab, 0, none⟩ = some (addFn fb b) ∧ w'.cell? ⟨w.heap.size, 2, none⟩ = some (.string bb) ∧ Below w0.heap.size w0 w') :=
    Lib.hid ((itoa_any bb.size (by omega) (by omega) B w0.drew env0.hB (tab_drew env0.tab)).mono fun _ w' ⟨he, hb⟩ => ⟨he, (World.cell?_of_block (hb.block ab (lt_of_heap env0.add))).trans hca0, (World.cell?_of_block (hb.block w.heap.size (lt_of_heap hb0))).trans hcs0, below_undrew hb⟩)
  have HA : Hid (∀ w2, Below w0.heap.size w0 w2 → Calls Tryz.prog 59 #[.string ⟨(Lib.itoa bb.size).toArray⟩, .pointer (some ⟨fb, 0, none⟩), .pointer (some ⟨b, 0, none⟩)] w2 fun e w' => e = .returned (.tuple #[]) ∧ w'.cell? ⟨ab, 0, none⟩ = some (addFn fb b) ∧ w'.cell? ⟨w.heap.size, 2, none⟩ = some (.string bb) ∧ Wrote B b (l ++ Lib.itoa bb.size) w0 w' ∧ WEnv B b fb ab wb w' ∧ w'.heap[w.heap.size]? = some (.cells #[.int .i64 2, .int .i64 0, .string bb, .slice none 0 0] 60 (0, 0))) :=
    Lib.hid (fun w2 hb2 => by
      have e2 := env0.kept hh0 (hb2.mono env0.hB) (below_others hb2)
      have h2 := holds_below hh0 hb2
      refine (add_wrote e2 h2 ⟨(Lib.itoa bb.size).toArray⟩ (by show l.length + (Lib.itoa bb.size).toArray.size ≤ _; rw [List.size_toArray]; omega)).mono fun _ w' ⟨he, hw⟩ => ?_
      have e3 := e2.after h2 hw
      have hb3 := others_at hw.others ((hb2.block _ (lt_of_heap hb0)).trans hb0) (fun e => h2.ne ((hb2.block _ (lt_of_heap hb0)).trans hb0) (by decide) (by injection e)) (by decide)
      exact ⟨he, cell_of_heap e3.add, by simp [World.cell?, hb3], ⟨by simpa using hw.holds, (hb2.mono env0.hB).trans hw.below, (below_others hb2).trans hw.others⟩, e3, hb3⟩)
  clear env0 hh0 hb0 env hh
  go_region_held3 (fun w' => w'.cell? ⟨ab, 0, none⟩ = some (addFn fb b) ∧ w'.cell? ⟨w.heap.size, 2, none⟩ = some (.string bb)) (first | go_keep | (constructor <;> assumption))
    (first | (go_at_call 64; refine HF.out.mono ?_; rintro e w2 ⟨rfl, hA2, hN2, hb2⟩) | (go_at_call 59; refine (HA.out _ (by assumption)).mono ?_; rintro e w3 ⟨rfl, hA3, hN3, hw3, he3, hb3⟩))
  have H3 := Lib.hid hw3
  have E3 := Lib.hid he3
  have B3 := Lib.hid hb3
  clear hw3 he3 hb3
  go_wp2_with fail
  refine (add_wrote E3.out H3.out.holds ⟨#[58]⟩ (by rw [List.length_append]; show _ + 1 ≤ _; omega)).mono ?_
  rintro e w4 ⟨rfl, hw4⟩
  have e4 := E3.out.after H3.out.holds hw4
  have hb4 := others_at hw4.others B3.out (fun e => H3.out.holds.ne B3.out (by decide) (by injection e)) (by decide)
  have hca4 := cell_of_heap e4.add
  have hcs4 : w4.cell? ⟨w.heap.size, 2, none⟩ = some (.string bb) := by simp [World.cell?, hb4]
  have E4 := Lib.hid e4
  have H4 := Lib.hid hw4
  clear e4 hb4 hw4
  go_wp2_with fail
  refine (add_wrote E4.out H4.out.holds bb (by rw [List.length_append, List.length_append]; show _ + 1 + _ ≤ _; omega)).mono ?_
  rintro e w5 ⟨rfl, hw5⟩
  have hend : Hid (Wrote B b (((l ++ Lib.itoa bb.size) ++ [58]) ++ bb.data.toList) w w5) := Lib.hid (by
    have h := (H3.out.trans H4.out).trans hw5
    exact ⟨h.holds, HB0.out.trans h.below, HO0.out.trans h.others⟩)
  clear hw5
  go_wp2
  go_end0
  exact ⟨rfl, hend.out⟩

theorem write_text {B b fb ab wb : Nat} {w : World} {l : List UInt8} (env : WEnv B b fb ab wb w) (hh : Holds B b l w) (bs : List UInt8) (hlen : l.length + (enc (.text bs)).length ≤ 131072) :
    Calls Tryz.prog 62 #[textV ⟨bs.toArray⟩, .pointer (some ⟨ab, 0, none⟩), .pointer (some ⟨wb, 0, none⟩)] w fun e w' => e = .returned (.tuple #[]) ∧ Wrote B b (l ++ enc (.text bs)) w w' := by
  have hsz : (⟨bs.toArray⟩ : ByteArray).size = bs.length := by simp [ByteArray.size]
  rw [enc] at hlen ⊢
  simp only [List.length_cons, List.length_append] at hlen
  have := write_textB env hh ⟨bs.toArray⟩ (by rw [hsz]; omega)
  rw [hsz] at this
  refine this.mono fun _ _ ⟨he, hw⟩ => ⟨he, ?_⟩
  simpa using hw

end Go.Proofs.YtdnedbcmgkilaaaGreatDoor.Co

end

/- Package code's Put: the closure that writes a value, at a list; and so at every value. -/
section

namespace Go.Proofs.YtdnedbcmgkilaaaGreatDoor.Co
open Go.RowKit

/-- The rows of values of w stand in w' as they stood. -/
def K24 (w w' : World) : Prop := ∀ (g : Nat) (cur : Array Value), w.heap[g]? = some (.cells cur 60 (0, 0)) → w'.heap[g]? = some (.cells cur 60 (0, 0))
def S24 (w : World) (g : Nat) : Prop := ∃ cur, w.heap[g]? = some (.cells cur 60 (0, 0))

theorem K24.refl (w : World) : K24 w w := fun _ _ h => h
theorem K24.trans {a b c : World} (h : K24 a b) (k : K24 b c) : K24 a c := fun g cur e => k g cur (h g cur e)
theorem K24.alloc {a w : World} (h : K24 a w) (o : Obj) : K24 a (w.alloc o) := fun g cur e => (Below.heap_alloc _ _ _ (lt_of_heap (h g cur e))).trans (h g cur e)
theorem K24.of_others {B b : Nat} {l : List UInt8} {w w' : World} (hh : Holds B b l w) (h : Lib.OthersKept 5 (some b) w w') : K24 w w' :=
  fun _ _ e => others_at h e (fun e' => hh.ne e (by decide) (by injection e')) (by decide)

theorem own24 {w : World} {base n : Nat} {L : Value} {xs : List Value} (h : w.ownsRow base 60 4 L n xs) : ∀ g, L.ownBlock = some g → S24 w g := by
  intro g hg
  rcases h.2 with ⟨rfl, -⟩ | ⟨g', cap, cur, rfl, -, hh, -⟩
  · cases hg
  · have : g' = g := by simpa [Value.ownBlock] using hg
    subst this
    exact ⟨cur, hh⟩
mutual
theorem Rep.s24 {w : World} {S : Nat → Prop} : ∀ (t : Tree) (v : Value), Rep w S t v → Rep w (S24 w) t v
  | .num n, v, h => by rw [Rep] at h ⊢; exact h
  | .text bs, v, h => by rw [Rep] at h ⊢; exact h
  | .list ts, v, h => by
    rw [Rep] at h ⊢
    obtain ⟨L, xs, hv, ho, -, hr⟩ := h
    exact ⟨L, xs, hv, ho, own24 ho, RepAll.s24 ts xs hr⟩
theorem RepAll.s24 {w : World} {S : Nat → Prop} : ∀ (ts : List Tree) (xs : List Value), RepAll w S ts xs → RepAll w (S24 w) ts xs
  | [], xs, h => by rw [RepAll] at h ⊢; exact h
  | t :: ts, xs, h => by
    rw [RepAll] at h ⊢
    obtain ⟨c0, c1, c2, c3, rest, hx, ht, hr⟩ := h
    exact ⟨c0, c1, c2, c3, rest, hx, Rep.s24 t _ ht, RepAll.s24 ts rest hr⟩
end
theorem Rep.k24 {w w' : World} {t : Tree} {v : Value} (h : Rep w (S24 w) t v) (hk : K24 w w') : Rep w' (S24 w') t v :=
  Rep.keep (fun g ⟨cur, e⟩ => (hk g cur e).trans e.symm) (fun g ⟨cur, e⟩ => ⟨cur, hk g cur e⟩) t v h

/-- The k-th element of a row. -/
theorem RepAll.get {w : World} {S : Nat → Prop} : ∀ (ts : List Tree) (xs : List Value) (k : Nat) (t : Tree), RepAll w S ts xs → ts[k]? = some t →
    ∃ c0 c1 c2 c3, xs[k * 4]? = some c0 ∧ xs[k * 4 + 1]? = some c1 ∧ xs[k * 4 + 2]? = some c2 ∧ xs[k * 4 + 3]? = some c3 ∧ Rep w S t (.agg #[c0, c1, c2, c3])
  | [], xs, k, t, _, hk => by cases hk
  | u :: ts, xs, 0, t, h, hk => by
    rw [RepAll] at h
    obtain ⟨c0, c1, c2, c3, rest, rfl, ht, -⟩ := h
    obtain rfl : u = t := by simpa using hk
    exact ⟨c0, c1, c2, c3, rfl, rfl, rfl, rfl, ht⟩
  | u :: ts, xs, k + 1, t, h, hk => by
    rw [RepAll] at h
    obtain ⟨c0, c1, c2, c3, rest, rfl, -, hr⟩ := h
    obtain ⟨d0, d1, d2, d3, e0, e1, e2, e3, hd⟩ := RepAll.get ts rest k t hr (by simpa using hk)
    refine ⟨d0, d1, d2, d3, ?_, ?_, ?_, ?_, hd⟩
    · rw [show (k + 1) * 4 = k * 4 + 4 from by omega]; exact e0
    · rw [show (k + 1) * 4 + 1 = (k * 4 + 1) + 4 from by omega]; exact e1
    · rw [show (k + 1) * 4 + 2 = (k * 4 + 2) + 4 from by omega]; exact e2
    · rw [show (k + 1) * 4 + 3 = (k * 4 + 3) + 4 from by omega]; exact e3

/-- .. and its cells in memory. -/
theorem row_cell {w : World} {base g n cap : Nat} {xs : List Value} (h : w.ownsRow base 60 4 (.slice (some ⟨g, 0, none⟩) n cap) n xs) {j : Nat} {u : Value} (hu : xs[j]? = some u) : w.cell? ⟨g, j, none⟩ = some u := by
  rcases h.2 with ⟨h0, -⟩ | ⟨g', cap', cur, hv, -, hh, -, -, -, ht⟩
  · cases h0
  · injection hv with hv _ _
    injection hv with hv
    injection hv with hv
    subst hv
    rw [← ht] at hu
    rw [List.getElem?_take] at hu
    split at hu
    · simp [World.cell?, hh]
      simpa using hu
    · cases hu

def WriteOK (t : Tree) : Prop := ∀ (B b fb ab wb : Nat) (w : World) (l : List UInt8) (v : Value), WEnv B b fb ab wb w → Holds B b l w → Rep w (S24 w) t v → l.length + (enc t).length ≤ 131072 →
  Calls Tryz.prog 62 #[v, .pointer (some ⟨ab, 0, none⟩), .pointer (some ⟨wb, 0, none⟩)] w fun e w' => e = .returned (.tuple #[]) ∧ Wrote B b (l ++ enc t) w w'

theorem encL_append : ∀ (a b : List Tree), encL (a ++ b) = encL a ++ encL b
  | [], b => by rw [encL]; rfl
  | t :: a, b => by
    show encL (t :: (a ++ b)) = _
    rw [encL, encL, encL_append a b, List.append_assoc]
theorem encL_take {ts : List Tree} {k : Nat} {t : Tree} (h : ts[k]? = some t) : encL (ts.take (k + 1)) = encL (ts.take k) ++ enc t := by
  obtain ⟨hk, rfl⟩ := List.getElem?_eq_some_iff.1 h
  rw [List.take_succ_eq_append_getElem hk, encL_append, encL, encL, List.append_nil]
theorem encL_le (ts : List Tree) (k : Nat) : (encL (ts.take k)).length ≤ (encL ts).length := by
  have := congrArg List.length (encL_append (ts.take k) (ts.drop k))
  rw [List.take_append_drop, List.length_append] at this
  omega

theorem enc_pos (t : Tree) : 1 ≤ (enc t).length := by
  cases t <;> rw [enc] <;> simp <;> omega
theorem encL_len : ∀ ts : List Tree, ts.length ≤ (encL ts).length
  | [] => by simp
  | t :: ts => by
    rw [encL, List.length_append, List.length_cons]
    have := enc_pos t
    have := encL_len ts
    omega

set_option maxHeartbeats 1000000 in
set_option maxRecDepth 100000 in
theorem write_list {ts : List Tree} (hts : ∀ t, t ∈ ts → WriteOK t) : WriteOK (.list ts) := by
  intro B b fb ab wb w l v env hh hrep hlen
  rw [enc] at hlen ⊢
  simp only [List.length_cons, List.length_append, List.length_nil] at hlen
  have hlenb : ts.length ≤ 131072 := by have := encL_len ts; omega
  rw [Rep] at hrep
  obtain ⟨L, xs, rfl, hown, -, hall⟩ := hrep
  obtain ⟨a, n, cap, rfl, hn⟩ : ∃ a n cap, L = .slice a n cap ∧ n = ts.length := by
    rcases hown.2 with ⟨rfl, h0⟩ | ⟨g, cap, cur, rfl, -⟩
    · exact ⟨_, _, _, rfl, h0.symm⟩
    · exact ⟨_, _, _, rfl, rfl⟩
  subst hn
  have hla := lt_of_heap env.add
  have hca := cell_of_heap env.add
  have env0 := env.alloc hh (.cells #[.int .i64 3, .int .i64 0, .string ⟨#[]⟩, .slice a ts.length cap] 60)
  have hh0 : Holds B b l (w.alloc (.cells #[.int .i64 3, .int .i64 0, .string ⟨#[]⟩, .slice a ts.length cap] 60)) := Lib.IsBuilderF.alloc hh _
  have hb0 : (w.alloc (.cells #[.int .i64 3, .int .i64 0, .string ⟨#[]⟩, .slice a ts.length cap] 60)).heap[w.heap.size]? = some (.cells #[.int .i64 3, .int .i64 0, .string ⟨#[]⟩, .slice a ts.length cap] 60 (0, 0)) := heap_alloc_new _ _
  have HB0 : Hid (Below B w (w.alloc (.cells #[.int .i64 3, .int .i64 0, .string ⟨#[]⟩, .slice a ts.length cap] 60))) := Lib.hid ((Below.refl _ _).alloc env.hB _)
  have HO0 : Hid (Lib.OthersKept 5 (some b) w (w.alloc (.cells #[.int .i64 3, .int .i64 0, .string ⟨#[]⟩, .slice a ts.length cap] 60))) := Lib.hid ((Lib.OthersKept.refl _ _ _).alloc _)
  have HT := Lib.hid hts
  have HW := Lib.hid hown
  have HA := Lib.hid hall
  have HH := Lib.hid hh
  clear hts hown hall hh env
  go_enter Tryz.func62, Tryz.ntmps62
  go_wp2_with fail
  generalize hw0 : w.alloc (.cells #[.int .i64 3, .int .i64 0, .string ⟨#[]⟩, .slice a ts.length cap] 60) = w0 at *
  clear hw0 hca
  refine (add_wrote env0 hh0 ⟨#[108]⟩ (by show _ + 1 ≤ _; omega)).mono ?_
  rintro e w1 ⟨rfl, hw1⟩
  have env1 := env0.after hh0 hw1
  have hb1 := others_at hw1.others hb0 (fun e => hh0.ne hb0 (by decide) (by injection e)) (by decide)
  have hcL : w1.cell? ⟨w.heap.size, 3, none⟩ = some (.slice a ts.length cap) := by simp [World.cell?, hb1]
  have H1 := Lib.hid (show Wrote B b (l ++ [108]) w w1 from ⟨hw1.holds, HB0.out.trans hw1.below, HO0.out.trans hw1.others⟩)
  have E1 := Lib.hid env1
  have HLB : Hid (w1.heap[ab]? = some (.cells #[addFn fb b] 89 (0, 0))) := Lib.hid env1.add
  clear hb0 hh0 env0 hw1 env1 hb1
  go_wp2
  go_loopw [40] (fun i wr => ∃ k : Nat, k ≤ ts.length ∧ i = .int .i64 k ∧ Hid (WEnv B b fb ab wb wr) ∧ Hid (Wrote B b ((l ++ [108]) ++ encL (ts.take k)) w wr)) (fun i _ => ts.length - (intOf i).toNat)
  case atStart => exact ⟨0, Nat.zero_le _, rfl, E1, Lib.hid (by rw [List.take_zero, encL, List.append_nil]; exact H1.out)⟩
  case round =>
    obtain ⟨k, hk, rfl, E, H⟩ := hrel
    by_cases hlt : k < ts.length
    · obtain ⟨c0, c1, c2, c3, x0, x1, x2, x3, hrep⟩ := RepAll.get ts xs k ts[k] HA.out (List.getElem?_eq_getElem hlt)
      obtain ⟨g, rfl⟩ : ∃ g, a = some ⟨g, 0, none⟩ := by
        rcases HW.out.2 with ⟨-, h0⟩ | ⟨g, cap, cur, hv, -⟩
        · omega
        · injection hv with hv; exact ⟨g, hv⟩
      have hk24 : K24 w wr := K24.of_others HH.out H.out.others
      have hown := HW.out
      have hownr : wr.ownsRow 0 60 4 (.slice (some ⟨g, 0, none⟩) ts.length cap) ts.length xs := ownsRow_keep hown (fun g' hg' => by obtain ⟨cur, hc⟩ := own24 hown g' hg'; exact (hk24 g' cur hc).trans hc.symm)
      have hcell0 : wr.cell? ⟨g, k * 4, none⟩ = some c0 := row_cell hownr x0
      have hcell1 : wr.cell? ⟨g, k * 4 + 1, none⟩ = some c1 := row_cell hownr x1
      have hcell2 : wr.cell? ⟨g, k * 4 + 2, none⟩ = some c2 := row_cell hownr x2
      have hcell3 : wr.cell? ⟨g, k * 4 + 3, none⟩ = some c3 := row_cell hownr x3
      have hrepr := hrep.k24 hk24
      obtain ⟨kd, n0, b0, a0, len0, cap0, hcv⟩ := Rep.cells _ _ hrep
      injection hcv with hcv
      injection hcv with hcv
      injection hcv with h0 hcv
      injection hcv with h1 hcv
      injection hcv with h2 hcv
      injection hcv with h3 hcv
      subst h0 h1 h2 h3
      have hcw : wr.cell? ⟨wb, 0, none⟩ = some (writeFn ab wb) := cell_of_heap E.out.wr
      have hltw := lt_of_heap E.out.wr
      have HRr := Lib.hid hrepr
      clear x0 x1 x2 x3 hrep hrepr hcv hk24 hown hownr
      go_wp2_with fail
      have hle := encL_le ts (k + 1)
      have htk := encL_take (ts := ts) (k := k) (List.getElem?_eq_getElem hlt)
      have hfit : ((l ++ [108]) ++ encL (ts.take k)).length + (enc ts[k]).length ≤ 131072 := by
        rw [htk, List.length_append] at hle
        simp only [List.length_append, List.length_cons, List.length_nil]
        omega
      refine (HT.out ts[k] (List.getElem_mem hlt) B b fb ab wb _ _ _ (E.out.alloc H.out.holds _) (Lib.IsBuilderF.alloc H.out.holds _) (HRr.out.k24 ((K24.refl _).alloc _)) hfit).mono ?_
      rintro e w2 ⟨rfl, hw2⟩
      have hN : Hid (WEnv B b fb ab wb w2 ∧ Wrote B b ((l ++ [108]) ++ encL (ts.take (k + 1))) w w2) := Lib.hid (by
        refine ⟨(E.out.alloc H.out.holds _).after (Lib.IsBuilderF.alloc H.out.holds _) hw2, ?_, ?_, ?_⟩
        · rw [htk, ← List.append_assoc]; exact hw2.holds
        · exact (H.out.below.alloc E.out.hB _).trans hw2.below
        · exact (H.out.others.alloc _).trans hw2.others)
      clear hw2 hle htk hfit
      go_wp2
      go_roundw
      case rel => exact ⟨k + 1, by omega, by go_num, Lib.hid hN.out.1, Lib.hid hN.out.2⟩
      case measure => simp [intOf]; omega
    · have hca : wr.cell? ⟨ab, 0, none⟩ = some (addFn fb b) := cell_of_heap E.out.add
      have hkn : ts.take k = ts := List.take_of_length_le (by omega)
      have HN := Lib.hid hkn
      clear hkn
      go_wp2_with fail
      refine (add_wrote E.out H.out.holds ⟨#[101]⟩ (by rw [HN.out]; simp only [List.length_append, List.length_cons, List.length_nil]; show _ + 1 ≤ _; omega)).mono ?_
      rintro e w2 ⟨rfl, hw2⟩
      have hend : Hid (Wrote B b (l ++ 108 :: (encL ts ++ [101])) w w2) := Lib.hid (by
        have h := H.out.trans hw2
        rw [HN.out] at h
        simpa using h)
      clear hw2
      go_wp2
      go_end0
      exact ⟨rfl, hend.out⟩

mutual
theorem write_ok : ∀ t : Tree, Ok t → WriteOK t
  | .num n, h => fun B b fb ab wb w l v env hh hrep hlen => by
    rw [Ok] at h; rw [Rep] at hrep; subst hrep
    exact write_num env hh n h.1 h.2 hlen
  | .text bs, _ => fun B b fb ab wb w l v env hh hrep hlen => by
    rw [Rep] at hrep; subst hrep
    exact write_text env hh bs hlen
  | .list ts, h => write_list (write_okL ts (by rw [Ok] at h; exact h))
theorem write_okL : ∀ ts : List Tree, OkL ts → ∀ t, t ∈ ts → WriteOK t
  | [], _, t, ht => by cases ht
  | u :: ts, h, t, ht => by
    rw [OkL] at h
    rcases List.mem_cons.1 ht with h' | h'
    · rw [h']; exact write_ok u h.1
    · exact write_okL ts h.2 t h'
end

end Go.Proofs.YtdnedbcmgkilaaaGreatDoor.Co

end

/- Package code's Right, at a value that a reading made. -/
section

namespace Go.Proofs.YtdnedbcmgkilaaaGreatDoor.Co
open Go.RowKit

mutual
def nodes : Tree → Nat
  | .num _ => 1
  | .text _ => 1
  | .list ts => 1 + nodesL ts
def nodesL : List Tree → Nat
  | [] => 0
  | t :: ts => nodes t + nodesL ts
end
mutual
def vDeep : Nat → Nat → Tree → Nat
  | d, lev, .num _ => max d lev
  | d, lev, .text _ => max d lev
  | d, lev, .list ts => vDeepL (max d lev) (lev + 1) ts
def vDeepL : Nat → Nat → List Tree → Nat
  | d, _, [] => d
  | d, lev, t :: ts => vDeepL (vDeep d lev t) lev ts
end
mutual
/-- No value lies deeper than level 30. -/
def Lev : Nat → Tree → Prop
  | lev, .num _ => lev ≤ 30
  | lev, .text _ => lev ≤ 30
  | lev, .list ts => lev ≤ 30 ∧ LevL (lev + 1) ts
def LevL : Nat → List Tree → Prop
  | _, [] => True
  | lev, t :: ts => Lev lev t ∧ LevL lev ts
end

abbrev visitFn (cb db fb vb : Nat) : Value := .func (.func 96) #[] #[.pointer (some ⟨cb, 0, none⟩), .pointer (some ⟨db, 0, none⟩), .pointer (some ⟨fb, 0, none⟩), .pointer (some ⟨vb, 0, none⟩)]

structure VEnv (cb db fb vb : Nat) (count deep : Nat) (w : World) : Prop where
  cnt : w.heap[cb]? = some (.cells #[.int .i64 count] 3 (0, 0))
  dep : w.heap[db]? = some (.cells #[.int .i64 deep] 3 (0, 0))
  frm : w.heap[fb]? = some (.cells #[.bool true] 4 (0, 0))
  vis : w.heap[vb]? = some (.cells #[visitFn cb db fb vb] 128 (0, 0))
  ne : cb ≠ db

theorem wellFormed_any {w : World} {S : Nat → Prop} (t : Tree) (v : Value) (h : Rep w S t v) (W : World) : Calls Tryz.prog 97 #[v] W fun e w' => e = .returned (.bool true) ∧ Below W.heap.size W w' := by
  cases t with
  | num n =>
    rw [Rep] at h; subst h
    go_enter Tryz.func97, Tryz.ntmps97
    go_wp2
    go_ret
    exact ⟨rfl, below1 _ _⟩
  | text bs =>
    rw [Rep] at h; subst h
    go_enter Tryz.func97, Tryz.ntmps97
    go_wp2
    go_ret
    exact ⟨rfl, below1 _ _⟩
  | list ts =>
    rw [Rep] at h
    obtain ⟨L, xs, rfl, ho, -, -⟩ := h
    obtain ⟨a, n, cap, rfl⟩ : ∃ a n cap, L = .slice a n cap := by
      rcases ho.2 with ⟨rfl, -⟩ | ⟨g, cap, cur, rfl, -⟩ <;> exact ⟨_, _, _, rfl⟩
    clear ho
    go_enter Tryz.func97, Tryz.ntmps97
    go_wp2
    go_ret
    exact ⟨rfl, below1 _ _⟩

def VisitOK (t : Tree) : Prop := ∀ (cb db fb vb count deep level : Nat) (w : World) (v : Value), VEnv cb db fb vb count deep w → Rep w (S24 w) t v → Lev level t → count + nodes t ≤ 4000 → deep ≤ 30 →
  Calls Tryz.prog 96 #[v, .int .i64 level, .pointer (some ⟨cb, 0, none⟩), .pointer (some ⟨db, 0, none⟩), .pointer (some ⟨fb, 0, none⟩), .pointer (some ⟨vb, 0, none⟩)] w fun e w' =>
    e = .returned (.tuple #[]) ∧ VEnv cb db fb vb (count + nodes t) (vDeep deep level t) w' ∧ Fr (fun k => k = cb ∨ k = db) w w'

def kids : Tree → List Tree
  | .list ts => ts
  | _ => []
theorem nodes_kids (t : Tree) : nodes t = 1 + nodesL (kids t) := by cases t <;> rw [nodes] <;> simp [kids, nodesL]
theorem vDeep_kids (d lev : Nat) (t : Tree) : vDeep d lev t = vDeepL (max d lev) (lev + 1) (kids t) := by cases t <;> rw [vDeep] <;> simp [kids, vDeepL]
theorem lev_kids {lev : Nat} {t : Tree} (h : Lev lev t) : lev ≤ 30 ∧ LevL (lev + 1) (kids t) := by
  cases t <;> rw [Lev] at h
  · exact ⟨h, by simp [kids, LevL]⟩
  · exact ⟨h, by simp [kids, LevL]⟩
  · exact h
theorem rep_kids {w : World} {t : Tree} {v : Value} (h : Rep w (S24 w) t v) : ∃ (kd n0 : Int) (b0 : ByteArray) (a : Option Addr) (cap : Nat) (xs : List Value), v = .agg #[.int .i64 kd, .int .i64 n0, .string b0, .slice a (kids t).length cap] ∧
    w.ownsRow 0 60 4 (.slice a (kids t).length cap) (kids t).length xs ∧ RepAll w (S24 w) (kids t) xs := by
  cases t with
  | num n => rw [Rep] at h; exact ⟨_, _, _, _, _, [], h, World.ownsRow_nil _ _ _ _, by simp [kids, RepAll]⟩
  | text bs => rw [Rep] at h; exact ⟨_, _, _, _, _, [], h, World.ownsRow_nil _ _ _ _, by simp [kids, RepAll]⟩
  | list ts =>
    rw [Rep] at h
    obtain ⟨L, xs, rfl, ho, -, hr⟩ := h
    obtain ⟨a, n, cap, rfl, hn⟩ : ∃ a n cap, L = .slice a n cap ∧ n = ts.length := by
      rcases ho.2 with ⟨rfl, h0⟩ | ⟨g, cap, cur, rfl, -⟩
      · exact ⟨_, _, _, rfl, h0.symm⟩
      · exact ⟨_, _, _, rfl, rfl⟩
    subst hn
    exact ⟨_, _, _, a, cap, xs, rfl, ho, hr⟩

theorem nodesL_append : ∀ (a b : List Tree), nodesL (a ++ b) = nodesL a + nodesL b
  | [], b => by rw [nodesL]; simp
  | t :: a, b => by
    show nodesL (t :: (a ++ b)) = _
    rw [nodesL, nodesL, nodesL_append a b, Nat.add_assoc]
theorem vDeepL_append : ∀ (a b : List Tree) (d lev : Nat), vDeepL d lev (a ++ b) = vDeepL (vDeepL d lev a) lev b
  | [], b, d, lev => by rw [vDeepL]; simp
  | t :: a, b, d, lev => by
    show vDeepL d lev (t :: (a ++ b)) = _
    rw [vDeepL, vDeepL, vDeepL_append a b]
theorem take_get {ts : List Tree} {k : Nat} (h : k < ts.length) : ts.take (k + 1) = ts.take k ++ [ts[k]] := List.take_succ_eq_append_getElem h
theorem nodesL_le (ts : List Tree) (k : Nat) : nodesL (ts.take k) ≤ nodesL ts := by
  have := nodesL_append (ts.take k) (ts.drop k)
  rw [List.take_append_drop] at this
  omega
theorem nodes_pos (t : Tree) : 1 ≤ nodes t := by rw [nodes_kids]; omega
theorem nodesL_len : ∀ ts : List Tree, ts.length ≤ nodesL ts
  | [] => by simp
  | t :: ts => by
    rw [nodesL, List.length_cons]
    have := nodes_pos t
    have := nodesL_len ts
    omega
theorem levL_get : ∀ {ts : List Tree} {lev : Nat}, LevL lev ts → ∀ t, t ∈ ts → Lev lev t
  | [], _, _, t, ht => by cases ht
  | u :: ts, lev, h, t, ht => by
    rw [LevL] at h
    rcases List.mem_cons.1 ht with rfl | ht
    · exact h.1
    · exact levL_get h.2 t ht
mutual
theorem vDeep_le : ∀ (t : Tree) (d lev : Nat), Lev lev t → d ≤ 30 → vDeep d lev t ≤ 30
  | .num _, d, lev, h, hd => by rw [Lev] at h; rw [vDeep]; omega
  | .text _, d, lev, h, hd => by rw [Lev] at h; rw [vDeep]; omega
  | .list ts, d, lev, h, hd => by rw [Lev] at h; rw [vDeep]; exact vDeepL_le ts _ _ h.2 (by omega)
theorem vDeepL_le : ∀ (ts : List Tree) (d lev : Nat), LevL lev ts → d ≤ 30 → vDeepL d lev ts ≤ 30
  | [], d, lev, h, hd => by rw [vDeepL]; exact hd
  | t :: ts, d, lev, h, hd => by rw [LevL] at h; rw [vDeepL]; exact vDeepL_le ts _ _ h.2 (vDeep_le t d lev h.1 hd)
end
theorem levL_take : ∀ {ts : List Tree} {lev : Nat} (k : Nat), LevL lev ts → LevL lev (ts.take k)
  | _, _, 0, _ => by simp [LevL]
  | [], _, k + 1, _ => by simp [LevL]
  | t :: ts, lev, k + 1, h => by rw [LevL] at h; simp only [List.take_succ_cons]; rw [LevL]; exact ⟨h.1, levL_take k h.2⟩

theorem VEnv.alloc {cb db fb vb count deep : Nat} {w : World} (h : VEnv cb db fb vb count deep w) (o : Obj) : VEnv cb db fb vb count deep (w.alloc o) :=
  ⟨(Below.heap_alloc _ _ _ (lt_of_heap h.cnt)).trans h.cnt, (Below.heap_alloc _ _ _ (lt_of_heap h.dep)).trans h.dep, (Below.heap_alloc _ _ _ (lt_of_heap h.frm)).trans h.frm, (Below.heap_alloc _ _ _ (lt_of_heap h.vis)).trans h.vis, h.ne⟩
theorem VEnv.below {cb db fb vb count deep : Nat} {w w' : World} (h : VEnv cb db fb vb count deep w) (hb : Below w.heap.size w w') : VEnv cb db fb vb count deep w' :=
  ⟨(hb.block _ (lt_of_heap h.cnt)).trans h.cnt, (hb.block _ (lt_of_heap h.dep)).trans h.dep, (hb.block _ (lt_of_heap h.frm)).trans h.frm, (hb.block _ (lt_of_heap h.vis)).trans h.vis, h.ne⟩
theorem VEnv.same {cb db fb vb count deep : Nat} {w w' : World} (h : VEnv cb db fb vb count deep w) (hb : ∀ k : Nat, w'.heap[k]? = w.heap[k]?) : VEnv cb db fb vb count deep w' :=
  ⟨(hb _).trans h.cnt, (hb _).trans h.dep, (hb _).trans h.frm, (hb _).trans h.vis, h.ne⟩
theorem cells_ne {w : World} {k j : Nat} {cs ds : Array Value} {t u : TypeId} {f g : Nat × Nat} (h : w.heap[k]? = some (.cells cs t f)) (h' : w.heap[j]? = some (.cells ds u g)) (ht : t ≠ u) : k ≠ j := by
  rintro rfl
  rw [h] at h'
  injection h' with h'
  injection h' with _ h'
  exact ht h'
theorem VEnv.set {cb db fb vb count deep : Nat} {w : World} (h : VEnv cb db fb vb count deep w) (c' d' : Nat) : VEnv cb db fb vb c' d' ((w.setCell ⟨cb, 0, none⟩ (.int .i64 c')).setCell ⟨db, 0, none⟩ (.int .i64 d')) := by
  have n1 := cells_ne h.frm h.cnt (by decide)
  have n2 := cells_ne h.frm h.dep (by decide)
  have n3 := cells_ne h.vis h.cnt (by decide)
  have n4 := cells_ne h.vis h.dep (by decide)
  refine ⟨?_, ?_, ?_, ?_, h.ne⟩
  · rw [Below.heap_setCell _ _ _ _ h.ne]; exact heap_set h.cnt 0 _
  · exact heap_set ((Below.heap_setCell _ _ _ _ h.ne.symm).trans h.dep) 0 _
  · rw [Below.heap_setCell _ _ _ _ n2, Below.heap_setCell _ _ _ _ n1]; exact h.frm
  · rw [Below.heap_setCell _ _ _ _ n4, Below.heap_setCell _ _ _ _ n3]; exact h.vis

set_option maxHeartbeats 1600000 in
set_option maxRecDepth 100000 in
theorem visit_of {t : Tree} (ht : ∀ u, u ∈ kids t → VisitOK u) : VisitOK t := by
  intro cb db fb vb count deep level w v env hrep hlev hcn hd
  obtain ⟨hl30, hlevL⟩ := lev_kids hlev
  have HWF := Lib.hid (fun W => wellFormed_any t v hrep W)
  obtain ⟨kd, n0, b0, a, cap, xs, rfl, hown, hall⟩ := rep_kids hrep
  have hnk := nodes_kids t
  have hlen := nodesL_len (kids t)
  have hlenb : (kids t).length ≤ 4000 := by omega
  have hltc := lt_of_heap env.cnt
  have hltd := lt_of_heap env.dep
  have hltf := lt_of_heap env.frm
  have hltv := lt_of_heap env.vis
  have hcc := cell_of_heap env.cnt
  have hcd := cell_of_heap env.dep
  have hcf := cell_of_heap env.frm
  have hfc : w.frozen? ⟨cb, 0, none⟩ = false := frozen_of_heap env.cnt 0
  have hfd : w.frozen? ⟨db, 0, none⟩ = false := frozen_of_heap env.dep 0
  have hne := env.ne
  have hcd1 : (w.setCell ⟨cb, 0, none⟩ (.int .i64 ((count : Int) + 1))).cell? ⟨db, 0, none⟩ = some (.int .i64 deep) := (World.cell?_setCell_other w _ _ _ (fun e => by injection e; omega)).trans hcd
  have env2 : VEnv cb db fb vb (count + 1) (max deep level) ((w.setCell ⟨cb, 0, none⟩ (.int .i64 ((count : Int) + 1))).setCell ⟨db, 0, none⟩ (.int .i64 (max (deep : Int) (level : Int)))) := by
    have := env.set (count + 1) (max deep level)
    rw [show ((max deep level : Nat) : Int) = max (deep : Int) (level : Int) from by omega] at this
    exact this
  have hfr2 : Fr (fun k => k = cb ∨ k = db) w ((w.setCell ⟨cb, 0, none⟩ (.int .i64 ((count : Int) + 1))).setCell ⟨db, 0, none⟩ (.int .i64 (max (deep : Int) (level : Int)))) :=
    ((Fr.refl _ w).setCell (p := ⟨cb, 0, none⟩) (.inr (.inl rfl)) _).setCell (p := ⟨db, 0, none⟩) (.inr (.inr rfl)) _
  have hk2 : K24 w ((w.setCell ⟨cb, 0, none⟩ (.int .i64 ((count : Int) + 1))).setCell ⟨db, 0, none⟩ (.int .i64 (max (deep : Int) (level : Int)))) := fun g cur e => by
    rw [Below.heap_setCell _ _ _ _ (cells_ne e env.dep (by decide)), Below.heap_setCell _ _ _ _ (cells_ne e env.cnt (by decide))]; exact e
  have hcf2 := cell_of_heap env2.frm
  have hsz2 : ((w.setCell ⟨cb, 0, none⟩ (.int .i64 ((count : Int) + 1))).setCell ⟨db, 0, none⟩ (.int .i64 (max (deep : Int) (level : Int)))).heap.size = w.heap.size := by simp [World.setCell]
  have HE2 := Lib.hid env2
  have HF2 := Lib.hid hfr2
  have HK2 := Lib.hid hk2
  have HS2 := Lib.hid hsz2
  have HT := Lib.hid ht
  have HW := Lib.hid hown
  have HA := Lib.hid hall
  have HN := Lib.hid hnk
  have HL := Lib.hid hlevL
  clear ht hown hall env hrep hlev hnk env2 hfr2 hk2 hsz2 hlevL hcf
  go_enter Tryz.func96, Tryz.ntmps96
  go_wp2_with fail
  generalize hW : (w.setCell ⟨cb, 0, none⟩ (.int .i64 ((count : Int) + 1))).setCell ⟨db, 0, none⟩ (.int .i64 (max (deep : Int) (level : Int))) = W2 at *
  clear hW hcd1 hcc hcd hfc hfd hcf2
  refine (HWF.out _).mono ?_
  rintro e w3 ⟨rfl, hb3⟩
  have env3 := (HE2.out.alloc _).below hb3
  have hsz3 := hb3.size
  simp only [World.size_alloc] at hsz3
  have hszw := HS2.out
  have hbox : w3.heap[w.heap.size]? = some (.cells #[.int .i64 kd, .int .i64 n0, .string b0, .slice a (kids t).length cap] 60 (0, 0)) := by
    rw [hb3.block _ (by simp; omega), ← hszw]; exact heap_alloc_new _ _
  have hcf3 := cell_of_heap env3.frm
  have hff3 : w3.frozen? ⟨fb, 0, none⟩ = false := frozen_of_heap env3.frm 0
  have hcL : w3.cell? ⟨w.heap.size, 3, none⟩ = some (.slice a (kids t).length cap) := by simp [World.cell?, hbox]
  have hsame := setCell_same env3.frm
  have env4 := env3.same hsame
  have hfr4 : Fr (fun k => k = cb ∨ k = db) w (w3.setCell ⟨fb, 0, none⟩ (.bool true)) := by
    have h := (HF2.out.alloc _).trans (Fr.of_below hb3)
    exact ⟨h.os, h.tape, h.output, by simpa [World.setCell] using h.size, fun k hk hx => (hsame k).trans (h.block k hk hx)⟩
  have hk4 : K24 w (w3.setCell ⟨fb, 0, none⟩ (.bool true)) := fun g cur e => (hsame g).trans ((hb3.block g (by have := lt_of_heap (HK2.out g cur e); simp; omega)).trans ((HK2.out.alloc _) g cur e))
  have hbox4 := (hsame w.heap.size).trans hbox
  have hcL4 : (w3.setCell ⟨fb, 0, none⟩ (.bool true)).cell? ⟨w.heap.size, 3, none⟩ = some (.slice a (kids t).length cap) := by simp [World.cell?, hbox4]
  have HE4 := Lib.hid env4
  have HF4 := Lib.hid hfr4
  have HK4 := Lib.hid hk4
  clear env3 env4 hfr4 hk4 hbox hbox4 hsame hb3 hszw
  go_wp2
  generalize hW4 : w3.setCell ⟨fb, 0, none⟩ (.bool true) = w4 at *
  clear hW4 hcL4
  go_loopw [23] (fun i wr => ∃ k C D : Nat, k ≤ (kids t).length ∧ C ≤ 4000 ∧ i = .int .i64 k ∧ Hid (C = count + 1 + nodesL ((kids t).take k)) ∧ Hid (D = vDeepL (max deep level) (level + 1) ((kids t).take k)) ∧ Hid (VEnv cb db fb vb C D wr) ∧ Hid (Fr (fun k => k = cb ∨ k = db) w wr) ∧ Hid (K24 w wr)) (fun i _ => (kids t).length - (intOf i).toNat)
  case atStart => exact ⟨0, count + 1, max deep level, Nat.zero_le _, by have := nodes_pos t; omega, rfl, Lib.hid (by simp [nodesL]), Lib.hid (by simp [vDeepL]), HE4, HF4, HK4⟩
  case round =>
    obtain ⟨k, C, D, hk, hC4, rfl, HC, HD, E, F, K⟩ := hrel
    by_cases hlt : k < (kids t).length
    · obtain ⟨c0, c1, c2, c3, x0, x1, x2, x3, hrep⟩ := RepAll.get (kids t) xs k (kids t)[k] HA.out (List.getElem?_eq_getElem hlt)
      obtain ⟨g, rfl⟩ : ∃ g, a = some ⟨g, 0, none⟩ := by
        rcases HW.out.2 with ⟨-, h0⟩ | ⟨g, cap, cur, hv, -⟩
        · omega
        · injection hv with hv; exact ⟨g, hv⟩
      have hown := HW.out
      have hownr : wr.ownsRow 0 60 4 (.slice (some ⟨g, 0, none⟩) (kids t).length cap) (kids t).length xs := ownsRow_keep hown (fun g' hg' => by obtain ⟨cur, hc⟩ := own24 hown g' hg'; exact (K.out g' cur hc).trans hc.symm)
      have hcell0 : wr.cell? ⟨g, k * 4, none⟩ = some c0 := row_cell hownr x0
      have hcell1 : wr.cell? ⟨g, k * 4 + 1, none⟩ = some c1 := row_cell hownr x1
      have hcell2 : wr.cell? ⟨g, k * 4 + 2, none⟩ = some c2 := row_cell hownr x2
      have hcell3 : wr.cell? ⟨g, k * 4 + 3, none⟩ = some c3 := row_cell hownr x3
      have hrepr := hrep.k24 K.out
      obtain ⟨kd1, n1, b1, a1, len1, cap1, hcv⟩ := Rep.cells _ _ hrep
      injection hcv with hcv
      injection hcv with hcv
      injection hcv with h0 hcv
      injection hcv with h1 hcv
      injection hcv with h2 hcv
      injection hcv with h3 hcv
      subst h0 h1 h2 h3
      have hcv' : wr.cell? ⟨vb, 0, none⟩ = some (visitFn cb db fb vb) := cell_of_heap E.out.vis
      have hcc : wr.cell? ⟨cb, 0, none⟩ = some (.int .i64 C) := cell_of_heap E.out.cnt
      have hltc' := lt_of_heap E.out.cnt
      have hltv' := lt_of_heap E.out.vis
      have HRr := Lib.hid hrepr
      have hn1 := nodesL_le (kids t) (k + 1)
      rw [take_get hlt, nodesL_append] at hn1
      simp only [nodesL] at hn1
      have hD30 : D ≤ 30 := by rw [HD.out]; exact vDeepL_le _ _ _ (levL_take k HL.out) (by omega)
      have hfit : C + nodes (kids t)[k] ≤ 4000 := by rw [HC.out]; rw [HN.out] at hcn; omega
      clear x0 x1 x2 x3 hrep hrepr hcv hown hownr hn1
      go_wp2_with fail
      have hcall := HT.out (kids t)[k] (List.getElem_mem hlt) cb db fb vb C D (level + 1) (wr.alloc (.cells #[.int .i64 kd1, .int .i64 n1, .string b1, .slice a1 len1 cap1] 60)) _ (E.out.alloc _) (HRr.out.k24 ((K24.refl _).alloc _)) (levL_get HL.out _ (List.getElem_mem hlt)) hfit hD30
      refine Calls.mono hcall ?_
      clear hcall
      rintro e w5 ⟨rfl, henv5, hfr5⟩
      have E5 := Lib.hid henv5
      have F5 := Lib.hid ((F.out.alloc _).trans hfr5)
      have K5 : Hid (K24 w w5) := Lib.hid (fun g' cur e => (hfr5.block g' (by have := lt_of_heap (K.out g' cur e); simp; omega) (by
        have h1 := cells_ne (K.out g' cur e) E.out.cnt (by decide)
        have h2 := cells_ne (K.out g' cur e) E.out.dep (by decide)
        omega)).trans ((K.out.alloc _) g' cur e))
      clear henv5 hfr5
      go_wp2
      go_roundw
      case rel => exact ⟨k + 1, C + nodes (kids t)[k], vDeep D (level + 1) (kids t)[k], by omega, hfit, by go_num, Lib.hid (by rw [HC.out, take_get hlt, nodesL_append]; simp [nodesL]; omega), Lib.hid (by rw [HD.out, take_get hlt, vDeepL_append]; simp [vDeepL]), E5, F5, K5⟩
      case measure => simp [intOf]; omega
    · have hkn : (kids t).take k = kids t := List.take_of_length_le (by omega)
      have HCe : Hid (C = count + nodes t) := Lib.hid (by rw [HC.out, hkn, HN.out]; omega)
      have HDe : Hid (D = vDeep deep level t) := Lib.hid (by rw [HD.out, hkn, vDeep_kids])
      clear hkn
      go_wp2
      go_end0
      exact ⟨rfl, by rw [← HCe.out, ← HDe.out]; exact E.out, F.out⟩

mutual
theorem visit_ok : ∀ t : Tree, VisitOK t
  | .num n => visit_of (fun u hu => by cases hu)
  | .text bs => visit_of (fun u hu => by cases hu)
  | .list ts => visit_of (visit_okL ts)
theorem visit_okL : ∀ ts : List Tree, ∀ t, t ∈ ts → VisitOK t
  | [], t, ht => by cases ht
  | u :: ts, t, ht => by
    rcases List.mem_cons.1 ht with h' | h'
    · rw [h']; exact visit_ok u
    · exact visit_okL ts t h'
end

end Go.Proofs.YtdnedbcmgkilaaaGreatDoor.Co

end
