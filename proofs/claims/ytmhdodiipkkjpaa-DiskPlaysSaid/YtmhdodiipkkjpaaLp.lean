/- DiskPlays: what goes along. -/
import Derived.Test.YtmhdodiipkkjpaaLn
import Derived.Test.YtmhdodiipkkjpaaLc
namespace Go.Proofs.Ytmhdodiipkkjpaa.Dk
open Go.RowKit

/-- A disk in a box of the law's own, behind some calls. -/
structure PS (w : World) (d : Dsk) (a : Option Addr) (c : Nat) (wr : World) : Prop where
  low : Below w.heap.size w wr
  rgt : RgtD d
  row : Row wr w.heap.size 24 [.int .i64 d.room, .slice a d.fs.length c, .int .i64 d.left, .bool d.down]
  fs : SlF wr (Old wr) (.slice a d.fs.length c) d.fs
theorem PS.below {w : World} {d : Dsk} {a : Option Addr} {c : Nat} {wr w' : World} (h : PS w d a c wr) (hb : Below wr.heap.size wr w') : PS w d a c w' :=
  ⟨below_trans h.low hb, h.rgt, h.row.below hb, h.fs.old hb⟩
theorem SlK.get {w : World} {S : Nat → Prop} {a : Option Addr} {n cap : Nat} {xs : List Cal} (h : SlK w S (.slice a n cap) xs) {j : Nat} {x : Cal} (hx : xs[j]? = some x) :
    ∃ b off, a = some ⟨b, off, none⟩ ∧ S b ∧ w.cell? ⟨b, off + j * 4, none⟩ = some (.int .i64 x.what) ∧ w.cell? ⟨b, off + j * 4 + 1, none⟩ = some (.string x.n) ∧ w.cell? ⟨b, off + j * 4 + 2, none⟩ = some (.string x.m) ∧ w.cell? ⟨b, off + j * 4 + 3, none⟩ = some (.int .i64 x.k) := by
  obtain ⟨a', cap', hv, h1, h2, h3⟩ := h
  injection hv with h4 _ _
  subst h4
  obtain ⟨b, off, ha, hb, hat⟩ := h3 (fun e => by subst e; simp at hx)
  obtain ⟨cs, -, rfl, hc⟩ := hat j x hx
  exact ⟨b, off, ha, hb, hc 0 _ rfl, hc 1 _ rfl, hc 2 _ rfl, hc 3 _ rfl⟩
theorem SlK.old {w w' : World} {v : Value} {xs : List Cal} (h : SlK w (Old w) v xs) (hb : Below w.heap.size w w') : SlK w' (Old w') v xs := Sl.keep h (fun b hb2 => hb.block b hb2) (fun _ h => Nat.lt_of_lt_of_le h hb.size) (fun _ _ h => h)
theorem infoI : (Try.prog.info? 3).map (fun i => (i.zero, i.size, i.bytes)) = some (some (.int .i64 0), 1, 8) := by kernel_rfl
/-- So many times one number, in a row of the call's own. -/
abbrev RepI (n : Nat) (x : Int) : List Value := List.replicate n (.int .i64 x)
structure KS (W : World) (x : Int) (n : Nat) (v : Value) (wr : World) : Prop where
  own : wr.ownsRow W.heap.size 3 1 v n (RepI n x)
  low : Below W.heap.size W wr
theorem KS.start (W : World) (x : Int) : KS W x 0 (.slice none 0 0) W := ⟨World.ownsRow_nil _ _ _ _, Below.refl _ _⟩
theorem KS.push {W : World} {x : Int} {n : Nat} {v : Value} {wr : World} (h : KS W x n v wr) (hn : n ≤ 1000) :
    ∃ v' w', (Builtin.append_ #[35, 35] 35 #[v, .slice (some ⟨wr.heap.size, 0, none⟩) 1 1]).run Try.prog (wr.alloc (.cells #[.int .i64 x] 3)) = .ok v' w' ∧ Hid (KS W x (n + 1) v' w') := by
  obtain ⟨i0, hi, hz0, hz1, hz2⟩ := info_parts infoI
  have hbo := below1 wr (.cells #[.int .i64 x] 3)
  have hW : W.heap.size ≤ wr.heap.size := h.low.size
  obtain ⟨v', w', hr, h2, h3, -, -⟩ := run_append_own_at (P := Try.prog) (wr.alloc (.cells #[.int .i64 x] 3)) W.heap.size 35 35 3 i0 _ 1 8 Try.underlying35 hi hz0 hz1 hz2 rfl (by decide) v n (RepI n x) (ownsRow_below h.own hbo) ⟨wr.heap.size, 0, none⟩ 1 1 [.int .i64 x] rfl (cell_newL wr #[.int .i64 x] 3 rfl) (fun u hu => by simp at hu; subst hu; rfl) (by unfold maxLen; omega) (by omega) (by simp; omega)
  have hf : Fr (fun b => v.ownBlock = some b) wr w' := (Fr.of_below hbo).trans (grown_fr h3)
  refine ⟨v', w', hr, Lib.hid ⟨?_, fr_below h.low hf (fun k hk => (h.own.lt k hk).1)⟩⟩
  unfold RepI at h2 ⊢
  rw [List.replicate_succ']
  exact h2
theorem rep_cat (x : Int) : ∀ n, Cat 1 CI (List.replicate n x) (RepI n x)
  | 0 => rfl
  | n + 1 => ⟨[.int .i64 x], RepI n x, rfl, rfl, rfl, rep_cat x n⟩
theorem rep_sl {W wr : World} {x : Int} {n : Nat} {v : Value} (h : wr.ownsRow W.heap.size 3 1 v n (RepI n x)) : SlI wr (Old wr) v (List.replicate n x) :=
  Sl.of_owns (by rw [List.length_replicate]; exact h) (rep_cat x n) (fun _ _ _ hh => (Array.getElem?_eq_some_iff.1 hh).1)
theorem SlK.max {w : World} {S : Nat → Prop} {a : Option Addr} {n cap : Nat} {xs : List Cal} (h : SlK w S (.slice a n cap) xs) : xs.length ≤ 9223372036854775807 := by
  obtain ⟨a', cap', hv, h1, h2, -⟩ := h
  omega
theorem KS.sl {W : World} {x : Int} {n : Nat} {v : Value} {wr : World} (h : KS W x n v wr) : SlI wr (Old wr) v (List.replicate n x) :=
  Sl.of_owns (by rw [List.length_replicate]; exact h.own) (rep_cat x n) (fun _ _ _ hh => (Array.getElem?_eq_some_iff.1 hh).1)
theorem rep_i64 {x : Int} (h : I64 x) {n : Nat} : ∀ y, y ∈ List.replicate n x → I64 y := fun y hy => by rw [(List.mem_replicate.1 hy).2]; exact h
/-- What a number is brought to. -/
theorem clamp_cut (k q1 q2 : Int) (h1 : (if k < -1 then -1 else k) = q1) (h2 : (if 1073741824 < q1 then 1073741824 else q1) = q2) : -1 ≤ q2 ∧ q2 ≤ 1073741824 := by
  subst h1 h2; split <;> split <;> omega
theorem clamp_room (k q1 q2 : Int) (h1 : (if k < 0 then 0 else k) = q1) (h2 : (if 1048576 < q1 then 1048576 else q1) = q2) : 0 ≤ q2 ∧ q2 ≤ 1048576 := by
  subst h1 h2; split <;> split <;> omega
theorem empty_right {r : Int} (h : 0 ≤ r ∧ r ≤ 1048576) : RgtD ⟨r, [], -1, false⟩ :=
  ⟨h.1, h.2, ⟨by simp, fun f hf => (by cases hf), List.Pairwise.nil⟩, by simp only [sizF]; omega, (by show lfB (-1) = true; decide)⟩
end Go.Proofs.Ytmhdodiipkkjpaa.Dk
