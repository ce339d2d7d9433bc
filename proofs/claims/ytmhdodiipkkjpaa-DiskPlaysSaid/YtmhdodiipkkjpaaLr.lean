/- DiskReads: what the contracts answer, case by case. -/
import Derived.Test.YtmhdodiipkkjpaaLk
namespace Go.Proofs.Ytmhdodiipkkjpaa.Dk
open Go.RowKit

theorem read_bad {d : Dsk} {n : BA} (h : ¬ RgtD d) : readF d n = (noB, 1) := by
  unfold readF findE; rw [if_neg (fun k => h k.1)]
theorem read_nm {d : Dsk} {n : BA} (h : nmB n = false) : readF d n = (noB, 1) := by
  unfold readF findE; rw [if_neg (fun k => by have := k.2; rw [nms_one, h] at this; cases this)]
theorem read_down {d : Dsk} {n : BA} (h : RgtD d) (hn : nmB n = true) (hd : d.down = true) : readF d n = (noB, 132) := by
  unfold readF findE; rw [if_pos ⟨h, by rw [nms_one]; exact hn⟩, if_pos hd]
theorem cut_bad {d : Dsk} {n : Int} (h : ¬ RgtD d) : cutF d n = (zeroD, 1) := by unfold cutF; rw [if_neg (fun k => h k.1)]
theorem cut_arg {d : Dsk} {n : Int} (h : ¬ (-1 ≤ n ∧ n ≤ 1073741824)) : cutF d n = (zeroD, 1) := by unfold cutF; rw [if_neg (fun k => h (lfB_iff.1 k.2))]
theorem cut_down {d : Dsk} {n : Int} (h : RgtD d) (hn : -1 ≤ n ∧ n ≤ 1073741824) (hd : d.down = true) : cutF d n = (zeroD, 132) := by unfold cutF; rw [if_pos ⟨h, lfB_iff.2 hn⟩, if_pos hd]
theorem cut_up {d : Dsk} {n : Int} (h : RgtD d) (hn : -1 ≤ n ∧ n ≤ 1073741824) (hd : d.down = false) : cutF d n = (⟨d.room, d.fs, n, d.down⟩, 0) := by unfold cutF; rw [if_pos ⟨h, lfB_iff.2 hn⟩, if_neg (by rw [hd]; decide)]
theorem cutbad_any (w : World) (d : Dsk) (a : Option Addr) (cap : Nat) (left : Int) (h : DAt w d a cap) (hR : ¬ RgtD d) :
    Calls Try.prog 15 #[diV d (.slice a d.fs.length cap), .int .i64 left] w fun e w' => ∃ a' c', e = .returned (.tuple #[.agg #[.int .i64 0, .slice a' 0 c', .int .i64 0, .bool false], .int .i64 1]) ∧ SlF w' (Old w') (.slice a' 0 c') [] ∧ Below w.heap.size w w' := by
  have := cut_any w d a cap left h; rw [cut_bad hR] at this; exact this
theorem crashbad_any (w : World) (d : Dsk) (a : Option Addr) (cap : Nat) (ak : Option Addr) (ck : Nat) (keep : List Int) (h : DAt w d a cap) (hk : SlI w (Old w) (.slice ak keep.length ck) keep) (hw : ∀ n, n ∈ keep → I64 n) (hR : ¬ RgtD d) :
    Calls Try.prog 16 #[diV d (.slice a d.fs.length cap), .slice ak keep.length ck] w fun e w' => ∃ a' c', e = .returned (.tuple #[.agg #[.int .i64 0, .slice a' 0 c', .int .i64 0, .bool false], .int .i64 1]) ∧ SlF w' (Old w') (.slice a' 0 c') [] ∧ Below w.heap.size w w' := by
  have := crash_any w d a cap ak ck keep h hk hw; rw [crash_no hR] at this; exact this
theorem crashok_any (w : World) (d : Dsk) (a : Option Addr) (cap : Nat) (ak : Option Addr) (ck : Nat) (keep : List Int) (h : DAt w d a cap) (hk : SlI w (Old w) (.slice ak keep.length ck) keep) (hw : ∀ n, n ∈ keep → I64 n) (hR : RgtD d) :
    Calls Try.prog 16 #[diV d (.slice a d.fs.length cap), .slice ak keep.length ck] w fun e w' => ∃ a' c', e = .returned (.tuple #[diV ⟨d.room, crFs keep d.fs, -1, false⟩ (.slice a' d.fs.length c'), .int .i64 0]) ∧ SlF w' (Old w') (.slice a' d.fs.length c') (crFs keep d.fs) ∧ Below w.heap.size w w' := by
  have := crash_any w d a cap ak ck keep h hk hw
  rw [crash_yes hR] at this
  refine this.mono ?_
  rintro e w' ⟨a', c', rfl, h1, h2⟩
  simp only [crs_len] at h1 ⊢
  exact ⟨a', c', rfl, h1, h2⟩
/-- A zero disk beside the zero disk. -/
theorem likez_any (w : World) (a : Option Addr) (c : Nat) (h : SlF w (Old w) (.slice a 0 c) []) :
    Calls Try.prog 13 #[.agg #[.int .i64 0, .slice a 0 c, .int .i64 0, .bool false], .agg #[.int .i64 0, .slice none 0 0, .int .i64 0, .bool false]] w fun e w' => e = .returned (.bool true) ∧ Below w.heap.size w w' :=
  like_any w zeroD a none c 0 h (fsn w)
end Go.Proofs.Ytmhdodiipkkjpaa.Dk
