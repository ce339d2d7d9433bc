/- Package disk: the document's Like; what a call answers, by ways. -/
import Derived.Test.YtmhdodiipkkjpaaDv
import Derived.Deep.QuietTactic
import Derived.BigQuiet
namespace Go.Proofs.Ytmhdodiipkkjpaa.Dk
open Go.RowKit

theorem neqF (w : World) (a b c : BA) : (binOp .neq 44 (.agg #[.string a, .string b, .string c]) (.agg #[.string a, .string b, .string c])).run Try.prog w = .ok (.bool false) w := by
  have hS : Try.prog.underlying 44 = some (.struct (Try.prog.fieldsOf 44)) := by kernel_rfl
  have hp : Try.prog.stoodInHeld 44 = false := by kernel_rfl
  have u9 := Try.underlying9
  have a9 := Try.isAgg9
  have z9 := Try.sizeOf9
  rw [run_neq_struct, show (10000 : Nat) = 9999 + 1 from rfl, run_equalIn_agg w 9999 44 _ _ hS hp]
  simp only [Program.fieldsOf, Try.underlying44]
  go_simp
theorem guardF : Try.prog.eqGuardType Try.prog.depth 44 = false := by kernel_rfl

set_option maxHeartbeats 3200000 in
set_option maxRecDepth 100000 in
theorem like_any (w : World) (d : Dsk) (a1 a2 : Option Addr) (c1 c2 : Nat) (h1 : SlF w (Old w) (.slice a1 d.fs.length c1) d.fs) (h2 : SlF w (Old w) (.slice a2 d.fs.length c2) d.fs) :
    Calls Try.prog 13 #[diV d (.slice a1 d.fs.length c1), diV d (.slice a2 d.fs.length c2)] w fun e w' => e = .returned (.bool true) ∧ Below w.heap.size w w' := by
  obtain ⟨rm, fs, lf, dn⟩ := d
  have hl := h1.len
  obtain ⟨L, HL⟩ : ∃ L, Hid (L = fs.length) := ⟨_, Lib.hid rfl⟩
  have hL2 : L ≤ 9223372036854775807 := by have := HL.out; simp only at hl; omega
  simp only at h1 h2 ⊢
  obtain ⟨W1, HW1⟩ : ∃ W, Hid (W = (w.alloc (.cells #[.int .i64 rm, .slice a1 fs.length c1, .int .i64 lf, .bool dn] 24)).alloc (.cells #[.int .i64 rm, .slice a2 fs.length c2, .int .i64 lf, .bool dn] 24)) := ⟨_, Lib.hid rfl⟩
  have HB1 : Hid (Below w.heap.size w W1) := Lib.hid (by rw [HW1.out]; exact below2 _ _ _)
  have H1 := Lib.hid (h1.old HB1.out)
  have H2 := Lib.hid (h2.old HB1.out)
  have HR1 : Hid (Row W1 w.heap.size 24 [.int .i64 rm, .slice a1 fs.length c1, .int .i64 lf, .bool dn]) := Lib.hid (by rw [HW1.out]; exact (row_new w #[.int .i64 rm, .slice a1 fs.length c1, .int .i64 lf, .bool dn] _).alloc _)
  have HR2 : Hid (Row W1 (w.heap.size + 1) 24 [.int .i64 rm, .slice a2 fs.length c2, .int .i64 lf, .bool dn]) := Lib.hid (by
    rw [HW1.out]
    have h := row_new (w.alloc (.cells #[.int .i64 rm, .slice a1 fs.length c1, .int .i64 lf, .bool dn] 24)) #[.int .i64 rm, .slice a2 fs.length c2, .int .i64 lf, .bool dn] 24
    rwa [World.size_alloc] at h)
  rw [← HL.out] at H1 H2 HR1 HR2 HW1 ⊢
  clear h1 h2 hl
  have r0 := HR1.out.cell (i := 0) rfl
  have r1 := HR1.out.cell (i := 1) rfl
  have r2 := HR1.out.cell (i := 2) rfl
  have r3 := HR1.out.cell (i := 3) rfl
  have s0 := HR2.out.cell (i := 0) rfl
  have s1 := HR2.out.cell (i := 1) rfl
  have s2 := HR2.out.cell (i := 2) rfl
  have s3 := HR2.out.cell (i := 3) rfl
  rw [HW1.out] at r0 r1 r2 r3 s0 s1 s2 s3
  go_enter Try.func13, Try.ntmps13
  go_wp2
  rw [← HW1.out]
  clear r0 r1 r2 r3 s0 s1 s2 s3 HW1
  go_loopw [37] (fun i wr => ∃ k m : Nat, k ≤ L ∧ i = .int .i64 k ∧ wr = W1.drewN m) (fun i _ => L - (intOf i).toNat)
  case atStart => exact ⟨0, 0, by omega, rfl, rfl⟩
  case round =>
    obtain ⟨k, m, hk, rfl, rfl⟩ := hrel
    by_cases hlt : k < L
    · obtain ⟨x, hx⟩ : ∃ x, fs[k]? = some x := ⟨_, List.getElem?_eq_getElem (by have := HL.out; omega)⟩
      obtain ⟨b1, o1, rfl, hb1, i1, i2, i3⟩ := H1.out.get hx
      obtain ⟨b2, o2, rfl, hb2, j1, j2, j3⟩ := H2.out.get hx
      have r1 := HR1.out.cell (i := 1) rfl
      have s1 := HR2.out.cell (i := 1) rfl
      have hne := neqF
      have hgd := guardF
      obtain ⟨kk, bb, rr⟩ := x
      simp only at i1 i2 i3 j1 j2 j3
      clear hx
      go_wp2
      go_quiet (fail)
      go_wp2
      go_roundw
      case rel => exact ⟨k + 1, _, by omega, by go_num, rfl⟩
      case measure => simp [intOf]; omega
    · go_wp2
      go_ret
      exact ⟨rfl, below_drewN HB1.out m⟩

theorem call_bad {what : Int} {d : Dsk} {n m : BA} (h : ¬ (RgtD d ∧ nmB n = true)) : callF what d n m = (zeroD, 1) := by
  have h1 : ¬ (RgtD d ∧ nmsB [n] = true) := by rw [nms_one]; exact h
  have h2 : ¬ (RgtD d ∧ nmsB [n, m] = true) := by rw [nms_two, Bool.and_eq_true]; exact fun hh => h ⟨hh.1, hh.2.1⟩
  unfold callF writeF syncF renF remF findE
  rw [if_neg h1, if_neg h2]
  simp
theorem call_bad3 {d : Dsk} {n m : BA} (h : nmB m = false) : callF 3 d n m = (zeroD, 1) := by
  have h2 : ¬ (RgtD d ∧ nmsB [n, m] = true) := by rw [nms_two, h, Bool.and_false]; simp
  unfold callF renF findE
  rw [if_neg h2]
  simp
theorem call_down {what : Int} {d : Dsk} {n m : BA} (h : RgtD d) (hn : nmB n = true) (hm : what = 3 → nmB m = true) (hd : d.down = true) : callF what d n m = (zeroD, 132) := by
  have h1 : RgtD d ∧ nmsB [n] = true := by rw [nms_one]; exact ⟨h, hn⟩
  unfold callF
  split
  · unfold writeF findE; rw [if_pos h1, if_pos hd]; simp
  · split
    · unfold syncF findE; rw [if_pos h1, if_pos hd]
    · split
      · rename_i h3
        have h2 : RgtD d ∧ nmsB [n, m] = true := by rw [nms_two, hn, hm h3]; exact ⟨h, rfl⟩
        unfold renF findE; rw [if_pos h2, if_pos hd]
      · unfold remF findE; rw [if_pos h1, if_pos hd]
section
variable {d : Dsk} {n m : BA} {f : Fil}
theorem call_none {what : Int} (h : RgtD d) (hn : nmB n = true) (hm : what = 3 → nmB m = true) (hd : d.down = false) (hw : what ≠ 1) (hf : findF d.fs n = none) : callF what d n m = (zeroD, 60) := by
  have h1 : nmsB [n] = true := by rw [nms_one]; exact hn
  unfold callF
  rw [if_neg hw]
  split
  · unfold syncF; rw [findE_no h h1 hd hf]
  · split
    · rename_i h3
      unfold renF; rw [findE_no h (by rw [nms_two, hn, hm h3]; rfl) hd hf]
    · unfold remF; rw [findE_no h h1 hd hf]
theorem call1_full (h : RgtD d) (hn : nmB n = true) (hd : d.down = false) (hf : findF d.fs n = none) (h8 : ¬ d.fs.length < 8) : callF 1 d n m = (zeroD, 130) := by
  unfold callF writeF
  rw [if_pos rfl, findE_no h (by rw [nms_one]; exact hn) hd hf]
  simp only
  rw [if_neg (fun hh => h8 hh.2)]
  simp
theorem call1_new (h : RgtD d) (hn : nmB n = true) (hd : d.down = false) (hf : findF d.fs n = none) (h8 : d.fs.length < 8) : callF 1 d n m = putF d ⟨n, noB, noB⟩ m := by
  unfold callF writeF
  rw [if_pos rfl, findE_no h (by rw [nms_one]; exact hn) hd hf]
  simp only
  rw [if_pos ⟨trivial, h8⟩]
theorem call1_old (h : RgtD d) (hn : nmB n = true) (hd : d.down = false) (hf : findF d.fs n = some f) : callF 1 d n m = putF d f m := by
  unfold callF writeF
  rw [if_pos rfl, findE_yes h (by rw [nms_one]; exact hn) hd hf]
theorem call2_ok (h : RgtD d) (hn : nmB n = true) (hd : d.down = false) (hf : findF d.fs n = some f) : callF 2 d n m = exeF d (withF d.fs ⟨f.nm, f.sy ++ f.tl, noB⟩) d.fs := by
  unfold callF syncF
  rw [if_neg (by decide), if_pos rfl, findE_yes h (by rw [nms_one]; exact hn) hd hf]
theorem call3_dirty (h : RgtD d) (hn : nmB n = true) (hm : nmB m = true) (hd : d.down = false) (hf : findF d.fs n = some f) (ht : f.tl.size ≠ 0) : callF 3 d n m = (zeroD, 131) := by
  unfold callF renF
  rw [if_neg (by decide), if_neg (by decide), if_pos rfl, findE_yes h (by rw [nms_two, hn, hm]; rfl) hd hf]
  simp only
  rw [if_pos ht]
theorem call3_ok (h : RgtD d) (hn : nmB n = true) (hm : nmB m = true) (hd : d.down = false) (hf : findF d.fs n = some f) (ht : f.tl.size = 0) : callF 3 d n m = exeF d (withF (outF d.fs n) ⟨m, f.sy, f.tl⟩) d.fs := by
  unfold callF renF
  rw [if_neg (by decide), if_neg (by decide), if_pos rfl, findE_yes h (by rw [nms_two, hn, hm]; rfl) hd hf]
  simp only
  rw [if_neg (fun hh => hh ht)]
theorem call4_ok (h : RgtD d) (hn : nmB n = true) (hd : d.down = false) (hf : findF d.fs n = some f) : callF 4 d n m = exeF d (outF d.fs n) d.fs := by
  unfold callF remF
  rw [if_neg (by decide), if_neg (by decide), if_neg (by decide), findE_yes h (by rw [nms_one]; exact hn) hd hf]
theorem exe_off {on off : List Fil} (h : d.left = 0) : exeF d on off = (⟨d.room, off, 0, true⟩, 132) := by
  unfold exeF; rw [if_pos h]
theorem exe_down {on off : List Fil} (h : 0 < d.left) : exeF d on off = (⟨d.room, on, d.left - 1, d.down⟩, 0) := by
  unfold exeF; rw [if_neg (by omega), if_pos h]
theorem exe_stay {on off : List Fil} (h : d.left < 0) : exeF d on off = (⟨d.room, on, d.left, d.down⟩, 0) := by
  unfold exeF; rw [if_neg (by omega), if_neg (by omega)]
theorem put_long {f : Fil} (h : d.room - sizF d.fs < m.size) : putF d f m = (zeroD, 130) := by
  unfold putF; rw [if_pos h]
theorem put_ok {f : Fil} (h : ¬ d.room - sizF d.fs < m.size) : putF d f m = exeF d (withF d.fs ⟨f.nm, f.sy, f.tl ++ m⟩) (withF d.fs ⟨f.nm, f.sy, f.tl ++ m⟩) := by
  unfold putF; rw [if_neg h]
end
end Go.Proofs.Ytmhdodiipkkjpaa.Dk
