/- The document's Like: two stores of the same items; the law's few and alive. -/
import Derived.Test.YtmaafhhdbhkplaaDoorPut
import Derived.Laws.StructEq
import Derived.Deep.QuietTactic
import Derived.BigQuiet
namespace Go.Proofs.YtmaafhhdbhkplaaDoor
open Go.RowKit

theorem neq29 (w : World) (k b : BA) (r : Int) : (binOp .neq 29 (.agg #[.string k, .string b, .int .i64 r]) (.agg #[.string k, .string b, .int .i64 r])).run Tryd.prog w = .ok (.bool false) w := by
  have hS : Tryd.prog.underlying 29 = some (.struct (Tryd.prog.fieldsOf 29)) := by kernel_rfl
  have hp : Tryd.prog.stoodInHeld 29 = false := by kernel_rfl
  have u3 := Tryd.underlying3
  have a3 := Tryd.isAgg3
  have z3 := Tryd.sizeOf3
  have u9 := Tryd.underlying9
  have a9 := Tryd.isAgg9
  have z9 := Tryd.sizeOf9
  rw [run_neq_struct, show (10000 : Nat) = 9999 + 1 from rfl, run_equalIn_agg w 9999 29 _ _ hS hp]
  simp only [Program.fieldsOf, Tryd.underlying29]
  go_simp
theorem guard29 : Tryd.prog.eqGuardType Tryd.prog.depth 29 = false := by kernel_rfl

set_option maxHeartbeats 1600000 in
theorem like_any (w : World) (a1 a2 : Option Addr) (c1 c2 : Nat) (xs : List Itm) (h1 : InI w a1 xs) (h2 : InI w a2 xs) (hl : xs.length ≤ 1000000) :
    Calls Tryd.prog 16 #[.agg #[.slice a1 xs.length c1], .agg #[.slice a2 xs.length c2]] w fun e w' => e = .returned (.bool true) ∧ Below w.heap.size w w' := by
  have hW := below2 w (.cells #[.slice a1 xs.length c1] 24) (.cells #[.slice a2 xs.length c2] 24)
  have HW := Lib.hid hW
  have H1 := Lib.hid (h1.below hW)
  have H2 := Lib.hid (h2.below hW)
  have r1 := ((row_new w #[.slice a1 xs.length c1] 24).alloc (.cells #[.slice a2 xs.length c2] 24)).cell (i := 0) rfl
  have r2 := (row_new (w.alloc (.cells #[.slice a1 xs.length c1] 24)) #[.slice a2 xs.length c2] 24).cell (i := 0) rfl
  simp only [World.size_alloc] at r2
  clear h1 h2 hW
  go_enter Tryd.func16, Tryd.ntmps16
  go_wp2
  generalize hW1 : (w.alloc (.cells #[.slice a1 xs.length c1] 24)).alloc (.cells #[.slice a2 xs.length c2] 24) = W1 at *
  clear hW1
  go_loopw [16] (fun i wr => ∃ k m : Nat, k ≤ xs.length ∧ i = .int .i64 k ∧ wr = W1.drewN m) (fun i _ => xs.length - (intOf i).toNat)
  case atStart => exact ⟨0, 0, by omega, rfl, rfl⟩
  case round =>
    obtain ⟨k, m, hk, rfl, rfl⟩ := hrel
    by_cases hlt : k < xs.length
    · obtain ⟨x, hx⟩ : ∃ x, xs[k]? = some x := ⟨_, List.getElem?_eq_getElem hlt⟩
      obtain ⟨b1, o1, rfl, hb1, i1, i2, i3⟩ := H1.out.at_ hx
      obtain ⟨b2, o2, rfl, hb2, j1, j2, j3⟩ := H2.out.at_ hx
      have hne := neq29
      have hgd := guard29
      obtain ⟨kk, bb, rr⟩ := x
      simp only at i1 i2 i3 j1 j2 j3
      clear hx
      go_wp2
      go_quiet (fail)
      go_wp2
      go_roundw
      case rel => exact ⟨k + 1, _, by omega, by go_num, rfl⟩
      case measure => simp [intOf]; omega
    · go_wp2
      go_ret
      exact ⟨rfl, below_drewN HW.out m⟩

/-- The items that the law looks at. -/
def fewF (xs : List Itm) : List Itm := if 60 < xs.length ∧ xs.length < 4096 then xs.take 60 else xs
set_option maxHeartbeats 1600000 in
set_option maxRecDepth 100000 in
theorem few_any (w : World) (a : Option Addr) (cap : Nat) (xs : List Itm) (ha : Arg w a cap xs) :
    Calls Tryd.prog 7 #[.agg #[.slice a xs.length cap]] w fun e w' => e = .returned (.agg #[.slice a (fewF xs).length cap]) ∧ Below w.heap.size w w' := by
  have hc1 := ha.cap1
  have hc2 := ha.cap2
  by_cases hf : 60 < xs.length ∧ xs.length < 4096
  · have HF : Hid ((fewF xs).length = 60) := Lib.hid (by unfold fewF; rw [if_pos hf, List.length_take]; omega)
    obtain ⟨hf1, hf2⟩ := hf
    obtain ⟨b, off, rfl, -⟩ := ha.its (by intro h; rw [h] at hf1; simp at hf1)
    have h6 : (60 : Int) ≤ (xs.length : Int) := by omega
    have h7 : (60 : Int) ≤ (cap : Int) := by omega
    clear ha
    go_enter Tryd.func7, Tryd.ntmps7
    go_wp2
    exact bodyPost_ret (v := .agg #[.slice (some ⟨b, off, none⟩) 60 cap]) (by simp [results, Tryd.results7, go_sem]) rfl ⟨by rw [HF.out], below2 _ _ _⟩
  · have HF : Hid (fewF xs = xs) := Lib.hid (by unfold fewF; rw [if_neg hf])
    clear ha
    by_cases h1 : 60 < xs.length
    · have h2 : ¬ xs.length < 4096 := fun h => hf ⟨h1, h⟩
      clear hf
      go_enter Tryd.func7, Tryd.ntmps7
      go_wp2
      exact bodyPost_ret (v := .agg #[.slice a xs.length cap]) (by simp [results, Tryd.results7, go_sem]) rfl ⟨by rw [HF.out], below2 _ _ _⟩
    · clear hf
      go_enter Tryd.func7, Tryd.ntmps7
      go_wp2
      exact bodyPost_ret (v := .agg #[.slice a xs.length cap]) (by simp [results, Tryd.results7, go_sem]) rfl ⟨by rw [HF.out], below2 _ _ _⟩
theorem Arg.few {w : World} {a : Option Addr} {cap : Nat} {xs : List Itm} (h : Arg w a cap xs) : Arg w a cap (fewF xs) := by
  unfold fewF
  split
  · have h1 := h.len
    have h2 := h.cap1
    refine ⟨h.its.take 60, fun j x hj => ?_, by rw [List.length_take]; omega, by rw [List.length_take]; omega, h.cap2, h.nil⟩
    have hlt := (List.getElem?_eq_some_iff.1 hj).1
    rw [List.length_take] at hlt
    rw [List.getElem?_take, if_pos (by omega)] at hj
    exact h.szs j x hj
  · exact h
theorem fewF_small (xs : List Itm) : (fewF xs).length ≤ 60 ∨ 4096 ≤ (fewF xs).length := by
  unfold fewF
  split
  · rw [List.length_take]; omega
  · omega
theorem arg_empty (w : World) : Arg w none 0 [] := ⟨InI.nil _ _, fun j x hj => by simp at hj, by simp, by simp, by simp, fun _ => rfl⟩

set_option maxHeartbeats 1600000 in
set_option maxRecDepth 100000 in
theorem alive_any (w : World) (ht : Tab w) : Calls Tryd.prog 10 #[] w fun e w' => e = .returned (.bool true) ∧ Below w.heap.size w w' := by
  have hc : PutCase [] ⟨#[97]⟩ (insF [] (pos [] (leafF ⟨#[97]⟩)) ⟨leafF ⟨#[97]⟩, ⟨#[97]⟩, 1⟩) (leafF ⟨#[97]⟩) 0 :=
    .new ⟨by simp, fun j hj => by simp at hj⟩ (by decide) (by decide) (fun j x hx => by simp at hx) (by simp)
  have HC := Lib.hid (put_any w none 0 [] ⟨#[97]⟩ (arg_empty w) ht (by decide) hc)
  have HL : Hid ((insF [] (pos [] (leafF ⟨#[97]⟩)) (⟨leafF ⟨#[97]⟩, ⟨#[97]⟩, 1⟩ : Itm)).length = 1) := Lib.hid (by rw [insF_length (pos_le _ _)]; rfl)
  have hk : ((leafF ⟨#[97]⟩).size : Int) = 32 := by rw [leafF_size]; rfl
  have hkb : (((leafF ⟨#[97]⟩).size : Int) == 32) = true := by rw [hk]; rfl
  clear hc ht hk
  go_enter Tryd.func10, Tryd.ntmps10
  go_wp2_with fail
  refine HC.out.mono ?_
  rintro e w1 ⟨a1, c1, rfl, -, hb1⟩
  rw [HL.out]
  generalize leafF ⟨#[97]⟩ = key at *
  go_wp2
  go_ret
  exact ⟨rfl, below_trans hb1 (below1 _ _)⟩
end Go.Proofs.YtmaafhhdbhkplaaDoor
