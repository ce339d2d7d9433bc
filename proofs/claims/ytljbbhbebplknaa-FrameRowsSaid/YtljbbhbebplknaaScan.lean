/- Scan of package frame: what the call answers. -/
import Derived.Test.YtljbbhbebplknaaIter
import Derived.Maps.AppendAt
import Derived.Scope
namespace Go.Proofs.Ytljbbhbebplknaa
open Go.RowKit Go.Shelf

attribute [local go_sem] Oper.semAt_some

theorem wpIn_scope_wide {n : Nat} {P : Program} {c : Code} {Q : Exit → Act → World → Prop} {a : Act} {w : World} (h : c.wpIn Fence.wide n P (Exit.noGoto Q) a w) : (Code.scope c).wpIn Fence.wide n P Q a w :=
  wpIn_wide.2 (wp_scope_straight (wpIn_wide.1 h))

theorem info9 : (Try.prog.info? 9).map (fun i => (i.zero, i.size, i.bytes)) = some (some (.string ByteArray.empty), 1, 16) := by kernel_rfl

abbrev strsB (bs : List Body) : List Value := bs.map (fun b => Value.string b.1)
def endB (pre : List Item) : Nat := (pre.map fun x => 12 + x.1.1.size).sum
theorem endB_snoc (pre : List Item) (x : Item) : endB (pre ++ [x]) = endB pre + (12 + x.1.1.size) := by simp [endB]
theorem endB_le : ∀ (pre : List Item), endB pre ≤ 65548 * pre.length
  | [] => by simp [endB]
  | x :: pre => by
    have h1 := endB_le pre
    have h2 := x.2
    have h3 : endB (x :: pre) = (12 + x.1.1.size) + endB pre := by simp [endB]
    rw [h3, List.length_cons]; omega
theorem endB_items : ∀ (bs : List Body), endB (bs.map okI) = (framesF (listsB bs)).length
  | [] => rfl
  | b :: bs => by
    have h1 := endB_items bs
    have h3 : endB ((b :: bs).map okI) = (12 + b.1.size) + endB (bs.map okI) := by simp [endB, okI]
    rw [h3, h1]
    show _ = (frameF b.1.data.toList ++ framesF (listsB bs)).length
    rw [List.length_append, frameF_length, ba_len]; omega

/-- Between two rounds. -/
def ScanI (w : World) (pre : List Item) (W : World) : Prop :=
  (∀ x, x ∈ pre → x.1.2 = true) ∧ (∃ v, Boxed W w.heap.size 29 v ∧ W.ownsRow w.heap.size 9 1 v pre.length (pre.map fun x => Value.string x.1.1) ∧ True) ∧ Boxed W (w.heap.size + 1) 3 (.int .i64 (endB pre : Nat)) ∧ Below w.heap.size w W
def ScanIx (w : World) (c : Code) (p : List Item) (W : World) : Prop :=
  c = .exit 0 ∧ ∃ pre x, p = pre ++ [x] ∧ x.1.2 = false ∧ ScanI w pre W

theorem scanI_own (w : World) (B : Nat) (hB : w.heap.size ≤ B) : OwnFrom B (ScanI w) :=
  OwnFrom.and (ownFrom_pure B (fun pre : List Item => ∀ x, x ∈ pre → x.1.2 = true))
    (OwnFrom.and (Own.from (holdsRow_own w.heap.size w.heap.size 29 9 1 (fun pre : List Item => pre.length) (fun pre => pre.map fun x => Value.string x.1.1) (fun _ _ => True)) B)
      (OwnFrom.and (Own.from (boxed_own (w.heap.size + 1) 3 (fun pre : List Item => .int .i64 (endB pre : Nat))) B) (ownFrom_below (Nat.le_refl _) hB)))
theorem scanIx_own (w : World) (B : Nat) (hB : w.heap.size ≤ B) (c : Code) : OwnFrom B (ScanIx w c) := fun s X Y row hs hg hr => by
  obtain ⟨hc, pre, x, hp, hx, hI⟩ := hs
  exact ⟨hc, pre, x, hp, hx, scanI_own w B hB pre X Y row hI hg hr⟩

/-- The last item alone is false: what has come where a round left is all. -/
theorem stop_all {bs : List Body} {pre : List Item} {x : Item} (h : pre ++ [x] <+: itemsB bs) (hx : x.1.2 = false) : pre = bs.map okI := by
  obtain ⟨t, ht⟩ := h
  unfold itemsB at ht
  rw [List.append_assoc] at ht
  rcases List.append_eq_append_iff.1 ht with ⟨a, h1, h2⟩ | ⟨a, h1, h2⟩
  · cases a with
    | nil => simpa using h1.symm
    | cons y a =>
      exfalso
      simp only [List.cons_append, List.nil_append, List.cons.injEq] at h2
      have hm : y ∈ bs.map okI := by rw [h1]; simp
      obtain ⟨b, -, hb⟩ := List.mem_map.1 hm
      rw [h2.1, ← hb] at hx
      cases hx
  · cases a with
    | nil => simpa using h1
    | cons y a =>
      exfalso
      have := congrArg List.length h2
      simp at this

set_option maxRecDepth 100000 in
set_option maxHeartbeats 4000000 in
theorem scan_any (s : ByteArray) (w : World) (hs : s.size ≤ 1000000) : Calls Try.prog 14 #[.string s] w fun e w' => ∃ (v : Value) (bs : List Body), Scanned s.data.toList (listsB bs) (framesF (listsB bs)).length ∧ e = .returned (.tuple #[v, .int .i64 ((framesF (listsB bs)).length : Nat)]) ∧ w'.ownsRow w.heap.size 9 1 v bs.length (strsB bs) ∧ Below w.heap.size w w' := by
  obtain ⟨bs, hS⟩ := scan_exists s.data.toList.length s.data.toList (Nat.le_refl _)
  obtain ⟨i0, hi, hz0, hz1, hz2⟩ := info_parts info9
  have hN : (itemsB bs).length ≤ 100000 := by
    have h1 := framesF_len (listsB bs)
    have h2 := hS.pre.length_le
    have h3 : (listsB bs).length = bs.length := List.length_map _
    have h4 : (itemsB bs).length = bs.length + 1 := by simp [itemsB]
    rw [ba_len] at h2
    omega
  refine (callsIn_wide (n := 5)).1 ?_
  refine callsIn_of_wp_marks Try.func14 rfl trivial ?_ rfl
  simp only [Try.ntmps14, List.size_toArray, List.length_cons, List.length_nil, Nat.reduceAdd, Nat.reduceSub, Array.replicate_succ, Array.replicate_zero, List.push_toArray, List.append_toArray, List.nil_append, List.cons_append]
  gi_wp2_with fail
  refine wpIn_scope_wide ?_
  gi_wp2_with fail
  refine wpIn_label ?_
  gi_wp2_with fail
  refine ⟨trivial, (frames_any _ s _).mono ?_⟩
  rintro e w1 ⟨rfl, rfl⟩
  gi_wp2
  have bO := Boxed.new w 29 (.slice none 0 0)
  have bE := Boxed.new (w.alloc (.cells #[.slice none 0 0] 29)) 3 (.int .i64 0)
  have bN := Boxed.new ((w.alloc (.cells #[.slice none 0 0] 29)).alloc (.cells #[.int .i64 0] 3)) 9 (.string s)
  rw [World.size_alloc] at bE
  rw [World.size_alloc, World.size_alloc] at bN
  have hB0 : Below w.heap.size w (((w.alloc (.cells #[.slice none 0 0] 29)).alloc (.cells #[.int .i64 0] 3)).alloc (.cells #[.string s] 9)) := (((Below.refl _ w).alloc (Nat.le_refl _) _).alloc (by simp) _).alloc (by simp; omega) _
  refine wpIn_rangeFunc_ownG rfl (by omega) (gf := 22) (lb := #[.pointer (some ⟨w.heap.size + 1 + 1, 0, none⟩)]) rfl trivial (enters_of Try.func22 (by kernel_rfl) rfl)
    (iter_stops _ (by omega) (w.heap.size + 1 + 1) w.heap.size s (by omega) bs hS _ (by simp) bN.cell) belowK_t (belowK_b (by simp; omega)) (Below.refl _ _) (fun _ => rfl)
    (ScanI w) (ScanIx w) (scanI_own w _ (by simp; omega)) (scanIx_own w _ (by simp; omega))
    ⟨fun x hx => by simp at hx, ⟨_, (bO.alloc _).alloc _, World.ownsRow_nil _ _ _ _, trivial⟩, bE.alloc _, hB0⟩
    (fun x => { tmps := #[.string s, undef, .slice none 0 0, .int .i64 0, .pointer (some ⟨w.heap.size, 0, none⟩), .pointer (some ⟨w.heap.size + 1, 0, none⟩), .string x.1.1, .bool x.1.2, .string s, .func (.func 22) #[] #[.pointer (some ⟨w.heap.size + 1 + 1, 0, none⟩)], .string x.1.1, .bool x.1.2, undef, undef, undef, undef, undef, undef, undef, undef, undef, undef, undef, undef, undef, undef], defers := [] }) ?assign ?body ?done ?stop
  case assign =>
    intro l x W K hK
    gi_wp2
    exact hK
  case body =>
    rintro l pre ⟨⟨xb, flag⟩, hx⟩ W hI hlt
    have HI := Lib.hid hI
    obtain ⟨htrue, ⟨v, hv, hrow, -⟩, hE, hB⟩ := hI
    cases flag with
    | false =>
      gi_wp2
      exact ⟨KeepsFrom.refl _ _, rfl, pre, ⟨(xb, false), hx⟩, rfl, rfl, HI.out⟩
    | true =>
      have hc := hv.cell
      have he := hE.cell
      have hx' : xb.size ≤ 65536 := hx
      have hen : endB pre ≤ 65548 * 100000 := Nat.le_trans (endB_le pre) (by omega)
      have HT := Lib.hid htrue
      clear htrue
      gi_wp2_with (gi_at_builtin; refine wpListIn_append_own _ rfl _ _ 29 rfl w.heap.size 9 i0 (.string ByteArray.empty) 1 16 Try.underlying29 hi hz0 hz1 hz2 rfl (by decide) _ _ _ rfl (hrow.alloc _) ⟨W.heap.size, 0, none⟩ 1 1 [.string xb] rfl rfl (cell_one_new _ _ _) (by simp [Value.oneCell']) (by unfold maxLen; omega) (by omega) (by have := hB.size; simp; omega) ?_; intro v' w1 hown' hgrow _; obtain ⟨g', cap', rfl⟩ := ownsRow_succ hown'; obtain ⟨hv1, hv2, hr2, hk2, hb2⟩ := hv.appended (by decide) hrow hB.size (Nat.le_refl _) hown' hgrow; have hE1 := (hE.alloc _).kept hgrow (hE.not_row (by decide) hrow); have hc1 := hv1.cell; have hf1 := hv1.frozen; have hc2 := hE1.cell; have hf2 := hE1.frozen)
      have hE2 := (hE1.other (B' := w.heap.size) (by omega) (.slice (some ⟨g', 0, none⟩) (pre.length + 1) cap')).set (.int .i64 ((endB (pre ++ [(⟨(xb, true), hx⟩ : Item)]) : Nat) : Int))
      have hsum : ((endB pre : Nat) : Int) + (12 + (xb.size : Int)) = ((endB (pre ++ [(⟨(xb, true), hx⟩ : Item)]) : Nat) : Int) := by rw [endB_snoc]; simp
      rw [hsum]
      refine ⟨(hk2.trans (KeepsOthers.setCell _ _ _)).from _, hb2.setCell (p := ⟨w.heap.size + 1, 0, none⟩) (by simp) _, ?_, ⟨_, hv2.other (by omega) _, ?_, trivial⟩, hE2, (hB.trans hb2).setCell (p := ⟨w.heap.size + 1, 0, none⟩) (by simp) _⟩
      · intro y hy
        rcases List.mem_append.1 hy with hy | hy
        · exact HT.out y hy
        · rw [List.mem_singleton.1 hy]
      · have h5 := hr2.kept (grownBy_setCell' _ (w.heap.size + 1) (.int .i64 ((endB (pre ++ [(⟨(xb, true), hx⟩ : Item)]) : Nat) : Int))) (.inr ((hE1.other (B' := w.heap.size) (by omega) (.slice (some ⟨g', 0, none⟩) (pre.length + 1) cap')).not_row (by decide) hr2).symm)
        simpa using h5
  case done =>
    rintro D ys W hD rfl hI hK
    exact absurd (hI.1 endI (by simp [itemsB])) (by simp [endI])
  case stop =>
    rintro D c pre W hD hSp ⟨rfl, pre', x, rfl, hx, hI⟩ hK
    obtain rfl := stop_all hSp hx
    obtain ⟨-, ⟨v, hv, hrow, -⟩, hE, hB⟩ := hI
    obtain ⟨a, k, c, rfl⟩ : ∃ a k c, v = .slice a k c := by
      rcases hrow.2 with ⟨rfl, -⟩ | ⟨g, cap, cur, rfl, -⟩ <;> exact ⟨_, _, _, rfl⟩
    have hc := hv.cell
    have he := hE.cell
    gi_wp2
    gi_region
    gi_wp2
    have hrow' : W.ownsRow w.heap.size 9 1 (.slice a k c) bs.length (strsB bs) := by
      have e1 : (bs.map okI).length = bs.length := List.length_map _
      have e2 : (bs.map okI).map (fun x => Value.string x.1.1) = strsB bs := by rw [List.map_map]; rfl
      rw [e1, e2] at hrow
      exact hrow
    have hlen := endB_items bs
    refine ⟨by simp, .inl ⟨_, _, rfl, run_takeDeferred (w := W.drew) hK, ?_⟩⟩
    refine ⟨_, results_tmp2 rfl _ _ _, .slice a k c, bs, hS, ?_, ?_, ?_⟩
    · rw [← hlen]; rfl
    · exact ownsRow_putObj (W := W.drew) hrow' _ hK rfl
    · exact hB.drew.trans (belowK_b (w := w) (Nat.le_refl _) W.drew D _ _ (by simp at hD; omega) hK rfl rfl)
end Go.Proofs.Ytljbbhbebplknaa
