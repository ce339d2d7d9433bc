/- Commands that are folded in two parts make what they make at once. Proved of every list of commands whose texts are in reach, and every number; the tables of the program are laid as its own initialization lays them. -/
import Derived.Test.YtdkkkeoicekdgaaGreatDoorZBg47

namespace Go.Proofs.YtdkkkeoicekdgaaGreatDoor
set_option maxRecDepth 100000
open Go.ChangeShapes Go.WideShapes Go.ChangeAt Go.WideMaps Go.WideElems Go.RowKit
open Go.ChangeMaps (open_string shut_string)
open Go.Proofs.YtdkkkeoicekdgaaGreatDoor.Ca Go.Proofs.YtdkkkeoicekdgaaGreatDoor.Md
theorem parts_lifted (os : Os) (started : os.Started) (H : Type) (enc : TypeId × Value -> H) :
  ReturnsInHanded {} Tryz.checked os 8 .any (fun w args => (Rows.modelPartsSpec.pre enc Tryz.prog Tryz.f8 [] false w args /\ laidMetH Tryz.prog z3t w) /\ sizedMet enc Tryz.prog Tryz.f8 (OpenSpec.ofChange Rows.modelPartsSpec) false w args)
   (Rows.modelPartsSpec.post enc Tryz.prog Tryz.f8 false true false false) := by
 refine returnsInHanded_of_calls own started (by kernel_rfl)
  (ChangeSpec.witness_shaped (enc := enc) (C := Tryz.checked) (os := os) (X := fun w _ => laidMetH Tryz.prog z3t w) false (World.laidAll Tryz.prog os z3t) #[.slice none 0 0, .int .i64 0] 8 (World.laidAll_os _ _ _) (World.shaped_of_ZipB (by kernel_rfl) (by kernel_rfl)) (by kernel_rfl) (by kernel_rfl) (by kernel_rfl)
   (by rw [MakeChecks.laidMetH_plain _ _ _ (by kernel_rfl)]; exact laidMet_laidAll _ (by kernel_rfl) (by kernel_rfl))) ?_
 intro w0 tape i _ hsh0 _ hok hpre _
 obtain ⟨_, _, _, fn', hfn', _, _, _, _, hvalw⟩ := hok
 obtain rfl : fn' = Tryz.f8 := Option.some.inj (hfn'.symm.trans Tryz.func8)
 obtain ⟨⟨⟨ds, gs, before, hw, _⟩, hx⟩, hz⟩ := hpre
 have hW0 := DataW.Whole.of_heap (w' := w0.forCall tape i) (by rfl) hw
 have hsz := hz.weights hw
 have hL : laidMetH Tryz.prog z3t (w0.forCall tape i) := hx.of_heap (by rfl)
 obtain ⟨m, hm0⟩ := Go.Proofs.cell_of_shapedOpen_int (P := Tryz.prog) (g := 0) (zero := #[.int .i64 0]) (t := 3) hsh0 (of_decide_eq_true (by kernel_rfl)) (by kernel_rfl) rfl (by kernel_rfl) (by kernel_rfl) Tryz.underlying3
 have hval0 : ∀ (j : Nat) t v, Tryz.f8.params[j]? = some t -> i.args[j]? = some v -> Value.okWide Tryz.prog (w0.forCall tape i) .any w0.heap.size t v := hvalw
 suffices hcalls : Calls Tryz.prog 8 i.args (w0.forCall tape i) fun e W' => ∃ v, e = .returned v /\ Rows.modelPartsSpec.post enc Tryz.prog Tryz.f8 false true false false (w0.forCall tape i) i.args v W' by
  refine hcalls.mono fun e W' ⟨v, he, hp⟩ => ?_
  subst he
  exact ChangeSpec.post_blind hp
 clear hw hz hsh0 hvalw hx
 generalize i.args = args at *
 generalize w0.forCall tape i = W at *
 have hval : ∀ (j : Nat) t v, Tryz.f8.params[j]? = some t -> args[j]? = some v -> Value.okWide Tryz.prog W .any w0.heap.size t v := hval0
 have hW' := hW0
 obtain ⟨p, q, hA0, hV, rfl, hfz, hnd⟩ := hW0
 have hA : DataW.TrodAll enc Tryz.prog W 0 (fun _ => true) true Tryz.f8.params.toList args.toList ds p := hA0
 rw [Tryz.params8] at hA hval
 obtain ⟨v0, vs0, d0, ds0, p0, q0, hargs, rfl, rfl, h0, r0⟩ := trodAll_cons hA
 obtain ⟨v1, vs1, d1, ds1, p1, q1, rfl, rfl, rfl, h1, r1⟩ := trodAll_cons r0
 obtain ⟨rfl, rfl, rfl⟩ := trodAll_nil r1
 obtain rfl : args = #[v0, v1] := by cases args; simp_all
 obtain ⟨rfl, rfl⟩ := trodVars_none hV
 obtain ⟨b0, len0, c0, rfl⟩ := okWide_slice Tryz.underlying41 (hval 0 41 v0 rfl rfl)
 obtain ⟨a1, rfl, rfl, rfl, w1⟩ := open_int Tryz.underlying3 (hval 1 3 v1 rfl rfl) h1
 clear hA0 hval0
 simp only [List.append_nil] at hW'
 have h0k := h0
 have hlt0 : ∀ x ∈ p0, x.block < W.heap.size := fun x hx => by simpa using hW'.lt x (by simp [hx])
 obtain ⟨fuel0, hf0⟩ := h0
 obtain ⟨a0, cap0, xs0, e0, ha0, hz0⟩ := zc3 hf0 hlt0 (fun n hn => by
  have := List.all_eq_true.1 hsz _ (DataW.weights_mem_each (j := 0) (t := 41) rfl rfl n hn)
  simpa using this)
 obtain ⟨rfl, rfl, rfl⟩ : b0 = a0 /\ len0 = xs0.length /\ c0 = cap0 := by simpa using e0
 refine (zao W _ _ _ _ ha0 hz0 ⟨env_of hL, m, hm0⟩).mono fun e W' ⟨he, hg⟩ => ?_
 subst he
 refine ⟨_, rfl, _, _, _, [], p0 ++ ([] ++ []), [], hW', ?_, ?_, rfl, hg.frame _, fun h => by cases h⟩
 ·exact trodAll_cons_mk (shut_bool Tryz.underlying4 _) trodAll_mk0
 ·exact trodAll_cons_mk (Below.trod z90 (by kernel_rfl) (of_decide_eq_true (by kernel_rfl)) h0k hg hlt0) (trodAll_cons_mk (shut_int Tryz.underlying3 w1) trodAll_mk0)
theorem parts_closed : joinedFacts Tryz.pinned.checked.prog 8 Tryz.f8 Rows.modelPartsSpec Rows.modelPartsRow = true := of_decide_eq_true (by kernel_rfl)
theorem parts_holds : Rows.ModelPartsSaid :=
 OpenClaim.holds_of_wide 8 Tryz.f8 rfl rfl rfl rfl rfl rfl rfl ⟨rfl, rfl, rfl, rfl, rfl⟩ rfl rfl rfl rfl rfl (by kernel_rfl) Tryz.func8 parts_closed
  (of_decide_eq_true (by kernel_rfl)) (by unfold Func.isWrapper; first | (rw [if_pos (by decide +kernel)]; kernel_rfl) | (rw [if_neg (by decide +kernel)]; exact ⟨rfl, rfl⟩))
  (fun os started H enc _ => parts_lifted os started H enc)
theorem parts_card : Rows.ModelPartsCardSaid :=
 Claim7.holds_tied_plain_at .later [] [.data, .data, .data, .data, .sentinel, .sentinel, .pinned] true (true, "7c33eaefe48874c13d8e2041b4710caa6340fefb4ee12db8e55b65e321b8a4ea") true
  parts_holds (fun _ h => by cases h) (by kernel_rfl) (fun _ h => by cases h) modelParts_row_tie rfl ⟨rfl, rfl⟩ (by kernel_rfl) rfl
  (fun f fn hf hfn => by
   obtain rfl : f = 8 := Option.some.inj ((show Tryz.prog.funcNamed "hornbook/hornbooklaw12.ModelParts" = some 8 by kernel_rfl).symm.trans hf) |>.symm
   obtain rfl : fn = Tryz.f8 := (Option.some.inj (Tryz.func8.symm.trans hfn)).symm
   exact ⟨by kernel_rfl, fun j t ht => by
    rw [Tryz.params8] at ht
    have hm : t ∈ [41, 3] := by simpa using Array.mem_of_getElem? ht
    have hall : ([41, 3].all fun u => !Tryz.prog.wantsStandIn u) = true := by kernel_rfl
    exact (show Tryz.prog.wantsStandIn t = false by simpa using List.all_eq_true.1 hall t (by simpa using hm))⟩)
  (by kernel_rfl)
#print axioms parts_card
end Go.Proofs.YtdkkkeoicekdgaaGreatDoor
