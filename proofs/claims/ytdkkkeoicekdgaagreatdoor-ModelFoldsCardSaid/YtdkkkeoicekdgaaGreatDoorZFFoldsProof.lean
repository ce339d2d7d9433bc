/- What any commands make from the beginning is as the document says. Proved of every list of commands whose texts are in reach; the tables of the program are laid as its own initialization lays them. -/
import Derived.Test.YtdkkkeoicekdgaaGreatDoorZFg1

namespace Go.Proofs.YtdkkkeoicekdgaaGreatDoor
set_option maxRecDepth 100000
open Go.ChangeShapes Go.WideShapes Go.ChangeAt Go.WideMaps Go.WideElems Go.RowKit
open Go.ChangeMaps (open_string shut_string)
open Go.Proofs.YtdkkkeoicekdgaaGreatDoor.Ca Go.Proofs.YtdkkkeoicekdgaaGreatDoor.Md
theorem folds_lifted (os : Os) (started : os.Started) (H : Type) (enc : TypeId × Value -> H) :
  ReturnsInHanded {} Tryz.checked os 4 .any (fun w args => (Rows.modelFoldsSpec.pre enc Tryz.prog Tryz.f4 [] false w args /\ laidMetH Tryz.prog z5m w) /\ sizedMet enc Tryz.prog Tryz.f4 (OpenSpec.ofChange Rows.modelFoldsSpec) false w args)
   (Rows.modelFoldsSpec.post enc Tryz.prog Tryz.f4 false true false false) := by
 refine returnsInHanded_of_calls own started (by kernel_rfl)
  (ChangeSpec.witness_shaped (enc := enc) (C := Tryz.checked) (os := os) (X := fun w _ => laidMetH Tryz.prog z5m w) false (World.laidAll Tryz.prog os z5m) #[.slice none 0 0] 8 (World.laidAll_os _ _ _) (World.shaped_of_ZipB (by kernel_rfl) (by kernel_rfl)) (by kernel_rfl) (by kernel_rfl) (by kernel_rfl)
   (by rw [MakeChecks.laidMetH_plain _ _ _ (by kernel_rfl)]; exact laidMet_laidAll _ (by kernel_rfl) (by kernel_rfl))) ?_
 intro w0 tape i _ hsh0 _ hok hpre _;obtain ⟨_, _, _, u, k, _, _, _, _, a⟩ := hok;obtain rfl : u = Tryz.f4 := Option.some.inj (k.symm.trans Tryz.func4);obtain ⟨⟨⟨ds, gs, s, hw, _⟩, hx⟩, hz⟩ := hpre;have l := DataW.Whole.of_heap (w' := w0.forCall tape i) (by rfl) hw;have y := hz.weights hw;have hL : laidMetH Tryz.prog z5m (w0.forCall tape i) := hx.of_heap (by rfl);obtain ⟨m, z⟩ := Go.Proofs.cell_of_shapedOpen_int (P := Tryz.prog) (g := 0) (zero := #[.int .i64 0]) (t := 3) hsh0 (of_decide_eq_true (by kernel_rfl)) (by kernel_rfl) rfl (by kernel_rfl) (by kernel_rfl) Tryz.underlying3;have b : ∀ (j : Nat) t v, Tryz.f4.params[j]? = some t -> i.args[j]? = some v -> Value.okWide Tryz.prog (w0.forCall tape i) .any w0.heap.size t v := a
 suffices hcalls : Calls Tryz.prog 4 i.args (w0.forCall tape i) fun e W' => ∃ v, e = .returned v /\ Rows.modelFoldsSpec.post enc Tryz.prog Tryz.f4 false true false false (w0.forCall tape i) i.args v W' by
  refine hcalls.mono fun e W' ⟨v, he, hp⟩ => ?_
  subst he;exact ChangeSpec.post_blind hp
 clear hw hz hsh0 a hx
 generalize i.args = args at *
 generalize w0.forCall tape i = W at *
 have c : ∀ (j : Nat) t v, Tryz.f4.params[j]? = some t -> args[j]? = some v -> Value.okWide Tryz.prog W .any w0.heap.size t v := b;have f := l;obtain ⟨p, q, o, hV, rfl, J, L⟩ := l;have hA : DataW.TrodAll enc Tryz.prog W 0 (fun _ => true) true Tryz.f4.params.toList args.toList ds p := o;rw [Tryz.params4] at hA c;obtain ⟨v0, M, d0, N, p0, q0, A, rfl, rfl, h0, r0⟩ := trodAll_cons hA;obtain ⟨rfl, rfl, rfl⟩ := trodAll_nil r0
 obtain rfl : args = #[v0] := by cases args; simp_all
 obtain ⟨rfl, rfl⟩ := trodVars_none hV;obtain ⟨b0, r, c0, rfl⟩ := okWide_slice Tryz.underlying41 (c 0 41 v0 rfl rfl);clear o b;simp only [List.append_nil] at f;have B := h0
 have d : ∀ x ∈ p0, x.block < W.heap.size := fun x hx => by simpa using f.lt x (by simp [hx])
 obtain ⟨D, E⟩ := h0
 obtain ⟨a0, cap0, F, e0, G, I⟩ := zgr E d (fun n hn => by
  have := List.all_eq_true.1 y _ (DataW.weights_mem_each (j := 0) (t := 41) rfl rfl n hn)
  simpa using this)
 obtain ⟨rfl, rfl, rfl⟩ : b0 = a0 /\ r = F.length /\ c0 = cap0 := by simpa using e0
 refine (zfe W _ _ _ G I ⟨env_of hL, m, z⟩).mono fun e W' ⟨he, hg⟩ => ?_
 subst he;refine ⟨_, rfl, _, _, _, [], p0 ++ [], [], f, ?_, ?_, rfl, hg.frame _, fun h => by cases h⟩
 ·exact trodAll_cons_mk (shut_bool Tryz.underlying4 _) trodAll_mk0
 ·exact trodAll_cons_mk (Below.trod zcx (by kernel_rfl) (of_decide_eq_true (by kernel_rfl)) B hg d) trodAll_mk0
theorem folds_closed : joinedFacts Tryz.pinned.checked.prog 4 Tryz.f4 Rows.modelFoldsSpec Rows.modelFoldsRow = true := of_decide_eq_true (by kernel_rfl)
theorem folds_holds : Rows.ModelFoldsSaid :=
 OpenClaim.holds_of_wide 4 Tryz.f4 rfl rfl rfl rfl rfl rfl rfl ⟨rfl, rfl, rfl, rfl, rfl⟩ rfl rfl rfl rfl rfl (by kernel_rfl) Tryz.func4 folds_closed
  (of_decide_eq_true (by kernel_rfl)) (by unfold Func.isWrapper; first | (rw [if_pos (by decide +kernel)]; kernel_rfl) | (rw [if_neg (by decide +kernel)]; exact ⟨rfl, rfl⟩))
  (fun os started H enc _ => folds_lifted os started H enc)
theorem folds_card : Rows.ModelFoldsCardSaid :=
 Claim7.holds_tied_plain_at .later [] [.data, .data, .data, .data, .sentinel, .sentinel, .pinned] true (true, "7c33eaefe48874c13d8e2041b4710caa6340fefb4ee12db8e55b65e321b8a4ea") true
  folds_holds (fun _ h => by cases h) (by kernel_rfl) (fun _ h => by cases h) modelFolds_row_tie rfl ⟨rfl, rfl⟩ (by kernel_rfl) rfl
  (fun f fn hf hfn => by
   obtain rfl : f = 4 := Option.some.inj ((show Tryz.prog.funcNamed "hornbook/hornbooklaw12.ModelFolds" = some 4 by kernel_rfl).symm.trans hf) |>.symm;obtain rfl : fn = Tryz.f4 := (Option.some.inj (Tryz.func4.symm.trans hfn)).symm
   exact ⟨by kernel_rfl, fun j t ht => by
    rw [Tryz.params4] at ht
    have hm : t ∈ [41] := by simpa using Array.mem_of_getElem? ht
    have a : ([41].all fun u => !Tryz.prog.wantsStandIn u) = true := by kernel_rfl
    exact (show Tryz.prog.wantsStandIn t = false by simpa using List.all_eq_true.1 a t (by simpa using hm))⟩)
  (by kernel_rfl)
#print axioms folds_card
end Go.Proofs.YtdkkkeoicekdgaaGreatDoor
