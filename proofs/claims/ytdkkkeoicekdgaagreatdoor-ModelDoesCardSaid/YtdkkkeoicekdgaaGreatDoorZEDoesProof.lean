/- What any command makes of any model, and what the client is told, is as the document says; which may be, too. Proved of every model and command whose texts are in reach; the tables of the program are laid as its own initialization lays them. -/
import Derived.Test.YtdkkkeoicekdgaaGreatDoorZEMld

namespace Go.Proofs.YtdkkkeoicekdgaaGreatDoor
set_option maxRecDepth 100000
open Go.ChangeShapes Go.WideShapes Go.ChangeAt Go.WideMaps Go.WideElems Go.RowKit
open Go.ChangeMaps (open_string shut_string)
open Go.Proofs.YtdkkkeoicekdgaaGreatDoor.Ca Go.Proofs.YtdkkkeoicekdgaaGreatDoor.Md
theorem does_lifted (os : Os) (started : os.Started) (H : Type) (enc : TypeId × Value -> H) :
  ReturnsInHanded {} Tryz.checked os 3 .any (fun w args => (Rows.modelDoesSpec.pre enc Tryz.prog Tryz.f3 [] false w args /\ laidMetH Tryz.prog z5t w) /\ sizedMet enc Tryz.prog Tryz.f3 (OpenSpec.ofChange Rows.modelDoesSpec) false w args)
   (Rows.modelDoesSpec.post enc Tryz.prog Tryz.f3 false true false false) := by
 refine returnsInHanded_of_calls own started (by kernel_rfl)
  (ChangeSpec.witness_shaped (enc := enc) (C := Tryz.checked) (os := os) (X := fun w _ => laidMetH Tryz.prog z5t w) false (World.laidAll Tryz.prog os z5t) #[.agg #[.int .i64 0, .slice none 0 0, .slice none 0 0], .agg #[.int .i64 0, .int .i64 0, .slice none 0 0]] 8 (World.laidAll_os _ _ _) (World.shaped_of_ZipB (by kernel_rfl) (by kernel_rfl)) (by kernel_rfl) (by kernel_rfl) (by kernel_rfl)
   (by rw [MakeChecks.laidMetH_plain _ _ _ (by kernel_rfl)]; exact laidMet_laidAll _ (by kernel_rfl) (by kernel_rfl))) ?_
 intro w0 tape i _ hsh0 _ hok hpre _;obtain ⟨_, _, _, y, l, _, _, _, _, a⟩ := hok;obtain rfl : y = Tryz.f3 := Option.some.inj (l.symm.trans Tryz.func3);obtain ⟨⟨⟨ds, gs, u, hw, _⟩, hx⟩, hz⟩ := hpre;have o := DataW.Whole.of_heap (w' := w0.forCall tape i) (by rfl) hw;have r := hz.weights hw;have hL : laidMetH Tryz.prog z5t (w0.forCall tape i) := hx.of_heap (by rfl);obtain ⟨m, z⟩ := Go.Proofs.cell_of_shapedOpen_int (P := Tryz.prog) (g := 0) (zero := #[.int .i64 0]) (t := 3) hsh0 (of_decide_eq_true (by kernel_rfl)) (by kernel_rfl) rfl (by kernel_rfl) (by kernel_rfl) Tryz.underlying3;have b : ∀ (j : Nat) t v, Tryz.f3.params[j]? = some t -> i.args[j]? = some v -> Value.okWide Tryz.prog (w0.forCall tape i) .any w0.heap.size t v := a
 suffices hcalls : Calls Tryz.prog 3 i.args (w0.forCall tape i) fun e W' => ∃ v, e = .returned v /\ Rows.modelDoesSpec.post enc Tryz.prog Tryz.f3 false true false false (w0.forCall tape i) i.args v W' by
  refine hcalls.mono fun e W' ⟨v, he, hp⟩ => ?_
  subst he;exact ChangeSpec.post_blind hp
 clear hw hz hsh0 a hx
 generalize i.args = args at *
 generalize w0.forCall tape i = W at *
 have c : ∀ (j : Nat) t v, Tryz.f3.params[j]? = some t -> args[j]? = some v -> Value.okWide Tryz.prog W .any w0.heap.size t v := b;have d := o;obtain ⟨p, q, s, hV, rfl, R, T⟩ := o;have hA : DataW.TrodAll enc Tryz.prog W 0 (fun _ => true) true Tryz.f3.params.toList args.toList ds p := s;rw [Tryz.params3] at hA c;obtain ⟨v0, U, d0, V, p0, q0, A, rfl, rfl, h0, r0⟩ := trodAll_cons hA;obtain ⟨v1, Y, d1, Z, p1, q1, rfl, rfl, rfl, h1, r1⟩ := trodAll_cons r0;obtain ⟨rfl, rfl, rfl⟩ := trodAll_nil r1
 obtain rfl : args = #[v0, v1] := by cases args; simp_all
 obtain ⟨rfl, rfl⟩ := trodVars_none hV;clear s b;simp only [List.append_nil] at d
 have f : ∀ x ∈ p0, x.block < W.heap.size := fun x hx => by simpa using d.lt x (by simp [hx])
 have B := h0
 obtain ⟨x0, D, E, F, G, rfl, I, J, L⟩ := zff (c 0 25 v0 rfl rfl) h0 f (fun n hn => by
  have := List.all_eq_true.1 r _ (DataW.weights_mem_each (j := 0) (t := 25) rfl rfl n hn)
  simpa using this)
 have k : ∀ x ∈ p1, x.block < W.heap.size := fun x hx => by simpa using d.lt x (by simp [hx])
 have M := h1
 obtain ⟨x1, b1, c1, rfl, N, O⟩ := zam (c 1 28 v1 rfl rfl) h1 k (fun n hn => by
  have := List.all_eq_true.1 r _ (DataW.weights_mem_each (j := 1) (t := 28) rfl rfl n hn)
  simpa using this)
 refine (zh9 W x0 D E F G x1 b1 c1 I J L ⟨env_of hL, m, z⟩ N O).mono fun e W' ⟨he, hg⟩ => ?_
 subst he;refine ⟨_, rfl, _, _, _, [], p0 ++ (p1 ++ []), [], d, ?_, ?_, rfl, hg.frame _, fun h => by cases h⟩
 ·exact trodAll_cons_mk (shut_bool Tryz.underlying4 _) trodAll_mk0
 ·exact trodAll_cons_mk (Below.trod z7o (by kernel_rfl) (of_decide_eq_true (by kernel_rfl)) B hg f) (trodAll_cons_mk (Below.trod z7o (by kernel_rfl) (of_decide_eq_true (by kernel_rfl)) M hg k) trodAll_mk0)
theorem does_closed : joinedFacts Tryz.pinned.checked.prog 3 Tryz.f3 Rows.modelDoesSpec Rows.modelDoesRow = true := of_decide_eq_true (by kernel_rfl)
theorem does_holds : Rows.ModelDoesSaid :=
 OpenClaim.holds_of_wide 3 Tryz.f3 rfl rfl rfl rfl rfl rfl rfl ⟨rfl, rfl, rfl, rfl, rfl⟩ rfl rfl rfl rfl rfl (by kernel_rfl) Tryz.func3 does_closed
  (of_decide_eq_true (by kernel_rfl)) (by unfold Func.isWrapper; first | (rw [if_pos (by decide +kernel)]; kernel_rfl) | (rw [if_neg (by decide +kernel)]; exact ⟨rfl, rfl⟩))
  (fun os started H enc _ => does_lifted os started H enc)
theorem does_card : Rows.ModelDoesCardSaid :=
 Claim7.holds_tied_plain_at .later [] [.data, .data, .data, .data, .sentinel, .sentinel, .pinned] true (true, "7c33eaefe48874c13d8e2041b4710caa6340fefb4ee12db8e55b65e321b8a4ea") true
  does_holds (fun _ h => by cases h) (by kernel_rfl) (fun _ h => by cases h) modelDoes_row_tie rfl ⟨rfl, rfl⟩ (by kernel_rfl) rfl
  (fun f fn hf hfn => by
   obtain rfl : f = 3 := Option.some.inj ((show Tryz.prog.funcNamed "hornbook/hornbooklaw12.ModelDoes" = some 3 by kernel_rfl).symm.trans hf) |>.symm;obtain rfl : fn = Tryz.f3 := (Option.some.inj (Tryz.func3.symm.trans hfn)).symm
   exact ⟨by kernel_rfl, fun j t ht => by
    rw [Tryz.params3] at ht
    have hm : t ∈ [25, 28] := by simpa using Array.mem_of_getElem? ht
    have a : ([25, 28].all fun u => !Tryz.prog.wantsStandIn u) = true := by kernel_rfl
    exact (show Tryz.prog.wantsStandIn t = false by simpa using List.all_eq_true.1 a t (by simpa using hm))⟩)
  (by kernel_rfl)
#print axioms does_card
end Go.Proofs.YtdkkkeoicekdgaaGreatDoor
