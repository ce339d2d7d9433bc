/- A command that is done twice changes nothing the second time, and is told the same; the Version rises by one just if OK is told for the first time. Proved of every model and command whose texts are in reach; the tables of the program are laid as its own initialization lays them. -/
import Derived.Test.YtdkkkeoicekdgaaGreatDoorZAg52

namespace Go.Proofs.YtdkkkeoicekdgaaGreatDoor
set_option maxRecDepth 100000
open Go.ChangeShapes Go.WideShapes Go.ChangeAt Go.WideMaps Go.WideElems Go.RowKit
open Go.ChangeMaps (open_string shut_string)
open Go.Proofs.YtdkkkeoicekdgaaGreatDoor.Ca Go.Proofs.YtdkkkeoicekdgaaGreatDoor.Md
theorem twice_lifted (os : Os) (started : os.Started) (H : Type) (enc : TypeId × Value -> H) :
  ReturnsInHanded {} Tryz.checked os 7 .any (fun w args => (Rows.modelTwiceSpec.pre enc Tryz.prog Tryz.f7 [] false w args /\ laidMetH Tryz.prog z3r w) /\ sizedMet enc Tryz.prog Tryz.f7 (OpenSpec.ofChange Rows.modelTwiceSpec) false w args)
   (Rows.modelTwiceSpec.post enc Tryz.prog Tryz.f7 false true false false) := by
 refine returnsInHanded_of_calls own started (by kernel_rfl)
  (ChangeSpec.witness_shaped (enc := enc) (C := Tryz.checked) (os := os) (X := fun w _ => laidMetH Tryz.prog z3r w) false (World.laidAll Tryz.prog os z3r) #[.agg #[.int .i64 0, .slice none 0 0, .slice none 0 0], .agg #[.int .i64 0, .int .i64 0, .slice none 0 0]] 8 (World.laidAll_os _ _ _) (World.shaped_of_ZipB (by kernel_rfl) (by kernel_rfl)) (by kernel_rfl) (by kernel_rfl) (by kernel_rfl)
   (by rw [MakeChecks.laidMetH_plain _ _ _ (by kernel_rfl)]; exact laidMet_laidAll _ (by kernel_rfl) (by kernel_rfl))) ?_
 intro w0 tape i _ hsh0 _ hok hpre _
 obtain ⟨_, _, _, fn', hfn', _, _, _, _, hvalw⟩ := hok
 obtain rfl : fn' = Tryz.f7 := Option.some.inj (hfn'.symm.trans Tryz.func7)
 obtain ⟨⟨⟨ds, gs, before, hw, _⟩, hx⟩, hz⟩ := hpre
 have hW0 := DataW.Whole.of_heap (w' := w0.forCall tape i) (by rfl) hw
 have hsz := hz.weights hw
 have hL : laidMetH Tryz.prog z3r (w0.forCall tape i) := hx.of_heap (by rfl)
 obtain ⟨m, hm0⟩ := Go.Proofs.cell_of_shapedOpen_int (P := Tryz.prog) (g := 0) (zero := #[.int .i64 0]) (t := 3) hsh0 (of_decide_eq_true (by kernel_rfl)) (by kernel_rfl) rfl (by kernel_rfl) (by kernel_rfl) Tryz.underlying3
 have hval0 : ∀ (j : Nat) t v, Tryz.f7.params[j]? = some t -> i.args[j]? = some v -> Value.okWide Tryz.prog (w0.forCall tape i) .any w0.heap.size t v := hvalw
 suffices hcalls : Calls Tryz.prog 7 i.args (w0.forCall tape i) fun e W' => ∃ v, e = .returned v /\ Rows.modelTwiceSpec.post enc Tryz.prog Tryz.f7 false true false false (w0.forCall tape i) i.args v W' by
  refine hcalls.mono fun e W' ⟨v, he, hp⟩ => ?_
  subst he
  exact ChangeSpec.post_blind hp
 clear hw hz hsh0 hvalw hx
 generalize i.args = args at *
 generalize w0.forCall tape i = W at *
 have hval : ∀ (j : Nat) t v, Tryz.f7.params[j]? = some t -> args[j]? = some v -> Value.okWide Tryz.prog W .any w0.heap.size t v := hval0
 have hW' := hW0
 obtain ⟨p, q, hA0, hV, rfl, hfz, hnd⟩ := hW0
 have hA : DataW.TrodAll enc Tryz.prog W 0 (fun _ => true) true Tryz.f7.params.toList args.toList ds p := hA0
 rw [Tryz.params7] at hA hval
 obtain ⟨v0, vs0, d0, ds0, p0, q0, hargs, rfl, rfl, h0, r0⟩ := trodAll_cons hA
 obtain ⟨v1, vs1, d1, ds1, p1, q1, rfl, rfl, rfl, h1, r1⟩ := trodAll_cons r0
 obtain ⟨rfl, rfl, rfl⟩ := trodAll_nil r1
 obtain rfl : args = #[v0, v1] := by cases args; simp_all
 obtain ⟨rfl, rfl⟩ := trodVars_none hV
 clear hA0 hval0
 simp only [List.append_nil] at hW'
 have hlt0 : ∀ x ∈ p0, x.block < W.heap.size := fun x hx => by simpa using hW'.lt x (by simp [hx])
 have h0k := h0
 obtain ⟨x0, ae0, ce0, ac0, cc0, rfl, he0, hc0, hz0⟩ := zaj (hval 0 25 v0 rfl rfl) h0 hlt0 (fun n hn => by
  have := List.all_eq_true.1 hsz _ (DataW.weights_mem_each (j := 0) (t := 25) rfl rfl n hn)
  simpa using this)
 have hlt1 : ∀ x ∈ p1, x.block < W.heap.size := fun x hx => by simpa using hW'.lt x (by simp [hx])
 have h1k := h1
 obtain ⟨x1, b1, c1, rfl, hh1, hz1⟩ := z7e (hval 1 28 v1 rfl rfl) h1 hlt1 (fun n hn => by
  have := List.all_eq_true.1 hsz _ (DataW.weights_mem_each (j := 1) (t := 28) rfl rfl n hn)
  simpa using this)
 refine (zak W x0 ae0 ce0 ac0 cc0 x1 b1 c1 he0 hc0 hz0 ⟨env_of hL, m, hm0⟩ hh1 hz1).mono fun e W' ⟨he, hg⟩ => ?_
 subst he
 refine ⟨_, rfl, _, _, _, [], p0 ++ (p1 ++ []), [], hW', ?_, ?_, rfl, hg.frame _, fun h => by cases h⟩
 ·exact trodAll_cons_mk (shut_bool Tryz.underlying4 _) trodAll_mk0
 ·exact trodAll_cons_mk (Below.trod z58 (by kernel_rfl) (of_decide_eq_true (by kernel_rfl)) h0k hg hlt0) (trodAll_cons_mk (Below.trod z58 (by kernel_rfl) (of_decide_eq_true (by kernel_rfl)) h1k hg hlt1) trodAll_mk0)
theorem twice_closed : joinedFacts Tryz.pinned.checked.prog 7 Tryz.f7 Rows.modelTwiceSpec Rows.modelTwiceRow = true := of_decide_eq_true (by kernel_rfl)
theorem twice_holds : Rows.ModelTwiceSaid :=
 OpenClaim.holds_of_wide 7 Tryz.f7 rfl rfl rfl rfl rfl rfl rfl ⟨rfl, rfl, rfl, rfl, rfl⟩ rfl rfl rfl rfl rfl (by kernel_rfl) Tryz.func7 twice_closed
  (of_decide_eq_true (by kernel_rfl)) (by unfold Func.isWrapper; first | (rw [if_pos (by decide +kernel)]; kernel_rfl) | (rw [if_neg (by decide +kernel)]; exact ⟨rfl, rfl⟩))
  (fun os started H enc _ => twice_lifted os started H enc)
theorem twice_card : Rows.ModelTwiceCardSaid :=
 Claim7.holds_tied_plain_at .later [] [.data, .data, .data, .data, .sentinel, .sentinel, .pinned] true (true, "7c33eaefe48874c13d8e2041b4710caa6340fefb4ee12db8e55b65e321b8a4ea") true
  twice_holds (fun _ h => by cases h) (by kernel_rfl) (fun _ h => by cases h) modelTwice_row_tie rfl ⟨rfl, rfl⟩ (by kernel_rfl) rfl
  (fun f fn hf hfn => by
   obtain rfl : f = 7 := Option.some.inj ((show Tryz.prog.funcNamed "hornbook/hornbooklaw12.ModelTwice" = some 7 by kernel_rfl).symm.trans hf) |>.symm
   obtain rfl : fn = Tryz.f7 := (Option.some.inj (Tryz.func7.symm.trans hfn)).symm
   exact ⟨by kernel_rfl, fun j t ht => by
    rw [Tryz.params7] at ht
    have hm : t ∈ [25, 28] := by simpa using Array.mem_of_getElem? ht
    have hall : ([25, 28].all fun u => !Tryz.prog.wantsStandIn u) = true := by kernel_rfl
    exact (show Tryz.prog.wantsStandIn t = false by simpa using List.all_eq_true.1 hall t (by simpa using hm))⟩)
  (by kernel_rfl)
#print axioms twice_card
end Go.Proofs.YtdkkkeoicekdgaaGreatDoor
