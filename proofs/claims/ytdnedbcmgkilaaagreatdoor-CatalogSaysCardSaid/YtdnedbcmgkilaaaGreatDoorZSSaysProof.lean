/- CatalogSays: which entry any key is found as, along any locale, and what it says of any arguments, is as the document says. For every list of entries, every locale, key and list of arguments, wherever the variables that are listed hold what the program text lays. -/
import Derived.Test.YtdnedbcmgkilaaaGreatDoorZSAg
import Derived.Test.YtdnedbcmgkilaaaGreatDoorZSg1
import Derived.Test.YtdnedbcmgkilaaaGreatDoorZSg41

namespace Go.Proofs.YtdnedbcmgkilaaaGreatDoor
set_option maxRecDepth 100000
open Go.ChangeShapes Go.WideShapes Go.ChangeAt Go.WideMaps Go.WideElems Go.RowKit
open Go.ChangeMaps (open_string shut_string)
open Go.Proofs.YtdnedbcmgkilaaaGreatDoor.Ca
theorem says_lifted (os : Os) (started : os.Started) (H : Type) (enc : TypeId × Value -> H) :
  ReturnsInHanded {} Tryz.checked os 5 .any (fun w args => (Rows.catalogSaysSpec.pre enc Tryz.prog Tryz.f5 [] false w args /\ laidMetH Tryz.prog z5r w) /\ sizedMet enc Tryz.prog Tryz.f5 (OpenSpec.ofChange Rows.catalogSaysSpec) false w args)
   (Rows.catalogSaysSpec.post enc Tryz.prog Tryz.f5 false true false false) := by
 refine returnsInHanded_of_calls own started (by kernel_rfl)
  (ChangeSpec.witness_shaped (enc := enc) (C := Tryz.checked) (os := os) (X := fun w _ => laidMetH Tryz.prog z5r w) false (World.laidAll Tryz.prog os z5r) #[.slice none 0 0, .string ⟨#[]⟩, .string ⟨#[]⟩, .slice none 0 0] 8 (World.laidAll_os _ _ _) (World.shaped_of_ZipB (by kernel_rfl) (by kernel_rfl)) (by kernel_rfl) (by kernel_rfl) (by kernel_rfl)
   (by rw [MakeChecks.laidMetH_plain _ _ _ (by kernel_rfl)]; exact laidMet_laidAll _ (by kernel_rfl) (by kernel_rfl))) ?_
 intro w0 tape i _ hsh0 _ hok hpre _
 obtain ⟨_, _, _, fn', hfn', _, _, _, _, hvalw⟩ := hok
 obtain rfl : fn' = Tryz.f5 := Option.some.inj (hfn'.symm.trans Tryz.func5)
 obtain ⟨⟨⟨ds, gs, before, hw, _⟩, hx⟩, hz⟩ := hpre
 have hW0 := DataW.Whole.of_heap (w' := w0.forCall tape i) (by rfl) hw
 have hsz := hz.weights hw
 have hL : laidMetH Tryz.prog z5r (w0.forCall tape i) := hx.of_heap (by rfl)
 obtain ⟨m, hm0⟩ := Go.Proofs.cell_of_shapedOpen_int (P := Tryz.prog) (g := 0) (zero := #[.int .i64 0]) (t := 3) hsh0 (of_decide_eq_true (by kernel_rfl)) (by kernel_rfl) rfl (by kernel_rfl) (by kernel_rfl) Tryz.underlying3
 have hval0 : ∀ (j : Nat) t v, Tryz.f5.params[j]? = some t -> i.args[j]? = some v -> Value.okWide Tryz.prog (w0.forCall tape i) .any w0.heap.size t v := hvalw
 suffices hcalls : Calls Tryz.prog 5 i.args (w0.forCall tape i) fun e W' => ∃ v, e = .returned v /\ Rows.catalogSaysSpec.post enc Tryz.prog Tryz.f5 false true false false (w0.forCall tape i) i.args v W' by
  refine hcalls.mono fun e W' ⟨v, he, hp⟩ => ?_
  subst he
  exact ChangeSpec.post_blind hp
 clear hw hz hsh0 hvalw hx
 generalize i.args = args at *
 generalize w0.forCall tape i = W at *
 have hval : ∀ (j : Nat) t v, Tryz.f5.params[j]? = some t -> args[j]? = some v -> Value.okWide Tryz.prog W .any w0.heap.size t v := hval0
 have hW' := hW0
 obtain ⟨p, q, hA0, hV, rfl, hfz, hnd⟩ := hW0
 have hA : DataW.TrodAll enc Tryz.prog W 0 (fun _ => true) true Tryz.f5.params.toList args.toList ds p := hA0
 rw [Tryz.params5] at hA hval
 obtain ⟨v0, vs0, d0, ds0, p0, q0, hargs, rfl, rfl, h0, r0⟩ := trodAll_cons hA
 obtain ⟨v1, vs1, d1, ds1, p1, q1, rfl, rfl, rfl, h1, r1⟩ := trodAll_cons r0
 obtain ⟨v2, vs2, d2, ds2, p2, q2, rfl, rfl, rfl, h2, r2⟩ := trodAll_cons r1
 obtain ⟨v3, vs3, d3, ds3, p3, q3, rfl, rfl, rfl, h3, r3⟩ := trodAll_cons r2
 obtain ⟨rfl, rfl, rfl⟩ := trodAll_nil r3
 obtain rfl : args = #[v0, v1, v2, v3] := by cases args; simp_all
 obtain ⟨rfl, rfl⟩ := trodVars_none hV
 obtain ⟨b0, len0, c0, rfl⟩ := okWide_slice Tryz.underlying22 (hval 0 22 v0 rfl rfl)
 obtain ⟨a1, rfl, rfl, rfl, w1⟩ := open_string Tryz.underlying9 (hval 1 9 v1 rfl rfl) h1
 obtain ⟨a2, rfl, rfl, rfl, w2⟩ := open_string Tryz.underlying9 (hval 2 9 v2 rfl rfl) h2
 obtain ⟨b3, len3, c3, rfl⟩ := okWide_slice Tryz.underlying36 (hval 3 36 v3 rfl rfl)
 clear hA0 hval0
 simp only [List.append_nil] at hW'
 have h0k := h0
 have hlt0 : ∀ x ∈ p0, x.block < W.heap.size := fun x hx => by simpa using hW'.lt x (by simp [hx])
 obtain ⟨fuel0, hf0⟩ := h0
 obtain ⟨a0, cap0, xs0, e0, ha0, hz0⟩ := zb3 hf0 hlt0 (fun n hn => by
  have := List.all_eq_true.1 hsz _ (DataW.weights_mem_each (j := 0) (t := 22) rfl rfl n hn)
  simpa using this)
 obtain ⟨rfl, rfl, rfl⟩ : b0 = a0 /\ len0 = xs0.length /\ c0 = cap0 := by simpa using e0
 have s1 : a1.size <= 140737488351232 := by
  have := sized_string hsz (j := 1) (t := 9) rfl rfl
  simpa [reachBytes] using this
 have s2 : a2.size <= 140737488351232 := by
  have := sized_string hsz (j := 2) (t := 9) rfl rfl
  simpa [reachBytes] using this
 have h3k := h3
 have hlt3 : ∀ x ∈ p3, x.block < W.heap.size := fun x hx => by simpa using hW'.lt x (by simp [hx])
 obtain ⟨fuel3, hf3⟩ := h3
 obtain ⟨a3, cap3, xs3, e3, ha3, hz3⟩ := zhf hf3 hlt3 (fun n hn => by
  have := List.all_eq_true.1 hsz _ (DataW.weights_mem_each (j := 3) (t := 36) rfl rfl n hn)
  simpa using this)
 obtain ⟨rfl, rfl, rfl⟩ : b3 = a3 /\ len3 = xs3.length /\ c3 = cap3 := by simpa using e3
 refine (says_any W _ _ _ a1 a2 _ _ _ ha0 hz0 s1 ha3 hz3 ⟨env_of hL, m, hm0⟩).mono fun e W' ⟨he, hg⟩ => ?_
 subst he
 refine ⟨_, rfl, _, _, _, [], p0 ++ ([] ++ ([] ++ (p3 ++ []))), [], hW', ?_, ?_, rfl, hg.frame _, fun h => by cases h⟩
 ·exact trodAll_cons_mk (shut_bool Tryz.underlying4 _) trodAll_mk0
 ·exact trodAll_cons_mk (Below.trod z7j (by kernel_rfl) (of_decide_eq_true (by kernel_rfl)) h0k hg hlt0) (trodAll_cons_mk (shut_string Tryz.underlying9 w1) (trodAll_cons_mk (shut_string Tryz.underlying9 w2) (trodAll_cons_mk (Below.trod z7j (by kernel_rfl) (of_decide_eq_true (by kernel_rfl)) h3k hg hlt3) trodAll_mk0)))
theorem says_holds : Rows.CatalogSaysSaid :=
 OpenClaim.holds_of_wide 5 Tryz.f5 rfl rfl rfl rfl rfl rfl rfl ⟨rfl, rfl, rfl, rfl, rfl⟩ rfl rfl rfl rfl rfl (by kernel_rfl) Tryz.func5 (by kernel_rfl)
  (of_decide_eq_true (by kernel_rfl)) (by unfold Func.isWrapper; first | (rw [if_pos (by decide +kernel)]; kernel_rfl) | (rw [if_neg (by decide +kernel)]; exact ⟨rfl, rfl⟩))
  (fun os started H enc _ => says_lifted os started H enc)
theorem says_card : Rows.CatalogSaysCardSaid :=
 Claim7.holds_tied_plain_at .later [] [.data, .data, .data, .data, .sentinel, .sentinel, .pinned] true (true, "c6de902049f4df0746a9cc34c712b4e6b603f802dd59d8c2e41876b5e14d0067") true
  says_holds (fun _ h => by cases h) (by kernel_rfl) (fun _ h => by cases h) catalogSays_row_tie rfl ⟨rfl, rfl⟩ (by kernel_rfl) rfl
  (fun f fn hf hfn => by
   obtain rfl : f = 5 := Option.some.inj ((show Tryz.prog.funcNamed "hornbook/hornbooklaw11.CatalogSays" = some 5 by kernel_rfl).symm.trans hf) |>.symm
   obtain rfl : fn = Tryz.f5 := (Option.some.inj (Tryz.func5.symm.trans hfn)).symm
   exact ⟨by kernel_rfl, fun j t ht => by
    rw [Tryz.params5] at ht
    have hm : t ∈ [22, 9, 9, 36] := by simpa using Array.mem_of_getElem? ht
    have hall : ([22, 9, 9, 36].all fun u => !Tryz.prog.wantsStandIn u) = true := by kernel_rfl
    exact (show Tryz.prog.wantsStandIn t = false by simpa using List.all_eq_true.1 hall t (by simpa using hm))⟩)
  (by kernel_rfl)
#print axioms says_card
end Go.Proofs.YtdnedbcmgkilaaaGreatDoor
