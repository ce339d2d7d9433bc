/- What is composed of two strings, by package delta. -/
import Derived.Test.YtmagcikaepobiaaCom
namespace Go.Proofs.Ytmagcikaepobiaa.Dl
open Go.RowKit Go.Maps Go.WideShapes Go.WideMaps

theorem look_good {s : BA} {D : DataW Unit} {l : List UInt8} {c : Int} (h : GoodD s D) (hat : D.atKey (.string l) (.lit (.int .i64 0)) = .lit (.int .i64 c)) : Maps.has D (.string l) = false ∨ (Maps.has D (.string l) = true ∧ ∃ f : Nat, c = f ∧ f + 16 ≤ s.size ∧ (s.data.toList.drop f).take 16 = l) := by
  cases hh : Maps.has D (.string l) with
  | false => exact .inl rfl
  | true => exact .inr ⟨rfl, h l hh c hat⟩
theorem owns_low {w : World} {B B' : Nat} {e : TypeId} {k n : Nat} {v : Value} {xs : List Value} (h : w.ownsRow B e k v n xs) (hB : B' ≤ B) : w.ownsRow B' e k v n xs := by
  refine ⟨h.1, ?_⟩
  rcases h.2 with h0 | ⟨g, cap, cur, hv, hb, hr⟩
  · exact .inl h0
  · exact .inr ⟨g, cap, cur, hv, Nat.le_trans hB hb, hr⟩
/-- What is common to two strings from places on that begin alike. -/
theorem com_facts {old now : BA} {f k : Nat} (hf : f + 16 ≤ old.size) (hk : k + 16 ≤ now.size) (he : (old.data.toList.drop f).take 16 = (now.data.toList.drop k).take 16) :
    ∃ s : Nat, comF (old.extract f old.size).data.toList (now.extract k now.size).data.toList = s ∧ 16 ≤ s ∧ f + s ≤ old.size ∧ k + s ≤ now.size ∧ (old.data.toList.drop f).take s = (now.data.toList.drop k).take s := by
  have e1 : (old.extract f old.size).data.toList = old.data.toList.drop f := by
    rw [ext_list, List.take_of_length_le (by rw [List.length_drop, BA.len]; omega)]
  have e2 : (now.extract k now.size).data.toList = now.data.toList.drop k := by
    rw [ext_list, List.take_of_length_le (by rw [List.length_drop, BA.len]; omega)]
  rw [e1, e2]
  have l1 : (old.data.toList.drop f).length = old.size - f := by rw [List.length_drop, BA.len]
  have l2 : (now.data.toList.drop k).length = now.size - k := by rw [List.length_drop, BA.len]
  have h1 := comF_le1 (old.data.toList.drop f) (now.data.toList.drop k)
  have h2 := comF_le2 (old.data.toList.drop f) (now.data.toList.drop k)
  have h3 := comF_ge 16 (old.data.toList.drop f) (now.data.toList.drop k) (by omega) (by omega) he
  exact ⟨_, rfl, h3, by omega, by omega, comF_take _ _⟩

theorem om_keep {w w' : World} {b n : Nat} {D : DataW Unit} (h : OM w b n D) (hk : w'.heap[b]? = w.heap[b]?) : OM w' b n D := by
  obtain ⟨es, clock, hb, r⟩ := h
  exact ⟨es, clock, hk.trans hb, r⟩
theorem own_more {w : World} {B g c : Nat} {d : List Opr} {f n : Int} {t : BA} (h : w.ownsRow B 30 3 (.slice (some ⟨g, 0, none⟩) (d.length + 1) c) (d.length + 1) (flat d ++ [.int .i64 f, .int .i64 n, .string t])) : Own w B (.slice (some ⟨g, 0, none⟩) (d.length + 1) c) (d ++ [⟨f, n, t⟩]) := by
  unfold Own; rw [flat_append, List.length_append]; exact h
section
variable {w w' : World} {o : Obj} {B b : Nat} {v : Value} {d : List Opr}
theorem grow_block (hg : (w.alloc o).grownBy w' v.ownBlock) (hv : Own w B v d) (hB : B ≤ w.heap.size) (hb : b < B) : w'.heap[b]? = w.heap[b]? :=
  (hg.block b (by simp; omega) (fun e => by have := (hv.lt b e.symm).1; omega)).trans (Below.heap_alloc _ _ _ (by omega))
theorem grow_size (hg : (w.alloc o).grownBy w' v.ownBlock) : w.heap.size ≤ w'.heap.size := by
  have := hg.size
  rw [World.size_alloc] at this; omega
theorem grow_below {A : Nat} (hg : (w.alloc o).grownBy w' v.ownBlock) (hv : Own w B v d) (hB : B ≤ w.heap.size) (hA : A ≤ B) : Below A w w' :=
  ((Below.refl A w).alloc (by omega) o).grown hg (by simp; omega) (fun k hk => by have := (hv.lt k hk).1; omega)
end

set_option maxHeartbeats 6400000 in
set_option maxRecDepth 100000 in
theorem composed_any (w : World) (old now : BA) (ho : old.size ≤ 131072) (hn : now.size ≤ 131072) : Calls Try.prog 25 #[.string old, .string now] w fun e w' => ∃ v, e = .returned v ∧ (∃ d, Own w' w.heap.size v d ∧ Made old now d) ∧ Below w.heap.size w w' := by
  obtain ⟨i0, hi, hz0, hz1, hz2⟩ := info_parts infoOp
  go_enter Try.func25, Try.ntmps25
  go_wp2_with fail
  refine (places_any w old ho).mono ?_
  rintro e w1 ⟨rfl, ⟨nn, D, hom, hgd⟩, hb1⟩
  have hmb := hom.lt
  have HG := Lib.hid hgd
  have HM1 := Lib.hid hom
  have HB1 := Lib.hid hb1
  clear hom hgd hb1
  go_wp2
  go_loopw [6, 7, 8, 19] (fun v c dn i wr => ∃ (d : List Opr) (co done k : Nat), c = .int .i64 co ∧ dn = .int .i64 done ∧ i = .int .i64 k ∧ (k : Int) ≤ max 0 ((now.size : Int) - 15) ∧ co ≤ 999 ∧ Hid (Cmp old now d done co) ∧ Hid (Own wr w1.heap.size v d) ∧ Hid (OM wr w.heap.size nn D) ∧ Hid (Below w.heap.size w wr) ∧ Hid (w1.heap.size ≤ wr.heap.size)) (fun _ _ _ i _ => 131072 - (intOf i).toNat)
  case atStart => exact ⟨[], 0, 0, 0, rfl, rfl, rfl, by omega, by omega, Lib.hid (cmp_nil _ _), Lib.hid ⟨rfl, .inl ⟨rfl, rfl⟩⟩, HM1, HB1, Lib.hid (Nat.le_refl _)⟩
  case round =>
    obtain ⟨d, co, done, k, rfl, rfl, rfl, hk, hco, HC, HO, HM, HB, HS⟩ := hrel
    have hdn := HC.out.le
    have hdl := HC.out.len
    have HEND := Lib.hid (HC.out.made hco hn)
    have HB1s := Lib.hid HB1.out.size
    by_cases hlt : (k : Int) < (now.size : Int) - 15
    · by_cases h999 : co = 999
      · subst h999
        have hd2 : (done : Int) ≤ (now.size : Int) := by omega
        go_wp2_with fail
        refine (inserted_any w1.heap.size wr _ d (now.extract done now.size) HO.out HS.out (by omega) (by rw [ByteArray.size_extract]; omega)).mono ?_
        rintro e w5 ⟨v', rfl, hv', hb5⟩
        have HV5 := Lib.hid (owns_low hv' HB1s.out)
        have HB5 := Lib.hid (HB.out.trans (hb5.mono HB1s.out))
        clear hv' hb5
        go_wp2
        go_ret
        exact ⟨_, rfl, ⟨_, HV5.out, HEND.out⟩, HB5.out⟩
      · by_cases hkd : k < done
        · have hco2 : ¬ (co : Int) = 999 := by omega
          have hkd2 : (k : Int) < (done : Int) := by omega
          go_wp2
          go_roundw
          case rel => exact ⟨d, co, done, k + 1, rfl, rfl, by go_num, by omega, by omega, HC, HO, HM, HB, HS⟩
          case measure => simp [intOf]; omega
        · have hco2 : ¬ (co : Int) = 999 := by omega
          have hkd2 : ¬ (k : Int) < (done : Int) := by omega
          have hk16 : k + 16 ≤ now.size := by omega
          have hb1 : (k : Int) ≤ k + 16 := by omega
          have ht : ((k : Int) + 16).toNat = k + 16 := by omega
          obtain ⟨KL, hKL⟩ : ∃ l, l = (now.extract k (k + 16)).data.toList := ⟨_, rfl⟩
          have HK : Hid (keyOf Try.prog 9 (.string (now.extract k (k + 16))) = some (.string KL)) := Lib.hid (by rw [hKL]; exact keyOf_string_mk Try.underlying9 (by rw [ByteArray.size_extract]; unfold maxLen; omega))
          have HKL : Hid (KL = (now.data.toList.drop k).take 16) := Lib.hid (by rw [hKL, ext_list, show k + 16 - k = 16 by omega])
          clear hKL
          go_wp2_with (at_lookup; refine wpList_lookup_own_ok_int _ rfl _ _ 57 rfl 9 3 .i64 lawS Try.underlying57 Try.underlying3 (zeroI _) w.heap.size _ _ rfl HM.out _ _ rfl HK.out ?_; intro c hat hwc; have hor := look_good HG.out hat; clear hat hwc; rcases hor with hh | ⟨hh, f, rfl, hf1, hf2⟩ <;> (rw [hh]; clear hh))
          · go_roundw
            case rel => exact ⟨d, co, done, k + 1, rfl, rfl, by go_num, by omega, by omega, HC, HO, HM, HB, HS⟩
            case measure => simp [intOf]; omega
          · obtain ⟨s, hs, hs1, hs2, hs3, hs4⟩ := com_facts (now := now) hf1 hk16 (by rw [hf2, HKL.out])
            have HSS := Lib.hid hs
            have HSTEP := Lib.hid (HC.out.step (at' := k) (by omega) hs1 hs2 hs3 ho hn hs4)
            have HQ : Hid (∀ m, Calls Try.prog 30 #[.string (old.extract f old.size), .string (now.extract k now.size)] (wr.drewN m) fun e w'' => e = .returned (.int .i64 s) ∧ ∃ m, w'' = wr.drewN m) := Lib.hid (fun m => Calls.quiet_of (by
              rw [← HSS.out]
              exact common_any _ _ _ (by rw [ByteArray.size_extract]; omega) (by rw [ByteArray.size_extract]; omega)))
            clear hs hs4 hf2 HKL HK
            have g1 : (f : Int) ≤ (old.size : Int) := by omega
            have g2 : (k : Int) ≤ (now.size : Int) := by omega
            go_quiet ((go_at_call 30; exact HQ.out _))
            have HO5 : Hid (Own (wr.drewN nq) w1.heap.size u6 d) := Lib.hid (by unfold Own; exact HO.out)
            have HM5 : Hid (OM (wr.drewN nq) w.heap.size nn D) := Lib.hid (om_keep HM.out rfl)
            have HB5 : Hid (Below w.heap.size w (wr.drewN nq)) := Lib.hid (below_drewN HB.out nq)
            have HS5 : Hid (w1.heap.size ≤ (wr.drewN nq).heap.size) := Lib.hid HS.out
            have hlen : (insD d (now.extract done k)).length ≤ 2 * co + 1 := (HC.out.ins (at' := k) (by omega) (by omega) hn).2.2.1
            generalize wr.drewN nq = w5 at *
            have hd2 : (done : Int) ≤ (k : Int) := by omega
            go_wp2_with fail
            refine (inserted_any w1.heap.size w5 _ d (now.extract done k) HO5.out HS5.out (by omega) (by rw [ByteArray.size_extract]; omega)).mono ?_
            rintro e w6 ⟨v', rfl, hv6, hb6⟩
            have HM6 : Hid (OM w6 w.heap.size nn D) := Lib.hid (om_keep HM5.out (hb6.block _ hmb))
            have HB6 := Lib.hid (HB5.out.trans (hb6.mono HB1s.out))
            have HS6 := Lib.hid (Nat.le_trans HS5.out hb6.size)
            have HV6 := Lib.hid hv6
            clear hv6 hb6
            generalize insD d (now.extract done k) = d6 at *
            go_wp2_with (at_builtin; refine wpList_append_lies _ rfl _ _ 22 rfl w1.heap.size 30 i0 _ 3 32 Try.underlying22 hi hz0 hz1 hz2 rfl (by decide) _ _ _ rfl (HV6.out.alloc _) _ 1 1 [.int .i64 f, .int .i64 s, .string ByteArray.empty] rfl rfl (cell_n3 _ _ _ _ _ rfl) (by simp [Value.oneCell']) (by decide) (by unfold maxLen; omega) (by omega) (by have := HS6.out; simp; omega) (w6.heap.size + 1) (by simp) ?_; intro g c w7 hown hgrow _ _; have HO7 := Lib.hid (own_more hown); have HM7 := Lib.hid (om_keep HM6.out (grow_block hgrow HV6.out HS6.out hmb)); have HB7 := Lib.hid (HB6.out.trans (grow_below hgrow HV6.out HS6.out HB1s.out)); have HS7 := Lib.hid (Nat.le_trans HS6.out (grow_size hgrow)); clear hown hgrow)
            go_roundw
            case rel => exact ⟨_, co + 1, k + s, k + 1, by go_num, by go_num, by go_num, by omega, by omega, HSTEP, HO7, HM7, HB7, HS7⟩
            case measure => simp [intOf]; omega
    · have hd2 : (done : Int) ≤ (now.size : Int) := by omega
      go_wp2_with fail
      refine (inserted_any w1.heap.size wr _ d (now.extract done now.size) HO.out HS.out (by omega) (by rw [ByteArray.size_extract]; omega)).mono ?_
      rintro e w5 ⟨v', rfl, hv', hb5⟩
      have HV5 := Lib.hid (owns_low hv' HB1s.out)
      have HB5 := Lib.hid (HB.out.trans (hb5.mono HB1s.out))
      clear hv' hb5
      go_wp2
      go_ret
      exact ⟨_, rfl, ⟨_, HV5.out, HEND.out⟩, HB5.out⟩
end Go.Proofs.Ytmagcikaepobiaa.Dl
