/- The document's Scan: what the call answers. -/
import Derived.Test.YtljbbhbebplknaaOne
import Derived.Test.YtljbbhbebplknaaLike
namespace Go.Proofs.Ytljbbhbebplknaa
open Go.RowKit Go.Shelf

theorem ownsRow_below {w w' : World} {base : Nat} {e : TypeId} {size : Nat} {v : Value} {n : Nat} {xs : List Value} (h : w.ownsRow base e size v n xs) (hb : Below w.heap.size w w') : w'.ownsRow base e size v n xs := by
  refine ⟨h.1, ?_⟩
  rcases h.2 with h0 | ⟨g, cap, cur, hv, hbs, hh, hr⟩
  · exact .inl h0
  · exact .inr ⟨g, cap, cur, hv, hbs, (hb.block g (Array.getElem?_eq_some_iff.1 hh).1).trans hh, hr⟩

/-- How far the document's reading has come. -/
structure RScanI (w : World) (c : Bs) (xs : List ByteArray) (v : Value) (n : Nat) (W : World) : Prop where
  short : ∀ b, b ∈ xs.map (·.data.toList) → b.length ≤ 65536
  at_ : n = (framesF (xs.map (·.data.toList))).length
  pre : framesF (xs.map (·.data.toList)) <+: c
  own : W.ownsRow w.heap.size 9 1 v xs.length (xs.map Value.string)
  below : Below w.heap.size w W

theorem rscan_step {w W : World} {c : Bs} {xs : List ByteArray} {v : Value} {n : Nat} (h : RScanI w c xs v n W) {b : ByteArray} (hb : firstF (c.drop n) = some b.data.toList) :
    b.size ≤ 65536 ∧ n + b.size + 12 ≤ c.length ∧ (∀ x, x ∈ (xs ++ [b]).map (·.data.toList) → x.length ≤ 65536) ∧ n + b.size + 12 = (framesF ((xs ++ [b]).map (·.data.toList))).length ∧ framesF ((xs ++ [b]).map (·.data.toList)) <+: c := by
  obtain ⟨h1, t, ht⟩ := (firstF_iff _ _).1 hb
  have e1 : (xs ++ [b]).map (fun x : ByteArray => x.data.toList) = xs.map (fun x : ByteArray => x.data.toList) ++ [b.data.toList] := by simp
  have e2 : c = framesF (xs.map (·.data.toList)) ++ c.drop n := by
    obtain ⟨u, hu⟩ := h.pre
    rw [← hu, h.at_, List.drop_left' rfl]
  have e3 : framesF ((xs ++ [b]).map (fun x : ByteArray => x.data.toList)) <+: c := by
    rw [e1, framesF_snoc, e2, ← ht]
    exact (List.prefix_append_right_inj _).2 (List.prefix_append _ _)
  have e4 : n + b.size + 12 = (framesF ((xs ++ [b]).map (fun x : ByteArray => x.data.toList))).length := by
    rw [e1, framesF_snoc, List.length_append, ← h.at_, frameF_length, ba_len]; omega
  refine ⟨by rw [ba_len] at h1; exact h1, ?_, ?_, e4, e3⟩
  · rw [e4]; exact e3.length_le
  · intro x hx
    rw [e1] at hx
    rcases List.mem_append.1 hx with hx | hx
    · exact h.short x hx
    · rw [List.mem_singleton.1 hx]; exact h1

set_option maxRecDepth 100000 in
set_option maxHeartbeats 3200000 in
theorem rscan_any (c : ByteArray) (w : World) (hc : c.size ≤ 1000000) : Calls Try.prog 15 #[.string c] w fun e w' => ∃ (a : Option Addr) (cap : Nat) (xs : List ByteArray) (n : Nat), Scanned c.data.toList (xs.map (·.data.toList)) n ∧ e = .returned (.tuple #[.slice a xs.length cap, .int .i64 (n : Nat)]) ∧ Reads w' a cap xs ∧ Below w.heap.size w w' := by
  obtain ⟨i0, hi, hz0, hz1, hz2⟩ := info_parts info9
  go_enter Try.func15, Try.ntmps15
  go_wp2
  go_loopw [4, 5] (fun v i wr => ∃ (xs : List ByteArray) (a : Option Addr) (cap n : Nat), v = .slice a xs.length cap ∧ i = .int .i64 n ∧ n ≤ c.size ∧ Hid (RScanI w c.data.toList xs v n wr)) (fun _ i _ => c.size - (intOf i).toNat)
  case atStart => 
    exact ⟨[], _, 0, 0, rfl, rfl, by omega, Lib.hid { short := fun b hb => by simp at hb, at_ := rfl, pre := List.nil_prefix, own := World.ownsRow_made w #[] 0 (Nat.le_refl _) (by unfold maxLen; omega) rfl, below := below1 _ _ }⟩
  case round =>
    obtain ⟨xs, a, cap, n, rfl, rfl, hn, HI⟩ := hrel
    have HO : Hid (∀ W, Calls Try.prog 21 #[.string (c.extract n c.size)] W fun e w' => OneIs (c.data.toList.drop n) e ∧ Below W.heap.size W w') := Lib.hid (fun W => by
      have := one_any (c.extract n c.size) W (by rw [extract_size _ _ _ (Nat.le_refl _)]; omega)
      rw [extract_list, List.take_of_length_le (by simp)] at this
      exact this)
    have hxl : xs.length ≤ 1000000 := by
      have h1 := framesF_len (xs.map (·.data.toList))
      rw [← HI.out.at_, List.length_map] at h1
      omega
    go_wp2_with fail
    refine (HO.out _).mono ?_
    rintro e w1 ⟨⟨b, flag, rfl, hone⟩, hb1⟩
    rw [oneF_eq] at hone
    have H1 : Hid (RScanI w c.data.toList xs (.slice a xs.length cap) n w1) := Lib.hid { HI.out with own := ownsRow_below HI.out.own hb1, below := HI.out.below.trans (hb1.mono HI.out.below.size) }
    clear hb1 HI
    cases flag with
    | false =>
      have HF : Hid (firstF (c.data.toList.drop n) = none) := Lib.hid (by simpa using hone)
      clear hone
      go_wp2
      go_ret2
      obtain ⟨a', cap', hv, hr⟩ := reads_of_owns H1.out.own
      obtain ⟨h5, -, h6⟩ := Value.slice.inj hv
      subst h5 h6
      exact ⟨a, cap, xs, n, ⟨H1.out.short, H1.out.at_, H1.out.pre, HF.out⟩, rfl, hr, H1.out.below⟩
    | true =>
      have HF : Hid (firstF (c.data.toList.drop n) = some b.data.toList) := Lib.hid (by simpa using hone)
      clear hone
      obtain ⟨hb, hnb, hsh, hat, hpre⟩ := rscan_step H1.out HF.out
      rw [ba_len] at hnb
      have HSH := Lib.hid hsh
      have HAT := Lib.hid hat
      have HPR := Lib.hid hpre
      clear hsh hat hpre
      have hrow := H1.out.own
      have hB := H1.out.below
      go_wp2_with (at_builtin; refine wpList_append_own _ rfl _ _ 29 rfl w.heap.size 9 i0 (.string ByteArray.empty) 1 16 Try.underlying29 hi hz0 hz1 hz2 rfl (by decide) _ _ _ rfl (hrow.alloc _) ⟨w1.heap.size, 0, none⟩ 1 1 [.string b] rfl rfl (cell_one_new _ _ _) (by simp [Value.oneCell']) (by unfold maxLen; omega) (by omega) (by have := hB.size; simp; omega) ?_; intro v' w2 hown' hgrow _; obtain ⟨g', cap', rfl⟩ := ownsRow_succ hown')
      have hb2 : Below w.heap.size w w2 := (hB.alloc hB.size _).grown hgrow (by have := hB.size; simp; omega) (fun k e => (hrow.lt k e).1)
      refine ⟨⟨xs ++ [b], some ⟨g', 0, none⟩, cap', n + b.size + 12, by simp, by go_num, hnb, Lib.hid { short := HSH.out, at_ := HAT.out, pre := HPR.out, own := by simpa using hown', below := hb2 }⟩, ?_⟩
      simp [intOf]; omega
end Go.Proofs.Ytljbbhbebplknaa
