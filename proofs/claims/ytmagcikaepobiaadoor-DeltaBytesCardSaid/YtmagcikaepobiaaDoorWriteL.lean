/- Package code's Put: the closure that writes a value, at a list; and so at every value. -/
import Derived.Test.YtmagcikaepobiaaDoorWrite
namespace Go.Proofs.YtmagcikaepobiaaDoor
open Go.RowKit

/-- The rows of values of w stand in w' as they stood. -/
def K24 (w w' : World) : Prop := ∀ (g : Nat) (cur : Array Value), w.heap[g]? = some (.cells cur 36 (0, 0)) → w'.heap[g]? = some (.cells cur 36 (0, 0))
def S24 (w : World) (g : Nat) : Prop := ∃ cur, w.heap[g]? = some (.cells cur 36 (0, 0))

theorem K24.refl (w : World) : K24 w w := fun _ _ h => h
theorem K24.trans {a b c : World} (h : K24 a b) (k : K24 b c) : K24 a c := fun g cur e => k g cur (h g cur e)
theorem K24.alloc {a w : World} (h : K24 a w) (o : Obj) : K24 a (w.alloc o) := fun g cur e => (Below.heap_alloc _ _ _ (lt_of_heap (h g cur e))).trans (h g cur e)
theorem K24.of_others {B b : Nat} {l : List UInt8} {w w' : World} (hh : Holds B b l w) (h : Lib.OthersKept 5 (some b) w w') : K24 w w' :=
  fun _ _ e => others_at h e (fun e' => hh.ne e (by decide) (by injection e')) (by decide)

theorem own24 {w : World} {base n : Nat} {L : Value} {xs : List Value} (h : w.ownsRow base 36 4 L n xs) : ∀ g, L.ownBlock = some g → S24 w g := by
  intro g hg
  rcases h.2 with ⟨rfl, -⟩ | ⟨g', cap, cur, rfl, -, hh, -⟩
  · cases hg
  · have : g' = g := by simpa [Value.ownBlock] using hg
    subst this
    exact ⟨cur, hh⟩
mutual
theorem Rep.s24 {w : World} {S : Nat → Prop} : ∀ (t : Tree) (v : Value), Rep w S t v → Rep w (S24 w) t v
  | .num n, v, h => by rw [Rep] at h ⊢; exact h
  | .text bs, v, h => by rw [Rep] at h ⊢; exact h
  | .list ts, v, h => by
    rw [Rep] at h ⊢
    obtain ⟨L, xs, hv, ho, -, hr⟩ := h
    exact ⟨L, xs, hv, ho, own24 ho, RepAll.s24 ts xs hr⟩
theorem RepAll.s24 {w : World} {S : Nat → Prop} : ∀ (ts : List Tree) (xs : List Value), RepAll w S ts xs → RepAll w (S24 w) ts xs
  | [], xs, h => by rw [RepAll] at h ⊢; exact h
  | t :: ts, xs, h => by
    rw [RepAll] at h ⊢
    obtain ⟨c0, c1, c2, c3, rest, hx, ht, hr⟩ := h
    exact ⟨c0, c1, c2, c3, rest, hx, Rep.s24 t _ ht, RepAll.s24 ts rest hr⟩
end
theorem Rep.k24 {w w' : World} {t : Tree} {v : Value} (h : Rep w (S24 w) t v) (hk : K24 w w') : Rep w' (S24 w') t v :=
  Rep.keep (fun g ⟨cur, e⟩ => (hk g cur e).trans e.symm) (fun g ⟨cur, e⟩ => ⟨cur, hk g cur e⟩) t v h

/-- The k-th element of a row. -/
theorem RepAll.get {w : World} {S : Nat → Prop} : ∀ (ts : List Tree) (xs : List Value) (k : Nat) (t : Tree), RepAll w S ts xs → ts[k]? = some t →
    ∃ c0 c1 c2 c3, xs[k * 4]? = some c0 ∧ xs[k * 4 + 1]? = some c1 ∧ xs[k * 4 + 2]? = some c2 ∧ xs[k * 4 + 3]? = some c3 ∧ Rep w S t (.agg #[c0, c1, c2, c3])
  | [], xs, k, t, _, hk => by cases hk
  | u :: ts, xs, 0, t, h, hk => by
    rw [RepAll] at h
    obtain ⟨c0, c1, c2, c3, rest, rfl, ht, -⟩ := h
    obtain rfl : u = t := by simpa using hk
    exact ⟨c0, c1, c2, c3, rfl, rfl, rfl, rfl, ht⟩
  | u :: ts, xs, k + 1, t, h, hk => by
    rw [RepAll] at h
    obtain ⟨c0, c1, c2, c3, rest, rfl, -, hr⟩ := h
    obtain ⟨d0, d1, d2, d3, e0, e1, e2, e3, hd⟩ := RepAll.get ts rest k t hr (by simpa using hk)
    refine ⟨d0, d1, d2, d3, ?_, ?_, ?_, ?_, hd⟩
    · rw [show (k + 1) * 4 = k * 4 + 4 from by omega]; exact e0
    · rw [show (k + 1) * 4 + 1 = (k * 4 + 1) + 4 from by omega]; exact e1
    · rw [show (k + 1) * 4 + 2 = (k * 4 + 2) + 4 from by omega]; exact e2
    · rw [show (k + 1) * 4 + 3 = (k * 4 + 3) + 4 from by omega]; exact e3

/-- .. and its cells in memory. -/
theorem row_cell {w : World} {base g n cap : Nat} {xs : List Value} (h : w.ownsRow base 36 4 (.slice (some ⟨g, 0, none⟩) n cap) n xs) {j : Nat} {u : Value} (hu : xs[j]? = some u) : w.cell? ⟨g, j, none⟩ = some u := by
  rcases h.2 with ⟨h0, -⟩ | ⟨g', cap', cur, hv, -, hh, -, -, -, ht⟩
  · cases h0
  · injection hv with hv _ _
    injection hv with hv
    injection hv with hv
    subst hv
    rw [← ht] at hu
    rw [List.getElem?_take] at hu
    split at hu
    · simp [World.cell?, hh]
      simpa using hu
    · cases hu

def WriteOK (t : Tree) : Prop := ∀ (B b fb ab wb : Nat) (w : World) (l : List UInt8) (v : Value), WEnv B b fb ab wb w → Holds B b l w → Rep w (S24 w) t v → l.length + (enc t).length ≤ 131072 →
  Calls Tryd.prog 27 #[v, .pointer (some ⟨ab, 0, none⟩), .pointer (some ⟨wb, 0, none⟩)] w fun e w' => e = .returned (.tuple #[]) ∧ Wrote B b (l ++ enc t) w w'

theorem encL_append : ∀ (a b : List Tree), encL (a ++ b) = encL a ++ encL b
  | [], b => by rw [encL]; rfl
  | t :: a, b => by
    show encL (t :: (a ++ b)) = _
    rw [encL, encL, encL_append a b, List.append_assoc]
theorem encL_take {ts : List Tree} {k : Nat} {t : Tree} (h : ts[k]? = some t) : encL (ts.take (k + 1)) = encL (ts.take k) ++ enc t := by
  obtain ⟨hk, rfl⟩ := List.getElem?_eq_some_iff.1 h
  rw [List.take_succ_eq_append_getElem hk, encL_append, encL, encL, List.append_nil]
theorem encL_le (ts : List Tree) (k : Nat) : (encL (ts.take k)).length ≤ (encL ts).length := by
  have := congrArg List.length (encL_append (ts.take k) (ts.drop k))
  rw [List.take_append_drop, List.length_append] at this
  omega

theorem enc_pos (t : Tree) : 1 ≤ (enc t).length := by
  cases t <;> rw [enc] <;> simp <;> omega
theorem encL_len : ∀ ts : List Tree, ts.length ≤ (encL ts).length
  | [] => by simp
  | t :: ts => by
    rw [encL, List.length_append, List.length_cons]
    have := enc_pos t
    have := encL_len ts
    omega

set_option maxHeartbeats 1000000 in
set_option maxRecDepth 100000 in
theorem write_list {ts : List Tree} (hts : ∀ t, t ∈ ts → WriteOK t) : WriteOK (.list ts) := by
  intro B b fb ab wb w l v env hh hrep hlen
  rw [enc] at hlen ⊢
  simp only [List.length_cons, List.length_append, List.length_nil] at hlen
  have hlenb : ts.length ≤ 131072 := by have := encL_len ts; omega
  rw [Rep] at hrep
  obtain ⟨L, xs, rfl, hown, -, hall⟩ := hrep
  obtain ⟨a, n, cap, rfl, hn⟩ : ∃ a n cap, L = .slice a n cap ∧ n = ts.length := by
    rcases hown.2 with ⟨rfl, h0⟩ | ⟨g, cap, cur, rfl, -⟩
    · exact ⟨_, _, _, rfl, h0.symm⟩
    · exact ⟨_, _, _, rfl, rfl⟩
  subst hn
  have hla := lt_of_heap env.add
  have hca := cell_of_heap env.add
  have env0 := env.alloc hh (.cells #[.int .i64 3, .int .i64 0, .string ⟨#[]⟩, .slice a ts.length cap] 36)
  have hh0 : Holds B b l (w.alloc (.cells #[.int .i64 3, .int .i64 0, .string ⟨#[]⟩, .slice a ts.length cap] 36)) := Lib.IsBuilderF.alloc hh _
  have hb0 : (w.alloc (.cells #[.int .i64 3, .int .i64 0, .string ⟨#[]⟩, .slice a ts.length cap] 36)).heap[w.heap.size]? = some (.cells #[.int .i64 3, .int .i64 0, .string ⟨#[]⟩, .slice a ts.length cap] 36 (0, 0)) := heap_alloc_new _ _
  have HB0 : Hid (Below B w (w.alloc (.cells #[.int .i64 3, .int .i64 0, .string ⟨#[]⟩, .slice a ts.length cap] 36))) := Lib.hid ((Below.refl _ _).alloc env.hB _)
  have HO0 : Hid (Lib.OthersKept 5 (some b) w (w.alloc (.cells #[.int .i64 3, .int .i64 0, .string ⟨#[]⟩, .slice a ts.length cap] 36))) := Lib.hid ((Lib.OthersKept.refl _ _ _).alloc _)
  have HT := Lib.hid hts
  have HW := Lib.hid hown
  have HA := Lib.hid hall
  have HH := Lib.hid hh
  clear hts hown hall hh env
  go_enter Tryd.func27, Tryd.ntmps27
  go_wp2_with fail
  generalize hw0 : w.alloc (.cells #[.int .i64 3, .int .i64 0, .string ⟨#[]⟩, .slice a ts.length cap] 36) = w0 at *
  clear hw0 hca
  refine (add_wrote env0 hh0 ⟨#[108]⟩ (by show _ + 1 ≤ _; omega)).mono ?_
  rintro e w1 ⟨rfl, hw1⟩
  have env1 := env0.after hh0 hw1
  have hb1 := others_at hw1.others hb0 (fun e => hh0.ne hb0 (by decide) (by injection e)) (by decide)
  have hcL : w1.cell? ⟨w.heap.size, 3, none⟩ = some (.slice a ts.length cap) := by simp [World.cell?, hb1]
  have H1 := Lib.hid (show Wrote B b (l ++ [108]) w w1 from ⟨hw1.holds, HB0.out.trans hw1.below, HO0.out.trans hw1.others⟩)
  have E1 := Lib.hid env1
  have HLB : Hid (w1.heap[ab]? = some (.cells #[addFn fb b] 55 (0, 0))) := Lib.hid env1.add
  clear hb0 hh0 env0 hw1 env1 hb1
  go_wp2
  go_loopw [40] (fun i wr => ∃ k : Nat, k ≤ ts.length ∧ i = .int .i64 k ∧ Hid (WEnv B b fb ab wb wr) ∧ Hid (Wrote B b ((l ++ [108]) ++ encL (ts.take k)) w wr)) (fun i _ => ts.length - (intOf i).toNat)
  case atStart => exact ⟨0, Nat.zero_le _, rfl, E1, Lib.hid (by rw [List.take_zero, encL, List.append_nil]; exact H1.out)⟩
  case round =>
    obtain ⟨k, hk, rfl, E, H⟩ := hrel
    by_cases hlt : k < ts.length
    · obtain ⟨c0, c1, c2, c3, x0, x1, x2, x3, hrep⟩ := RepAll.get ts xs k ts[k] HA.out (List.getElem?_eq_getElem hlt)
      obtain ⟨g, rfl⟩ : ∃ g, a = some ⟨g, 0, none⟩ := by
        rcases HW.out.2 with ⟨-, h0⟩ | ⟨g, cap, cur, hv, -⟩
        · omega
        · injection hv with hv; exact ⟨g, hv⟩
      have hk24 : K24 w wr := K24.of_others HH.out H.out.others
      have hown := HW.out
      have hownr : wr.ownsRow 0 36 4 (.slice (some ⟨g, 0, none⟩) ts.length cap) ts.length xs := ownsRow_keep hown (fun g' hg' => by obtain ⟨cur, hc⟩ := own24 hown g' hg'; exact (hk24 g' cur hc).trans hc.symm)
      have hcell0 : wr.cell? ⟨g, k * 4, none⟩ = some c0 := row_cell hownr x0
      have hcell1 : wr.cell? ⟨g, k * 4 + 1, none⟩ = some c1 := row_cell hownr x1
      have hcell2 : wr.cell? ⟨g, k * 4 + 2, none⟩ = some c2 := row_cell hownr x2
      have hcell3 : wr.cell? ⟨g, k * 4 + 3, none⟩ = some c3 := row_cell hownr x3
      have hrepr := hrep.k24 hk24
      obtain ⟨kd, n0, b0, a0, len0, cap0, hcv⟩ := Rep.cells _ _ hrep
      injection hcv with hcv
      injection hcv with hcv
      injection hcv with h0 hcv
      injection hcv with h1 hcv
      injection hcv with h2 hcv
      injection hcv with h3 hcv
      subst h0 h1 h2 h3
      have hcw : wr.cell? ⟨wb, 0, none⟩ = some (writeFn ab wb) := cell_of_heap E.out.wr
      have hltw := lt_of_heap E.out.wr
      have HRr := Lib.hid hrepr
      clear x0 x1 x2 x3 hrep hrepr hcv hk24 hown hownr
      go_wp2_with fail
      have hle := encL_le ts (k + 1)
      have htk := encL_take (ts := ts) (k := k) (List.getElem?_eq_getElem hlt)
      have hfit : ((l ++ [108]) ++ encL (ts.take k)).length + (enc ts[k]).length ≤ 131072 := by
        rw [htk, List.length_append] at hle
        simp only [List.length_append, List.length_cons, List.length_nil]
        omega
      refine (HT.out ts[k] (List.getElem_mem hlt) B b fb ab wb _ _ _ (E.out.alloc H.out.holds _) (Lib.IsBuilderF.alloc H.out.holds _) (HRr.out.k24 ((K24.refl _).alloc _)) hfit).mono ?_
      rintro e w2 ⟨rfl, hw2⟩
      have hN : Hid (WEnv B b fb ab wb w2 ∧ Wrote B b ((l ++ [108]) ++ encL (ts.take (k + 1))) w w2) := Lib.hid (by
        refine ⟨(E.out.alloc H.out.holds _).after (Lib.IsBuilderF.alloc H.out.holds _) hw2, ?_, ?_, ?_⟩
        · rw [htk, ← List.append_assoc]; exact hw2.holds
        · exact (H.out.below.alloc E.out.hB _).trans hw2.below
        · exact (H.out.others.alloc _).trans hw2.others)
      clear hw2 hle htk hfit
      go_wp2
      go_roundw
      case rel => exact ⟨k + 1, by omega, by go_num, Lib.hid hN.out.1, Lib.hid hN.out.2⟩
      case measure => simp [intOf]; omega
    · have hca : wr.cell? ⟨ab, 0, none⟩ = some (addFn fb b) := cell_of_heap E.out.add
      have hkn : ts.take k = ts := List.take_of_length_le (by omega)
      have HN := Lib.hid hkn
      clear hkn
      go_wp2_with fail
      refine (add_wrote E.out H.out.holds ⟨#[101]⟩ (by rw [HN.out]; simp only [List.length_append, List.length_cons, List.length_nil]; show _ + 1 ≤ _; omega)).mono ?_
      rintro e w2 ⟨rfl, hw2⟩
      have hend : Hid (Wrote B b (l ++ 108 :: (encL ts ++ [101])) w w2) := Lib.hid (by
        have h := H.out.trans hw2
        rw [HN.out] at h
        simpa using h)
      clear hw2
      go_wp2
      go_end0
      exact ⟨rfl, hend.out⟩

mutual
theorem write_ok : ∀ t : Tree, Ok t → WriteOK t
  | .num n, h => fun B b fb ab wb w l v env hh hrep hlen => by
    rw [Ok] at h; rw [Rep] at hrep; subst hrep
    exact write_num env hh n h.1 h.2 hlen
  | .text bs, _ => fun B b fb ab wb w l v env hh hrep hlen => by
    rw [Rep] at hrep; subst hrep
    exact write_text env hh bs hlen
  | .list ts, h => write_list (write_okL ts (by rw [Ok] at h; exact h))
theorem write_okL : ∀ ts : List Tree, OkL ts → ∀ t, t ∈ ts → WriteOK t
  | [], _, t, ht => by cases ht
  | u :: ts, h, t, ht => by
    rw [OkL] at h
    rcases List.mem_cons.1 ht with h' | h'
    · rw [h']; exact write_ok u h.1
    · exact write_okL ts h.2 t h'
end

end Go.Proofs.YtmagcikaepobiaaDoor
