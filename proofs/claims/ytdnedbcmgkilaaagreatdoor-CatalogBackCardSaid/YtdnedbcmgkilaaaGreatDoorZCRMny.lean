/- The document's Put: how many values, how deep, of which shape. -/
import Derived.Laws.EntriesVeiled
import Derived.Test.YtdnedbcmgkilaaaGreatDoorZc3

namespace Go.Proofs.YtdnedbcmgkilaaaGreatDoor.Co
open Go.RowKit

theorem K24.below {w w' : World} (h : Below w.heap.size w w') : K24 w w' := fun g _ e => (h.block g (lt_of_heap e)).trans e
theorem nodes_mem : ∀ {ts : List Tree} {t : Tree}, t ∈ ts → nodes t ≤ nodesL ts
  | u :: ts, t, h => by
    rw [nodesL]
    rcases List.mem_cons.1 h with rfl | h
    · omega
    · have := nodes_mem h; omega
theorem nodesL_take {ts : List Tree} {k : Nat} {t : Tree} (h : ts[k]? = some t) : nodesL (ts.take (k + 1)) = nodesL (ts.take k) + nodes t := by
  obtain ⟨hk, rfl⟩ := List.getElem?_eq_some_iff.1 h
  rw [List.take_succ_eq_append_getElem hk, nodesL_append, nodesL, nodesL, Nat.add_zero]
mutual
/-- How many values within one another. -/
def dep : Tree → Nat
  | .num _ => 1
  | .text _ => 1
  | .list ts => 1 + depL ts
def depL : List Tree → Nat
  | [] => 0
  | t :: ts => max (dep t) (depL ts)
end
theorem dep_kids (t : Tree) : dep t = 1 + depL (kids t) := by cases t <;> rw [dep] <;> simp [kids, depL]
theorem depL_append : ∀ (a b : List Tree), depL (a ++ b) = max (depL a) (depL b)
  | [], b => by rw [depL]; simp
  | t :: a, b => by
    show depL (t :: (a ++ b)) = _
    rw [depL, depL, depL_append a b]; omega
theorem depL_take {ts : List Tree} {k : Nat} {t : Tree} (h : ts[k]? = some t) : depL (ts.take (k + 1)) = max (depL (ts.take k)) (dep t) := by
  obtain ⟨hk, rfl⟩ := List.getElem?_eq_some_iff.1 h
  rw [List.take_succ_eq_append_getElem hk, depL_append, depL, depL]; omega
theorem depL_le (ts : List Tree) (k : Nat) : depL (ts.take k) ≤ depL ts := by
  have := depL_append (ts.take k) (ts.drop k)
  rw [List.take_append_drop] at this; omega
mutual
theorem dep_lev : ∀ (t : Tree) (lev : Nat), Lev lev t → lev + dep t ≤ 31
  | .num _, lev, h => by rw [Lev] at h; rw [dep]; omega
  | .text _, lev, h => by rw [Lev] at h; rw [dep]; omega
  | .list ts, lev, h => by
    rw [Lev] at h
    have := depL_lev ts (lev + 1) h.2
    rw [dep]; omega
theorem depL_lev : ∀ (ts : List Tree) (lev : Nat), LevL lev ts → depL ts = 0 ∨ lev + depL ts ≤ 31
  | [], lev, _ => by rw [depL]; exact .inl rfl
  | t :: ts, lev, h => by
    rw [LevL] at h
    have h1 := dep_lev t lev h.1
    have h2 := depL_lev ts lev h.2
    rw [depL]; omega
end

/-- The k-th kid, and its cells. -/
theorem kid_at {w : World} {ts : List Tree} {a : Option Addr} {cap : Nat} {xs : List Value} (ho : w.ownsRow 0 60 4 (.slice a ts.length cap) ts.length xs) (hr : RepAll w (S24 w) ts xs) {k : Nat} {t : Tree} (ht : ts[k]? = some t) :
    ∃ (g : Nat) (e1 e2 : Int) (e3 : ByteArray) (e4 : Option Addr) (e5 e6 : Nat), a = some ⟨g, 0, none⟩ ∧ Rep w (S24 w) t (.agg #[.int .i64 e1, .int .i64 e2, .string e3, .slice e4 e5 e6]) ∧
      ∀ wr, K24 w wr → g < wr.heap.size ∧ wr.cell? ⟨g, k * 4, none⟩ = some (.int .i64 e1) ∧ wr.cell? ⟨g, k * 4 + 1, none⟩ = some (.int .i64 e2) ∧ wr.cell? ⟨g, k * 4 + 2, none⟩ = some (.string e3) ∧ wr.cell? ⟨g, k * 4 + 3, none⟩ = some (.slice e4 e5 e6) := by
  have hlt := (List.getElem?_eq_some_iff.1 ht).1
  obtain ⟨c0, c1, c2, c3, x0, x1, x2, x3, hrep⟩ := RepAll.get ts xs k t hr ht
  obtain ⟨g, rfl⟩ : ∃ g, a = some ⟨g, 0, none⟩ := by
    rcases ho.2 with ⟨-, h0⟩ | ⟨g, cap, cur, hv, -⟩
    · omega
    · injection hv with hv; exact ⟨g, hv⟩
  obtain ⟨e1, e2, e3, e4, e5, e6, hcv⟩ := Rep.cells _ _ hrep
  injection hcv with hcv
  injection hcv with hcv
  injection hcv with h0 hcv
  injection hcv with h1 hcv
  injection hcv with h2 hcv
  injection hcv with h3 hcv
  subst h0 h1 h2 h3
  refine ⟨g, e1, e2, e3, e4, e5, e6, rfl, hrep, fun wr hk => ?_⟩
  have how : wr.ownsRow 0 60 4 (.slice (some ⟨g, 0, none⟩) ts.length cap) ts.length xs := ownsRow_keep ho (fun g' hg' => by obtain ⟨cur, hc⟩ := own24 ho g' hg'; exact (hk g' cur hc).trans hc.symm)
  obtain ⟨cur, hc⟩ := own24 ho g rfl
  exact ⟨lt_of_heap (hk g cur hc), row_cell how x0, row_cell how x1, row_cell how x2, row_cell how x3⟩

def ManyOK (t : Tree) : Prop := ∀ (w : World) (v : Value) (m : Int), Rep w (S24 w) t v → (nodes t : Int) ≤ m → m ≤ 4001 → Calls Tryz.prog 101 #[v, .int .i64 m] w fun e w' => e = .returned (.int .i64 (nodes t)) ∧ Below w.heap.size w w'

set_option maxHeartbeats 1600000 in
set_option maxRecDepth 100000 in
theorem many_of {t : Tree} (hts : ∀ u, u ∈ kids t → ManyOK u) : ManyOK t := by
  intro w v m hrep hm hm2
  obtain ⟨kd, n0, b0, a, cap, xs, rfl, ho, hr⟩ := rep_kids hrep
  have hnk := nodes_kids t
  have hlen := nodesL_len (kids t)
  rw [hnk] at hm
  have HNK := Lib.hid hnk
  have HT := Lib.hid hts
  have HO := Lib.hid ho
  have HR := Lib.hid hr
  clear hts ho hr hrep hnk
  generalize hks : kids t = ts at *
  clear hks
  go_enter Tryz.func101, Tryz.ntmps101
  go_wp2
  have hB0 : Below w.heap.size w (w.alloc (.cells #[.int .i64 kd, .int .i64 n0, .string b0, .slice a ts.length cap] 60)) := below1 w _
  generalize w.alloc (.cells #[.int .i64 kd, .int .i64 n0, .string b0, .slice a ts.length cap] 60) = W at *
  go_loopw [5, 11] (fun n i wr => ∃ k N : Nat, k ≤ ts.length ∧ n = .int .i64 N ∧ i = .int .i64 k ∧ Hid (N = 1 + nodesL (ts.take k)) ∧ Hid (Below w.heap.size w wr)) (fun _ i _ => ts.length - (intOf i).toNat)
  case atStart => exact ⟨0, 1, Nat.zero_le _, rfl, rfl, Lib.hid (by rw [List.take_zero, nodesL]), Lib.hid hB0⟩
  case round =>
    clear hB0
    obtain ⟨k, N, hk, rfl, rfl, HN, HB⟩ := hrel
    have hNle := nodesL_le ts k
    have hNe := HN.out
    by_cases hlt : k < ts.length
    · have hget := List.getElem?_eq_getElem hlt
      obtain ⟨g, e1, e2, e3, e4, e5, e6, rfl, hrepk, hcells⟩ := kid_at HO.out HR.out hget
      have hk24 := K24.below HB.out
      obtain ⟨hg, p0, p1, p2, p3⟩ := hcells wr hk24
      have htk := nodesL_take hget
      have hle2 := nodesL_le ts (k + 1)
      have hlo : (N : Int) < m := by have := nodes_pos ts[k]; omega
      have hnk : (nodes ts[k] : Int) ≤ m - N := by omega
      have HC : Hid (∀ W, K24 wr W → Calls Tryz.prog 101 #[.agg #[.int .i64 e1, .int .i64 e2, .string e3, .slice e4 e5 e6], .int .i64 (m - N)] W fun e w' => e = .returned (.int .i64 (nodes ts[k])) ∧ Below W.heap.size W w') :=
        Lib.hid (fun W hW => HT.out ts[k] (List.getElem_mem hlt) W _ _ (hrepk.k24 (hk24.trans hW)) hnk (by omega))
      have HTK : Hid (N + nodes ts[k] = 1 + nodesL (ts.take (k + 1))) := Lib.hid (by omega)
      have hb : N + nodes ts[k] ≤ 4001 := by omega
      clear hcells hrepk hk24 htk hle2 hget hnk hNe hNle
      generalize nodes ts[k] = nk at *
      go_wp2_with fail
      refine (HC.out _ ((K24.refl _).alloc _)).mono ?_
      rintro e w2 ⟨rfl, hb2⟩
      have HB2 : Hid (Below w.heap.size w w2) := Lib.hid ((HB.out.trans ((below1 wr _).mono HB.out.size)).trans (hb2.mono (by have := HB.out.size; simp; omega)))
      clear hb2 p0 p1 p2 p3
      go_wp2
      go_roundw
      case rel => exact ⟨k + 1, N + nk, by omega, by go_num, by go_num, HTK, HB2⟩
      case measure => simp [intOf]; omega
    · have hN2 : N = 1 + nodesL ts := by rw [hNe, List.take_of_length_le (by omega)]
      have hmm : ¬ m < (N : Int) := by omega
      have HE : Hid ((N : Int) = (nodes t : Int)) := Lib.hid (by rw [hN2, HNK.out])
      clear hN2 hNe
      go_wp2
      go_ret
      exact ⟨by rw [HE.out]; rfl, HB.out⟩
mutual
theorem many_ok : ∀ t : Tree, ManyOK t
  | .num n => many_of (fun u hu => by cases hu)
  | .text bs => many_of (fun u hu => by cases hu)
  | .list ts => many_of (many_okL ts)
theorem many_okL : ∀ ts : List Tree, ∀ t, t ∈ ts → ManyOK t
  | [], t, ht => by cases ht
  | u :: ts, t, ht => by
    rcases List.mem_cons.1 ht with h' | h'
    · rw [h']; exact many_ok u
    · exact many_okL ts t h'
end

def DeepOK (t : Tree) : Prop := ∀ (w : World) (v : Value) (m : Int), Rep w (S24 w) t v → (dep t : Int) < m → m ≤ 31 → nodes t ≤ 4000 → Calls Tryz.prog 102 #[v, .int .i64 m] w fun e w' => e = .returned (.int .i64 (dep t)) ∧ Below w.heap.size w w'

set_option maxHeartbeats 1600000 in
set_option maxRecDepth 100000 in
theorem deep_of {t : Tree} (hts : ∀ u, u ∈ kids t → DeepOK u) : DeepOK t := by
  intro w v m hrep hm hm2 hn
  obtain ⟨kd, n0, b0, a, cap, xs, rfl, ho, hr⟩ := rep_kids hrep
  have hnk := nodes_kids t
  have hlen := nodesL_len (kids t)
  have hdk := dep_kids t
  rw [hdk] at hm
  rw [hnk] at hn
  have HDK := Lib.hid hdk
  have HT := Lib.hid hts
  have HO := Lib.hid ho
  have HR := Lib.hid hr
  clear hts ho hr hrep hnk hdk
  generalize hks : kids t = ts at *
  clear hks
  go_enter Tryz.func102, Tryz.ntmps102
  go_wp2
  have hB0 : Below w.heap.size w (w.alloc (.cells #[.int .i64 kd, .int .i64 n0, .string b0, .slice a ts.length cap] 60)) := below1 w _
  generalize w.alloc (.cells #[.int .i64 kd, .int .i64 n0, .string b0, .slice a ts.length cap] 60) = W at *
  go_loopw [5, 15] (fun n i wr => ∃ k N : Nat, k ≤ ts.length ∧ n = .int .i64 N ∧ i = .int .i64 k ∧ Hid (N = depL (ts.take k)) ∧ Hid (Below w.heap.size w wr)) (fun _ i _ => ts.length - (intOf i).toNat)
  case atStart => exact ⟨0, 0, Nat.zero_le _, rfl, rfl, Lib.hid (by rw [List.take_zero, depL]), Lib.hid hB0⟩
  case round =>
    clear hB0
    obtain ⟨k, N, hk, rfl, rfl, HN, HB⟩ := hrel
    have hNle := depL_le ts k
    have hNe := HN.out
    by_cases hlt : k < ts.length
    · have hget := List.getElem?_eq_getElem hlt
      obtain ⟨g, e1, e2, e3, e4, e5, e6, rfl, hrepk, hcells⟩ := kid_at HO.out HR.out hget
      have hk24 := K24.below HB.out
      obtain ⟨hg, p0, p1, p2, p3⟩ := hcells wr hk24
      have htk := depL_take hget
      have hle2 := depL_le ts (k + 1)
      have hnm := nodes_mem (List.getElem_mem hlt)
      have HC : Hid (∀ W, K24 wr W → Calls Tryz.prog 102 #[.agg #[.int .i64 e1, .int .i64 e2, .string e3, .slice e4 e5 e6], .int .i64 (m - 1)] W fun e w' => e = .returned (.int .i64 (dep ts[k])) ∧ Below W.heap.size W w') :=
        Lib.hid (fun W hW => HT.out ts[k] (List.getElem_mem hlt) W _ _ (hrepk.k24 (hk24.trans hW)) (by omega) (by omega) (by omega))
      have HTK : Hid (max N (dep ts[k]) = depL (ts.take (k + 1))) := Lib.hid (by rw [htk, hNe])
      have hb : (N : Int) < m - 1 := by omega
      have hb3 : (dep ts[k] : Int) < m - 1 := by omega
      clear hcells hrepk hk24 htk hle2 hget hnm hNe hNle
      generalize dep ts[k] = nk at *
      go_wp2_with fail
      refine (HC.out _ ((K24.refl _).alloc _)).mono ?_
      rintro e w2 ⟨rfl, hb2⟩
      have HB2 : Hid (Below w.heap.size w w2) := Lib.hid ((HB.out.trans ((below1 wr _).mono HB.out.size)).trans (hb2.mono (by have := HB.out.size; simp; omega)))
      clear hb2 p0 p1 p2 p3
      by_cases hgt : (N : Int) < (nk : Int)
      · go_wp2
        go_roundw
        case rel => exact ⟨k + 1, nk, by omega, by go_num, by go_num, Lib.hid (by rw [← HTK.out]; omega), HB2⟩
        case measure => simp [intOf]; omega
      · go_wp2
        go_roundw
        case rel => exact ⟨k + 1, N, by omega, by go_num, by go_num, Lib.hid (by rw [← HTK.out]; omega), HB2⟩
        case measure => simp [intOf]; omega
    · have hN2 : N = depL ts := by rw [hNe, List.take_of_length_le (by omega)]
      have HE : Hid ((N : Int) + 1 = (dep t : Int)) := Lib.hid (by rw [HDK.out, hN2]; omega)
      have hNb : (N : Int) < 31 := by omega
      clear hN2 hNe
      go_wp2
      go_ret
      exact ⟨by rw [HE.out]; rfl, HB.out⟩
mutual
theorem deep_ok : ∀ t : Tree, DeepOK t
  | .num n => deep_of (fun u hu => by cases hu)
  | .text bs => deep_of (fun u hu => by cases hu)
  | .list ts => deep_of (deep_okL ts)
theorem deep_okL : ∀ ts : List Tree, ∀ t, t ∈ ts → DeepOK t
  | [], t, ht => by cases ht
  | u :: ts, t, ht => by
    rcases List.mem_cons.1 ht with h' | h'
    · rw [h']; exact deep_ok u
    · exact deep_okL ts t h'
end
end Go.Proofs.YtdnedbcmgkilaaaGreatDoor.Co
