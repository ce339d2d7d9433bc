/- The document's Put: how many values, how deep, of which shape. -/
import Derived.Laws.EntriesVeiled
import Derived.Lib.AppendStr
import Derived.Lib.SlBytesConst
import Derived.Lib.AppendZeros
import Derived.Test.YtdnedbcmgkilaaaGreatDoorZBg45
import Derived.Test.YtdnedbcmgkilaaaGreatDoorZBCWrite

section

namespace Go.Proofs.YtdnedbcmgkilaaaGreatDoor.Co
open Go.RowKit
theorem K24.below {w w' : World} (h : Below w.heap.size w w') : K24 w w' := fun g _ e => (h.block g (lt_of_heap e)).trans e
theorem nodes_mem : ∀ {ts : List Tree} {t : Tree}, t ∈ ts → nodes t ≤ nodesL ts
  | u :: ts, t, h => by
    rw [nodesL]
    rcases List.mem_cons.1 h with rfl | h
    · omega
    · have := nodes_mem h; omega
theorem nodesL_take {ts : List Tree} {k : Nat} {t : Tree} (h : ts[k]? = some t) : nodesL (ts.take (k + 1)) = nodesL (ts.take k) + nodes t := by
  obtain ⟨hk, rfl⟩ := List.getElem?_eq_some_iff.1 h
  rw [List.take_succ_eq_append_getElem hk, nodesL_append, nodesL, nodesL, Nat.add_zero]
mutual
def dep : Tree → Nat
  | .num _ => 1
  | .text _ => 1
  | .list ts => 1 + depL ts
def depL : List Tree → Nat
  | [] => 0
  | t :: ts => max (dep t) (depL ts)
end
theorem dep_kids (t : Tree) : dep t = 1 + depL (kids t) := by cases t <;> rw [dep] <;> simp [kids, depL]
theorem depL_append : ∀ (a b : List Tree), depL (a ++ b) = max (depL a) (depL b)
  | [], b => by rw [depL]; simp
  | t :: a, b => by
    show depL (t :: (a ++ b)) = _
    rw [depL, depL, depL_append a b]; omega
theorem depL_take {ts : List Tree} {k : Nat} {t : Tree} (h : ts[k]? = some t) : depL (ts.take (k + 1)) = max (depL (ts.take k)) (dep t) := by
  obtain ⟨hk, rfl⟩ := List.getElem?_eq_some_iff.1 h
  rw [List.take_succ_eq_append_getElem hk, depL_append, depL, depL]; omega
theorem depL_le (ts : List Tree) (k : Nat) : depL (ts.take k) ≤ depL ts := by
  have := depL_append (ts.take k) (ts.drop k)
  rw [List.take_append_drop] at this; omega
mutual
theorem dep_lev : ∀ (t : Tree) (lev : Nat), Lev lev t → lev + dep t ≤ 31
  | .num _, lev, h => by rw [Lev] at h; rw [dep]; omega
  | .text _, lev, h => by rw [Lev] at h; rw [dep]; omega
  | .list ts, lev, h => by
    rw [Lev] at h
    have := depL_lev ts (lev + 1) h.2
    rw [dep]; omega
theorem depL_lev : ∀ (ts : List Tree) (lev : Nat), LevL lev ts → depL ts = 0 ∨ lev + depL ts ≤ 31
  | [], lev, _ => by rw [depL]; exact .inl rfl
  | t :: ts, lev, h => by
    rw [LevL] at h
    have h1 := dep_lev t lev h.1
    have h2 := depL_lev ts lev h.2
    rw [depL]; omega
end
theorem kid_at {w : World} {ts : List Tree} {a : Option Addr} {cap : Nat} {xs : List Value} (ho : w.ownsRow 0 60 4 (.slice a ts.length cap) ts.length xs) (hr : RepAll w (S24 w) ts xs) {k : Nat} {t : Tree} (ht : ts[k]? = some t) :
    ∃ (g : Nat) (e1 e2 : Int) (e3 : ByteArray) (e4 : Option Addr) (e5 e6 : Nat), a = some ⟨g, 0, none⟩ ∧ Rep w (S24 w) t (.agg #[.int .i64 e1, .int .i64 e2, .string e3, .slice e4 e5 e6]) ∧
      ∀ wr, K24 w wr → g < wr.heap.size ∧ wr.cell? ⟨g, k * 4, none⟩ = some (.int .i64 e1) ∧ wr.cell? ⟨g, k * 4 + 1, none⟩ = some (.int .i64 e2) ∧ wr.cell? ⟨g, k * 4 + 2, none⟩ = some (.string e3) ∧ wr.cell? ⟨g, k * 4 + 3, none⟩ = some (.slice e4 e5 e6) := by
  have hlt := (List.getElem?_eq_some_iff.1 ht).1
  obtain ⟨c0, c1, c2, c3, x0, x1, x2, x3, hrep⟩ := RepAll.get ts xs k t hr ht
  obtain ⟨g, rfl⟩ : ∃ g, a = some ⟨g, 0, none⟩ := by
    rcases ho.2 with ⟨-, h0⟩ | ⟨g, cap, cur, hv, -⟩
    · omega
    · injection hv with hv; exact ⟨g, hv⟩
  obtain ⟨e1, e2, e3, e4, e5, e6, hcv⟩ := Rep.cells _ _ hrep
  injection hcv with hcv
  injection hcv with hcv
  injection hcv with h0 hcv
  injection hcv with h1 hcv
  injection hcv with h2 hcv
  injection hcv with h3 hcv
  subst h0 h1 h2 h3
  refine ⟨g, e1, e2, e3, e4, e5, e6, rfl, hrep, fun wr hk => ?_⟩
  have how : wr.ownsRow 0 60 4 (.slice (some ⟨g, 0, none⟩) ts.length cap) ts.length xs := ownsRow_keep ho (fun g' hg' => by obtain ⟨cur, hc⟩ := own24 ho g' hg'; exact (hk g' cur hc).trans hc.symm)
  obtain ⟨cur, hc⟩ := own24 ho g rfl
  exact ⟨lt_of_heap (hk g cur hc), row_cell how x0, row_cell how x1, row_cell how x2, row_cell how x3⟩
def ManyOK (t : Tree) : Prop := ∀ (w : World) (v : Value) (m : Int), Rep w (S24 w) t v → (nodes t : Int) ≤ m → m ≤ 4001 → Calls Tryz.prog 101 #[v, .int .i64 m] w fun e w' => e = .returned (.int .i64 (nodes t)) ∧ Below w.heap.size w w'
set_option maxHeartbeats 1600000 in
set_option maxRecDepth 100000 in
theorem many_of {t : Tree} (hts : ∀ u, u ∈ kids t → ManyOK u) : ManyOK t := by
  intro w v m hrep hm hm2
  obtain ⟨kd, n0, b0, a, cap, xs, rfl, ho, hr⟩ := rep_kids hrep
  have hnk := nodes_kids t
  have hlen := nodesL_len (kids t)
  rw [hnk] at hm
  have HNK := Lib.hid hnk
  have HT := Lib.hid hts
  have HO := Lib.hid ho
  have HR := Lib.hid hr
  clear hts ho hr hrep hnk
  generalize hks : kids t = ts at *
  clear hks
  go_enter Tryz.func101, Tryz.ntmps101
  go_wp2
  have hB0 : Below w.heap.size w (w.alloc (.cells #[.int .i64 kd, .int .i64 n0, .string b0, .slice a ts.length cap] 60)) := below1 w _
  generalize w.alloc (.cells #[.int .i64 kd, .int .i64 n0, .string b0, .slice a ts.length cap] 60) = W at *
  go_loopw [5, 11] (fun n i wr => ∃ k N : Nat, k ≤ ts.length ∧ n = .int .i64 N ∧ i = .int .i64 k ∧ Hid (N = 1 + nodesL (ts.take k)) ∧ Hid (Below w.heap.size w wr)) (fun _ i _ => ts.length - (intOf i).toNat)
  case atStart => exact ⟨0, 1, Nat.zero_le _, rfl, rfl, Lib.hid (by rw [List.take_zero, nodesL]), Lib.hid hB0⟩
  case round =>
    clear hB0
    obtain ⟨k, N, hk, rfl, rfl, HN, HB⟩ := hrel
    have hNle := nodesL_le ts k
    have hNe := HN.out
    by_cases hlt : k < ts.length
    · have hget := List.getElem?_eq_getElem hlt
      obtain ⟨g, e1, e2, e3, e4, e5, e6, rfl, hrepk, hcells⟩ := kid_at HO.out HR.out hget
      have hk24 := K24.below HB.out
      obtain ⟨hg, p0, p1, p2, p3⟩ := hcells wr hk24
      have htk := nodesL_take hget
      have hle2 := nodesL_le ts (k + 1)
      have hlo : (N : Int) < m := by have := nodes_pos ts[k]; omega
      have hnk : (nodes ts[k] : Int) ≤ m - N := by omega
      have HC : Hid (∀ W, K24 wr W → Calls Tryz.prog 101 #[.agg #[.int .i64 e1, .int .i64 e2, .string e3, .slice e4 e5 e6], .int .i64 (m - N)] W fun e w' => e = .returned (.int .i64 (nodes ts[k])) ∧ Below W.heap.size W w') :=
        Lib.hid (fun W hW => HT.out ts[k] (List.getElem_mem hlt) W _ _ (hrepk.k24 (hk24.trans hW)) hnk (by omega))
      have HTK : Hid (N + nodes ts[k] = 1 + nodesL (ts.take (k + 1))) := Lib.hid (by omega)
      have hb : N + nodes ts[k] ≤ 4001 := by omega
      clear hcells hrepk hk24 htk hle2 hget hnk hNe hNle
      generalize nodes ts[k] = nk at *
      go_wp2_with fail
      refine (HC.out _ ((K24.refl _).alloc _)).mono ?_
      rintro e w2 ⟨rfl, hb2⟩
      have HB2 : Hid (Below w.heap.size w w2) := Lib.hid ((HB.out.trans ((below1 wr _).mono HB.out.size)).trans (hb2.mono (by have := HB.out.size; simp; omega)))
      clear hb2 p0 p1 p2 p3
      go_wp2
      go_roundw
      case rel => exact ⟨k + 1, N + nk, by omega, by go_num, by go_num, HTK, HB2⟩
      case measure => simp [intOf]; omega
    · have hN2 : N = 1 + nodesL ts := by rw [hNe, List.take_of_length_le (by omega)]
      have hmm : ¬ m < (N : Int) := by omega
      have HE : Hid ((N : Int) = (nodes t : Int)) := Lib.hid (by rw [hN2, HNK.out])
      clear hN2 hNe
      go_wp2
      go_ret
      exact ⟨by rw [HE.out]; rfl, HB.out⟩
mutual
theorem many_ok : ∀ t : Tree, ManyOK t
  | .num n => many_of (fun u hu => by cases hu)
  | .text bs => many_of (fun u hu => by cases hu)
  | .list ts => many_of (many_okL ts)
theorem many_okL : ∀ ts : List Tree, ∀ t, t ∈ ts → ManyOK t
  | [], t, ht => by cases ht
  | u :: ts, t, ht => by
    rcases List.mem_cons.1 ht with h' | h'
    · rw [h']; exact many_ok u
    · exact many_okL ts t h'
end
def DeepOK (t : Tree) : Prop := ∀ (w : World) (v : Value) (m : Int), Rep w (S24 w) t v → (dep t : Int) < m → m ≤ 31 → nodes t ≤ 4000 → Calls Tryz.prog 102 #[v, .int .i64 m] w fun e w' => e = .returned (.int .i64 (dep t)) ∧ Below w.heap.size w w'
set_option maxHeartbeats 1600000 in
set_option maxRecDepth 100000 in
theorem deep_of {t : Tree} (hts : ∀ u, u ∈ kids t → DeepOK u) : DeepOK t := by
  intro w v m hrep hm hm2 hn
  obtain ⟨kd, n0, b0, a, cap, xs, rfl, ho, hr⟩ := rep_kids hrep
  have hnk := nodes_kids t
  have hlen := nodesL_len (kids t)
  have hdk := dep_kids t
  rw [hdk] at hm
  rw [hnk] at hn
  have HDK := Lib.hid hdk
  have HT := Lib.hid hts
  have HO := Lib.hid ho
  have HR := Lib.hid hr
  clear hts ho hr hrep hnk hdk
  generalize hks : kids t = ts at *
  clear hks
  go_enter Tryz.func102, Tryz.ntmps102
  go_wp2
  have hB0 : Below w.heap.size w (w.alloc (.cells #[.int .i64 kd, .int .i64 n0, .string b0, .slice a ts.length cap] 60)) := below1 w _
  generalize w.alloc (.cells #[.int .i64 kd, .int .i64 n0, .string b0, .slice a ts.length cap] 60) = W at *
  go_loopw [5, 15] (fun n i wr => ∃ k N : Nat, k ≤ ts.length ∧ n = .int .i64 N ∧ i = .int .i64 k ∧ Hid (N = depL (ts.take k)) ∧ Hid (Below w.heap.size w wr)) (fun _ i _ => ts.length - (intOf i).toNat)
  case atStart => exact ⟨0, 0, Nat.zero_le _, rfl, rfl, Lib.hid (by rw [List.take_zero, depL]), Lib.hid hB0⟩
  case round =>
    clear hB0
    obtain ⟨k, N, hk, rfl, rfl, HN, HB⟩ := hrel
    have hNle := depL_le ts k
    have hNe := HN.out
    by_cases hlt : k < ts.length
    · have hget := List.getElem?_eq_getElem hlt
      obtain ⟨g, e1, e2, e3, e4, e5, e6, rfl, hrepk, hcells⟩ := kid_at HO.out HR.out hget
      have hk24 := K24.below HB.out
      obtain ⟨hg, p0, p1, p2, p3⟩ := hcells wr hk24
      have htk := depL_take hget
      have hle2 := depL_le ts (k + 1)
      have hnm := nodes_mem (List.getElem_mem hlt)
      have HC : Hid (∀ W, K24 wr W → Calls Tryz.prog 102 #[.agg #[.int .i64 e1, .int .i64 e2, .string e3, .slice e4 e5 e6], .int .i64 (m - 1)] W fun e w' => e = .returned (.int .i64 (dep ts[k])) ∧ Below W.heap.size W w') :=
        Lib.hid (fun W hW => HT.out ts[k] (List.getElem_mem hlt) W _ _ (hrepk.k24 (hk24.trans hW)) (by omega) (by omega) (by omega))
      have HTK : Hid (max N (dep ts[k]) = depL (ts.take (k + 1))) := Lib.hid (by rw [htk, hNe])
      have hb : (N : Int) < m - 1 := by omega
      have hb3 : (dep ts[k] : Int) < m - 1 := by omega
      clear hcells hrepk hk24 htk hle2 hget hnm hNe hNle
      generalize dep ts[k] = nk at *
      go_wp2_with fail
      refine (HC.out _ ((K24.refl _).alloc _)).mono ?_
      rintro e w2 ⟨rfl, hb2⟩
      have HB2 : Hid (Below w.heap.size w w2) := Lib.hid ((HB.out.trans ((below1 wr _).mono HB.out.size)).trans (hb2.mono (by have := HB.out.size; simp; omega)))
      clear hb2 p0 p1 p2 p3
      by_cases hgt : (N : Int) < (nk : Int)
      · go_wp2
        go_roundw
        case rel => exact ⟨k + 1, nk, by omega, by go_num, by go_num, Lib.hid (by rw [← HTK.out]; omega), HB2⟩
        case measure => simp [intOf]; omega
      · go_wp2
        go_roundw
        case rel => exact ⟨k + 1, N, by omega, by go_num, by go_num, Lib.hid (by rw [← HTK.out]; omega), HB2⟩
        case measure => simp [intOf]; omega
    · have hN2 : N = depL ts := by rw [hNe, List.take_of_length_le (by omega)]
      have HE : Hid ((N : Int) + 1 = (dep t : Int)) := Lib.hid (by rw [HDK.out, hN2]; omega)
      have hNb : (N : Int) < 31 := by omega
      clear hN2 hNe
      go_wp2
      go_ret
      exact ⟨by rw [HE.out]; rfl, HB.out⟩
mutual
theorem deep_ok : ∀ t : Tree, DeepOK t
  | .num n => deep_of (fun u hu => by cases hu)
  | .text bs => deep_of (fun u hu => by cases hu)
  | .list ts => deep_of (deep_okL ts)
theorem deep_okL : ∀ ts : List Tree, ∀ t, t ∈ ts → DeepOK t
  | [], t, ht => by cases ht
  | u :: ts, t, ht => by
    rcases List.mem_cons.1 ht with h' | h'
    · rw [h']; exact deep_ok u
    · exact deep_okL ts t h'
end
end Go.Proofs.YtdnedbcmgkilaaaGreatDoor.Co

end

section

namespace Go.Proofs.YtdnedbcmgkilaaaGreatDoor.Co
open Go.RowKit
theorem below_tr {w w1 w2 : World} (h1 : Below w.heap.size w w1) (h2 : Below w1.heap.size w1 w2) : Below w.heap.size w w2 := h1.trans (h2.mono h1.size)
def ShapedOK (t : Tree) : Prop := ∀ (w : World) (v : Value), Rep w (S24 w) t v → nodes t ≤ 4000 → Calls Tryz.prog 103 #[v] w fun e w' => e = .returned (.bool true) ∧ Below w.heap.size w w'
set_option maxHeartbeats 1600000 in
set_option maxRecDepth 100000 in
theorem shaped_list {ts : List Tree} (hts : ∀ u, u ∈ ts → ShapedOK u) : ShapedOK (.list ts) := by
  intro w v hrep hn
  rw [Rep] at hrep
  obtain ⟨L, xs, rfl, ho, -, hr⟩ := hrep
  obtain ⟨a, n, cap, rfl, hne⟩ : ∃ a n cap, L = .slice a n cap ∧ n = ts.length := by
    rcases ho.2 with ⟨rfl, h0⟩ | ⟨g, cap, cur, rfl, -⟩
    · exact ⟨_, _, _, rfl, h0.symm⟩
    · exact ⟨_, _, _, rfl, rfl⟩
  subst hne
  have hlen := nodesL_len ts
  rw [nodes] at hn
  have HT := Lib.hid hts
  have HO := Lib.hid ho
  have HR := Lib.hid hr
  clear hts ho hr
  go_enter Tryz.func103, Tryz.ntmps103
  go_wp2
  have hB0 : Below w.heap.size w (w.alloc (.cells #[.int .i64 3, .int .i64 0, .string ⟨#[]⟩, .slice a ts.length cap] 60)) := below1 w _
  have hb0 : (w.alloc (.cells #[.int .i64 3, .int .i64 0, .string ⟨#[]⟩, .slice a ts.length cap] 60)).heap[w.heap.size]? = some (.cells #[.int .i64 3, .int .i64 0, .string ⟨#[]⟩, .slice a ts.length cap] 60 (0, 0)) := heap_alloc_new _ _
  generalize w.alloc (.cells #[.int .i64 3, .int .i64 0, .string ⟨#[]⟩, .slice a ts.length cap] 60) = W at *
  go_loopw [34] (fun i wr => ∃ k : Nat, k ≤ ts.length ∧ i = .int .i64 k ∧ Hid (Below w.heap.size w wr) ∧ Hid (wr.heap[w.heap.size]? = some (.cells #[.int .i64 3, .int .i64 0, .string ⟨#[]⟩, .slice a ts.length cap] 60 (0, 0)))) (fun i _ => ts.length - (intOf i).toNat)
  case atStart => exact ⟨0, Nat.zero_le _, rfl, Lib.hid hB0, Lib.hid hb0⟩
  case round =>
    clear hB0 hb0
    obtain ⟨k, hk, rfl, HB, HX⟩ := hrel
    by_cases hlt : k < ts.length
    · have hget := List.getElem?_eq_getElem hlt
      obtain ⟨g, e1, e2, e3, e4, e5, e6, rfl, hrepk, hcells⟩ := kid_at HO.out HR.out hget
      have hk24 := K24.below HB.out
      obtain ⟨hg, p0, p1, p2, p3⟩ := hcells wr hk24
      have hnm := nodes_mem (List.getElem_mem hlt)
      have HC : Hid (∀ W, K24 wr W → Calls Tryz.prog 103 #[.agg #[.int .i64 e1, .int .i64 e2, .string e3, .slice e4 e5 e6]] W fun e w' => e = .returned (.bool true) ∧ Below W.heap.size W w') :=
        Lib.hid (fun W hW => HT.out ts[k] (List.getElem_mem hlt) W _ (hrepk.k24 (hk24.trans hW)) (by omega))
      clear hcells hrepk hk24 hget hnm
      go_wp2_with fail
      refine (HC.out _ ((K24.refl _).alloc _)).mono ?_
      rintro e w2 ⟨rfl, hb2⟩
      have HB12 := Lib.hid (below_tr (below1 wr (.cells #[.int .i64 e1, .int .i64 e2, .string e3, .slice e4 e5 e6] 60)) hb2)
      have HB2 : Hid (Below w.heap.size w w2) := Lib.hid (HB.out.trans (HB12.out.mono HB.out.size))
      have HX2 : Hid (w2.heap[w.heap.size]? = some (.cells #[.int .i64 3, .int .i64 0, .string ⟨#[]⟩, .slice (some ⟨g, 0, none⟩) ts.length cap] 60 (0, 0))) := Lib.hid ((HB12.out.block _ (lt_of_heap HX.out)).trans HX.out)
      clear hb2 p0 p1 p2 p3
      go_wp2
      go_roundw
      case rel => exact ⟨k + 1, by omega, by go_num, HB2, HX2⟩
      case measure => simp [intOf]; omega
    · have x1 : wr.cell? ⟨w.heap.size, 1, none⟩ = some (.int .i64 0) := by simp [World.cell?, HX.out]
      have x2 : wr.cell? ⟨w.heap.size, 2, none⟩ = some (.string ⟨#[]⟩) := by simp [World.cell?, HX.out]
      go_wp2
      go_ret
      exact ⟨rfl, HB.out⟩
set_option maxHeartbeats 1600000 in
theorem shaped_leaf {t : Tree} (hk : ∀ ts, t ≠ .list ts) : ShapedOK t := by
  intro w v hrep _
  cases t with
  | num n =>
    rw [Rep] at hrep; subst hrep
    go_enter Tryz.func103, Tryz.ntmps103
    go_wp2
    go_ret
    exact ⟨rfl, below1 _ _⟩
  | text bs =>
    rw [Rep] at hrep; subst hrep
    go_enter Tryz.func103, Tryz.ntmps103
    go_wp2
    go_ret
    exact ⟨rfl, below1 _ _⟩
  | list ts => exact absurd rfl (hk ts)
mutual
theorem shaped_ok : ∀ t : Tree, ShapedOK t
  | .num n => shaped_leaf (fun ts h => by cases h)
  | .text bs => shaped_leaf (fun ts h => by cases h)
  | .list ts => shaped_list (shaped_okL ts)
theorem shaped_okL : ∀ ts : List Tree, ∀ t, t ∈ ts → ShapedOK t
  | [], t, ht => by cases ht
  | u :: ts, t, ht => by
    rcases List.mem_cons.1 ht with h' | h'
    · rw [h']; exact shaped_ok u
    · exact shaped_okL ts t h'
end
theorem rright_any {t : Tree} {v : Value} {w : World} (hrep : Rep w (S24 w) t v) (hlev : Lev 1 t) (hn : nodes t ≤ 4000) : Calls Tryz.prog 66 #[v] w fun e w' => e = .returned (.int .i64 0) ∧ Below w.heap.size w w' := by
  have hdl := dep_lev t 1 hlev
  obtain ⟨kd, n0, b0, a, len, cap, rfl⟩ := Rep.cells t v hrep
  have H1 := Lib.hid (fun (W : World) (hb : Below w.heap.size w W) => many_ok t W _ 4001 (hrep.k24 (K24.below hb)) (by omega) (by omega))
  have H2 := Lib.hid (fun (W : World) (hb : Below w.heap.size w W) => deep_ok t W _ 31 (hrep.k24 (K24.below hb)) (by omega) (by omega) hn)
  have H3 := Lib.hid (fun (W : World) (hb : Below w.heap.size w W) => shaped_ok t W _ (hrep.k24 (K24.below hb)) hn)
  clear hrep hlev
  have h1 : ¬ 4000 < (nodes t : Int) := by omega
  have h2 : ¬ 30 < (dep t : Int) := by omega
  go_enter Tryz.func66, Tryz.ntmps66
  go_wp2_with fail
  refine (H1.out _ ((Below.refl _ _).alloc (Nat.le_refl _) _)).mono ?_
  rintro e w1 ⟨rfl, hb1⟩
  have HX : Hid (w1.heap[w.heap.size]? = some (.cells #[.int .i64 kd, .int .i64 n0, .string b0, .slice a len cap] 60 (0, 0))) := Lib.hid ((hb1.block _ (by simp)).trans (heap_alloc_new _ _))
  have HB1 : Hid (Below w.heap.size w w1) := Lib.hid (below_tr (below1 w _) hb1)
  clear hb1
  have c0 : w1.cell? ⟨w.heap.size, 0, none⟩ = some (.int .i64 kd) := by simp [World.cell?, HX.out]
  have c1 : w1.cell? ⟨w.heap.size, 1, none⟩ = some (.int .i64 n0) := by simp [World.cell?, HX.out]
  have c2 : w1.cell? ⟨w.heap.size, 2, none⟩ = some (.string b0) := by simp [World.cell?, HX.out]
  have c3 : w1.cell? ⟨w.heap.size, 3, none⟩ = some (.slice a len cap) := by simp [World.cell?, HX.out]
  go_wp2_with fail
  refine (H2.out _ HB1.out).mono ?_
  rintro e w2 ⟨rfl, hb2⟩
  have HX2 : Hid (w2.heap[w.heap.size]? = some (.cells #[.int .i64 kd, .int .i64 n0, .string b0, .slice a len cap] 60 (0, 0))) := Lib.hid ((hb2.block _ (lt_of_heap HX.out)).trans HX.out)
  have HB2 : Hid (Below w.heap.size w w2) := Lib.hid (below_tr HB1.out hb2)
  clear hb2 c0 c1 c2 c3
  have c0 : w2.cell? ⟨w.heap.size, 0, none⟩ = some (.int .i64 kd) := by simp [World.cell?, HX2.out]
  have c1 : w2.cell? ⟨w.heap.size, 1, none⟩ = some (.int .i64 n0) := by simp [World.cell?, HX2.out]
  have c2 : w2.cell? ⟨w.heap.size, 2, none⟩ = some (.string b0) := by simp [World.cell?, HX2.out]
  have c3 : w2.cell? ⟨w.heap.size, 3, none⟩ = some (.slice a len cap) := by simp [World.cell?, HX2.out]
  go_wp2_with fail
  refine (H3.out _ HB2.out).mono ?_
  rintro e w3 ⟨rfl, hb3⟩
  have HB3 : Hid (Below w.heap.size w w3) := Lib.hid (below_tr HB2.out hb3)
  clear hb3
  go_wp2
  go_ret
  exact ⟨rfl, HB3.out⟩
end Go.Proofs.YtdnedbcmgkilaaaGreatDoor.Co

end

section

namespace Go.Proofs.YtdnedbcmgkilaaaGreatDoor.Co
open Go.RowKit Go.Lib
theorem BA_len (s : ByteArray) : s.data.toList.length = s.size := by simp
theorem infoB : (Tryz.prog.info? 5).map (fun i => (i.zero, i.size, i.bytes)) = some (some (.int .u8 0), 1, 1) := by kernel_rfl
def OwnM (w : World) (base : Nat) (v : Value) (xs : List Value) : Prop :=
  ∃ g cap cur lo hi, v = .slice (some ⟨g, 0, none⟩) xs.length cap ∧ base ≤ g ∧ w.heap[g]? = some (.cells cur 5 (lo, hi)) ∧ (∀ i, i < cur.size → ¬ (lo ≤ i ∧ i < hi)) ∧ xs.length ≤ cap ∧ cap ≤ maxLen ∧ cur.size = cap ∧ cur.toList.take xs.length = xs
theorem OwnM.lt {w : World} {base : Nat} {v : Value} {xs : List Value} (h : OwnM w base v xs) (g : Nat) (hg : v.ownBlock = some g) : base ≤ g ∧ g < w.heap.size := by
  obtain ⟨g1, cap, cur, lo, hi, rfl, hb, hh, -⟩ := h
  obtain rfl : g1 = g := Option.some.inj hg
  exact ⟨hb, (Array.getElem?_eq_some_iff.1 hh).1⟩
theorem OwnM.below {w w' : World} {base : Nat} {v : Value} {xs : List Value} (h : OwnM w base v xs) (hb : Below w.heap.size w w') : OwnM w' base v xs := by
  obtain ⟨g, cap, cur, lo, hi, hv, hbs, hh, hr⟩ := h
  exact ⟨g, cap, cur, lo, hi, hv, hbs, (hb.block g (Array.getElem?_eq_some_iff.1 hh).1).trans hh, hr⟩
theorem OwnM.slice {w : World} {base : Nat} {v : Value} {xs : List Value} (h : OwnM w base v xs) : ∃ g cap, v = .slice (some ⟨g, 0, none⟩) xs.length cap ∧ base ≤ g ∧ g < w.heap.size ∧ xs.length ≤ cap := by
  obtain ⟨g, cap, cur, lo, hi, hv, hb, hh, -, hc, -⟩ := h
  exact ⟨g, cap, hv, hb, (Array.getElem?_eq_some_iff.1 hh).1, hc⟩
theorem OwnM.cell {w : World} {base g n cap : Nat} {xs : List Value} (h : OwnM w base (.slice (some ⟨g, 0, none⟩) n cap) xs) {j : Nat} {u : Value} (hj : xs[j]? = some u) : w.cell? ⟨g, j, none⟩ = some u := by
  obtain ⟨g1, cap1, cur, lo, hi, hv, hb, hh, -, hc, -, hs, ht⟩ := h
  obtain ⟨h3, -, -⟩ := Value.slice.inj hv
  obtain rfl : g = g1 := by injection h3 with h; injection h
  have h1 : (cur.toList.take xs.length)[j]? = some u := by rw [ht]; exact hj
  rw [List.getElem?_take] at h1
  split at h1
  · rw [Array.getElem?_toList] at h1
    simp [World.cell?, hh, h1]
  · cases h1
section
variable {P : Program}
theorem run_append_mark (w : World) (base : Nat) (t ty : TypeId) (i : TypeInfo) (ht : P.underlying t = some (.slice 5)) (hi : P.info? 5 = some i) (hz : i.zero = some (.int .u8 0)) (hsize : i.size = 1) (hby : i.bytes = 1)
    (v : Value) (xs : List Value) (hM : OwnM w base v xs) (ad : Addr) (u : Value) (c : Nat) (hnews : w.cell? (ad.add 0) = some u) (h1 : u.oneCell' = true) (hn : xs.length + 1 ≤ 140737488355328) (hbase : base ≤ w.heap.size) :
    ∃ v' w', (Builtin.append_ #[t, t] ty #[v, .slice (some ad) 1 c]).run P w = .ok v' w' ∧ OwnM w' base v' (xs ++ [u]) ∧ w.grownBy w' v.ownBlock := by
  have hMM := hM
  obtain ⟨g, cap, cur, lo, hi', rfl, hb, hh, hfz, hc, hcm, hs, htk⟩ := hM
  have hlt := (Array.getElem?_eq_some_iff.1 hh).1
  have hn1 : ∀ j v, [u][j]? = some v → w.cell? (ad.add j) = some v := fun j v hv => by
    cases j with
    | zero => rw [← Option.some.inj hv]; exact hnews
    | succ j => cases hv
  by_cases hroom : xs.length + 1 ≤ cap
  · have hf := run_firstCells_some (P := P) w i.size 1 ad 1 c [u] (by rw [hsize]; rfl) hn1
    have hst := run_storeCells_cells (P := P) g xs.length [u] 0 w (fun j hj => by
        have : j = 0 := by simpa using hj
        subst this
        simp [World.cell?, hh]
        omega) (fun j hj => by
        have : j = 0 := by simpa using hj
        subst this
        have := hfz xs.length (by omega)
        simp [World.frozen?, hh]
        omega) (fun v hv => by rw [List.mem_singleton.1 hv]; exact h1)
    simp only [Nat.add_zero] at hst
    refine ⟨.slice (some ⟨g, 0, none⟩) (xs.length + 1) cap, w.setCells g xs.length [u], ?_, ⟨g, cap, cur.set! xs.length u, lo, hi', by simp, hb, ?_, by simpa using hfz, by simpa using hroom, hcm, by simpa using hs, ?_⟩, ⟨rfl, rfl, rfl, by simp [World.setCells, World.setCell], fun k hk hne => ?_⟩⟩
    · rw [hsize] at hf
      simp [Builtin.append_, run_underlying ht, sizeOf, typeInfo, hi, Builtin.lenOf, hroom, hf, Addr.add_lit, hsize, hst]
    · simp [World.setCells, World.setCell, Array.getElem?_modify, hh]
    · rw [List.length_append, List.length_singleton, Array.set!_eq_setIfInBounds, Array.toList_setIfInBounds, List.take_set, List.take_add_one, htk]
      rw [List.getElem?_eq_getElem (by simp; omega), Option.toList_some, List.set_append_right _ _ (Nat.le_refl _)]
      simp
    · simp only [World.setCells]
      exact Below.heap_setCell _ _ _ _ (fun e => hne (by rw [e]; rfl))
  · have hcells : ∀ j v, xs[j]? = some v → w.cell? ((⟨g, 0, none⟩ : Addr).add j) = some v := fun j v hv => by
      rw [Addr.add_mid, Nat.zero_add]
      exact hMM.cell hv
    have hr := run_append_grow (P := P) w t ty 5 i (.int .u8 0) ht hi hz ⟨g, 0, none⟩ xs.length cap xs (by rw [hsize, Nat.mul_one]) hcells ad 1 c [u] (by rw [hsize]; rfl) hn1 (by omega) (by omega) (growslice_fits (by omega) (by rw [hby]; omega))
    have hge := grownCap_ge w (xs.length + 1) cap 5
    have hcm2 : grownCap w (xs.length + 1) cap 5 ≤ maxLen := grownCap_le_maxLen w (xs.length + 1) cap 5 (by unfold maxLen; omega)
    refine ⟨_, _, hr, ⟨w.heap.size, grownCap w (xs.length + 1) cap 5, _, 0, 0, by simp, hbase, heap_alloc_new w.drew _, fun i _ => by omega, by simpa using hge, hcm2, ?_, ?_⟩, ⟨rfl, rfl, rfl, by simp, fun k hk _ => heap_alloc_old w.drew _ hk⟩⟩
    · simp only [Array.size_append, List.size_toArray, size_zeroCells]
      show xs.length + 1 + (grownCap w (xs.length + 1) cap 5 - (xs.length + 1)) * 1 = _
      omega
    · simp only [Array.toList_append]
      rw [List.take_append_of_le_length (by simp), List.take_of_length_le (by simp)]
theorem wpList_append_mark {w : World} {ops : Array Oper} {rest : List Oper} {o : Oper} {a : Act} {Q : Exit → Act → World → Prop} (hgd : o.guard = none) (s x : Operand) (t : TypeId)
    (ho : o.op = .call { callee := .builtin .append, args := #[s, x], argTypes := #[t, t] }) (base : Nat) (i : TypeInfo) (ht : P.underlying t = some (.slice 5)) (hi : P.info? 5 = some i) (hz : i.zero = some (.int .u8 0)) (hsize : i.size = 1) (hby : i.bytes = 1)
    (v : Value) (xs : List Value) (hs : a.eval s = v) (hM : OwnM w base v xs) (ad : Addr) (u : Value) (c : Nat) (hx : a.eval x = .slice (some ad) 1 c) (hnews : w.cell? (ad.add 0) = some u) (h1 : u.oneCell' = true) (hn : xs.length + 1 ≤ 140737488355328) (hbase : base ≤ w.heap.size)
    (h : ∀ v' w', OwnM w' base v' (xs ++ [u]) → w.grownBy w' v.ownBlock → wpList P ops Q rest (a.put o.dst v') w') : wpList P ops Q (o :: rest) a w := by
  refine wpList_plain hgd fun K hK => ?_
  obtain ⟨v', w', hr, h2, h3⟩ := run_append_mark (P := P) w base t o.type i ht hi hz hsize hby v xs hM ad u c hnews h1 hn hbase
  unfold Oper.wp execOp
  simp only [ho, resolve, invoke, builtin, Sem.run_bind, Sem.run_pure, Result.andThen_ok, List.map_toArray, List.map_cons, List.map_nil, hs, hx, hr]
  exact hK _ _ (h v' w' h2 h3)
end
abbrev OwnB (w : World) (B : Nat) (v : Value) (l : List UInt8) : Prop := w.ownsRow B 5 1 v l.length (Lib.byteCells l)
def OwnX (w : World) (B : Nat) (v : Value) (l : List UInt8) : Prop :=
  (OwnB w B v l ∧ v ≠ .slice none 0 0) ∨ ∃ g c, v = .slice (some ⟨g, 0, none⟩) 1 1 ∧ B ≤ g ∧ w.heap[g]? = some (.cells #[c] 5 (1, 2)) ∧ l.length = 1 ∧ Lib.byteCells l = [c]
theorem OwnX.below {w w' : World} {B : Nat} {v : Value} {l : List UInt8} (h : OwnX w B v l) (hb : Below w.heap.size w w') : OwnX w' B v l := by
  rcases h with ⟨h, hn⟩ | ⟨g, c, hv, hB, hh, hl⟩
  · exact .inl ⟨ownsRow_keep h (fun g hg => hb.block g (h.lt g hg).2), hn⟩
  · exact .inr ⟨g, c, hv, hB, (hb.block g (lt_of_heap hh)).trans hh, hl⟩
theorem OwnX.lt {w : World} {B : Nat} {v : Value} {l : List UInt8} (h : OwnX w B v l) (g : Nat) (hg : v.ownBlock = some g) : B ≤ g ∧ g < w.heap.size := by
  rcases h with ⟨h, -⟩ | ⟨g', c, rfl, hB, hh, -⟩
  · exact h.lt g hg
  · obtain rfl : g' = g := Option.some.inj hg
    exact ⟨hB, lt_of_heap hh⟩
theorem OwnX.slice {w : World} {B : Nat} {v : Value} {l : List UInt8} (h : OwnX w B v l) : ∃ a cap, v = .slice a l.length cap := by
  rcases h with ⟨h, -⟩ | ⟨g, c, rfl, -, -, hl, -⟩
  · rcases h.2 with ⟨rfl, h0⟩ | ⟨g, cap, cur, rfl, -⟩
    · exact ⟨none, 0, by rw [h0]⟩
    · exact ⟨_, cap, rfl⟩
  · exact ⟨_, 1, by rw [hl]⟩
theorem OwnX.mark {w : World} {B : Nat} {v : Value} {l : List UInt8} (h : OwnX w B v l) : OwnM w B v (Lib.byteCells l) := by
  have hlen : (Lib.byteCells l).length = l.length := Lib.byteCells_length l
  rcases h with ⟨h, hn⟩ | ⟨g, c, rfl, hB, hh, hl, hc⟩
  · rcases h.2 with ⟨rfl, -⟩ | ⟨g, cap, cur, rfl, hb, hh, h1, h2, h3, h4⟩
    · exact absurd rfl hn
    · exact ⟨g, cap, cur, 0, 0, by rw [hlen], hb, hh, fun i _ => by omega, by rw [hlen]; exact h1, h2, by rw [h3, Nat.mul_one], by rw [hlen]; rw [Nat.mul_one] at h4; exact h4⟩
  · refine ⟨g, 1, #[c], 1, 2, by rw [hlen, hl], hB, hh, fun i hi => ?_, by rw [hlen, hl]; exact Nat.le_refl _, by decide, rfl, by rw [hc]; rfl⟩
    have : i < 1 := hi
    omega
set_option maxRecDepth 100000 in
theorem mark_back {w : World} {B : Nat} {a : Option Addr} {n cap : Nat} {l : List UInt8} (h : OwnM w B (.slice a n cap) (Lib.byteCells l)) : (convert 81 9 (.slice a n cap)).run Tryz.prog w = .ok (.string ⟨l.toArray⟩) w := by
  have hM := h
  obtain ⟨g, cap', cur, lo, hi, hv, -⟩ := h
  injection hv with h1 h2 h3
  subst h1 h3
  have hlen : (Lib.byteCells l).length = l.length := Lib.byteCells_length l
  rw [hlen] at h2
  subst h2
  refine run_convert_bytes_back (P := Tryz.prog) w 81 9 5 ⟨g, 0, none⟩ cap l Tryz.underlying81 Tryz.underlying5 Tryz.underlying9 (fun j hj => ?_)
  rw [Addr.add_mid, Nat.zero_add]
  exact hM.cell (by simp [Lib.byteCells, hj])
theorem appX_str (w : World) (B : Nat) (ty : TypeId) (v : Value) (l : List UInt8) (hX : OwnX w B v l) (s : ByteArray) (hs : 1 ≤ s.size) (hl : l.length + s.size ≤ 140737488355328) (hbase : B ≤ w.heap.size) :
    ∃ v' w', (Builtin.append_ #[81, 9] ty #[v, .string s]).run Tryz.prog w = .ok v' w' ∧ OwnX w' B v' (l ++ s.data.toList) ∧ w.grownBy w' v.ownBlock := by
  obtain ⟨i0, hi, hz0, hz1, hz2⟩ := info_parts infoB
  have e : Lib.byteCells (l ++ s.data.toList) = Lib.byteCells l ++ Lib.strCells s := by simp [Lib.byteCells, Lib.strCells]
  have e2 : (l ++ s.data.toList).length = l.length + s.size := by rw [List.length_append, BA_len]
  rcases hX with ⟨hX, hn⟩ | ⟨g, c, rfl, hB, hh, hl1, hc⟩
  · obtain ⟨v', w', hr, h2, h3, h4⟩ := run_append_own_string (P := Tryz.prog) w B 81 9 ty 5 i0 Tryz.underlying81 Tryz.underlying9 hi hz0 hz1 hz2 v l.length _ hX s (by unfold maxLen; omega) hl hbase
    exact ⟨v', w', hr, .inl ⟨by unfold OwnB; rw [e, e2]; exact h2, fun hv => hn (h4.1 hv).1⟩, h3⟩
  · have holds : ∀ j u, [c][j]? = some u → w.cell? ((⟨g, 0, none⟩ : Addr).add j) = some u := fun j u hu => by
      rw [Addr.add_mid, Nat.zero_add]
      match j, hu with
      | 0, hu => simp [World.cell?, hh]; simpa using hu
    have hr := run_append_grow_string (P := Tryz.prog) w 81 9 ty 5 i0 (.int .u8 0) Tryz.underlying81 Tryz.underlying9 hi hz0 ⟨g, 0, none⟩ 1 1 [c] (by rw [hz1]; rfl) holds s (by omega) (by omega) (by rw [hz2]; exact growslice_fits (by omega) (by omega))
    have hge := grownCap_ge w (1 + s.size) 1 5
    have hcm : grownCap w (1 + s.size) 1 5 ≤ maxLen := grownCap_le_maxLen w (1 + s.size) 1 5 (by unfold maxLen; omega)
    refine ⟨_, _, hr, .inl ⟨?_, by simp⟩, ⟨rfl, rfl, rfl, by simp, fun k hk _ => heap_alloc_old w.drew _ hk⟩⟩
    unfold OwnB
    rw [e, e2, hl1, hc]
    refine ⟨by simp [Lib.strCells_length]; omega, .inr ⟨w.heap.size, _, _, rfl, hbase, heap_alloc_new w.drew _, hge, hcm, ?_, ?_⟩⟩
    · have hz1 : (Value.int IntKind.u8 0).cells.size = 1 := rfl
      simp only [Array.size_append, List.size_toArray, size_zeroCells, hz1, Lib.strCells_length, List.length_cons, List.length_nil]
      omega
    · simp only [Array.toList_append]
      rw [List.take_append_of_le_length (by simp [Lib.strCells_length]; omega), List.take_of_length_le (by simp [Lib.strCells_length]; omega)]
end Go.Proofs.YtdnedbcmgkilaaaGreatDoor.Co

end
