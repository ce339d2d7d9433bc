/- Catalogs: their bytes; what is written is read again, what is read, written again, is the bytes; mathematics alone. -/
import Derived.Deep.RegionLaw
import Derived.Deep.AppendLies
import Derived.Test.YtdnedbcmgkilaaaGreatDoorZK
import Derived.Test.YtdnedbcmgkilaaaGreatDoorZc4
import Derived.Test.YtdnedbcmgkilaaaGreatDoorZc2
import Derived.Test.YtdnedbcmgkilaaaGreatDoorZEal

section

namespace Go.Proofs.YtdnedbcmgkilaaaGreatDoor.Ca
open Go.Proofs.YtdnedbcmgkilaaaGreatDoor

/-- The value of an entry, of a catalog. -/
def entT (e : Ent) : Co.Tree := .list [.text e.loc.data.toList, .text e.key.data.toList, .text e.pat.data.toList]
def catT (l : List Ent) : Co.Tree := .list (l.map entT)
abbrev str (l : List UInt8) : BA := ⟨l.toArray⟩
/-- The entries of a value that has the form. -/
def ofE : Co.Tree → Option Ent
  | .list [.text a, .text b, .text c] => some ⟨str a, str b, str c⟩
  | _ => none
def ofL : List Co.Tree → Option (List Ent)
  | [] => some []
  | t :: r => match ofE t, ofL r with
    | some e, some l => some (e :: l)
    | _, _ => none
def ofT : Co.Tree → Option (List Ent)
  | .list ts => ofL ts
  | _ => none
theorem ofE_ent (e : Ent) : ofE (entT e) = some e := by
  obtain ⟨a, b, c⟩ := e
  unfold entT ofE
  simp only [Option.some.injEq]
theorem ofE_some {t : Co.Tree} {e : Ent} (h : ofE t = some e) : t = entT e := by
  unfold ofE at h
  split at h
  · cases h; rfl
  · cases h
theorem ofL_cat : ∀ l : List Ent, ofL (l.map entT) = some l
  | [] => rfl
  | e :: r => by rw [List.map_cons, ofL, ofE_ent, ofL_cat r]
theorem ofL_some : ∀ {ts : List Co.Tree} {l : List Ent}, ofL ts = some l → ts = l.map entT
  | [], l, h => by rw [ofL] at h; cases h; rfl
  | t :: r, l, h => by
    rw [ofL] at h
    cases he : ofE t with
    | none => rw [he] at h; cases h
    | some e =>
      cases hl : ofL r with
      | none => rw [he, hl] at h; cases h
      | some m =>
        rw [he, hl] at h
        cases h
        rw [List.map_cons, ← ofE_some he, ← ofL_some hl]
theorem ofT_cat (l : List Ent) : ofT (catT l) = some l := by unfold catT ofT; exact ofL_cat l
theorem ofT_some {t : Co.Tree} {l : List Ent} (h : ofT t = some l) : t = catT l := by
  unfold ofT at h
  split at h
  · rw [ofL_some h]; rfl
  · cases h
theorem nodes_ent (e : Ent) : Co.nodes (entT e) = 4 := by simp [entT, Co.nodes, Co.nodesL]
theorem nodes_ents : ∀ l : List Ent, Co.nodesL (l.map entT) = 4 * l.length
  | [] => rfl
  | e :: r => by rw [List.map_cons, Co.nodesL, nodes_ent, nodes_ents r, List.length_cons]; omega
theorem nodes_cat (l : List Ent) : Co.nodes (catT l) = 1 + 4 * l.length := by unfold catT; rw [Co.nodes, nodes_ents]
theorem lev_cat (l : List Ent) : Co.Lev 1 (catT l) := by
  unfold catT
  rw [Co.Lev]
  refine ⟨by decide, ?_⟩
  induction l with
  | nil => rw [List.map_nil, Co.LevL]; trivial
  | cons e r ih =>
    rw [List.map_cons, Co.LevL]
    refine ⟨?_, ih⟩
    simp [entT, Co.Lev, Co.LevL]
theorem ok_cat (l : List Ent) : Co.Ok (catT l) := by
  unfold catT
  rw [Co.Ok]
  induction l with
  | nil => rw [List.map_nil, Co.OkL]; trivial
  | cons e r ih =>
    rw [List.map_cons, Co.OkL]
    refine ⟨?_, ih⟩
    simp [entT, Co.Ok, Co.OkL]
/-- Texts that fit. -/
def TxE (m : Nat) (e : Ent) : Prop := e.loc.size ≤ m ∧ e.key.size ≤ m ∧ e.pat.size ≤ m
theorem len_ba (s : BA) : s.data.toList.length = s.size := by simp
theorem tx_cat {l : List Ent} (h : ∀ e, e ∈ l → TxE 140737488351232 e) : Co.Tx (catT l) := by
  unfold catT
  rw [Co.Tx]
  induction l with
  | nil => rw [List.map_nil, Co.TxL]; trivial
  | cons e r ih =>
    rw [List.map_cons, Co.TxL]
    refine ⟨?_, ih (fun y hy => h y (by simp [hy]))⟩
    obtain ⟨h1, h2, h3⟩ := h e (by simp)
    simp only [entT, Co.Tx, Co.TxL, len_ba]
    exact ⟨h1, h2, h3, trivial⟩
theorem pz_cat {l : List Ent} (h : ∀ e, e ∈ l → TxE 131072 e) : Co.Pz (catT l) := by
  unfold catT
  rw [Co.Pz]
  induction l with
  | nil => rw [List.map_nil, Co.PzL]; trivial
  | cons e r ih =>
    rw [List.map_cons, Co.PzL]
    refine ⟨?_, ih (fun y hy => h y (by simp [hy]))⟩
    obtain ⟨h1, h2, h3⟩ := h e (by simp)
    simp only [entT, Co.Pz, Co.PzL, len_ba]
    exact ⟨h1, h2, h3, trivial⟩
/-- The texts of an entry that may be fit. -/
theorem loc_32 {l : List UInt8} (h : locOK l = true) : l.length ≤ 32 := by
  unfold locOK at h
  rw [Bool.or_eq_true] at h
  rcases h with h | h
  · have : l = [] := by simpa using h
    subst this; simp
  · unfold Lc.locB at h
    simp only [Bool.and_eq_true, decide_eq_true_eq] at h
    exact h.1
theorem pat_2000 {l : List UInt8} (h : patB l = true) : l.length ≤ 2000 := by
  unfold patB at h
  rw [decide_eq_true_eq] at h
  unfold parseF at h
  split at h
  · cases h
  · omega
theorem may_tx {e : Ent} (h : mayB e = true) : TxE 2000 e := by
  unfold mayB at h
  simp only [Bool.and_eq_true] at h
  obtain ⟨⟨h1, h2⟩, h3⟩ := h
  have k1 := loc_32 h1
  have k3 := pat_2000 h3
  unfold keyB at h2
  simp only [Bool.and_eq_true, decide_eq_true_eq] at h2
  rw [len_ba] at k1 k3
  have k2 := h2.1.2
  rw [len_ba] at k2
  exact ⟨by omega, by omega, by omega⟩
noncomputable def bytesC (l : List Ent) : List UInt8 × Int := if rightC l ≠ 0 then ([], rightC l) else Co.putF (catT l)
noncomputable def parseC (s : List UInt8) : Ans := match Co.getF s with
  | .bad e _ => .error e
  | .ok t _ => match ofT t with
    | none => .error 110
    | some l => if rightC l ≠ 0 then .error (rightC l) else .ok l
/-- What is written is read again. -/
theorem parse_bytes {l : List Ent} (h : Rgt l) (hl : (Co.enc (catT l)).length ≤ 131072) : parseC (Co.enc (catT l)) = .ok l := by
  have hg := Co.getF_enc hl (by rw [nodes_cat]; have := h.len; omega) (lev_cat l) (pz_cat (fun e he => by
    obtain ⟨h1, h2, h3⟩ := may_tx (h.may e he)
    exact ⟨by omega, by omega, by omega⟩)) (ok_cat l)
  unfold parseC
  rw [hg]
  simp only [ofT_cat]
  rw [rightC_0.2 h, if_neg (by simp)]
/-- What is read, written again, is the bytes. -/
theorem bytes_parse {s : List UInt8} {l : List Ent} (h : parseC s = .ok l) : Rgt l ∧ bytesC l = (s, 0) := by
  unfold parseC at h
  cases hg : Co.getF s with
  | bad e k => rw [hg] at h; cases h
  | ok t k =>
    rw [hg] at h
    simp only at h
    cases ht : ofT t with
    | none => rw [ht] at h; cases h
    | some m =>
      rw [ht] at h
      simp only at h
      split at h
      · cases h
      · rename_i hr
        cases h
        have hr0 : rightC l = 0 := by simpa using hr
        obtain ⟨-, h1, h2, -⟩ := Co.getF_sound hg
        rw [ofT_some ht] at h1
        refine ⟨rightC_0.1 hr0, ?_⟩
        unfold bytesC
        rw [hr0, if_neg (by simp), Co.putF_yes (by rw [h1]; exact h2), h1]
theorem bytes_yes {l : List Ent} (h : Rgt l) (hl : (Co.enc (catT l)).length ≤ 131072) : bytesC l = (Co.enc (catT l), 0) := by
  unfold bytesC
  rw [rightC_0.2 h, if_neg (by simp), Co.putF_yes hl]
theorem bytes_long {l : List Ent} (h : Rgt l) (hl : 131072 < (Co.enc (catT l)).length) : bytesC l = ([], 2) := by
  unfold bytesC
  rw [rightC_0.2 h, if_neg (by simp), Co.putF_no hl]
theorem bytes_bad {l : List Ent} (h : ¬ Rgt l) : bytesC l = ([], (rightC l : Int)) := by
  unfold bytesC
  rw [if_pos (fun e => h (rightC_0.1 e))]
end Go.Proofs.YtdnedbcmgkilaaaGreatDoor.Ca

end

/- A list of values of package api under way, in a variable of the call's own. -/
section

namespace Go.Proofs.YtdnedbcmgkilaaaGreatDoor.Ca
open Go.RowKit Go.Proofs.YtdnedbcmgkilaaaGreatDoor

abbrev lsC (L : Value) : Array Value := #[.int .i64 3, .int .i64 0, .string ⟨#[]⟩, L]
abbrev txV (s : BA) : Value := .agg #[.int .i64 2, .int .i64 0, .string s, .slice none 0 0]
/-- A list of values under way, in a variable at block b; its own rows begin at B. -/
structure BI (b B : Nat) (w wr : World) (L : Value) (ts : List Co.Tree) (vs : List Value) : Prop where
  blk : wr.heap[b]? = some (.cells (lsC L) 60 (0, 0))
  own : wr.ownsRow B 60 4 L ts.length vs
  rep : Co.RepAll wr (fun g => g < wr.heap.size ∧ b < g ∧ some g ≠ L.ownBlock) ts vs
  below : Below w.heap.size w wr
  hb : w.heap.size ≤ b
  hB : b < B
theorem BI.call {b B : Nat} {w wr w2 : World} {L : Value} {ts : List Co.Tree} {vs : List Value} (h : BI b B w wr L ts vs) (hb : Below wr.heap.size wr w2) : BI b B w w2 L ts vs :=
  ⟨(hb.block _ (Co.lt_of_heap h.blk)).trans h.blk, Co.ownsRow_keep h.own (fun g hg => hb.block g (h.own.lt g hg).2),
    Co.RepAll.keep (fun g hg => hb.block g hg.1) (fun _ hg => ⟨Nat.lt_of_lt_of_le hg.1 hb.size, hg.2⟩) _ _ h.rep, h.below.trans (hb.mono h.below.size), h.hb, h.hB⟩
theorem BI.step {b B g c : Nat} {w wr w2 w3 : World} {L : Value} {ts : List Co.Tree} {vs : List Value} {t : Co.Tree} {c0 c1 c2 c3 : Value} {o : Obj} (h : BI b B w wr L ts vs) {m : Nat} (hm : ts.length = m) (hb2 : Below wr.heap.size wr w2)
    (hr : Co.Rep w2 (fun g => wr.heap.size ≤ g ∧ g < w2.heap.size) t (.agg #[c0, c1, c2, c3]))
    (hown : w3.ownsRow B 60 4 (.slice (some ⟨g, 0, none⟩) (m + 1) c) (m + 1) (vs ++ [c0, c1, c2, c3])) (hg : (w2.alloc o).grownBy w3 L.ownBlock) {n : Nat} (hN : w2.heap.size = n) (hl : L.ownBlock = some g ∨ g = n + 1) :
    BI b B w (w3.setCell ⟨b, 3, none⟩ (.slice (some ⟨g, 0, none⟩) (m + 1) c)) (.slice (some ⟨g, 0, none⟩) (m + 1) c) (ts ++ [t]) (vs ++ [c0, c1, c2, c3]) := by
  subst hm
  subst hN
  have h2 := h.call hb2
  have hlb := Co.lt_of_heap h2.blk
  have hlb0 := Co.lt_of_heap h.blk
  have hB := h.hB
  have hws := h.below.size
  have hwb := h.hb
  have hne : ∀ k, L.ownBlock = some k → B ≤ k ∧ k < wr.heap.size := fun k hk => h.own.lt k hk
  have hgb : B ≤ g := (hown.lt g rfl).1
  have hsz : w2.heap.size + 1 ≤ w3.heap.size := by have := hg.size; rw [World.size_alloc] at this; exact this
  have hst : ∀ k, k < w2.heap.size → some k ≠ L.ownBlock → w3.heap[k]? = w2.heap[k]? := fun k hk hn => (hg.block k (by rw [World.size_alloc]; omega) hn).trans (Below.heap_alloc _ _ _ hk)
  have hset : ∀ k, k ≠ b → (w3.setCell ⟨b, 3, none⟩ (.slice (some ⟨g, 0, none⟩) (ts.length + 1) c)).heap[k]? = w3.heap[k]? := fun k hk => Below.heap_setCell _ _ _ _ hk
  have hblk3 : w3.heap[b]? = some (.cells (lsC L) 60 (0, 0)) := (hst b hlb (fun e => by have := hne b e.symm; omega)).trans h2.blk
  have hszs : (w3.setCell ⟨b, 3, none⟩ (.slice (some ⟨g, 0, none⟩) (ts.length + 1) c)).heap.size = w3.heap.size := by simp [World.setCell]
  refine ⟨Co.heap_set hblk3 3 _, ?_, ?_, ?_, h.hb, h.hB⟩
  · rw [List.length_append]
    exact Co.ownsRow_keep hown (fun g' hg' => by
      obtain rfl : g = g' := Option.some.inj hg'
      exact hset g (by omega))
  · refine Co.RepAll.snoc ?_ ts vs ?_
    · refine Co.Rep.keep (fun k hk => ?_) (fun k hk => ?_) t _ hr
      · exact (hset k (by omega)).trans (hst k hk.2 (fun e => by have := hne k e.symm; omega))
      · refine ⟨by rw [hszs]; omega, by omega, fun e => ?_⟩
        obtain rfl : k = g := Option.some.inj e
        rcases hl with hl | hl
        · have := hne k hl; omega
        · omega
    · refine Co.RepAll.keep (fun k hk => ?_) (fun k hk => ?_) ts vs h2.rep
      · exact (hset k (by have := hk.2.1; omega)).trans (hst k hk.1 hk.2.2)
      · refine ⟨by rw [hszs]; omega, hk.2.1, fun e => ?_⟩
        obtain rfl : k = g := Option.some.inj e
        rcases hl with hl | hl
        · exact hk.2.2 hl.symm
        · have := hk.1; omega
  · refine h2.below.trans ⟨?_, ?_, ?_, by rw [hszs]; omega, fun k hk => ?_⟩
    · exact hg.os
    · exact hg.tape
    · exact hg.output
    · have h5 := h2.below.size
      exact (hset k (by omega)).trans (hst k (by omega) (fun e => by have := hne k e.symm; omega))
theorem BI.blk3 {b B : Nat} {w wr w2 w3 : World} {L : Value} {ts : List Co.Tree} {vs : List Value} {o : Obj} (h : BI b B w wr L ts vs) (hb2 : Below wr.heap.size wr w2) (hg : (w2.alloc o).grownBy w3 L.ownBlock) :
    w3.heap[b]? = some (.cells (lsC L) 60 (0, 0)) := by
  have h2 := h.call hb2
  have hlb := Co.lt_of_heap h2.blk
  have hB := h.hB
  exact ((hg.block b (by rw [World.size_alloc]; omega) (fun e => by have := (h.own.lt b e.symm).1; omega)).trans (Below.heap_alloc _ _ _ hlb)).trans h2.blk
theorem BI.start (w w1 : World) (hb : Below w.heap.size w w1) : BI w1.heap.size (w1.heap.size + 1) w (w1.alloc (.cells (lsC (.slice none 0 0)) 60)) (.slice none 0 0) [] [] :=
  ⟨heap_alloc_new _ _, World.ownsRow_nil _ _ _ _, by rw [Co.RepAll], hb.alloc hb.size _, hb.size, Nat.lt_succ_self _⟩
theorem BI.slice {b B : Nat} {w wr : World} {L : Value} {ts : List Co.Tree} {vs : List Value} (h : BI b B w wr L ts vs) : ∃ a cap, L = .slice a ts.length cap := by
  rcases h.own.2 with ⟨rfl, h0⟩ | ⟨g, cap, cur, rfl, -⟩
  · exact ⟨none, 0, by rw [h0]⟩
  · exact ⟨_, cap, rfl⟩
theorem BI.new {b B : Nat} {w wr : World} {L : Value} {ts : List Co.Tree} {vs : List Value} (h : BI b B w wr L ts vs) : Co.Rep wr (fun g => b < g ∧ g < wr.heap.size) (.list ts) (.agg (lsC L)) := by
  rw [Co.Rep]
  have hB := h.hB
  refine ⟨L, vs, rfl, ?_, fun g hg => by have := h.own.lt g hg; exact ⟨by omega, this.2⟩, Co.RepAll.keep (fun _ _ => rfl) (fun g hg => ⟨hg.2.1, hg.1⟩) _ _ h.rep⟩
  refine ⟨h.own.1, ?_⟩
  rcases h.own.2 with h0 | ⟨g, cap, cur, hv, hb, hr⟩
  · exact .inl h0
  · exact .inr ⟨g, cap, cur, hv, Nat.zero_le _, hr⟩
theorem BI.tree {b B : Nat} {w wr : World} {L : Value} {ts : List Co.Tree} {vs : List Value} (h : BI b B w wr L ts vs) : Co.Rep wr (Co.S24 wr) (.list ts) (.agg (lsC L)) :=
  Co.Rep.s24 _ _ (Co.Rep.keep (fun _ _ => rfl) (fun _ hg => hg.2) _ _ h.new)
theorem infoV : (Tryz.prog.info? 60).map (fun i => (i.zero, i.size, i.bytes)) = some (some (.agg #[.int .i64 0, .int .i64 0, .string ByteArray.empty, .slice none 0 0]), 4, 56) := by kernel_rfl
theorem cell_new4 (w : World) (x y z u : Value) (t : TypeId) {n : Nat} (hB : w.heap.size = n) : ∀ j v, [x, y, z, u][j]? = some v → (w.alloc (.cells #[x, y, z, u] t)).cell? (Addr.add ⟨n, 0, none⟩ j) = some v := fun j v hv => by
  subst hB
  rw [Addr.add_mid, Nat.zero_add]
  exact (row_new w #[x, y, z, u] t).cell hv
theorem map_take {xs : List Ent} {k : Nat} {x : Ent} (h : xs[k]? = some x) : (xs.take (k + 1)).map entT = (xs.take k).map entT ++ [entT x] := by
  obtain ⟨hlt, rfl⟩ := List.getElem?_eq_some_iff.1 h
  rw [List.take_succ_eq_append_getElem hlt, List.map_append]; rfl
/-- A value that a call made, in rows of its own. -/
def NewVal (t : Co.Tree) (w : World) (e : Ending) (w' : World) : Prop := ∃ c0 c1 c2 c3, e = .returned (.agg #[c0, c1, c2, c3]) ∧ Co.Rep w' (fun g => w.heap.size ≤ g ∧ g < w'.heap.size) t (.agg #[c0, c1, c2, c3]) ∧ Below w.heap.size w w'
end Go.Proofs.YtdnedbcmgkilaaaGreatDoor.Ca

end
