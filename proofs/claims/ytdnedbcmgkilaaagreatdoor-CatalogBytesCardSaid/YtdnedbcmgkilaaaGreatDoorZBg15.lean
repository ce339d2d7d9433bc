/- What is read of bytes, written again, is the bytes: the plain mathematics. -/
import Derived.Deep.RegionLaw
import Derived.Deep.AppendLies
import Derived.Test.YtdnedbcmgkilaaaGreatDoorZBCGet
import Derived.Test.YtdnedbcmgkilaaaGreatDoorZBg45
import Derived.Test.YtdnedbcmgkilaaaGreatDoorZBg34
import Derived.Test.YtdnedbcmgkilaaaGreatDoorZBCPutS
import Derived.Test.YtdnedbcmgkilaaaGreatDoorZBEal
import Derived.Test.YtdnedbcmgkilaaaGreatDoorZBg48

section

namespace Go.Proofs.YtdnedbcmgkilaaaGreatDoor.Co
theorem decDigits_small {u : Nat} (h : u < 10) : Lib.decDigits u = [UInt8.ofNat (48 + u)] := by rw [Lib.decDigits, dif_pos h]
theorem decDigits_step {N d : Nat} (hN : 0 < N) (hd : d < 10) : Lib.decDigits (N * 10 + d) = Lib.decDigits N ++ [UInt8.ofNat (48 + d)] := by
  rw [Lib.decDigits, dif_neg (by omega), show (N * 10 + d) / 10 = N from by omega, show (N * 10 + d) % 10 = d from by omega]
theorem ofNat_dig {c : UInt8} (h : isDig c = true) : UInt8.ofNat (48 + (c.toNat - 48)) = c := by
  have := isDig_bd h
  rw [show 48 + (c.toNat - 48) = c.toNat from by omega, UInt8.ofNat_toNat]
theorem decF_later (most : Nat) (e : UInt8) : ∀ (r : List UInt8) (i N n k : Nat), decF most e r i N false = (n, 0, k) → ∃ ds rest, r = ds ++ e :: rest ∧ k = i + ds.length + 1 ∧ Lib.decDigits n = Lib.decDigits N ++ ds
  | [], i, N, n, k, h => by rw [decF_nil] at h; simp at h
  | c :: r, i, N, n, k, h => by
    rw [decF_cons] at h
    split at h
    · rename_i hc
      have : c = e := UInt8.toNat_inj.1 hc.1
      subst this
      injection h with h1 h2
      injection h2 with _ h2
      subst h1
      exact ⟨[], r, rfl, by simp [← h2], by simp⟩
    · split at h
      · simp at h
      · split at h
        · simp at h
        · rename_i h1 h2 h3
          have hd : isDig c = true := by
            cases hx : isDig c
            · exact absurd (.inl hx) h2
            · rfl
          have hN : 0 < N := by
            rcases Nat.eq_zero_or_pos N with h0 | h0
            · exact absurd (.inr ⟨h0, rfl⟩) h2
            · exact h0
          have hb := isDig_bd hd
          obtain ⟨ds, rest, hr, hk, hdd⟩ := decF_later most e r _ _ _ _ h
          refine ⟨c :: ds, rest, by rw [hr]; rfl, by rw [hk, List.length_cons]; omega, ?_⟩
          rw [hdd, decDigits_step hN (by omega), ofNat_dig hd]
          simp
theorem decF_sound (most : Nat) (e : UInt8) (r : List UInt8) (i n k : Nat) (h : decF most e r i 0 true = (n, 0, k)) : ∃ rest, r = Lib.decDigits n ++ e :: rest ∧ k = i + (Lib.decDigits n).length + 1 := by
  cases r with
  | nil => rw [decF_nil] at h; simp at h
  | cons c r =>
    rw [decF_cons] at h
    split at h
    · rename_i hc; cases hc.2
    · split at h
      · simp at h
      · split at h
        · simp at h
        · rename_i h1 h2 h3
          have hd : isDig c = true := by
            cases hx : isDig c
            · exact absurd (.inl hx) h2
            · rfl
          have hb := isDig_bd hd
          obtain ⟨ds, rest, hr, hk, hdd⟩ := decF_later most e r _ _ _ _ h
          rw [Nat.zero_mul, Nat.zero_add, decDigits_small (u := c.toNat - 48) (by omega), ofNat_dig hd] at hdd
          refine ⟨rest, by rw [hdd, hr]; rfl, by rw [hdd, hk]; simp; omega⟩
theorem drop_cons {l : List UInt8} {i : Nat} {c : UInt8} (h : l[i]? = some c) : l.drop i = c :: l.drop (i + 1) := by
  obtain ⟨hi, rfl⟩ := List.getElem?_eq_some_iff.1 h
  exact List.drop_eq_getElem_cons hi
theorem drop_behind {l a b : List UInt8} {i k : Nat} (h : l.drop i = a ++ b) (hk : k = i + a.length) : l.drop i = a ++ l.drop k := by
  subst hk
  rw [← List.drop_drop, h, List.drop_left]
theorem numF_sound {l : List UInt8} {i k : Nat} {t : Tree} (h : numF l i = .ok t k) : ∃ n, t = .num n ∧ l.drop i = Lib.itoa n ++ 101 :: l.drop k ∧ -9223372036854775808 ≤ n ∧ n ≤ 9223372036854775807 := by
  by_cases h45 : l[i]? = some 45
  · by_cases h0 : l[i + 1]? = some 48
    · rw [numF_zero h45 h0] at h; cases h
    · have hb := decF_bd 9223372036854775808 101 (by omega) (l.drop (i + 1)) (i + 1) 0 true (by omega)
      rcases hd : decF 9223372036854775808 101 (l.drop (i + 1)) (i + 1) 0 true with ⟨n, e, k'⟩
      rw [hd] at hb
      simp only at hb
      by_cases he : e = 0
      · subst he
        rw [numF_nok h45 h0 hd] at h
        injection h with ht hk
        subst ht hk
        obtain ⟨rest, hr, hk⟩ := decF_sound _ _ _ _ _ _ hd
        have hn : 0 < n := by
          rcases Nat.eq_zero_or_pos n with h1 | h1
          · subst h1
            rw [decDigits_small (by omega)] at hr
            exfalso
            apply h0
            have : l[i + 1]? = (l.drop (i + 1))[0]? := by simp
            rw [this, hr]
            rfl
          · exact h1
        refine ⟨_, rfl, ?_, by omega, by omega⟩
        rw [drop_cons h45, drop_behind (a := Lib.decDigits n ++ [101]) (b := rest) (k := k') (by rw [hr]; simp) (by rw [hk]; simp; omega)]
        rw [Lib.itoa, if_pos (by omega), show (-(n : Int)).natAbs = n from by omega]
        simp
      · rw [numF_nbad h45 h0 hd he] at h; cases h
  · have hb := decF_bd 9223372036854775807 101 (by omega) (l.drop i) i 0 true (by omega)
    rcases hd : decF 9223372036854775807 101 (l.drop i) i 0 true with ⟨n, e, k'⟩
    rw [hd] at hb
    simp only at hb
    by_cases he : e = 0
    · subst he
      rw [numF_ok h45 hd] at h
      injection h with ht hk
      subst ht hk
      obtain ⟨rest, hr, hk⟩ := decF_sound _ _ _ _ _ _ hd
      refine ⟨_, rfl, ?_, by omega, by omega⟩
      rw [drop_behind (a := Lib.decDigits n ++ [101]) (b := rest) (k := k') (by rw [hr]; simp) (by rw [hk]; simp; omega)]
      rw [Lib.itoa, if_neg (by omega), Int.toNat_natCast]
      simp
    · rw [numF_bad h45 hd he] at h; cases h
theorem textF_sound {l : List UInt8} {i k : Nat} {t : Tree} (h : textF l i = .ok t k) : ∃ bs, t = .text bs ∧ l.drop i = enc (.text bs) ++ l.drop k := by
  have hb := decF_bd 131072 58 (by omega) (l.drop i) i 0 true (by omega)
  rcases hd : decF 131072 58 (l.drop i) i 0 true with ⟨n, e, k'⟩
  by_cases he : e = 0
  · subst he
    by_cases hf : k' + n ≤ l.length
    · rw [textF_ok hd hf] at h
      injection h with ht hk
      subst ht hk
      obtain ⟨rest, hr, hk⟩ := decF_sound _ _ _ _ _ _ hd
      refine ⟨_, rfl, ?_⟩
      rw [drop_behind (a := Lib.decDigits n ++ [58]) (b := rest) (k := k') (by rw [hr]; simp) (by rw [hk]; simp; omega)]
      have hlen : ((l.drop k').take n).length = n := by rw [List.length_take, List.length_drop]; omega
      rw [enc, hlen, Lib.itoa, if_neg (by omega), Int.toNat_natCast]
      simp only [List.append_assoc, List.cons_append, List.nil_append]
      rw [← List.drop_drop, List.take_append_drop]
    · rw [textF_end hd (by omega)] at h; cases h
  · rw [textF_bad hd he] at h; cases h
theorem rd_sound (l : List UInt8) : ∀ f, (∀ i level count t k c, rdV l f i level count = (.ok t k, c) → l.drop i = enc t ++ l.drop k ∧ c = count + nodes t ∧ Lev level t ∧ Ok t) ∧
    (∀ i level count acc t k c, level ≤ 30 → rdL l f i level count acc = (.ok t k, c) → ∃ new, t = .list (acc ++ new) ∧ l.drop i = encL new ++ 101 :: l.drop k ∧ c = count + nodesL new ∧ LevL (level + 1) new ∧ OkL new)
  | 0 => by
    constructor
    · intro i level count t k c h; rw [rdV] at h; injection h with h; cases h
    · intro i level count acc t k c _ h; rw [rdL] at h; injection h with h; cases h
  | f + 1 => by
    obtain ⟨hV, hL⟩ := rd_sound l f
    constructor
    · intro i level count t k c h
      rw [rdV_succ] at h
      split at h
      · rename_i hb
        obtain ⟨h1, h2, h3⟩ := beginF_lt hb
        split at h
        · rename_i h105
          injection h with h hc
          obtain ⟨n, rfl, hd, hn1, hn2⟩ := numF_sound h
          rw [drop_cons h105, hd, enc, nodes, Lev, Ok]
          exact ⟨by simp, hc.symm, h2, hn1, hn2⟩
        · split at h
          · rename_i h108
            obtain ⟨new, rfl, hd, hc, hlv, hok⟩ := hL _ _ _ _ _ _ _ h2 h
            rw [List.nil_append, drop_cons h108, hd, enc, nodes, Lev, Ok]
            exact ⟨by simp, by omega, ⟨h2, hlv⟩, hok⟩
          · injection h with h hc
            obtain ⟨bs, rfl, hd⟩ := textF_sound h
            rw [nodes, Lev, Ok]
            exact ⟨hd, hc.symm, h2, trivial⟩
      · injection h with h; cases h
    · intro i level count acc t k c hl30 h
      rw [rdL_succ] at h
      split at h
      · rename_i h101
        injection h with h hc
        injection h with ht hk
        subst ht hk hc
        exact ⟨[], by simp, by rw [drop_cons h101, encL]; rfl, by simp [nodesL], by simp [LevL], by simp [OkL]⟩
      · rcases hr : rdV l f i (level + 1) count with ⟨u | ⟨e, k1⟩, c1⟩
        · rename_i k1
          rw [hr] at h
          simp only at h
          obtain ⟨a1, a2, a3, a4⟩ := hV _ _ _ _ _ _ hr
          obtain ⟨new, rfl, b1, b2, b3, b4⟩ := hL _ _ _ _ _ _ _ hl30 h
          refine ⟨u :: new, by simp, ?_, ?_, ?_, ?_⟩
          · rw [a1, b1, encL]; simp
          · rw [b2, a2, nodesL]; omega
          · rw [LevL]; exact ⟨a3, b3⟩
          · rw [OkL]; exact ⟨a4, b4⟩
        · rw [hr] at h
          injection h with h; cases h
theorem getF_sound {l : List UInt8} {t : Tree} {k : Nat} (h : getF l = .ok t k) : k = 0 ∧ enc t = l ∧ l.length ≤ 131072 ∧ nodes t ≤ 4000 ∧ Lev 1 t ∧ Ok t := by
  unfold getF at h
  split at h
  · cases h
  · rename_i hlen
    have hbd := (rd_bd l (2 * l.length + 1)).1 0 1 0 (by omega)
    rcases hr : rdV l (2 * l.length + 1) 0 1 0 with ⟨u | ⟨e, k1⟩, c1⟩
    · rename_i k1
      rw [hr] at h hbd
      simp only at h
      split at h
      · cases h
      · injection h with ht hk
        subst ht hk
        obtain ⟨a1, a2, a3, a4⟩ := (rd_sound l _).1 _ _ _ _ _ _ hr
        rw [List.drop_zero, List.drop_eq_nil_of_le (by omega), List.append_nil] at a1
        have := (hbd.2.2.2 _ _ rfl).2
        simp only at this
        exact ⟨rfl, a1.symm, by omega, by omega, a3, a4⟩
    · rw [hr] at h; cases h
theorem getF_bad {l : List UInt8} {e k : Nat} (h : getF l = .bad e k) : k ≤ l.length ∧ e ≠ 0 := by
  unfold getF at h
  split at h
  · injection h with h1 h2; subst h1 h2; exact ⟨by omega, by omega⟩
  · have hbd := ((rd_bd l (2 * l.length + 1)).1 0 1 0 (by omega)).1
    rcases hr : (rdV l (2 * l.length + 1) 0 1 0).1 with u | ⟨e, k1⟩
    · rename_i k1
      rw [hr] at h hbd
      simp only [Bd] at h hbd
      split at h
      · injection h with h1 h2; subst h1 h2; exact ⟨by omega, by omega⟩
      · cases h
    · rw [hr] at h hbd
      simp only [Bd] at h hbd
      injection h with h1 h2; subst h1 h2; exact ⟨hbd.2, hbd.1⟩
end Go.Proofs.YtdnedbcmgkilaaaGreatDoor.Co

end

section

namespace Go.Proofs.YtdnedbcmgkilaaaGreatDoor.Co
end Go.Proofs.YtdnedbcmgkilaaaGreatDoor.Co

end

section

namespace Go.Proofs.YtdnedbcmgkilaaaGreatDoor.Ca
open Go.Proofs.YtdnedbcmgkilaaaGreatDoor
def entT (e : Ent) : Co.Tree := .list [.text e.loc.data.toList, .text e.key.data.toList, .text e.pat.data.toList]
def catT (l : List Ent) : Co.Tree := .list (l.map entT)
abbrev str (l : List UInt8) : BA := ⟨l.toArray⟩
def ofE : Co.Tree → Option Ent
  | .list [.text a, .text b, .text c] => some ⟨str a, str b, str c⟩
  | _ => none
def ofL : List Co.Tree → Option (List Ent)
  | [] => some []
  | t :: r => match ofE t, ofL r with
    | some e, some l => some (e :: l)
    | _, _ => none
def ofT : Co.Tree → Option (List Ent)
  | .list ts => ofL ts
  | _ => none
theorem ofE_some {t : Co.Tree} {e : Ent} (h : ofE t = some e) : t = entT e := by
  unfold ofE at h
  split at h
  · cases h; rfl
  · cases h
theorem ofL_some : ∀ {ts : List Co.Tree} {l : List Ent}, ofL ts = some l → ts = l.map entT
  | [], l, h => by rw [ofL] at h; cases h; rfl
  | t :: r, l, h => by
    rw [ofL] at h
    cases he : ofE t with
    | none => rw [he] at h; cases h
    | some e =>
      cases hl : ofL r with
      | none => rw [he, hl] at h; cases h
      | some m =>
        rw [he, hl] at h
        cases h
        rw [List.map_cons, ← ofE_some he, ← ofL_some hl]
theorem nodes_ent (e : Ent) : Co.nodes (entT e) = 4 := by simp [entT, Co.nodes, Co.nodesL]
theorem nodes_ents : ∀ l : List Ent, Co.nodesL (l.map entT) = 4 * l.length
  | [] => rfl
  | e :: r => by rw [List.map_cons, Co.nodesL, nodes_ent, nodes_ents r, List.length_cons]; omega
theorem nodes_cat (l : List Ent) : Co.nodes (catT l) = 1 + 4 * l.length := by unfold catT; rw [Co.nodes, nodes_ents]
theorem lev_cat (l : List Ent) : Co.Lev 1 (catT l) := by
  unfold catT
  rw [Co.Lev]
  refine ⟨by decide, ?_⟩
  induction l with
  | nil => rw [List.map_nil, Co.LevL]; trivial
  | cons e r ih =>
    rw [List.map_cons, Co.LevL]
    refine ⟨?_, ih⟩
    simp [entT, Co.Lev, Co.LevL]
theorem ok_cat (l : List Ent) : Co.Ok (catT l) := by
  unfold catT
  rw [Co.Ok]
  induction l with
  | nil => rw [List.map_nil, Co.OkL]; trivial
  | cons e r ih =>
    rw [List.map_cons, Co.OkL]
    refine ⟨?_, ih⟩
    simp [entT, Co.Ok, Co.OkL]
def TxE (m : Nat) (e : Ent) : Prop := e.loc.size ≤ m ∧ e.key.size ≤ m ∧ e.pat.size ≤ m
theorem len_ba (s : BA) : s.data.toList.length = s.size := by simp
theorem tx_cat {l : List Ent} (h : ∀ e, e ∈ l → TxE 140737488351232 e) : Co.Tx (catT l) := by
  unfold catT
  rw [Co.Tx]
  induction l with
  | nil => rw [List.map_nil, Co.TxL]; trivial
  | cons e r ih =>
    rw [List.map_cons, Co.TxL]
    refine ⟨?_, ih (fun y hy => h y (by simp [hy]))⟩
    obtain ⟨h1, h2, h3⟩ := h e (by simp)
    simp only [entT, Co.Tx, Co.TxL, len_ba]
    exact ⟨h1, h2, h3, trivial⟩
theorem loc_32 {l : List UInt8} (h : locOK l = true) : l.length ≤ 32 := by
  unfold locOK at h
  rw [Bool.or_eq_true] at h
  rcases h with h | h
  · have : l = [] := by simpa using h
    subst this; simp
  · unfold Lc.locB at h
    simp only [Bool.and_eq_true, decide_eq_true_eq] at h
    exact h.1
theorem pat_2000 {l : List UInt8} (h : patB l = true) : l.length ≤ 2000 := by
  unfold patB at h
  rw [decide_eq_true_eq] at h
  unfold parseF at h
  split at h
  · cases h
  · omega
theorem may_tx {e : Ent} (h : mayB e = true) : TxE 2000 e := by
  unfold mayB at h
  simp only [Bool.and_eq_true] at h
  obtain ⟨⟨h1, h2⟩, h3⟩ := h
  have k1 := loc_32 h1
  have k3 := pat_2000 h3
  unfold keyB at h2
  simp only [Bool.and_eq_true, decide_eq_true_eq] at h2
  rw [len_ba] at k1 k3
  have k2 := h2.1.2
  rw [len_ba] at k2
  exact ⟨by omega, by omega, by omega⟩
noncomputable def bytesC (l : List Ent) : List UInt8 × Int := if rightC l ≠ 0 then ([], rightC l) else Co.putF (catT l)
noncomputable def parseC (s : List UInt8) : Ans := match Co.getF s with
  | .bad e _ => .error e
  | .ok t _ => match ofT t with
    | none => .error 110
    | some l => if rightC l ≠ 0 then .error (rightC l) else .ok l
end Go.Proofs.YtdnedbcmgkilaaaGreatDoor.Ca

end

section

namespace Go.Proofs.YtdnedbcmgkilaaaGreatDoor.Ca
open Go.RowKit Go.Proofs.YtdnedbcmgkilaaaGreatDoor
abbrev lsC (L : Value) : Array Value := #[.int .i64 3, .int .i64 0, .string ⟨#[]⟩, L]
abbrev txV (s : BA) : Value := .agg #[.int .i64 2, .int .i64 0, .string s, .slice none 0 0]
structure BI (b B : Nat) (w wr : World) (L : Value) (ts : List Co.Tree) (vs : List Value) : Prop where
  blk : wr.heap[b]? = some (.cells (lsC L) 60 (0, 0))
  own : wr.ownsRow B 60 4 L ts.length vs
  rep : Co.RepAll wr (fun g => g < wr.heap.size ∧ b < g ∧ some g ≠ L.ownBlock) ts vs
  below : Below w.heap.size w wr
  hb : w.heap.size ≤ b
  hB : b < B
theorem BI.call {b B : Nat} {w wr w2 : World} {L : Value} {ts : List Co.Tree} {vs : List Value} (h : BI b B w wr L ts vs) (hb : Below wr.heap.size wr w2) : BI b B w w2 L ts vs :=
  ⟨(hb.block _ (Co.lt_of_heap h.blk)).trans h.blk, Co.ownsRow_keep h.own (fun g hg => hb.block g (h.own.lt g hg).2),
    Co.RepAll.keep (fun g hg => hb.block g hg.1) (fun _ hg => ⟨Nat.lt_of_lt_of_le hg.1 hb.size, hg.2⟩) _ _ h.rep, h.below.trans (hb.mono h.below.size), h.hb, h.hB⟩
theorem BI.step {b B g c : Nat} {w wr w2 w3 : World} {L : Value} {ts : List Co.Tree} {vs : List Value} {t : Co.Tree} {c0 c1 c2 c3 : Value} {o : Obj} (h : BI b B w wr L ts vs) {m : Nat} (hm : ts.length = m) (hb2 : Below wr.heap.size wr w2)
    (hr : Co.Rep w2 (fun g => wr.heap.size ≤ g ∧ g < w2.heap.size) t (.agg #[c0, c1, c2, c3]))
    (hown : w3.ownsRow B 60 4 (.slice (some ⟨g, 0, none⟩) (m + 1) c) (m + 1) (vs ++ [c0, c1, c2, c3])) (hg : (w2.alloc o).grownBy w3 L.ownBlock) {n : Nat} (hN : w2.heap.size = n) (hl : L.ownBlock = some g ∨ g = n + 1) :
    BI b B w (w3.setCell ⟨b, 3, none⟩ (.slice (some ⟨g, 0, none⟩) (m + 1) c)) (.slice (some ⟨g, 0, none⟩) (m + 1) c) (ts ++ [t]) (vs ++ [c0, c1, c2, c3]) := by
  subst hm
  subst hN
  have h2 := h.call hb2
  have hlb := Co.lt_of_heap h2.blk
  have hlb0 := Co.lt_of_heap h.blk
  have hB := h.hB
  have hws := h.below.size
  have hwb := h.hb
  have hne : ∀ k, L.ownBlock = some k → B ≤ k ∧ k < wr.heap.size := fun k hk => h.own.lt k hk
  have hgb : B ≤ g := (hown.lt g rfl).1
  have hsz : w2.heap.size + 1 ≤ w3.heap.size := by have := hg.size; rw [World.size_alloc] at this; exact this
  have hst : ∀ k, k < w2.heap.size → some k ≠ L.ownBlock → w3.heap[k]? = w2.heap[k]? := fun k hk hn => (hg.block k (by rw [World.size_alloc]; omega) hn).trans (Below.heap_alloc _ _ _ hk)
  have hset : ∀ k, k ≠ b → (w3.setCell ⟨b, 3, none⟩ (.slice (some ⟨g, 0, none⟩) (ts.length + 1) c)).heap[k]? = w3.heap[k]? := fun k hk => Below.heap_setCell _ _ _ _ hk
  have hblk3 : w3.heap[b]? = some (.cells (lsC L) 60 (0, 0)) := (hst b hlb (fun e => by have := hne b e.symm; omega)).trans h2.blk
  have hszs : (w3.setCell ⟨b, 3, none⟩ (.slice (some ⟨g, 0, none⟩) (ts.length + 1) c)).heap.size = w3.heap.size := by simp [World.setCell]
  refine ⟨Co.heap_set hblk3 3 _, ?_, ?_, ?_, h.hb, h.hB⟩
  · rw [List.length_append]
    exact Co.ownsRow_keep hown (fun g' hg' => by
      obtain rfl : g = g' := Option.some.inj hg'
      exact hset g (by omega))
  · refine Co.RepAll.snoc ?_ ts vs ?_
    · refine Co.Rep.keep (fun k hk => ?_) (fun k hk => ?_) t _ hr
      · exact (hset k (by omega)).trans (hst k hk.2 (fun e => by have := hne k e.symm; omega))
      · refine ⟨by rw [hszs]; omega, by omega, fun e => ?_⟩
        obtain rfl : k = g := Option.some.inj e
        rcases hl with hl | hl
        · have := hne k hl; omega
        · omega
    · refine Co.RepAll.keep (fun k hk => ?_) (fun k hk => ?_) ts vs h2.rep
      · exact (hset k (by have := hk.2.1; omega)).trans (hst k hk.1 hk.2.2)
      · refine ⟨by rw [hszs]; omega, hk.2.1, fun e => ?_⟩
        obtain rfl : k = g := Option.some.inj e
        rcases hl with hl | hl
        · exact hk.2.2 hl.symm
        · have := hk.1; omega
  · refine h2.below.trans ⟨?_, ?_, ?_, by rw [hszs]; omega, fun k hk => ?_⟩
    · exact hg.os
    · exact hg.tape
    · exact hg.output
    · have h5 := h2.below.size
      exact (hset k (by omega)).trans (hst k (by omega) (fun e => by have := hne k e.symm; omega))
theorem BI.blk3 {b B : Nat} {w wr w2 w3 : World} {L : Value} {ts : List Co.Tree} {vs : List Value} {o : Obj} (h : BI b B w wr L ts vs) (hb2 : Below wr.heap.size wr w2) (hg : (w2.alloc o).grownBy w3 L.ownBlock) :
    w3.heap[b]? = some (.cells (lsC L) 60 (0, 0)) := by
  have h2 := h.call hb2
  have hlb := Co.lt_of_heap h2.blk
  have hB := h.hB
  exact ((hg.block b (by rw [World.size_alloc]; omega) (fun e => by have := (h.own.lt b e.symm).1; omega)).trans (Below.heap_alloc _ _ _ hlb)).trans h2.blk
theorem BI.start (w w1 : World) (hb : Below w.heap.size w w1) : BI w1.heap.size (w1.heap.size + 1) w (w1.alloc (.cells (lsC (.slice none 0 0)) 60)) (.slice none 0 0) [] [] :=
  ⟨heap_alloc_new _ _, World.ownsRow_nil _ _ _ _, by rw [Co.RepAll], hb.alloc hb.size _, hb.size, Nat.lt_succ_self _⟩
theorem BI.slice {b B : Nat} {w wr : World} {L : Value} {ts : List Co.Tree} {vs : List Value} (h : BI b B w wr L ts vs) : ∃ a cap, L = .slice a ts.length cap := by
  rcases h.own.2 with ⟨rfl, h0⟩ | ⟨g, cap, cur, rfl, -⟩
  · exact ⟨none, 0, by rw [h0]⟩
  · exact ⟨_, cap, rfl⟩
theorem BI.new {b B : Nat} {w wr : World} {L : Value} {ts : List Co.Tree} {vs : List Value} (h : BI b B w wr L ts vs) : Co.Rep wr (fun g => b < g ∧ g < wr.heap.size) (.list ts) (.agg (lsC L)) := by
  rw [Co.Rep]
  have hB := h.hB
  refine ⟨L, vs, rfl, ?_, fun g hg => by have := h.own.lt g hg; exact ⟨by omega, this.2⟩, Co.RepAll.keep (fun _ _ => rfl) (fun g hg => ⟨hg.2.1, hg.1⟩) _ _ h.rep⟩
  refine ⟨h.own.1, ?_⟩
  rcases h.own.2 with h0 | ⟨g, cap, cur, hv, hb, hr⟩
  · exact .inl h0
  · exact .inr ⟨g, cap, cur, hv, Nat.zero_le _, hr⟩
theorem BI.tree {b B : Nat} {w wr : World} {L : Value} {ts : List Co.Tree} {vs : List Value} (h : BI b B w wr L ts vs) : Co.Rep wr (Co.S24 wr) (.list ts) (.agg (lsC L)) :=
  Co.Rep.s24 _ _ (Co.Rep.keep (fun _ _ => rfl) (fun _ hg => hg.2) _ _ h.new)
theorem infoV : (Tryz.prog.info? 60).map (fun i => (i.zero, i.size, i.bytes)) = some (some (.agg #[.int .i64 0, .int .i64 0, .string ByteArray.empty, .slice none 0 0]), 4, 56) := by kernel_rfl
theorem cell_new4 (w : World) (x y z u : Value) (t : TypeId) {n : Nat} (hB : w.heap.size = n) : ∀ j v, [x, y, z, u][j]? = some v → (w.alloc (.cells #[x, y, z, u] t)).cell? (Addr.add ⟨n, 0, none⟩ j) = some v := fun j v hv => by
  subst hB
  rw [Addr.add_mid, Nat.zero_add]
  exact (row_new w #[x, y, z, u] t).cell hv
theorem map_take {xs : List Ent} {k : Nat} {x : Ent} (h : xs[k]? = some x) : (xs.take (k + 1)).map entT = (xs.take k).map entT ++ [entT x] := by
  obtain ⟨hlt, rfl⟩ := List.getElem?_eq_some_iff.1 h
  rw [List.take_succ_eq_append_getElem hlt, List.map_append]; rfl
def NewVal (t : Co.Tree) (w : World) (e : Ending) (w' : World) : Prop := ∃ c0 c1 c2 c3, e = .returned (.agg #[c0, c1, c2, c3]) ∧ Co.Rep w' (fun g => w.heap.size ≤ g ∧ g < w'.heap.size) t (.agg #[c0, c1, c2, c3]) ∧ Below w.heap.size w w'
end Go.Proofs.YtdnedbcmgkilaaaGreatDoor.Ca

end

section

namespace Go.Proofs.YtdnedbcmgkilaaaGreatDoor.Ca
open Go.RowKit Go.Proofs.YtdnedbcmgkilaaaGreatDoor
theorem str_eta (s : BA) : (⟨s.data.toList.toArray⟩ : BA) = s := by cases s; simp
abbrev txts (x : Ent) : List BA := [x.loc, x.key, x.pat]
abbrev txT (s : BA) : Co.Tree := .text s.data.toList
theorem txt_take {x : Ent} {k : Nat} {s : BA} (h : (txts x)[k]? = some s) : ((txts x).take (k + 1)).map txT = ((txts x).take k).map txT ++ [txT s] := by
  obtain ⟨hlt, rfl⟩ := List.getElem?_eq_some_iff.1 h
  rw [List.take_succ_eq_append_getElem hlt, List.map_append]; rfl
theorem txt_cell {x : Ent} {k : Nat} {s : BA} (h : (txts x)[k]? = some s) : [Value.string x.loc, Value.string x.key, Value.string x.pat][k]? = some (Value.string s) := by
  have : ((txts x).map Value.string)[k]? = some (Value.string s) := by rw [List.getElem?_map, h]; rfl
  exact this
theorem rep_txt (w : World) (S : Nat → Prop) (s : BA) : Co.Rep w S (txT s) (txV s) := by
  rw [Co.Rep, str_eta]
abbrev zV : Array Value := #[.int .i64 0, .int .i64 0, .string ⟨#[]⟩, .slice none 0 0]
set_option maxHeartbeats 6400000 in
set_option maxRecDepth 100000 in
theorem value_any (x : Ent) (w : World) : Calls Tryz.prog 35 #[enV x] w fun e w' => NewVal (entT x) w e w' := by
  obtain ⟨i0, hi, hz0, hz1, hz2⟩ := info_parts infoV
  have HTX : Hid (∀ k s, (txts x)[k]? = some s → ((txts x).take (k + 1)).map txT = ((txts x).take k).map txT ++ [txT s]) := Lib.hid (fun k s h => txt_take h)
  have HTC : Hid (∀ k s, (txts x)[k]? = some s → [Value.string x.loc, Value.string x.key, Value.string x.pat][k]? = some (Value.string s)) := Lib.hid (fun k s h => txt_cell h)
  have HEN : Hid (entT x = .list (((txts x).take 3).map txT)) := Lib.hid rfl
  have HLN : Hid ((txts x).length = 3) := Lib.hid rfl
  obtain ⟨xl, xk, xp⟩ := x
  simp only at HTC
  obtain ⟨sts, HSS⟩ : ∃ sts, Hid (sts = txts ⟨xl, xk, xp⟩) := ⟨_, Lib.hid rfl⟩
  rw [← HSS.out] at HTX HTC HEN HLN
  have R0 := row_new w #[.string xl, .string xk, .string xp] 38
  have c0 := R0.cell (i := 0) rfl
  have c1 := R0.cell (i := 1) rfl
  have c2 := R0.cell (i := 2) rfl
  have hz := row_new (w.alloc (.cells #[.string xl, .string xk, .string xp] 38)) zV 60
  rw [World.size_alloc] at hz
  obtain ⟨W, HWE⟩ : ∃ W, Hid (W = (w.alloc (.cells #[.string xl, .string xk, .string xp] 38)).alloc (.cells zV 60)) := ⟨_, Lib.hid rfl⟩
  rw [← HWE.out] at hz
  have hWs : W.heap.size = w.heap.size + 1 + 1 := by rw [HWE.out, World.size_alloc, World.size_alloc]
  have HW1 : Hid (Below w.heap.size w W) := Lib.hid (by rw [HWE.out]; exact below_trans (below1 _ _) (below1 _ _))
  have HBI : Hid (BI (w.heap.size + 1 + 1) (w.heap.size + 1 + 1 + 1 + 1) w ((W.alloc (.cells (lsC (.slice none 0 0)) 60)).alloc (.cells #[.string xl, .string xk, .string xp] 9)) (.slice none 0 0) ((sts.take 0).map txT) []) := Lib.hid ⟨(Below.heap_alloc _ _ _ (by rw [World.size_alloc, hWs]; omega)).trans (by rw [← hWs]; exact heap_alloc_new _ _), World.ownsRow_nil _ _ _ _, by rw [List.take_zero, List.map_nil, Co.RepAll], below_trans HW1.out (below_trans (below1 _ _) (below1 _ _)), by omega, by omega⟩
  have hs0 := row_new (W.alloc (.cells (lsC (.slice none 0 0)) 60)) #[.string xl, .string xk, .string xp] 9
  rw [World.size_alloc, hWs] at hs0
  have HS0 := Lib.hid hs0
  have HZ0 := Lib.hid ((hz.alloc (.cells (lsC (.slice none 0 0)) 60)).alloc (.cells #[.string xl, .string xk, .string xp] 9))
  clear R0 hz hs0
  go_enter Tryz.func35, Tryz.ntmps35
  go_wp2
  rw [← HWE.out]
  generalize (W.alloc (.cells (lsC (.slice none 0 0)) 60)).alloc (.cells #[.string xl, .string xk, .string xp] 9) = W4 at *
  clear c0 c1 c2
  go_loopw [15] (fun i wr => ∃ (k : Nat) (L : Value) (vs : List Value), k ≤ 3 ∧ i = .int .i64 k ∧ Hid (BI (w.heap.size + 1 + 1) (w.heap.size + 1 + 1 + 1 + 1) w wr L ((sts.take k).map txT) vs) ∧ Hid (Row wr (w.heap.size + 1 + 1 + 1) 9 [.string xl, .string xk, .string xp]) ∧ Hid (Row wr (w.heap.size + 1) 60 zV.toList)) (fun i _ => 3 - (intOf i).toNat)
  case atStart => exact ⟨0, _, _, by omega, rfl, HBI, HS0, HZ0⟩
  case round =>
    obtain ⟨k, L, vs, hk, rfl, HI, HSr, HZr⟩ := hrel
    have hlk : ((sts.take k).map txT).length = k := by rw [List.length_map, List.length_take, HLN.out]; omega
    have HLK := Lib.hid hlk
    have hbk := HI.out.blk
    have hlb := Co.lt_of_heap hbk
    obtain ⟨aL, cL, hL⟩ := HI.out.slice
    rw [hlk] at hL
    subst hL
    have l3 : wr.cell? ⟨w.heap.size + 1 + 1, 3, none⟩ = some (.slice aL k cL) := by simp [World.cell?, hbk]
    by_cases hlt : k < 3
    · obtain ⟨s, hs⟩ : ∃ s, sts[k]? = some s := ⟨_, List.getElem?_eq_getElem (by rw [HLN.out]; exact hlt)⟩
      have s0 := HSr.out.cell (HTC.out k s hs)
      have HMT := Lib.hid (HTX.out k s hs)
      have HZC := Lib.hid HZr.out.lt
      have HSC := Lib.hid HSr.out.lt
      clear hs hlk hbk
      go_wp2_with (at_builtin; refine stop_here ?_)
      refine Lib.hid ?_
      refine wpList_append_lies _ rfl (.tmp 20) (.tmp 23) 58 rfl (w.heap.size + 1 + 1 + 1 + 1) 60 i0 _ 4 56 Tryz.underlying58 hi hz0 hz1 hz2 rfl (by omega) (.slice aL k cL) k vs ?hs ?ho ⟨wr.heap.size, 0, none⟩ 1 1 [.int .i64 2, .int .i64 0, .string s, .slice none 0 0] ?hx rfl (cell_new4 _ _ _ _ _ _ rfl) (by simp [Value.oneCell']) (by omega) (by unfold maxLen; omega) (by omega) (by rw [World.size_alloc]; have := HSC.out; omega) (wr.heap.size + 1) (by simp) ?_
      case hs => rfl
      case hx => rfl
      case ho =>
        have h9 := HI.out.own
        rw [HLK.out] at h9
        exact h9.alloc _
      intro g c w3 hown hgrow hl hlt3
      have s3 := BI.blk3 HI.out (Below.refl _ _) hgrow
      have z3 : w3.cell? ⟨w.heap.size + 1 + 1, 3, none⟩ = some (.slice aL k cL) := by simp [World.cell?, s3]
      have f3 := Co.frozen_of_heap s3 3
      have HST := Lib.hid (BI.step HI.out HLK.out (Below.refl _ _) (rep_txt _ _ s) hown hgrow rfl hl)
      have hkeep : ∀ j, j < wr.heap.size → j < w.heap.size + 1 + 1 + 1 + 1 → j ≠ w.heap.size + 1 + 1 → (w3.setCell ⟨w.heap.size + 1 + 1, 3, none⟩ (.slice (some ⟨g, 0, none⟩) (k + 1) c)).heap[j]? = wr.heap[j]? := fun j h1 h2 h3 => (Below.heap_setCell _ _ _ _ h3).trans ((hgrow.block j (by rw [World.size_alloc]; omega) (fun e => by have := (HI.out.own.lt j e.symm).1; omega)).trans (Below.heap_alloc _ _ _ h1))
      have HS3 := Lib.hid (HSr.out.keep (hkeep _ HSC.out (by omega) (by omega)))
      have HZ3 := Lib.hid (HZr.out.keep (hkeep _ HZC.out (by omega) (by omega)))
      clear hown hgrow hl s3 hkeep
      go_wp2
      go_roundw
      case rel => exact ⟨k + 1, _, _, by omega, by go_num, Lib.hid (by rw [HMT.out]; exact HST.out), HS3, HZ3⟩
      case measure => simp [intOf]; omega
    · obtain rfl : k = 3 := by omega
      have hR := HZr.out
      have z0 := hR.cell (i := 0) rfl
      have z1 := hR.cell (i := 1) rfl
      have z2 := hR.cell (i := 2) rfl
      have z3 := hR.cell (i := 3) rfl
      have r0 := hR.thaw 0
      have r1 := hR.thaw 1
      have r2 := hR.thaw 2
      have r3 := hR.thaw 3
      have l0 : wr.cell? ⟨w.heap.size + 1 + 1, 0, none⟩ = some (.int .i64 3) := by simp [World.cell?, hbk]
      have l1 : wr.cell? ⟨w.heap.size + 1 + 1, 1, none⟩ = some (.int .i64 0) := by simp [World.cell?, hbk]
      have l2 : wr.cell? ⟨w.heap.size + 1 + 1, 2, none⟩ = some (.string ⟨#[]⟩) := by simp [World.cell?, hbk]
      have HP := Lib.hid (Co.heap_put4 hR (.int .i64 3) (.int .i64 0) (.string ⟨#[]⟩) (.slice aL 3 cL))
      have HBut := Lib.hid (Co.But.put4 (w.heap.size + 1) wr (.int .i64 3) (.int .i64 0) (.string ⟨#[]⟩) (.slice aL 3 cL))
      clear hR hbk hlk
      go_wp2
      generalize (((wr.setCell ⟨w.heap.size + 1, 0, none⟩ (.int .i64 3)).setCell ⟨w.heap.size + 1, 1, none⟩ (.int .i64 0)).setCell ⟨w.heap.size + 1, 2, none⟩ (.string ⟨#[]⟩)).setCell ⟨w.heap.size + 1, 3, none⟩ (.slice aL 3 cL) = w9 at *
      have hP := HP.out
      have hBw := HI.out.below
      refine bodyPost_ret (v := .agg #[.int .i64 3, .int .i64 0, .string ⟨#[]⟩, .slice aL 3 cL]) (by simp [results, Tryz.results35, go_sem, World.cell?, hP]) rfl ⟨_, _, _, _, rfl, ?_, ?_⟩
      · rw [HEN.out]
        exact Co.Rep.keep (fun g hg => HBut.out.block g (by omega)) (fun g hg => ⟨by omega, by rw [HBut.out.size]; exact hg.2⟩) _ _ HI.out.new
      · exact hBw.trans ⟨HBut.out.os, HBut.out.tape, HBut.out.output, Nat.le_of_eq HBut.out.size.symm, fun j hj => HBut.out.block j (by omega)⟩
end Go.Proofs.YtdnedbcmgkilaaaGreatDoor.Ca

end
