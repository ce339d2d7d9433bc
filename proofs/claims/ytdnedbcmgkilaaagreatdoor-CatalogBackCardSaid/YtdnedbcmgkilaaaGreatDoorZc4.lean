/- What is read of bytes, written again, is the bytes: the plain mathematics. -/
import Derived.Lib.ItoaLen
import Derived.Laws.EntriesVeiled
import Derived.Test.YtdnedbcmgkilaaaGreatDoorZc2
import Derived.Test.YtdnedbcmgkilaaaGreatDoorZc3

section

namespace Go.Proofs.YtdnedbcmgkilaaaGreatDoor.Co

theorem decDigits_small {u : Nat} (h : u < 10) : Lib.decDigits u = [UInt8.ofNat (48 + u)] := by rw [Lib.decDigits, dif_pos h]
theorem decDigits_step {N d : Nat} (hN : 0 < N) (hd : d < 10) : Lib.decDigits (N * 10 + d) = Lib.decDigits N ++ [UInt8.ofNat (48 + d)] := by
  rw [Lib.decDigits, dif_neg (by omega), show (N * 10 + d) / 10 = N from by omega, show (N * 10 + d) % 10 = d from by omega]
theorem ofNat_dig {c : UInt8} (h : isDig c = true) : UInt8.ofNat (48 + (c.toNat - 48)) = c := by
  have := isDig_bd h
  rw [show 48 + (c.toNat - 48) = c.toNat from by omega, UInt8.ofNat_toNat]

theorem decF_later (most : Nat) (e : UInt8) : ∀ (r : List UInt8) (i N n k : Nat), decF most e r i N false = (n, 0, k) → ∃ ds rest, r = ds ++ e :: rest ∧ k = i + ds.length + 1 ∧ Lib.decDigits n = Lib.decDigits N ++ ds
  | [], i, N, n, k, h => by rw [decF_nil] at h; simp at h
  | c :: r, i, N, n, k, h => by
    rw [decF_cons] at h
    split at h
    · rename_i hc
      have : c = e := UInt8.toNat_inj.1 hc.1
      subst this
      injection h with h1 h2
      injection h2 with _ h2
      subst h1
      exact ⟨[], r, rfl, by simp [← h2], by simp⟩
    · split at h
      · simp at h
      · split at h
        · simp at h
        · rename_i h1 h2 h3
          have hd : isDig c = true := by
            cases hx : isDig c
            · exact absurd (.inl hx) h2
            · rfl
          have hN : 0 < N := by
            rcases Nat.eq_zero_or_pos N with h0 | h0
            · exact absurd (.inr ⟨h0, rfl⟩) h2
            · exact h0
          have hb := isDig_bd hd
          obtain ⟨ds, rest, hr, hk, hdd⟩ := decF_later most e r _ _ _ _ h
          refine ⟨c :: ds, rest, by rw [hr]; rfl, by rw [hk, List.length_cons]; omega, ?_⟩
          rw [hdd, decDigits_step hN (by omega), ofNat_dig hd]
          simp
theorem decF_sound (most : Nat) (e : UInt8) (r : List UInt8) (i n k : Nat) (h : decF most e r i 0 true = (n, 0, k)) : ∃ rest, r = Lib.decDigits n ++ e :: rest ∧ k = i + (Lib.decDigits n).length + 1 := by
  cases r with
  | nil => rw [decF_nil] at h; simp at h
  | cons c r =>
    rw [decF_cons] at h
    split at h
    · rename_i hc; cases hc.2
    · split at h
      · simp at h
      · split at h
        · simp at h
        · rename_i h1 h2 h3
          have hd : isDig c = true := by
            cases hx : isDig c
            · exact absurd (.inl hx) h2
            · rfl
          have hb := isDig_bd hd
          obtain ⟨ds, rest, hr, hk, hdd⟩ := decF_later most e r _ _ _ _ h
          rw [Nat.zero_mul, Nat.zero_add, decDigits_small (u := c.toNat - 48) (by omega), ofNat_dig hd] at hdd
          refine ⟨rest, by rw [hdd, hr]; rfl, by rw [hdd, hk]; simp; omega⟩

theorem drop_cons {l : List UInt8} {i : Nat} {c : UInt8} (h : l[i]? = some c) : l.drop i = c :: l.drop (i + 1) := by
  obtain ⟨hi, rfl⟩ := List.getElem?_eq_some_iff.1 h
  exact List.drop_eq_getElem_cons hi
/-- A text that stands at a place: what is behind it. -/
theorem drop_behind {l a b : List UInt8} {i k : Nat} (h : l.drop i = a ++ b) (hk : k = i + a.length) : l.drop i = a ++ l.drop k := by
  subst hk
  rw [← List.drop_drop, h, List.drop_left]

theorem numF_sound {l : List UInt8} {i k : Nat} {t : Tree} (h : numF l i = .ok t k) : ∃ n, t = .num n ∧ l.drop i = Lib.itoa n ++ 101 :: l.drop k ∧ -9223372036854775808 ≤ n ∧ n ≤ 9223372036854775807 := by
  by_cases h45 : l[i]? = some 45
  · by_cases h0 : l[i + 1]? = some 48
    · rw [numF_zero h45 h0] at h; cases h
    · have hb := decF_bd 9223372036854775808 101 (by omega) (l.drop (i + 1)) (i + 1) 0 true (by omega)
      rcases hd : decF 9223372036854775808 101 (l.drop (i + 1)) (i + 1) 0 true with ⟨n, e, k'⟩
      rw [hd] at hb
      simp only at hb
      by_cases he : e = 0
      · subst he
        rw [numF_nok h45 h0 hd] at h
        injection h with ht hk
        subst ht hk
        obtain ⟨rest, hr, hk⟩ := decF_sound _ _ _ _ _ _ hd
        have hn : 0 < n := by
          rcases Nat.eq_zero_or_pos n with h1 | h1
          · subst h1
            rw [decDigits_small (by omega)] at hr
            exfalso
            apply h0
            have : l[i + 1]? = (l.drop (i + 1))[0]? := by simp
            rw [this, hr]
            rfl
          · exact h1
        refine ⟨_, rfl, ?_, by omega, by omega⟩
        rw [drop_cons h45, drop_behind (a := Lib.decDigits n ++ [101]) (b := rest) (k := k') (by rw [hr]; simp) (by rw [hk]; simp; omega)]
        rw [Lib.itoa, if_pos (by omega), show (-(n : Int)).natAbs = n from by omega]
        simp
      · rw [numF_nbad h45 h0 hd he] at h; cases h
  · have hb := decF_bd 9223372036854775807 101 (by omega) (l.drop i) i 0 true (by omega)
    rcases hd : decF 9223372036854775807 101 (l.drop i) i 0 true with ⟨n, e, k'⟩
    rw [hd] at hb
    simp only at hb
    by_cases he : e = 0
    · subst he
      rw [numF_ok h45 hd] at h
      injection h with ht hk
      subst ht hk
      obtain ⟨rest, hr, hk⟩ := decF_sound _ _ _ _ _ _ hd
      refine ⟨_, rfl, ?_, by omega, by omega⟩
      rw [drop_behind (a := Lib.decDigits n ++ [101]) (b := rest) (k := k') (by rw [hr]; simp) (by rw [hk]; simp; omega)]
      rw [Lib.itoa, if_neg (by omega), Int.toNat_natCast]
      simp
    · rw [numF_bad h45 hd he] at h; cases h

theorem textF_sound {l : List UInt8} {i k : Nat} {t : Tree} (h : textF l i = .ok t k) : ∃ bs, t = .text bs ∧ l.drop i = enc (.text bs) ++ l.drop k := by
  have hb := decF_bd 131072 58 (by omega) (l.drop i) i 0 true (by omega)
  rcases hd : decF 131072 58 (l.drop i) i 0 true with ⟨n, e, k'⟩
  by_cases he : e = 0
  · subst he
    by_cases hf : k' + n ≤ l.length
    · rw [textF_ok hd hf] at h
      injection h with ht hk
      subst ht hk
      obtain ⟨rest, hr, hk⟩ := decF_sound _ _ _ _ _ _ hd
      refine ⟨_, rfl, ?_⟩
      rw [drop_behind (a := Lib.decDigits n ++ [58]) (b := rest) (k := k') (by rw [hr]; simp) (by rw [hk]; simp; omega)]
      have hlen : ((l.drop k').take n).length = n := by rw [List.length_take, List.length_drop]; omega
      rw [enc, hlen, Lib.itoa, if_neg (by omega), Int.toNat_natCast]
      simp only [List.append_assoc, List.cons_append, List.nil_append]
      rw [← List.drop_drop, List.take_append_drop]
    · rw [textF_end hd (by omega)] at h; cases h
  · rw [textF_bad hd he] at h; cases h

theorem rd_sound (l : List UInt8) : ∀ f, (∀ i level count t k c, rdV l f i level count = (.ok t k, c) → l.drop i = enc t ++ l.drop k ∧ c = count + nodes t ∧ Lev level t ∧ Ok t) ∧
    (∀ i level count acc t k c, level ≤ 30 → rdL l f i level count acc = (.ok t k, c) → ∃ new, t = .list (acc ++ new) ∧ l.drop i = encL new ++ 101 :: l.drop k ∧ c = count + nodesL new ∧ LevL (level + 1) new ∧ OkL new)
  | 0 => by
    constructor
    · intro i level count t k c h; rw [rdV] at h; injection h with h; cases h
    · intro i level count acc t k c _ h; rw [rdL] at h; injection h with h; cases h
  | f + 1 => by
    obtain ⟨hV, hL⟩ := rd_sound l f
    constructor
    · intro i level count t k c h
      rw [rdV_succ] at h
      split at h
      · rename_i hb
        obtain ⟨h1, h2, h3⟩ := beginF_lt hb
        split at h
        · rename_i h105
          injection h with h hc
          obtain ⟨n, rfl, hd, hn1, hn2⟩ := numF_sound h
          rw [drop_cons h105, hd, enc, nodes, Lev, Ok]
          exact ⟨by simp, hc.symm, h2, hn1, hn2⟩
        · split at h
          · rename_i h108
            obtain ⟨new, rfl, hd, hc, hlv, hok⟩ := hL _ _ _ _ _ _ _ h2 h
            rw [List.nil_append, drop_cons h108, hd, enc, nodes, Lev, Ok]
            exact ⟨by simp, by omega, ⟨h2, hlv⟩, hok⟩
          · injection h with h hc
            obtain ⟨bs, rfl, hd⟩ := textF_sound h
            rw [nodes, Lev, Ok]
            exact ⟨hd, hc.symm, h2, trivial⟩
      · injection h with h; cases h
    · intro i level count acc t k c hl30 h
      rw [rdL_succ] at h
      split at h
      · rename_i h101
        injection h with h hc
        injection h with ht hk
        subst ht hk hc
        exact ⟨[], by simp, by rw [drop_cons h101, encL]; rfl, by simp [nodesL], by simp [LevL], by simp [OkL]⟩
      · rcases hr : rdV l f i (level + 1) count with ⟨u | ⟨e, k1⟩, c1⟩
        · rename_i k1
          rw [hr] at h
          simp only at h
          obtain ⟨a1, a2, a3, a4⟩ := hV _ _ _ _ _ _ hr
          obtain ⟨new, rfl, b1, b2, b3, b4⟩ := hL _ _ _ _ _ _ _ hl30 h
          refine ⟨u :: new, by simp, ?_, ?_, ?_, ?_⟩
          · rw [a1, b1, encL]; simp
          · rw [b2, a2, nodesL]; omega
          · rw [LevL]; exact ⟨a3, b3⟩
          · rw [OkL]; exact ⟨a4, b4⟩
        · rw [hr] at h
          injection h with h; cases h

/-- What Get reads, written again, is what was read. -/
theorem getF_sound {l : List UInt8} {t : Tree} {k : Nat} (h : getF l = .ok t k) : k = 0 ∧ enc t = l ∧ l.length ≤ 131072 ∧ nodes t ≤ 4000 ∧ Lev 1 t ∧ Ok t := by
  unfold getF at h
  split at h
  · cases h
  · rename_i hlen
    have hbd := (rd_bd l (2 * l.length + 1)).1 0 1 0 (by omega)
    rcases hr : rdV l (2 * l.length + 1) 0 1 0 with ⟨u | ⟨e, k1⟩, c1⟩
    · rename_i k1
      rw [hr] at h hbd
      simp only at h
      split at h
      · cases h
      · injection h with ht hk
        subst ht hk
        obtain ⟨a1, a2, a3, a4⟩ := (rd_sound l _).1 _ _ _ _ _ _ hr
        rw [List.drop_zero, List.drop_eq_nil_of_le (by omega), List.append_nil] at a1
        have := (hbd.2.2.2 _ _ rfl).2
        simp only at this
        exact ⟨rfl, a1.symm, by omega, by omega, a3, a4⟩
    · rw [hr] at h; cases h
/-- .. and where it refuses. -/
theorem getF_bad {l : List UInt8} {e k : Nat} (h : getF l = .bad e k) : k ≤ l.length ∧ e ≠ 0 := by
  unfold getF at h
  split at h
  · injection h with h1 h2; subst h1 h2; exact ⟨by omega, by omega⟩
  · have hbd := ((rd_bd l (2 * l.length + 1)).1 0 1 0 (by omega)).1
    rcases hr : (rdV l (2 * l.length + 1) 0 1 0).1 with u | ⟨e, k1⟩
    · rename_i k1
      rw [hr] at h hbd
      simp only [Bd] at h hbd
      split at h
      · injection h with h1 h2; subst h1 h2; exact ⟨by omega, by omega⟩
      · cases h
    · rw [hr] at h hbd
      simp only [Bd] at h hbd
      injection h with h1 h2; subst h1 h2; exact ⟨hbd.2, hbd.1⟩

end Go.Proofs.YtdnedbcmgkilaaaGreatDoor.Co

end

/- What is written is read again: mathematics. -/
section

namespace Go.Proofs.YtdnedbcmgkilaaaGreatDoor.Co

/- What is written is read again: mathematics. -/
theorem digit_of {d : Nat} (h : d < 10) : isDig (UInt8.ofNat (48 + d)) = true ∧ (UInt8.ofNat (48 + d)).toNat = 48 + d := by
  have : (UInt8.ofNat (48 + d)).toNat = 48 + d := by rw [UInt8.toNat_ofNat']; omega
  exact ⟨by unfold isDig; rw [this]; simp; omega, this⟩
theorem digs_small {u : Nat} (h : u < 10) : Lib.decDigits u = [UInt8.ofNat (48 + u)] := by rw [Lib.decDigits, dif_pos h]
theorem digs_big {u : Nat} (h : ¬ u < 10) : Lib.decDigits u = Lib.decDigits (u / 10) ++ [UInt8.ofNat (48 + u % 10)] := by rw [Lib.decDigits, dif_neg h]
theorem decF_one {most : Nat} {e c : UInt8} {r : List UInt8} {i n : Nat} {first : Bool} (h1 : (c == e && !first) = false) (h2 : (!isDig c || (n == 0 && !first)) = false) (h3 : ¬ (most - (c.toNat - 48)) / 10 < n) : decF most e (c :: r) i n first = decF most e r (i + 1) (n * 10 + (c.toNat - 48)) false := by
  rw [decF, if_neg (by rw [h1]; simp), if_neg (by rw [h2]; simp), if_neg h3]
theorem decF_eq {most : Nat} {e : UInt8} {r : List UInt8} {i j n m : Nat} {b : Bool} (h1 : i = j) (h2 : n = m) : decF most e r i n b = decF most e r j m b := by rw [h1, h2]
theorem pair_eq {t : Tree} {a b c d : Nat} (h1 : a = b) (h2 : c = d) : ((Res.ok t a, c) : Res × Nat) = (.ok t b, d) := by rw [h1, h2]
/-- The digits of a number are read. -/
theorem decF_digs {most : Nat} {e : UInt8} (he : isDig e = false) (i : Nat) : ∀ (u : Nat) (r : List UInt8), u ≤ most → decF most e (Lib.decDigits u ++ r) i 0 true = decF most e r (i + (Lib.decDigits u).length) u false := by
  intro u
  induction u using Nat.strongRecOn with
  | _ u ih =>
  intro r hu
  by_cases h : u < 10
  · obtain ⟨h1, h2⟩ := digit_of h
    rw [digs_small h, List.cons_append, List.nil_append, decF_one (by simp) (by rw [h1]; rfl) (by omega), h2]
    exact decF_eq rfl (by omega)
  · have hd : u % 10 < 10 := Nat.mod_lt _ (by omega)
    obtain ⟨h1, h2⟩ := digit_of hd
    rw [digs_big h, List.append_assoc, ih (u / 10) (by omega) _ (by omega), List.cons_append, List.nil_append]
    have hne : (UInt8.ofNat (48 + u % 10) == e) = false := by
      rw [beq_eq_false_iff_ne]; intro e1; rw [e1, he] at h1; cases h1
    rw [decF_one (by rw [hne]; rfl) (by rw [h1, show ((u / 10) == 0) = false from by rw [beq_eq_false_iff_ne]; omega]; rfl) (by rw [h2]; omega), h2, List.length_append]
    exact decF_eq (by simp; omega) (by omega)
theorem decF_end {most : Nat} {e : UInt8} (he : isDig e = false) {u : Nat} (hu : u ≤ most) (r : List UInt8) (i : Nat) : decF most e (Lib.decDigits u ++ e :: r) i 0 true = (u, 0, i + (Lib.decDigits u).length + 1) := by
  rw [decF_digs he i u _ hu, decF, if_pos (by simp)]
/-- The first digit of a number. -/
theorem digs_first : ∀ u : Nat, ∃ c r, Lib.decDigits u = c :: r ∧ isDig c = true := by
  intro u
  induction u using Nat.strongRecOn with
  | _ u ih =>
  by_cases h : u < 10
  · exact ⟨_, _, digs_small h, (digit_of h).1⟩
  · obtain ⟨c, r, hc, hd⟩ := ih (u / 10) (by omega)
    exact ⟨c, r ++ [UInt8.ofNat (48 + u % 10)], by rw [digs_big h, hc]; rfl, hd⟩
theorem get_drop {l a : List UInt8} {i : Nat} {c : UInt8} (h : l.drop i = c :: a) : l[i]? = some c := by
  rw [← List.head?_drop, h]; rfl
theorem drop_more {l a b : List UInt8} {i : Nat} (h : l.drop i = a ++ b) : l.drop (i + a.length) = b := by
  rw [← List.drop_drop, h, List.drop_left]
theorem dig_not {c d : UInt8} (h : isDig c = true) (hd : isDig d = false) : c ≠ d := fun e => by rw [e, hd] at h; cases h
mutual
/-- No integer in it is less than 0. -/
def Pz : Tree → Prop
  | .num n => 0 ≤ n
  | .text bs => bs.length ≤ 131072
  | .list ts => PzL ts
def PzL : List Tree → Prop
  | [] => True
  | t :: ts => Pz t ∧ PzL ts
end
theorem numF_enc {l r : List UInt8} {i : Nat} {n : Int} (h0 : 0 ≤ n) (h1 : n ≤ 9223372036854775807) (h : l.drop i = Lib.itoa n ++ 101 :: r) : numF l i = .ok (.num n) (i + (Lib.itoa n).length + 1) := by
  have hi : Lib.itoa n = Lib.decDigits n.toNat := by unfold Lib.itoa; rw [if_neg (by omega)]
  rw [hi] at h ⊢
  obtain ⟨c, q, hc, hd⟩ := digs_first n.toNat
  have hg : l[i]? = some c := get_drop (by rw [h, hc]; rfl)
  unfold numF
  rw [if_neg (by rw [hg]; intro e; exact dig_not hd (d := 45) (by decide) (Option.some.inj e)), h, decF_end (by decide) (by omega)]
  simp only
  rw [show ((n.toNat : Nat) : Int) = n by omega]
theorem textF_enc {l r bs : List UInt8} {i : Nat} (hb : bs.length ≤ 131072) (h : l.drop i = Lib.itoa bs.length ++ 58 :: (bs ++ r)) : textF l i = .ok (.text bs) (i + (Lib.itoa bs.length).length + 1 + bs.length) := by
  have hi : Lib.itoa bs.length = Lib.decDigits bs.length := by unfold Lib.itoa; rw [if_neg (by omega)]; rfl
  rw [hi] at h ⊢
  have hd := drop_more (a := Lib.decDigits bs.length ++ [58]) (b := bs ++ r) (by rw [h]; simp)
  rw [List.length_append, ← Nat.add_assoc] at hd
  simp only [List.length_cons, List.length_nil] at hd
  have hlen : bs.length + r.length = l.length - (i + (Lib.decDigits bs.length).length + (0 + 1)) := by
    have := congrArg List.length hd
    rw [List.length_append, List.length_drop] at this
    omega
  have hlt : i < l.length := by
    rcases Nat.lt_or_ge i l.length with h1 | h1
    · exact h1
    · rw [List.drop_eq_nil_of_le h1] at h
      have := congrArg List.length h
      rw [List.length_append] at this
      simp at this
  have hlen2 : l.length - i = (Lib.decDigits bs.length).length + (1 + (bs.length + r.length)) := by
    have := congrArg List.length h
    rw [List.length_drop, List.length_append, List.length_cons, List.length_append] at this
    omega
  unfold textF
  rw [h, decF_end (by decide) hb]
  simp only
  rw [if_neg (by omega), show i + (Lib.decDigits bs.length).length + 1 = i + (Lib.decDigits bs.length).length + (0 + 1) by omega, hd, List.take_left]
theorem begin_ok {l a : List UInt8} {i level count : Nat} {c : UInt8} (h : l.drop i = c :: a) (hc : c = 105 ∨ c = 108 ∨ isDig c = true) (hl : level ≤ 30) (hn : count ≤ 4000) : beginF l i level count = 0 := by
  unfold beginF
  rw [get_drop h]
  simp only
  rw [if_neg (by rcases hc with rfl | rfl | hc <;> simp_all), if_neg (by omega), if_neg (by omega)]
mutual
def needT : Tree → Nat
  | .num _ => 1
  | .text _ => 1
  | .list ts => 1 + needL ts
def needL : List Tree → Nat
  | [] => 1
  | t :: ts => 1 + max (needT t) (needL ts)
end
mutual
theorem need_le : ∀ t : Tree, needT t ≤ 2 * nodes t ∧ 1 ≤ nodes t
  | .num _ => by rw [needT, nodes]; omega
  | .text _ => by rw [needT, nodes]; omega
  | .list ts => by have := needL_le ts; rw [needT, nodes]; omega
theorem needL_le : ∀ ts : List Tree, needL ts ≤ 2 * nodesL ts + 1
  | [] => by rw [needL, nodesL]; omega
  | t :: ts => by have h1 := need_le t; have h2 := needL_le ts; rw [needL, nodesL]; omega
end
mutual
theorem nodes_enc : ∀ t : Tree, nodes t ≤ (enc t).length
  | .num _ => by rw [nodes, enc]; simp
  | .text _ => by rw [nodes, enc]; simp; omega
  | .list ts => by have := nodesL_enc ts; rw [nodes, enc]; simp; omega
theorem nodesL_enc : ∀ ts : List Tree, nodesL ts ≤ (encL ts).length
  | [] => by rw [nodesL]; omega
  | t :: ts => by have h1 := nodes_enc t; have h2 := nodesL_enc ts; rw [nodesL, encL, List.length_append]; omega
end
theorem enc_first (t : Tree) : ∃ c r, enc t = c :: r ∧ (c = 105 ∨ c = 108 ∨ isDig c = true) ∧ c ≠ 101 := by
  cases t with
  | num n => exact ⟨105, _, by rw [enc], .inl rfl, by decide⟩
  | text bs =>
    obtain ⟨c, r, hc, hd⟩ := digs_first bs.length
    have hi : Lib.itoa bs.length = Lib.decDigits bs.length := by unfold Lib.itoa; rw [if_neg (by omega)]; rfl
    exact ⟨c, r ++ 58 :: bs, by rw [enc, hi, hc]; rfl, .inr (.inr hd), dig_not hd (by decide)⟩
  | list ts => exact ⟨108, _, by rw [enc], .inr (.inl rfl), by decide⟩
mutual
theorem rdV_enc {l : List UInt8} : ∀ (t : Tree) (f i level count : Nat) (r : List UInt8), needT t ≤ f → l.drop i = enc t ++ r → Lev level t → Pz t → Ok t → count + nodes t ≤ 4000 → rdV l f i level count = (.ok t (i + (enc t).length), count + nodes t)
  | .num n, f, i, level, count, r, hf, h, hl, hp, ho, hn => by
    rw [needT] at hf
    rw [nodes] at hn ⊢
    rw [enc] at h ⊢
    rw [Lev] at hl
    rw [Pz] at hp
    rw [Ok] at ho
    obtain ⟨f', rfl⟩ : ∃ f', f = f' + 1 := ⟨f - 1, by omega⟩
    have h1 : l.drop (i + 1) = Lib.itoa n ++ 101 :: r := by
      have := drop_more (a := [105]) (b := Lib.itoa n ++ 101 :: r) (l := l) (i := i) (by rw [h]; simp)
      simpa using this
    rw [rdV, if_pos (begin_ok (c := 105) (a := Lib.itoa n ++ [101] ++ r) (by rw [h]; rfl) (.inl rfl) hl (by omega)), if_pos (get_drop (a := Lib.itoa n ++ [101] ++ r) (by rw [h]; rfl)), numF_enc hp ho.2 h1]
    simp only [List.length_cons, List.length_append, List.length_nil]
    exact pair_eq (by omega) rfl
  | .text bs, f, i, level, count, r, hf, h, hl, hp, ho, hn => by
    rw [needT] at hf
    rw [nodes] at hn ⊢
    rw [Lev] at hl
    rw [Pz] at hp
    obtain ⟨c, q, hc, hcc, -⟩ := enc_first (.text bs)
    obtain ⟨f', rfl⟩ : ∃ f', f = f' + 1 := ⟨f - 1, by omega⟩
    have hd : isDig c = true := by
      obtain ⟨c2, r2, hc2, hd2⟩ := digs_first bs.length
      have hi : Lib.itoa bs.length = Lib.decDigits bs.length := by unfold Lib.itoa; rw [if_neg (by omega)]; rfl
      rw [enc, hi, hc2] at hc
      injection hc with e1 e2
      rw [← e1]; exact hd2
    have hg : l[i]? = some c := get_drop (a := q ++ r) (by rw [h, hc]; rfl)
    rw [rdV, if_pos (begin_ok (c := c) (a := q ++ r) (by rw [h, hc]; rfl) hcc hl (by omega)), if_neg (by rw [hg]; intro e; exact dig_not hd (d := 105) (by decide) (Option.some.inj e)), if_neg (by rw [hg]; intro e; exact dig_not hd (d := 108) (by decide) (Option.some.inj e))]
    rw [enc] at h ⊢
    rw [textF_enc (r := r) hp (by rw [h]; simp)]
    simp only [List.length_cons, List.length_append]
    exact pair_eq (by omega) rfl
  | .list ts, f, i, level, count, r, hf, h, hl, hp, ho, hn => by
    rw [needT] at hf
    rw [nodes] at hn ⊢
    rw [enc] at h ⊢
    rw [Lev] at hl
    rw [Pz] at hp
    rw [Ok] at ho
    obtain ⟨f', rfl⟩ : ∃ f', f = f' + 1 := ⟨f - 1, by omega⟩
    have h1 : l.drop (i + 1) = encL ts ++ 101 :: r := by
      have := drop_more (a := [108]) (b := encL ts ++ 101 :: r) (l := l) (i := i) (by rw [h]; simp)
      simpa using this
    have hg : l[i]? = some 108 := get_drop (a := encL ts ++ [101] ++ r) (by rw [h]; rfl)
    rw [rdV, if_pos (begin_ok (c := 108) (a := encL ts ++ [101] ++ r) (by rw [h]; rfl) (.inr (.inl rfl)) hl.1 (by omega)), if_neg (by rw [hg]; decide), if_pos hg,
      rdL_enc ts f' (i + 1) level (count + 1) [] r (by omega) h1 hl.2 hp ho (by omega), List.nil_append]
    simp only [List.length_cons, List.length_append, List.length_nil]
    exact pair_eq (by omega) (by omega)
theorem rdL_enc {l : List UInt8} : ∀ (ts : List Tree) (f i level count : Nat) (acc : List Tree) (r : List UInt8), needL ts ≤ f → l.drop i = encL ts ++ 101 :: r → LevL (level + 1) ts → PzL ts → OkL ts → count + nodesL ts ≤ 4000 → rdL l f i level count acc = (.ok (.list (acc ++ ts)) (i + (encL ts).length + 1), count + nodesL ts)
  | [], f, i, level, count, acc, r, hf, h, hl, hp, ho, hn => by
    rw [needL] at hf
    obtain ⟨f', rfl⟩ : ∃ f', f = f' + 1 := ⟨f - 1, by omega⟩
    rw [encL, List.nil_append] at h
    rw [rdL, if_pos (get_drop h), List.append_nil, encL, nodesL]
    rfl
  | t :: ts, f, i, level, count, acc, r, hf, h, hl, hp, ho, hn => by
    rw [needL] at hf
    obtain ⟨f', rfl⟩ : ∃ f', f = f' + 1 := ⟨f - 1, by omega⟩
    rw [encL, List.append_assoc] at h
    rw [LevL] at hl
    rw [PzL] at hp
    rw [OkL] at ho
    rw [nodesL] at hn
    obtain ⟨c, q, hc, -, hne⟩ := enc_first t
    have hg : l[i]? = some c := get_drop (a := q ++ (encL ts ++ 101 :: r)) (by rw [h, hc]; rfl)
    rw [rdL, if_neg (by rw [hg]; intro e; exact hne (Option.some.inj e)), rdV_enc t f' i (level + 1) count (encL ts ++ 101 :: r) (by omega) h hl.1 hp.1 ho.1 (by omega)]
    simp only
    rw [rdL_enc ts f' (i + (enc t).length) level (count + nodes t) (acc ++ [t]) r (by omega) (drop_more h) hl.2 hp.2 ho.2 (by omega), encL, nodesL, List.append_assoc, List.length_append]
    exact pair_eq (by omega) (by omega)
end
/-- What is written is read again. -/
theorem getF_enc {t : Tree} (hb : (enc t).length ≤ 131072) (hn : nodes t ≤ 4000) (hl : Lev 1 t) (hp : Pz t) (ho : Ok t) : getF (enc t) = .ok t 0 := by
  have h1 := need_le t
  have h2 := nodes_enc t
  have := rdV_enc (l := enc t) t (2 * (enc t).length + 1) 0 1 0 [] (by omega) (by simp) hl hp ho (by omega)
  unfold getF
  rw [if_neg (by omega), this]
  simp only
  rw [if_neg (by omega)]
end Go.Proofs.YtdnedbcmgkilaaaGreatDoor.Co

end

/- Package code's Put: what adding a text makes of what is written, whether it fits or not. -/
section

namespace Go.Proofs.YtdnedbcmgkilaaaGreatDoor.Co
open Go.RowKit

/-- What stands: all blocks but those of bytes, of builders and of bools. -/
def Oth (w w' : World) : Prop := ∀ (k : Nat) (cs : Array Value) (t : TypeId) (fz : Nat × Nat), w.heap[k]? = some (.cells cs t fz) → t ≠ 5 → t ≠ 83 → t ≠ 4 → w'.heap[k]? = some (.cells cs t fz)
theorem Oth.refl (w : World) : Oth w w := fun _ _ _ _ h _ _ _ => h
theorem Oth.trans {a b c : World} (h : Oth a b) (k : Oth b c) : Oth a c := fun g cs t fz e h1 h2 h3 => k g cs t fz (h g cs t fz e h1 h2 h3) h1 h2 h3
theorem Oth.of_below {w w' : World} (hb : Below w.heap.size w w') : Oth w w' := fun k _ _ _ h _ _ _ => (hb.block k (lt_of_heap h)).trans h
theorem Oth.alloc {a w : World} (h : Oth a w) (o : Obj) : Oth a (w.alloc o) := h.trans (Oth.of_below (below1 w o))
theorem Oth.k24 {w w' : World} (h : Oth w w') : K24 w w' := fun g cur e => h g cur _ _ e (by decide) (by decide) (by decide)
theorem Oth.of_others {B b : Nat} {l : List UInt8} {w w' : World} (hh : Holds B b l w) (h : Lib.OthersKept 5 (some b) w w') : Oth w w' :=
  fun _ _ _ _ e h1 h2 _ => others_at h e (fun e' => hh.ne e h2 (by injection e')) h1

/-- What is written, and whether all fitted. -/
abbrev St := List UInt8 × Bool
def addS (st : St) (s : List UInt8) : St := if st.2 = true ∧ st.1.length + s.length ≤ 131072 then (st.1 ++ s, true) else (st.1, false)
theorem addS_le {st : St} (s : List UInt8) (h : st.1.length ≤ 131072) : (addS st s).1.length ≤ 131072 := by
  unfold addS; split
  · rename_i h1; rw [List.length_append]; exact h1.2
  · exact h
/-- A builder and a flag. -/
structure HoldS (B b fb : Nat) (st : St) (w : World) : Prop where
  h : Holds B b st.1 w
  f : w.heap[fb]? = some (.cells #[.bool st.2] 4 (0, 0))
  le : st.1.length ≤ 131072
theorem HoldS.below {B b fb : Nat} {st : St} {w w' : World} (h : HoldS B b fb st w) (hb : Below w.heap.size w w') : HoldS B b fb st w' := ⟨holds_below h.h hb, (hb.block fb (lt_of_heap h.f)).trans h.f, h.le⟩
theorem HoldS.alloc {B b fb : Nat} {st : St} {w : World} (h : HoldS B b fb st w) (o : Obj) : HoldS B b fb st (w.alloc o) := h.below (below1 w o)

/-- What a step of writing leaves. -/
structure WroteS (B b fb : Nat) (st : St) (w w' : World) : Prop where
  holds : HoldS B b fb st w'
  below : Below B w w'
  oth : Oth w w'
theorem WroteS.trans {B b fb : Nat} {st st' : St} {w w' w'' : World} (h : WroteS B b fb st w w') (h' : WroteS B b fb st' w' w'') : WroteS B b fb st' w w'' := ⟨h'.holds, h.below.trans h'.below, h.oth.trans h'.oth⟩
theorem WroteS.ahead {B b fb : Nat} {st : St} {w w1 w' : World} (hb : Below w.heap.size w w1) (hB : B ≤ w.heap.size) (h : WroteS B b fb st w1 w') : WroteS B b fb st w w' := ⟨h.holds, (hb.mono hB).trans h.below, (Oth.of_below hb).trans h.oth⟩

theorem flag_set {w : World} {k : Nat} {f : Bool} (h : w.heap[k]? = some (.cells #[.bool f] 4 (0, 0))) (g : Bool) : (w.setCell ⟨k, 0, none⟩ (.bool g)).heap[k]? = some (.cells #[.bool g] 4 (0, 0)) := heap_set h 0 _
theorem oth_set {w : World} {k : Nat} {f : Bool} (h : w.heap[k]? = some (.cells #[.bool f] 4 (0, 0))) (g : Bool) : Oth w (w.setCell ⟨k, 0, none⟩ (.bool g)) := fun j cs t fz e _ _ h4 => by
  have hj : j ≠ k := fun e' => by subst e'; rw [h] at e; injection e with e; injection e with _ e; exact h4 e.symm
  exact (Below.heap_setCell _ _ _ _ hj).trans e
theorem holds_set {B b k : Nat} {l : List UInt8} {w : World} {f : Bool} (hh : Holds B b l w) (h : w.heap[k]? = some (.cells #[.bool f] 4 (0, 0))) (g : Bool) : Holds B b l (w.setCell ⟨k, 0, none⟩ (.bool g)) := by
  have hk : ∀ {p : Value}, Lib.BuilderAtF 83 5 B b p (Lib.byteCells l) w → Lib.BuilderAtF 83 5 B b p (Lib.byteCells l) (w.setCell ⟨k, 0, none⟩ (.bool g)) := fun hp => by
    obtain ⟨hB, v, hb, hown, hne⟩ := hp
    have n1 : b ≠ k := fun e => by subst e; rw [h] at hb; injection hb with hb; injection hb with _ hb; cases hb
    refine ⟨hB, v, (Below.heap_setCell _ _ _ _ n1).trans hb, ⟨hown.1, ?_⟩, hne⟩
    rcases hown.2 with h0 | ⟨g', cap, cur, fz, hv, h1, h2, hr⟩
    · exact .inl h0
    · have n2 : g' ≠ k := fun e => by subst e; rw [h] at h2; injection h2 with h2; injection h2 with _ h2; cases h2
      exact .inr ⟨g', cap, cur, fz, hv, h1, (Below.heap_setCell _ _ _ _ n2).trans h2, hr⟩
  exact hh.imp hk hk

set_option maxHeartbeats 1000000 in
set_option maxRecDepth 100000 in
theorem addS_any (B b fb : Nat) (st : St) (s : ByteArray) (w : World) (hI : HoldS B b fb st w) (hB : B ≤ w.heap.size) (hfb : B ≤ fb) (_ : s.size ≤ 140737488351232) :
    Calls Tryz.prog 59 #[.string s, .pointer (some ⟨fb, 0, none⟩), .pointer (some ⟨b, 0, none⟩)] w fun e w' => e = .returned (.tuple #[]) ∧ WroteS B b fb (addS st s.data.toList) w w' := by
  obtain ⟨l, f⟩ := st
  obtain ⟨hh, hf, hle⟩ := hI
  simp only at hh hf hle
  have hcf : w.cell? ⟨fb, 0, none⟩ = some (.bool f) := by simp [World.cell?, hf]
  have hff : w.frozen? ⟨fb, 0, none⟩ = false := by simp [World.frozen?, hf]
  have hbl : Hid ((Lib.byteCells l).length = l.length) := Lib.hid (Lib.byteCells_length l)
  have hsl : s.data.toList.length = s.size := by simp
  have HOF := Lib.hid (oth_set hf false)
  have HFF := Lib.hid (flag_set hf false)
  have HHF := Lib.hid (holds_set hh hf false)
  have HBF : Hid (Below B w (w.setCell ⟨fb, 0, none⟩ (.bool false))) := Lib.hid ((Below.refl B w).setCell (p := ⟨fb, 0, none⟩) hfb _)
  cases f with
  | false =>
    have HE : Hid (addS (l, false) s.data.toList = (l, false)) := Lib.hid (by unfold addS; rw [if_neg (by simp)])
    clear hh hf
    rw [HE.out]
    go_enter Tryz.func59, Tryz.ntmps59
    go_wp2
    go_end0
    exact ⟨rfl, ⟨HHF.out, HFF.out, hle⟩, HBF.out, HOF.out⟩
  | true =>
    have HL := Lib.hid (Tryz.Builder_Len_f B b (Lib.byteCells l) w hh)
    by_cases hfit : l.length + s.size ≤ 131072
    · have HE : Hid (addS (l, true) s.data.toList = (l ++ s.data.toList, true)) := Lib.hid (by unfold addS; rw [if_pos ⟨rfl, by rw [hsl]; exact hfit⟩])
      have HW := Lib.hid (writeString_any B b (Lib.byteCells l) s (w.setCell ⟨fb, 0, none⟩ (.bool true)) (holds_set hh hf true) (by rw [Lib.byteCells_length]; omega) (by simpa [World.setCell] using hB))
      have HOT := Lib.hid (oth_set hf true)
      have HFT := Lib.hid (flag_set hf true)
      have HHT := Lib.hid (holds_set hh hf true)
      have HBT : Hid (Below B w (w.setCell ⟨fb, 0, none⟩ (.bool true))) := Lib.hid ((Below.refl B w).setCell (p := ⟨fb, 0, none⟩) hfb _)
      clear hh hf HOF HFF HHF HBF
      rw [HE.out]
      go_enter Tryz.func59, Tryz.ntmps59
      go_wp2_with fail
      refine HL.out.mono ?_
      rintro e w' ⟨rfl, rfl⟩
      rw [hbl.out]
      have hq : decide ((s.size : Int) ≤ 131072 - (l.length : Int)) = true := by simp; omega
      go_wp2_with fail
      refine HW.out.mono ?_
      rintro e w2 ⟨rfl, h2, hb2, ho2⟩
      go_wp2
      go_end0
      have e1 : Lib.byteCells (l ++ s.data.toList) = Lib.byteCells l ++ Lib.strCells s := by simp [Lib.byteCells, Lib.strCells]
      have o2 := Oth.of_others HHT.out ho2
      refine ⟨rfl, ⟨.inr (by rw [e1]; exact h2), ?_, by rw [List.length_append, hsl]; exact hfit⟩, HBT.out.trans hb2, HOT.out.trans o2⟩
      exact others_at ho2 HFT.out (fun e => HHT.out.ne HFT.out (by decide) (by injection e)) (by decide)
    · have HE : Hid (addS (l, true) s.data.toList = (l, false)) := Lib.hid (by unfold addS; rw [if_neg (by rw [hsl]; exact fun h => hfit h.2)])
      clear hh hf
      rw [HE.out]
      go_enter Tryz.func59, Tryz.ntmps59
      go_wp2_with fail
      refine HL.out.mono ?_
      rintro e w' ⟨rfl, rfl⟩
      rw [hbl.out]
      have hq : decide ((s.size : Int) ≤ 131072 - (l.length : Int)) = false := by simp; omega
      go_wp2
      go_end0
      exact ⟨rfl, ⟨HHF.out, HFF.out, hle⟩, HBF.out, HOF.out⟩
end Go.Proofs.YtdnedbcmgkilaaaGreatDoor.Co

end

/- Package code's Put: what writing a value makes of what is written, whether it fits or not. -/
section

namespace Go.Proofs.YtdnedbcmgkilaaaGreatDoor.Co
open Go.RowKit

mutual
/-- What writing a value makes of a state. -/
def wrT : Tree → St → St
  | .num n, st => addS (addS (addS st [105]) (Lib.itoa n)) [101]
  | .text bs, st => addS (addS (addS st (Lib.itoa bs.length)) [58]) bs
  | .list ts, st => addS (wrL ts (addS st [108])) [101]
def wrL : List Tree → St → St
  | [], st => st
  | t :: ts, st => wrL ts (wrT t st)
end
theorem wrL_append : ∀ (a b : List Tree) (st : St), wrL (a ++ b) st = wrL b (wrL a st)
  | [], b, st => by rw [wrL]; rfl
  | t :: a, b, st => by
    show wrL (t :: (a ++ b)) st = _
    rw [wrL, wrL, wrL_append a b]
theorem wrL_take {ts : List Tree} {k : Nat} {t : Tree} (h : ts[k]? = some t) (st : St) : wrL (ts.take (k + 1)) st = wrT t (wrL (ts.take k) st) := by
  obtain ⟨hk, rfl⟩ := List.getElem?_eq_some_iff.1 h
  rw [List.take_succ_eq_append_getElem hk, wrL_append, wrL, wrL]

theorem addS_false (s : List UInt8) (l : List UInt8) : addS (l, false) s = (l, false) := by unfold addS; rw [if_neg (by simp)]
theorem addS_yes {l s : List UInt8} (h : l.length + s.length ≤ 131072) : addS (l, true) s = (l ++ s, true) := by unfold addS; rw [if_pos ⟨rfl, h⟩]
theorem addS_no {l s : List UInt8} (h : 131072 < l.length + s.length) : addS (l, true) s = (l, false) := by unfold addS; rw [if_neg (fun h' => by have := h'.2; simp only at this; omega)]
mutual
theorem wrT_false : ∀ (t : Tree) (l : List UInt8), wrT t (l, false) = (l, false)
  | .num n, l => by rw [wrT, addS_false, addS_false, addS_false]
  | .text bs, l => by rw [wrT, addS_false, addS_false, addS_false]
  | .list ts, l => by rw [wrT, addS_false, wrL_false ts, addS_false]
theorem wrL_false : ∀ (ts : List Tree) (l : List UInt8), wrL ts (l, false) = (l, false)
  | [], l => by rw [wrL]
  | t :: ts, l => by rw [wrL, wrT_false t, wrL_false ts]
end
theorem add3 {l a b c : List UInt8} : (l.length + (a ++ (b ++ c)).length ≤ 131072 → addS (addS (addS (l, true) a) b) c = (l ++ (a ++ (b ++ c)), true)) ∧ (131072 < l.length + (a ++ (b ++ c)).length → ∃ l', addS (addS (addS (l, true) a) b) c = (l', false)) := by
  simp only [List.length_append]
  refine ⟨fun h => ?_, fun h => ?_⟩
  · rw [addS_yes (by omega), addS_yes (by rw [List.length_append]; omega), addS_yes (by rw [List.length_append, List.length_append]; omega)]
    simp
  · by_cases h1 : l.length + a.length ≤ 131072
    · rw [addS_yes h1]
      by_cases h2 : (l ++ a).length + b.length ≤ 131072
      · rw [addS_yes h2, addS_no (by rw [List.length_append, List.length_append]; omega)]
        exact ⟨_, rfl⟩
      · rw [addS_no (by omega), addS_false]; exact ⟨_, rfl⟩
    · rw [addS_no (by omega), addS_false, addS_false]; exact ⟨_, rfl⟩
mutual
theorem wrT_true : ∀ (t : Tree) (l : List UInt8), l.length ≤ 131072 → (l.length + (enc t).length ≤ 131072 → wrT t (l, true) = (l ++ enc t, true)) ∧ (131072 < l.length + (enc t).length → ∃ l', wrT t (l, true) = (l', false))
  | .num n, l, _ => by rw [enc, wrT]; exact add3 (a := [105]) (b := Lib.itoa n) (c := [101])
  | .text bs, l, _ => by rw [enc, wrT]; exact add3 (a := Lib.itoa bs.length) (b := [58]) (c := bs)
  | .list ts, l, hl => by
    rw [enc, wrT]
    simp only [List.length_cons, List.length_append, List.length_nil]
    refine ⟨fun h => ?_, fun h => ?_⟩
    · rw [addS_yes (by simp only [List.length_cons, List.length_nil]; omega), (wrL_true ts (l ++ [108]) (by simp only [List.length_append, List.length_cons, List.length_nil]; omega)).1 (by simp only [List.length_append, List.length_cons, List.length_nil]; omega), addS_yes (by simp only [List.length_append, List.length_cons, List.length_nil]; omega)]
      simp
    · by_cases h1 : l.length + 1 ≤ 131072
      · rw [addS_yes (by simp only [List.length_cons, List.length_nil]; omega)]
        by_cases h2 : (l ++ [108]).length + (encL ts).length ≤ 131072
        · rw [(wrL_true ts (l ++ [108]) (by simp only [List.length_append, List.length_cons, List.length_nil]; omega)).1 h2, addS_no (by simp only [List.length_append, List.length_cons, List.length_nil] at h2 ⊢; omega)]
          exact ⟨_, rfl⟩
        · obtain ⟨l', hl'⟩ := (wrL_true ts (l ++ [108]) (by simp only [List.length_append, List.length_cons, List.length_nil]; omega)).2 (by omega)
          rw [hl', addS_false]; exact ⟨_, rfl⟩
      · rw [addS_no (by simp only [List.length_cons, List.length_nil]; omega), wrL_false, addS_false]; exact ⟨_, rfl⟩
theorem wrL_true : ∀ (ts : List Tree) (l : List UInt8), l.length ≤ 131072 → (l.length + (encL ts).length ≤ 131072 → wrL ts (l, true) = (l ++ encL ts, true)) ∧ (131072 < l.length + (encL ts).length → ∃ l', wrL ts (l, true) = (l', false))
  | [], l, hl => by
    rw [encL, wrL]
    exact ⟨fun _ => by simp, fun h => absurd h (by simp only [List.length_nil]; omega)⟩
  | t :: ts, l, hl => by
    rw [encL, wrL, List.length_append]
    refine ⟨fun h => ?_, fun h => ?_⟩
    · rw [(wrT_true t l hl).1 (by omega), (wrL_true ts (l ++ enc t) (by rw [List.length_append]; omega)).1 (by rw [List.length_append]; omega), List.append_assoc]
    · by_cases h1 : l.length + (enc t).length ≤ 131072
      · rw [(wrT_true t l hl).1 h1]
        exact (wrL_true ts (l ++ enc t) (by rw [List.length_append]; omega)).2 (by rw [List.length_append]; omega)
      · obtain ⟨l', hl'⟩ := (wrT_true t l hl).2 (by omega)
        rw [hl', wrL_false]; exact ⟨_, rfl⟩
end

structure WEnvS (B b fb ab wb : Nat) (w : World) : Prop where
  add : w.heap[ab]? = some (.cells #[addFn fb b] 89 (0, 0))
  wr : w.heap[wb]? = some (.cells #[writeFn ab wb] 90 (0, 0))
  tab : Lib.TabBelow Tryz.prog B w "internal/strconv.uint64pow10" .u64 Lib.pow10Tab
  hB : B ≤ w.heap.size
  hfb : B ≤ fb

section
variable {B b fb ab wb : Nat} {w w' : World} {st st' : St}
theorem WEnvS.kept (h : WEnvS B b fb ab wb w) (hb : Below B w w') (ho : Oth w w') : WEnvS B b fb ab wb w' :=
  ⟨ho _ _ _ _ h.add (by decide) (by decide) (by decide), ho _ _ _ _ h.wr (by decide) (by decide) (by decide), fun w'' hb'' => h.tab w'' (hb.trans hb''), Nat.le_trans h.hB hb.size, h.hfb⟩
theorem WEnvS.after (h : WEnvS B b fb ab wb w) (hw : WroteS B b fb st' w w') : WEnvS B b fb ab wb w' := h.kept hw.below hw.oth
theorem WEnvS.below (h : WEnvS B b fb ab wb w) (hb : Below w.heap.size w w') : WEnvS B b fb ab wb w' := h.kept (hb.mono h.hB) (Oth.of_below hb)
theorem WEnvS.alloc (h : WEnvS B b fb ab wb w) (o : Obj) : WEnvS B b fb ab wb (w.alloc o) := h.below (below1 w o)
/-- A text added. -/
theorem addS_wrote (env : WEnvS B b fb ab wb w) (hh : HoldS B b fb st w) (s : ByteArray) (hs : s.size ≤ 140737488351232) :
    Calls Tryz.prog 59 #[.string s, .pointer (some ⟨fb, 0, none⟩), .pointer (some ⟨b, 0, none⟩)] w fun e w' => e = .returned (.tuple #[]) ∧ WroteS B b fb (addS st s.data.toList) w w' := addS_any B b fb st s w hh env.hB env.hfb hs
end

set_option maxHeartbeats 1600000 in
set_option maxRecDepth 100000 in
theorem writeS_num {B b fb ab wb : Nat} {w : World} {st : St} (env : WEnvS B b fb ab wb w) (hh : HoldS B b fb st w) (n : Int) (h0 : -9223372036854775808 ≤ n) (h1 : n ≤ 9223372036854775807) :
    Calls Tryz.prog 62 #[numV n, .pointer (some ⟨ab, 0, none⟩), .pointer (some ⟨wb, 0, none⟩)] w fun e w' => e = .returned (.tuple #[]) ∧ WroteS B b fb (wrT (.num n) st) w w' := by
  rw [wrT]
  have hla := lt_of_heap env.add
  have hlw := lt_of_heap env.wr
  have hca := cell_of_heap env.add
  have hil := Lib.itoa_length_le n h0 h1
  have HE := Lib.hid (env.alloc (.cells #[.int .i64 1, .int .i64 n, .string ⟨#[]⟩, .slice none 0 0] 60))
  have HH := Lib.hid (hh.alloc (.cells #[.int .i64 1, .int .i64 n, .string ⟨#[]⟩, .slice none 0 0] 60))
  have HB := Lib.hid env.hB
  clear env hh
  go_enter Tryz.func62, Tryz.ntmps62
  go_wp2_with fail
  have hW0 : (w.alloc (.cells #[.int .i64 1, .int .i64 n, .string ⟨#[]⟩, .slice none 0 0] 60)).heap[w.heap.size]? = some (.cells #[.int .i64 1, .int .i64 n, .string ⟨#[]⟩, .slice none 0 0] 60 (0, 0)) := heap_alloc_new _ _
  refine (addS_wrote HE.out HH.out ⟨#[105]⟩ (by decide)).mono ?_
  rintro e w1 ⟨rfl, hw1⟩
  have env1 := HE.out.after hw1
  have hb1 := hw1.oth _ _ _ _ hW0 (by decide) (by decide) (by decide)
  have hca1 := cell_of_heap env1.add
  have hcn1 : w1.cell? ⟨w.heap.size, 1, none⟩ = some (.int .i64 n) := by simp [World.cell?, hb1]
  have E1 := Lib.hid env1
  have H1 := Lib.hid hw1
  have B1 := Lib.hid hb1
  have HF : Hid (Calls Tryz.prog 63 #[.int .i64 n, .int .i64 10] w1.drew fun e w' => e = .returned (.string ⟨(Lib.itoa n).toArray⟩) ∧ w'.cell? ⟨ab, 0, none⟩ = some (addFn fb b) ∧ w'.cell? ⟨w.heap.size, 1, none⟩ = some (.int .i64 n) ∧ Below w1.heap.size w1 w') :=
    Lib.hid ((fmt_any n h0 h1 B w1.drew env1.hB (tab_drew env1.tab)).mono fun _ w' ⟨he, hb⟩ => ⟨he, (World.cell?_of_block (hb.block ab (lt_of_heap env1.add))).trans hca1, (World.cell?_of_block (hb.block w.heap.size (lt_of_heap hb1))).trans hcn1, below_undrew hb⟩)
  have HA : Hid (∀ w2, Below w1.heap.size w1 w2 → Calls Tryz.prog 59 #[.string ⟨(Lib.itoa n).toArray⟩, .pointer (some ⟨fb, 0, none⟩), .pointer (some ⟨b, 0, none⟩)] w2 fun e w' => e = .returned (.tuple #[]) ∧ w'.cell? ⟨ab, 0, none⟩ = some (addFn fb b) ∧ w'.cell? ⟨w.heap.size, 1, none⟩ = some (.int .i64 n) ∧ WroteS B b fb (addS (addS st [105]) (Lib.itoa n)) w1 w' ∧ WEnvS B b fb ab wb w') :=
    Lib.hid (fun w2 hb2 => by
      have e2 := env1.below hb2
      have h2 := hw1.holds.below hb2
      refine (addS_wrote e2 h2 ⟨(Lib.itoa n).toArray⟩ (by show (Lib.itoa n).toArray.size ≤ _; rw [List.size_toArray]; omega)).mono fun _ w' ⟨he, hw⟩ => ?_
      have e3 := e2.after hw
      have hb3 := hw.oth _ _ _ _ ((hb2.block _ (lt_of_heap hb1)).trans hb1) (by decide) (by decide) (by decide)
      exact ⟨he, cell_of_heap e3.add, by simp [World.cell?, hb3], WroteS.ahead hb2 env1.hB hw, e3⟩)
  clear env1 hw1 hb1 hW0
  go_wp2
  go_region_held3 (fun w' => w'.cell? ⟨ab, 0, none⟩ = some (addFn fb b) ∧ w'.cell? ⟨w.heap.size, 1, none⟩ = some (.int .i64 n)) (first | go_keep | (constructor <;> assumption))
    (first | (go_at_call 63; refine HF.out.mono ?_; rintro e w2 ⟨rfl, hA2, hN2, hb2⟩) | (go_at_call 59; refine (HA.out _ (by assumption)).mono ?_; rintro e w3 ⟨rfl, hA3, hN3, hw3, he3⟩))
  have H3 := Lib.hid hw3
  have E3 := Lib.hid he3
  clear hw3 he3
  go_wp2_with fail
  refine (addS_wrote E3.out H3.out.holds ⟨#[101]⟩ (by decide)).mono ?_
  rintro e w4 ⟨rfl, hw4⟩
  have hend : Hid (WroteS B b fb (addS (addS (addS st [105]) (Lib.itoa n)) [101]) w w4) := Lib.hid (WroteS.ahead (below1 w _) HB.out ((H1.out.trans H3.out).trans hw4))
  clear hw4
  go_wp2
  go_end0
  exact ⟨rfl, hend.out⟩

set_option maxHeartbeats 1600000 in
set_option maxRecDepth 100000 in
theorem writeS_text {B b fb ab wb : Nat} {w : World} {st : St} (env : WEnvS B b fb ab wb w) (hh : HoldS B b fb st w) (bb : ByteArray) (hbb : bb.size ≤ 140737488351232) :
    Calls Tryz.prog 62 #[textV bb, .pointer (some ⟨ab, 0, none⟩), .pointer (some ⟨wb, 0, none⟩)] w fun e w' => e = .returned (.tuple #[]) ∧ WroteS B b fb (addS (addS (addS st (Lib.itoa bb.size)) [58]) bb.data.toList) w w' := by
  have hla := lt_of_heap env.add
  have hca := cell_of_heap env.add
  have hil := Lib.itoa_length_le (bb.size : Int) (by omega) (by omega)
  have env0 := env.alloc (.cells #[.int .i64 2, .int .i64 0, .string bb, .slice none 0 0] 60)
  have hh0 := hh.alloc (.cells #[.int .i64 2, .int .i64 0, .string bb, .slice none 0 0] 60)
  have hb0 : (w.alloc (.cells #[.int .i64 2, .int .i64 0, .string bb, .slice none 0 0] 60)).heap[w.heap.size]? = some (.cells #[.int .i64 2, .int .i64 0, .string bb, .slice none 0 0] 60 (0, 0)) := heap_alloc_new _ _
  have HBL : Hid (Below w.heap.size w (w.alloc (.cells #[.int .i64 2, .int .i64 0, .string bb, .slice none 0 0] 60))) := Lib.hid (below1 w _)
  have HB := Lib.hid env.hB
  go_enter Tryz.func62, Tryz.ntmps62
  go_wp2
  generalize hw0 : w.alloc (.cells #[.int .i64 2, .int .i64 0, .string bb, .slice none 0 0] 60) = w0 at *
  clear hw0 hca
  have hca0 := cell_of_heap env0.add
  have hcs0 : w0.cell? ⟨w.heap.size, 2, none⟩ = some (.string bb) := by simp [World.cell?, hb0]
  have HF : Hid (Calls Tryz.prog 64 #[.int .i64 bb.size] w0.drew fun e w' => e = .returned (.string ⟨(Lib.itoa bb.size).toArray⟩) ∧ w'.cell? ⟨ab, 0, none⟩ = some (addFn fb b) ∧ w'.cell? ⟨w.heap.size, 2, none⟩ = some (.string bb) ∧ Below w0.heap.size w0 w') :=
    Lib.hid ((itoa_any bb.size (by omega) (by omega) B w0.drew env0.hB (tab_drew env0.tab)).mono fun _ w' ⟨he, hb⟩ => ⟨he, (World.cell?_of_block (hb.block ab (lt_of_heap env0.add))).trans hca0, (World.cell?_of_block (hb.block w.heap.size (lt_of_heap hb0))).trans hcs0, below_undrew hb⟩)
  have HA : Hid (∀ w2, Below w0.heap.size w0 w2 → Calls Tryz.prog 59 #[.string ⟨(Lib.itoa bb.size).toArray⟩, .pointer (some ⟨fb, 0, none⟩), .pointer (some ⟨b, 0, none⟩)] w2 fun e w' => e = .returned (.tuple #[]) ∧ w'.cell? ⟨ab, 0, none⟩ = some (addFn fb b) ∧ w'.cell? ⟨w.heap.size, 2, none⟩ = some (.string bb) ∧ WroteS B b fb (addS st (Lib.itoa bb.size)) w0 w' ∧ WEnvS B b fb ab wb w' ∧ w'.heap[w.heap.size]? = some (.cells #[.int .i64 2, .int .i64 0, .string bb, .slice none 0 0] 60 (0, 0))) :=
    Lib.hid (fun w2 hb2 => by
      have e2 := env0.below hb2
      have h2 := hh0.below hb2
      refine (addS_wrote e2 h2 ⟨(Lib.itoa bb.size).toArray⟩ (by show (Lib.itoa bb.size).toArray.size ≤ _; rw [List.size_toArray]; omega)).mono fun _ w' ⟨he, hw⟩ => ?_
      have e3 := e2.after hw
      have hb3 := hw.oth _ _ _ _ ((hb2.block _ (lt_of_heap hb0)).trans hb0) (by decide) (by decide) (by decide)
      exact ⟨he, cell_of_heap e3.add, by simp [World.cell?, hb3], WroteS.ahead hb2 env0.hB hw, e3, hb3⟩)
  clear env0 hh0 hb0 env hh
  go_region_held3 (fun w' => w'.cell? ⟨ab, 0, none⟩ = some (addFn fb b) ∧ w'.cell? ⟨w.heap.size, 2, none⟩ = some (.string bb)) (first | go_keep | (constructor <;> assumption))
    (first | (go_at_call 64; refine HF.out.mono ?_; rintro e w2 ⟨rfl, hA2, hN2, hb2⟩) | (go_at_call 59; refine (HA.out _ (by assumption)).mono ?_; rintro e w3 ⟨rfl, hA3, hN3, hw3, he3, hb3⟩))
  have H3 := Lib.hid hw3
  have E3 := Lib.hid he3
  have B3 := Lib.hid hb3
  clear hw3 he3 hb3
  go_wp2_with fail
  refine (addS_wrote E3.out H3.out.holds ⟨#[58]⟩ (by decide)).mono ?_
  rintro e w4 ⟨rfl, hw4⟩
  have e4 := E3.out.after hw4
  have hb4 := hw4.oth _ _ _ _ B3.out (by decide) (by decide) (by decide)
  have hca4 := cell_of_heap e4.add
  have hcs4 : w4.cell? ⟨w.heap.size, 2, none⟩ = some (.string bb) := by simp [World.cell?, hb4]
  have E4 := Lib.hid e4
  have H4 := Lib.hid hw4
  clear e4 hb4 hw4
  go_wp2_with fail
  refine (addS_wrote E4.out H4.out.holds bb hbb).mono ?_
  rintro e w5 ⟨rfl, hw5⟩
  have hend : Hid (WroteS B b fb (addS (addS (addS st (Lib.itoa bb.size)) [58]) bb.data.toList) w w5) := Lib.hid (WroteS.ahead HBL.out HB.out ((H3.out.trans H4.out).trans hw5))
  clear hw5
  go_wp2
  go_end0
  exact ⟨rfl, hend.out⟩
end Go.Proofs.YtdnedbcmgkilaaaGreatDoor.Co

end

/- Package code's Right and Put, at a value that a reading made. -/
section

namespace Go.Proofs.YtdnedbcmgkilaaaGreatDoor.Co
open Go.RowKit

theorem Fr.to_below {X : Nat → Prop} {B : Nat} {w W w1 : World} (hW : Below B w W) (hB : B ≤ W.heap.size) (hf : Fr X W w1) (hX : ∀ k, k < B → ¬ X k) : Below B w w1 :=
  hW.trans ⟨hf.os, hf.tape, hf.output, hf.size, fun k hk => hf.block k (by omega) (hX k hk)⟩

theorem new_at {w : World} {o : Obj} {k : Nat} (h : k = w.heap.size) : (w.alloc o).heap[k]? = some o := by subst h; exact heap_alloc_new _ _
theorem old_at {w : World} {o x : Obj} {k : Nat} (h : k < w.heap.size) (hx : w.heap[k]? = some x) : (w.alloc o).heap[k]? = some x := (Below.heap_alloc _ _ _ h).trans hx

theorem five_get (w : World) (o0 o1 o2 o3 o4 : Obj) :
    (((((w.alloc o0).alloc o1).alloc o2).alloc o3).alloc o4).heap[w.heap.size]? = some o0 ∧ (((((w.alloc o0).alloc o1).alloc o2).alloc o3).alloc o4).heap[w.heap.size + 1]? = some o1 ∧ (((((w.alloc o0).alloc o1).alloc o2).alloc o3).alloc o4).heap[w.heap.size + 1 + 1]? = some o2 ∧
    (((((w.alloc o0).alloc o1).alloc o2).alloc o3).alloc o4).heap[w.heap.size + 1 + 1 + 1]? = some o3 ∧ (((((w.alloc o0).alloc o1).alloc o2).alloc o3).alloc o4).heap[w.heap.size + 1 + 1 + 1 + 1]? = some o4 := by
  exact ⟨(old_at (by simp only [World.size_alloc]; omega) (old_at (by simp only [World.size_alloc]; omega) (old_at (by simp only [World.size_alloc]; omega) (old_at (by simp only [World.size_alloc]; omega) (new_at rfl))))), (old_at (by simp only [World.size_alloc]; omega) (old_at (by simp only [World.size_alloc]; omega) (old_at (by simp only [World.size_alloc]; omega) (new_at (by first | rfl | simp only [World.size_alloc]))))), (old_at (by simp only [World.size_alloc]; omega) (old_at (by simp only [World.size_alloc]; omega) (new_at (by first | rfl | simp only [World.size_alloc])))), (old_at (by simp only [World.size_alloc]; omega) (new_at (by first | rfl | simp only [World.size_alloc]))), (new_at (by first | rfl | simp only [World.size_alloc]))⟩
theorem four_get (w : World) (o0 o1 o2 o3 : Obj) :
    ((((w.alloc o0).alloc o1).alloc o2).alloc o3).heap[w.heap.size]? = some o0 ∧ ((((w.alloc o0).alloc o1).alloc o2).alloc o3).heap[w.heap.size + 1]? = some o1 ∧ ((((w.alloc o0).alloc o1).alloc o2).alloc o3).heap[w.heap.size + 1 + 1]? = some o2 ∧
    ((((w.alloc o0).alloc o1).alloc o2).alloc o3).heap[w.heap.size + 1 + 1 + 1]? = some o3 := by
  exact ⟨(old_at (by simp only [World.size_alloc]; omega) (old_at (by simp only [World.size_alloc]; omega) (old_at (by simp only [World.size_alloc]; omega) (new_at (by first | rfl | simp only [World.size_alloc]))))), (old_at (by simp only [World.size_alloc]; omega) (old_at (by simp only [World.size_alloc]; omega) (new_at (by first | rfl | simp only [World.size_alloc])))), (old_at (by simp only [World.size_alloc]; omega) (new_at (by first | rfl | simp only [World.size_alloc]))), (new_at (by first | rfl | simp only [World.size_alloc]))⟩
theorem four_below (w : World) (o0 o1 o2 o3 : Obj) : Below w.heap.size w ((((w.alloc o0).alloc o1).alloc o2).alloc o3) :=
  (((below1 _ _).alloc (by simp) _).alloc (by simp; omega) _).alloc (by simp; omega) _
theorem five_below (w : World) (o0 o1 o2 o3 o4 : Obj) : Below w.heap.size w (((((w.alloc o0).alloc o1).alloc o2).alloc o3).alloc o4) :=
  ((((below1 _ _).alloc (by simp) _).alloc (by simp; omega) _).alloc (by simp; omega) _).alloc (by simp; omega) _

set_option maxHeartbeats 1600000 in
set_option maxRecDepth 100000 in
theorem right_any {t : Tree} {v : Value} {w : World} (hrep : Rep w (S24 w) t v) (hlev : Lev 1 t) (hn : nodes t ≤ 4000) :
    Calls Tryz.prog 58 #[v] w fun e w' => e = .returned (.int .i64 0) ∧ Below w.heap.size w w' := by
  have hmf : ∀ (fn : Fn) (first cap : Array Value) (w : World), (Instr.makeFunc fn first cap).run Tryz.prog w = .ok (.func fn first cap) w := fun _ _ _ _ => rfl
  obtain ⟨kd, n0, b0, a, len, cap, rfl⟩ := Rep.cells t v hrep
  have hd30 := vDeep_le t 0 1 hlev (by omega)
  have HV : Hid (∀ W, VEnv (w.heap.size + 1) (w.heap.size + 1 + 1) (w.heap.size + 1 + 1 + 1) (w.heap.size + 1 + 1 + 1 + 1) 0 0 W → K24 w W → Calls Tryz.prog 96 #[.agg #[.int .i64 kd, .int .i64 n0, .string b0, .slice a len cap], .int .i64 1, .pointer (some ⟨w.heap.size + 1, 0, none⟩), .pointer (some ⟨w.heap.size + 1 + 1, 0, none⟩), .pointer (some ⟨w.heap.size + 1 + 1 + 1, 0, none⟩), .pointer (some ⟨w.heap.size + 1 + 1 + 1 + 1, 0, none⟩)] W fun e w' =>
      e = .returned (.tuple #[]) ∧ VEnv (w.heap.size + 1) (w.heap.size + 1 + 1) (w.heap.size + 1 + 1 + 1) (w.heap.size + 1 + 1 + 1 + 1) (0 + nodes t) (vDeep 0 1 t) w' ∧ Fr (fun k => k = w.heap.size + 1 ∨ k = w.heap.size + 1 + 1) W w') :=
    Lib.hid (fun W hE hK => visit_ok t _ _ _ _ 0 0 1 W _ hE (hrep.k24 hK) hlev (by omega) (by omega))
  clear hrep hlev
  go_enter Tryz.func58, Tryz.ntmps58
  go_wp2_with fail
  obtain ⟨g0, g1, g2, g3, g4⟩ := five_get w (.cells #[.int .i64 kd, .int .i64 n0, .string b0, .slice a len cap] 60) (.cells #[.int .i64 0] 3) (.cells #[.int .i64 0] 3) (.cells #[.bool true] 4) (.cells #[visitFn (w.heap.size + 1) (w.heap.size + 1 + 1) (w.heap.size + 1 + 1 + 1) (w.heap.size + 1 + 1 + 1 + 1)] 128)
  have hbl := five_below w (.cells #[.int .i64 kd, .int .i64 n0, .string b0, .slice a len cap] 60) (.cells #[.int .i64 0] 3) (.cells #[.int .i64 0] 3) (.cells #[.bool true] 4) (.cells #[visitFn (w.heap.size + 1) (w.heap.size + 1 + 1) (w.heap.size + 1 + 1 + 1) (w.heap.size + 1 + 1 + 1 + 1)] 128)
  generalize (((((w.alloc (.cells #[.int .i64 kd, .int .i64 n0, .string b0, .slice a len cap] 60)).alloc (.cells #[.int .i64 0] 3)).alloc (.cells #[.int .i64 0] 3)).alloc (.cells #[.bool true] 4)).alloc (.cells #[visitFn (w.heap.size + 1) (w.heap.size + 1 + 1) (w.heap.size + 1 + 1 + 1) (w.heap.size + 1 + 1 + 1 + 1)] 128)) = W at g0 g1 g2 g3 g4 hbl ⊢
  refine Calls.mono (HV.out W ⟨g1, g2, g3, g4, by omega⟩ (fun g cur e => (hbl.block g (lt_of_heap e)).trans e)) ?_
  rintro e w1 ⟨rfl, hE, hF⟩
  have hcc := cell_of_heap hE.cnt
  have hcd := cell_of_heap hE.dep
  have hcf := cell_of_heap hE.frm
  have hB : Hid (Below w.heap.size w w1) := Lib.hid (Fr.to_below hbl hbl.size hF (fun k hk => by omega))
  rw [Nat.zero_add] at hcc
  generalize nodes t = N at *
  generalize vDeep 0 1 t = D at *
  clear hE hF HV hbl g0 g1 g2 g3 g4 hmf
  go_wp2
  go_ret
  exact ⟨rfl, hB.out⟩

/-- Put, at a value that a reading made: its bytes. -/
def PutOK (t : Tree) (v : Value) (w : World) : Prop :=
  Calls Tryz.prog 36 #[v] w fun e w' => e = .returned (.tuple #[.string ⟨(enc t).toArray⟩, .int .i64 0]) ∧ Below w.heap.size w w'

set_option maxHeartbeats 1600000 in
set_option maxRecDepth 100000 in
theorem put_any {t : Tree} {v : Value} {w : World} (hrep : Rep w (S24 w) t v) (hok : Ok t) (hlev : Lev 1 t) (hn : nodes t ≤ 4000) (hlen : (enc t).length ≤ 131072)
    (htab : Lib.TabIs Tryz.prog w "internal/strconv.uint64pow10" .u64 Lib.pow10Tab) : PutOK t v w := by
  unfold PutOK
  have hmf : ∀ (fn : Fn) (first cap : Array Value) (w : World), (Instr.makeFunc fn first cap).run Tryz.prog w = .ok (.func fn first cap) w := fun _ _ _ _ => rfl
  obtain ⟨kd, n0, b0, a, len, cap, rfl⟩ := Rep.cells t v hrep
  have HR : Hid (∀ W, K24 w W → Calls Tryz.prog 58 #[.agg #[.int .i64 kd, .int .i64 n0, .string b0, .slice a len cap]] W fun e w' => e = .returned (.int .i64 0) ∧ Below W.heap.size W w') :=
    Lib.hid (fun W hK => right_any (hrep.k24 hK) hlev hn)
  have HW : Hid (∀ (B b fb ab wb : Nat) (W : World), K24 w W → WEnv B b fb ab wb W → Holds B b [] W → Calls Tryz.prog 62 #[.agg #[.int .i64 kd, .int .i64 n0, .string b0, .slice a len cap], .pointer (some ⟨ab, 0, none⟩), .pointer (some ⟨wb, 0, none⟩)] W fun e w' => e = .returned (.tuple #[]) ∧ Wrote B b (enc t) W w') :=
    Lib.hid (fun B b fb ab wb W hK hE hH => write_ok t hok B b fb ab wb W [] _ hE hH (hrep.k24 hK) (by simpa using hlen))
  have HT := Lib.hid htab
  clear hrep hlev hok htab
  go_enter Tryz.func36, Tryz.ntmps36
  go_wp2_with fail
  refine (HR.out _ ((K24.refl _).alloc _)).mono ?_
  rintro e w1 ⟨rfl, hb1⟩
  have hbox : w1.heap[w.heap.size]? = some (.cells #[.int .i64 kd, .int .i64 n0, .string b0, .slice a len cap] 60 (0, 0)) := (hb1.block _ (by simp)).trans (heap_alloc_new _ _)
  have hbw : Below w.heap.size w w1 := (below1 w _).trans (hb1.mono (by simp))
  have hc0 : w1.cell? ⟨w.heap.size, 0, none⟩ = some (.int .i64 kd) := by simp [World.cell?, hbox]
  have hc1 : w1.cell? ⟨w.heap.size, 1, none⟩ = some (.int .i64 n0) := by simp [World.cell?, hbox]
  have hc2 : w1.cell? ⟨w.heap.size, 2, none⟩ = some (.string b0) := by simp [World.cell?, hbox]
  have hc3 : w1.cell? ⟨w.heap.size, 3, none⟩ = some (.slice a len cap) := by simp [World.cell?, hbox]
  have hlt := lt_of_heap hbox
  have hlt1 : w.heap.size < w1.heap.size + 1 := by omega
  have hlt2 : w.heap.size < w1.heap.size + 1 + 1 := by omega
  have hlt3 : w.heap.size < w1.heap.size + 1 + 1 + 1 := by omega
  have HB := Lib.hid hbw
  clear hb1 hbw hbox
  go_wp2_with fail
  obtain ⟨g0, g1, g2, g3⟩ := four_get w1 (.cells #[.pointer none, .slice none 0 0] 83) (.cells #[.bool true] 4) (.cells #[addFn (w1.heap.size + 1) w1.heap.size] 89) (.cells #[writeFn (w1.heap.size + 1 + 1) (w1.heap.size + 1 + 1 + 1)] 90)
  have hbl := four_below w1 (.cells #[.pointer none, .slice none 0 0] 83) (.cells #[.bool true] 4) (.cells #[addFn (w1.heap.size + 1) w1.heap.size] 89) (.cells #[writeFn (w1.heap.size + 1 + 1) (w1.heap.size + 1 + 1 + 1)] 90)
  have hH : Holds w1.heap.size w1.heap.size [] ((((w1.alloc (.cells #[.pointer none, .slice none 0 0] 83)).alloc (.cells #[.bool true] 4)).alloc (.cells #[addFn (w1.heap.size + 1) w1.heap.size] 89)).alloc (.cells #[writeFn (w1.heap.size + 1 + 1) (w1.heap.size + 1 + 1 + 1)] 90)) :=
    Lib.IsBuilderF.alloc (Lib.IsBuilderF.alloc (Lib.IsBuilderF.alloc (Lib.IsBuilderF.of (Lib.fresh_isBuilder 83 5 w1)) _) _) _
  generalize ((((w1.alloc (.cells #[.pointer none, .slice none 0 0] 83)).alloc (.cells #[.bool true] 4)).alloc (.cells #[addFn (w1.heap.size + 1) w1.heap.size] 89)).alloc (.cells #[writeFn (w1.heap.size + 1 + 1) (w1.heap.size + 1 + 1 + 1)] 90)) = W at g0 g1 g2 g3 hbl hH ⊢
  have htab : Lib.TabBelow Tryz.prog w1.heap.size W "internal/strconv.uint64pow10" .u64 Lib.pow10Tab := fun w' hb => Lib.tabBelow_of_tabIs HT.out w' ((HB.out.trans (hbl.mono HB.out.size)).trans (hb.mono HB.out.size))
  have hE : WEnv w1.heap.size w1.heap.size (w1.heap.size + 1) (w1.heap.size + 1 + 1) (w1.heap.size + 1 + 1 + 1) W := ⟨g1, g2, g3, htab, hbl.size⟩
  refine Calls.mono (HW.out w1.heap.size w1.heap.size (w1.heap.size + 1) (w1.heap.size + 1 + 1) (w1.heap.size + 1 + 1 + 1) W (fun g cur e => (hbl.block g (by have := lt_of_heap e; have := HB.out.size; omega)).trans ((HB.out.block g (lt_of_heap e)).trans e)) hE hH) ?_
  rintro e w2 ⟨rfl, hw2⟩
  have env2 := hE.after hH hw2
  have hcf := cell_of_heap env2.fits
  have HS := Lib.hid (Tryz.Builder_String_any_k w1.heap.size w1.heap.size (enc t) w2 hw2.holds (by have := hw2.below.size; have := hbl.size; omega))
  have HE : Hid (Below w.heap.size w w2) := Lib.hid ((HB.out.trans (hbl.mono HB.out.size)).trans (hw2.below.mono HB.out.size))
  have HZ := Lib.hid HB.out.size
  clear hE hH hw2 env2 htab g0 g1 g2 g3 hbl hmf hc0 hc1 hc2 hc3 HW HR
  go_wp2_with fail
  refine HS.out.mono ?_
  rintro e w3 ⟨rfl, -, hb3, -⟩
  have hend : Hid (Below w.heap.size w w3) := Lib.hid (HE.out.trans (hb3.mono HZ.out))
  clear hb3
  go_wp2
  go_ret2
  exact ⟨rfl, hend.out⟩

end Go.Proofs.YtdnedbcmgkilaaaGreatDoor.Co

end

/- Package code's Put: the closure that writes a value, at a list, and so at every value; Put's answer, whether the bytes fit or not. -/
section

namespace Go.Proofs.YtdnedbcmgkilaaaGreatDoor.Co
open Go.RowKit

mutual
/-- Its texts are such as can be. -/
def Tx : Tree → Prop
  | .num _ => True
  | .text bs => bs.length ≤ 140737488351232
  | .list ts => TxL ts
def TxL : List Tree → Prop
  | [] => True
  | t :: ts => Tx t ∧ TxL ts
end
def WriteSOK (t : Tree) : Prop := ∀ (B b fb ab wb : Nat) (w : World) (st : St) (v : Value), WEnvS B b fb ab wb w → HoldS B b fb st w → Rep w (S24 w) t v →
  Calls Tryz.prog 62 #[v, .pointer (some ⟨ab, 0, none⟩), .pointer (some ⟨wb, 0, none⟩)] w fun e w' => e = .returned (.tuple #[]) ∧ WroteS B b fb (wrT t st) w w'

set_option maxHeartbeats 1600000 in
set_option maxRecDepth 100000 in
theorem writeS_list {ts : List Tree} (hts : ∀ t, t ∈ ts → WriteSOK t) (hlenb : ts.length ≤ 4000) : WriteSOK (.list ts) := by
  intro B b fb ab wb w st v env hh hrep
  rw [wrT]
  rw [Rep] at hrep
  obtain ⟨L, xs, rfl, hown, -, hall⟩ := hrep
  obtain ⟨a, n, cap, rfl, hn⟩ : ∃ a n cap, L = .slice a n cap ∧ n = ts.length := by
    rcases hown.2 with ⟨rfl, h0⟩ | ⟨g, cap, cur, rfl, -⟩
    · exact ⟨_, _, _, rfl, h0.symm⟩
    · exact ⟨_, _, _, rfl, rfl⟩
  subst hn
  have hla := lt_of_heap env.add
  have hca := cell_of_heap env.add
  have env0 := env.alloc (.cells #[.int .i64 3, .int .i64 0, .string ⟨#[]⟩, .slice a ts.length cap] 60)
  have hh0 := hh.alloc (.cells #[.int .i64 3, .int .i64 0, .string ⟨#[]⟩, .slice a ts.length cap] 60)
  have hb0 : (w.alloc (.cells #[.int .i64 3, .int .i64 0, .string ⟨#[]⟩, .slice a ts.length cap] 60)).heap[w.heap.size]? = some (.cells #[.int .i64 3, .int .i64 0, .string ⟨#[]⟩, .slice a ts.length cap] 60 (0, 0)) := heap_alloc_new _ _
  have HBL : Hid (Below w.heap.size w (w.alloc (.cells #[.int .i64 3, .int .i64 0, .string ⟨#[]⟩, .slice a ts.length cap] 60))) := Lib.hid (below1 w _)
  have HT := Lib.hid hts
  have HW := Lib.hid hown
  have HA := Lib.hid hall
  have HB := Lib.hid env.hB
  clear hts hown hall hh env
  go_enter Tryz.func62, Tryz.ntmps62
  go_wp2_with fail
  generalize hw0 : w.alloc (.cells #[.int .i64 3, .int .i64 0, .string ⟨#[]⟩, .slice a ts.length cap] 60) = w0 at *
  clear hw0 hca
  refine (addS_wrote env0 hh0 ⟨#[108]⟩ (by decide)).mono ?_
  rintro e w1 ⟨rfl, hw1⟩
  have env1 := env0.after hw1
  have hb1 := hw1.oth _ _ _ _ hb0 (by decide) (by decide) (by decide)
  have hcL : w1.cell? ⟨w.heap.size, 3, none⟩ = some (.slice a ts.length cap) := by simp [World.cell?, hb1]
  have H1 : Hid (WroteS B b fb (addS st [108]) w w1) := Lib.hid (WroteS.ahead HBL.out HB.out hw1)
  have E1 := Lib.hid env1
  clear hb0 hh0 env0 hw1 env1 hb1
  go_wp2
  go_loopw [40] (fun i wr => ∃ k : Nat, k ≤ ts.length ∧ i = .int .i64 k ∧ Hid (WEnvS B b fb ab wb wr) ∧ Hid (WroteS B b fb (wrL (ts.take k) (addS st [108])) w wr)) (fun i _ => ts.length - (intOf i).toNat)
  case atStart => exact ⟨0, Nat.zero_le _, rfl, E1, Lib.hid (by rw [List.take_zero, wrL]; exact H1.out)⟩
  case round =>
    obtain ⟨k, hk, rfl, E, H⟩ := hrel
    by_cases hlt : k < ts.length
    · obtain ⟨c0, c1, c2, c3, x0, x1, x2, x3, hrep⟩ := RepAll.get ts xs k ts[k] HA.out (List.getElem?_eq_getElem hlt)
      obtain ⟨g, rfl⟩ : ∃ g, a = some ⟨g, 0, none⟩ := by
        rcases HW.out.2 with ⟨-, h0⟩ | ⟨g, cap, cur, hv, -⟩
        · omega
        · injection hv with hv; exact ⟨g, hv⟩
      have hk24 : K24 w wr := H.out.oth.k24
      have hown := HW.out
      have hownr : wr.ownsRow 0 60 4 (.slice (some ⟨g, 0, none⟩) ts.length cap) ts.length xs := ownsRow_keep hown (fun g' hg' => by obtain ⟨cur, hc⟩ := own24 hown g' hg'; exact (hk24 g' cur hc).trans hc.symm)
      have hcell0 : wr.cell? ⟨g, k * 4, none⟩ = some c0 := row_cell hownr x0
      have hcell1 : wr.cell? ⟨g, k * 4 + 1, none⟩ = some c1 := row_cell hownr x1
      have hcell2 : wr.cell? ⟨g, k * 4 + 2, none⟩ = some c2 := row_cell hownr x2
      have hcell3 : wr.cell? ⟨g, k * 4 + 3, none⟩ = some c3 := row_cell hownr x3
      have hrepr := hrep.k24 hk24
      obtain ⟨kd, n0, b0, a0, len0, cap0, hcv⟩ := Rep.cells _ _ hrep
      injection hcv with hcv
      injection hcv with hcv
      injection hcv with h0 hcv
      injection hcv with h1 hcv
      injection hcv with h2 hcv
      injection hcv with h3 hcv
      subst h0 h1 h2 h3
      have hcw : wr.cell? ⟨wb, 0, none⟩ = some (writeFn ab wb) := cell_of_heap E.out.wr
      have hltw := lt_of_heap E.out.wr
      have HRr := Lib.hid hrepr
      clear x0 x1 x2 x3 hrep hrepr hcv hk24 hown hownr
      go_wp2_with fail
      have htk := wrL_take (ts := ts) (k := k) (List.getElem?_eq_getElem hlt) (addS st [108])
      refine (HT.out ts[k] (List.getElem_mem hlt) B b fb ab wb _ _ _ (E.out.alloc _) (H.out.holds.alloc _) (HRr.out.k24 ((K24.refl _).alloc _))).mono ?_
      rintro e w2 ⟨rfl, hw2⟩
      have hN : Hid (WEnvS B b fb ab wb w2 ∧ WroteS B b fb (wrL (ts.take (k + 1)) (addS st [108])) w w2) := Lib.hid (by
        refine ⟨(E.out.alloc _).after hw2, ?_⟩
        rw [htk]
        exact H.out.trans (WroteS.ahead (below1 wr _) E.out.hB hw2))
      clear hw2 htk
      go_wp2
      go_roundw
      case rel => exact ⟨k + 1, by omega, by go_num, Lib.hid hN.out.1, Lib.hid hN.out.2⟩
      case measure => simp [intOf]; omega
    · have hca : wr.cell? ⟨ab, 0, none⟩ = some (addFn fb b) := cell_of_heap E.out.add
      have hkn : ts.take k = ts := List.take_of_length_le (by omega)
      have HN := Lib.hid hkn
      clear hkn
      go_wp2_with fail
      refine (addS_wrote E.out H.out.holds ⟨#[101]⟩ (by decide)).mono ?_
      rintro e w2 ⟨rfl, hw2⟩
      have hend : Hid (WroteS B b fb (addS (wrL ts (addS st [108])) [101]) w w2) := Lib.hid (by
        have h := H.out.trans hw2
        rw [HN.out] at h
        exact h)
      clear hw2
      go_wp2
      go_end0
      exact ⟨rfl, hend.out⟩

mutual
theorem writeS_ok : ∀ t : Tree, Ok t → Tx t → nodes t ≤ 4000 → WriteSOK t
  | .num n, h, _, _ => fun B b fb ab wb w st v env hh hrep => by
    rw [Ok] at h; rw [Rep] at hrep; subst hrep
    exact writeS_num env hh n h.1 h.2
  | .text bs, _, hx, _ => fun B b fb ab wb w st v env hh hrep => by
    rw [Rep] at hrep; subst hrep
    rw [Tx] at hx
    have hsz : (⟨bs.toArray⟩ : ByteArray).size = bs.length := by simp [ByteArray.size]
    have := writeS_text env hh ⟨bs.toArray⟩ (by rw [hsz]; exact hx)
    rw [hsz] at this
    rw [wrT]
    exact this
  | .list ts, h, hx, hn => writeS_list (writeS_okL ts (by rw [Ok] at h; exact h) (by rw [Tx] at hx; exact hx) (by rw [nodes] at hn; omega)) (by have := nodesL_len ts; rw [nodes] at hn; omega)
theorem writeS_okL : ∀ ts : List Tree, OkL ts → TxL ts → nodesL ts ≤ 4000 → ∀ t, t ∈ ts → WriteSOK t
  | [], _, _, _, t, ht => by cases ht
  | u :: ts, h, hx, hn, t, ht => by
    rw [OkL] at h
    rw [TxL] at hx
    rw [nodesL] at hn
    rcases List.mem_cons.1 ht with h' | h'
    · rw [h']; exact writeS_ok u h.1 hx.1 (by omega)
    · exact writeS_okL ts h.2 hx.2 (by omega) t h'
end

/-- What Put answers. -/
def putF (t : Tree) : List UInt8 × Int := if (enc t).length ≤ 131072 then (enc t, 0) else ([], 2)
theorem putF_yes {t : Tree} (h : (enc t).length ≤ 131072) : putF t = (enc t, 0) := by unfold putF; rw [if_pos h]
theorem putF_no {t : Tree} (h : 131072 < (enc t).length) : putF t = ([], 2) := by unfold putF; rw [if_neg (by omega)]

set_option maxHeartbeats 1600000 in
set_option maxRecDepth 100000 in
theorem putS_any {t : Tree} {v : Value} {w : World} (hrep : Rep w (S24 w) t v) (hok : Ok t) (htx : Tx t) (hlev : Lev 1 t) (hn : nodes t ≤ 4000)
    (htab : Lib.TabIs Tryz.prog w "internal/strconv.uint64pow10" .u64 Lib.pow10Tab) : Calls Tryz.prog 36 #[v] w fun e w' => e = .returned (.tuple #[.string ⟨(putF t).1.toArray⟩, .int .i64 (putF t).2]) ∧ Below w.heap.size w w' := by
  have hmf : ∀ (fn : Fn) (first cap : Array Value) (w : World), (Instr.makeFunc fn first cap).run Tryz.prog w = .ok (.func fn first cap) w := fun _ _ _ _ => rfl
  obtain ⟨kd, n0, b0, a, len, cap, rfl⟩ := Rep.cells t v hrep
  have HR : Hid (∀ W, K24 w W → Calls Tryz.prog 58 #[.agg #[.int .i64 kd, .int .i64 n0, .string b0, .slice a len cap]] W fun e w' => e = .returned (.int .i64 0) ∧ Below W.heap.size W w') :=
    Lib.hid (fun W hK => right_any (hrep.k24 hK) hlev hn)
  have HW : Hid (∀ (B b fb ab wb : Nat) (W : World), K24 w W → WEnvS B b fb ab wb W → HoldS B b fb ([], true) W → Calls Tryz.prog 62 #[.agg #[.int .i64 kd, .int .i64 n0, .string b0, .slice a len cap], .pointer (some ⟨ab, 0, none⟩), .pointer (some ⟨wb, 0, none⟩)] W fun e w' => e = .returned (.tuple #[]) ∧ WroteS B b fb (wrT t ([], true)) W w') :=
    Lib.hid (fun B b fb ab wb W hK hE hH => writeS_ok t hok htx hn B b fb ab wb W _ _ hE hH (hrep.k24 hK))
  have HT := Lib.hid htab
  clear hrep hlev hok htx htab
  go_enter Tryz.func36, Tryz.ntmps36
  go_wp2_with fail
  refine (HR.out _ ((K24.refl _).alloc _)).mono ?_
  rintro e w1 ⟨rfl, hb1⟩
  have hbox : w1.heap[w.heap.size]? = some (.cells #[.int .i64 kd, .int .i64 n0, .string b0, .slice a len cap] 60 (0, 0)) := (hb1.block _ (by simp)).trans (heap_alloc_new _ _)
  have hbw : Below w.heap.size w w1 := (below1 w _).trans (hb1.mono (by simp))
  have hc0 : w1.cell? ⟨w.heap.size, 0, none⟩ = some (.int .i64 kd) := by simp [World.cell?, hbox]
  have hc1 : w1.cell? ⟨w.heap.size, 1, none⟩ = some (.int .i64 n0) := by simp [World.cell?, hbox]
  have hc2 : w1.cell? ⟨w.heap.size, 2, none⟩ = some (.string b0) := by simp [World.cell?, hbox]
  have hc3 : w1.cell? ⟨w.heap.size, 3, none⟩ = some (.slice a len cap) := by simp [World.cell?, hbox]
  have hlt := lt_of_heap hbox
  have hlt1 : w.heap.size < w1.heap.size + 1 := by omega
  have hlt2 : w.heap.size < w1.heap.size + 1 + 1 := by omega
  have hlt3 : w.heap.size < w1.heap.size + 1 + 1 + 1 := by omega
  have HB := Lib.hid hbw
  clear hb1 hbw hbox
  go_wp2_with fail
  obtain ⟨g0, g1, g2, g3⟩ := four_get w1 (.cells #[.pointer none, .slice none 0 0] 83) (.cells #[.bool true] 4) (.cells #[addFn (w1.heap.size + 1) w1.heap.size] 89) (.cells #[writeFn (w1.heap.size + 1 + 1) (w1.heap.size + 1 + 1 + 1)] 90)
  have hbl := four_below w1 (.cells #[.pointer none, .slice none 0 0] 83) (.cells #[.bool true] 4) (.cells #[addFn (w1.heap.size + 1) w1.heap.size] 89) (.cells #[writeFn (w1.heap.size + 1 + 1) (w1.heap.size + 1 + 1 + 1)] 90)
  have hH : Holds w1.heap.size w1.heap.size [] ((((w1.alloc (.cells #[.pointer none, .slice none 0 0] 83)).alloc (.cells #[.bool true] 4)).alloc (.cells #[addFn (w1.heap.size + 1) w1.heap.size] 89)).alloc (.cells #[writeFn (w1.heap.size + 1 + 1) (w1.heap.size + 1 + 1 + 1)] 90)) :=
    Lib.IsBuilderF.alloc (Lib.IsBuilderF.alloc (Lib.IsBuilderF.alloc (Lib.IsBuilderF.of (Lib.fresh_isBuilder 83 5 w1)) _) _) _
  generalize ((((w1.alloc (.cells #[.pointer none, .slice none 0 0] 83)).alloc (.cells #[.bool true] 4)).alloc (.cells #[addFn (w1.heap.size + 1) w1.heap.size] 89)).alloc (.cells #[writeFn (w1.heap.size + 1 + 1) (w1.heap.size + 1 + 1 + 1)] 90)) = W at g0 g1 g2 g3 hbl hH ⊢
  have htab : Lib.TabBelow Tryz.prog w1.heap.size W "internal/strconv.uint64pow10" .u64 Lib.pow10Tab := fun w' hb => Lib.tabBelow_of_tabIs HT.out w' ((HB.out.trans (hbl.mono HB.out.size)).trans (hb.mono HB.out.size))
  have hE : WEnvS w1.heap.size w1.heap.size (w1.heap.size + 1) (w1.heap.size + 1 + 1) (w1.heap.size + 1 + 1 + 1) W := ⟨g2, g3, htab, hbl.size, by omega⟩
  have hHS : HoldS w1.heap.size w1.heap.size (w1.heap.size + 1) ([], true) W := ⟨hH, g1, by simp⟩
  refine Calls.mono (HW.out w1.heap.size w1.heap.size (w1.heap.size + 1) (w1.heap.size + 1 + 1) (w1.heap.size + 1 + 1 + 1) W (fun g cur e => (hbl.block g (by have := lt_of_heap e; have := HB.out.size; omega)).trans ((HB.out.block g (lt_of_heap e)).trans e)) hE hHS) ?_
  rintro e w2 ⟨rfl, hw2⟩
  have hcf := cell_of_heap hw2.holds.f
  have HE : Hid (Below w.heap.size w w2) := Lib.hid ((HB.out.trans (hbl.mono HB.out.size)).trans (hw2.below.mono HB.out.size))
  have HZ := Lib.hid HB.out.size
  have HH2 := Lib.hid hw2.holds
  have HS2 := Lib.hid (show w1.heap.size ≤ w2.heap.size by have := hw2.below.size; have := hbl.size; omega)
  clear hE hH hHS hw2 htab g0 g1 g2 g3 hbl hmf hc0 hc1 hc2 hc3 HW HR
  by_cases hfit : (enc t).length ≤ 131072
  · have HP := Lib.hid (putF_yes hfit)
    have hw := (wrT_true t [] (by simp)).1 (by simpa using hfit)
    rw [List.nil_append] at hw
    rw [hw] at hcf HH2
    simp only at hcf
    have HS := Lib.hid (Tryz.Builder_String_any_k w1.heap.size w1.heap.size (enc t) w2 HH2.out.h HS2.out)
    clear hw
    go_wp2_with fail
    refine HS.out.mono ?_
    rintro e w3 ⟨rfl, -, hb3, -⟩
    have hend : Hid (Below w.heap.size w w3) := Lib.hid (HE.out.trans (hb3.mono HZ.out))
    clear hb3
    go_wp2
    go_ret2
    exact ⟨by rw [HP.out]; rfl, hend.out⟩
  · have HP := Lib.hid (putF_no (t := t) (by omega))
    obtain ⟨l', hw⟩ := (wrT_true t [] (by simp)).2 (by simpa using hfit)
    rw [hw] at hcf HH2
    simp only at hcf
    clear hw
    go_wp2
    go_ret2
    exact ⟨by rw [HP.out]; rfl, HE.out⟩
end Go.Proofs.YtdnedbcmgkilaaaGreatDoor.Co

end
