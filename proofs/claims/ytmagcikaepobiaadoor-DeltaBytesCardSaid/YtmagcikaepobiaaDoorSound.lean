/- What is read of bytes, written again, is the bytes: the plain mathematics. -/
import Derived.Test.YtmagcikaepobiaaDoorGet
import Derived.Test.YtmagcikaepobiaaDoorRight
namespace Go.Proofs.YtmagcikaepobiaaDoor

theorem decDigits_small {u : Nat} (h : u < 10) : Lib.decDigits u = [UInt8.ofNat (48 + u)] := by rw [Lib.decDigits, dif_pos h]
theorem decDigits_step {N d : Nat} (hN : 0 < N) (hd : d < 10) : Lib.decDigits (N * 10 + d) = Lib.decDigits N ++ [UInt8.ofNat (48 + d)] := by
  rw [Lib.decDigits, dif_neg (by omega), show (N * 10 + d) / 10 = N from by omega, show (N * 10 + d) % 10 = d from by omega]
theorem ofNat_dig {c : UInt8} (h : isDig c = true) : UInt8.ofNat (48 + (c.toNat - 48)) = c := by
  have := isDig_bd h
  rw [show 48 + (c.toNat - 48) = c.toNat from by omega, UInt8.ofNat_toNat]

theorem decF_later (most : Nat) (e : UInt8) : ∀ (r : List UInt8) (i N n k : Nat), decF most e r i N false = (n, 0, k) → ∃ ds rest, r = ds ++ e :: rest ∧ k = i + ds.length + 1 ∧ Lib.decDigits n = Lib.decDigits N ++ ds
  | [], i, N, n, k, h => by rw [decF_nil] at h; simp at h
  | c :: r, i, N, n, k, h => by
    rw [decF_cons] at h
    split at h
    · rename_i hc
      have : c = e := UInt8.toNat_inj.1 hc.1
      subst this
      injection h with h1 h2
      injection h2 with _ h2
      subst h1
      exact ⟨[], r, rfl, by simp [← h2], by simp⟩
    · split at h
      · simp at h
      · split at h
        · simp at h
        · rename_i h1 h2 h3
          have hd : isDig c = true := by
            cases hx : isDig c
            · exact absurd (.inl hx) h2
            · rfl
          have hN : 0 < N := by
            rcases Nat.eq_zero_or_pos N with h0 | h0
            · exact absurd (.inr ⟨h0, rfl⟩) h2
            · exact h0
          have hb := isDig_bd hd
          obtain ⟨ds, rest, hr, hk, hdd⟩ := decF_later most e r _ _ _ _ h
          refine ⟨c :: ds, rest, by rw [hr]; rfl, by rw [hk, List.length_cons]; omega, ?_⟩
          rw [hdd, decDigits_step hN (by omega), ofNat_dig hd]
          simp
theorem decF_sound (most : Nat) (e : UInt8) (r : List UInt8) (i n k : Nat) (h : decF most e r i 0 true = (n, 0, k)) : ∃ rest, r = Lib.decDigits n ++ e :: rest ∧ k = i + (Lib.decDigits n).length + 1 := by
  cases r with
  | nil => rw [decF_nil] at h; simp at h
  | cons c r =>
    rw [decF_cons] at h
    split at h
    · rename_i hc; cases hc.2
    · split at h
      · simp at h
      · split at h
        · simp at h
        · rename_i h1 h2 h3
          have hd : isDig c = true := by
            cases hx : isDig c
            · exact absurd (.inl hx) h2
            · rfl
          have hb := isDig_bd hd
          obtain ⟨ds, rest, hr, hk, hdd⟩ := decF_later most e r _ _ _ _ h
          rw [Nat.zero_mul, Nat.zero_add, decDigits_small (u := c.toNat - 48) (by omega), ofNat_dig hd] at hdd
          refine ⟨rest, by rw [hdd, hr]; rfl, by rw [hdd, hk]; simp; omega⟩

theorem drop_cons {l : List UInt8} {i : Nat} {c : UInt8} (h : l[i]? = some c) : l.drop i = c :: l.drop (i + 1) := by
  obtain ⟨hi, rfl⟩ := List.getElem?_eq_some_iff.1 h
  exact List.drop_eq_getElem_cons hi
/-- A text that stands at a place: what is behind it. -/
theorem drop_behind {l a b : List UInt8} {i k : Nat} (h : l.drop i = a ++ b) (hk : k = i + a.length) : l.drop i = a ++ l.drop k := by
  subst hk
  rw [← List.drop_drop, h, List.drop_left]

theorem numF_sound {l : List UInt8} {i k : Nat} {t : Tree} (h : numF l i = .ok t k) : ∃ n, t = .num n ∧ l.drop i = Lib.itoa n ++ 101 :: l.drop k ∧ -9223372036854775808 ≤ n ∧ n ≤ 9223372036854775807 := by
  by_cases h45 : l[i]? = some 45
  · by_cases h0 : l[i + 1]? = some 48
    · rw [numF_zero h45 h0] at h; cases h
    · have hb := decF_bd 9223372036854775808 101 (by omega) (l.drop (i + 1)) (i + 1) 0 true (by omega)
      rcases hd : decF 9223372036854775808 101 (l.drop (i + 1)) (i + 1) 0 true with ⟨n, e, k'⟩
      rw [hd] at hb
      simp only at hb
      by_cases he : e = 0
      · subst he
        rw [numF_nok h45 h0 hd] at h
        injection h with ht hk
        subst ht hk
        obtain ⟨rest, hr, hk⟩ := decF_sound _ _ _ _ _ _ hd
        have hn : 0 < n := by
          rcases Nat.eq_zero_or_pos n with h1 | h1
          · subst h1
            rw [decDigits_small (by omega)] at hr
            exfalso
            apply h0
            have : l[i + 1]? = (l.drop (i + 1))[0]? := by simp
            rw [this, hr]
            rfl
          · exact h1
        refine ⟨_, rfl, ?_, by omega, by omega⟩
        rw [drop_cons h45, drop_behind (a := Lib.decDigits n ++ [101]) (b := rest) (k := k') (by rw [hr]; simp) (by rw [hk]; simp; omega)]
        rw [Lib.itoa, if_pos (by omega), show (-(n : Int)).natAbs = n from by omega]
        simp
      · rw [numF_nbad h45 h0 hd he] at h; cases h
  · have hb := decF_bd 9223372036854775807 101 (by omega) (l.drop i) i 0 true (by omega)
    rcases hd : decF 9223372036854775807 101 (l.drop i) i 0 true with ⟨n, e, k'⟩
    rw [hd] at hb
    simp only at hb
    by_cases he : e = 0
    · subst he
      rw [numF_ok h45 hd] at h
      injection h with ht hk
      subst ht hk
      obtain ⟨rest, hr, hk⟩ := decF_sound _ _ _ _ _ _ hd
      refine ⟨_, rfl, ?_, by omega, by omega⟩
      rw [drop_behind (a := Lib.decDigits n ++ [101]) (b := rest) (k := k') (by rw [hr]; simp) (by rw [hk]; simp; omega)]
      rw [Lib.itoa, if_neg (by omega), Int.toNat_natCast]
      simp
    · rw [numF_bad h45 hd he] at h; cases h

theorem textF_sound {l : List UInt8} {i k : Nat} {t : Tree} (h : textF l i = .ok t k) : ∃ bs, t = .text bs ∧ l.drop i = enc (.text bs) ++ l.drop k := by
  have hb := decF_bd 131072 58 (by omega) (l.drop i) i 0 true (by omega)
  rcases hd : decF 131072 58 (l.drop i) i 0 true with ⟨n, e, k'⟩
  by_cases he : e = 0
  · subst he
    by_cases hf : k' + n ≤ l.length
    · rw [textF_ok hd hf] at h
      injection h with ht hk
      subst ht hk
      obtain ⟨rest, hr, hk⟩ := decF_sound _ _ _ _ _ _ hd
      refine ⟨_, rfl, ?_⟩
      rw [drop_behind (a := Lib.decDigits n ++ [58]) (b := rest) (k := k') (by rw [hr]; simp) (by rw [hk]; simp; omega)]
      have hlen : ((l.drop k').take n).length = n := by rw [List.length_take, List.length_drop]; omega
      rw [enc, hlen, Lib.itoa, if_neg (by omega), Int.toNat_natCast]
      simp only [List.append_assoc, List.cons_append, List.nil_append]
      rw [← List.drop_drop, List.take_append_drop]
    · rw [textF_end hd (by omega)] at h; cases h
  · rw [textF_bad hd he] at h; cases h

theorem rd_sound (l : List UInt8) : ∀ f, (∀ i level count t k c, rdV l f i level count = (.ok t k, c) → l.drop i = enc t ++ l.drop k ∧ c = count + nodes t ∧ Lev level t ∧ Ok t) ∧
    (∀ i level count acc t k c, level ≤ 30 → rdL l f i level count acc = (.ok t k, c) → ∃ new, t = .list (acc ++ new) ∧ l.drop i = encL new ++ 101 :: l.drop k ∧ c = count + nodesL new ∧ LevL (level + 1) new ∧ OkL new)
  | 0 => by
    constructor
    · intro i level count t k c h; rw [rdV] at h; injection h with h; cases h
    · intro i level count acc t k c _ h; rw [rdL] at h; injection h with h; cases h
  | f + 1 => by
    obtain ⟨hV, hL⟩ := rd_sound l f
    constructor
    · intro i level count t k c h
      rw [rdV_succ] at h
      split at h
      · rename_i hb
        obtain ⟨h1, h2, h3⟩ := beginF_lt hb
        split at h
        · rename_i h105
          injection h with h hc
          obtain ⟨n, rfl, hd, hn1, hn2⟩ := numF_sound h
          rw [drop_cons h105, hd, enc, nodes, Lev, Ok]
          exact ⟨by simp, hc.symm, h2, hn1, hn2⟩
        · split at h
          · rename_i h108
            obtain ⟨new, rfl, hd, hc, hlv, hok⟩ := hL _ _ _ _ _ _ _ h2 h
            rw [List.nil_append, drop_cons h108, hd, enc, nodes, Lev, Ok]
            exact ⟨by simp, by omega, ⟨h2, hlv⟩, hok⟩
          · injection h with h hc
            obtain ⟨bs, rfl, hd⟩ := textF_sound h
            rw [nodes, Lev, Ok]
            exact ⟨hd, hc.symm, h2, trivial⟩
      · injection h with h; cases h
    · intro i level count acc t k c hl30 h
      rw [rdL_succ] at h
      split at h
      · rename_i h101
        injection h with h hc
        injection h with ht hk
        subst ht hk hc
        exact ⟨[], by simp, by rw [drop_cons h101, encL]; rfl, by simp [nodesL], by simp [LevL], by simp [OkL]⟩
      · rcases hr : rdV l f i (level + 1) count with ⟨u | ⟨e, k1⟩, c1⟩
        · rename_i k1
          rw [hr] at h
          simp only at h
          obtain ⟨a1, a2, a3, a4⟩ := hV _ _ _ _ _ _ hr
          obtain ⟨new, rfl, b1, b2, b3, b4⟩ := hL _ _ _ _ _ _ _ hl30 h
          refine ⟨u :: new, by simp, ?_, ?_, ?_, ?_⟩
          · rw [a1, b1, encL]; simp
          · rw [b2, a2, nodesL]; omega
          · rw [LevL]; exact ⟨a3, b3⟩
          · rw [OkL]; exact ⟨a4, b4⟩
        · rw [hr] at h
          injection h with h; cases h

/-- What Get reads, written again, is what was read. -/
theorem getF_sound {l : List UInt8} {t : Tree} {k : Nat} (h : getF l = .ok t k) : k = 0 ∧ enc t = l ∧ l.length ≤ 131072 ∧ nodes t ≤ 4000 ∧ Lev 1 t ∧ Ok t := by
  unfold getF at h
  split at h
  · cases h
  · rename_i hlen
    have hbd := (rd_bd l (2 * l.length + 1)).1 0 1 0 (by omega)
    rcases hr : rdV l (2 * l.length + 1) 0 1 0 with ⟨u | ⟨e, k1⟩, c1⟩
    · rename_i k1
      rw [hr] at h hbd
      simp only at h
      split at h
      · cases h
      · injection h with ht hk
        subst ht hk
        obtain ⟨a1, a2, a3, a4⟩ := (rd_sound l _).1 _ _ _ _ _ _ hr
        rw [List.drop_zero, List.drop_eq_nil_of_le (by omega), List.append_nil] at a1
        have := (hbd.2.2.2 _ _ rfl).2
        simp only at this
        exact ⟨rfl, a1.symm, by omega, by omega, a3, a4⟩
    · rw [hr] at h; cases h
/-- .. and where it refuses. -/
theorem getF_bad {l : List UInt8} {e k : Nat} (h : getF l = .bad e k) : k ≤ l.length ∧ e ≠ 0 := by
  unfold getF at h
  split at h
  · injection h with h1 h2; subst h1 h2; exact ⟨by omega, by omega⟩
  · have hbd := ((rd_bd l (2 * l.length + 1)).1 0 1 0 (by omega)).1
    rcases hr : (rdV l (2 * l.length + 1) 0 1 0).1 with u | ⟨e, k1⟩
    · rename_i k1
      rw [hr] at h hbd
      simp only [Bd] at h hbd
      split at h
      · injection h with h1 h2; subst h1 h2; exact ⟨by omega, by omega⟩
      · cases h
    · rw [hr] at h hbd
      simp only [Bd] at h hbd
      injection h with h1 h2; subst h1 h2; exact ⟨hbd.2, hbd.1⟩

end Go.Proofs.YtmagcikaepobiaaDoor
