/- What is written is read again: mathematics. -/
import Derived.Test.YtmagcikaepobiaaDoorSound
namespace Go.Proofs.YtmagcikaepobiaaDoor

/- What is written is read again: mathematics. -/
theorem digit_of {d : Nat} (h : d < 10) : isDig (UInt8.ofNat (48 + d)) = true ∧ (UInt8.ofNat (48 + d)).toNat = 48 + d := by
  have : (UInt8.ofNat (48 + d)).toNat = 48 + d := by rw [UInt8.toNat_ofNat']; omega
  exact ⟨by unfold isDig; rw [this]; simp; omega, this⟩
theorem digs_small {u : Nat} (h : u < 10) : Lib.decDigits u = [UInt8.ofNat (48 + u)] := by rw [Lib.decDigits, dif_pos h]
theorem digs_big {u : Nat} (h : ¬ u < 10) : Lib.decDigits u = Lib.decDigits (u / 10) ++ [UInt8.ofNat (48 + u % 10)] := by rw [Lib.decDigits, dif_neg h]
theorem decF_one {most : Nat} {e c : UInt8} {r : List UInt8} {i n : Nat} {first : Bool} (h1 : (c == e && !first) = false) (h2 : (!isDig c || (n == 0 && !first)) = false) (h3 : ¬ (most - (c.toNat - 48)) / 10 < n) : decF most e (c :: r) i n first = decF most e r (i + 1) (n * 10 + (c.toNat - 48)) false := by
  rw [decF, if_neg (by rw [h1]; simp), if_neg (by rw [h2]; simp), if_neg h3]
theorem decF_eq {most : Nat} {e : UInt8} {r : List UInt8} {i j n m : Nat} {b : Bool} (h1 : i = j) (h2 : n = m) : decF most e r i n b = decF most e r j m b := by rw [h1, h2]
theorem pair_eq {t : Tree} {a b c d : Nat} (h1 : a = b) (h2 : c = d) : ((Res.ok t a, c) : Res × Nat) = (.ok t b, d) := by rw [h1, h2]
/-- The digits of a number are read. -/
theorem decF_digs {most : Nat} {e : UInt8} (he : isDig e = false) (i : Nat) : ∀ (u : Nat) (r : List UInt8), u ≤ most → decF most e (Lib.decDigits u ++ r) i 0 true = decF most e r (i + (Lib.decDigits u).length) u false := by
  intro u
  induction u using Nat.strongRecOn with
  | _ u ih =>
  intro r hu
  by_cases h : u < 10
  · obtain ⟨h1, h2⟩ := digit_of h
    rw [digs_small h, List.cons_append, List.nil_append, decF_one (by simp) (by rw [h1]; rfl) (by omega), h2]
    exact decF_eq rfl (by omega)
  · have hd : u % 10 < 10 := Nat.mod_lt _ (by omega)
    obtain ⟨h1, h2⟩ := digit_of hd
    rw [digs_big h, List.append_assoc, ih (u / 10) (by omega) _ (by omega), List.cons_append, List.nil_append]
    have hne : (UInt8.ofNat (48 + u % 10) == e) = false := by
      rw [beq_eq_false_iff_ne]; intro e1; rw [e1, he] at h1; cases h1
    rw [decF_one (by rw [hne]; rfl) (by rw [h1, show ((u / 10) == 0) = false from by rw [beq_eq_false_iff_ne]; omega]; rfl) (by rw [h2]; omega), h2, List.length_append]
    exact decF_eq (by simp; omega) (by omega)
theorem decF_end {most : Nat} {e : UInt8} (he : isDig e = false) {u : Nat} (hu : u ≤ most) (r : List UInt8) (i : Nat) : decF most e (Lib.decDigits u ++ e :: r) i 0 true = (u, 0, i + (Lib.decDigits u).length + 1) := by
  rw [decF_digs he i u _ hu, decF, if_pos (by simp)]
/-- The first digit of a number. -/
theorem digs_first : ∀ u : Nat, ∃ c r, Lib.decDigits u = c :: r ∧ isDig c = true := by
  intro u
  induction u using Nat.strongRecOn with
  | _ u ih =>
  by_cases h : u < 10
  · exact ⟨_, _, digs_small h, (digit_of h).1⟩
  · obtain ⟨c, r, hc, hd⟩ := ih (u / 10) (by omega)
    exact ⟨c, r ++ [UInt8.ofNat (48 + u % 10)], by rw [digs_big h, hc]; rfl, hd⟩
theorem get_drop {l a : List UInt8} {i : Nat} {c : UInt8} (h : l.drop i = c :: a) : l[i]? = some c := by
  rw [← List.head?_drop, h]; rfl
theorem drop_more {l a b : List UInt8} {i : Nat} (h : l.drop i = a ++ b) : l.drop (i + a.length) = b := by
  rw [← List.drop_drop, h, List.drop_left]
theorem dig_not {c d : UInt8} (h : isDig c = true) (hd : isDig d = false) : c ≠ d := fun e => by rw [e, hd] at h; cases h
mutual
/-- No integer in it is less than 0. -/
def Pz : Tree → Prop
  | .num n => 0 ≤ n
  | .text bs => bs.length ≤ 131072
  | .list ts => PzL ts
def PzL : List Tree → Prop
  | [] => True
  | t :: ts => Pz t ∧ PzL ts
end
theorem numF_enc {l r : List UInt8} {i : Nat} {n : Int} (h0 : 0 ≤ n) (h1 : n ≤ 9223372036854775807) (h : l.drop i = Lib.itoa n ++ 101 :: r) : numF l i = .ok (.num n) (i + (Lib.itoa n).length + 1) := by
  have hi : Lib.itoa n = Lib.decDigits n.toNat := by unfold Lib.itoa; rw [if_neg (by omega)]
  rw [hi] at h ⊢
  obtain ⟨c, q, hc, hd⟩ := digs_first n.toNat
  have hg : l[i]? = some c := get_drop (by rw [h, hc]; rfl)
  unfold numF
  rw [if_neg (by rw [hg]; intro e; exact dig_not hd (d := 45) (by decide) (Option.some.inj e)), h, decF_end (by decide) (by omega)]
  simp only
  rw [show ((n.toNat : Nat) : Int) = n by omega]
theorem textF_enc {l r bs : List UInt8} {i : Nat} (hb : bs.length ≤ 131072) (h : l.drop i = Lib.itoa bs.length ++ 58 :: (bs ++ r)) : textF l i = .ok (.text bs) (i + (Lib.itoa bs.length).length + 1 + bs.length) := by
  have hi : Lib.itoa bs.length = Lib.decDigits bs.length := by unfold Lib.itoa; rw [if_neg (by omega)]; rfl
  rw [hi] at h ⊢
  have hd := drop_more (a := Lib.decDigits bs.length ++ [58]) (b := bs ++ r) (by rw [h]; simp)
  rw [List.length_append, ← Nat.add_assoc] at hd
  simp only [List.length_cons, List.length_nil] at hd
  have hlen : bs.length + r.length = l.length - (i + (Lib.decDigits bs.length).length + (0 + 1)) := by
    have := congrArg List.length hd
    rw [List.length_append, List.length_drop] at this
    omega
  have hlt : i < l.length := by
    rcases Nat.lt_or_ge i l.length with h1 | h1
    · exact h1
    · rw [List.drop_eq_nil_of_le h1] at h
      have := congrArg List.length h
      rw [List.length_append] at this
      simp at this
  have hlen2 : l.length - i = (Lib.decDigits bs.length).length + (1 + (bs.length + r.length)) := by
    have := congrArg List.length h
    rw [List.length_drop, List.length_append, List.length_cons, List.length_append] at this
    omega
  unfold textF
  rw [h, decF_end (by decide) hb]
  simp only
  rw [if_neg (by omega), show i + (Lib.decDigits bs.length).length + 1 = i + (Lib.decDigits bs.length).length + (0 + 1) by omega, hd, List.take_left]
theorem begin_ok {l a : List UInt8} {i level count : Nat} {c : UInt8} (h : l.drop i = c :: a) (hc : c = 105 ∨ c = 108 ∨ isDig c = true) (hl : level ≤ 30) (hn : count ≤ 4000) : beginF l i level count = 0 := by
  unfold beginF
  rw [get_drop h]
  simp only
  rw [if_neg (by rcases hc with rfl | rfl | hc <;> simp_all), if_neg (by omega), if_neg (by omega)]
mutual
def needT : Tree → Nat
  | .num _ => 1
  | .text _ => 1
  | .list ts => 1 + needL ts
def needL : List Tree → Nat
  | [] => 1
  | t :: ts => 1 + max (needT t) (needL ts)
end
mutual
theorem need_le : ∀ t : Tree, needT t ≤ 2 * nodes t ∧ 1 ≤ nodes t
  | .num _ => by rw [needT, nodes]; omega
  | .text _ => by rw [needT, nodes]; omega
  | .list ts => by have := needL_le ts; rw [needT, nodes]; omega
theorem needL_le : ∀ ts : List Tree, needL ts ≤ 2 * nodesL ts + 1
  | [] => by rw [needL, nodesL]; omega
  | t :: ts => by have h1 := need_le t; have h2 := needL_le ts; rw [needL, nodesL]; omega
end
mutual
theorem nodes_enc : ∀ t : Tree, nodes t ≤ (enc t).length
  | .num _ => by rw [nodes, enc]; simp
  | .text _ => by rw [nodes, enc]; simp; omega
  | .list ts => by have := nodesL_enc ts; rw [nodes, enc]; simp; omega
theorem nodesL_enc : ∀ ts : List Tree, nodesL ts ≤ (encL ts).length
  | [] => by rw [nodesL]; omega
  | t :: ts => by have h1 := nodes_enc t; have h2 := nodesL_enc ts; rw [nodesL, encL, List.length_append]; omega
end
theorem enc_first (t : Tree) : ∃ c r, enc t = c :: r ∧ (c = 105 ∨ c = 108 ∨ isDig c = true) ∧ c ≠ 101 := by
  cases t with
  | num n => exact ⟨105, _, by rw [enc], .inl rfl, by decide⟩
  | text bs =>
    obtain ⟨c, r, hc, hd⟩ := digs_first bs.length
    have hi : Lib.itoa bs.length = Lib.decDigits bs.length := by unfold Lib.itoa; rw [if_neg (by omega)]; rfl
    exact ⟨c, r ++ 58 :: bs, by rw [enc, hi, hc]; rfl, .inr (.inr hd), dig_not hd (by decide)⟩
  | list ts => exact ⟨108, _, by rw [enc], .inr (.inl rfl), by decide⟩
mutual
theorem rdV_enc {l : List UInt8} : ∀ (t : Tree) (f i level count : Nat) (r : List UInt8), needT t ≤ f → l.drop i = enc t ++ r → Lev level t → Pz t → Ok t → count + nodes t ≤ 4000 → rdV l f i level count = (.ok t (i + (enc t).length), count + nodes t)
  | .num n, f, i, level, count, r, hf, h, hl, hp, ho, hn => by
    rw [needT] at hf
    rw [nodes] at hn ⊢
    rw [enc] at h ⊢
    rw [Lev] at hl
    rw [Pz] at hp
    rw [Ok] at ho
    obtain ⟨f', rfl⟩ : ∃ f', f = f' + 1 := ⟨f - 1, by omega⟩
    have h1 : l.drop (i + 1) = Lib.itoa n ++ 101 :: r := by
      have := drop_more (a := [105]) (b := Lib.itoa n ++ 101 :: r) (l := l) (i := i) (by rw [h]; simp)
      simpa using this
    rw [rdV, if_pos (begin_ok (c := 105) (a := Lib.itoa n ++ [101] ++ r) (by rw [h]; rfl) (.inl rfl) hl (by omega)), if_pos (get_drop (a := Lib.itoa n ++ [101] ++ r) (by rw [h]; rfl)), numF_enc hp ho.2 h1]
    simp only [List.length_cons, List.length_append, List.length_nil]
    exact pair_eq (by omega) rfl
  | .text bs, f, i, level, count, r, hf, h, hl, hp, ho, hn => by
    rw [needT] at hf
    rw [nodes] at hn ⊢
    rw [Lev] at hl
    rw [Pz] at hp
    obtain ⟨c, q, hc, hcc, -⟩ := enc_first (.text bs)
    obtain ⟨f', rfl⟩ : ∃ f', f = f' + 1 := ⟨f - 1, by omega⟩
    have hd : isDig c = true := by
      obtain ⟨c2, r2, hc2, hd2⟩ := digs_first bs.length
      have hi : Lib.itoa bs.length = Lib.decDigits bs.length := by unfold Lib.itoa; rw [if_neg (by omega)]; rfl
      rw [enc, hi, hc2] at hc
      injection hc with e1 e2
      rw [← e1]; exact hd2
    have hg : l[i]? = some c := get_drop (a := q ++ r) (by rw [h, hc]; rfl)
    rw [rdV, if_pos (begin_ok (c := c) (a := q ++ r) (by rw [h, hc]; rfl) hcc hl (by omega)), if_neg (by rw [hg]; intro e; exact dig_not hd (d := 105) (by decide) (Option.some.inj e)), if_neg (by rw [hg]; intro e; exact dig_not hd (d := 108) (by decide) (Option.some.inj e))]
    rw [enc] at h ⊢
    rw [textF_enc (r := r) hp (by rw [h]; simp)]
    simp only [List.length_cons, List.length_append]
    exact pair_eq (by omega) rfl
  | .list ts, f, i, level, count, r, hf, h, hl, hp, ho, hn => by
    rw [needT] at hf
    rw [nodes] at hn ⊢
    rw [enc] at h ⊢
    rw [Lev] at hl
    rw [Pz] at hp
    rw [Ok] at ho
    obtain ⟨f', rfl⟩ : ∃ f', f = f' + 1 := ⟨f - 1, by omega⟩
    have h1 : l.drop (i + 1) = encL ts ++ 101 :: r := by
      have := drop_more (a := [108]) (b := encL ts ++ 101 :: r) (l := l) (i := i) (by rw [h]; simp)
      simpa using this
    have hg : l[i]? = some 108 := get_drop (a := encL ts ++ [101] ++ r) (by rw [h]; rfl)
    rw [rdV, if_pos (begin_ok (c := 108) (a := encL ts ++ [101] ++ r) (by rw [h]; rfl) (.inr (.inl rfl)) hl.1 (by omega)), if_neg (by rw [hg]; decide), if_pos hg,
      rdL_enc ts f' (i + 1) level (count + 1) [] r (by omega) h1 hl.2 hp ho (by omega), List.nil_append]
    simp only [List.length_cons, List.length_append, List.length_nil]
    exact pair_eq (by omega) (by omega)
theorem rdL_enc {l : List UInt8} : ∀ (ts : List Tree) (f i level count : Nat) (acc : List Tree) (r : List UInt8), needL ts ≤ f → l.drop i = encL ts ++ 101 :: r → LevL (level + 1) ts → PzL ts → OkL ts → count + nodesL ts ≤ 4000 → rdL l f i level count acc = (.ok (.list (acc ++ ts)) (i + (encL ts).length + 1), count + nodesL ts)
  | [], f, i, level, count, acc, r, hf, h, hl, hp, ho, hn => by
    rw [needL] at hf
    obtain ⟨f', rfl⟩ : ∃ f', f = f' + 1 := ⟨f - 1, by omega⟩
    rw [encL, List.nil_append] at h
    rw [rdL, if_pos (get_drop h), List.append_nil, encL, nodesL]
    rfl
  | t :: ts, f, i, level, count, acc, r, hf, h, hl, hp, ho, hn => by
    rw [needL] at hf
    obtain ⟨f', rfl⟩ : ∃ f', f = f' + 1 := ⟨f - 1, by omega⟩
    rw [encL, List.append_assoc] at h
    rw [LevL] at hl
    rw [PzL] at hp
    rw [OkL] at ho
    rw [nodesL] at hn
    obtain ⟨c, q, hc, -, hne⟩ := enc_first t
    have hg : l[i]? = some c := get_drop (a := q ++ (encL ts ++ 101 :: r)) (by rw [h, hc]; rfl)
    rw [rdL, if_neg (by rw [hg]; intro e; exact hne (Option.some.inj e)), rdV_enc t f' i (level + 1) count (encL ts ++ 101 :: r) (by omega) h hl.1 hp.1 ho.1 (by omega)]
    simp only
    rw [rdL_enc ts f' (i + (enc t).length) level (count + nodes t) (acc ++ [t]) r (by omega) (drop_more h) hl.2 hp.2 ho.2 (by omega), encL, nodesL, List.append_assoc, List.length_append]
    exact pair_eq (by omega) (by omega)
end
/-- What is written is read again. -/
theorem getF_enc {t : Tree} (hb : (enc t).length ≤ 131072) (hn : nodes t ≤ 4000) (hl : Lev 1 t) (hp : Pz t) (ho : Ok t) : getF (enc t) = .ok t 0 := by
  have h1 := need_le t
  have h2 := nodes_enc t
  have := rdV_enc (l := enc t) t (2 * (enc t).length + 1) 0 1 0 [] (by omega) (by simp) hl hp ho (by omega)
  unfold getF
  rw [if_neg (by omega), this]
  simp only
  rw [if_neg (by omega)]
end Go.Proofs.YtmagcikaepobiaaDoor
