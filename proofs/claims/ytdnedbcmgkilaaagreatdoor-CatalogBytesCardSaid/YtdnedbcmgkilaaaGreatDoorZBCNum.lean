/- Package code's number and text: what the calls answer. -/
import Derived.WalkSpells
import Derived.Test.YtdnedbcmgkilaaaGreatDoorZBCDec

namespace Go.Proofs.YtdnedbcmgkilaaaGreatDoor.Co
open Go.RowKit
theorem decF_bd (most : Nat) (e : UInt8) (hm : 10 ≤ most) : ∀ (l : List UInt8) (i n : Nat) (first : Bool), n ≤ most →
    (decF most e l i n first).1 ≤ most ∧ i ≤ (decF most e l i n first).2.2 ∧ (decF most e l i n first).2.2 ≤ i + l.length ∧ (decF most e l i n first).2.1 ≤ 11 ∧ ((decF most e l i n first).2.1 = 0 → i + 1 ≤ (decF most e l i n first).2.2)
  | [], i, n, first, h => by rw [decF_nil]; simp
  | c :: r, i, n, first, h => by
    rw [decF_cons]
    split
    · simp; omega
    · split
      · simp
      · split
        · simp
        · rename_i h1 h2 h3
          have hd : isDig c = true := by
            cases hx : isDig c
            · exact absurd (.inl hx) h2
            · rfl
          have hb := isDig_bd hd
          have := decF_bd most e hm r (i + 1) (n * 10 + (c.toNat - 48)) false (by omega)
          simp only [List.length_cons]
          omega
abbrev zeroV : Value := .agg #[.int .i64 0, .int .i64 0, .string ⟨#[]⟩, .slice none 0 0]
abbrev numV (n : Int) : Value := .agg #[.int .i64 1, .int .i64 n, .string ⟨#[]⟩, .slice none 0 0]
abbrev textV (b : ByteArray) : Value := .agg #[.int .i64 2, .int .i64 0, .string b, .slice none 0 0]
def RetLeaf (r : Res) : Ending :=
  match r with
  | .ok (.num n) k => .returned (.tuple #[numV n, .int .i64 0, .int .i64 k])
  | .ok (.text bs) k => .returned (.tuple #[textV ⟨bs.toArray⟩, .int .i64 0, .int .i64 k])
  | .ok (.list _) k => .returned (.tuple #[zeroV, .int .i64 0, .int .i64 k])
  | .bad e k => .returned (.tuple #[zeroV, .int .i64 e, .int .i64 k])
theorem some45 (s : ByteArray) (i : Nat) (n : UInt8) (h : i < s.size) : s.data.toList[i]? = some n ↔ s[i].toNat = n.toNat := by
  rw [get_of s i h, Option.some_inj, ← UInt8.toNat_inj]
theorem numF_ok {s : List UInt8} {i n k : Nat} (h : s[i]? ≠ some 45) (hd : decF 9223372036854775807 101 (s.drop i) i 0 true = (n, 0, k)) : numF s i = .ok (.num n) k := by
  unfold numF; rw [if_neg h, hd]; rfl
theorem numF_bad {s : List UInt8} {i n k e : Nat} (h : s[i]? ≠ some 45) (hd : decF 9223372036854775807 101 (s.drop i) i 0 true = (n, e, k)) (he : e ≠ 0) : numF s i = .bad e k := by
  unfold numF; rw [if_neg h, hd]
  cases e with
  | zero => exact absurd rfl he
  | succ e => rfl
theorem numF_zero {s : List UInt8} {i : Nat} (h : s[i]? = some 45) (h0 : s[i + 1]? = some 48) : numF s i = .bad 11 (i + 1) := by
  unfold numF; rw [if_pos h, if_pos h0]
theorem numF_nok {s : List UInt8} {i n k : Nat} (h : s[i]? = some 45) (h0 : s[i + 1]? ≠ some 48) (hd : decF 9223372036854775808 101 (s.drop (i + 1)) (i + 1) 0 true = (n, 0, k)) : numF s i = .ok (.num (-(n : Int))) k := by
  unfold numF; rw [if_pos h, if_neg h0, hd]; rfl
theorem numF_nbad {s : List UInt8} {i n k e : Nat} (h : s[i]? = some 45) (h0 : s[i + 1]? ≠ some 48) (hd : decF 9223372036854775808 101 (s.drop (i + 1)) (i + 1) 0 true = (n, e, k)) (he : e ≠ 0) : numF s i = .bad e k := by
  unfold numF; rw [if_pos h, if_neg h0, hd]
  cases e with
  | zero => exact absurd rfl he
  | succ e => rfl
theorem wrap_neg (n : Nat) (h : n ≤ 9223372036854775808) : wrap64 (IntKind.u64.wrap (-(n : Int))) = -(n : Int) := by
  have e : IntKind.u64.wrap (-(n : Int)) = -(n : Int) % 18446744073709551616 := by
    simp [IntKind.wrap, IntKind.bits, IntKind.signed]
  rw [e]
  unfold wrap64
  omega
theorem below1 (w : World) (o : Obj) : Below w.heap.size w (w.alloc o) := (Below.refl _ _).alloc (Nat.le_refl _) o
theorem number_plain (s : ByteArray) (i : Nat) (w : World) (hs : s.size ≤ 140737488351232) (hi : i ≤ s.size) (hm : s.data.toList[i]? ≠ some 45) :
    Calls Tryz.prog 70 #[.string s, .int .i64 i] w fun x w' => x = RetLeaf (numF s.data.toList i) ∧ Below w.heap.size w w' := by
  obtain ⟨⟨n, er, k⟩, hd⟩ : ∃ x, decF 9223372036854775807 101 (s.data.toList.drop i) i 0 true = x := ⟨_, rfl⟩
  have hbd := decF_bd 9223372036854775807 101 (by omega) (s.data.toList.drop i) i 0 true (by omega)
  have hc := Lib.hid (fun w => decimal_any s i 9223372036854775807 101 101 rfl w hs hi (by omega) (by omega))
  rw [hd] at hbd
  simp only at hbd
  obtain ⟨hb1, hb2, hb3, -, -⟩ := hbd
  rw [List.length_drop] at hb3
  have hsz : s.data.toList.length = s.size := by simp
  have hkk : k ≤ s.size := by omega
  clear hsz hb3
  by_cases her : er = 0
  · subst her
    have HX := Lib.hid (numF_ok hm hd)
    have HD := Lib.hid hd
    clear hd
    by_cases hlt : i < s.size
    · have hB : (((s[i].toNat : Nat) : Int) == 45) = false := by
        have := fun h => hm ((some45 s i 45 hlt).2 h)
        simp at this ⊢; omega
      go_enter Tryz.func70, Tryz.ntmps70
      go_wp2_with (go_at_call 105; refine (hc.out _).mono ?_; rintro e w' ⟨rfl, rfl⟩; rw [HD.out]; simp only [Tup3])
      refine bodyPost_ret (v := .tuple #[numV n, .int .i64 0, .int .i64 k]) (by simp [results, Tryz.results70, go_sem]) rfl ⟨by rw [HX.out]; rfl, below1 _ _⟩
    · go_enter Tryz.func70, Tryz.ntmps70
      go_wp2_with (go_at_call 105; refine (hc.out _).mono ?_; rintro e w' ⟨rfl, rfl⟩; rw [HD.out]; simp only [Tup3])
      refine bodyPost_ret (v := .tuple #[numV n, .int .i64 0, .int .i64 k]) (by simp [results, Tryz.results70, go_sem]) rfl ⟨by rw [HX.out]; rfl, below1 _ _⟩
  · have HX := Lib.hid (numF_bad hm hd her)
    have HD := Lib.hid hd
    clear hd
    have hE : ((er : Int) != 0) = true := by simp; omega
    by_cases hlt : i < s.size
    · have hB : (((s[i].toNat : Nat) : Int) == 45) = false := by
        have := fun h => hm ((some45 s i 45 hlt).2 h)
        simp at this ⊢; omega
      go_enter Tryz.func70, Tryz.ntmps70
      go_wp2_with (go_at_call 105; refine (hc.out _).mono ?_; rintro e w' ⟨rfl, rfl⟩; rw [HD.out]; simp only [Tup3])
      refine bodyPost_ret (v := .tuple #[zeroV, .int .i64 er, .int .i64 k]) (by simp [results, Tryz.results70, go_sem]) rfl ⟨by rw [HX.out]; rfl, below1 _ _⟩
    · go_enter Tryz.func70, Tryz.ntmps70
      go_wp2_with (go_at_call 105; refine (hc.out _).mono ?_; rintro e w' ⟨rfl, rfl⟩; rw [HD.out]; simp only [Tup3])
      refine bodyPost_ret (v := .tuple #[zeroV, .int .i64 er, .int .i64 k]) (by simp [results, Tryz.results70, go_sem]) rfl ⟨by rw [HX.out]; rfl, below1 _ _⟩
theorem number_minus (s : ByteArray) (i : Nat) (w : World) (hs : s.size ≤ 140737488351232) (hlt : i < s.size) (hm : s.data.toList[i]? = some 45) :
    Calls Tryz.prog 70 #[.string s, .int .i64 i] w fun x w' => x = RetLeaf (numF s.data.toList i) ∧ Below w.heap.size w w' := by
  have hB : (((s[i].toNat : Nat) : Int) == 45) = true := by
    have := (some45 s i 45 hlt).1 hm
    simp at this ⊢; omega
  by_cases h0 : s.data.toList[i + 1]? = some 48
  · have hlt2 : i + 1 < s.size := by
      rcases Nat.lt_or_ge (i + 1) s.size with h | h
      · exact h
      · rw [get_no s (i + 1) (by omega)] at h0; cases h0
    have hB2 : (((s[i + 1].toNat : Nat) : Int) == 48) = true := by
      have := (some45 s (i + 1) 48 hlt2).1 h0
      simp at this ⊢; omega
    have HX := Lib.hid (numF_zero hm h0)
    clear h0 hm
    go_enter Tryz.func70, Tryz.ntmps70
    go_wp2
    refine bodyPost_ret (v := .tuple #[zeroV, .int .i64 11, .int .i64 (i + 1)]) (by simp [results, Tryz.results70, go_sem]) rfl ⟨by rw [HX.out]; rfl, below1 _ _⟩
  · obtain ⟨⟨n, er, k⟩, hd⟩ : ∃ x, decF 9223372036854775808 101 (s.data.toList.drop (i + 1)) (i + 1) 0 true = x := ⟨_, rfl⟩
    have hbd := decF_bd 9223372036854775808 101 (by omega) (s.data.toList.drop (i + 1)) (i + 1) 0 true (by omega)
    have hc : Hid (∀ w, Calls Tryz.prog 105 #[.string s, .int .i64 ((i : Int) + 1), .int .u64 9223372036854775808, .int .u8 101] w fun x w' => x = Tup3 (decF 9223372036854775808 101 (s.data.toList.drop (i + 1)) (i + 1) 0 true) ∧ w = w') :=
      Lib.hid (fun w => decimal_any s (i + 1) 9223372036854775808 101 101 rfl w hs (by omega) (by omega) (by omega))
    rw [hd] at hbd
    simp only at hbd
    obtain ⟨hb1, hb2, hb3, -, -⟩ := hbd
    rw [List.length_drop] at hb3
    have hsz : s.data.toList.length = s.size := by simp
    have hkk : k ≤ s.size := by omega
    clear hsz hb3
    by_cases her : er = 0
    · subst her
      have HX := Lib.hid (numF_nok hm h0 hd)
      have HD := Lib.hid hd
      clear hd hm
      by_cases hlt2 : i + 1 < s.size
      · have hB2 : (((s[i + 1].toNat : Nat) : Int) == 48) = false := by
          have := fun h => h0 ((some45 s (i + 1) 48 hlt2).2 h)
          simp at this ⊢; omega
        clear h0
        go_enter Tryz.func70, Tryz.ntmps70
        go_wp2_with (go_at_call 105; refine (hc.out _).mono ?_; rintro e w' ⟨rfl, rfl⟩; rw [HD.out]; simp only [Tup3])
        rw [wrap_neg n hb1]
        refine bodyPost_ret (v := .tuple #[numV (-(n : Int)), .int .i64 0, .int .i64 k]) (by simp [results, Tryz.results70, go_sem]) rfl ⟨by rw [HX.out]; rfl, below1 _ _⟩
      · clear h0
        go_enter Tryz.func70, Tryz.ntmps70
        go_wp2_with (go_at_call 105; refine (hc.out _).mono ?_; rintro e w' ⟨rfl, rfl⟩; rw [HD.out]; simp only [Tup3])
        rw [wrap_neg n hb1]
        refine bodyPost_ret (v := .tuple #[numV (-(n : Int)), .int .i64 0, .int .i64 k]) (by simp [results, Tryz.results70, go_sem]) rfl ⟨by rw [HX.out]; rfl, below1 _ _⟩
    · have HX := Lib.hid (numF_nbad hm h0 hd her)
      have HD := Lib.hid hd
      clear hd hm
      have hE : ((er : Int) != 0) = true := by simp; omega
      by_cases hlt2 : i + 1 < s.size
      · have hB2 : (((s[i + 1].toNat : Nat) : Int) == 48) = false := by
          have := fun h => h0 ((some45 s (i + 1) 48 hlt2).2 h)
          simp at this ⊢; omega
        clear h0
        go_enter Tryz.func70, Tryz.ntmps70
        go_wp2_with (go_at_call 105; refine (hc.out _).mono ?_; rintro e w' ⟨rfl, rfl⟩; rw [HD.out]; simp only [Tup3])
        refine bodyPost_ret (v := .tuple #[zeroV, .int .i64 er, .int .i64 k]) (by simp [results, Tryz.results70, go_sem]) rfl ⟨by rw [HX.out]; rfl, below1 _ _⟩
      · clear h0
        go_enter Tryz.func70, Tryz.ntmps70
        go_wp2_with (go_at_call 105; refine (hc.out _).mono ?_; rintro e w' ⟨rfl, rfl⟩; rw [HD.out]; simp only [Tup3])
        refine bodyPost_ret (v := .tuple #[zeroV, .int .i64 er, .int .i64 k]) (by simp [results, Tryz.results70, go_sem]) rfl ⟨by rw [HX.out]; rfl, below1 _ _⟩
theorem number_any (s : ByteArray) (i : Nat) (w : World) (hs : s.size ≤ 140737488351232) (hi : i ≤ s.size) :
    Calls Tryz.prog 70 #[.string s, .int .i64 i] w fun x w' => x = RetLeaf (numF s.data.toList i) ∧ Below w.heap.size w w' := by
  by_cases hm : s.data.toList[i]? = some 45
  · refine number_minus s i w hs ?_ hm
    rcases Nat.lt_or_ge i s.size with h | h
    · exact h
    · rw [get_no s i (by omega)] at hm; cases hm
  · exact number_plain s i w hs hi hm
theorem extract_of (s : ByteArray) (k n : Nat) (_h : k + n ≤ s.size) : s.extract k (k + n) = ⟨((s.data.toList.drop k).take n).toArray⟩ := by
  apply ByteArray.ext
  rw [ByteArray.data_extract]
  apply Array.ext'
  simp [Array.toList_extract, List.extract_eq_take_drop]
theorem textF_ok {s : List UInt8} {i n k : Nat} (hd : decF 131072 58 (s.drop i) i 0 true = (n, 0, k)) (h : k + n ≤ s.length) : textF s i = .ok (.text ((s.drop k).take n)) (k + n) := by
  unfold textF; rw [hd]; show (if _ then _ else _) = _; rw [if_neg (by omega)]
theorem textF_end {s : List UInt8} {i n k : Nat} (hd : decF 131072 58 (s.drop i) i 0 true = (n, 0, k)) (h : s.length < k + n) : textF s i = .bad 10 s.length := by
  unfold textF; rw [hd]; show (if _ then _ else _) = _; rw [if_pos h]
theorem textF_bad {s : List UInt8} {i n k e : Nat} (hd : decF 131072 58 (s.drop i) i 0 true = (n, e, k)) (he : e ≠ 0) : textF s i = .bad e k := by
  unfold textF; rw [hd]
  cases e with
  | zero => exact absurd rfl he
  | succ e => rfl
set_option maxHeartbeats 800000 in
set_option maxRecDepth 100000 in
theorem text_any (s : ByteArray) (i : Nat) (w : World) (hs : s.size ≤ 140737488351232) (hi : i ≤ s.size) :
    Calls Tryz.prog 73 #[.string s, .int .i64 i] w fun x w' => x = RetLeaf (textF s.data.toList i) ∧ Below w.heap.size w w' := by
  obtain ⟨⟨n, er, k⟩, hd⟩ : ∃ x, decF 131072 58 (s.data.toList.drop i) i 0 true = x := ⟨_, rfl⟩
  have hbd := decF_bd 131072 58 (by omega) (s.data.toList.drop i) i 0 true (by omega)
  have hc := Lib.hid (fun w => decimal_any s i 131072 58 58 rfl w hs hi (by omega) (by omega))
  rw [hd] at hbd
  simp only at hbd
  obtain ⟨hb1, hb2, hb3, -, -⟩ := hbd
  rw [List.length_drop] at hb3
  have hsz : s.data.toList.length = s.size := by simp
  have hkk : k ≤ s.size := by omega
  clear hb3
  by_cases her : er = 0
  · subst her
    by_cases hfit : k + n ≤ s.size
    · have HX := Lib.hid (textF_ok hd (by omega))
      have HD := Lib.hid hd
      have HE := Lib.hid (extract_of s k n hfit)
      clear hd hsz
      go_enter Tryz.func73, Tryz.ntmps73
      have hkn : (k : Int) ≤ (k : Int) + (n : Int) := by omega
      go_wp2_with (go_at_call 105; refine (hc.out _).mono ?_; rintro e w' ⟨rfl, rfl⟩; rw [HD.out]; simp only [Tup3])
      refine bodyPost_ret (v := .tuple #[textV (s.extract k (k + n)), .int .i64 0, .int .i64 (k + n)]) (by simp [results, Tryz.results73, go_sem]) rfl ⟨?_, below1 _ _⟩
      rw [HX.out]
      show _ = Ending.returned (.tuple #[textV ⟨((s.data.toList.drop k).take n).toArray⟩, .int .i64 0, .int .i64 ((k + n : Nat) : Int)])
      rw [← HE.out]
      rfl
    · have HX := Lib.hid (textF_end hd (by omega))
      have HD := Lib.hid hd
      have HS := Lib.hid hsz
      clear hd hsz
      go_enter Tryz.func73, Tryz.ntmps73
      go_wp2_with (go_at_call 105; refine (hc.out _).mono ?_; rintro e w' ⟨rfl, rfl⟩; rw [HD.out]; simp only [Tup3])
      refine bodyPost_ret (v := .tuple #[zeroV, .int .i64 10, .int .i64 s.size]) (by simp [results, Tryz.results73, go_sem]) rfl ⟨by rw [HX.out, HS.out]; rfl, below1 _ _⟩
  · have HX := Lib.hid (textF_bad hd her)
    have HD := Lib.hid hd
    clear hd hsz
    have hE : ((er : Int) != 0) = true := by simp; omega
    go_enter Tryz.func73, Tryz.ntmps73
    go_wp2_with (go_at_call 105; refine (hc.out _).mono ?_; rintro e w' ⟨rfl, rfl⟩; rw [HD.out]; simp only [Tup3])
    refine bodyPost_ret (v := .tuple #[zeroV, .int .i64 er, .int .i64 k]) (by simp [results, Tryz.results73, go_sem]) rfl ⟨by rw [HX.out]; rfl, below1 _ _⟩
end Go.Proofs.YtdnedbcmgkilaaaGreatDoor.Co
