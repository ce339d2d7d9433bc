/- What a delta that is made is; what two strings have in common; mathematics alone. -/
import Derived.Test.YtmagcikaepobiaaOpr
namespace Go.Proofs.Ytmagcikaepobiaa.Dl

/-- How many bytes two lists have in common at their beginning. -/
def comF : List UInt8 → List UInt8 → Nat
  | x :: r, y :: s => if x = y then 1 + comF r s else 0
  | _, _ => 0
theorem comF_le1 : ∀ a b, comF a b ≤ a.length
  | [], _ => by simp [comF]
  | x :: r, [] => by simp [comF]
  | x :: r, y :: s => by
    have := comF_le1 r s
    unfold comF; split
    · simp; omega
    · simp
theorem comF_le2 : ∀ a b, comF a b ≤ b.length
  | [], _ => by simp [comF]
  | x :: r, [] => by simp [comF]
  | x :: r, y :: s => by
    have := comF_le2 r s
    unfold comF; split
    · simp; omega
    · simp
theorem comF_take : ∀ a b : List UInt8, a.take (comF a b) = b.take (comF a b)
  | [], b => by simp [comF]
  | x :: r, [] => by simp [comF]
  | x :: r, y :: s => by
    unfold comF; split
    · rename_i h; subst h
      rw [show 1 + comF r s = comF r s + 1 by omega, List.take_succ_cons, List.take_succ_cons, comF_take r s]
    · simp
theorem comF_ge : ∀ (k : Nat) (a b : List UInt8), k ≤ a.length → k ≤ b.length → a.take k = b.take k → k ≤ comF a b
  | 0, _, _, _, _, _ => by omega
  | k + 1, x :: r, y :: s, h1, h2, h => by
    rw [List.take_succ_cons, List.take_succ_cons] at h
    injection h with h3 h4
    have := comF_ge k r s (by simpa using h1) (by simpa using h2) h4
    unfold comF; rw [if_pos h3]; omega
  | k + 1, [], b, h1, _, _ => by simp at h1
  | k + 1, x :: r, [], _, h2, _ => by simp at h2
theorem comF_drop {a b : List UInt8} {i : Nat} (h1 : i < a.length) (h2 : i < b.length) : comF (a.drop i) (b.drop i) = if a[i] = b[i] then 1 + comF (a.drop (i + 1)) (b.drop (i + 1)) else 0 := by
  rw [List.drop_eq_getElem_cons h1, List.drop_eq_getElem_cons h2, comF]
theorem comF_end {a b : List UInt8} {i : Nat} (h : min a.length b.length ≤ i) : comF (a.drop i) (b.drop i) = 0 := by
  rcases Nat.le_total a.length b.length with h1 | h1
  · rw [List.drop_eq_nil_of_le (by omega)]; rfl
  · rw [List.drop_eq_nil_of_le (as := b) (by omega)]
    cases a.drop i <;> rfl

/-- What operations yield, one behind the other. -/
def outs (old : BA) : List Opr → List UInt8
  | [] => []
  | x :: r => (outF old x).data.toList ++ outs old r
theorem outs_append (old : BA) : ∀ xs ys : List Opr, outs old (xs ++ ys) = outs old xs ++ outs old ys
  | [], _ => rfl
  | x :: r, ys => by simp only [List.cons_append, outs, outs_append old r ys, List.append_assoc]
theorem ext_list (s : BA) (i j : Nat) : (s.extract i j).data.toList = (s.data.toList.drop i).take (j - i) := by
  simp [List.extract_eq_take_drop]
/-- No two inserts side by side. -/
def Apt (d : List Opr) : Prop := ∀ (i : Nat) (x y : Opr), d[i]? = some x → d[i + 1]? = some y → ¬ (x.n = 0 ∧ y.n = 0)
theorem Apt.snoc {d : List Opr} {y : Opr} (h : Apt d) (hl : y.n ≠ 0 ∨ ∀ x, d.getLast? = some x → x.n ≠ 0) : Apt (d ++ [y]) := fun i a b ha hb => by
  by_cases h1 : i + 1 < d.length
  · rw [List.getElem?_append_left (by omega)] at ha hb
    exact h i a b ha hb
  · have h2 := (List.getElem?_eq_some_iff.1 hb).1
    simp at h2
    have h3 : i + 1 = d.length := by omega
    rw [List.getElem?_append_right (by omega)] at hb
    rw [List.getElem?_append_left (by omega)] at ha
    simp [h3] at hb
    subst hb
    rintro ⟨e1, e2⟩
    rcases hl with hl | hl
    · exact hl e2
    · exact hl a (by rw [List.getLast?_eq_getElem?, show d.length - 1 = i by omega]; exact ha) e1

/-- A delta under way: it makes the first 'done' bytes. -/
structure Cmp (old now : BA) (d : List Opr) (done copies : Nat) : Prop where
  ok : ∀ x ∈ d, okB x = true ∧ fitB old x = true
  out : outs old d = now.data.toList.take done
  len : d.length ≤ 2 * copies
  siz : szF d ≤ done
  le : done ≤ now.size
  apt : Apt d
  last : ∀ x, d.getLast? = some x → x.n ≠ 0
theorem cmp_nil (old now : BA) : Cmp old now [] 0 0 := ⟨by simp, by simp [outs], by simp, by simp [szF], by omega, fun i x y h => by simp at h, by simp⟩
/-- An insert, if there is any text. -/
def insD (d : List Opr) (t : BA) : List Opr := if t.size = 0 then d else d ++ [⟨0, 0, t⟩]
theorem ins_op {t : BA} (h : t.size ≠ 0) (h2 : t.size ≤ 131072) : inB ⟨0, 0, t⟩ = true := by unfold inB; exact decide_eq_true ⟨rfl, rfl, by show 1 ≤ t.size; omega, h2⟩
theorem cut_list {l : List UInt8} {i j : Nat} (h : i ≤ j) : l.take i ++ (l.drop i).take (j - i) = l.take j := by
  obtain ⟨k, rfl⟩ : ∃ k, j = i + k := ⟨j - i, by omega⟩
  rw [List.take_add, show i + k - i = k by omega]
theorem Cmp.ins {old now : BA} {d : List Opr} {done c : Nat} (h : Cmp old now d done c) {at' : Nat} (h1 : done ≤ at') (h2 : at' ≤ now.size) (hn : now.size ≤ 131072) :
    (∀ x ∈ insD d (now.extract done at'), okB x = true ∧ fitB old x = true) ∧ outs old (insD d (now.extract done at')) = now.data.toList.take at' ∧ (insD d (now.extract done at')).length ≤ 2 * c + 1 ∧ szF (insD d (now.extract done at')) ≤ at' + 8 ∧ Apt (insD d (now.extract done at')) := by
  have hs : (now.extract done at').size = at' - done := by rw [ByteArray.size_extract]; omega
  have hl := h.len
  have hz := h.siz
  unfold insD
  by_cases h0 : at' - done = 0
  · rw [if_pos (by omega)]
    obtain rfl : at' = done := by omega
    exact ⟨h.ok, h.out, by omega, by omega, h.apt⟩
  · rw [if_neg (by omega)]
    have hi := ins_op (t := now.extract done at') (by omega) (by omega)
    refine ⟨fun x hx => ?_, ?_, by simp; omega, by rw [szF_append]; simp only [szF]; omega, h.apt.snoc (.inr h.last)⟩
    · rcases List.mem_append.1 hx with hx | hx
      · exact h.ok x hx
      · obtain rfl := List.mem_singleton.1 hx
        exact ⟨by unfold okB; rw [hi]; simp, by unfold fitB; rw [hi]; rfl⟩
    · rw [outs_append, h.out]
      simp only [outs, List.append_nil]
      rw [show outF old ⟨0, 0, now.extract done at'⟩ = now.extract done at' by unfold outF; rw [if_pos hi], ext_list, cut_list h1]
theorem copy_ok {f s : Nat} (h1 : 1 ≤ s) (h2 : s ≤ 131072) (h3 : f ≤ 131072) : okB ⟨f, s, ByteArray.empty⟩ = true ∧ inB ⟨f, s, ByteArray.empty⟩ = false := by
  have h4 : ByteArray.empty.size = 0 := rfl
  refine ⟨?_, ?_⟩
  · unfold okB cpB; rw [decide_eq_true ⟨by show (1 : Int) ≤ s; omega, by show (s : Int) ≤ 131072; omega, by show (0 : Int) ≤ f; omega, by show (f : Int) ≤ 131072; omega, h4⟩]; rfl
  · unfold inB; exact decide_eq_false (fun h => by have h5 : (s : Int) = 0 := h.1; omega)
theorem Cmp.step {old now : BA} {d : List Opr} {done c : Nat} (h : Cmp old now d done c) {at' f s : Nat} (h1 : done ≤ at') (hs : 16 ≤ s) (hf : f + s ≤ old.size) (h2 : at' + s ≤ now.size) (ho : old.size ≤ 131072) (hn : now.size ≤ 131072)
    (he : (old.data.toList.drop f).take s = (now.data.toList.drop at').take s) : Cmp old now (insD d (now.extract done at') ++ [⟨f, s, ByteArray.empty⟩]) (at' + s) (c + 1) := by
  obtain ⟨g1, g2, g3, g4, g5⟩ := h.ins h1 (by omega) hn
  obtain ⟨k1, k2⟩ := copy_ok (f := f) (s := s) (by omega) (by omega) (by omega)
  have hsz : szF (insD d (now.extract done at')) ≤ at' + 8 := g4
  have hz := h.siz
  refine ⟨fun x hx => ?_, ?_, by simp; omega, ?_, h2, g5.snoc (.inl (by simp only; omega)), fun x hx => ?_⟩
  · rcases List.mem_append.1 hx with hx | hx
    · exact g1 x hx
    · obtain rfl := List.mem_singleton.1 hx
      exact ⟨k1, by unfold fitB; rw [k2]; simp only [Bool.false_or]; exact decide_eq_true (by omega)⟩
  · rw [outs_append, g2]
    simp only [outs, List.append_nil]
    rw [show outF old ⟨f, s, ByteArray.empty⟩ = old.extract (f : Int).toNat ((f : Int) + (s : Int)).toNat by unfold outF; rw [k2]; rfl, ext_list,
      show ((f : Int) + (s : Int)).toNat - (f : Int).toNat = s by omega, show (f : Int).toNat = f by omega, he]
    rw [← List.take_add]
  · rw [szF_append]
    have : ByteArray.empty.size = 0 := rfl
    simp only [szF, this]
    unfold insD at g4 ⊢
    split
    · omega
    · rename_i hne
      rw [szF_append]
      simp only [szF]
      have : (now.extract done at').size = at' - done := by rw [ByteArray.size_extract]; omega
      omega
  · simp at hx
    subst hx
    simp only; omega

/-- A delta that is made. -/
structure Made (old now : BA) (d : List Opr) : Prop where
  rg : rgB d = true
  fit : ∀ x ∈ d, fitB old x = true
  out : outs old d = now.data.toList
  siz : szF d ≤ now.size + 8
  apt : Apt d
  nil : now.size = 0 → d = []
theorem rgB_of {d : List Opr} (h : ∀ x ∈ d, okB x = true) (hl : d.length ≤ 2000) : rgB d = true :=
  rgB_mk hl (fun _ x hx => h x (List.mem_of_getElem? hx))
theorem szF_zero {d : List Opr} (h : szF d ≤ 0) : d = [] := by
  cases d with
  | nil => rfl
  | cons x r => simp only [szF] at h; omega
theorem Cmp.made {old now : BA} {d : List Opr} {done c : Nat} (h : Cmp old now d done c) (hc : c ≤ 999) (hn : now.size ≤ 131072) : Made old now (insD d (now.extract done now.size)) := by
  obtain ⟨g1, g2, g3, g4, g5⟩ := h.ins h.le (Nat.le_refl _) hn
  refine ⟨rgB_of (fun x hx => (g1 x hx).1) (by omega), fun x hx => (g1 x hx).2, by rw [g2, List.take_of_length_le (by rw [BA.len]; omega)], g4, g5, fun h0 => ?_⟩
  have hle := h.le
  have hd := szF_zero (d := d) (by have := h.siz; omega)
  subst hd
  unfold insD
  rw [if_pos (by rw [ByteArray.size_extract]; omega)]
theorem made_one {old now : BA} {f : Nat} (h16 : 16 ≤ now.size) (hn : now.size ≤ 131072) (ho : old.size ≤ 131072) (hf : f + now.size ≤ old.size) (he : (old.data.toList.drop f).take now.size = now.data.toList) : Made old now [⟨f, now.size, ByteArray.empty⟩] := by
  obtain ⟨k1, k2⟩ := copy_ok (f := f) (s := now.size) (by omega) (by omega) (by omega)
  have h0 : ByteArray.empty.size = 0 := rfl
  refine ⟨rgB_of (fun x hx => by obtain rfl := List.mem_singleton.1 hx; exact k1) (by simp), fun x hx => ?_, ?_, by simp only [szF, h0]; omega, fun i x y h1 h2 => by simp at h2, fun h => by omega⟩
  · obtain rfl := List.mem_singleton.1 hx
    unfold fitB; rw [k2]; simp only [Bool.false_or]; exact decide_eq_true (by omega)
  · simp only [outs, List.append_nil]
    rw [show outF old ⟨f, now.size, ByteArray.empty⟩ = old.extract (f : Int).toNat ((f : Int) + (now.size : Int)).toNat by unfold outF; rw [k2]; rfl, ext_list,
      show ((f : Int) + (now.size : Int)).toNat - (f : Int).toNat = now.size by omega, show (f : Int).toNat = f by omega, he]
theorem runF_all {old : BA} {m : Nat} : ∀ (xs : List Opr) (acc : List UInt8), (∀ x ∈ xs, fitB old x = true) → acc.length + (outs old xs).length ≤ m → runF old m xs acc = (acc ++ outs old xs, 0)
  | [], acc, _, _ => by simp [runF, outs]
  | x :: r, acc, hf, hl => by
    simp only [outs, List.length_append] at hl
    have hs : (outF old x).data.toList.length = (outF old x).size := BA.len _
    rw [runF, if_pos (hf x (by simp)), if_pos (by omega), runF_all r _ (fun y hy => hf y (by simp [hy])) (by rw [List.length_append]; omega)]
    simp only [outs, List.append_assoc]
theorem Made.app {old now : BA} {d : List Opr} (h : Made old now d) (hn : now.size ≤ 131072) : appF old d now.size = (now, 0) := by
  have hm : mostF now.size = now.size := by unfold mostF; omega
  rw [appF_yes h.rg (l := now.data.toList) (e := 0) (by rw [hm, runF_all d [] h.fit (by rw [h.out, BA.len]; simp), h.out]; rfl), BA.back]
end Go.Proofs.Ytmagcikaepobiaa.Dl
