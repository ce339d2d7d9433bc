/- Operations of a delta: which are valid, what they weigh, what they make of a text; mathematics alone. -/
import Derived.WalkKit
import Derived.Laws.Cover1
import Derived.Lib.Hide
namespace Go.Proofs.YtmagcikaepobiaaDoor.Dl

abbrev BA := ByteArray
theorem BA.ext {a b : BA} (h : a.data.toList = b.data.toList) : a = b := by
  cases a; cases b; simp at h; rw [ByteArray.mk.injEq]; exact h
theorem BA.len (s : BA) : s.data.toList.length = s.size := by simp
theorem BA.ext' {a b : BA} (h : a.toList = b.toList) : a = b := by
  rw [ByteArray.toList_eq, ByteArray.toList_eq] at h; exact BA.ext h
theorem BA.back (s : BA) : (⟨s.data.toList.toArray⟩ : BA) = s := BA.ext (by simp)

/-- An operation: from, length, text. -/
structure Opr where
  f : Int
  n : Int
  t : BA

def cpB (x : Opr) : Bool := decide (1 ≤ x.n ∧ x.n ≤ 131072 ∧ 0 ≤ x.f ∧ x.f ≤ 131072 ∧ x.t.size = 0)
def inB (x : Opr) : Bool := decide (x.n = 0 ∧ x.f = 0 ∧ 1 ≤ x.t.size ∧ x.t.size ≤ 131072)
def okB (x : Opr) : Bool := cpB x || inB x
/-- A delta that may be. -/
def rgB (xs : List Opr) : Bool := decide (xs.length ≤ 2000) && xs.all okB
/-- What it weighs. -/
def szF : List Opr → Nat
  | [] => 0
  | x :: r => 8 + x.t.size + szF r

theorem cpB_true {x : Opr} (h : cpB x = true) : 1 ≤ x.n ∧ x.n ≤ 131072 ∧ 0 ≤ x.f ∧ x.f ≤ 131072 ∧ x.t.size = 0 := by
  unfold cpB at h; exact of_decide_eq_true h
theorem inB_true {x : Opr} (h : inB x = true) : x.n = 0 ∧ x.f = 0 ∧ 1 ≤ x.t.size ∧ x.t.size ≤ 131072 := by
  unfold inB at h; exact of_decide_eq_true h
theorem cpB_not {x : Opr} (h : inB x = true) : cpB x = false := by
  have := inB_true h
  unfold cpB; exact decide_eq_false (by omega)
theorem cp_of_not {x : Opr} (h : okB x = true) (hn : inB x = false) : cpB x = true := by
  unfold okB at h; rw [hn, Bool.or_false] at h; exact h
theorem rgB_true {xs : List Opr} (h : rgB xs = true) : xs.length ≤ 2000 ∧ ∀ (j : Nat) (x : Opr), xs[j]? = some x → okB x = true := by
  unfold rgB at h
  rw [Bool.and_eq_true, List.all_eq_true] at h
  exact ⟨of_decide_eq_true h.1, fun j x hx => h.2 x (List.mem_of_getElem? hx)⟩
theorem rgB_mk {xs : List Opr} (h1 : xs.length ≤ 2000) (h2 : ∀ (j : Nat) (x : Opr), xs[j]? = some x → okB x = true) : rgB xs = true := by
  unfold rgB
  rw [Bool.and_eq_true, List.all_eq_true]
  exact ⟨decide_eq_true h1, fun x hx => by obtain ⟨j, hj⟩ := List.mem_iff_getElem?.1 hx; exact h2 j x hj⟩
theorem rgB_long {xs : List Opr} (h : 2000 < xs.length) : rgB xs = false := by
  unfold rgB; rw [decide_eq_false (by omega)]; rfl
theorem rgB_bad {xs : List Opr} {j : Nat} {x : Opr} (hx : xs[j]? = some x) (h : okB x = false) : rgB xs = false := by
  cases hr : rgB xs with
  | false => rfl
  | true => have := (rgB_true hr).2 j x hx; rw [h] at this; cases this
theorem okB_size {x : Opr} (h : okB x = true) : x.t.size ≤ 131072 := by
  unfold okB at h
  rw [Bool.or_eq_true] at h
  rcases h with h | h
  · have := cpB_true h; omega
  · have := inB_true h; omega
theorem szF_append (xs ys : List Opr) : szF (xs ++ ys) = szF xs + szF ys := by
  induction xs with
  | nil => simp [szF]
  | cons x r ih => simp only [List.cons_append, szF, ih]; omega
theorem szF_le : ∀ {xs : List Opr}, (∀ (j : Nat) (x : Opr), xs[j]? = some x → okB x = true) → szF xs ≤ xs.length * 131080
  | [], _ => by simp [szF]
  | x :: r, h => by
    have h1 := okB_size (h 0 x rfl)
    have h2 := szF_le (xs := r) (fun j y hy => h (j + 1) y (by simpa using hy))
    simp only [szF, List.length_cons]; omega
theorem take_succ_of {α : Type} {xs : List α} {k : Nat} {x : α} (h : xs[k]? = some x) : xs.take (k + 1) = xs.take k ++ [x] := by
  obtain ⟨hlt, rfl⟩ := List.getElem?_eq_some_iff.1 h
  exact List.take_succ_eq_append_getElem hlt
theorem drop_of {α : Type} {xs : List α} {k : Nat} {x : α} (h : xs[k]? = some x) : xs.drop k = x :: xs.drop (k + 1) := by
  obtain ⟨hlt, rfl⟩ := List.getElem?_eq_some_iff.1 h
  exact List.drop_eq_getElem_cons hlt
theorem szF_take {xs : List Opr} {k : Nat} {x : Opr} (h : xs[k]? = some x) : szF (xs.take (k + 1)) = szF (xs.take k) + (8 + x.t.size) := by
  rw [take_succ_of h, szF_append]; simp [szF]

/-- What an operation yields, and whether it fits. -/
def outF (old : BA) (x : Opr) : BA := if inB x then x.t else old.extract x.f.toNat (x.f + x.n).toNat
def fitB (old : BA) (x : Opr) : Bool := inB x || decide (x.f + x.n ≤ (old.size : Int))
/-- The operations, one behind the other. -/
def runF (old : BA) (m : Nat) : List Opr → List UInt8 → List UInt8 × Int
  | [], acc => (acc, 0)
  | x :: r, acc => if fitB old x then (if acc.length + (outF old x).size ≤ m then runF old m r (acc ++ (outF old x).data.toList) else ([], 2)) else ([], 70)
def mostF (n : Int) : Nat := (min (max n 0) 1048576).toNat
theorem mostF_le (n : Int) : mostF n ≤ 1048576 := by unfold mostF; omega
/-- What Apply answers. -/
def appF (old : BA) (xs : List Opr) (most : Int) : BA × Int :=
  if rgB xs then (⟨(runF old (mostF most) xs []).1.toArray⟩, (runF old (mostF most) xs []).2) else (⟨#[]⟩, 70)
theorem runF_bad {old : BA} {m : Nat} {xs : List Opr} {k : Nat} {x : Opr} {acc : List UInt8} (hx : xs[k]? = some x) (h : fitB old x = false) : runF old m (xs.drop k) acc = ([], 70) := by
  rw [drop_of hx, runF, h]; rfl
theorem runF_long {old : BA} {m : Nat} {xs : List Opr} {k : Nat} {x : Opr} {acc : List UInt8} (hx : xs[k]? = some x) (h : fitB old x = true) (hl : m < acc.length + (outF old x).size) : runF old m (xs.drop k) acc = ([], 2) := by
  rw [drop_of hx, runF, h, if_pos rfl, if_neg (by omega)]
theorem runF_step {old : BA} {m : Nat} {xs : List Opr} {k : Nat} {x : Opr} {acc : List UInt8} (hx : xs[k]? = some x) (h : fitB old x = true) (hl : acc.length + (outF old x).size ≤ m) : runF old m (xs.drop k) acc = runF old m (xs.drop (k + 1)) (acc ++ (outF old x).data.toList) := by
  rw [drop_of hx, runF, h, if_pos rfl, if_pos hl]
theorem runF_end {old : BA} {m : Nat} {xs : List Opr} {k : Nat} {acc : List UInt8} (hk : xs.length ≤ k) : runF old m (xs.drop k) acc = (acc, 0) := by
  rw [List.drop_eq_nil_of_le hk, runF]
theorem appF_yes {old : BA} {xs : List Opr} {most : Int} {l : List UInt8} {e : Int} (hr : rgB xs = true) (h : runF old (mostF most) xs [] = (l, e)) : appF old xs most = (⟨l.toArray⟩, e) := by
  unfold appF; rw [if_pos hr, h]
theorem appF_no {old : BA} {xs : List Opr} {most : Int} (hr : rgB xs = false) : appF old xs most = (⟨#[]⟩, 70) := by
  unfold appF; rw [hr]; rfl
/-- At most sixty, or too many. -/
def fewL (xs : List Opr) : List Opr := if 60 < xs.length ∧ xs.length ≤ 2000 then xs.take 60 else xs
theorem fewL_len (xs : List Opr) : (fewL xs).length ≤ 60 ∨ 2000 < (fewL xs).length := by
  unfold fewL
  split
  · rw [List.length_take]; omega
  · omega
end Go.Proofs.YtmagcikaepobiaaDoor.Dl
