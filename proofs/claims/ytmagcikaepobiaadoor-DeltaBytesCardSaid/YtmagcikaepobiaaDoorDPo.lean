/- What Parse tells: mathematics. -/
import Derived.Test.YtmagcikaepobiaaDoorEnc
import Derived.Test.YtmagcikaepobiaaDoorOpr
namespace Go.Proofs.YtmagcikaepobiaaDoor.Dl

/- What Parse tells: mathematics. -/
def isOffT : Tree → Bool
  | .num n => decide (0 ≤ n) && decide (n ≤ 131072)
  | _ => false
def numT : Tree → Int
  | .num n => n
  | _ => 0
/-- An operation out of a value. -/
def opOf : Tree → Option Opr
  | .num _ => none
  | .text bs => some ⟨0, 0, ⟨bs.toArray⟩⟩
  | .list ts => match ts with
    | [x, y] => if isOffT x && isOffT y then some ⟨numT x, numT y, ⟨#[]⟩⟩ else none
    | _ => none
def opsOf : List Tree → Option (List Opr)
  | [] => some []
  | t :: r => match opOf t with
    | some x => match opsOf r with
      | some xs => some (x :: xs)
      | none => none
    | none => none
/-- What Parse answers. -/
def parF (l : List UInt8) : List Opr × Nat := match getF l with
  | .bad e _ => ([], e)
  | .ok t _ => match t with
    | .list ts => match opsOf ts with
      | some xs => if rgB xs then (xs, 0) else ([], 70)
      | none => ([], 70)
    | _ => ([], 70)
theorem off_num {t : Tree} (h : isOffT t = true) : ∃ n, t = .num n ∧ 0 ≤ n ∧ n ≤ 131072 := by
  cases t with
  | num n => simp only [isOffT, Bool.and_eq_true, decide_eq_true_eq] at h; exact ⟨n, rfl, h⟩
  | text _ => cases h
  | list _ => cases h
theorem op_size {t : Tree} {x : Opr} (h : opOf t = some x) : x.t.size ≤ (enc t).length := by
  cases t with
  | num _ => cases h
  | text bs =>
    obtain rfl := Option.some.inj h
    rw [enc, List.length_append, List.length_cons]
    show (⟨bs.toArray⟩ : BA).size ≤ _
    rw [← BA.len]
    simp only
    omega
  | list ts =>
    match ts, h with
    | [], h => cases h
    | [_], h => cases h
    | _ :: _ :: _ :: _, h => cases h
    | [a, b], h =>
      simp only [opOf] at h
      split at h
      · obtain rfl := Option.some.inj h; exact Nat.zero_le _
      · cases h
theorem encL_get : ∀ {ts : List Tree} {k : Nat} {t : Tree}, ts[k]? = some t → (enc t).length ≤ (encL ts).length
  | u :: r, 0, t, h => by
    obtain rfl : u = t := by simpa using h
    rw [encL, List.length_append]; omega
  | u :: r, k + 1, t, h => by
    have := encL_get (ts := r) (k := k) (t := t) (by simpa using h)
    rw [encL, List.length_append]; omega
theorem ops_len : ∀ {ts : List Tree} {xs : List Opr}, opsOf ts = some xs → xs.length = ts.length
  | [], xs, h => by obtain rfl := Option.some.inj h; rfl
  | t :: r, xs, h => by
    rw [opsOf] at h
    cases ho : opOf t with
    | none => rw [ho] at h; cases h
    | some x =>
      rw [ho] at h
      simp only at h
      cases hr : opsOf r with
      | none => rw [hr] at h; cases h
      | some ys =>
        rw [hr] at h
        obtain rfl := Option.some.inj h
        rw [List.length_cons, List.length_cons, ops_len hr]
theorem ops_snoc {ts : List Tree} {t : Tree} {xs : List Opr} {x : Opr} (h : opsOf ts = some xs) (hx : opOf t = some x) : opsOf (ts ++ [t]) = some (xs ++ [x]) := by
  induction ts generalizing xs with
  | nil =>
    obtain rfl := Option.some.inj h
    show opsOf [t] = some [x]
    rw [opsOf, hx]; rfl
  | cons u r ih =>
    rw [opsOf] at h
    rw [List.cons_append, opsOf]
    cases ho : opOf u with
    | none => rw [ho] at h; cases h
    | some y =>
      rw [ho] at h
      simp only at h ⊢
      cases hr : opsOf r with
      | none => rw [hr] at h; cases h
      | some ys =>
        rw [hr] at h
        obtain rfl := Option.some.inj h
        rw [ih hr]; rfl
theorem ops_none {ts : List Tree} {k : Nat} {t : Tree} (h : ts[k]? = some t) (ho : opOf t = none) : opsOf ts = none := by
  induction ts generalizing k with
  | nil => simp at h
  | cons u r ih =>
    rw [opsOf]
    cases k with
    | zero =>
      obtain rfl : u = t := by simpa using h
      rw [ho]
    | succ k =>
      rw [ih (k := k) (by simpa using h)]
      cases opOf u <;> rfl
end Go.Proofs.YtmagcikaepobiaaDoor.Dl
