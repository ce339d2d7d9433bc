/- What is parsed and written: mathematics. -/
import Derived.Test.YtmagcikaepobiaaDoorDPo
import Derived.Test.YtmagcikaepobiaaDoorBIx
namespace Go.Proofs.YtmagcikaepobiaaDoor.Dl

theorem inB_nil {a b : Int} : inB ⟨a, b, ⟨#[]⟩⟩ = false := by
  cases h : inB ⟨a, b, ⟨#[]⟩⟩ with
  | false => rfl
  | true => have := (inB_true h).2.2.1; simp [ByteArray.size] at this
theorem op_back {t : Tree} {x : Opr} (h : opOf t = some x) (hx : okB x = true) : opT x = t := by
  cases t with
  | num _ => cases h
  | text bs =>
    obtain rfl := Option.some.inj h
    have hi : inB ⟨0, 0, ⟨bs.toArray⟩⟩ = true := by
      cases hi : inB ⟨0, 0, ⟨bs.toArray⟩⟩ with
      | true => rfl
      | false => have := (cpB_true (cp_of_not hx hi)).1; simp only at this; omega
    rw [opT_in hi]
  | list ts =>
    match ts, h with
    | [], h => cases h
    | [_], h => cases h
    | _ :: _ :: _ :: _, h => cases h
    | [a, b], h =>
      simp only [opOf] at h
      split at h
      · rename_i hc
        rw [Bool.and_eq_true] at hc
        obtain ⟨n, rfl, -⟩ := off_num hc.1
        obtain ⟨m, rfl, -⟩ := off_num hc.2
        obtain rfl := Option.some.inj h
        rw [opT_cp inB_nil]; rfl
      · cases h
theorem op_of {x : Opr} (h : okB x = true) : opOf (opT x) = some x := by
  cases hi : inB x with
  | true =>
    obtain ⟨h1, h2, -⟩ := inB_true hi
    rw [opT_in hi]
    obtain ⟨f, n, t⟩ := x
    simp only at h1 h2
    subst h1 h2
    show some _ = some _
    rw [BA.back]
  | false =>
    obtain ⟨h1, h2, h3, h4, h5⟩ := cpB_true (cp_of_not h hi)
    rw [opT_cp hi]
    obtain ⟨f, n, t⟩ := x
    simp only at h1 h2 h3 h4 h5
    have ht : t = ⟨#[]⟩ := BA.ext (by
      have : t.data.toList.length = 0 := by rw [BA.len]; exact h5
      rw [List.length_eq_zero_iff.1 this])
    subst ht
    have hf : isOffT (.num f) = true := by simp [isOffT]; omega
    have hn : isOffT (.num n) = true := by simp [isOffT]; omega
    show (if isOffT (.num f) && isOffT (.num n) then some (⟨f, n, ⟨#[]⟩⟩ : Opr) else none) = _
    rw [hf, hn]; rfl
theorem ops_back : ∀ {ts : List Tree} {xs : List Opr}, opsOf ts = some xs → (∀ x ∈ xs, okB x = true) → xs.map opT = ts
  | [], xs, h, _ => by obtain rfl := Option.some.inj h; rfl
  | t :: r, xs, h, hk => by
    rw [opsOf] at h
    cases ho : opOf t with
    | none => rw [ho] at h; cases h
    | some x =>
      rw [ho] at h
      simp only at h
      cases hr : opsOf r with
      | none => rw [hr] at h; cases h
      | some ys =>
        rw [hr] at h
        obtain rfl := Option.some.inj h
        rw [List.map_cons, op_back ho (hk x (List.mem_cons_self)), ops_back hr (fun y hy => hk y (List.mem_cons_of_mem _ hy))]
theorem ops_of : ∀ {xs : List Opr}, (∀ x ∈ xs, okB x = true) → opsOf (xs.map opT) = some xs
  | [], _ => rfl
  | x :: r, h => by
    rw [List.map_cons, opsOf, op_of (h x (List.mem_cons_self)), ops_of (fun y hy => h y (List.mem_cons_of_mem _ hy))]
theorem all_ok {xs : List Opr} (h : rgB xs = true) : ∀ x ∈ xs, okB x = true := fun x hx => by
  obtain ⟨j, hj⟩ := List.mem_iff_getElem?.1 hx
  exact (rgB_true h).2 j x hj
theorem pz_op {x : Opr} (h : okB x = true) : Pz (opT x) := by
  cases hi : inB x with
  | true =>
    rw [opT_in hi, Pz, BA.len]
    have := inB_true hi; omega
  | false =>
    have := cpB_true (cp_of_not h hi)
    rw [opT_cp hi, Pz, PzL, PzL, PzL, Pz, Pz]; exact ⟨by omega, by omega, trivial⟩
theorem pz_ops : ∀ {xs : List Opr}, (∀ x ∈ xs, okB x = true) → PzL (xs.map opT)
  | [], _ => by rw [List.map_nil, PzL]; trivial
  | x :: r, h => by rw [List.map_cons, PzL]; exact ⟨pz_op (h x (List.mem_cons_self)), pz_ops (fun y hy => h y (List.mem_cons_of_mem _ hy))⟩
theorem par_bytes {xs : List Opr} (h : rgB xs = true) (hb : (enc (treeD xs)).length ≤ 131072) (hn : nodes (treeD xs) ≤ 4000) : parF (enc (treeD xs)) = (xs, 0) := by
  obtain ⟨h1, -, h2⟩ := tree_ok h
  have hp : Pz (treeD xs) := by unfold treeD; rw [Pz]; exact pz_ops (all_ok h)
  unfold parF
  rw [getF_enc hb hn h2 hp h1]
  simp only [treeD]
  rw [ops_of (all_ok h)]
  simp only
  rw [if_pos h]
theorem par_back {l : List UInt8} {ys : List Opr} (h : parF l = (ys, 0)) : rgB ys = true ∧ putF (treeD ys) = (l, 0) ∧ nodes (treeD ys) ≤ 4000 := by
  unfold parF at h
  cases hg : getF l with
  | bad e k =>
    rw [hg] at h
    have := (getF_bad hg).2
    simp only [Prod.mk.injEq] at h
    omega
  | ok t k =>
    rw [hg] at h
    simp only at h
    obtain ⟨-, h1, h2, h3, -⟩ := getF_sound hg
    cases t with
    | num _ => simp at h
    | text _ => simp at h
    | list ts =>
      simp only at h
      cases ho : opsOf ts with
      | none => rw [ho] at h; simp at h
      | some xs =>
        rw [ho] at h
        simp only at h
        split at h
        · rename_i hr
          injection h with h4 h5
          subst h4
          have hb := ops_back ho (all_ok hr)
          have ht : treeD xs = .list ts := by unfold treeD; rw [hb]
          rw [ht]
          exact ⟨hr, by rw [putF_yes (by rw [h1]; exact h2), h1], h3⟩
        · simp at h
theorem par_bad {l : List UInt8} (h : (parF l).2 ≠ 0) : (parF l).1 = [] := by
  unfold parF at h ⊢
  split
  · rfl
  · split
    · split
      · split
        · rename_i h1 _ _ _ h2 _ _ h3 h4
          exfalso; apply h
          simp only [*, if_true]
        · rfl
      · rfl
    · rfl
end Go.Proofs.YtmagcikaepobiaaDoor.Dl
