/- Disks: which may be, what a call makes of one, a crash; mathematics alone. -/
import Derived.WalkKit
import Derived.Laws.Cover1
import Derived.Lib.Bytealg
namespace Go.Proofs.Ytmhdodiipkkjpaa.Dk

abbrev BA := ByteArray
theorem baExt {a b : BA} (h : a.toList = b.toList) : a = b := by
  rw [ByteArray.toList_eq, ByteArray.toList_eq] at h
  exact ByteArray.ext (Array.toList_inj.1 h)
theorem bl_irr : ∀ x : List UInt8, Op.bytesLess x x = false
  | [] => rfl
  | a :: x => by rw [Op.bytesLess, bl_irr x]; simp
theorem bl_trans : ∀ x y z : List UInt8, Op.bytesLess x y = true → Op.bytesLess y z = true → Op.bytesLess x z = true
  | [], [], _, h, _ => by simp [Op.bytesLess] at h
  | [], _ :: _, [], _, h => by simp [Op.bytesLess] at h
  | [], _ :: _, _ :: _, _, _ => rfl
  | _ :: _, [], _, h, _ => by simp [Op.bytesLess] at h
  | _ :: _, _ :: _, [], _, h => by simp [Op.bytesLess] at h
  | a :: x, b :: y, c :: z, h, k => by
    rw [Op.bytesLess] at h k ⊢
    simp only [Bool.or_eq_true, Bool.and_eq_true, decide_eq_true_eq, beq_iff_eq] at h k ⊢
    rcases h with h | ⟨rfl, h⟩
    · rcases k with k | ⟨rfl, k⟩
      · exact .inl (UInt8.lt_trans h k)
      · exact .inl h
    · rcases k with k | ⟨rfl, k⟩
      · exact .inl k
      · exact .inr ⟨rfl, bl_trans x y z h k⟩
theorem bl_tri : ∀ x y : List UInt8, Op.bytesLess x y = false → Op.bytesLess y x = false → x = y
  | [], [], _, _ => rfl
  | [], _ :: _, h, _ => by simp [Op.bytesLess] at h
  | _ :: _, [], _, h => by simp [Op.bytesLess] at h
  | a :: x, b :: y, h, k => by
    rw [Op.bytesLess] at h k
    simp only [Bool.or_eq_false_iff, Bool.and_eq_false_iff, decide_eq_false_iff_not, beq_eq_false_iff_ne] at h k
    have hab : a = b := by
      have h1 := h.1
      have h2 := k.1
      rw [UInt8.lt_iff_toNat_lt] at h1 h2
      exact UInt8.toNat_inj.1 (by omega)
    subst hab
    have h3 : Op.bytesLess x y = false := by
      rcases h.2 with h | h
      · exact absurd rfl h
      · exact h
    have h4 : Op.bytesLess y x = false := by
      rcases k.2 with h | h
      · exact absurd rfl h
      · exact h
    rw [bl_tri x y h3 h4]

/-- A key ahead of another one. -/
def ltB (a b : BA) : Bool := Op.bytesLess a.toList b.toList
theorem ltB_irr (a : BA) : ltB a a = false := bl_irr _
theorem ltB_trans {a b c : BA} (h : ltB a b = true) (k : ltB b c = true) : ltB a c = true := bl_trans _ _ _ h k
theorem ltB_tri {a b : BA} (h : ltB a b = false) (k : ltB b a = false) : a = b := baExt (bl_tri _ _ h k)


/-- A file. -/
structure Fil where
  nm : BA
  sy : BA
  tl : BA
theorem Fil.ext3 {a b : Fil} (h1 : a.nm = b.nm) (h2 : a.sy = b.sy) (h3 : a.tl = b.tl) : a = b := by cases a; cases b; simp_all
/-- A disk. -/
structure Dsk where
  room : Int
  fs : List Fil
  left : Int
  down : Bool
abbrev zeroD : Dsk := ⟨0, [], 0, false⟩
/-- A byte of a file's name. -/
def isNc (c : UInt8) : Bool := (decide (97 ≤ c.toNat) && decide (c.toNat ≤ 122)) || (decide (48 ≤ c.toNat) && decide (c.toNat ≤ 57)) || c == 46
def nmB (s : BA) : Bool := decide (1 ≤ s.size) && decide (s.size ≤ 16) && s.data.toList.all isNc
def nmsB (l : List BA) : Bool := l.all nmB
def sizF : List Fil → Nat
  | [] => 0
  | x :: r => x.sy.size + x.tl.size + sizF r
def lfB (n : Int) : Bool := decide (-1 ≤ n) && decide (n ≤ 1073741824)
theorem lfB_iff {n : Int} : lfB n = true ↔ -1 ≤ n ∧ n ≤ 1073741824 := by unfold lfB; simp
def SrtF (l : List Fil) : Prop := l.Pairwise (fun a b => ltB a.nm b.nm = true)
/-- Files that a disk may have. -/
structure RgtF (l : List Fil) : Prop where
  len : l.length ≤ 8
  nms : ∀ f, f ∈ l → nmB f.nm = true
  srt : SrtF l
/-- A disk that may be. -/
structure RgtD (d : Dsk) : Prop where
  lo : 0 ≤ d.room
  hi : d.room ≤ 1048576
  fs : RgtF d.fs
  sz : (sizF d.fs : Int) ≤ d.room
  left : lfB d.left = true
theorem nmB_size {s : BA} (h : nmB s = true) : 1 ≤ s.size ∧ s.size ≤ 16 := by
  unfold nmB at h
  simp only [Bool.and_eq_true, decide_eq_true_eq] at h
  exact h.1
def findF (l : List Fil) (n : BA) : Option Fil := l.find? (fun x => decide (x.nm = n))
def outF (l : List Fil) (n : BA) : List Fil := l.filter (fun x => !decide (x.nm = n))
/-- Into its place. -/
def insN (x : Fil) : List Fil → List Fil
  | [] => [x]
  | y :: r => if ltB y.nm x.nm = true then y :: insN x r else x :: y :: r
def withF (l : List Fil) (x : Fil) : List Fil := insN x (outF l x.nm)
/-- What is carried out. -/
def exeF (d : Dsk) (on off : List Fil) : Dsk × Nat :=
  if d.left = 0 then (⟨d.room, off, 0, true⟩, 132) else (⟨d.room, on, if 0 < d.left then d.left - 1 else d.left, d.down⟩, 0)
open Classical in
/-- The file of a name, or why there is none. -/
noncomputable def findE (d : Dsk) (ns : List BA) (n : BA) : Except Nat Fil :=
  if RgtD d ∧ nmsB ns = true then (if d.down = true then .error 132 else match findF d.fs n with
    | some f => .ok f
    | none => .error 60) else .error 1
/-- What is written, behind the look for the file. -/
def putF (d : Dsk) (f : Fil) (m : BA) : Dsk × Nat :=
  if d.room - sizF d.fs < m.size then (zeroD, 130) else exeF d (withF d.fs ⟨f.nm, f.sy, f.tl ++ m⟩) (withF d.fs ⟨f.nm, f.sy, f.tl ++ m⟩)
abbrev noB : BA := ⟨#[]⟩
noncomputable def writeF (d : Dsk) (n m : BA) : Dsk × Nat := match findE d [n] n with
  | .ok f => putF d f m
  | .error k => if k = 60 ∧ d.fs.length < 8 then putF d ⟨n, noB, noB⟩ m else (zeroD, if k = 60 then 130 else k)
noncomputable def syncF (d : Dsk) (n : BA) : Dsk × Nat := match findE d [n] n with
  | .error k => (zeroD, k)
  | .ok f => exeF d (withF d.fs ⟨f.nm, f.sy ++ f.tl, noB⟩) d.fs
noncomputable def renF (d : Dsk) (n m : BA) : Dsk × Nat := match findE d [n, m] n with
  | .error k => (zeroD, k)
  | .ok f => if f.tl.size ≠ 0 then (zeroD, 131) else exeF d (withF (outF d.fs n) ⟨m, f.sy, f.tl⟩) d.fs
noncomputable def remF (d : Dsk) (n : BA) : Dsk × Nat := match findE d [n] n with
  | .error k => (zeroD, k)
  | .ok _ => exeF d (outF d.fs n) d.fs
noncomputable def readF (d : Dsk) (n : BA) : BA × Nat := match findE d [n] n with
  | .error k => (noB, k)
  | .ok f => (f.sy ++ f.tl, 0)
open Classical in
noncomputable def cutF (d : Dsk) (left : Int) : Dsk × Nat :=
  if RgtD d ∧ lfB left = true then (if d.down = true then (zeroD, 132) else (⟨d.room, d.fs, left, d.down⟩, 0)) else (zeroD, 1)
/-- How much of a tail stays. -/
def lastF (keep : List Int) (i n : Nat) : Nat := match keep[i]? with
  | none => 0
  | some k => min k.toNat n
def crF (f : Fil) (n : Nat) : Fil := ⟨f.nm, f.sy ++ f.tl.extract 0 n, noB⟩
def crFs (keep : List Int) (l : List Fil) : List Fil := l.mapIdx fun i f => crF f (lastF keep i f.tl.size)
open Classical in
noncomputable def crashF (d : Dsk) (keep : List Int) : Dsk × Nat :=
  if RgtD d then (⟨d.room, crFs keep d.fs, -1, false⟩, 0) else (zeroD, 1)
noncomputable def callF (what : Int) (d : Dsk) (n m : BA) : Dsk × Nat :=
  if what = 1 then writeF d n m else if what = 2 then syncF d n else if what = 3 then renF d n m else remF d n

theorem zero_right : RgtD zeroD := ⟨Int.le_refl _, by decide, ⟨by simp, fun f h => (by cases h), List.Pairwise.nil⟩, by simp [sizF], by decide⟩
theorem mem_ins {x e : Fil} : ∀ {l : List Fil}, e ∈ insN x l → e = x ∨ e ∈ l
  | [], h => by rw [insN] at h; exact .inl (by simpa using h)
  | y :: r, h => by
    rw [insN] at h
    split at h
    · rcases List.mem_cons.1 h with rfl | h
      · exact .inr (by simp)
      · rcases mem_ins h with h | h
        · exact .inl h
        · exact .inr (by simp [h])
    · rcases List.mem_cons.1 h with rfl | h
      · exact .inl rfl
      · exact .inr h
theorem mem_out {l : List Fil} {n : BA} {e : Fil} : e ∈ outF l n ↔ e ∈ l ∧ e.nm ≠ n := by
  unfold outF; simp [List.mem_filter]
theorem srt_out {l : List Fil} (h : SrtF l) (n : BA) : SrtF (outF l n) := List.Pairwise.filter _ h
theorem srt_ins {x : Fil} : ∀ {l : List Fil}, SrtF l → (∀ e, e ∈ l → e.nm ≠ x.nm) → SrtF (insN x l)
  | [], _, _ => by rw [insN]; exact List.pairwise_singleton _ _
  | y :: r, h, hne => by
    unfold SrtF at h
    rw [List.pairwise_cons] at h
    rw [insN]
    split
    · rename_i hy
      refine List.pairwise_cons.2 ⟨fun e he => ?_, srt_ins h.2 (fun e he => hne e (by simp [he]))⟩
      rcases mem_ins he with rfl | he
      · exact hy
      · exact h.1 e he
    · rename_i hy
      have hxy : ltB x.nm y.nm = true := by
        cases hc : ltB x.nm y.nm with
        | true => rfl
        | false => exact absurd (ltB_tri (by simpa using hy) hc) (hne y (by simp))
      refine List.pairwise_cons.2 ⟨fun e he => ?_, List.pairwise_cons.2 h⟩
      rcases List.mem_cons.1 he with rfl | he
      · exact hxy
      · exact ltB_trans hxy (h.1 e he)
theorem len_ins (x : Fil) : ∀ l : List Fil, (insN x l).length = l.length + 1
  | [] => rfl
  | y :: r => by
    rw [insN]
    split
    · rw [List.length_cons, len_ins x r, List.length_cons]
    · rfl
theorem siz_ins (x : Fil) : ∀ l : List Fil, sizF (insN x l) = x.sy.size + x.tl.size + sizF l
  | [] => rfl
  | y :: r => by
    rw [insN]
    split
    · rw [sizF, siz_ins x r, sizF]; omega
    · rfl
theorem len_out (l : List Fil) (n : BA) : (outF l n).length ≤ l.length := List.length_filter_le _ _
theorem siz_out (n : BA) : ∀ l : List Fil, sizF (outF l n) ≤ sizF l
  | [] => Nat.le_refl _
  | y :: r => by
    have := siz_out n r
    unfold outF at *
    rw [List.filter_cons]
    split
    · rw [sizF, sizF]; omega
    · rw [sizF]; omega
theorem findF_is {l : List Fil} {n : BA} {x : Fil} (h : findF l n = some x) : x ∈ l ∧ x.nm = n :=
  ⟨List.mem_of_find?_eq_some h, by simpa using List.find?_some h⟩
theorem findF_none {l : List Fil} {n : BA} : findF l n = none ↔ ∀ x, x ∈ l → x.nm ≠ n := by
  unfold findF
  rw [List.find?_eq_none]
  exact ⟨fun h x hx e => h x hx (by simpa using e), fun h x hx e => h x hx (by simpa using e)⟩
/-- With the file of a name taken out there is one less, and so many bytes less. -/
theorem out_found {n : BA} : ∀ {l : List Fil} {x : Fil}, findF l n = some x → (outF l n).length + 1 ≤ l.length ∧ sizF (outF l n) + x.sy.size + x.tl.size ≤ sizF l
  | [], x, h => by simp [findF] at h
  | y :: r, x, h => by
    unfold findF at h
    rw [List.find?_cons] at h
    have h1 := len_out r n
    have h2 := siz_out n r
    split at h
    · rename_i hy
      obtain rfl : y = x := Option.some.inj h
      have e : outF (y :: r) n = outF r n := by unfold outF; rw [List.filter_cons, if_neg (by simpa using hy)]
      rw [e, sizF, List.length_cons]
      exact ⟨by omega, by omega⟩
    · rename_i hy
      have e : outF (y :: r) n = y :: outF r n := by unfold outF; rw [List.filter_cons, if_pos (by simpa using hy)]
      obtain ⟨h3, h4⟩ := out_found (l := r) h
      rw [e, sizF, sizF, List.length_cons, List.length_cons]
      exact ⟨by omega, by omega⟩
theorem find_ins {x : Fil} {n : BA} : ∀ {l : List Fil}, (∀ e, e ∈ l → e.nm ≠ x.nm) → findF (insN x l) n = if x.nm = n then some x else findF l n
  | [], _ => by
    rw [insN]
    unfold findF
    rw [List.find?_cons]
    by_cases h : x.nm = n <;> simp [h]
  | y :: r, hne => by
    have ih := find_ins (x := x) (n := n) (l := r) (fun e he => hne e (by simp [he]))
    have hy := hne y (by simp)
    rw [insN]
    unfold findF at *
    split
    · rw [List.find?_cons, ih, List.find?_cons]
      by_cases h : x.nm = n
      · have : decide (y.nm = n) = false := by simp; intro e; exact hy (e.trans h.symm)
        rw [this, if_pos h]
      · rw [if_neg h, if_neg h]
    · rw [List.find?_cons]
      by_cases h : x.nm = n
      · simp [h]
      · simp [h]
theorem out_ne {l : List Fil} {n : BA} : ∀ e, e ∈ outF l n → e.nm ≠ n := fun _ he => (mem_out.1 he).2
theorem find_out {l : List Fil} {n m : BA} : findF (outF l n) m = if m = n then none else findF l m := by
  by_cases h : m = n
  · subst h
    rw [if_pos rfl, findF_none]
    exact out_ne
  · rw [if_neg h]
    unfold findF outF
    induction l with
    | nil => rfl
    | cons y r ih =>
      rw [List.filter_cons, List.find?_cons]
      by_cases hy : y.nm = m
      · have h2 : (!decide (y.nm = n)) = true := by simp; intro e; exact h (hy.symm.trans e)
        rw [if_pos h2, List.find?_cons]
        simp [hy]
      · have h3 : decide (y.nm = m) = false := by simpa using hy
        rw [h3]
        split
        · rw [List.find?_cons, h3]; exact ih
        · exact ih
theorem find_with {l : List Fil} {x : Fil} {n : BA} : findF (withF l x) n = if x.nm = n then some x else findF l n := by
  unfold withF
  rw [find_ins out_ne]
  by_cases h : x.nm = n
  · rw [if_pos h, if_pos h]
  · rw [if_neg h, if_neg h, find_out, if_neg (fun e => h e.symm)]
theorem rgt_out {l : List Fil} (h : RgtF l) (n : BA) : RgtF (outF l n) := ⟨Nat.le_trans (len_out l n) h.len, fun f hf => h.nms f (mem_out.1 hf).1, srt_out h.srt n⟩
theorem rgt_with {l : List Fil} (h : RgtF l) {x : Fil} (hx : nmB x.nm = true) (hl : l.length < 8 ∨ ∃ f, findF l x.nm = some f) : RgtF (withF l x) := by
  refine ⟨?_, fun f hf => ?_, srt_ins (srt_out h.srt _) out_ne⟩
  · unfold withF
    rw [len_ins]
    rcases hl with hl | ⟨f, hf⟩
    · have := len_out l x.nm; omega
    · have := (out_found hf).1; have := h.len; omega
  · rcases mem_ins hf with rfl | hf
    · exact hx
    · exact h.nms f (mem_out.1 hf).1
theorem exe_right {d : Dsk} {on off : List Fil} (h : RgtD d) (h1 : RgtF on) (h2 : RgtF off) (s1 : (sizF on : Int) ≤ d.room) (s2 : (sizF off : Int) ≤ d.room) : RgtD (exeF d on off).1 := by
  have hl := lfB_iff.1 h.left
  unfold exeF
  split
  · exact ⟨h.lo, h.hi, h2, s2, lfB_iff.2 ⟨by simp only; omega, by simp only; omega⟩⟩
  · refine ⟨h.lo, h.hi, h1, s1, lfB_iff.2 ?_⟩
    simp only
    split <;> omega
theorem findE_ok {d : Dsk} {ns : List BA} {n : BA} {f : Fil} (h : findE d ns n = .ok f) : RgtD d ∧ nmsB ns = true ∧ d.down = false ∧ findF d.fs n = some f := by
  unfold findE at h
  split at h
  · rename_i hr
    split at h
    · cases h
    · rename_i hd
      split at h
      · rename_i g hg
        cases h
        exact ⟨hr.1, hr.2, by simpa using hd, hg⟩
      · cases h
  · cases h
theorem findE_err {d : Dsk} {ns : List BA} {n : BA} {k : Nat} (h : findE d ns n = .error k) : (k = 1 ∧ ¬ (RgtD d ∧ nmsB ns = true)) ∨ (k = 132 ∧ d.down = true) ∨ (k = 60 ∧ RgtD d ∧ nmsB ns = true ∧ d.down = false ∧ findF d.fs n = none) := by
  unfold findE at h
  split at h
  · rename_i hr
    split at h
    · rename_i hd
      cases h
      exact .inr (.inl ⟨rfl, hd⟩)
    · rename_i hd
      split at h
      · cases h
      · rename_i hg
        cases h
        exact .inr (.inr ⟨rfl, hr.1, hr.2, by simpa using hd, hg⟩)
  · rename_i hr
    cases h
    exact .inl ⟨rfl, hr⟩
theorem findE_up {d : Dsk} {ns : List BA} {n : BA} (h : RgtD d) (hn : nmsB ns = true) (hd : d.down = false) : findE d ns n = match findF d.fs n with
    | some f => .ok f
    | none => .error 60 := by
  unfold findE
  rw [if_pos ⟨h, hn⟩, if_neg (by simp [hd])]
theorem nms_one {n : BA} : nmsB [n] = nmB n := by unfold nmsB; simp
theorem nms_two {n m : BA} : nmsB [n, m] = (nmB n && nmB m) := by unfold nmsB; simp
theorem put_right {d : Dsk} {f : Fil} {m : BA} (h : RgtD d) (hn : nmB f.nm = true) (hl : findF d.fs f.nm = some f ∨ (findF d.fs f.nm = none ∧ d.fs.length < 8 ∧ f.sy.size = 0 ∧ f.tl.size = 0)) : RgtD (putF d f m).1 := by
  unfold putF
  split
  · exact zero_right
  · rename_i hs
    have hsz : (sizF (withF d.fs ⟨f.nm, f.sy, f.tl ++ m⟩) : Int) ≤ d.room := by
      unfold withF
      rw [siz_ins, ByteArray.size_append]
      rcases hl with hf | ⟨-, -, e1, e2⟩
      · have := (out_found hf).2; simp only; omega
      · have := siz_out f.nm d.fs; simp only; omega
    have hr : RgtF (withF d.fs ⟨f.nm, f.sy, f.tl ++ m⟩) := rgt_with h.fs hn (by
      rcases hl with hf | ⟨-, hl, -⟩
      · exact .inr ⟨f, hf⟩
      · exact .inl hl)
    exact exe_right h hr hr hsz hsz
theorem write_right {d : Dsk} {n m : BA} : RgtD (writeF d n m).1 := by
  unfold writeF
  split
  · rename_i f hf
    obtain ⟨h1, h2, -, h4⟩ := findE_ok hf
    have e := (findF_is h4).2
    rw [nms_one] at h2
    exact put_right h1 (by rw [e]; exact h2) (.inl (by rw [e]; exact h4))
  · rename_i k hk
    split
    · rename_i hc
      rcases findE_err hk with ⟨rfl, -⟩ | ⟨rfl, -⟩ | ⟨-, h1, h2, -, h4⟩
      · exact absurd hc.1 (by decide)
      · exact absurd hc.1 (by decide)
      · rw [nms_one] at h2
        exact put_right h1 h2 (.inr ⟨h4, hc.2, rfl, rfl⟩)
    · exact zero_right
theorem sync_right {d : Dsk} {n : BA} : RgtD (syncF d n).1 := by
  unfold syncF
  split
  · exact zero_right
  · rename_i f hf
    obtain ⟨h1, h2, -, h4⟩ := findE_ok hf
    have e := (findF_is h4).2
    rw [nms_one] at h2
    refine exe_right h1 (rgt_with h1.fs (by simp only; rw [e]; exact h2) (.inr ⟨f, by simp only; rw [e]; exact h4⟩)) h1.fs ?_ h1.sz
    unfold withF
    have := (out_found h4).2
    have hs := h1.sz
    rw [siz_ins, ByteArray.size_append]
    simp only
    rw [e]
    have : noB.size = 0 := rfl
    omega
theorem ren_right {d : Dsk} {n m : BA} : RgtD (renF d n m).1 := by
  unfold renF
  split
  · exact zero_right
  · rename_i f hf
    obtain ⟨h1, h2, -, h4⟩ := findE_ok hf
    rw [nms_two, Bool.and_eq_true] at h2
    split
    · exact zero_right
    · have h5 := out_found h4
      have h6 := h1.fs.len
      have hs := h1.sz
      refine exe_right h1 (rgt_with (rgt_out h1.fs n) h2.2 (.inl (by omega))) h1.fs ?_ h1.sz
      unfold withF
      have := siz_out m (outF d.fs n)
      rw [siz_ins]
      simp only
      omega
theorem rem_right {d : Dsk} {n : BA} : RgtD (remF d n).1 := by
  unfold remF
  split
  · exact zero_right
  · rename_i f hf
    obtain ⟨h1, h2, -, h4⟩ := findE_ok hf
    have := siz_out n d.fs
    have hs := h1.sz
    exact exe_right h1 (rgt_out h1.fs n) h1.fs (by omega) h1.sz
theorem call_right {what : Int} {d : Dsk} {n m : BA} : RgtD (callF what d n m).1 := by
  unfold callF
  split
  · exact write_right
  · split
    · exact sync_right
    · split
      · exact ren_right
      · exact rem_right
theorem cut_right {d : Dsk} {n : Int} : RgtD (cutF d n).1 := by
  unfold cutF
  split
  · rename_i h
    split
    · exact zero_right
    · exact ⟨h.1.lo, h.1.hi, h.1.fs, h.1.sz, h.2⟩
  · exact zero_right
theorem cr_siz (f : Fil) (n : Nat) (h : n ≤ f.tl.size) : (crF f n).sy.size + (crF f n).tl.size = f.sy.size + n := by
  unfold crF
  simp only
  rw [ByteArray.size_append, ByteArray.size_extract]
  have : noB.size = 0 := rfl
  omega
theorem last_le (keep : List Int) (i n : Nat) : lastF keep i n ≤ n := by
  unfold lastF
  split
  · omega
  · exact Nat.min_le_right _ _
theorem crs_len (keep : List Int) (l : List Fil) : (crFs keep l).length = l.length := by unfold crFs; simp
theorem crs_get {keep : List Int} {l : List Fil} {i : Nat} {f : Fil} (h : l[i]? = some f) : (crFs keep l)[i]? = some (crF f (lastF keep i f.tl.size)) := by
  unfold crFs
  rw [List.getElem?_mapIdx, h]; rfl
theorem siz_mapIdx : ∀ (l : List Fil) (g : Nat → Fil → Fil), (∀ i f, (g i f).sy.size + (g i f).tl.size ≤ f.sy.size + f.tl.size) → sizF (l.mapIdx g) ≤ sizF l
  | [], _, _ => by simp
  | x :: r, g, h => by
    rw [List.mapIdx_cons, sizF, sizF]
    have h1 := h 0 x
    have h2 := siz_mapIdx r (fun i => g (i + 1)) (fun i f => h (i + 1) f)
    omega
theorem crs_siz (keep : List Int) (l : List Fil) : sizF (crFs keep l) ≤ sizF l := siz_mapIdx l _ (fun i f => by
  have h1 := last_le keep i f.tl.size
  rw [cr_siz f _ h1]; omega)
theorem crs_rgt {keep : List Int} {l : List Fil} (h : RgtF l) : RgtF (crFs keep l) := by
  refine ⟨by rw [crs_len]; exact h.len, fun f hf => ?_, ?_⟩
  · obtain ⟨i, hi, rfl⟩ := List.getElem_of_mem hf
    have hl : i < l.length := by rw [crs_len] at hi; exact hi
    have := crs_get (keep := keep) (List.getElem?_eq_getElem hl)
    rw [List.getElem?_eq_getElem hi] at this
    rw [Option.some.inj this]
    exact h.nms (l[i]'hl) (List.getElem_mem hl)
  · unfold SrtF
    rw [List.pairwise_iff_getElem]
    intro i j hi hj hij
    have hl : i < l.length := by rw [crs_len] at hi; exact hi
    have hm : j < l.length := by rw [crs_len] at hj; exact hj
    have e1 := crs_get (keep := keep) (List.getElem?_eq_getElem hl)
    have e2 := crs_get (keep := keep) (List.getElem?_eq_getElem hm)
    rw [List.getElem?_eq_getElem hi] at e1
    rw [List.getElem?_eq_getElem hj] at e2
    rw [Option.some.inj e1, Option.some.inj e2]
    exact List.pairwise_iff_getElem.1 h.srt i j hl hm hij
theorem crash_right {d : Dsk} {keep : List Int} : RgtD (crashF d keep).1 := by
  unfold crashF
  split
  · rename_i h
    have := crs_siz keep d.fs
    have hs := h.sz
    exact ⟨h.lo, h.hi, crs_rgt h.fs, by simp only; omega, lfB_iff.2 ⟨by simp only; omega, by simp only; omega⟩⟩
  · exact zero_right
theorem ltB_ne {a b : BA} (h : ltB a b = true) : a ≠ b := fun e => by rw [e, ltB_irr] at h; cases h
/-- Where a name stands once. -/
theorem find_at {l : List Fil} (h : SrtF l) {i : Nat} {f : Fil} (hf : l[i]? = some f) : findF l f.nm = some f := by
  obtain ⟨hi, rfl⟩ := List.getElem?_eq_some_iff.1 hf
  unfold findF
  rw [List.find?_eq_some_iff_getElem]
  refine ⟨by simp, i, hi, rfl, fun j hj => ?_⟩
  have := ltB_ne (List.pairwise_iff_getElem.1 h j i (by omega) hi hj)
  simpa using this
theorem find_crs {keep : List Int} {l : List Fil} (_h : SrtF l) (hr : RgtF l) {n : BA} {f : Fil} (hf : findF l n = some f) : ∃ i, l[i]? = some f ∧ findF (crFs keep l) n = some (crF f (lastF keep i f.tl.size)) := by
  obtain ⟨h1, h2⟩ := findF_is hf
  obtain ⟨i, hi⟩ := List.getElem?_of_mem h1
  refine ⟨i, hi, ?_⟩
  have h3 := find_at (crs_rgt (keep := keep) hr).srt (crs_get (keep := keep) hi)
  rw [show (crF f (lastF keep i f.tl.size)).nm = n from h2] at h3
  exact h3
theorem find_crs_none {keep : List Int} {l : List Fil} {n : BA} (hf : findF l n = none) : findF (crFs keep l) n = none := by
  rw [findF_none] at hf ⊢
  intro x hx
  obtain ⟨i, hi, rfl⟩ := List.getElem_of_mem hx
  have hl : i < l.length := by rw [crs_len] at hi; exact hi
  have := crs_get (keep := keep) (List.getElem?_eq_getElem hl)
  rw [List.getElem?_eq_getElem hi] at this
  rw [Option.some.inj this]
  exact hf (l[i]'hl) (List.getElem_mem hl)
theorem app_nil (a : BA) : a ++ noB = a := by
  apply ByteArray.ext; simp
theorem nil_app (a : BA) : noB ++ a = a := by
  apply ByteArray.ext; simp
theorem nil_ext (n : Nat) : ByteArray.extract noB 0 n = noB := by
  apply ByteArray.ext; simp
end Go.Proofs.Ytmhdodiipkkjpaa.Dk
