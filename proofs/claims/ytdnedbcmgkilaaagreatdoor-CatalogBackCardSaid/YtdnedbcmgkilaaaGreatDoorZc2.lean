/- Package code's reader: the closure of Get, the list and its element: what the calls answer and leave. -/
import Derived.Laws.EntriesVeiled
import Derived.Test.YtdnedbcmgkilaaaGreatDoorZc1

section

namespace Go.Proofs.YtdnedbcmgkilaaaGreatDoor.Co
open Go.RowKit

abbrev readFn (c sb rb : Nat) : Value := .func (.func 68) #[] #[.pointer (some ⟨c, 0, none⟩), .pointer (some ⟨sb, 0, none⟩), .pointer (some ⟨rb, 0, none⟩)]
abbrev elemFn (rb lb : Nat) : Value := .func (.func 72) #[] #[.pointer (some ⟨rb, 0, none⟩), .pointer (some ⟨lb, 0, none⟩)]

/-- What the reader's closures hold on to. -/
structure Env (s : ByteArray) (c sb rb : Nat) (w : World) : Prop where
  hs : w.heap[sb]? = some (.cells #[.string s] 9 (0, 0))
  hr : w.heap[rb]? = some (.cells #[readFn c sb rb] 95 (0, 0))
def Cnt (c n : Nat) (w : World) : Prop := w.heap[c]? = some (.cells #[.int .i64 n] 3 (0, 0))

theorem lt_of_heap {w : World} {k : Nat} {o : Obj} (h : w.heap[k]? = some o) : k < w.heap.size := (Array.getElem?_eq_some_iff.1 h).1
theorem cell_of_heap {w : World} {k : Nat} {v : Value} {t : TypeId} (h : w.heap[k]? = some (.cells #[v] t (0, 0))) : w.cell? ⟨k, 0, none⟩ = some v := by simp [World.cell?, h]
theorem frozen_of_heap {w : World} {k : Nat} {cs : Array Value} {t : TypeId} (h : w.heap[k]? = some (.cells cs t (0, 0))) (i : Nat) : w.frozen? ⟨k, i, none⟩ = false := by simp [World.frozen?, h]

/-- What a reading answers and leaves. -/
def Post (r : Res × Nat) (c : Nat) (w : World) (e : Ending) (w' : World) : Prop :=
  (match r.1 with
   | .ok t k => ∃ v, e = .returned (.tuple #[v, .int .i64 0, .int .i64 k]) ∧ Rep w' (fun b => w.heap.size ≤ b ∧ b < w'.heap.size) t v
   | .bad er k => e = .returned (.tuple #[zeroV, .int .i64 er, .int .i64 k])) ∧
  Cnt c r.2 w' ∧ Fr (· = c) w w'

def ReadOK (s : ByteArray) (f : Nat) : Prop := ∀ (c sb rb i level count : Nat) (w : World), i ≤ s.size → level ≤ 31 → count ≤ 4000 → Env s c sb rb w → Cnt c count w → 2 * (s.size - i) + 1 ≤ f →
  Calls Tryz.prog 68 #[.int .i64 i, .int .i64 level, .pointer (some ⟨c, 0, none⟩), .pointer (some ⟨sb, 0, none⟩), .pointer (some ⟨rb, 0, none⟩)] w (Post (rdV s.data.toList f i level count) c w)
def ElemOK (s : ByteArray) (f : Nat) : Prop := ∀ (c sb rb lb i level count : Nat) (w : World), i ≤ s.size → level ≤ 30 → count ≤ 4000 → Env s c sb rb w → Cnt c count w → w.heap[lb]? = some (.cells #[.int .i64 level] 3 (0, 0)) → 2 * (s.size - i) + 1 ≤ f →
  Calls Tryz.prog 72 #[.int .i64 i, .pointer (some ⟨rb, 0, none⟩), .pointer (some ⟨lb, 0, none⟩)] w (Post (rdV s.data.toList f i (level + 1) count) c w)
def ListOK (s : ByteArray) (f : Nat) : Prop := ∀ (c sb rb lb i level count : Nat) (w : World), i ≤ s.size → level ≤ 30 → count ≤ 4000 → Env s c sb rb w → Cnt c count w → lb ≠ c → w.heap[lb]? = some (.cells #[.int .i64 level] 3 (0, 0)) → 2 * (s.size - i) + 2 ≤ f →
  Calls Tryz.prog 71 #[.string s, .int .i64 i, elemFn rb lb] w (Post (rdL s.data.toList f i level count []) c w)

theorem Env.fr {s : ByteArray} {c sb rb : Nat} {w w' : World} (h : Env s c sb rb w) (hc : ∃ n, Cnt c n w) (hf : Fr (· = c) w w') : Env s c sb rb w' := by
  obtain ⟨n, hn⟩ := hc
  unfold Cnt at hn
  have h1 : sb ≠ c := by
    intro e; subst e; have := h.hs; rw [hn] at this; injection this with this; injection this with _ this; cases this
  have h2 : rb ≠ c := by
    intro e; subst e; have := h.hr; rw [hn] at this; injection this with this; injection this with _ this; cases this
  exact ⟨(hf.block sb (lt_of_heap h.hs) h1).trans h.hs, (hf.block rb (lt_of_heap h.hr) h2).trans h.hr⟩
theorem Env.ne {s : ByteArray} {c sb rb : Nat} {w : World} (h : Env s c sb rb w) {n : Nat} (hn : Cnt c n w) : sb ≠ c ∧ rb ≠ c := by
  unfold Cnt at hn
  constructor
  · intro e; subst e; have := h.hs; rw [hn] at this; injection this with this; injection this with _ this; cases this
  · intro e; subst e; have := h.hr; rw [hn] at this; injection this with this; injection this with _ this; cases this
theorem Env.alloc {s : ByteArray} {c sb rb : Nat} {w : World} (h : Env s c sb rb w) (o : Obj) : Env s c sb rb (w.alloc o) :=
  ⟨(Below.heap_alloc _ _ _ (lt_of_heap h.hs)).trans h.hs, (Below.heap_alloc _ _ _ (lt_of_heap h.hr)).trans h.hr⟩
theorem Cnt.alloc {c n : Nat} {w : World} (h : Cnt c n w) (o : Obj) : Cnt c n (w.alloc o) := (Below.heap_alloc _ _ _ (lt_of_heap h)).trans h

/-- A reading in a world that has grown out of w, its answer then laid into a block of the call's own. -/
theorem Post.up {r : Res × Nat} {c h : Nat} {w W w1 w4 : World} {e : Ending} (hF : Fr (· = c) w W) (hp : Post r c W e w1) (hb : But h w1 w4) (h1 : w.heap.size ≤ h) (h2 : h < W.heap.size) (hc : c < w.heap.size) : Post r c w e w4 := by
  obtain ⟨hr, hn, hf⟩ := hp
  refine ⟨?_, (hb.block c (by omega)).trans hn, ?_⟩
  · split at hr
    · obtain ⟨v, he, hv⟩ := hr
      exact ⟨v, he, Rep.keep (fun g hg => hb.block g (by omega)) (fun g hg => ⟨by have := hF.size; omega, by rw [hb.size]; exact hg.2⟩) _ _ hv⟩
    · exact hr
  · have hx := hF.trans hf
    exact ⟨hb.os.trans hx.os, hb.tape.trans hx.tape, hb.output.trans hx.output, by rw [hb.size]; exact hx.size, fun k hk hk2 => (hb.block k (by omega)).trans (hx.block k hk hk2)⟩

theorem elem_ok {s : ByteArray} {f : Nat} (_ : s.size ≤ 131072) (hV : ReadOK s f) : ElemOK s f := by
  intro c sb rb lb i level count w hi hl hc env hcnt hlb hf
  have hlts := lt_of_heap env.hs
  have hltr := lt_of_heap env.hr
  have hltl := lt_of_heap hlb
  have hltc := lt_of_heap hcnt
  have hcr := cell_of_heap env.hr
  have hcl := cell_of_heap hlb
  have HV := Lib.hid hV
  have HE := Lib.hid env
  have HC := Lib.hid hcnt
  clear hV env hcnt hlb
  go_enter Tryz.func72, Tryz.ntmps72
  go_wp2_with fail
  refine (HV.out c sb rb i (level + 1) count _ hi (by omega) hc (HE.out.alloc _) (HC.out.alloc _) hf).mono ?_
  intro e w1 hp
  clear hcr hcl
  have hne : w.heap.size ≠ c := by omega
  have hblk := hp.2.2.block w.heap.size (by simp) hne
  rw [heap_alloc_new] at hblk
  have hsz := hp.2.2.size
  simp only [World.size_alloc] at hsz
  have hcell0 : w1.cell? ⟨w.heap.size, 0, none⟩ = some (.int .i64 0) := by simp [World.cell?, hblk]
  have hcell1 : w1.cell? ⟨w.heap.size, 1, none⟩ = some (.int .i64 0) := by simp [World.cell?, hblk]
  have hcell2 : w1.cell? ⟨w.heap.size, 2, none⟩ = some (.string ⟨#[]⟩) := by simp [World.cell?, hblk]
  have hcell3 : w1.cell? ⟨w.heap.size, 3, none⟩ = some (.slice none 0 0) := by simp [World.cell?, hblk]
  have hfz : ∀ j, w1.frozen? ⟨w.heap.size, j, none⟩ = false := frozen_of_heap hblk
  have HB := Lib.hid hblk
  have HP := Lib.hid hp
  generalize hr : rdV s.data.toList f i (level + 1) count = r at hp HP
  obtain ⟨r, cn⟩ := r
  have HR := Lib.hid hr
  clear hr hblk
  cases r with
  | ok t k =>
    obtain ⟨⟨v, rfl, hrep⟩, -, -⟩ := hp
    obtain ⟨kd, n0, b0, a0, len0, cap0, rfl⟩ := Rep.cells t v hrep
    clear hrep
    go_wp2
    have h4 := heap_put4 HB.out (.int .i64 kd) (.int .i64 n0) (.string b0) (.slice a0 len0 cap0)
    have hup := Post.up ((Fr.refl (· = c) w).alloc _) HP.out (But.put4 w.heap.size w1 (.int .i64 kd) (.int .i64 n0) (.string b0) (.slice a0 len0 cap0)) (Nat.le_refl _) (by simp) hltc
    generalize ((((w1.setCell ⟨w.heap.size, 0, none⟩ (.int .i64 kd)).setCell ⟨w.heap.size, 1, none⟩ (.int .i64 n0)).setCell ⟨w.heap.size, 2, none⟩ (.string b0)).setCell ⟨w.heap.size, 3, none⟩ (.slice a0 len0 cap0)) = w4 at h4 hup ⊢
    exact bodyPost_ret (v := .tuple #[.agg #[.int .i64 kd, .int .i64 n0, .string b0, .slice a0 len0 cap0], .int .i64 0, .int .i64 k]) (by simp [results, Tryz.results72, go_sem, World.cell?, h4]) rfl (by rw [HR.out]; exact hup)
  | bad er k =>
    obtain ⟨rfl, -, -⟩ := hp
    go_wp2
    have h4 := heap_put4 HB.out (.int .i64 0) (.int .i64 0) (.string ⟨#[]⟩) (.slice none 0 0)
    have hup := Post.up ((Fr.refl (· = c) w).alloc _) HP.out (But.put4 w.heap.size w1 (.int .i64 0) (.int .i64 0) (.string ⟨#[]⟩) (.slice none 0 0)) (Nat.le_refl _) (by simp) hltc
    generalize ((((w1.setCell ⟨w.heap.size, 0, none⟩ (.int .i64 0)).setCell ⟨w.heap.size, 1, none⟩ (.int .i64 0)).setCell ⟨w.heap.size, 2, none⟩ (.string ⟨#[]⟩)).setCell ⟨w.heap.size, 3, none⟩ (.slice none 0 0)) = w4 at h4 hup ⊢
    exact bodyPost_ret (v := .tuple #[zeroV, .int .i64 er, .int .i64 k]) (by simp [results, Tryz.results72, go_sem, World.cell?, h4]) rfl (by rw [HR.out]; exact hup)
theorem Cnt.below {c n B : Nat} {w w' : World} (h : Cnt c n w) (hb : Below B w w') (hc : c < B) : Cnt c n w' := (hb.block c hc).trans h

theorem leaf_post {r : Res} {c n : Nat} {W w1 : World} {e : Ending} (hl : ∀ ts k, r ≠ .ok (.list ts) k) (hn : Cnt c n W) (he : e = RetLeaf r) (hb : Below W.heap.size W w1) : Post (r, n) c W e w1 := by
  refine ⟨?_, hn.below hb (lt_of_heap hn), Fr.of_below hb⟩
  subst he
  cases r with
  | bad e k => rfl
  | ok t k =>
    cases t with
    | num n => exact ⟨_, rfl, by rw [Rep]⟩
    | text bs => exact ⟨_, rfl, by rw [Rep]⟩
    | list ts => exact absurd rfl (hl ts k)

theorem numF_leaf (l : List UInt8) (i : Nat) : ∀ ts k, numF l i ≠ .ok (.list ts) k := by
  intro ts k h
  unfold numF at h
  split at h
  · split at h
    · cases h
    · split at h <;> cases h
  · split at h <;> cases h
theorem textF_leaf (l : List UInt8) (i : Nat) : ∀ ts k, textF l i ≠ .ok (.list ts) k := by
  intro ts k h
  unfold textF at h
  split at h
  · split at h <;> cases h
  · cases h

theorem number_post (s : ByteArray) (i c n : Nat) (W : World) (hs : s.size ≤ 131072) (hi : i + 1 ≤ s.size) (hn : Cnt c n W) :
    Calls Tryz.prog 70 #[.string s, .int .i64 ((i : Int) + 1)] W (Post (numF s.data.toList (i + 1), n) c W) :=
  (number_any s (i + 1) W (by omega) hi).mono fun _ _ ⟨he, hb⟩ => leaf_post (numF_leaf _ _) hn he hb
theorem text_post (s : ByteArray) (i c n : Nat) (W : World) (hs : s.size ≤ 131072) (hi : i ≤ s.size) (hn : Cnt c n W) :
    Calls Tryz.prog 73 #[.string s, .int .i64 i] W (Post (textF s.data.toList i, n) c W) :=
  (text_any s i W (by omega) hi).mono fun _ _ ⟨he, hb⟩ => leaf_post (textF_leaf _ _) hn he hb

theorem rdV_succ (l : List UInt8) (f i level count : Nat) : rdV l (f + 1) i level count =
    if beginF l i level (count + 1) = 0 then
      if l[i]? = some 105 then (numF l (i + 1), count + 1)
      else if l[i]? = some 108 then rdL l f (i + 1) level (count + 1) []
      else (textF l i, count + 1)
    else (.bad (beginF l i level (count + 1)) i, count + 1) := by rw [rdV]

theorem beginF_zero {s : ByteArray} {i level count : Nat} (h : beginF s.data.toList i level count = 0) : i < s.size ∧ level ≤ 30 ∧ count ≤ 4000 := by
  by_cases hlt : i < s.size
  · rw [beginF_eq (get_of s i hlt)] at h
    refine ⟨hlt, ?_⟩
    repeat' split at h
    all_goals omega
  · unfold beginF at h; rw [get_no s i hlt] at h; cases h

theorem Cnt.set {c n : Nat} {w : World} (h : Cnt c n w) (m : Nat) : Cnt c m (w.setCell ⟨c, 0, none⟩ (.int .i64 m)) := heap_set h 0 _

set_option maxHeartbeats 3200000 in
theorem read_ok {s : ByteArray} {f : Nat} (hs : s.size ≤ 131072) (hL : ListOK s f) : ReadOK s (f + 1) := by
  intro c sb rb i level count w hi hl hc env hcnt hf
  have hlts := lt_of_heap env.hs
  have hltr := lt_of_heap env.hr
  have hltc := lt_of_heap hcnt
  have hcs := cell_of_heap env.hs
  have hcr := cell_of_heap env.hr
  have hcc := cell_of_heap hcnt
  have hcf : w.frozen? ⟨c, 0, none⟩ = false := frozen_of_heap hcnt 0
  obtain ⟨hns, hnr⟩ := env.ne hcnt
  have hF : Hid (Fr (· = c) w (w.setCell ⟨c, 0, none⟩ (.int .i64 ((count : Int) + 1)))) := Lib.hid ((Fr.refl (· = c) w).setCell (p := ⟨c, 0, none⟩) (.inr rfl) _)
  have HE : Hid (Env s c sb rb (w.setCell ⟨c, 0, none⟩ (.int .i64 ((count : Int) + 1)))) := Lib.hid (env.fr ⟨_, hcnt⟩ hF.out)
  have HC : Hid (Cnt c (count + 1) (w.setCell ⟨c, 0, none⟩ (.int .i64 ((count : Int) + 1)))) := Lib.hid (hcnt.set (count + 1))
  have hcs1 : (w.setCell ⟨c, 0, none⟩ (.int .i64 ((count : Int) + 1))).cell? ⟨sb, 0, none⟩ = some (.string s) := cell_of_heap HE.out.hs
  have hsz : (w.setCell ⟨c, 0, none⟩ (.int .i64 ((count : Int) + 1))).heap.size = w.heap.size := by simp [World.setCell]
  have hbeg : Hid (∀ W, Calls Tryz.prog 69 #[.string s, .int .i64 i, .int .i64 level, .int .i64 ((count : Int) + 1)] W fun e w' => e = .returned (.int .i64 (beginF s.data.toList i level (count + 1))) ∧ W = w') :=
    Lib.hid (fun W => begin_any s i level (count + 1) W (by omega) hi (by omega) (by omega))
  have HL := Lib.hid hL
  have HX := Lib.hid (rdV_succ s.data.toList f i level count)
  have HS := Lib.hid hsz
  clear hL env hcnt hsz
  generalize hb : beginF s.data.toList i level (count + 1) = b at hbeg HX
  by_cases hb0 : b = 0
  · subst hb0
    obtain ⟨hlt, hl30, hc4⟩ := beginF_zero hb
    have H2 := Lib.hid (HX.out.trans (if_pos rfl))
    clear HX hb
    have hgt := get_of s i hlt
    have hsome := fun n => some45 s i n hlt
    by_cases h105 : s.data.toList[i]? = some 105
    · have HX := Lib.hid (H2.out.trans (if_pos h105))
      have hB : (((s[i].toNat : Nat) : Int) == 105) = true := by have := (hsome 105).1 h105; simp at this ⊢; omega
      clear H2 hgt hsome h105
      go_enter Tryz.func68, Tryz.ntmps68
      go_wp2_with fail
      refine (hbeg.out _).mono ?_
      rintro e w' ⟨rfl, rfl⟩
      go_wp2_with fail
      generalize hw1 : w.setCell ⟨c, 0, none⟩ (.int .i64 ((count : Int) + 1)) = w1 at *
      have hsz : w1.heap.size = w.heap.size := HS.out
      refine (number_post s i c (count + 1) _ hs (by omega) ((HC.out.alloc _).alloc _)).mono ?_
      intro e w2 hp
      have hblk := hp.2.2.block (w.heap.size + 1) (by simp [hsz]) (by omega)
      have hblk' : w2.heap[w.heap.size + 1]? = some (.cells #[.int .i64 0, .int .i64 0, .string ⟨#[]⟩, .slice none 0 0] 60 (0, 0)) := by
        rw [hblk]; rw [show w.heap.size + 1 = (w1.alloc (.cells #[.int .i64 level] 3)).heap.size from by simp [hsz]]; exact heap_alloc_new _ _
      clear hblk
      have hsz2 := hp.2.2.size
      simp only [World.size_alloc] at hsz2
      have hcell0 : w2.cell? ⟨w.heap.size + 1, 0, none⟩ = some (.int .i64 0) := by simp [World.cell?, hblk']
      have hcell1 : w2.cell? ⟨w.heap.size + 1, 1, none⟩ = some (.int .i64 0) := by simp [World.cell?, hblk']
      have hcell2 : w2.cell? ⟨w.heap.size + 1, 2, none⟩ = some (.string ⟨#[]⟩) := by simp [World.cell?, hblk']
      have hcell3 : w2.cell? ⟨w.heap.size + 1, 3, none⟩ = some (.slice none 0 0) := by simp [World.cell?, hblk']
      have hfz : ∀ j, w2.frozen? ⟨w.heap.size + 1, j, none⟩ = false := frozen_of_heap hblk'
      have HB := Lib.hid hblk'
      have HP := Lib.hid hp
      generalize hr : (numF s.data.toList (i + 1), count + 1) = r at hp HP
      obtain ⟨r, cn⟩ := r
      have HR := Lib.hid hr
      clear hr hblk'
      cases r with
      | ok t k =>
        obtain ⟨⟨v, rfl, hrep⟩, -, -⟩ := hp
        obtain ⟨kd, n0, b0, a0, len0, cap0, rfl⟩ := Rep.cells t v hrep
        clear hrep
        go_wp2
        have h4 := heap_put4 HB.out (.int .i64 kd) (.int .i64 n0) (.string b0) (.slice a0 len0 cap0)
        have hup := Post.up ((hF.out.alloc _).alloc _) HP.out (But.put4 (w.heap.size + 1) w2 (.int .i64 kd) (.int .i64 n0) (.string b0) (.slice a0 len0 cap0)) (Nat.le_succ _) (by simp [hsz]) hltc
        generalize ((((w2.setCell ⟨w.heap.size + 1, 0, none⟩ (.int .i64 kd)).setCell ⟨w.heap.size + 1, 1, none⟩ (.int .i64 n0)).setCell ⟨w.heap.size + 1, 2, none⟩ (.string b0)).setCell ⟨w.heap.size + 1, 3, none⟩ (.slice a0 len0 cap0)) = w4 at h4 hup ⊢
        exact bodyPost_ret (v := .tuple #[.agg #[.int .i64 kd, .int .i64 n0, .string b0, .slice a0 len0 cap0], .int .i64 0, .int .i64 k]) (by simp [results, Tryz.results68, go_sem, World.cell?, h4]) rfl (by rw [HX.out, HR.out]; exact hup)
      | bad er k =>
        obtain ⟨rfl, -, -⟩ := hp
        go_wp2
        have h4 := heap_put4 HB.out (.int .i64 0) (.int .i64 0) (.string ⟨#[]⟩) (.slice none 0 0)
        have hup := Post.up ((hF.out.alloc _).alloc _) HP.out (But.put4 (w.heap.size + 1) w2 (.int .i64 0) (.int .i64 0) (.string ⟨#[]⟩) (.slice none 0 0)) (Nat.le_succ _) (by simp [hsz]) hltc
        generalize ((((w2.setCell ⟨w.heap.size + 1, 0, none⟩ (.int .i64 0)).setCell ⟨w.heap.size + 1, 1, none⟩ (.int .i64 0)).setCell ⟨w.heap.size + 1, 2, none⟩ (.string ⟨#[]⟩)).setCell ⟨w.heap.size + 1, 3, none⟩ (.slice none 0 0)) = w4 at h4 hup ⊢
        exact bodyPost_ret (v := .tuple #[zeroV, .int .i64 er, .int .i64 k]) (by simp [results, Tryz.results68, go_sem, World.cell?, h4]) rfl (by rw [HX.out, HR.out]; exact hup)
    · have hB1 : (((s[i].toNat : Nat) : Int) == 105) = false := by have := fun h => h105 ((hsome 105).2 h); simp at this ⊢; omega
      have H3 := Lib.hid (H2.out.trans (if_neg h105))
      clear H2
      by_cases h108 : s.data.toList[i]? = some 108
      · have HX := Lib.hid (H3.out.trans (if_pos h108))
        have hB : (((s[i].toNat : Nat) : Int) == 108) = true := by have := (hsome 108).1 h108; simp at this ⊢; omega
        clear H3 hgt hsome h108 h105
        have hmf : ∀ (fn : Fn) (first cap : Array Value) (w : World), (Instr.makeFunc fn first cap).run Tryz.prog w = .ok (.func fn first cap) w := fun _ _ _ _ => rfl
        go_enter Tryz.func68, Tryz.ntmps68
        go_wp2_with fail
        refine (hbeg.out _).mono ?_
        rintro e w' ⟨rfl, rfl⟩
        go_wp2_with fail
        generalize hw1 : w.setCell ⟨c, 0, none⟩ (.int .i64 ((count : Int) + 1)) = w1 at *
        have hsz : w1.heap.size = w.heap.size := HS.out
        have hcl : Calls Tryz.prog 71 #[.string s, .int .i64 ((i : Int) + 1), elemFn rb w.heap.size] _ (Post (rdL s.data.toList f (i + 1) level (count + 1) []) c _) := HL.out c sb rb w.heap.size (i + 1) level (count + 1) ((w1.alloc (.cells #[.int .i64 level] 3)).alloc (.cells #[.int .i64 0, .int .i64 0, .string ⟨#[]⟩, .slice none 0 0] 60)) (by omega) hl30 hc4 ((HE.out.alloc _).alloc _) ((HC.out.alloc _).alloc _) (by omega)
          (by rw [Below.heap_alloc _ _ _ (by simp [hsz]), ← hsz]; exact heap_alloc_new _ _) (by omega)
        refine hcl.mono ?_
        clear hcl hmf
        intro e w2 hp
        have hblk := hp.2.2.block (w.heap.size + 1) (by simp [hsz]) (by omega)
        have hblk' : w2.heap[w.heap.size + 1]? = some (.cells #[.int .i64 0, .int .i64 0, .string ⟨#[]⟩, .slice none 0 0] 60 (0, 0)) := by
          rw [hblk]; rw [show w.heap.size + 1 = (w1.alloc (.cells #[.int .i64 level] 3)).heap.size from by simp [hsz]]; exact heap_alloc_new _ _
        clear hblk
        have hsz2 := hp.2.2.size
        simp only [World.size_alloc] at hsz2
        have hcell0 : w2.cell? ⟨w.heap.size + 1, 0, none⟩ = some (.int .i64 0) := by simp [World.cell?, hblk']
        have hcell1 : w2.cell? ⟨w.heap.size + 1, 1, none⟩ = some (.int .i64 0) := by simp [World.cell?, hblk']
        have hcell2 : w2.cell? ⟨w.heap.size + 1, 2, none⟩ = some (.string ⟨#[]⟩) := by simp [World.cell?, hblk']
        have hcell3 : w2.cell? ⟨w.heap.size + 1, 3, none⟩ = some (.slice none 0 0) := by simp [World.cell?, hblk']
        have hfz : ∀ j, w2.frozen? ⟨w.heap.size + 1, j, none⟩ = false := frozen_of_heap hblk'
        have HB := Lib.hid hblk'
        have HP := Lib.hid hp
        generalize hr : rdL s.data.toList f (i + 1) level (count + 1) [] = r at hp HP
        obtain ⟨r, cn⟩ := r
        have HR := Lib.hid hr
        clear hr hblk'
        cases r with
        | ok t k =>
          obtain ⟨⟨v, rfl, hrep⟩, -, -⟩ := hp
          obtain ⟨kd, n0, b0, a0, len0, cap0, rfl⟩ := Rep.cells t v hrep
          clear hrep
          go_wp2
          have h4 := heap_put4 HB.out (.int .i64 kd) (.int .i64 n0) (.string b0) (.slice a0 len0 cap0)
          have hup := Post.up ((hF.out.alloc _).alloc _) HP.out (But.put4 (w.heap.size + 1) w2 (.int .i64 kd) (.int .i64 n0) (.string b0) (.slice a0 len0 cap0)) (Nat.le_succ _) (by simp [hsz]) hltc
          generalize ((((w2.setCell ⟨w.heap.size + 1, 0, none⟩ (.int .i64 kd)).setCell ⟨w.heap.size + 1, 1, none⟩ (.int .i64 n0)).setCell ⟨w.heap.size + 1, 2, none⟩ (.string b0)).setCell ⟨w.heap.size + 1, 3, none⟩ (.slice a0 len0 cap0)) = w4 at h4 hup ⊢
          exact bodyPost_ret (v := .tuple #[.agg #[.int .i64 kd, .int .i64 n0, .string b0, .slice a0 len0 cap0], .int .i64 0, .int .i64 k]) (by simp [results, Tryz.results68, go_sem, World.cell?, h4]) rfl (by rw [HX.out, HR.out]; exact hup)
        | bad er k =>
          obtain ⟨rfl, -, -⟩ := hp
          go_wp2
          have h4 := heap_put4 HB.out (.int .i64 0) (.int .i64 0) (.string ⟨#[]⟩) (.slice none 0 0)
          have hup := Post.up ((hF.out.alloc _).alloc _) HP.out (But.put4 (w.heap.size + 1) w2 (.int .i64 0) (.int .i64 0) (.string ⟨#[]⟩) (.slice none 0 0)) (Nat.le_succ _) (by simp [hsz]) hltc
          generalize ((((w2.setCell ⟨w.heap.size + 1, 0, none⟩ (.int .i64 0)).setCell ⟨w.heap.size + 1, 1, none⟩ (.int .i64 0)).setCell ⟨w.heap.size + 1, 2, none⟩ (.string ⟨#[]⟩)).setCell ⟨w.heap.size + 1, 3, none⟩ (.slice none 0 0)) = w4 at h4 hup ⊢
          exact bodyPost_ret (v := .tuple #[zeroV, .int .i64 er, .int .i64 k]) (by simp [results, Tryz.results68, go_sem, World.cell?, h4]) rfl (by rw [HX.out, HR.out]; exact hup)
      · have hB : (((s[i].toNat : Nat) : Int) == 108) = false := by have := fun h => h108 ((hsome 108).2 h); simp at this ⊢; omega
        have HX := Lib.hid (H3.out.trans (if_neg h108))
        clear H3 hgt hsome h108 h105
        go_enter Tryz.func68, Tryz.ntmps68
        go_wp2_with fail
        refine (hbeg.out _).mono ?_
        rintro e w' ⟨rfl, rfl⟩
        go_wp2_with fail
        generalize hw1 : w.setCell ⟨c, 0, none⟩ (.int .i64 ((count : Int) + 1)) = w1 at *
        have hsz : w1.heap.size = w.heap.size := HS.out
        refine (text_post s i c (count + 1) _ hs (by omega) ((HC.out.alloc _).alloc _)).mono ?_
        intro e w2 hp
        have hblk := hp.2.2.block (w.heap.size + 1) (by simp [hsz]) (by omega)
        have hblk' : w2.heap[w.heap.size + 1]? = some (.cells #[.int .i64 0, .int .i64 0, .string ⟨#[]⟩, .slice none 0 0] 60 (0, 0)) := by
          rw [hblk]; rw [show w.heap.size + 1 = (w1.alloc (.cells #[.int .i64 level] 3)).heap.size from by simp [hsz]]; exact heap_alloc_new _ _
        clear hblk
        have hsz2 := hp.2.2.size
        simp only [World.size_alloc] at hsz2
        have hcell0 : w2.cell? ⟨w.heap.size + 1, 0, none⟩ = some (.int .i64 0) := by simp [World.cell?, hblk']
        have hcell1 : w2.cell? ⟨w.heap.size + 1, 1, none⟩ = some (.int .i64 0) := by simp [World.cell?, hblk']
        have hcell2 : w2.cell? ⟨w.heap.size + 1, 2, none⟩ = some (.string ⟨#[]⟩) := by simp [World.cell?, hblk']
        have hcell3 : w2.cell? ⟨w.heap.size + 1, 3, none⟩ = some (.slice none 0 0) := by simp [World.cell?, hblk']
        have hfz : ∀ j, w2.frozen? ⟨w.heap.size + 1, j, none⟩ = false := frozen_of_heap hblk'
        have HB := Lib.hid hblk'
        have HP := Lib.hid hp
        generalize hr : (textF s.data.toList i, count + 1) = r at hp HP
        obtain ⟨r, cn⟩ := r
        have HR := Lib.hid hr
        clear hr hblk'
        cases r with
        | ok t k =>
          obtain ⟨⟨v, rfl, hrep⟩, -, -⟩ := hp
          obtain ⟨kd, n0, b0, a0, len0, cap0, rfl⟩ := Rep.cells t v hrep
          clear hrep
          go_wp2
          have h4 := heap_put4 HB.out (.int .i64 kd) (.int .i64 n0) (.string b0) (.slice a0 len0 cap0)
          have hup := Post.up ((hF.out.alloc _).alloc _) HP.out (But.put4 (w.heap.size + 1) w2 (.int .i64 kd) (.int .i64 n0) (.string b0) (.slice a0 len0 cap0)) (Nat.le_succ _) (by simp [hsz]) hltc
          generalize ((((w2.setCell ⟨w.heap.size + 1, 0, none⟩ (.int .i64 kd)).setCell ⟨w.heap.size + 1, 1, none⟩ (.int .i64 n0)).setCell ⟨w.heap.size + 1, 2, none⟩ (.string b0)).setCell ⟨w.heap.size + 1, 3, none⟩ (.slice a0 len0 cap0)) = w4 at h4 hup ⊢
          exact bodyPost_ret (v := .tuple #[.agg #[.int .i64 kd, .int .i64 n0, .string b0, .slice a0 len0 cap0], .int .i64 0, .int .i64 k]) (by simp [results, Tryz.results68, go_sem, World.cell?, h4]) rfl (by rw [HX.out, HR.out]; exact hup)
        | bad er k =>
          obtain ⟨rfl, -, -⟩ := hp
          go_wp2
          have h4 := heap_put4 HB.out (.int .i64 0) (.int .i64 0) (.string ⟨#[]⟩) (.slice none 0 0)
          have hup := Post.up ((hF.out.alloc _).alloc _) HP.out (But.put4 (w.heap.size + 1) w2 (.int .i64 0) (.int .i64 0) (.string ⟨#[]⟩) (.slice none 0 0)) (Nat.le_succ _) (by simp [hsz]) hltc
          generalize ((((w2.setCell ⟨w.heap.size + 1, 0, none⟩ (.int .i64 0)).setCell ⟨w.heap.size + 1, 1, none⟩ (.int .i64 0)).setCell ⟨w.heap.size + 1, 2, none⟩ (.string ⟨#[]⟩)).setCell ⟨w.heap.size + 1, 3, none⟩ (.slice none 0 0)) = w4 at h4 hup ⊢
          exact bodyPost_ret (v := .tuple #[zeroV, .int .i64 er, .int .i64 k]) (by simp [results, Tryz.results68, go_sem, World.cell?, h4]) rfl (by rw [HX.out, HR.out]; exact hup)
  · have H2 := Lib.hid (HX.out.trans (if_neg hb0))
    clear HX
    have hE : ((b : Int) != 0) = true := by simp; omega
    have HB := Lib.hid hb
    clear hb
    go_enter Tryz.func68, Tryz.ntmps68
    go_wp2_with fail
    refine (hbeg.out _).mono ?_
    rintro e w' ⟨rfl, rfl⟩
    go_wp2
    refine bodyPost_ret (v := .tuple #[zeroV, .int .i64 b, .int .i64 i]) (by simp [results, Tryz.results68, go_sem, HS.out]) rfl ?_
    rw [H2.out]
    exact ⟨rfl, (HC.out.alloc _).alloc _, (hF.out.alloc _).alloc _⟩
end Go.Proofs.YtdnedbcmgkilaaaGreatDoor.Co

end

/- Package code's list: the loop over a list's elements, by what reading one element answers and leaves. -/
section

namespace Go.Proofs.YtdnedbcmgkilaaaGreatDoor.Co
open Go.RowKit

theorem rdL_succ (l : List UInt8) (f i level count : Nat) (acc : List Tree) : rdL l (f + 1) i level count acc =
    if l[i]? = some 101 then (.ok (.list acc) (i + 1), count)
    else match rdV l f i (level + 1) count with
      | (.ok t k, c) => rdL l f k level c (acc ++ [t])
      | (.bad e k, c) => (.bad e k, c) := by rw [rdL]; rfl

/-- The places of a reading's answer. -/
def Bd (lo hi : Nat) : Res → Prop
  | .ok _ k => lo ≤ k ∧ k ≤ hi
  | .bad e k => e ≠ 0 ∧ k ≤ hi

theorem numF_bd (l : List UInt8) (i : Nat) (hi : i ≤ l.length) : Bd i l.length (numF l i) := by
  by_cases h45 : l[i]? = some 45
  · have hlt : i < l.length := (List.getElem?_eq_some_iff.1 h45).1
    by_cases h0 : l[i + 1]? = some 48
    · rw [numF_zero h45 h0]; simp only [Bd]; omega
    · have hb := decF_bd 9223372036854775808 101 (by omega) (l.drop (i + 1)) (i + 1) 0 true (by omega)
      rcases hd : decF 9223372036854775808 101 (l.drop (i + 1)) (i + 1) 0 true with ⟨n, e, k⟩
      rw [hd, List.length_drop] at hb
      simp only at hb
      by_cases he : e = 0
      · subst he; rw [numF_nok h45 h0 hd]; simp only [Bd]; omega
      · rw [numF_nbad h45 h0 hd he]; simp only [Bd]; omega
  · have hb := decF_bd 9223372036854775807 101 (by omega) (l.drop i) i 0 true (by omega)
    rcases hd : decF 9223372036854775807 101 (l.drop i) i 0 true with ⟨n, e, k⟩
    rw [hd, List.length_drop] at hb
    simp only at hb
    by_cases he : e = 0
    · subst he; rw [numF_ok h45 hd]; simp only [Bd]; omega
    · rw [numF_bad h45 hd he]; simp only [Bd]; omega
theorem textF_bd (l : List UInt8) (i : Nat) (hi : i ≤ l.length) : Bd (i + 1) l.length (textF l i) := by
  have hb := decF_bd 131072 58 (by omega) (l.drop i) i 0 true (by omega)
  rcases hd : decF 131072 58 (l.drop i) i 0 true with ⟨n, e, k⟩
  rw [hd, List.length_drop] at hb
  by_cases he : e = 0
  · subst he
    have h5 := hb.2.2.2.2 rfl
    simp only at hb h5
    by_cases hf : k + n ≤ l.length
    · rw [textF_ok hd hf]; simp only [Bd]; omega
    · rw [textF_end hd (by omega)]; simp only [Bd]; omega
  · simp only at hb
    rw [textF_bad hd he]; simp only [Bd]; omega

theorem beginF_lt {l : List UInt8} {i level count : Nat} (h : beginF l i level count = 0) : i < l.length ∧ level ≤ 30 ∧ count ≤ 4000 := by
  rcases hg : l[i]? with _ | c
  · unfold beginF at h; rw [hg] at h; cases h
  · refine ⟨(List.getElem?_eq_some_iff.1 hg).1, ?_⟩
    rw [beginF_eq hg] at h
    repeat' split at h
    all_goals omega

theorem rd_bd (l : List UInt8) : ∀ f, (∀ i level count, i ≤ l.length → Bd (i + 1) l.length (rdV l f i level count).1 ∧ (rdV l f i level count).2 ≤ max 4001 (count + 1) ∧ count ≤ (rdV l f i level count).2 ∧ (∀ t k, (rdV l f i level count).1 = .ok t k → count + 1 ≤ (rdV l f i level count).2 ∧ (rdV l f i level count).2 ≤ 4000)) ∧
    (∀ i level count acc, i ≤ l.length → count ≤ 4000 → Bd (i + 1) l.length (rdL l f i level count acc).1 ∧ count ≤ (rdL l f i level count acc).2 ∧ (rdL l f i level count acc).2 ≤ 4001 ∧ (∀ t k, (rdL l f i level count acc).1 = .ok t k → (rdL l f i level count acc).2 ≤ 4000))
  | 0 => by
    constructor
    · intro i level count hi; rw [rdV]; simp only [Bd]; exact ⟨⟨by omega, by omega⟩, by omega, by omega, fun t k h => by cases h⟩
    · intro i level count acc hi hc; rw [rdL]; simp only [Bd]; exact ⟨⟨by omega, by omega⟩, by omega, by omega, fun t k h => by cases h⟩
  | f + 1 => by
    obtain ⟨hV, hL⟩ := rd_bd l f
    constructor
    · intro i level count hi
      rw [rdV_succ]
      split
      · rename_i hb
        obtain ⟨h1, h2, h3⟩ := beginF_lt hb
        split
        · have := numF_bd l (i + 1) (by omega)
          exact ⟨this, by omega, by omega, fun t k h => by simp; omega⟩
        · split
          · obtain ⟨a1, a2, a3, a4⟩ := hL (i + 1) level (count + 1) [] (by omega) (by omega)
            refine ⟨?_, ?_, by omega, fun t k h => ⟨by omega, a4 t k h⟩⟩
            · revert a1; cases (rdL l f (i + 1) level (count + 1) []).1 <;> simp only [Bd] <;> omega
            · omega
          · have := textF_bd l i (by omega)
            exact ⟨this, by omega, by omega, fun t k h => by simp; omega⟩
      · rename_i hb
        exact ⟨by simp only [Bd]; exact ⟨hb, hi⟩, by simp; omega, by simp, fun t k h => by cases h⟩
    · intro i level count acc hi hc
      rw [rdL_succ]
      split
      · rename_i h
        have hlt := (List.getElem?_eq_some_iff.1 h).1
        exact ⟨by simp only [Bd]; omega, by simp, by simp; omega, fun t k h => by simpa using hc⟩
      · obtain ⟨b1, b2, b3, b4⟩ := hV i (level + 1) count hi
        rcases hr : rdV l f i (level + 1) count with ⟨t | ⟨e, k⟩, c⟩
        · rename_i k
          rw [hr] at b1 b2 b3 b4
          simp only [Bd] at b1
          have b5 := b4 _ _ rfl
          simp only at b2 b3 b5
          obtain ⟨a1, a2, a3, a4⟩ := hL k level c (acc ++ [t]) (by omega) (by omega)
          refine ⟨?_, by simp only; omega, a3, a4⟩
          simp only
          revert a1; cases (rdL l f k level c (acc ++ [t])).1 <;> simp only [Bd] <;> omega
        · rw [hr] at b1 b2 b3
          simp only [Bd] at *
          exact ⟨b1, by omega, by omega, fun t k h => by cases h⟩

/-- What stands when the loop begins a round: h is the result's block; the rows of the elements that were read. -/
structure Inv (s : ByteArray) (c sb rb lb level h : Nat) (w : World) (cnt : Nat) (L : Value) (ts : List Tree) (xs : List Value) (wr : World) : Prop where
  fr : Fr (· = c) w wr
  env : Env s c sb rb wr
  cnt : Cnt c cnt wr
  lev : wr.heap[lb]? = some (.cells #[.int .i64 level] 3 (0, 0))
  res : wr.heap[h]? = some (.cells #[.int .i64 0, .int .i64 0, .string ⟨#[]⟩, .slice none 0 0] 60 (0, 0))
  own : wr.ownsRow (h + 1) 60 4 L ts.length xs
  rep : RepAll wr (fun b => h + 1 ≤ b ∧ b < wr.heap.size ∧ L.ownBlock ≠ some b) ts xs

theorem ownsRow_low {w : World} {base : Nat} {e : TypeId} {size : Nat} {v : Value} {n : Nat} {xs : List Value} (h : w.ownsRow base e size v n xs) : w.ownsRow 0 e size v n xs :=
  ⟨h.1, h.2.imp id (fun ⟨g, cap, cur, hv, _, hr⟩ => ⟨g, cap, cur, hv, Nat.zero_le _, hr⟩)⟩

theorem Inv.done {s : ByteArray} {c sb rb lb level : Nat} {w : World} {cnt k : Nat} {L : Value} {ts : List Tree} {xs : List Value} {wr w4 : World} (hI : Inv s c sb rb lb level w.heap.size w cnt L ts xs wr) (hb : But w.heap.size wr w4) (hc : c < w.heap.size) :
    Post (.ok (.list ts) k, cnt) c w (.returned (.tuple #[listV L, .int .i64 0, .int .i64 k])) w4 := by
  have hlt : ∀ g, L.ownBlock = some g → w.heap.size + 1 ≤ g ∧ g < wr.heap.size := fun g hg => hI.own.lt g hg
  refine ⟨⟨_, rfl, ?_⟩, (hb.block c (by omega)).trans hI.cnt, ?_⟩
  · rw [Rep]
    refine ⟨L, xs, rfl, ?_, fun g hg => ?_, RepAll.keep (fun g hg => hb.block g (by omega)) (fun g hg => ⟨by omega, by rw [hb.size]; exact hg.2.1⟩) _ _ hI.rep⟩
    · exact ownsRow_low (ownsRow_keep hI.own (fun g hg => hb.block g (by have := hlt g hg; omega)))
    · have := hlt g hg
      exact ⟨by omega, by rw [hb.size]; omega⟩
  · have hx := hI.fr
    exact ⟨hb.os.trans hx.os, hb.tape.trans hx.tape, hb.output.trans hx.output, by rw [hb.size]; exact hx.size, fun k hk hk2 => (hb.block k (by omega)).trans (hx.block k hk hk2)⟩

theorem Inv.step {s : ByteArray} {c sb rb lb level count : Nat} {w : World} {cnt cn : Nat} {L : Value} {ts : List Tree} {xs : List Value} {wr w1 w2 : World} {t : Tree} {c0 c1 c2 c3 : Value} {o1 o2 : Obj} {g2 cap2 : Nat}
    (hI : Inv s c sb rb lb level w.heap.size w cnt L ts xs wr) (env : Env s c sb rb w) (hc : Cnt c count w) (hlb : w.heap[lb]? = some (.cells #[.int .i64 level] 3 (0, 0))) (hlc : lb ≠ c)
    (hrep : Rep w1 (fun b => wr.heap.size ≤ b ∧ b < w1.heap.size) t (.agg #[c0, c1, c2, c3])) (hcn : Cnt c cn w1) (hfr : Fr (· = c) wr w1)
    (hown2 : w2.ownsRow (w.heap.size + 1) 60 4 (.slice (some ⟨g2, 0, none⟩) (ts.length + 1) cap2) (ts.length + 1) (xs ++ [c0, c1, c2, c3]))
    (hgrow : ((w1.alloc o1).alloc o2).grownBy w2 L.ownBlock) (hlies : L.ownBlock = some g2 ∨ g2 = w1.heap.size + 2) :
    Inv s c sb rb lb level w.heap.size w cn (.slice (some ⟨g2, 0, none⟩) (ts.length + 1) cap2) (ts ++ [t]) (xs ++ [c0, c1, c2, c3]) w2 := by
  have hltc := lt_of_heap hc
  have hlt : ∀ g, L.ownBlock = some g → w.heap.size + 1 ≤ g ∧ g < wr.heap.size := fun g hg => hI.own.lt g hg
  have hs1 := hfr.size
  have hs2 := hgrow.size
  simp only [World.size_alloc] at hs2
  have hk : ∀ b, b < w1.heap.size → L.ownBlock ≠ some b → w2.heap[b]? = w1.heap[b]? := fun b hb hne => by
    rw [hgrow.block b (by simp; omega) (fun e => hne e.symm), Below.heap_alloc _ _ _ (by simp; omega), Below.heap_alloc _ _ _ hb]
  have hF : Fr (· = c) w w2 := ((((hI.fr.trans hfr).alloc o1).alloc o2).grown hgrow (fun g hg => .inl (by have := hlt g hg; omega)))
  have hresl := lt_of_heap hI.res
  refine ⟨hF, env.fr ⟨_, hc⟩ hF, ?_, (hF.block lb (lt_of_heap hlb) hlc).trans hlb, ?_, by simpa using hown2, ?_⟩
  · exact (hk c (by omega) (fun e => by have := hlt c e; omega)).trans hcn
  · exact ((hk w.heap.size (by omega) (fun e => by have := hlt _ e; omega)).trans (hfr.block _ hresl (by omega))).trans hI.res
  · refine RepAll.snoc (Rep.keep (fun b hb => hk b hb.2 (fun e => by have := hlt b e; omega)) (fun b hb => ⟨by omega, by omega, ?_⟩) _ _ hrep) ts xs
      (RepAll.keep (fun b hb => (hk b (by omega) hb.2.2).trans (hfr.block b hb.2.1 (by omega))) (fun b hb => ⟨hb.1, by omega, ?_⟩) _ _ hI.rep)
    · show some g2 ≠ some b
      rintro ⟨⟩
      rcases hlies with h | h
      · have := hlt g2 h; omega
      · omega
    · show some g2 ≠ some b
      rintro ⟨⟩
      rcases hlies with h | h
      · exact hb.2.2 h
      · omega

theorem Post.bad_up {er k cn c h : Nat} {w wr w1 w4 : World} {e : Ending} (hF : Fr (· = c) w wr) (hp : Post (.bad er k, cn) c wr e w1) (hb : But h w1 w4) (h1 : w.heap.size ≤ h) (hc : c < w.heap.size) (o : Obj) : Post (.bad er k, cn) c w e (w4.alloc o) := by
  obtain ⟨hr, hn, hf⟩ := hp
  have hx := hF.trans hf
  have hn4 : Cnt c cn w4 := (hb.block c (by omega)).trans hn
  refine ⟨hr, hn4.alloc o, Fr.alloc ⟨hb.os.trans hx.os, hb.tape.trans hx.tape, hb.output.trans hx.output, by rw [hb.size]; exact hx.size, fun k hk hk2 => (hb.block k (by omega)).trans (hx.block k hk hk2)⟩ o⟩

theorem Tryz.info24 : (Tryz.prog.info? 60).map (fun i => (i.zero, i.size, i.bytes)) = some (some zeroV, 4, 56) := by kernel_rfl

set_option maxHeartbeats 3200000 in
set_option maxRecDepth 100000 in
theorem list_ok {s : ByteArray} {f : Nat} (hs : s.size ≤ 131072) (hE : ∀ f', f' < f → ElemOK s f') : ListOK s f := by
  intro c sb rb lb i level count w hi hl hc env hcnt hlc hlb hf
  have hltc := lt_of_heap hcnt
  have hltl := lt_of_heap hlb
  obtain ⟨i0, hi0, hz0, hz1, hz2⟩ := info_parts Tryz.info24
  have hI0 : Hid (Inv s c sb rb lb level w.heap.size w count (.slice none 0 0) [] [] (w.alloc (.cells #[.int .i64 0, .int .i64 0, .string ⟨#[]⟩, .slice none 0 0] 60))) :=
    Lib.hid ⟨(Fr.refl _ w).alloc _, env.alloc _, hcnt.alloc _, (Below.heap_alloc _ _ _ hltl).trans hlb, heap_alloc_new _ _, World.ownsRow_nil _ _ _ _, by rw [RepAll]⟩
  have HE := Lib.hid hE
  have HV0 := Lib.hid env
  have HC0 := Lib.hid hcnt
  have HB0 := Lib.hid hlb
  clear hE env hcnt hlb
  go_enter Tryz.func71, Tryz.ntmps71
  go_wp2
  go_loopw [1, 9] (fun at_ kids wr => ∃ (k g cnt : Nat) (a : Option Addr) (len cap : Nat) (ts : List Tree) (xs : List Value), k ≤ s.size ∧ 2 * (s.size - k) + 2 ≤ g ∧ g ≤ f ∧ cnt ≤ 4000 ∧ ts.length ≤ cnt ∧
      at_ = .int .i64 k ∧ kids = .slice a len cap ∧ Hid (rdL s.data.toList f i level count [] = rdL s.data.toList g k level cnt ts) ∧ Hid (Inv s c sb rb lb level w.heap.size w cnt (.slice a len cap) ts xs wr))
    (fun at_ _ _ => s.size - (intOf at_).toNat)
  case atStart => exact ⟨i, f, count, none, 0, 0, [], [], hi, hf, Nat.le_refl _, hc, Nat.zero_le _, rfl, rfl, Lib.hid rfl, hI0⟩
  case round =>
    obtain ⟨k, g, cnt, a, len, cap, ts, xs, hk, hg, hgf, hcnt, htl, rfl, rfl, H, HI⟩ := hrel
    clear hI0
    obtain ⟨g, rfl⟩ : ∃ g', g = g' + 1 := ⟨g - 1, by omega⟩
    have H1 := Lib.hid (H.out.trans (rdL_succ _ _ _ _ _ _))
    clear H
    have hsz : w.heap.size + 1 ≤ wr.heap.size := by have := lt_of_heap HI.out.res; omega
    by_cases he : s.data.toList[k]? = some 101
    · have hlt : k < s.size := by
        rcases Nat.lt_or_ge k s.size with h | h
        · exact h
        · rw [get_no s k (by omega)] at he; cases he
      have hB : (((s[k].toNat : Nat) : Int) != 101) = false := by have := (some45 s k 101 hlt).1 he; simp at this ⊢; omega
      have H2 := Lib.hid (H1.out.trans (if_pos he))
      clear H1 he
      have hcell0 : wr.cell? ⟨w.heap.size, 0, none⟩ = some (.int .i64 0) := by simp [World.cell?, HI.out.res]
      have hcell1 : wr.cell? ⟨w.heap.size, 1, none⟩ = some (.int .i64 0) := by simp [World.cell?, HI.out.res]
      have hcell2 : wr.cell? ⟨w.heap.size, 2, none⟩ = some (.string ⟨#[]⟩) := by simp [World.cell?, HI.out.res]
      have hcell3 : wr.cell? ⟨w.heap.size, 3, none⟩ = some (.slice none 0 0) := by simp [World.cell?, HI.out.res]
      have hfz : ∀ j, wr.frozen? ⟨w.heap.size, j, none⟩ = false := frozen_of_heap HI.out.res
      go_wp2
      have h4 := heap_put4 HI.out.res (.int .i64 3) (.int .i64 0) (.string ⟨#[]⟩) (.slice a len cap)
      have hbut := But.put4 w.heap.size wr (.int .i64 3) (.int .i64 0) (.string ⟨#[]⟩) (.slice a len cap)
      generalize ((((wr.setCell ⟨w.heap.size, 0, none⟩ (.int .i64 3)).setCell ⟨w.heap.size, 1, none⟩ (.int .i64 0)).setCell ⟨w.heap.size, 2, none⟩ (.string ⟨#[]⟩)).setCell ⟨w.heap.size, 3, none⟩ (.slice a len cap)) = w4 at h4 hbut ⊢
      refine bodyPost_ret (v := .tuple #[listV (.slice a len cap), .int .i64 0, .int .i64 ((k : Int) + 1)]) (by simp [results, Tryz.results71, go_sem, World.cell?, h4]) rfl ?_
      rw [H2.out]
      exact Inv.done HI.out hbut hltc
    · have H2 := Lib.hid (H1.out.trans (if_neg he))
      clear H1
      obtain ⟨b1, b2, b3, b4⟩ := (rd_bd s.data.toList g).1 k (level + 1) cnt (by simpa using hk)
      have hcall := Lib.hid (HE.out g (by omega) c sb rb lb k level cnt wr hk hl hcnt HI.out.env HI.out.cnt HI.out.lev (by omega))
      generalize hr : rdV s.data.toList g k (level + 1) cnt = r at hcall H2 b1 b2 b3 b4
      obtain ⟨r, cn⟩ := r
      have hsl : s.data.toList.length = s.size := by simp
      rw [hsl] at b1
      clear hr hsl
      simp only at b1 b2 b3 b4
      cases r with
      | bad er k2 =>
        by_cases hlt : k < s.size
        · have hB : (((s[k].toNat : Nat) : Int) != 101) = true := by have := fun h => he ((some45 s k 101 hlt).2 h); simp at this ⊢; omega
          clear he
          go_wp2_with fail
          refine hcall.out.mono ?_
          intro e w1 hp
          have HP := Lib.hid hp
          obtain ⟨rfl, -, -⟩ := hp
          have hres := HP.out.2.2.block w.heap.size (by omega) (by omega)
          rw [HI.out.res] at hres
          have hcell0 : w1.cell? ⟨w.heap.size, 0, none⟩ = some (.int .i64 0) := by simp [World.cell?, hres]
          have hcell1 : w1.cell? ⟨w.heap.size, 1, none⟩ = some (.int .i64 0) := by simp [World.cell?, hres]
          have hcell2 : w1.cell? ⟨w.heap.size, 2, none⟩ = some (.string ⟨#[]⟩) := by simp [World.cell?, hres]
          have hcell3 : w1.cell? ⟨w.heap.size, 3, none⟩ = some (.slice none 0 0) := by simp [World.cell?, hres]
          have hfz : ∀ j, w1.frozen? ⟨w.heap.size, j, none⟩ = false := frozen_of_heap hres
          have hsz1 := HP.out.2.2.size
          have hszl : w.heap.size < w1.heap.size := by omega
          have hE0 : ((er : Int) != 0) = true := by have := b1.1; simp; omega
          have HRes := Lib.hid hres
          clear hres b1 b4
          go_wp2
          have h4 := heap_put4 HRes.out (.int .i64 0) (.int .i64 0) (.string ⟨#[]⟩) (.slice none 0 0)
          have hbut := But.put4 w.heap.size w1 (.int .i64 0) (.int .i64 0) (.string ⟨#[]⟩) (.slice none 0 0)
          generalize ((((w1.setCell ⟨w.heap.size, 0, none⟩ (.int .i64 0)).setCell ⟨w.heap.size, 1, none⟩ (.int .i64 0)).setCell ⟨w.heap.size, 2, none⟩ (.string ⟨#[]⟩)).setCell ⟨w.heap.size, 3, none⟩ (.slice none 0 0)) = w4 at h4 hbut ⊢
          have h5 := (Below.heap_alloc w4 (.cells #[.int .i64 0, .int .i64 0, .string ⟨#[]⟩, .slice none 0 0] 60) w.heap.size (by rw [hbut.size]; exact hszl)).trans h4
          have hup := Post.bad_up HI.out.fr HP.out hbut (Nat.le_refl _) hltc (.cells #[.int .i64 0, .int .i64 0, .string ⟨#[]⟩, .slice none 0 0] 60)
          generalize w4.alloc (.cells #[.int .i64 0, .int .i64 0, .string ⟨#[]⟩, .slice none 0 0] 60) = w5 at h5 hup ⊢
          exact bodyPost_ret (v := .tuple #[zeroV, .int .i64 er, .int .i64 k2]) (by simp [results, Tryz.results71, go_sem, World.cell?, h5]) rfl (by rw [H2.out]; exact hup)
        · clear he
          go_wp2_with fail
          refine hcall.out.mono ?_
          intro e w1 hp
          have HP := Lib.hid hp
          obtain ⟨rfl, -, -⟩ := hp
          have hres := HP.out.2.2.block w.heap.size (by omega) (by omega)
          rw [HI.out.res] at hres
          have hcell0 : w1.cell? ⟨w.heap.size, 0, none⟩ = some (.int .i64 0) := by simp [World.cell?, hres]
          have hcell1 : w1.cell? ⟨w.heap.size, 1, none⟩ = some (.int .i64 0) := by simp [World.cell?, hres]
          have hcell2 : w1.cell? ⟨w.heap.size, 2, none⟩ = some (.string ⟨#[]⟩) := by simp [World.cell?, hres]
          have hcell3 : w1.cell? ⟨w.heap.size, 3, none⟩ = some (.slice none 0 0) := by simp [World.cell?, hres]
          have hfz : ∀ j, w1.frozen? ⟨w.heap.size, j, none⟩ = false := frozen_of_heap hres
          have hsz1 := HP.out.2.2.size
          have hszl : w.heap.size < w1.heap.size := by omega
          have hE0 : ((er : Int) != 0) = true := by have := b1.1; simp; omega
          have HRes := Lib.hid hres
          clear hres b1 b4
          go_wp2
          have h4 := heap_put4 HRes.out (.int .i64 0) (.int .i64 0) (.string ⟨#[]⟩) (.slice none 0 0)
          have hbut := But.put4 w.heap.size w1 (.int .i64 0) (.int .i64 0) (.string ⟨#[]⟩) (.slice none 0 0)
          generalize ((((w1.setCell ⟨w.heap.size, 0, none⟩ (.int .i64 0)).setCell ⟨w.heap.size, 1, none⟩ (.int .i64 0)).setCell ⟨w.heap.size, 2, none⟩ (.string ⟨#[]⟩)).setCell ⟨w.heap.size, 3, none⟩ (.slice none 0 0)) = w4 at h4 hbut ⊢
          have h5 := (Below.heap_alloc w4 (.cells #[.int .i64 0, .int .i64 0, .string ⟨#[]⟩, .slice none 0 0] 60) w.heap.size (by rw [hbut.size]; exact hszl)).trans h4
          have hup := Post.bad_up HI.out.fr HP.out hbut (Nat.le_refl _) hltc (.cells #[.int .i64 0, .int .i64 0, .string ⟨#[]⟩, .slice none 0 0] 60)
          generalize w4.alloc (.cells #[.int .i64 0, .int .i64 0, .string ⟨#[]⟩, .slice none 0 0] 60) = w5 at h5 hup ⊢
          exact bodyPost_ret (v := .tuple #[zeroV, .int .i64 er, .int .i64 k2]) (by simp [results, Tryz.results71, go_sem, World.cell?, h5]) rfl (by rw [H2.out]; exact hup)
      | ok t k2 =>
        simp only [Bd] at b1
        have b5 := b4 _ _ rfl
        clear b4
        by_cases hlt : k < s.size
        · have hB : (((s[k].toNat : Nat) : Int) != 101) = true := by have := fun h => he ((some45 s k 101 hlt).2 h); simp at this ⊢; omega
          clear he
          go_wp2_with fail
          refine hcall.out.mono ?_
          intro e w1 hp
          have HP := Lib.hid hp
          obtain ⟨⟨v, rfl, hrep⟩, hcn, hfr⟩ := hp
          obtain ⟨kd, n0, b0, a0, len0, cap0, rfl⟩ := Rep.cells t v hrep
          have HP := Lib.hid hrep
          have HN := Lib.hid hcn
          have HF := Lib.hid hfr
          have hszw := hfr.size
          have hown1 : Hid (∀ o1 o2, ((w1.alloc o1).alloc o2).ownsRow (w.heap.size + 1) 60 4 (.slice a len cap) ts.length xs) := Lib.hid (fun o1 o2 => ownsRow_keep HI.out.own (fun b hb => by
            have h1 := HI.out.own.lt b hb
            rw [Below.heap_alloc _ _ _ (by simp; omega), Below.heap_alloc _ _ _ (by omega)]
            exact hfr.block b h1.2 (by omega)))
          clear hrep hcn hfr
          go_wp2_with (at_builtin; refine wpList_append_lies _ rfl _ _ 58 rfl (w.heap.size + 1) 60 i0 zeroV 4 56 Tryz.underlying58 hi0 hz0 hz1 hz2 rfl (by decide) _ ts.length xs rfl (hown1.out _ _) ⟨w1.heap.size + 1, 0, none⟩ 1 1 [.int .i64 kd, .int .i64 n0, .string b0, .slice a0 len0 cap0] rfl rfl ?c1 ?c2 (by decide) ?c3 ?c4 ?c5 (w1.heap.size + 2) ?c6 ?_)
          case c1 =>
            intro j u hj
            match j, hj with
            | 0, hj => simp at hj; subst hj; simp [Addr.add]
            | 1, hj => simp at hj; subst hj; simp [Addr.add]
            | 2, hj => simp at hj; subst hj; simp [Addr.add]
            | 3, hj => simp at hj; subst hj; simp [Addr.add]
          case c2 => intro u hu; simp at hu; rcases hu with rfl | rfl | rfl | rfl <;> rfl
          case c3 => unfold maxLen; omega
          case c4 => omega
          case c5 => simp; omega
          case c6 => simp
          intro g2 cap2 w2 hown2 hgrow hlies hlt2
          have HS := Lib.hid (Inv.step HI.out HV0.out HC0.out HB0.out hlc HP.out HN.out HF.out hown2 hgrow hlies)
          clear hown2 hgrow hlies
          go_wp2
          go_roundw
          case rel => exact ⟨k2, g, cn, _, _, _, ts ++ [t], _, by omega, by omega, by omega, by omega, by simp; omega, rfl, rfl, H2, HS⟩
          case measure => simp [intOf]; omega
        · omega
/-- The reader and its list, at every fuel. -/
theorem both_ok {s : ByteArray} (hs : s.size ≤ 131072) : ∀ f, ReadOK s f ∧ ListOK s f := by
  intro f
  induction f using Nat.strongRecOn with
  | ind f ih =>
    refine ⟨?_, list_ok hs fun f' hf' => elem_ok hs (ih f' hf').1⟩
    cases f with
    | zero => intro c sb rb i level count w _ _ _ _ _ hf; omega
    | succ f => exact read_ok hs (ih f (by omega)).2

end Go.Proofs.YtdnedbcmgkilaaaGreatDoor.Co

end

/- Package code's Get: what the call answers and leaves. -/
section

namespace Go.Proofs.YtdnedbcmgkilaaaGreatDoor.Co
open Go.RowKit

/-- Get's answer, as a function of the bytes. -/
def getF (l : List UInt8) : Res :=
  if 131072 < l.length then .bad 2 0
  else match (rdV l (2 * l.length + 1) 0 1 0).1 with
    | .ok t k => if k < l.length then .bad 11 k else .ok t 0
    | .bad e k => .bad e k

def GetPost (r : Res) (w : World) (e : Ending) (w' : World) : Prop :=
  (match r with
   | .ok t k => ∃ v, e = .returned (.tuple #[v, .int .i64 0, .int .i64 k]) ∧ Rep w' (fun b => w.heap.size ≤ b ∧ b < w'.heap.size) t v
   | .bad er k => e = .returned (.tuple #[zeroV, .int .i64 er, .int .i64 k])) ∧ Below w.heap.size w w'

theorem Fr.below_of {X : Nat → Prop} {B : Nat} {w W w1 : World} (hW : Below B w W) (hB : B ≤ W.heap.size) (hf : Fr X W w1) (hX : ∀ k, k < B → ¬ X k) : Below B w w1 :=
  hW.trans ⟨hf.os, hf.tape, hf.output, hf.size, fun k hk => hf.block k (by omega) (hX k hk)⟩
theorem But.below {B h : Nat} {w w1 w4 : World} (hW : Below B w w1) (hb : But h w1 w4) (h1 : B ≤ h) : Below B w w4 :=
  hW.trans ⟨hb.os, hb.tape, hb.output, by rw [hb.size]; exact Nat.le_refl _, fun k hk => hb.block k (by omega)⟩

theorem GetPost.bad {er k h c : Nat} {r : Res × Nat} {w W w1 w4 : World} {e : Ending} (hW : Below w.heap.size w W) (hp : Post r c W e w1) (hc : w.heap.size ≤ c) (hb : But h w1 w4) (h1 : w.heap.size ≤ h) (o : Obj) :
    GetPost (.bad er k) w (.returned (.tuple #[zeroV, .int .i64 er, .int .i64 k])) (w4.alloc o) :=
  ⟨rfl, Below.alloc (But.below (Fr.below_of hW hW.size hp.2.2 (fun k hk => by omega)) hb h1) (by have := hp.2.2.size; have := hW.size; rw [hb.size]; omega) o⟩
theorem GetPost.ok {k h c cn : Nat} {t : Tree} {v : Value} {w W w1 w4 : World} {e : Ending} (hW : Below w.heap.size w W) (hp : Post (.ok t k, cn) c W e w1) (hrep : Rep w1 (fun b => W.heap.size ≤ b ∧ b < w1.heap.size) t v) (hc : w.heap.size ≤ c) (hb : But h w1 w4) (h1 : w.heap.size ≤ h) (h2 : h < W.heap.size) (o : Obj) :
    GetPost (.ok t 0) w (.returned (.tuple #[v, .int .i64 0, .int .i64 0])) (w4.alloc o) :=
  ⟨⟨v, rfl, Rep.keep (fun b hbb => (Below.heap_alloc _ _ _ (by rw [hb.size]; exact hbb.2)).trans (hb.block b (by omega))) (fun b hbb => ⟨by have := hW.size; omega, by simp; rw [hb.size]; omega⟩) _ _ hrep⟩,
    Below.alloc (But.below (Fr.below_of hW hW.size hp.2.2 (fun k hk => by omega)) hb h1) (by have := hp.2.2.size; have := hW.size; rw [hb.size]; omega) o⟩

set_option maxHeartbeats 1600000 in
set_option maxRecDepth 100000 in
theorem get_any (s : ByteArray) (w : World) (hs : s.size ≤ 140737488351232) : Calls Tryz.prog 38 #[.string s] w (GetPost (getF s.data.toList) w) := by
  have hmf : ∀ (fn : Fn) (first cap : Array Value) (w : World), (Instr.makeFunc fn first cap).run Tryz.prog w = .ok (.func fn first cap) w := fun _ _ _ _ => rfl
  have hsl : s.data.toList.length = s.size := by simp
  by_cases hbig : 131072 < s.size
  · have HX : Hid (getF s.data.toList = .bad 2 0) := Lib.hid (by unfold getF; rw [hsl, if_pos hbig])
    clear hsl
    go_enter Tryz.func38, Tryz.ntmps38
    go_wp2
    refine bodyPost_ret (v := .tuple #[zeroV, .int .i64 2, .int .i64 0]) (by simp [results, Tryz.results38, go_sem]) rfl ?_
    rw [HX.out]
    exact ⟨rfl, ((below1 _ _).alloc (by simp) _)⟩
  · have HX : Hid (getF s.data.toList = match (rdV s.data.toList (2 * s.size + 1) 0 1 0).1 with | .ok t k => if k < s.size then .bad 11 k else .ok t 0 | .bad e k => .bad e k) := Lib.hid (by unfold getF; rw [hsl, if_neg hbig])
    have hV := Lib.hid (both_ok (s := s) (by omega) (2 * s.size + 1)).1
    have hbd := (rd_bd s.data.toList (2 * s.size + 1)).1 0 1 0 (by omega)
    clear hsl
    go_enter Tryz.func38, Tryz.ntmps38
    go_wp2_with fail
    have hW : Hid (Below w.heap.size w ((((w.alloc (.cells #[.string s] 9)).alloc (.cells #[.int .i64 0, .int .i64 0, .string ⟨#[]⟩, .slice none 0 0] 60)).alloc (.cells #[.int .i64 0] 3)).alloc (.cells #[readFn (w.heap.size + 1 + 1) w.heap.size (w.heap.size + 1 + 1 + 1)] 95))) :=
      Lib.hid ((((below1 _ _).alloc (by simp) _).alloc (by simp; omega) _).alloc (by simp; omega) _)
    have e0 : ((((w.alloc (.cells #[.string s] 9)).alloc (.cells #[.int .i64 0, .int .i64 0, .string ⟨#[]⟩, .slice none 0 0] 60)).alloc (.cells #[.int .i64 0] 3)).alloc (.cells #[readFn (w.heap.size + 1 + 1) w.heap.size (w.heap.size + 1 + 1 + 1)] 95)).heap[w.heap.size]? = some (.cells #[.string s] 9 (0, 0)) := by
      rw [Below.heap_alloc _ _ _ (by simp; omega), Below.heap_alloc _ _ _ (by simp; omega), Below.heap_alloc _ _ _ (by simp)]; exact heap_alloc_new _ _
    have e1 : ((((w.alloc (.cells #[.string s] 9)).alloc (.cells #[.int .i64 0, .int .i64 0, .string ⟨#[]⟩, .slice none 0 0] 60)).alloc (.cells #[.int .i64 0] 3)).alloc (.cells #[readFn (w.heap.size + 1 + 1) w.heap.size (w.heap.size + 1 + 1 + 1)] 95)).heap[w.heap.size + 1]? = some (.cells #[.int .i64 0, .int .i64 0, .string ⟨#[]⟩, .slice none 0 0] 60 (0, 0)) := by
      rw [Below.heap_alloc _ _ _ (by simp), Below.heap_alloc _ _ _ (by simp)]
      have := heap_alloc_new (w.alloc (.cells #[.string s] 9)) (.cells #[.int .i64 0, .int .i64 0, .string ⟨#[]⟩, .slice none 0 0] 60)
      simpa using this
    have e2 : Cnt (w.heap.size + 1 + 1) 0 ((((w.alloc (.cells #[.string s] 9)).alloc (.cells #[.int .i64 0, .int .i64 0, .string ⟨#[]⟩, .slice none 0 0] 60)).alloc (.cells #[.int .i64 0] 3)).alloc (.cells #[readFn (w.heap.size + 1 + 1) w.heap.size (w.heap.size + 1 + 1 + 1)] 95)) := by
      unfold Cnt
      rw [Below.heap_alloc _ _ _ (by simp)]
      have := heap_alloc_new ((w.alloc (.cells #[.string s] 9)).alloc (.cells #[.int .i64 0, .int .i64 0, .string ⟨#[]⟩, .slice none 0 0] 60)) (.cells #[.int .i64 0] 3)
      simpa using this
    have e3 : ((((w.alloc (.cells #[.string s] 9)).alloc (.cells #[.int .i64 0, .int .i64 0, .string ⟨#[]⟩, .slice none 0 0] 60)).alloc (.cells #[.int .i64 0] 3)).alloc (.cells #[readFn (w.heap.size + 1 + 1) w.heap.size (w.heap.size + 1 + 1 + 1)] 95)).heap[w.heap.size + 1 + 1 + 1]? = some (.cells #[readFn (w.heap.size + 1 + 1) w.heap.size (w.heap.size + 1 + 1 + 1)] 95 (0, 0)) := by
      have := heap_alloc_new (((w.alloc (.cells #[.string s] 9)).alloc (.cells #[.int .i64 0, .int .i64 0, .string ⟨#[]⟩, .slice none 0 0] 60)).alloc (.cells #[.int .i64 0] 3)) (.cells #[readFn (w.heap.size + 1 + 1) w.heap.size (w.heap.size + 1 + 1 + 1)] 95)
      simpa using this
    have esz : ((((w.alloc (.cells #[.string s] 9)).alloc (.cells #[.int .i64 0, .int .i64 0, .string ⟨#[]⟩, .slice none 0 0] 60)).alloc (.cells #[.int .i64 0] 3)).alloc (.cells #[readFn (w.heap.size + 1 + 1) w.heap.size (w.heap.size + 1 + 1 + 1)] 95)).heap.size = w.heap.size + 4 := by simp
    generalize ((((w.alloc (.cells #[.string s] 9)).alloc (.cells #[.int .i64 0, .int .i64 0, .string ⟨#[]⟩, .slice none 0 0] 60)).alloc (.cells #[.int .i64 0] 3)).alloc (.cells #[readFn (w.heap.size + 1 + 1) w.heap.size (w.heap.size + 1 + 1 + 1)] 95)) = W at hW e0 e1 e2 e3 esz ⊢
    have hcall := hV.out (w.heap.size + 1 + 1) w.heap.size (w.heap.size + 1 + 1 + 1) 0 1 0 W (by omega) (by omega) (by omega) ⟨e0, e3⟩ e2 (by omega)
    refine Calls.mono hcall ?_
    clear hcall
    intro e w1 hp
    have hF := hp.2.2
    have hsz1 := hF.size
    rw [esz] at hsz1
    have g0 := (hF.block w.heap.size (by omega) (by omega)).trans e0
    have g1 := (hF.block (w.heap.size + 1) (by omega) (by omega)).trans e1
    have hlt0 : w.heap.size < w1.heap.size := by omega
    have hlt1 : w.heap.size + 1 < w1.heap.size := by omega
    have hcs : w1.cell? ⟨w.heap.size, 0, none⟩ = some (.string s) := cell_of_heap g0
    have hcell0 : w1.cell? ⟨w.heap.size + 1, 0, none⟩ = some (.int .i64 0) := by simp [World.cell?, g1]
    have hcell1 : w1.cell? ⟨w.heap.size + 1, 1, none⟩ = some (.int .i64 0) := by simp [World.cell?, g1]
    have hcell2 : w1.cell? ⟨w.heap.size + 1, 2, none⟩ = some (.string ⟨#[]⟩) := by simp [World.cell?, g1]
    have hcell3 : w1.cell? ⟨w.heap.size + 1, 3, none⟩ = some (.slice none 0 0) := by simp [World.cell?, g1]
    have hfz : ∀ j, w1.frozen? ⟨w.heap.size + 1, j, none⟩ = false := frozen_of_heap g1
    have G1 := Lib.hid g1
    have HS := Lib.hid esz
    clear e0 e1 e2 e3 g0 g1 hF esz hmf hV
    generalize hr : rdV s.data.toList (2 * s.size + 1) 0 1 0 = r at hp HX hbd
    obtain ⟨r, cn⟩ := r
    have HP := Lib.hid hp
    obtain ⟨b1, -, -, -⟩ := hbd
    have hsl : s.data.toList.length = s.size := by simp
    rw [hsl] at b1
    clear hsl hr
    cases r with
    | bad er k =>
      obtain ⟨rfl, -, -⟩ := hp
      have hE0 : ((er : Int) != 0) = true := by have := b1.1; simp; omega
      have HX2 : Hid (getF s.data.toList = .bad er k) := Lib.hid (HX.out.trans rfl)
      clear b1 HX
      go_wp2
      have h4 := heap_put4 G1.out (.int .i64 0) (.int .i64 0) (.string ⟨#[]⟩) (.slice none 0 0)
      have hbut := But.put4 (w.heap.size + 1) w1 (.int .i64 0) (.int .i64 0) (.string ⟨#[]⟩) (.slice none 0 0)
      generalize ((((w1.setCell ⟨w.heap.size + 1, 0, none⟩ (.int .i64 0)).setCell ⟨w.heap.size + 1, 1, none⟩ (.int .i64 0)).setCell ⟨w.heap.size + 1, 2, none⟩ (.string ⟨#[]⟩)).setCell ⟨w.heap.size + 1, 3, none⟩ (.slice none 0 0)) = w4 at h4 hbut ⊢
      have h5 := (Below.heap_alloc w4 (.cells #[.int .i64 0, .int .i64 0, .string ⟨#[]⟩, .slice none 0 0] 60) (w.heap.size + 1) (by rw [hbut.size]; exact hlt1)).trans h4
      have hup := GetPost.bad (er := er) (k := k) hW.out HP.out (by omega) hbut (by omega) (.cells #[.int .i64 0, .int .i64 0, .string ⟨#[]⟩, .slice none 0 0] 60)
      generalize w4.alloc (.cells #[.int .i64 0, .int .i64 0, .string ⟨#[]⟩, .slice none 0 0] 60) = w5 at h5 hup ⊢
      exact bodyPost_ret (v := .tuple #[zeroV, .int .i64 er, .int .i64 k]) (by simp [results, Tryz.results38, go_sem, World.cell?, h5]) rfl (by rw [HX2.out]; exact hup)
    | ok t k =>
      obtain ⟨⟨v, rfl, hrep⟩, -, -⟩ := hp
      obtain ⟨kd, n0, b0, a0, len0, cap0, rfl⟩ := Rep.cells t v hrep
      have HR := Lib.hid hrep
      clear hrep
      have b2 := b1.2
      clear b1
      by_cases hk : k < s.size
      · have HX2 : Hid (getF s.data.toList = .bad 11 k) := Lib.hid (HX.out.trans (if_pos hk))
        clear HX
        go_wp2
        have h4 := heap_put4 G1.out (.int .i64 0) (.int .i64 0) (.string ⟨#[]⟩) (.slice none 0 0)
        have hbut := But.put4 (w.heap.size + 1) w1 (.int .i64 0) (.int .i64 0) (.string ⟨#[]⟩) (.slice none 0 0)
        generalize ((((w1.setCell ⟨w.heap.size + 1, 0, none⟩ (.int .i64 0)).setCell ⟨w.heap.size + 1, 1, none⟩ (.int .i64 0)).setCell ⟨w.heap.size + 1, 2, none⟩ (.string ⟨#[]⟩)).setCell ⟨w.heap.size + 1, 3, none⟩ (.slice none 0 0)) = w4 at h4 hbut ⊢
        have h5 := (Below.heap_alloc w4 (.cells #[.int .i64 kd, .int .i64 n0, .string b0, .slice a0 len0 cap0] 60) (w.heap.size + 1) (by rw [hbut.size]; exact hlt1)).trans h4
        have hup := GetPost.bad (er := 11) (k := k) hW.out HP.out (by omega) hbut (by omega) (.cells #[.int .i64 kd, .int .i64 n0, .string b0, .slice a0 len0 cap0] 60)
        generalize w4.alloc (.cells #[.int .i64 kd, .int .i64 n0, .string b0, .slice a0 len0 cap0] 60) = w5 at h5 hup ⊢
        exact bodyPost_ret (v := .tuple #[zeroV, .int .i64 11, .int .i64 k]) (by simp [results, Tryz.results38, go_sem, World.cell?, h5]) rfl (by rw [HX2.out]; exact hup)
      · have HX2 : Hid (getF s.data.toList = .ok t 0) := Lib.hid (HX.out.trans (if_neg hk))
        clear HX
        go_wp2
        have h4 := heap_put4 G1.out (.int .i64 kd) (.int .i64 n0) (.string b0) (.slice a0 len0 cap0)
        have hbut := But.put4 (w.heap.size + 1) w1 (.int .i64 kd) (.int .i64 n0) (.string b0) (.slice a0 len0 cap0)
        generalize ((((w1.setCell ⟨w.heap.size + 1, 0, none⟩ (.int .i64 kd)).setCell ⟨w.heap.size + 1, 1, none⟩ (.int .i64 n0)).setCell ⟨w.heap.size + 1, 2, none⟩ (.string b0)).setCell ⟨w.heap.size + 1, 3, none⟩ (.slice a0 len0 cap0)) = w4 at h4 hbut ⊢
        have h5 := (Below.heap_alloc w4 (.cells #[.int .i64 kd, .int .i64 n0, .string b0, .slice a0 len0 cap0] 60) (w.heap.size + 1) (by rw [hbut.size]; exact hlt1)).trans h4
        have hup := GetPost.ok hW.out HP.out HR.out (by omega) hbut (by omega) (by rw [HS.out]; omega) (.cells #[.int .i64 kd, .int .i64 n0, .string b0, .slice a0 len0 cap0] 60)
        generalize w4.alloc (.cells #[.int .i64 kd, .int .i64 n0, .string b0, .slice a0 len0 cap0] 60) = w5 at h5 hup ⊢
        exact bodyPost_ret (v := .tuple #[.agg #[.int .i64 kd, .int .i64 n0, .string b0, .slice a0 len0 cap0], .int .i64 0, .int .i64 0]) (by simp [results, Tryz.results38, go_sem, World.cell?, h5]) rfl (by rw [HX2.out]; exact hup)
end Go.Proofs.YtdnedbcmgkilaaaGreatDoor.Co

end
