/- Package code's reader: the closure of Get, the list and its element: what the calls answer and leave. -/
import Derived.Test.YtdnedbcmgkilaaaGreatDoorZBg13

namespace Go.Proofs.YtdnedbcmgkilaaaGreatDoor.Co
open Go.RowKit
abbrev readFn (c sb rb : Nat) : Value := .func (.func 68) #[] #[.pointer (some ⟨c, 0, none⟩), .pointer (some ⟨sb, 0, none⟩), .pointer (some ⟨rb, 0, none⟩)]
abbrev elemFn (rb lb : Nat) : Value := .func (.func 72) #[] #[.pointer (some ⟨rb, 0, none⟩), .pointer (some ⟨lb, 0, none⟩)]
structure Env (s : ByteArray) (c sb rb : Nat) (w : World) : Prop where
  hs : w.heap[sb]? = some (.cells #[.string s] 9 (0, 0))
  hr : w.heap[rb]? = some (.cells #[readFn c sb rb] 95 (0, 0))
def Cnt (c n : Nat) (w : World) : Prop := w.heap[c]? = some (.cells #[.int .i64 n] 3 (0, 0))
theorem lt_of_heap {w : World} {k : Nat} {o : Obj} (h : w.heap[k]? = some o) : k < w.heap.size := (Array.getElem?_eq_some_iff.1 h).1
theorem cell_of_heap {w : World} {k : Nat} {v : Value} {t : TypeId} (h : w.heap[k]? = some (.cells #[v] t (0, 0))) : w.cell? ⟨k, 0, none⟩ = some v := by simp [World.cell?, h]
theorem frozen_of_heap {w : World} {k : Nat} {cs : Array Value} {t : TypeId} (h : w.heap[k]? = some (.cells cs t (0, 0))) (i : Nat) : w.frozen? ⟨k, i, none⟩ = false := by simp [World.frozen?, h]
def Post (r : Res × Nat) (c : Nat) (w : World) (e : Ending) (w' : World) : Prop :=
  (match r.1 with
   | .ok t k => ∃ v, e = .returned (.tuple #[v, .int .i64 0, .int .i64 k]) ∧ Rep w' (fun b => w.heap.size ≤ b ∧ b < w'.heap.size) t v
   | .bad er k => e = .returned (.tuple #[zeroV, .int .i64 er, .int .i64 k])) ∧
  Cnt c r.2 w' ∧ Fr (· = c) w w'
def ReadOK (s : ByteArray) (f : Nat) : Prop := ∀ (c sb rb i level count : Nat) (w : World), i ≤ s.size → level ≤ 31 → count ≤ 4000 → Env s c sb rb w → Cnt c count w → 2 * (s.size - i) + 1 ≤ f →
  Calls Tryz.prog 68 #[.int .i64 i, .int .i64 level, .pointer (some ⟨c, 0, none⟩), .pointer (some ⟨sb, 0, none⟩), .pointer (some ⟨rb, 0, none⟩)] w (Post (rdV s.data.toList f i level count) c w)
def ElemOK (s : ByteArray) (f : Nat) : Prop := ∀ (c sb rb lb i level count : Nat) (w : World), i ≤ s.size → level ≤ 30 → count ≤ 4000 → Env s c sb rb w → Cnt c count w → w.heap[lb]? = some (.cells #[.int .i64 level] 3 (0, 0)) → 2 * (s.size - i) + 1 ≤ f →
  Calls Tryz.prog 72 #[.int .i64 i, .pointer (some ⟨rb, 0, none⟩), .pointer (some ⟨lb, 0, none⟩)] w (Post (rdV s.data.toList f i (level + 1) count) c w)
def ListOK (s : ByteArray) (f : Nat) : Prop := ∀ (c sb rb lb i level count : Nat) (w : World), i ≤ s.size → level ≤ 30 → count ≤ 4000 → Env s c sb rb w → Cnt c count w → lb ≠ c → w.heap[lb]? = some (.cells #[.int .i64 level] 3 (0, 0)) → 2 * (s.size - i) + 2 ≤ f →
  Calls Tryz.prog 71 #[.string s, .int .i64 i, elemFn rb lb] w (Post (rdL s.data.toList f i level count []) c w)
theorem Env.fr {s : ByteArray} {c sb rb : Nat} {w w' : World} (h : Env s c sb rb w) (hc : ∃ n, Cnt c n w) (hf : Fr (· = c) w w') : Env s c sb rb w' := by
  obtain ⟨n, hn⟩ := hc
  unfold Cnt at hn
  have h1 : sb ≠ c := by
    intro e; subst e; have := h.hs; rw [hn] at this; injection this with this; injection this with _ this; cases this
  have h2 : rb ≠ c := by
    intro e; subst e; have := h.hr; rw [hn] at this; injection this with this; injection this with _ this; cases this
  exact ⟨(hf.block sb (lt_of_heap h.hs) h1).trans h.hs, (hf.block rb (lt_of_heap h.hr) h2).trans h.hr⟩
theorem Env.ne {s : ByteArray} {c sb rb : Nat} {w : World} (h : Env s c sb rb w) {n : Nat} (hn : Cnt c n w) : sb ≠ c ∧ rb ≠ c := by
  unfold Cnt at hn
  constructor
  · intro e; subst e; have := h.hs; rw [hn] at this; injection this with this; injection this with _ this; cases this
  · intro e; subst e; have := h.hr; rw [hn] at this; injection this with this; injection this with _ this; cases this
theorem Env.alloc {s : ByteArray} {c sb rb : Nat} {w : World} (h : Env s c sb rb w) (o : Obj) : Env s c sb rb (w.alloc o) :=
  ⟨(Below.heap_alloc _ _ _ (lt_of_heap h.hs)).trans h.hs, (Below.heap_alloc _ _ _ (lt_of_heap h.hr)).trans h.hr⟩
theorem Cnt.alloc {c n : Nat} {w : World} (h : Cnt c n w) (o : Obj) : Cnt c n (w.alloc o) := (Below.heap_alloc _ _ _ (lt_of_heap h)).trans h
theorem Post.up {r : Res × Nat} {c h : Nat} {w W w1 w4 : World} {e : Ending} (hF : Fr (· = c) w W) (hp : Post r c W e w1) (hb : But h w1 w4) (h1 : w.heap.size ≤ h) (h2 : h < W.heap.size) (hc : c < w.heap.size) : Post r c w e w4 := by
  obtain ⟨hr, hn, hf⟩ := hp
  refine ⟨?_, (hb.block c (by omega)).trans hn, ?_⟩
  · split at hr
    · obtain ⟨v, he, hv⟩ := hr
      exact ⟨v, he, Rep.keep (fun g hg => hb.block g (by omega)) (fun g hg => ⟨by have := hF.size; omega, by rw [hb.size]; exact hg.2⟩) _ _ hv⟩
    · exact hr
  · have hx := hF.trans hf
    exact ⟨hb.os.trans hx.os, hb.tape.trans hx.tape, hb.output.trans hx.output, by rw [hb.size]; exact hx.size, fun k hk hk2 => (hb.block k (by omega)).trans (hx.block k hk hk2)⟩
theorem elem_ok {s : ByteArray} {f : Nat} (_ : s.size ≤ 131072) (hV : ReadOK s f) : ElemOK s f := by
  intro c sb rb lb i level count w hi hl hc env hcnt hlb hf
  have hlts := lt_of_heap env.hs
  have hltr := lt_of_heap env.hr
  have hltl := lt_of_heap hlb
  have hltc := lt_of_heap hcnt
  have hcr := cell_of_heap env.hr
  have hcl := cell_of_heap hlb
  have HV := Lib.hid hV
  have HE := Lib.hid env
  have HC := Lib.hid hcnt
  clear hV env hcnt hlb
  go_enter Tryz.func72, Tryz.ntmps72
  go_wp2_with fail
  refine (HV.out c sb rb i (level + 1) count _ hi (by omega) hc (HE.out.alloc _) (HC.out.alloc _) hf).mono ?_
  intro e w1 hp
  clear hcr hcl
  have hne : w.heap.size ≠ c := by omega
  have hblk := hp.2.2.block w.heap.size (by simp) hne
  rw [heap_alloc_new] at hblk
  have hsz := hp.2.2.size
  simp only [World.size_alloc] at hsz
  have hcell0 : w1.cell? ⟨w.heap.size, 0, none⟩ = some (.int .i64 0) := by simp [World.cell?, hblk]
  have hcell1 : w1.cell? ⟨w.heap.size, 1, none⟩ = some (.int .i64 0) := by simp [World.cell?, hblk]
  have hcell2 : w1.cell? ⟨w.heap.size, 2, none⟩ = some (.string ⟨#[]⟩) := by simp [World.cell?, hblk]
  have hcell3 : w1.cell? ⟨w.heap.size, 3, none⟩ = some (.slice none 0 0) := by simp [World.cell?, hblk]
  have hfz : ∀ j, w1.frozen? ⟨w.heap.size, j, none⟩ = false := frozen_of_heap hblk
  have HB := Lib.hid hblk
  have HP := Lib.hid hp
  generalize hr : rdV s.data.toList f i (level + 1) count = r at hp HP
  obtain ⟨r, cn⟩ := r
  have HR := Lib.hid hr
  clear hr hblk
  cases r with
  | ok t k =>
    obtain ⟨⟨v, rfl, hrep⟩, -, -⟩ := hp
    obtain ⟨kd, n0, b0, a0, len0, cap0, rfl⟩ := Rep.cells t v hrep
    clear hrep
    go_wp2
    have h4 := heap_put4 HB.out (.int .i64 kd) (.int .i64 n0) (.string b0) (.slice a0 len0 cap0)
    have hup := Post.up ((Fr.refl (· = c) w).alloc _) HP.out (But.put4 w.heap.size w1 (.int .i64 kd) (.int .i64 n0) (.string b0) (.slice a0 len0 cap0)) (Nat.le_refl _) (by simp) hltc
    generalize ((((w1.setCell ⟨w.heap.size, 0, none⟩ (.int .i64 kd)).setCell ⟨w.heap.size, 1, none⟩ (.int .i64 n0)).setCell ⟨w.heap.size, 2, none⟩ (.string b0)).setCell ⟨w.heap.size, 3, none⟩ (.slice a0 len0 cap0)) = w4 at h4 hup ⊢
    exact bodyPost_ret (v := .tuple #[.agg #[.int .i64 kd, .int .i64 n0, .string b0, .slice a0 len0 cap0], .int .i64 0, .int .i64 k]) (by simp [results, Tryz.results72, go_sem, World.cell?, h4]) rfl (by rw [HR.out]; exact hup)
  | bad er k =>
    obtain ⟨rfl, -, -⟩ := hp
    go_wp2
    have h4 := heap_put4 HB.out (.int .i64 0) (.int .i64 0) (.string ⟨#[]⟩) (.slice none 0 0)
    have hup := Post.up ((Fr.refl (· = c) w).alloc _) HP.out (But.put4 w.heap.size w1 (.int .i64 0) (.int .i64 0) (.string ⟨#[]⟩) (.slice none 0 0)) (Nat.le_refl _) (by simp) hltc
    generalize ((((w1.setCell ⟨w.heap.size, 0, none⟩ (.int .i64 0)).setCell ⟨w.heap.size, 1, none⟩ (.int .i64 0)).setCell ⟨w.heap.size, 2, none⟩ (.string ⟨#[]⟩)).setCell ⟨w.heap.size, 3, none⟩ (.slice none 0 0)) = w4 at h4 hup ⊢
    exact bodyPost_ret (v := .tuple #[zeroV, .int .i64 er, .int .i64 k]) (by simp [results, Tryz.results72, go_sem, World.cell?, h4]) rfl (by rw [HR.out]; exact hup)
theorem Cnt.below {c n B : Nat} {w w' : World} (h : Cnt c n w) (hb : Below B w w') (hc : c < B) : Cnt c n w' := (hb.block c hc).trans h
theorem leaf_post {r : Res} {c n : Nat} {W w1 : World} {e : Ending} (hl : ∀ ts k, r ≠ .ok (.list ts) k) (hn : Cnt c n W) (he : e = RetLeaf r) (hb : Below W.heap.size W w1) : Post (r, n) c W e w1 := by
  refine ⟨?_, hn.below hb (lt_of_heap hn), Fr.of_below hb⟩
  subst he
  cases r with
  | bad e k => rfl
  | ok t k =>
    cases t with
    | num n => exact ⟨_, rfl, by rw [Rep]⟩
    | text bs => exact ⟨_, rfl, by rw [Rep]⟩
    | list ts => exact absurd rfl (hl ts k)
theorem numF_leaf (l : List UInt8) (i : Nat) : ∀ ts k, numF l i ≠ .ok (.list ts) k := by
  intro ts k h
  unfold numF at h
  split at h
  · split at h
    · cases h
    · split at h <;> cases h
  · split at h <;> cases h
theorem textF_leaf (l : List UInt8) (i : Nat) : ∀ ts k, textF l i ≠ .ok (.list ts) k := by
  intro ts k h
  unfold textF at h
  split at h
  · split at h <;> cases h
  · cases h
theorem number_post (s : ByteArray) (i c n : Nat) (W : World) (hs : s.size ≤ 131072) (hi : i + 1 ≤ s.size) (hn : Cnt c n W) :
    Calls Tryz.prog 70 #[.string s, .int .i64 ((i : Int) + 1)] W (Post (numF s.data.toList (i + 1), n) c W) :=
  (number_any s (i + 1) W (by omega) hi).mono fun _ _ ⟨he, hb⟩ => leaf_post (numF_leaf _ _) hn he hb
theorem text_post (s : ByteArray) (i c n : Nat) (W : World) (hs : s.size ≤ 131072) (hi : i ≤ s.size) (hn : Cnt c n W) :
    Calls Tryz.prog 73 #[.string s, .int .i64 i] W (Post (textF s.data.toList i, n) c W) :=
  (text_any s i W (by omega) hi).mono fun _ _ ⟨he, hb⟩ => leaf_post (textF_leaf _ _) hn he hb
theorem rdV_succ (l : List UInt8) (f i level count : Nat) : rdV l (f + 1) i level count =
    if beginF l i level (count + 1) = 0 then
      if l[i]? = some 105 then (numF l (i + 1), count + 1)
      else if l[i]? = some 108 then rdL l f (i + 1) level (count + 1) []
      else (textF l i, count + 1)
    else (.bad (beginF l i level (count + 1)) i, count + 1) := by rw [rdV]
theorem beginF_zero {s : ByteArray} {i level count : Nat} (h : beginF s.data.toList i level count = 0) : i < s.size ∧ level ≤ 30 ∧ count ≤ 4000 := by
  by_cases hlt : i < s.size
  · rw [beginF_eq (get_of s i hlt)] at h
    refine ⟨hlt, ?_⟩
    repeat' split at h
    all_goals omega
  · unfold beginF at h; rw [get_no s i hlt] at h; cases h
theorem Cnt.set {c n : Nat} {w : World} (h : Cnt c n w) (m : Nat) : Cnt c m (w.setCell ⟨c, 0, none⟩ (.int .i64 m)) := heap_set h 0 _
set_option maxHeartbeats 3200000 in
theorem read_ok {s : ByteArray} {f : Nat} (hs : s.size ≤ 131072) (hL : ListOK s f) : ReadOK s (f + 1) := by
  intro c sb rb i level count w hi hl hc env hcnt hf
  have hlts := lt_of_heap env.hs
  have hltr := lt_of_heap env.hr
  have hltc := lt_of_heap hcnt
  have hcs := cell_of_heap env.hs
  have hcr := cell_of_heap env.hr
  have hcc := cell_of_heap hcnt
  have hcf : w.frozen? ⟨c, 0, none⟩ = false := frozen_of_heap hcnt 0
  obtain ⟨hns, hnr⟩ := env.ne hcnt
  have hF : Hid (Fr (· = c) w (w.setCell ⟨c, 0, none⟩ (.int .i64 ((count : Int) + 1)))) := Lib.hid ((Fr.refl (· = c) w).setCell (p := ⟨c, 0, none⟩) (.inr rfl) _)
  have HE : Hid (Env s c sb rb (w.setCell ⟨c, 0, none⟩ (.int .i64 ((count : Int) + 1)))) := Lib.hid (env.fr ⟨_, hcnt⟩ hF.out)
  have HC : Hid (Cnt c (count + 1) (w.setCell ⟨c, 0, none⟩ (.int .i64 ((count : Int) + 1)))) := Lib.hid (hcnt.set (count + 1))
  have hcs1 : (w.setCell ⟨c, 0, none⟩ (.int .i64 ((count : Int) + 1))).cell? ⟨sb, 0, none⟩ = some (.string s) := cell_of_heap HE.out.hs
  have hsz : (w.setCell ⟨c, 0, none⟩ (.int .i64 ((count : Int) + 1))).heap.size = w.heap.size := by simp [World.setCell]
  have hbeg : Hid (∀ W, Calls Tryz.prog 69 #[.string s, .int .i64 i, .int .i64 level, .int .i64 ((count : Int) + 1)] W fun e w' => e = .returned (.int .i64 (beginF s.data.toList i level (count + 1))) ∧ W = w') :=
    Lib.hid (fun W => begin_any s i level (count + 1) W (by omega) hi (by omega) (by omega))
  have HL := Lib.hid hL
  have HX := Lib.hid (rdV_succ s.data.toList f i level count)
  have HS := Lib.hid hsz
  clear hL env hcnt hsz
  generalize hb : beginF s.data.toList i level (count + 1) = b at hbeg HX
  by_cases hb0 : b = 0
  · subst hb0
    obtain ⟨hlt, hl30, hc4⟩ := beginF_zero hb
    have H2 := Lib.hid (HX.out.trans (if_pos rfl))
    clear HX hb
    have hgt := get_of s i hlt
    have hsome := fun n => some45 s i n hlt
    by_cases h105 : s.data.toList[i]? = some 105
    · have HX := Lib.hid (H2.out.trans (if_pos h105))
      have hB : (((s[i].toNat : Nat) : Int) == 105) = true := by have := (hsome 105).1 h105; simp at this ⊢; omega
      clear H2 hgt hsome h105
      go_enter Tryz.func68, Tryz.ntmps68
      go_wp2_with fail
      refine (hbeg.out _).mono ?_
      rintro e w' ⟨rfl, rfl⟩
      go_wp2_with fail
      generalize hw1 : w.setCell ⟨c, 0, none⟩ (.int .i64 ((count : Int) + 1)) = w1 at *
      have hsz : w1.heap.size = w.heap.size := HS.out
      refine (number_post s i c (count + 1) _ hs (by omega) ((HC.out.alloc _).alloc _)).mono ?_
      intro e w2 hp
      have hblk := hp.2.2.block (w.heap.size + 1) (by simp [hsz]) (by omega)
      have hblk' : w2.heap[w.heap.size + 1]? = some (.cells #[.int .i64 0, .int .i64 0, .string ⟨#[]⟩, .slice none 0 0] 60 (0, 0)) := by
        rw [hblk]; rw [show w.heap.size + 1 = (w1.alloc (.cells #[.int .i64 level] 3)).heap.size from by simp [hsz]]; exact heap_alloc_new _ _
      clear hblk
      have hsz2 := hp.2.2.size
      simp only [World.size_alloc] at hsz2
      have hcell0 : w2.cell? ⟨w.heap.size + 1, 0, none⟩ = some (.int .i64 0) := by simp [World.cell?, hblk']
      have hcell1 : w2.cell? ⟨w.heap.size + 1, 1, none⟩ = some (.int .i64 0) := by simp [World.cell?, hblk']
      have hcell2 : w2.cell? ⟨w.heap.size + 1, 2, none⟩ = some (.string ⟨#[]⟩) := by simp [World.cell?, hblk']
      have hcell3 : w2.cell? ⟨w.heap.size + 1, 3, none⟩ = some (.slice none 0 0) := by simp [World.cell?, hblk']
      have hfz : ∀ j, w2.frozen? ⟨w.heap.size + 1, j, none⟩ = false := frozen_of_heap hblk'
      have HB := Lib.hid hblk'
      have HP := Lib.hid hp
      generalize hr : (numF s.data.toList (i + 1), count + 1) = r at hp HP
      obtain ⟨r, cn⟩ := r
      have HR := Lib.hid hr
      clear hr hblk'
      cases r with
      | ok t k =>
        obtain ⟨⟨v, rfl, hrep⟩, -, -⟩ := hp
        obtain ⟨kd, n0, b0, a0, len0, cap0, rfl⟩ := Rep.cells t v hrep
        clear hrep
        go_wp2
        have h4 := heap_put4 HB.out (.int .i64 kd) (.int .i64 n0) (.string b0) (.slice a0 len0 cap0)
        have hup := Post.up ((hF.out.alloc _).alloc _) HP.out (But.put4 (w.heap.size + 1) w2 (.int .i64 kd) (.int .i64 n0) (.string b0) (.slice a0 len0 cap0)) (Nat.le_succ _) (by simp [hsz]) hltc
        generalize ((((w2.setCell ⟨w.heap.size + 1, 0, none⟩ (.int .i64 kd)).setCell ⟨w.heap.size + 1, 1, none⟩ (.int .i64 n0)).setCell ⟨w.heap.size + 1, 2, none⟩ (.string b0)).setCell ⟨w.heap.size + 1, 3, none⟩ (.slice a0 len0 cap0)) = w4 at h4 hup ⊢
        exact bodyPost_ret (v := .tuple #[.agg #[.int .i64 kd, .int .i64 n0, .string b0, .slice a0 len0 cap0], .int .i64 0, .int .i64 k]) (by simp [results, Tryz.results68, go_sem, World.cell?, h4]) rfl (by rw [HX.out, HR.out]; exact hup)
      | bad er k =>
        obtain ⟨rfl, -, -⟩ := hp
        go_wp2
        have h4 := heap_put4 HB.out (.int .i64 0) (.int .i64 0) (.string ⟨#[]⟩) (.slice none 0 0)
        have hup := Post.up ((hF.out.alloc _).alloc _) HP.out (But.put4 (w.heap.size + 1) w2 (.int .i64 0) (.int .i64 0) (.string ⟨#[]⟩) (.slice none 0 0)) (Nat.le_succ _) (by simp [hsz]) hltc
        generalize ((((w2.setCell ⟨w.heap.size + 1, 0, none⟩ (.int .i64 0)).setCell ⟨w.heap.size + 1, 1, none⟩ (.int .i64 0)).setCell ⟨w.heap.size + 1, 2, none⟩ (.string ⟨#[]⟩)).setCell ⟨w.heap.size + 1, 3, none⟩ (.slice none 0 0)) = w4 at h4 hup ⊢
        exact bodyPost_ret (v := .tuple #[zeroV, .int .i64 er, .int .i64 k]) (by simp [results, Tryz.results68, go_sem, World.cell?, h4]) rfl (by rw [HX.out, HR.out]; exact hup)
    · have hB1 : (((s[i].toNat : Nat) : Int) == 105) = false := by have := fun h => h105 ((hsome 105).2 h); simp at this ⊢; omega
      have H3 := Lib.hid (H2.out.trans (if_neg h105))
      clear H2
      by_cases h108 : s.data.toList[i]? = some 108
      · have HX := Lib.hid (H3.out.trans (if_pos h108))
        have hB : (((s[i].toNat : Nat) : Int) == 108) = true := by have := (hsome 108).1 h108; simp at this ⊢; omega
        clear H3 hgt hsome h108 h105
        have hmf : ∀ (fn : Fn) (first cap : Array Value) (w : World), (Instr.makeFunc fn first cap).run Tryz.prog w = .ok (.func fn first cap) w := fun _ _ _ _ => rfl
        go_enter Tryz.func68, Tryz.ntmps68
        go_wp2_with fail
        refine (hbeg.out _).mono ?_
        rintro e w' ⟨rfl, rfl⟩
        go_wp2_with fail
        generalize hw1 : w.setCell ⟨c, 0, none⟩ (.int .i64 ((count : Int) + 1)) = w1 at *
        have hsz : w1.heap.size = w.heap.size := HS.out
        have hcl : Calls Tryz.prog 71 #[.string s, .int .i64 ((i : Int) + 1), elemFn rb w.heap.size] _ (Post (rdL s.data.toList f (i + 1) level (count + 1) []) c _) := HL.out c sb rb w.heap.size (i + 1) level (count + 1) ((w1.alloc (.cells #[.int .i64 level] 3)).alloc (.cells #[.int .i64 0, .int .i64 0, .string ⟨#[]⟩, .slice none 0 0] 60)) (by omega) hl30 hc4 ((HE.out.alloc _).alloc _) ((HC.out.alloc _).alloc _) (by omega)
          (by rw [Below.heap_alloc _ _ _ (by simp [hsz]), ← hsz]; exact heap_alloc_new _ _) (by omega)
        refine hcl.mono ?_
        clear hcl hmf
        intro e w2 hp
        have hblk := hp.2.2.block (w.heap.size + 1) (by simp [hsz]) (by omega)
        have hblk' : w2.heap[w.heap.size + 1]? = some (.cells #[.int .i64 0, .int .i64 0, .string ⟨#[]⟩, .slice none 0 0] 60 (0, 0)) := by
          rw [hblk]; rw [show w.heap.size + 1 = (w1.alloc (.cells #[.int .i64 level] 3)).heap.size from by simp [hsz]]; exact heap_alloc_new _ _
        clear hblk
        have hsz2 := hp.2.2.size
        simp only [World.size_alloc] at hsz2
        have hcell0 : w2.cell? ⟨w.heap.size + 1, 0, none⟩ = some (.int .i64 0) := by simp [World.cell?, hblk']
        have hcell1 : w2.cell? ⟨w.heap.size + 1, 1, none⟩ = some (.int .i64 0) := by simp [World.cell?, hblk']
        have hcell2 : w2.cell? ⟨w.heap.size + 1, 2, none⟩ = some (.string ⟨#[]⟩) := by simp [World.cell?, hblk']
        have hcell3 : w2.cell? ⟨w.heap.size + 1, 3, none⟩ = some (.slice none 0 0) := by simp [World.cell?, hblk']
        have hfz : ∀ j, w2.frozen? ⟨w.heap.size + 1, j, none⟩ = false := frozen_of_heap hblk'
        have HB := Lib.hid hblk'
        have HP := Lib.hid hp
        generalize hr : rdL s.data.toList f (i + 1) level (count + 1) [] = r at hp HP
        obtain ⟨r, cn⟩ := r
        have HR := Lib.hid hr
        clear hr hblk'
        cases r with
        | ok t k =>
          obtain ⟨⟨v, rfl, hrep⟩, -, -⟩ := hp
          obtain ⟨kd, n0, b0, a0, len0, cap0, rfl⟩ := Rep.cells t v hrep
          clear hrep
          go_wp2
          have h4 := heap_put4 HB.out (.int .i64 kd) (.int .i64 n0) (.string b0) (.slice a0 len0 cap0)
          have hup := Post.up ((hF.out.alloc _).alloc _) HP.out (But.put4 (w.heap.size + 1) w2 (.int .i64 kd) (.int .i64 n0) (.string b0) (.slice a0 len0 cap0)) (Nat.le_succ _) (by simp [hsz]) hltc
          generalize ((((w2.setCell ⟨w.heap.size + 1, 0, none⟩ (.int .i64 kd)).setCell ⟨w.heap.size + 1, 1, none⟩ (.int .i64 n0)).setCell ⟨w.heap.size + 1, 2, none⟩ (.string b0)).setCell ⟨w.heap.size + 1, 3, none⟩ (.slice a0 len0 cap0)) = w4 at h4 hup ⊢
          exact bodyPost_ret (v := .tuple #[.agg #[.int .i64 kd, .int .i64 n0, .string b0, .slice a0 len0 cap0], .int .i64 0, .int .i64 k]) (by simp [results, Tryz.results68, go_sem, World.cell?, h4]) rfl (by rw [HX.out, HR.out]; exact hup)
        | bad er k =>
          obtain ⟨rfl, -, -⟩ := hp
          go_wp2
          have h4 := heap_put4 HB.out (.int .i64 0) (.int .i64 0) (.string ⟨#[]⟩) (.slice none 0 0)
          have hup := Post.up ((hF.out.alloc _).alloc _) HP.out (But.put4 (w.heap.size + 1) w2 (.int .i64 0) (.int .i64 0) (.string ⟨#[]⟩) (.slice none 0 0)) (Nat.le_succ _) (by simp [hsz]) hltc
          generalize ((((w2.setCell ⟨w.heap.size + 1, 0, none⟩ (.int .i64 0)).setCell ⟨w.heap.size + 1, 1, none⟩ (.int .i64 0)).setCell ⟨w.heap.size + 1, 2, none⟩ (.string ⟨#[]⟩)).setCell ⟨w.heap.size + 1, 3, none⟩ (.slice none 0 0)) = w4 at h4 hup ⊢
          exact bodyPost_ret (v := .tuple #[zeroV, .int .i64 er, .int .i64 k]) (by simp [results, Tryz.results68, go_sem, World.cell?, h4]) rfl (by rw [HX.out, HR.out]; exact hup)
      · have hB : (((s[i].toNat : Nat) : Int) == 108) = false := by have := fun h => h108 ((hsome 108).2 h); simp at this ⊢; omega
        have HX := Lib.hid (H3.out.trans (if_neg h108))
        clear H3 hgt hsome h108 h105
        go_enter Tryz.func68, Tryz.ntmps68
        go_wp2_with fail
        refine (hbeg.out _).mono ?_
        rintro e w' ⟨rfl, rfl⟩
        go_wp2_with fail
        generalize hw1 : w.setCell ⟨c, 0, none⟩ (.int .i64 ((count : Int) + 1)) = w1 at *
        have hsz : w1.heap.size = w.heap.size := HS.out
        refine (text_post s i c (count + 1) _ hs (by omega) ((HC.out.alloc _).alloc _)).mono ?_
        intro e w2 hp
        have hblk := hp.2.2.block (w.heap.size + 1) (by simp [hsz]) (by omega)
        have hblk' : w2.heap[w.heap.size + 1]? = some (.cells #[.int .i64 0, .int .i64 0, .string ⟨#[]⟩, .slice none 0 0] 60 (0, 0)) := by
          rw [hblk]; rw [show w.heap.size + 1 = (w1.alloc (.cells #[.int .i64 level] 3)).heap.size from by simp [hsz]]; exact heap_alloc_new _ _
        clear hblk
        have hsz2 := hp.2.2.size
        simp only [World.size_alloc] at hsz2
        have hcell0 : w2.cell? ⟨w.heap.size + 1, 0, none⟩ = some (.int .i64 0) := by simp [World.cell?, hblk']
        have hcell1 : w2.cell? ⟨w.heap.size + 1, 1, none⟩ = some (.int .i64 0) := by simp [World.cell?, hblk']
        have hcell2 : w2.cell? ⟨w.heap.size + 1, 2, none⟩ = some (.string ⟨#[]⟩) := by simp [World.cell?, hblk']
        have hcell3 : w2.cell? ⟨w.heap.size + 1, 3, none⟩ = some (.slice none 0 0) := by simp [World.cell?, hblk']
        have hfz : ∀ j, w2.frozen? ⟨w.heap.size + 1, j, none⟩ = false := frozen_of_heap hblk'
        have HB := Lib.hid hblk'
        have HP := Lib.hid hp
        generalize hr : (textF s.data.toList i, count + 1) = r at hp HP
        obtain ⟨r, cn⟩ := r
        have HR := Lib.hid hr
        clear hr hblk'
        cases r with
        | ok t k =>
          obtain ⟨⟨v, rfl, hrep⟩, -, -⟩ := hp
          obtain ⟨kd, n0, b0, a0, len0, cap0, rfl⟩ := Rep.cells t v hrep
          clear hrep
          go_wp2
          have h4 := heap_put4 HB.out (.int .i64 kd) (.int .i64 n0) (.string b0) (.slice a0 len0 cap0)
          have hup := Post.up ((hF.out.alloc _).alloc _) HP.out (But.put4 (w.heap.size + 1) w2 (.int .i64 kd) (.int .i64 n0) (.string b0) (.slice a0 len0 cap0)) (Nat.le_succ _) (by simp [hsz]) hltc
          generalize ((((w2.setCell ⟨w.heap.size + 1, 0, none⟩ (.int .i64 kd)).setCell ⟨w.heap.size + 1, 1, none⟩ (.int .i64 n0)).setCell ⟨w.heap.size + 1, 2, none⟩ (.string b0)).setCell ⟨w.heap.size + 1, 3, none⟩ (.slice a0 len0 cap0)) = w4 at h4 hup ⊢
          exact bodyPost_ret (v := .tuple #[.agg #[.int .i64 kd, .int .i64 n0, .string b0, .slice a0 len0 cap0], .int .i64 0, .int .i64 k]) (by simp [results, Tryz.results68, go_sem, World.cell?, h4]) rfl (by rw [HX.out, HR.out]; exact hup)
        | bad er k =>
          obtain ⟨rfl, -, -⟩ := hp
          go_wp2
          have h4 := heap_put4 HB.out (.int .i64 0) (.int .i64 0) (.string ⟨#[]⟩) (.slice none 0 0)
          have hup := Post.up ((hF.out.alloc _).alloc _) HP.out (But.put4 (w.heap.size + 1) w2 (.int .i64 0) (.int .i64 0) (.string ⟨#[]⟩) (.slice none 0 0)) (Nat.le_succ _) (by simp [hsz]) hltc
          generalize ((((w2.setCell ⟨w.heap.size + 1, 0, none⟩ (.int .i64 0)).setCell ⟨w.heap.size + 1, 1, none⟩ (.int .i64 0)).setCell ⟨w.heap.size + 1, 2, none⟩ (.string ⟨#[]⟩)).setCell ⟨w.heap.size + 1, 3, none⟩ (.slice none 0 0)) = w4 at h4 hup ⊢
          exact bodyPost_ret (v := .tuple #[zeroV, .int .i64 er, .int .i64 k]) (by simp [results, Tryz.results68, go_sem, World.cell?, h4]) rfl (by rw [HX.out, HR.out]; exact hup)
  · have H2 := Lib.hid (HX.out.trans (if_neg hb0))
    clear HX
    have hE : ((b : Int) != 0) = true := by simp; omega
    have HB := Lib.hid hb
    clear hb
    go_enter Tryz.func68, Tryz.ntmps68
    go_wp2_with fail
    refine (hbeg.out _).mono ?_
    rintro e w' ⟨rfl, rfl⟩
    go_wp2
    refine bodyPost_ret (v := .tuple #[zeroV, .int .i64 b, .int .i64 i]) (by simp [results, Tryz.results68, go_sem, HS.out]) rfl ?_
    rw [H2.out]
    exact ⟨rfl, (HC.out.alloc _).alloc _, (hF.out.alloc _).alloc _⟩
end Go.Proofs.YtdnedbcmgkilaaaGreatDoor.Co
