/- Package code's list: the loop over a list's elements, by what reading one element answers and leaves. -/
import Derived.Test.YtdnedbcmgkilaaaGreatDoorZBCRead

namespace Go.Proofs.YtdnedbcmgkilaaaGreatDoor.Co
open Go.RowKit
theorem rdL_succ (l : List UInt8) (f i level count : Nat) (acc : List Tree) : rdL l (f + 1) i level count acc =
    if l[i]? = some 101 then (.ok (.list acc) (i + 1), count)
    else match rdV l f i (level + 1) count with
      | (.ok t k, c) => rdL l f k level c (acc ++ [t])
      | (.bad e k, c) => (.bad e k, c) := by rw [rdL]; rfl
def Bd (lo hi : Nat) : Res → Prop
  | .ok _ k => lo ≤ k ∧ k ≤ hi
  | .bad e k => e ≠ 0 ∧ k ≤ hi
theorem numF_bd (l : List UInt8) (i : Nat) (hi : i ≤ l.length) : Bd i l.length (numF l i) := by
  by_cases h45 : l[i]? = some 45
  · have hlt : i < l.length := (List.getElem?_eq_some_iff.1 h45).1
    by_cases h0 : l[i + 1]? = some 48
    · rw [numF_zero h45 h0]; simp only [Bd]; omega
    · have hb := decF_bd 9223372036854775808 101 (by omega) (l.drop (i + 1)) (i + 1) 0 true (by omega)
      rcases hd : decF 9223372036854775808 101 (l.drop (i + 1)) (i + 1) 0 true with ⟨n, e, k⟩
      rw [hd, List.length_drop] at hb
      simp only at hb
      by_cases he : e = 0
      · subst he; rw [numF_nok h45 h0 hd]; simp only [Bd]; omega
      · rw [numF_nbad h45 h0 hd he]; simp only [Bd]; omega
  · have hb := decF_bd 9223372036854775807 101 (by omega) (l.drop i) i 0 true (by omega)
    rcases hd : decF 9223372036854775807 101 (l.drop i) i 0 true with ⟨n, e, k⟩
    rw [hd, List.length_drop] at hb
    simp only at hb
    by_cases he : e = 0
    · subst he; rw [numF_ok h45 hd]; simp only [Bd]; omega
    · rw [numF_bad h45 hd he]; simp only [Bd]; omega
theorem textF_bd (l : List UInt8) (i : Nat) (hi : i ≤ l.length) : Bd (i + 1) l.length (textF l i) := by
  have hb := decF_bd 131072 58 (by omega) (l.drop i) i 0 true (by omega)
  rcases hd : decF 131072 58 (l.drop i) i 0 true with ⟨n, e, k⟩
  rw [hd, List.length_drop] at hb
  by_cases he : e = 0
  · subst he
    have h5 := hb.2.2.2.2 rfl
    simp only at hb h5
    by_cases hf : k + n ≤ l.length
    · rw [textF_ok hd hf]; simp only [Bd]; omega
    · rw [textF_end hd (by omega)]; simp only [Bd]; omega
  · simp only at hb
    rw [textF_bad hd he]; simp only [Bd]; omega
theorem beginF_lt {l : List UInt8} {i level count : Nat} (h : beginF l i level count = 0) : i < l.length ∧ level ≤ 30 ∧ count ≤ 4000 := by
  rcases hg : l[i]? with _ | c
  · unfold beginF at h; rw [hg] at h; cases h
  · refine ⟨(List.getElem?_eq_some_iff.1 hg).1, ?_⟩
    rw [beginF_eq hg] at h
    repeat' split at h
    all_goals omega
theorem rd_bd (l : List UInt8) : ∀ f, (∀ i level count, i ≤ l.length → Bd (i + 1) l.length (rdV l f i level count).1 ∧ (rdV l f i level count).2 ≤ max 4001 (count + 1) ∧ count ≤ (rdV l f i level count).2 ∧ (∀ t k, (rdV l f i level count).1 = .ok t k → count + 1 ≤ (rdV l f i level count).2 ∧ (rdV l f i level count).2 ≤ 4000)) ∧
    (∀ i level count acc, i ≤ l.length → count ≤ 4000 → Bd (i + 1) l.length (rdL l f i level count acc).1 ∧ count ≤ (rdL l f i level count acc).2 ∧ (rdL l f i level count acc).2 ≤ 4001 ∧ (∀ t k, (rdL l f i level count acc).1 = .ok t k → (rdL l f i level count acc).2 ≤ 4000))
  | 0 => by
    constructor
    · intro i level count hi; rw [rdV]; simp only [Bd]; exact ⟨⟨by omega, by omega⟩, by omega, by omega, fun t k h => by cases h⟩
    · intro i level count acc hi hc; rw [rdL]; simp only [Bd]; exact ⟨⟨by omega, by omega⟩, by omega, by omega, fun t k h => by cases h⟩
  | f + 1 => by
    obtain ⟨hV, hL⟩ := rd_bd l f
    constructor
    · intro i level count hi
      rw [rdV_succ]
      split
      · rename_i hb
        obtain ⟨h1, h2, h3⟩ := beginF_lt hb
        split
        · have := numF_bd l (i + 1) (by omega)
          exact ⟨this, by omega, by omega, fun t k h => by simp; omega⟩
        · split
          · obtain ⟨a1, a2, a3, a4⟩ := hL (i + 1) level (count + 1) [] (by omega) (by omega)
            refine ⟨?_, ?_, by omega, fun t k h => ⟨by omega, a4 t k h⟩⟩
            · revert a1; cases (rdL l f (i + 1) level (count + 1) []).1 <;> simp only [Bd] <;> omega
            · omega
          · have := textF_bd l i (by omega)
            exact ⟨this, by omega, by omega, fun t k h => by simp; omega⟩
      · rename_i hb
        exact ⟨by simp only [Bd]; exact ⟨hb, hi⟩, by simp; omega, by simp, fun t k h => by cases h⟩
    · intro i level count acc hi hc
      rw [rdL_succ]
      split
      · rename_i h
        have hlt := (List.getElem?_eq_some_iff.1 h).1
        exact ⟨by simp only [Bd]; omega, by simp, by simp; omega, fun t k h => by simpa using hc⟩
      · obtain ⟨b1, b2, b3, b4⟩ := hV i (level + 1) count hi
        rcases hr : rdV l f i (level + 1) count with ⟨t | ⟨e, k⟩, c⟩
        · rename_i k
          rw [hr] at b1 b2 b3 b4
          simp only [Bd] at b1
          have b5 := b4 _ _ rfl
          simp only at b2 b3 b5
          obtain ⟨a1, a2, a3, a4⟩ := hL k level c (acc ++ [t]) (by omega) (by omega)
          refine ⟨?_, by simp only; omega, a3, a4⟩
          simp only
          revert a1; cases (rdL l f k level c (acc ++ [t])).1 <;> simp only [Bd] <;> omega
        · rw [hr] at b1 b2 b3
          simp only [Bd] at *
          exact ⟨b1, by omega, by omega, fun t k h => by cases h⟩
structure Inv (s : ByteArray) (c sb rb lb level h : Nat) (w : World) (cnt : Nat) (L : Value) (ts : List Tree) (xs : List Value) (wr : World) : Prop where
  fr : Fr (· = c) w wr
  env : Env s c sb rb wr
  cnt : Cnt c cnt wr
  lev : wr.heap[lb]? = some (.cells #[.int .i64 level] 3 (0, 0))
  res : wr.heap[h]? = some (.cells #[.int .i64 0, .int .i64 0, .string ⟨#[]⟩, .slice none 0 0] 60 (0, 0))
  own : wr.ownsRow (h + 1) 60 4 L ts.length xs
  rep : RepAll wr (fun b => h + 1 ≤ b ∧ b < wr.heap.size ∧ L.ownBlock ≠ some b) ts xs
theorem ownsRow_low {w : World} {base : Nat} {e : TypeId} {size : Nat} {v : Value} {n : Nat} {xs : List Value} (h : w.ownsRow base e size v n xs) : w.ownsRow 0 e size v n xs :=
  ⟨h.1, h.2.imp id (fun ⟨g, cap, cur, hv, _, hr⟩ => ⟨g, cap, cur, hv, Nat.zero_le _, hr⟩)⟩
theorem Inv.done {s : ByteArray} {c sb rb lb level : Nat} {w : World} {cnt k : Nat} {L : Value} {ts : List Tree} {xs : List Value} {wr w4 : World} (hI : Inv s c sb rb lb level w.heap.size w cnt L ts xs wr) (hb : But w.heap.size wr w4) (hc : c < w.heap.size) :
    Post (.ok (.list ts) k, cnt) c w (.returned (.tuple #[listV L, .int .i64 0, .int .i64 k])) w4 := by
  have hlt : ∀ g, L.ownBlock = some g → w.heap.size + 1 ≤ g ∧ g < wr.heap.size := fun g hg => hI.own.lt g hg
  refine ⟨⟨_, rfl, ?_⟩, (hb.block c (by omega)).trans hI.cnt, ?_⟩
  · rw [Rep]
    refine ⟨L, xs, rfl, ?_, fun g hg => ?_, RepAll.keep (fun g hg => hb.block g (by omega)) (fun g hg => ⟨by omega, by rw [hb.size]; exact hg.2.1⟩) _ _ hI.rep⟩
    · exact ownsRow_low (ownsRow_keep hI.own (fun g hg => hb.block g (by have := hlt g hg; omega)))
    · have := hlt g hg
      exact ⟨by omega, by rw [hb.size]; omega⟩
  · have hx := hI.fr
    exact ⟨hb.os.trans hx.os, hb.tape.trans hx.tape, hb.output.trans hx.output, by rw [hb.size]; exact hx.size, fun k hk hk2 => (hb.block k (by omega)).trans (hx.block k hk hk2)⟩
theorem Inv.step {s : ByteArray} {c sb rb lb level count : Nat} {w : World} {cnt cn : Nat} {L : Value} {ts : List Tree} {xs : List Value} {wr w1 w2 : World} {t : Tree} {c0 c1 c2 c3 : Value} {o1 o2 : Obj} {g2 cap2 : Nat}
    (hI : Inv s c sb rb lb level w.heap.size w cnt L ts xs wr) (env : Env s c sb rb w) (hc : Cnt c count w) (hlb : w.heap[lb]? = some (.cells #[.int .i64 level] 3 (0, 0))) (hlc : lb ≠ c)
    (hrep : Rep w1 (fun b => wr.heap.size ≤ b ∧ b < w1.heap.size) t (.agg #[c0, c1, c2, c3])) (hcn : Cnt c cn w1) (hfr : Fr (· = c) wr w1)
    (hown2 : w2.ownsRow (w.heap.size + 1) 60 4 (.slice (some ⟨g2, 0, none⟩) (ts.length + 1) cap2) (ts.length + 1) (xs ++ [c0, c1, c2, c3]))
    (hgrow : ((w1.alloc o1).alloc o2).grownBy w2 L.ownBlock) (hlies : L.ownBlock = some g2 ∨ g2 = w1.heap.size + 2) :
    Inv s c sb rb lb level w.heap.size w cn (.slice (some ⟨g2, 0, none⟩) (ts.length + 1) cap2) (ts ++ [t]) (xs ++ [c0, c1, c2, c3]) w2 := by
  have hltc := lt_of_heap hc
  have hlt : ∀ g, L.ownBlock = some g → w.heap.size + 1 ≤ g ∧ g < wr.heap.size := fun g hg => hI.own.lt g hg
  have hs1 := hfr.size
  have hs2 := hgrow.size
  simp only [World.size_alloc] at hs2
  have hk : ∀ b, b < w1.heap.size → L.ownBlock ≠ some b → w2.heap[b]? = w1.heap[b]? := fun b hb hne => by
    rw [hgrow.block b (by simp; omega) (fun e => hne e.symm), Below.heap_alloc _ _ _ (by simp; omega), Below.heap_alloc _ _ _ hb]
  have hF : Fr (· = c) w w2 := ((((hI.fr.trans hfr).alloc o1).alloc o2).grown hgrow (fun g hg => .inl (by have := hlt g hg; omega)))
  have hresl := lt_of_heap hI.res
  refine ⟨hF, env.fr ⟨_, hc⟩ hF, ?_, (hF.block lb (lt_of_heap hlb) hlc).trans hlb, ?_, by simpa using hown2, ?_⟩
  · exact (hk c (by omega) (fun e => by have := hlt c e; omega)).trans hcn
  · exact ((hk w.heap.size (by omega) (fun e => by have := hlt _ e; omega)).trans (hfr.block _ hresl (by omega))).trans hI.res
  · refine RepAll.snoc (Rep.keep (fun b hb => hk b hb.2 (fun e => by have := hlt b e; omega)) (fun b hb => ⟨by omega, by omega, ?_⟩) _ _ hrep) ts xs
      (RepAll.keep (fun b hb => (hk b (by omega) hb.2.2).trans (hfr.block b hb.2.1 (by omega))) (fun b hb => ⟨hb.1, by omega, ?_⟩) _ _ hI.rep)
    · show some g2 ≠ some b
      rintro ⟨⟩
      rcases hlies with h | h
      · have := hlt g2 h; omega
      · omega
    · show some g2 ≠ some b
      rintro ⟨⟩
      rcases hlies with h | h
      · exact hb.2.2 h
      · omega
theorem Post.bad_up {er k cn c h : Nat} {w wr w1 w4 : World} {e : Ending} (hF : Fr (· = c) w wr) (hp : Post (.bad er k, cn) c wr e w1) (hb : But h w1 w4) (h1 : w.heap.size ≤ h) (hc : c < w.heap.size) (o : Obj) : Post (.bad er k, cn) c w e (w4.alloc o) := by
  obtain ⟨hr, hn, hf⟩ := hp
  have hx := hF.trans hf
  have hn4 : Cnt c cn w4 := (hb.block c (by omega)).trans hn
  refine ⟨hr, hn4.alloc o, Fr.alloc ⟨hb.os.trans hx.os, hb.tape.trans hx.tape, hb.output.trans hx.output, by rw [hb.size]; exact hx.size, fun k hk hk2 => (hb.block k (by omega)).trans (hx.block k hk hk2)⟩ o⟩
theorem Tryz.info24 : (Tryz.prog.info? 60).map (fun i => (i.zero, i.size, i.bytes)) = some (some zeroV, 4, 56) := by kernel_rfl
set_option maxHeartbeats 3200000 in
set_option maxRecDepth 100000 in
theorem list_ok {s : ByteArray} {f : Nat} (hs : s.size ≤ 131072) (hE : ∀ f', f' < f → ElemOK s f') : ListOK s f := by
  intro c sb rb lb i level count w hi hl hc env hcnt hlc hlb hf
  have hltc := lt_of_heap hcnt
  have hltl := lt_of_heap hlb
  obtain ⟨i0, hi0, hz0, hz1, hz2⟩ := info_parts Tryz.info24
  have hI0 : Hid (Inv s c sb rb lb level w.heap.size w count (.slice none 0 0) [] [] (w.alloc (.cells #[.int .i64 0, .int .i64 0, .string ⟨#[]⟩, .slice none 0 0] 60))) :=
    Lib.hid ⟨(Fr.refl _ w).alloc _, env.alloc _, hcnt.alloc _, (Below.heap_alloc _ _ _ hltl).trans hlb, heap_alloc_new _ _, World.ownsRow_nil _ _ _ _, by rw [RepAll]⟩
  have HE := Lib.hid hE
  have HV0 := Lib.hid env
  have HC0 := Lib.hid hcnt
  have HB0 := Lib.hid hlb
  clear hE env hcnt hlb
  go_enter Tryz.func71, Tryz.ntmps71
  go_wp2
  go_loopw [1, 9] (fun at_ kids wr => ∃ (k g cnt : Nat) (a : Option Addr) (len cap : Nat) (ts : List Tree) (xs : List Value), k ≤ s.size ∧ 2 * (s.size - k) + 2 ≤ g ∧ g ≤ f ∧ cnt ≤ 4000 ∧ ts.length ≤ cnt ∧
      at_ = .int .i64 k ∧ kids = .slice a len cap ∧ Hid (rdL s.data.toList f i level count [] = rdL s.data.toList g k level cnt ts) ∧ Hid (Inv s c sb rb lb level w.heap.size w cnt (.slice a len cap) ts xs wr))
    (fun at_ _ _ => s.size - (intOf at_).toNat)
  case atStart => exact ⟨i, f, count, none, 0, 0, [], [], hi, hf, Nat.le_refl _, hc, Nat.zero_le _, rfl, rfl, Lib.hid rfl, hI0⟩
  case round =>
    obtain ⟨k, g, cnt, a, len, cap, ts, xs, hk, hg, hgf, hcnt, htl, rfl, rfl, H, HI⟩ := hrel
    clear hI0
    obtain ⟨g, rfl⟩ : ∃ g', g = g' + 1 := ⟨g - 1, by omega⟩
    have H1 := Lib.hid (H.out.trans (rdL_succ _ _ _ _ _ _))
    clear H
    have hsz : w.heap.size + 1 ≤ wr.heap.size := by have := lt_of_heap HI.out.res; omega
    by_cases he : s.data.toList[k]? = some 101
    · have hlt : k < s.size := by
        rcases Nat.lt_or_ge k s.size with h | h
        · exact h
        · rw [get_no s k (by omega)] at he; cases he
      have hB : (((s[k].toNat : Nat) : Int) != 101) = false := by have := (some45 s k 101 hlt).1 he; simp at this ⊢; omega
      have H2 := Lib.hid (H1.out.trans (if_pos he))
      clear H1 he
      have hcell0 : wr.cell? ⟨w.heap.size, 0, none⟩ = some (.int .i64 0) := by simp [World.cell?, HI.out.res]
      have hcell1 : wr.cell? ⟨w.heap.size, 1, none⟩ = some (.int .i64 0) := by simp [World.cell?, HI.out.res]
      have hcell2 : wr.cell? ⟨w.heap.size, 2, none⟩ = some (.string ⟨#[]⟩) := by simp [World.cell?, HI.out.res]
      have hcell3 : wr.cell? ⟨w.heap.size, 3, none⟩ = some (.slice none 0 0) := by simp [World.cell?, HI.out.res]
      have hfz : ∀ j, wr.frozen? ⟨w.heap.size, j, none⟩ = false := frozen_of_heap HI.out.res
      go_wp2
      have h4 := heap_put4 HI.out.res (.int .i64 3) (.int .i64 0) (.string ⟨#[]⟩) (.slice a len cap)
      have hbut := But.put4 w.heap.size wr (.int .i64 3) (.int .i64 0) (.string ⟨#[]⟩) (.slice a len cap)
      generalize ((((wr.setCell ⟨w.heap.size, 0, none⟩ (.int .i64 3)).setCell ⟨w.heap.size, 1, none⟩ (.int .i64 0)).setCell ⟨w.heap.size, 2, none⟩ (.string ⟨#[]⟩)).setCell ⟨w.heap.size, 3, none⟩ (.slice a len cap)) = w4 at h4 hbut ⊢
      refine bodyPost_ret (v := .tuple #[listV (.slice a len cap), .int .i64 0, .int .i64 ((k : Int) + 1)]) (by simp [results, Tryz.results71, go_sem, World.cell?, h4]) rfl ?_
      rw [H2.out]
      exact Inv.done HI.out hbut hltc
    · have H2 := Lib.hid (H1.out.trans (if_neg he))
      clear H1
      obtain ⟨b1, b2, b3, b4⟩ := (rd_bd s.data.toList g).1 k (level + 1) cnt (by simpa using hk)
      have hcall := Lib.hid (HE.out g (by omega) c sb rb lb k level cnt wr hk hl hcnt HI.out.env HI.out.cnt HI.out.lev (by omega))
      generalize hr : rdV s.data.toList g k (level + 1) cnt = r at hcall H2 b1 b2 b3 b4
      obtain ⟨r, cn⟩ := r
      have hsl : s.data.toList.length = s.size := by simp
      rw [hsl] at b1
      clear hr hsl
      simp only at b1 b2 b3 b4
      cases r with
      | bad er k2 =>
        by_cases hlt : k < s.size
        · have hB : (((s[k].toNat : Nat) : Int) != 101) = true := by have := fun h => he ((some45 s k 101 hlt).2 h); simp at this ⊢; omega
          clear he
          go_wp2_with fail
          refine hcall.out.mono ?_
          intro e w1 hp
          have HP := Lib.hid hp
          obtain ⟨rfl, -, -⟩ := hp
          have hres := HP.out.2.2.block w.heap.size (by omega) (by omega)
          rw [HI.out.res] at hres
          have hcell0 : w1.cell? ⟨w.heap.size, 0, none⟩ = some (.int .i64 0) := by simp [World.cell?, hres]
          have hcell1 : w1.cell? ⟨w.heap.size, 1, none⟩ = some (.int .i64 0) := by simp [World.cell?, hres]
          have hcell2 : w1.cell? ⟨w.heap.size, 2, none⟩ = some (.string ⟨#[]⟩) := by simp [World.cell?, hres]
          have hcell3 : w1.cell? ⟨w.heap.size, 3, none⟩ = some (.slice none 0 0) := by simp [World.cell?, hres]
          have hfz : ∀ j, w1.frozen? ⟨w.heap.size, j, none⟩ = false := frozen_of_heap hres
          have hsz1 := HP.out.2.2.size
          have hszl : w.heap.size < w1.heap.size := by omega
          have hE0 : ((er : Int) != 0) = true := by have := b1.1; simp; omega
          have HRes := Lib.hid hres
          clear hres b1 b4
          go_wp2
          have h4 := heap_put4 HRes.out (.int .i64 0) (.int .i64 0) (.string ⟨#[]⟩) (.slice none 0 0)
          have hbut := But.put4 w.heap.size w1 (.int .i64 0) (.int .i64 0) (.string ⟨#[]⟩) (.slice none 0 0)
          generalize ((((w1.setCell ⟨w.heap.size, 0, none⟩ (.int .i64 0)).setCell ⟨w.heap.size, 1, none⟩ (.int .i64 0)).setCell ⟨w.heap.size, 2, none⟩ (.string ⟨#[]⟩)).setCell ⟨w.heap.size, 3, none⟩ (.slice none 0 0)) = w4 at h4 hbut ⊢
          have h5 := (Below.heap_alloc w4 (.cells #[.int .i64 0, .int .i64 0, .string ⟨#[]⟩, .slice none 0 0] 60) w.heap.size (by rw [hbut.size]; exact hszl)).trans h4
          have hup := Post.bad_up HI.out.fr HP.out hbut (Nat.le_refl _) hltc (.cells #[.int .i64 0, .int .i64 0, .string ⟨#[]⟩, .slice none 0 0] 60)
          generalize w4.alloc (.cells #[.int .i64 0, .int .i64 0, .string ⟨#[]⟩, .slice none 0 0] 60) = w5 at h5 hup ⊢
          exact bodyPost_ret (v := .tuple #[zeroV, .int .i64 er, .int .i64 k2]) (by simp [results, Tryz.results71, go_sem, World.cell?, h5]) rfl (by rw [H2.out]; exact hup)
        · clear he
          go_wp2_with fail
          refine hcall.out.mono ?_
          intro e w1 hp
          have HP := Lib.hid hp
          obtain ⟨rfl, -, -⟩ := hp
          have hres := HP.out.2.2.block w.heap.size (by omega) (by omega)
          rw [HI.out.res] at hres
          have hcell0 : w1.cell? ⟨w.heap.size, 0, none⟩ = some (.int .i64 0) := by simp [World.cell?, hres]
          have hcell1 : w1.cell? ⟨w.heap.size, 1, none⟩ = some (.int .i64 0) := by simp [World.cell?, hres]
          have hcell2 : w1.cell? ⟨w.heap.size, 2, none⟩ = some (.string ⟨#[]⟩) := by simp [World.cell?, hres]
          have hcell3 : w1.cell? ⟨w.heap.size, 3, none⟩ = some (.slice none 0 0) := by simp [World.cell?, hres]
          have hfz : ∀ j, w1.frozen? ⟨w.heap.size, j, none⟩ = false := frozen_of_heap hres
          have hsz1 := HP.out.2.2.size
          have hszl : w.heap.size < w1.heap.size := by omega
          have hE0 : ((er : Int) != 0) = true := by have := b1.1; simp; omega
          have HRes := Lib.hid hres
          clear hres b1 b4
          go_wp2
          have h4 := heap_put4 HRes.out (.int .i64 0) (.int .i64 0) (.string ⟨#[]⟩) (.slice none 0 0)
          have hbut := But.put4 w.heap.size w1 (.int .i64 0) (.int .i64 0) (.string ⟨#[]⟩) (.slice none 0 0)
          generalize ((((w1.setCell ⟨w.heap.size, 0, none⟩ (.int .i64 0)).setCell ⟨w.heap.size, 1, none⟩ (.int .i64 0)).setCell ⟨w.heap.size, 2, none⟩ (.string ⟨#[]⟩)).setCell ⟨w.heap.size, 3, none⟩ (.slice none 0 0)) = w4 at h4 hbut ⊢
          have h5 := (Below.heap_alloc w4 (.cells #[.int .i64 0, .int .i64 0, .string ⟨#[]⟩, .slice none 0 0] 60) w.heap.size (by rw [hbut.size]; exact hszl)).trans h4
          have hup := Post.bad_up HI.out.fr HP.out hbut (Nat.le_refl _) hltc (.cells #[.int .i64 0, .int .i64 0, .string ⟨#[]⟩, .slice none 0 0] 60)
          generalize w4.alloc (.cells #[.int .i64 0, .int .i64 0, .string ⟨#[]⟩, .slice none 0 0] 60) = w5 at h5 hup ⊢
          exact bodyPost_ret (v := .tuple #[zeroV, .int .i64 er, .int .i64 k2]) (by simp [results, Tryz.results71, go_sem, World.cell?, h5]) rfl (by rw [H2.out]; exact hup)
      | ok t k2 =>
        simp only [Bd] at b1
        have b5 := b4 _ _ rfl
        clear b4
        by_cases hlt : k < s.size
        · have hB : (((s[k].toNat : Nat) : Int) != 101) = true := by have := fun h => he ((some45 s k 101 hlt).2 h); simp at this ⊢; omega
          clear he
          go_wp2_with fail
          refine hcall.out.mono ?_
          intro e w1 hp
          have HP := Lib.hid hp
          obtain ⟨⟨v, rfl, hrep⟩, hcn, hfr⟩ := hp
          obtain ⟨kd, n0, b0, a0, len0, cap0, rfl⟩ := Rep.cells t v hrep
          have HP := Lib.hid hrep
          have HN := Lib.hid hcn
          have HF := Lib.hid hfr
          have hszw := hfr.size
          have hown1 : Hid (∀ o1 o2, ((w1.alloc o1).alloc o2).ownsRow (w.heap.size + 1) 60 4 (.slice a len cap) ts.length xs) := Lib.hid (fun o1 o2 => ownsRow_keep HI.out.own (fun b hb => by
            have h1 := HI.out.own.lt b hb
            rw [Below.heap_alloc _ _ _ (by simp; omega), Below.heap_alloc _ _ _ (by omega)]
            exact hfr.block b h1.2 (by omega)))
          clear hrep hcn hfr
          go_wp2_with (at_builtin; refine wpList_append_lies _ rfl _ _ 58 rfl (w.heap.size + 1) 60 i0 zeroV 4 56 Tryz.underlying58 hi0 hz0 hz1 hz2 rfl (by decide) _ ts.length xs rfl (hown1.out _ _) ⟨w1.heap.size + 1, 0, none⟩ 1 1 [.int .i64 kd, .int .i64 n0, .string b0, .slice a0 len0 cap0] rfl rfl ?c1 ?c2 (by decide) ?c3 ?c4 ?c5 (w1.heap.size + 2) ?c6 ?_)
          case c1 =>
            intro j u hj
            match j, hj with
            | 0, hj => simp at hj; subst hj; simp [Addr.add]
            | 1, hj => simp at hj; subst hj; simp [Addr.add]
            | 2, hj => simp at hj; subst hj; simp [Addr.add]
            | 3, hj => simp at hj; subst hj; simp [Addr.add]
          case c2 => intro u hu; simp at hu; rcases hu with rfl | rfl | rfl | rfl <;> rfl
          case c3 => unfold maxLen; omega
          case c4 => omega
          case c5 => simp; omega
          case c6 => simp
          intro g2 cap2 w2 hown2 hgrow hlies hlt2
          have HS := Lib.hid (Inv.step HI.out HV0.out HC0.out HB0.out hlc HP.out HN.out HF.out hown2 hgrow hlies)
          clear hown2 hgrow hlies
          go_wp2
          go_roundw
          case rel => exact ⟨k2, g, cn, _, _, _, ts ++ [t], _, by omega, by omega, by omega, by omega, by simp; omega, rfl, rfl, H2, HS⟩
          case measure => simp [intOf]; omega
        · omega
theorem both_ok {s : ByteArray} (hs : s.size ≤ 131072) : ∀ f, ReadOK s f ∧ ListOK s f := by
  intro f
  induction f using Nat.strongRecOn with
  | ind f ih =>
    refine ⟨?_, list_ok hs fun f' hf' => elem_ok hs (ih f' hf').1⟩
    cases f with
    | zero => intro c sb rb i level count w _ _ _ _ _ hf; omega
    | succ f => exact read_ok hs (ih f (by omega)).2
end Go.Proofs.YtdnedbcmgkilaaaGreatDoor.Co
