/- The document's Bytes and Put. -/
import Derived.Lib.AppendStr
import Derived.Deep.RegionHeld3
import Derived.Test.YtdnedbcmgkilaaaGreatDoorZBg50
import Derived.Test.YtdnedbcmgkilaaaGreatDoorZBCPutS
import Derived.Test.YtdnedbcmgkilaaaGreatDoorZBBy
import Derived.Test.YtdnedbcmgkilaaaGreatDoorZBg19

section

namespace Go.Proofs.YtdnedbcmgkilaaaGreatDoor.Co
open Go.RowKit
abbrev TabW (w : World) : Prop := Lib.TabIs Tryz.prog w "internal/strconv.uint64pow10" .u64 Lib.pow10Tab
theorem TabW.below {w w' : World} (h : TabW w) (hb : Below w.heap.size w w') : TabW w' := Lib.tabBelow_of_tabIs h w' hb
theorem TabW.tb {w : World} (h : TabW w) : Lib.TabBelow Tryz.prog w.heap.size w "internal/strconv.uint64pow10" .u64 Lib.pow10Tab := Lib.tabBelow_of_tabIs h
theorem BA_ext {a b : ByteArray} (h : a.data.toList = b.data.toList) : a = b := by
  cases a; cases b; simp at h; rw [ByteArray.mk.injEq]; exact h
theorem ret_s {s t : ByteArray} (h : s = t) : Ending.returned (.string s) = .returned (.string t) := by rw [h]
theorem cat3 (a b c : ByteArray) (l : List UInt8) (h : l = a.data.toList ++ (b.data.toList ++ c.data.toList)) : a ++ b ++ c = ⟨l.toArray⟩ := BA_ext (by subst h; simp)
def RBytesOK (t : Tree) : Prop := ∀ (w : World) (v : Value), Rep w (S24 w) t v → nodes t ≤ 4000 → (enc t).length ≤ 100000000000 → TabW w → Calls Tryz.prog 67 #[v] w fun e w' => e = .returned (.string ⟨(enc t).toArray⟩) ∧ Below w.heap.size w w'
set_option maxHeartbeats 1600000 in
set_option maxRecDepth 100000 in
theorem rbytes_num (n : Int) (h0 : -9223372036854775808 ≤ n) (h1 : n ≤ 9223372036854775807) : RBytesOK (.num n) := by
  intro w v hrep _ _ htab
  rw [Rep] at hrep; subst hrep
  have hil := Lib.itoa_length_le n h0 h1
  have HF : Hid (∀ W, Below w.heap.size w W → Calls Tryz.prog 63 #[.int .i64 n, .int .i64 10] W fun e w' => e = .returned (.string ⟨(Lib.itoa n).toArray⟩) ∧ Below W.heap.size W w') := Lib.hid (fun W hb => fmt_any n h0 h1 _ W (Nat.le_refl _) (htab.below hb).tb)
  rw [enc]
  clear htab
  go_enter Tryz.func67, Tryz.ntmps67
  go_wp2_with fail
  refine (HF.out _ (below1 _ _)).mono ?_
  rintro e w1 ⟨rfl, hb1⟩
  have HB1 := Lib.hid (below_tr (below1 w _) hb1)
  clear hb1
  have hsz : (⟨(Lib.itoa n).toArray⟩ : ByteArray).size ≤ 21 := by show (Lib.itoa n).toArray.size ≤ _; rw [List.size_toArray]; exact hil
  go_wp2
  go_ret
  exact ⟨ret_s (cat3 _ _ _ _ rfl), HB1.out⟩
set_option maxHeartbeats 1600000 in
set_option maxRecDepth 100000 in
theorem rbytes_text (bs : List UInt8) : RBytesOK (.text bs) := by
  intro w v hrep _ hlen htab
  rw [Rep] at hrep; subst hrep
  rw [enc] at hlen ⊢
  simp only [List.length_cons, List.length_append] at hlen
  obtain ⟨bb, hbb⟩ : ∃ bb : ByteArray, bb = ⟨bs.toArray⟩ := ⟨_, rfl⟩
  have hbl : bb.size = bs.length := by rw [hbb]; simp [ByteArray.size]
  have hbd : bb.data.toList = bs := by rw [hbb]
  rw [← hbb]
  rw [← hbd] at hlen ⊢
  rw [BA_len bb] at hlen ⊢
  clear hbb hbl hbd
  have hil := Lib.itoa_length_le (bb.size : Int) (by omega) (by omega)
  have HF : Hid (∀ W, Below w.heap.size w W → Calls Tryz.prog 64 #[.int .i64 bb.size] W fun e w' => e = .returned (.string ⟨(Lib.itoa bb.size).toArray⟩) ∧ Below W.heap.size W w') := Lib.hid (fun W hb => itoa_any bb.size (by omega) (by omega) _ W (Nat.le_refl _) (htab.below hb).tb)
  obtain ⟨ib, hib⟩ : ∃ ib : ByteArray, ib = ⟨(Lib.itoa bb.size).toArray⟩ := ⟨_, rfl⟩
  rw [← hib] at HF
  have hisz : ib.size ≤ 21 := by rw [hib]; show (Lib.itoa bb.size).toArray.size ≤ _; rw [List.size_toArray]; exact hil
  have HIL : Hid (Lib.itoa bb.size = ib.data.toList) := Lib.hid (by rw [hib])
  have hf1 : ¬ 9223372036854775807 < ib.size + 1 := by omega
  have hf2 : ¬ 9223372036854775807 < ib.size + 1 + bb.size := by omega
  clear htab hib
  go_enter Tryz.func67, Tryz.ntmps67
  go_wp2
  have hB0 : Below w.heap.size w (w.alloc (.cells #[.int .i64 2, .int .i64 0, .string bb, .slice none 0 0] 60)) := below1 w _
  have hb0 : (w.alloc (.cells #[.int .i64 2, .int .i64 0, .string bb, .slice none 0 0] 60)).heap[w.heap.size]? = some (.cells #[.int .i64 2, .int .i64 0, .string bb, .slice none 0 0] 60 (0, 0)) := heap_alloc_new _ _
  generalize w.alloc (.cells #[.int .i64 2, .int .i64 0, .string bb, .slice none 0 0] 60) = W at *
  have hcs : W.cell? ⟨w.heap.size, 2, none⟩ = some (.string bb) := by simp [World.cell?, hb0]
  have HC : Hid (∀ W2, Below W.heap.size W W2 → Calls Tryz.prog 64 #[.int .i64 bb.size] W2 fun e w' => e = .returned (.string ib) ∧ w'.cell? ⟨w.heap.size, 2, none⟩ = some (.string bb) ∧ Below W.heap.size W w') := Lib.hid (fun W2 hb2 =>
    (HF.out W2 (hB0.trans (hb2.mono hB0.size))).mono fun e w' ⟨he, hb⟩ => ⟨he, by
      have hb3 := below_tr hb2 hb
      have := (hb3.block _ (lt_of_heap hb0)).trans hb0
      simp [World.cell?, this], below_tr hb2 hb⟩)
  have HB0 := Lib.hid hB0
  clear hB0 hb0 HF
  go_region_held3 (fun w' => w'.cell? ⟨w.heap.size, 2, none⟩ = some (.string bb)) (first | go_keep | assumption)
    (first | (go_at_call 64; refine (HC.out _ (by first | exact Below.refl _ _ | exact (Below.refl _ _).drew)).mono ?_; rintro e w2 ⟨rfl, hN2, hb2⟩))
  have HB2 : Hid (Below w.heap.size w w2) := Lib.hid (HB0.out.trans (hb2.mono HB0.out.size))
  clear hb2
  go_wp2
  go_ret
  exact ⟨ret_s (cat3 _ _ _ _ (by rw [HIL.out]; rfl)), HB2.out⟩
theorem encL_at {ts : List Tree} {k : Nat} {t : Tree} (h : ts[k]? = some t) : (encL (ts.take k)).length + (enc t).length ≤ (encL ts).length := by
  have h1 := encL_take h
  have h2 := encL_le ts (k + 1)
  rw [h1, List.length_append] at h2; exact h2
set_option maxHeartbeats 3200000 in
set_option maxRecDepth 100000 in
theorem rbytes_list {ts : List Tree} (hts : ∀ u, u ∈ ts → RBytesOK u) : RBytesOK (.list ts) := by
  intro w v hrep hn hlen htab
  rw [Rep] at hrep
  obtain ⟨L, xs, rfl, ho, -, hr⟩ := hrep
  obtain ⟨a, n, cap, rfl, hne⟩ : ∃ a n cap, L = .slice a n cap ∧ n = ts.length := by
    rcases ho.2 with ⟨rfl, h0⟩ | ⟨g, cap, cur, rfl, -⟩
    · exact ⟨_, _, _, rfl, h0.symm⟩
    · exact ⟨_, _, _, rfl, rfl⟩
  subst hne
  have hll := nodesL_len ts
  rw [nodes] at hn
  rw [enc] at hlen ⊢
  simp only [List.length_cons, List.length_append, List.length_nil] at hlen
  obtain ⟨i0, hi, hz0, hz1, hz2⟩ := info_parts infoB
  have HT := Lib.hid hts
  have HO := Lib.hid ho
  have HR := Lib.hid hr
  have HTB := Lib.hid htab
  clear hts ho hr htab
  go_enter Tryz.func67, Tryz.ntmps67
  go_wp2
  have hcv := Lib.run_convert_bytes_const (P := Tryz.prog) (w.alloc (.cells #[.int .i64 3, .int .i64 0, .string ⟨#[]⟩, .slice a ts.length cap] 60)) 81 5 #[.int .u8 108] 1 1 Tryz.underlying81 Tryz.underlying5
  rw [World.size_alloc] at hcv
  rw [hcv]
  simp only [Result.andThen]
  rw [Oper.upon_value]
  clear hcv
  have hB0 : Below w.heap.size w ((w.alloc (.cells #[.int .i64 3, .int .i64 0, .string ⟨#[]⟩, .slice a ts.length cap] 60)).alloc (.cells #[.int .u8 108] 5 ((#[Value.int .u8 108] : Array Value).size, (#[Value.int .u8 108] : Array Value).size + 1))) := (below1 w _).alloc (by simp) _
  have hb0 : ((w.alloc (.cells #[.int .i64 3, .int .i64 0, .string ⟨#[]⟩, .slice a ts.length cap] 60)).alloc (.cells #[.int .u8 108] 5 ((#[Value.int .u8 108] : Array Value).size, (#[Value.int .u8 108] : Array Value).size + 1))).heap[w.heap.size]? = some (.cells #[.int .i64 3, .int .i64 0, .string ⟨#[]⟩, .slice a ts.length cap] 60 (0, 0)) := (Below.heap_alloc _ _ _ (by simp)).trans (heap_alloc_new _ _)
  have hx0 : OwnX ((w.alloc (.cells #[.int .i64 3, .int .i64 0, .string ⟨#[]⟩, .slice a ts.length cap] 60)).alloc (.cells #[.int .u8 108] 5 ((#[Value.int .u8 108] : Array Value).size, (#[Value.int .u8 108] : Array Value).size + 1))) w.heap.size (.slice (some ⟨w.heap.size + 1, 0, none⟩) 1 1) [108] := .inr ⟨w.heap.size + 1, .int .u8 108, rfl, by omega, by
    have := heap_alloc_new (w.alloc (.cells #[.int .i64 3, .int .i64 0, .string ⟨#[]⟩, .slice a ts.length cap] 60)) (.cells #[.int .u8 108] 5 (1, 2))
    rw [World.size_alloc] at this
    exact this, rfl, rfl⟩
  generalize (w.alloc (.cells #[.int .i64 3, .int .i64 0, .string ⟨#[]⟩, .slice a ts.length cap] 60)).alloc (.cells #[.int .u8 108] 5 ((#[Value.int .u8 108] : Array Value).size, (#[Value.int .u8 108] : Array Value).size + 1)) = W at *
  have c3 : W.cell? ⟨w.heap.size, 3, none⟩ = some (.slice a ts.length cap) := by simp [World.cell?, hb0]
  go_wp2
  clear c3
  go_loopw [3, 30] (fun v i wr => ∃ k : Nat, k ≤ ts.length ∧ i = .int .i64 k ∧ Hid (OwnX wr w.heap.size v (108 :: encL (ts.take k))) ∧ Hid (Below w.heap.size w wr)) (fun _ i _ => ts.length - (intOf i).toNat)
  case atStart => exact ⟨0, Nat.zero_le _, rfl, Lib.hid (by rw [List.take_zero, encL]; exact hx0), Lib.hid hB0⟩
  case round =>
    clear hx0 hB0 hb0
    obtain ⟨k, hk, rfl, HX, HB⟩ := hrel
    by_cases hlt : k < ts.length
    · have hget := List.getElem?_eq_getElem hlt
      obtain ⟨g, e1, e2, e3, e4, e5, e6, rfl, hrepk, hcells⟩ := kid_at HO.out HR.out hget
      have hk24 := K24.below HB.out
      obtain ⟨hg, p0, p1, p2, p3⟩ := hcells wr hk24
      have hnm := nodes_mem (List.getElem_mem hlt)
      have hea := encL_at hget
      have het := encL_take hget
      have hep := enc_pos ts[k]
      have HC : Hid (∀ W, Below wr.heap.size wr W → Calls Tryz.prog 67 #[.agg #[.int .i64 e1, .int .i64 e2, .string e3, .slice e4 e5 e6]] W fun e w' => e = .returned (.string ⟨(enc ts[k]).toArray⟩) ∧ Below W.heap.size W w') :=
        Lib.hid (fun W hW => HT.out ts[k] (List.getElem_mem hlt) W _ (hrepk.k24 (hk24.trans (K24.below hW))) (by omega) (by omega) (HTB.out.below (HB.out.trans (hW.mono HB.out.size))))
      clear hcells hrepk hk24 hget hnm
      obtain ⟨sb, hsb⟩ : ∃ sb : ByteArray, sb = ⟨(enc ts[k]).toArray⟩ := ⟨_, rfl⟩
      have hsl : sb.data.toList = enc ts[k] := by rw [hsb]
      have hsz : sb.size = (enc ts[k]).length := by rw [← hsl, BA_len]
      have HET : Hid (108 :: encL (ts.take (k + 1)) = (108 :: encL (ts.take k)) ++ sb.data.toList) := Lib.hid (by rw [het, hsl]; rfl)
      rw [← hsb] at HC
      have hs1 : 1 ≤ sb.size := by omega
      have hs2 : (108 :: encL (ts.take k)).length + sb.size ≤ 140737488355328 := by rw [List.length_cons]; omega
      have HS1 := Lib.hid hs1
      have HS2 := Lib.hid hs2
      obtain ⟨av, cv, hva⟩ := HX.out.slice
      clear hsb hsl hsz hea het hep hs1 hs2
      subst hva
      go_wp2_with fail
      refine (HC.out _ (below1 _ _)).mono ?_
      rintro e w2 ⟨rfl, hb2⟩
      have HB12 := Lib.hid (below_tr (below1 wr (.cells #[.int .i64 e1, .int .i64 e2, .string e3, .slice e4 e5 e6] 60)) hb2)
      have HB2 : Hid (Below w.heap.size w w2) := Lib.hid (HB.out.trans (HB12.out.mono HB.out.size))
      have hX2 := HX.out.below HB12.out
      obtain ⟨v3, w3, hr3, hX3, hg3⟩ := appX_str w2 w.heap.size 81 _ _ hX2 sb HS1.out HS2.out HB2.out.size
      have HR3 := Lib.hid hr3
      have HX3 : Hid (OwnX w3 w.heap.size v3 (108 :: encL (ts.take (k + 1)))) := Lib.hid (by rw [HET.out]; exact hX3)
      have HB3 : Hid (Below w.heap.size w w3) := Lib.hid (HB2.out.grown hg3 HB2.out.size (fun j hj => (hX2.lt j hj).1))
      clear hb2 p0 p1 p2 p3 hX2 hr3 hX3 hg3
      go_wp2_with (at_builtin; refine Lib.wpList_append_run _ rfl _ _ _ _ rfl _ _ rfl rfl _ _ HR3.out ?_)
      go_roundw
      case rel => exact ⟨k + 1, by omega, by go_num, HX3, HB3⟩
      case measure => simp [intOf]; omega
    · have hkn : ts.take k = ts := List.take_of_length_le (by omega)
      have hM : OwnM wr w.heap.size u3 (Lib.byteCells (108 :: encL ts)) := by have h9 := HX.out.mark; rw [hkn] at h9; exact h9
      have HM := Lib.hid hM
      have hlb : (Lib.byteCells (108 :: encL ts)).length + 1 ≤ 140737488355328 := by rw [Lib.byteCells_length, List.length_cons]; omega
      have HLB := Lib.hid hlb
      clear hkn hM hlb
      go_wp2_with (at_builtin; refine wpList_append_mark rfl _ _ 81 rfl w.heap.size i0 Tryz.underlying81 hi hz0 hz1 hz2 _ _ rfl (HM.out.below (below1 _ _)) ⟨wr.heap.size, 0, none⟩ (.int .u8 101) 1 rfl ?_ rfl HLB.out ?_ ?_)
      · have R := heap_alloc_new wr (.cells #[.int .u8 101] 5)
        rw [Addr.add_mid, Nat.zero_add]
        simp only [World.cell?, R]
        rfl
      · have := HB.out.size; simp; omega
      intro v4 w4 hM4 hg4
      have hB4 : Below w.heap.size w w4 := (HB.out.alloc HB.out.size _).grown hg4 (by have := HB.out.size; simp; omega) (fun j hj => (HM.out.lt j hj).1)
      obtain ⟨g4, c4, rfl, -⟩ := hM4.slice
      have hB5 := Lib.hid hB4
      have hE : Lib.byteCells (108 :: encL ts) ++ [Value.int .u8 101] = Lib.byteCells (108 :: (encL ts ++ [101])) := by simp [Lib.byteCells]
      rw [hE] at hM4 ⊢
      have HK := Lib.hid (mark_back hM4)
      clear hM4 hg4 hB4
      go_wp2
      rw [HK.out]
      simp only [Result.andThen]
      rw [Oper.upon_value]
      go_wp2
      go_ret
      exact ⟨rfl, hB5.out⟩
mutual
theorem rbytes_ok : ∀ t : Tree, Ok t → RBytesOK t
  | .num n, h => rbytes_num n (by rw [Ok] at h; exact h.1) (by rw [Ok] at h; exact h.2)
  | .text bs, _ => rbytes_text bs
  | .list ts, h => rbytes_list (rbytes_okL ts (by rw [Ok] at h; exact h))
theorem rbytes_okL : ∀ ts : List Tree, OkL ts → ∀ t, t ∈ ts → RBytesOK t
  | [], _, t, ht => by cases ht
  | u :: ts, h, t, ht => by
    rw [OkL] at h
    rcases List.mem_cons.1 ht with h' | h'
    · rw [h']; exact rbytes_ok u h.1
    · exact rbytes_okL ts h.2 t h'
end
set_option maxHeartbeats 1600000 in
set_option maxRecDepth 100000 in
theorem rput_any {t : Tree} {v : Value} {w : World} (hrep : Rep w (S24 w) t v) (hok : Ok t) (hlev : Lev 1 t) (hn : nodes t ≤ 4000) (hlen : (enc t).length ≤ 100000000000) (htab : TabW w) :
    Calls Tryz.prog 37 #[v] w fun e w' => e = .returned (.tuple #[.string ⟨(putF t).1.toArray⟩, .int .i64 (putF t).2]) ∧ Below w.heap.size w w' := by
  obtain ⟨kd, n0, b0, a, len, cap, rfl⟩ := Rep.cells t v hrep
  have H1 := Lib.hid (fun (W : World) (hb : Below w.heap.size w W) => rright_any (hrep.k24 (K24.below hb)) hlev hn)
  have H2 := Lib.hid (fun (W : World) (hb : Below w.heap.size w W) => rbytes_ok t hok W _ (hrep.k24 (K24.below hb)) hn hlen (htab.below hb))
  clear hrep hlev htab
  obtain ⟨sb, hsb⟩ : ∃ sb : ByteArray, sb = ⟨(enc t).toArray⟩ := ⟨_, rfl⟩
  have hsz : sb.size = (enc t).length := by rw [hsb]; simp [ByteArray.size]
  rw [← hsb] at H2
  have HSB := Lib.hid hsb
  clear hsb
  go_enter Tryz.func37, Tryz.ntmps37
  go_wp2_with fail
  refine (H1.out _ ((Below.refl _ _).alloc (Nat.le_refl _) _)).mono ?_
  rintro e w1 ⟨rfl, hb1⟩
  have hbx : w1.heap[w.heap.size]? = some (.cells #[.int .i64 kd, .int .i64 n0, .string b0, .slice a len cap] 60 (0, 0)) := (hb1.block _ (by simp)).trans (heap_alloc_new _ _)
  have HB1 : Hid (Below w.heap.size w w1) := Lib.hid (below_tr (below1 w _) hb1)
  have c0 : w1.cell? ⟨w.heap.size, 0, none⟩ = some (.int .i64 kd) := by simp [World.cell?, hbx]
  have c1 : w1.cell? ⟨w.heap.size, 1, none⟩ = some (.int .i64 n0) := by simp [World.cell?, hbx]
  have c2 : w1.cell? ⟨w.heap.size, 2, none⟩ = some (.string b0) := by simp [World.cell?, hbx]
  have c3 : w1.cell? ⟨w.heap.size, 3, none⟩ = some (.slice a len cap) := by simp [World.cell?, hbx]
  clear hb1 hbx
  go_wp2_with fail
  refine (H2.out _ HB1.out).mono ?_
  rintro e w2 ⟨rfl, hb2⟩
  have HB2 : Hid (Below w.heap.size w w2) := Lib.hid (below_tr HB1.out hb2)
  clear hb2
  by_cases hfit : sb.size ≤ 131072
  · have HP := Lib.hid (putF_yes (t := t) (by omega))
    go_wp2
    go_ret2
    exact ⟨by rw [HP.out, HSB.out]; rfl, HB2.out⟩
  · have HP := Lib.hid (putF_no (t := t) (by omega))
    go_wp2
    go_ret2
    exact ⟨by rw [HP.out]; rfl, HB2.out⟩
end Go.Proofs.YtdnedbcmgkilaaaGreatDoor.Co

end

section

namespace Go.Proofs.YtdnedbcmgkilaaaGreatDoor.Ca
open Go.RowKit Go.Proofs.YtdnedbcmgkilaaaGreatDoor
abbrev tx12 (a b c : BA) : Array Value := #[.int .i64 2, .int .i64 0, .string a, .slice none 0 0, .int .i64 2, .int .i64 0, .string b, .slice none 0 0, .int .i64 2, .int .i64 0, .string c, .slice none 0 0]
theorem rep_ent (x : Ent) (w : World) : Co.Rep (w.alloc (.cells (tx12 x.loc x.key x.pat) 60)) (fun g => w.heap.size ≤ g ∧ g < w.heap.size + 1) (entT x) (.agg (lsC (.slice (some ⟨w.heap.size, 0, none⟩) 3 3))) := by
  unfold entT
  rw [Co.Rep]
  refine ⟨_, (tx12 x.loc x.key x.pat).toList, rfl, ⟨rfl, .inr ⟨w.heap.size, 3, _, rfl, Nat.zero_le _, heap_alloc_new _ _, Nat.le_refl _, by decide, rfl, rfl⟩⟩, fun g' hg' => ?_, ?_⟩
  · obtain rfl : w.heap.size = g' := Option.some.inj hg'
    omega
  · rw [Co.RepAll]
    refine ⟨_, _, _, _, _, rfl, rep_txt _ _ _, ?_⟩
    rw [Co.RepAll]
    refine ⟨_, _, _, _, _, rfl, rep_txt _ _ _, ?_⟩
    rw [Co.RepAll]
    refine ⟨_, _, _, _, _, rfl, rep_txt _ _ _, ?_⟩
    rw [Co.RepAll]
theorem enc_txt {s : BA} (h : s.size ≤ 2000) : (Co.enc (txT s)).length ≤ 3000 := by
  have hl : s.data.toList.length ≤ 2000 := by rw [len_ba]; exact h
  have := Lib.itoa_length_le (s.data.toList.length : Int) (by omega) (by omega)
  rw [Co.enc, List.length_append, List.length_cons]
  omega
theorem enc_ent {e : Ent} (h : mayB e = true) : (Co.enc (entT e)).length ≤ 10000 := by
  obtain ⟨h1, h2, h3⟩ := may_tx h
  have k1 := enc_txt h1
  have k2 := enc_txt h2
  have k3 := enc_txt h3
  unfold entT
  simp only [Co.enc, Co.encL, List.length_append, List.length_cons, List.length_nil] at k1 k2 k3 ⊢
  omega
theorem enc_ents : ∀ {l : List Ent}, (∀ e, e ∈ l → mayB e = true) → (Co.encL (l.map entT)).length ≤ 10000 * l.length
  | [], _ => by simp [Co.encL]
  | e :: r, h => by
    have h1 := enc_ent (h e (by simp))
    have h2 := enc_ents (l := r) (fun y hy => h y (by simp [hy]))
    rw [List.map_cons, Co.encL, List.length_append, List.length_cons]
    omega
theorem enc_cat {l : List Ent} (h : Rgt l) : (Co.enc (catT l)).length ≤ 100000000000 := by
  have h1 := enc_ents h.may
  have h2 := h.len
  unfold catT
  rw [Co.enc, List.length_cons, List.length_append, List.length_cons, List.length_nil]
  omega
set_option maxHeartbeats 40000000 in
set_option maxRecDepth 100000 in
theorem rbytes_any (w : World) (a : Option Addr) (cap : Nat) (xs : List Ent) (hX : SlE w (Old w) (.slice a xs.length cap) xs) (hF : ∀ x, x ∈ xs → FitE x) (hE : EnvC w) :
    Calls Tryz.prog 17 #[.slice a xs.length cap] w fun e w' => e = .returned (.tuple #[.string ⟨(bytesC xs).1.toArray⟩, .int .i64 (bytesC xs).2]) ∧ Below w.heap.size w w' := by
  have HR := Lib.hid (rright_any w a cap xs hX hF hE)
  have hle := rightC_le xs
  have hxl := hX.len
  obtain ⟨q, HQ⟩ : ∃ q, Hid (q = rightC xs) := ⟨_, Lib.hid rfl⟩
  rw [← HQ.out] at HR hle
  by_cases h0 : q = 0
  · have HQ0 : Hid (rightC xs = 0) := Lib.hid (by rw [← HQ.out]; exact h0)
    have HRG : Hid (Rgt xs) := Lib.hid (rightC_0.1 HQ0.out)
    have HBY : Hid (bytesC xs = Co.putF (catT xs)) := Lib.hid (by unfold bytesC; rw [HQ0.out, if_neg (by simp)])
    subst h0
    obtain ⟨i0, hi, hz0, hz1, hz2⟩ := info_parts infoV
    have HIN : Hid (SlE w (fun b => b < w.heap.size) (.slice a xs.length cap) xs) := Lib.hid hX
    have HTB := Lib.hid (fun W (hb : Below w.heap.size w W) => (hE.below hb).env)
    have hl200 : xs.length ≤ 200 := HRG.out.len
    obtain ⟨M, HM⟩ : ∃ M, Hid (M = xs.length) := ⟨_, Lib.hid rfl⟩
    rw [← HM.out] at HR HIN hl200
    rw [← HM.out, HBY.out]
    clear hX hF hE hxl
    go_enter Tryz.func17, Tryz.ntmps17
    go_wp2_with fail
    refine HR.out.mono ?_
    rintro e w1 ⟨rfl, hb1⟩
    have HB1 := Lib.hid hb1
    have HS : Hid (BI w1.heap.size (w1.heap.size + 1) w (w1.alloc (.cells (lsC (.slice none 0 0)) 60)) (.slice none 0 0) ((xs.take 0).map entT) []) := Lib.hid (BI.start w w1 hb1)
    clear hb1
    go_wp2
    generalize w1.alloc (.cells #[.int .i64 3, .int .i64 0, .string ⟨#[]⟩, .slice none 0 0] 60) = W0 at *
    go_loopw [16] (fun i wr => ∃ (k : Nat) (L : Value) (vs : List Value), k ≤ M ∧ i = .int .i64 k ∧ Hid (BI w1.heap.size (w1.heap.size + 1) w wr L ((xs.take k).map entT) vs)) (fun i _ => M - (intOf i).toNat)
    case atStart => exact ⟨0, _, _, by omega, rfl, HS⟩
    case round =>
      clear HS
      obtain ⟨k, L, vs, hk, rfl, HI⟩ := hrel
      have hlk : ((xs.take k).map entT).length = k := by rw [List.length_map, List.length_take, ← HM.out]; omega
      by_cases hlt : k < M
      · obtain ⟨x, hx⟩ : ∃ x, xs[k]? = some x := ⟨_, List.getElem?_eq_getElem (by have := HM.out; omega)⟩
        obtain ⟨b, off, rfl, hbl, h0, h1, h2⟩ := (HIN.out.blw HI.out.below).get hx
        have HMT := Lib.hid (map_take hx)
        have HLK := Lib.hid hlk
        obtain ⟨Q3, HE1⟩ := ent_box wr x
        have HT3 := Lib.hid (rep_ent x (wr.alloc (.cells (enC x) 38)))
        have hbk := HI.out.blk
        have hbk3 := (HE1.out.block _ (Co.lt_of_heap hbk)).trans hbk
        clear hx hlk
        obtain ⟨xl, xk, xp⟩ := x
        simp only at h0 h1 h2 Q3 HE1 hbk3 HT3
        have c0 := Q3.out.cell (i := 0) rfl
        have c1 := Q3.out.cell (i := 1) rfl
        have c2 := Q3.out.cell (i := 2) rfl
        have l3 : (wr.alloc (.cells #[.string xl, .string xk, .string xp] 38)).cell? ⟨w1.heap.size, 3, none⟩ = some L := by simp [World.cell?, hbk3]
        have hlb := Co.lt_of_heap hbk3
        obtain ⟨aL, cL, hL⟩ := HI.out.slice
        rw [HLK.out] at hL
        subst hL
        have HB2 : Hid (Below wr.heap.size wr ((wr.alloc (.cells #[.string xl, .string xk, .string xp] 38)).alloc (.cells (tx12 xl xk xp) 60))) := Lib.hid (below_trans HE1.out (below1 _ _))
        have HZ2 : Hid (((wr.alloc (.cells #[.string xl, .string xk, .string xp] 38)).alloc (.cells (tx12 xl xk xp) 60)).heap.size = wr.heap.size + 1 + 1) := Lib.hid (by rw [World.size_alloc, World.size_alloc])
        have HR2 : Hid (Co.Rep ((wr.alloc (.cells #[.string xl, .string xk, .string xp] 38)).alloc (.cells (tx12 xl xk xp) 60)) (fun g => wr.heap.size ≤ g ∧ g < ((wr.alloc (.cells #[.string xl, .string xk, .string xp] 38)).alloc (.cells (tx12 xl xk xp) 60)).heap.size) (entT ⟨xl, xk, xp⟩) (.agg (lsC (.slice (some ⟨wr.heap.size + 1, 0, none⟩) 3 3)))) := Lib.hid (by
          have h := HT3.out
          rw [World.size_alloc] at h
          exact Co.Rep.keep (fun _ _ => rfl) (fun g hg => ⟨by omega, by rw [HZ2.out]; omega⟩) _ _ h)
        have HH := Lib.hid (Co.lt_of_heap HI.out.blk)
        clear hbk hbk3 HT3
        go_wp2_with (at_builtin; refine stop_here ?_)
        refine Lib.hid ?_
        refine wpList_append_lies _ rfl (.tmp 21) (.tmp 33) 58 rfl (w1.heap.size + 1) 60 i0 _ 4 56 Tryz.underlying58 hi hz0 hz1 hz2 rfl (by omega) (.slice aL k cL) k vs ?hs ?ho ⟨wr.heap.size + 1 + 1, 0, none⟩ 1 1 [.int .i64 3, .int .i64 0, .string ⟨#[]⟩, .slice (some ⟨wr.heap.size + 1, 0, none⟩) 3 3] ?hx rfl (cell_new4 _ _ _ _ _ _ HZ2.out) (by simp [Value.oneCell']) (by omega) (by unfold maxLen; omega) (by omega) (by rw [World.size_alloc, HZ2.out]; have := HH.out; omega) (wr.heap.size + 1 + 1 + 1) (by rw [World.size_alloc, HZ2.out]) ?_
        case hs => rfl
        case hx => rfl
        case ho =>
          have h9 := (HI.out.call HB2.out).own
          rw [HLK.out] at h9
          exact h9.alloc _
        intro g c w3 hown hgrow hl hlt3
        have s3 := BI.blk3 HI.out HB2.out hgrow
        have z3 : w3.cell? ⟨w1.heap.size, 3, none⟩ = some (.slice aL k cL) := by simp [World.cell?, s3]
        have f3 := Co.frozen_of_heap s3 3
        have HST := Lib.hid (BI.step HI.out HLK.out HB2.out HR2.out hown hgrow HZ2.out hl)
        clear hown hgrow hl s3
        go_wp2
        go_roundw
        case rel => exact ⟨k + 1, _, _, by omega, by go_num, Lib.hid (by rw [HMT.out]; exact HST.out)⟩
        case measure => simp [intOf]; omega
      · have hk2 : xs.take k = xs := List.take_of_length_le (by have := HM.out; omega)
        have hB := HI.out
        rw [hk2] at hB
        have hbk := hB.blk
        obtain ⟨aL, cL, hL⟩ := hB.slice
        rw [List.length_map, ← HM.out] at hL
        subst hL
        have hBt := hB.tree
        rw [show Co.Tree.list (xs.map entT) = catT xs from rfl] at hBt
        have HP := Lib.hid (Co.rput_any hBt (ok_cat xs) (lev_cat xs) (by rw [nodes_cat]; have := HM.out; omega) (enc_cat HRG.out) (HTB.out _ hB.below).tab)
        have HBW := Lib.hid hB.below
        clear hBt
        have c0 : wr.cell? ⟨w1.heap.size, 0, none⟩ = some (.int .i64 3) := by simp [World.cell?, hbk]
        have c1 : wr.cell? ⟨w1.heap.size, 1, none⟩ = some (.int .i64 0) := by simp [World.cell?, hbk]
        have c2 : wr.cell? ⟨w1.heap.size, 2, none⟩ = some (.string ⟨#[]⟩) := by simp [World.cell?, hbk]
        have c3 : wr.cell? ⟨w1.heap.size, 3, none⟩ = some (.slice aL M cL) := by simp [World.cell?, hbk]
        clear hB hbk hk2
        go_wp2_with fail
        refine HP.out.mono ?_
        rintro e w5 ⟨rfl, hb5⟩
        have HB5 := Lib.hid (below_trans HBW.out hb5)
        clear hb5
        go_wp2
        go_ret2
        exact ⟨rfl, HB5.out⟩
  · have HA : Hid (bytesC xs = ([], (rightC xs : Int))) := Lib.hid (by unfold bytesC; rw [if_pos (by rw [← HQ.out]; exact h0)])
    have hqb : ((q : Int) != 0) = true := by rw [bne_iff_ne]; omega
    rw [HA.out]
    clear hX hF hE h0
    generalize xs.length = L at *
    go_enter Tryz.func17, Tryz.ntmps17
    go_wp2_with fail
    refine HR.out.mono ?_
    rintro e w1 ⟨rfl, hb1⟩
    have HB := Lib.hid hb1
    clear hb1
    go_wp2
    go_ret2
    exact ⟨by rw [HQ.out]; rfl, HB.out⟩
end Go.Proofs.YtdnedbcmgkilaaaGreatDoor.Ca

end
