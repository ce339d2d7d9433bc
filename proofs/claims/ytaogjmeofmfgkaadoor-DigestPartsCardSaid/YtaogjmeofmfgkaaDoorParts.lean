/- DigestParts: what the law answers. -/
import Derived.Test.YtaogjmeofmfgkaaDoorOf
namespace Go.Proofs.YtaogjmeofmfgkaaDoor
open Go.RowKit

theorem short2_any (s : ByteArray) (k : Nat) (w : World) (hs : s.size ≤ 9223372036854775807) (hk : k ≤ 1000000) : Calls Tryd.prog 8 #[.string s, .int .i64 k] w fun e w' => e = .returned (.string (cutS s k)) ∧ w = w' := by
  by_cases h : k < s.size
  · go_enter Tryd.func8, Tryd.ntmps8
    go_wp2
    go_ret
    refine ⟨ret_str (ba_ext ?_), rfl⟩
    rw [extract_list]; simp [cutS]
  · go_enter Tryd.func8, Tryd.ntmps8
    go_wp2
    go_ret
    refine ⟨ret_str (ba_ext ?_), rfl⟩
    show _ = s.data.toList.take k
    rw [List.take_of_length_le (by simp only [Array.length_toList, ByteArray.size_data]; omega)]

/-- A slice of strings that came in. -/
def InS (w : World) (a : Option Addr) (xs : List ByteArray) : Prop :=
  xs ≠ [] → ∃ b off, a = some ⟨b, off, none⟩ ∧ b < w.heap.size ∧ ∀ j (h : j < xs.length), w.cell? ⟨b, off + j, none⟩ = some (.string xs[j])

/-- The Hash of the law, to which all was added. -/
structure One (w0 w : World) (all : ByteArray) : Prop where
  h : HashAt w w0.heap.size all.data.toList
  tab : Tab w
  below : Below w0.heap.size w0 w
theorem One.call {w0 w w' : World} {all : ByteArray} (h : One w0 w all) (hb : Below w.heap.size w w') : One w0 w' all :=
  ⟨h.h.keep (hb.block _ h.h.lt), h.tab.below hb, below_trans h.below hb⟩
theorem One.add {w0 w w' : World} {all p : ByteArray} (h : One w0 w all) (hh : HashAt w' w0.heap.size (all.data.toList ++ p.data.toList)) (hn : Nx w0.heap.size w w') (hp : 0 < w0.heap.size) : One w0 w' (all ++ p) :=
  ⟨by simpa using hh, hn.tab h.tab (by omega), nx_below h.below hn (Nat.le_refl _) (Nat.le_refl _)⟩
theorem one_new (w : World) (ht : Tab w) : One w (w.alloc (.cells z73 55)) ⟨#[]⟩ := ⟨hash_new w, ht.below (below1 _ _), below1 _ _⟩

set_option maxRecDepth 100000 in
set_option maxHeartbeats 3200000 in
theorem parts_any (w : World) (a : Option Addr) (cap : Nat) (xs : List ByteArray) (hxl : xs.length ≤ 9223372036854775807) (hxs : ∀ x, x ∈ xs → x.size ≤ 9223372036854775807) (hIn : InS w a xs) (ht : Tab w) :
    Calls Tryd.prog 6 #[.slice a xs.length cap] w fun e w' => e = .returned (.bool true) ∧ Below w.heap.size w w' := by
  have hp := ht.pos
  have HT := Lib.hid ht
  have HXS := Lib.hid hxs
  have HIN := Lib.hid hIn
  clear ht hxs hIn
  have SM : Hid (∀ (all : ByteArray) W, One w W all → all.size ≤ 10000 → Calls Tryd.prog 16 #[.pointer (some ⟨w.heap.size, 0, none⟩)] W fun e w' => e = .returned (.string (str (shaF all.data.toList))) ∧ Below W.heap.size W w') := Lib.hid (fun all W h hl => sum_any W _ _ h.h h.tab (by simp only [Array.length_toList, ByteArray.size_data]; omega))
  have OF : Hid (∀ (all : ByteArray) W, Tab W → all.size ≤ 10000 → Calls Tryd.prog 9 #[.string all] W fun e w' => e = .returned (.string (str (shaF all.data.toList))) ∧ Below W.heap.size W w') := Lib.hid (fun all W h hl => of_any _ W h (by omega))
  go_enter Tryd.func6, Tryd.ntmps6
  go_wp2_with fail
  refine (new_any w).mono ?_
  rintro e w1 ⟨rfl, hw1⟩
  have H1 : Hid (One w w1 ⟨#[]⟩) := Lib.hid (by rw [hw1]; exact one_new w HT.out)
  clear hw1
  go_wp2
  go_loopw [4, 12] (fun v x wr => ∃ (i : Nat) (all : ByteArray), i ≤ xs.length ∧ i ≤ 20 ∧ x = .int .i64 i ∧ v = .string all ∧ all.size ≤ 500 * i ∧ Hid (One w wr all)) (fun _ x _ => xs.length - (intOf x).toNat)
  case atStart => exact ⟨0, ⟨#[]⟩, by omega, by omega, rfl, rfl, Nat.le_refl _, H1⟩
  case round =>
    clear H1
    obtain ⟨i, all, hi, hi20, rfl, rfl, hall, HO⟩ := hrel
    by_cases hlen : i < xs.length
    · obtain ⟨b, off, rfl, hb, hcell⟩ := HIN.out (fun h => by rw [h] at hlen; simp at hlen)
      have hc := (HO.out.below.cell (p := ⟨b, off + i, none⟩) hb).trans (hcell i hlen)
      have hpx := HXS.out xs[i] (List.getElem_mem hlen)
      generalize xs[i] = p0 at *
      clear hcell
      by_cases h20 : i < 20
      · have S1 : Hid (∀ W, Calls Tryd.prog 8 #[.string p0, .int .i64 500] W fun e w' => e = .returned (.string (cutS p0 500)) ∧ W = w') := Lib.hid (fun W => short2_any p0 500 W hpx (by omega))
        have hps := cut_size p0 500
        generalize cutS p0 500 = p at *
        have hls : (all ++ p).size ≤ 500 * (i + 1) := by rw [ByteArray.size_append]; omega
        have hls2 : (all ++ p).size ≤ 10000 := by omega
        go_wp2_with fail
        refine (S1.out _).mono ?_
        rintro e w' ⟨rfl, rfl⟩
        go_wp2_with fail
        refine (add_any p wr w.heap.size _ HO.out.h (by omega) HO.out.tab (by simp only [Array.length_toList, ByteArray.size_data]; omega)).mono ?_
        rintro e w2 ⟨rfl, hh, hn⟩
        have H2 := Lib.hid (HO.out.add hh hn hp)
        clear hh hn HO hc
        have SM2 : Hid (∀ W, One w W (all ++ p) → Calls Tryd.prog 16 #[.pointer (some ⟨w.heap.size, 0, none⟩)] W fun e w' => e = .returned (.string (str (shaF (all ++ p).data.toList))) ∧ Below W.heap.size W w') := Lib.hid (fun W h => SM.out _ W h hls2)
        have OF2 : Hid (∀ W, Tab W → Calls Tryd.prog 9 #[.string (all ++ p)] W fun e w' => e = .returned (.string (str (shaF (all ++ p).data.toList))) ∧ Below W.heap.size W w') := Lib.hid (fun W h => OF.out _ W h hls2)
        generalize str (shaF (all ++ p).data.toList) = D at *
        go_wp2_with fail
        refine (SM2.out w2 H2.out).mono ?_
        rintro e w3 ⟨rfl, hb3⟩
        have H3 := Lib.hid (H2.out.call hb3)
        clear hb3 H2
        go_wp2_with fail
        refine (OF2.out w3 H3.out.tab).mono ?_
        rintro e w4 ⟨rfl, hb4⟩
        have H4 := Lib.hid (H3.out.call hb4)
        clear hb4 H3
        go_wp2
        refine ⟨⟨i + 1, all ++ p, by omega, by omega, by go_num, rfl, hls, H4⟩, ?_⟩
        simp [intOf]; omega
      · clear hpx
        have hl2 : all.size ≤ 10000 := by omega
        have hsz1 : (str (shaF all.data.toList)).size = 32 := by show (shaF all.data.toList).toArray.size = 32; rw [List.size_toArray]; exact shaF_length _
        have SM2 : Hid (∀ W, One w W all → Calls Tryd.prog 16 #[.pointer (some ⟨w.heap.size, 0, none⟩)] W fun e w' => e = .returned (.string (str (shaF all.data.toList))) ∧ Below W.heap.size W w') := Lib.hid (fun W h => SM.out _ W h hl2)
        have OF2 : Hid (∀ W, Tab W → Calls Tryd.prog 9 #[.string all] W fun e w' => e = .returned (.string (str (shaF all.data.toList))) ∧ Below W.heap.size W w') := Lib.hid (fun W h => OF.out _ W h hl2)
        generalize str (shaF all.data.toList) = D at *
        have HS1 := Lib.hid hsz1
        clear hsz1
        go_wp2_with fail
        refine (SM2.out wr HO.out).mono ?_
        rintro e w3 ⟨rfl, hb3⟩
        have H3 := Lib.hid (HO.out.call hb3)
        clear hb3 HO
        go_wp2_with fail
        refine (OF2.out w3 H3.out.tab).mono ?_
        rintro e w4 ⟨rfl, hb4⟩
        have H4 := Lib.hid (H3.out.call hb4)
        clear hb4 H3
        go_wp2_with fail
        refine (SM2.out w4 H4.out).mono ?_
        rintro e w5 ⟨rfl, hb5⟩
        have H5 := Lib.hid (H4.out.call hb5)
        clear hb5 H4
        go_wp2_with fail
        refine (SM2.out w5 H5.out).mono ?_
        rintro e w6 ⟨rfl, hb6⟩
        have H6 := Lib.hid (H5.out.call hb6)
        clear hb6 H5
        go_wp2_with fail
        refine (SM2.out w6 H6.out).mono ?_
        rintro e w7 ⟨rfl, hb7⟩
        have H7 := Lib.hid (H6.out.call hb7)
        clear hb7 H6
        have hsz := HS1.out
        go_wp2
        go_ret
        exact ⟨rfl, H7.out.below⟩
    · have hl2 : all.size ≤ 10000 := by omega
      have hsz1 : (str (shaF all.data.toList)).size = 32 := by show (shaF all.data.toList).toArray.size = 32; rw [List.size_toArray]; exact shaF_length _
      have SM2 : Hid (∀ W, One w W all → Calls Tryd.prog 16 #[.pointer (some ⟨w.heap.size, 0, none⟩)] W fun e w' => e = .returned (.string (str (shaF all.data.toList))) ∧ Below W.heap.size W w') := Lib.hid (fun W h => SM.out _ W h hl2)
      have OF2 : Hid (∀ W, Tab W → Calls Tryd.prog 9 #[.string all] W fun e w' => e = .returned (.string (str (shaF all.data.toList))) ∧ Below W.heap.size W w') := Lib.hid (fun W h => OF.out _ W h hl2)
      generalize str (shaF all.data.toList) = D at *
      have HS1 := Lib.hid hsz1
      clear hsz1
      go_wp2_with fail
      refine (SM2.out wr HO.out).mono ?_
      rintro e w3 ⟨rfl, hb3⟩
      have H3 := Lib.hid (HO.out.call hb3)
      clear hb3 HO
      go_wp2_with fail
      refine (OF2.out w3 H3.out.tab).mono ?_
      rintro e w4 ⟨rfl, hb4⟩
      have H4 := Lib.hid (H3.out.call hb4)
      clear hb4 H3
      go_wp2_with fail
      refine (SM2.out w4 H4.out).mono ?_
      rintro e w5 ⟨rfl, hb5⟩
      have H5 := Lib.hid (H4.out.call hb5)
      clear hb5 H4
      go_wp2_with fail
      refine (SM2.out w5 H5.out).mono ?_
      rintro e w6 ⟨rfl, hb6⟩
      have H6 := Lib.hid (H5.out.call hb6)
      clear hb6 H5
      go_wp2_with fail
      refine (SM2.out w6 H6.out).mono ?_
      rintro e w7 ⟨rfl, hb7⟩
      have H7 := Lib.hid (H6.out.call hb7)
      clear hb7 H6
      have hsz := HS1.out
      go_wp2
      go_ret
      exact ⟨rfl, H7.out.below⟩
end Go.Proofs.YtaogjmeofmfgkaaDoor
