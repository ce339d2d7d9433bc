/- DigestApart: what the law answers. -/
import Derived.Test.YtaogjmeofmfgkaaDoorOf
namespace Go.Proofs.YtaogjmeofmfgkaaDoor
open Go.RowKit

/-- Two Hashes side by side. -/
structure Two (w0 w : World) (mx my : Bs) : Prop where
  x : HashAt w w0.heap.size mx
  y : HashAt w (w0.heap.size + 1) my
  tab : Tab w
  below : Below w0.heap.size w0 w
section
variable {w0 w w' : World} {mx my : Bs}
theorem Two.addX {c : Bs} (h : Two w0 w mx my) (hh : HashAt w' w0.heap.size (mx ++ c)) (hn : Nx w0.heap.size w w') (hp : 0 < w0.heap.size) : Two w0 w' (mx ++ c) my :=
  ⟨hh, h.y.keep (hn.block _ h.y.lt (by omega)), hn.tab h.tab (by omega), nx_below h.below hn (Nat.le_refl _) (Nat.le_refl _)⟩
theorem Two.addY {c : Bs} (h : Two w0 w mx my) (hh : HashAt w' (w0.heap.size + 1) (my ++ c)) (hn : Nx (w0.heap.size + 1) w w') (hp : 0 < w0.heap.size) : Two w0 w' mx (my ++ c) :=
  ⟨h.x.keep (hn.block _ h.x.lt (by omega)), hh, hn.tab h.tab (by omega), nx_below h.below hn (by omega) (Nat.le_refl _)⟩
theorem Two.call (h : Two w0 w mx my) (hb : Below w.heap.size w w') : Two w0 w' mx my :=
  ⟨h.x.keep (hb.block _ h.x.lt), h.y.keep (hb.block _ h.y.lt), h.tab.below hb, below_trans h.below hb⟩
end
theorem two_new (w : World) (ht : Tab w) : Two w ((w.alloc (.cells z73 55)).alloc (.cells z73 55)) [] [] := by
  have hb := below2 w (.cells z73 55) (.cells z73 55)
  refine ⟨(hash_new w).keep (Below.heap_alloc _ _ _ (by simp)), ?_, ht.below hb, hb⟩
  have := hash_new (w.alloc (.cells z73 55))
  simpa using this

theorem beq_str (a : ByteArray) : (a.toList == a.toList) = true := by simp

set_option maxHeartbeats 1600000 in
theorem apart_any (s t : ByteArray) (w : World) (ht : Tab w) (hs : s.size ≤ 140737488351232) (hu : t.size ≤ 140737488351232) :
    Calls Tryd.prog 7 #[.string s, .string t] w fun e w' => e = .returned (.bool true) ∧ Below w.heap.size w w' := by
  have hp := ht.pos
  have HT := Lib.hid ht
  clear ht
  have ha := cut_size s 500
  have hb := cut_size t 500
  have S1 : Hid (∀ W, Calls Tryd.prog 8 #[.string s, .int .i64 500] W fun e w' => e = .returned (.string (cutS s 500)) ∧ W = w') := Lib.hid (fun W => short_any s 500 W hs (by omega))
  have S2 : Hid (∀ W, Calls Tryd.prog 8 #[.string t, .int .i64 500] W fun e w' => e = .returned (.string (cutS t 500)) ∧ W = w') := Lib.hid (fun W => short_any t 500 W hu (by omega))
  generalize cutS s 500 = a at *
  generalize cutS t 500 = b at *
  have hla : a.data.toList.length = a.size := by simp
  have hlb : b.data.toList.length = b.size := by simp
  have HLA := Lib.hid hla
  have HLB := Lib.hid hlb
  clear hla hlb
  go_enter Tryd.func7, Tryd.ntmps7
  go_wp2_with fail
  refine (S1.out _).mono ?_
  rintro e w' ⟨rfl, rfl⟩
  go_wp2_with fail
  refine (S2.out _).mono ?_
  rintro e w' ⟨rfl, rfl⟩
  go_wp2_with fail
  refine (new_any w).mono ?_
  rintro e w1 ⟨rfl, rfl⟩
  go_wp2_with fail
  refine (new_any _).mono ?_
  rintro e w2 ⟨rfl, hw2⟩
  have H2 : Hid (Two w w2 [] []) := Lib.hid (by rw [hw2]; exact two_new w HT.out)
  clear hw2
  rw [show (w.alloc (.cells z73 55)).heap.size = w.heap.size + 1 by simp]
  go_wp2_with fail
  refine (add_any a w2 w.heap.size _ H2.out.x (by omega) H2.out.tab (by simp only [List.length_append, List.length_nil, HLA.out, HLB.out]; omega)).mono ?_
  rintro e w3 ⟨rfl, hh, hn⟩
  have H3 := Lib.hid (H2.out.addX hh hn hp)
  clear hh hn H2
  go_wp2_with fail
  refine (add_any b w3 (w.heap.size + 1) _ H3.out.y (by omega) H3.out.tab (by simp only [List.length_append, List.length_nil, HLA.out, HLB.out]; omega)).mono ?_
  rintro e w4 ⟨rfl, hh, hn⟩
  have H4 := Lib.hid (H3.out.addY hh hn hp)
  clear hh hn H3
  go_wp2_with fail
  refine (add_any b w4 w.heap.size _ H4.out.x (by omega) H4.out.tab (by simp only [List.length_append, List.length_nil, HLA.out, HLB.out]; omega)).mono ?_
  rintro e w5 ⟨rfl, hh, hn⟩
  have H5 := Lib.hid (H4.out.addX hh hn hp)
  clear hh hn H4
  go_wp2_with fail
  refine (add_any a w5 (w.heap.size + 1) _ H5.out.y (by omega) H5.out.tab (by simp only [List.length_append, List.length_nil, HLA.out, HLB.out]; omega)).mono ?_
  rintro e w6 ⟨rfl, hh, hn⟩
  have H6 := Lib.hid (H5.out.addY hh hn hp)
  clear hh hn H5
  go_wp2_with fail
  refine (add_nil a w6).mono ?_
  rintro e w' ⟨rfl, rfl⟩
  have hab : [] ++ a.data.toList ++ b.data.toList = (a ++ b).data.toList := by simp
  have hba : [] ++ b.data.toList ++ a.data.toList = (b ++ a).data.toList := by simp
  have H7 : Hid (Two w w6 (a ++ b).data.toList (b ++ a).data.toList) := Lib.hid (by rw [← hab, ← hba]; exact H6.out)
  clear hab hba H6
  have hl1 : (a ++ b).size ≤ 1000 := by rw [ByteArray.size_append]; omega
  have hl2 : (b ++ a).size ≤ 1000 := by rw [ByteArray.size_append]; omega
  have hsz1 : (str (shaF (a ++ b).data.toList)).size = 32 := by show (shaF (a ++ b).data.toList).toArray.size = 32; rw [List.size_toArray]; exact shaF_length _
  have O1 : Hid (∀ W, Tab W → Calls Tryd.prog 9 #[.string (a ++ b)] W fun e w' => e = .returned (.string (str (shaF (a ++ b).data.toList))) ∧ Below W.heap.size W w') := Lib.hid (fun W h => of_any _ W h (by omega))
  have O2 : Hid (∀ W, Tab W → Calls Tryd.prog 9 #[.string (b ++ a)] W fun e w' => e = .returned (.string (str (shaF (b ++ a).data.toList))) ∧ Below W.heap.size W w') := Lib.hid (fun W h => of_any _ W h (by omega))
  have X1 : Hid (∀ W, Two w W (a ++ b).data.toList (b ++ a).data.toList → Calls Tryd.prog 16 #[.pointer (some ⟨w.heap.size, 0, none⟩)] W fun e w' => e = .returned (.string (str (shaF (a ++ b).data.toList))) ∧ Below W.heap.size W w') := Lib.hid (fun W h => sum_any W _ _ h.x h.tab (by simp only [Array.length_toList, ByteArray.size_data]; omega))
  have Y1 : Hid (∀ W, Two w W (a ++ b).data.toList (b ++ a).data.toList → Calls Tryd.prog 16 #[.pointer (some ⟨w.heap.size + 1, 0, none⟩)] W fun e w' => e = .returned (.string (str (shaF (b ++ a).data.toList))) ∧ Below W.heap.size W w') := Lib.hid (fun W h => sum_any W _ _ h.y h.tab (by simp only [Array.length_toList, ByteArray.size_data]; omega))
  generalize str (shaF (a ++ b).data.toList) = D1 at *
  generalize str (shaF (b ++ a).data.toList) = D2 at *
  have HS1 := Lib.hid hsz1
  clear hsz1 hl1 hl2
  go_wp2_with fail
  refine (X1.out w6 H7.out).mono ?_
  rintro e w7 ⟨rfl, hb⟩
  have H8 := Lib.hid (H7.out.call hb)
  clear hb H7
  go_wp2_with fail
  refine (O1.out w7 H8.out.tab).mono ?_
  rintro e w8 ⟨rfl, hb⟩
  have H9 := Lib.hid (H8.out.call hb)
  clear hb H8
  go_wp2_with fail
  refine (Y1.out w8 H9.out).mono ?_
  rintro e w9 ⟨rfl, hb⟩
  have H10 := Lib.hid (H9.out.call hb)
  clear hb H9
  go_wp2_with fail
  refine (O2.out w9 H10.out.tab).mono ?_
  rintro e w10 ⟨rfl, hb⟩
  have H11 := Lib.hid (H10.out.call hb)
  clear hb H10
  go_wp2_with fail
  refine (sum_nil w10).mono ?_
  rintro e w' ⟨rfl, rfl⟩
  go_wp2_with fail
  refine (X1.out w10 H11.out).mono ?_
  rintro e w11 ⟨rfl, hb⟩
  have H12 := Lib.hid (H11.out.call hb)
  clear hb H11
  have hsz := HS1.out
  go_wp2
  go_ret
  exact ⟨rfl, H12.out.below⟩
end Go.Proofs.YtaogjmeofmfgkaaDoor
