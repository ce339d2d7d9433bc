/- FrameRows: the law's walk. -/
import Derived.Test.YtljbbhbebplknaaRScan
import Derived.Test.YtljbbhbebplknaaBytes
namespace Go.Proofs.Ytljbbhbebplknaa
open Go.RowKit Go.Shelf

theorem short2_any (s : ByteArray) (w : World) (hs : s.size ≤ 9223372036854775807) : Calls Try.prog 13 #[.string s] w fun e w' => e = .returned (.string (cutS s)) ∧ w = w' := by
  by_cases h : 20000 < s.size
  · go_enter Try.func13, Try.ntmps13
    go_wp2
    go_ret
    refine ⟨ret_str (ba_ext ?_), rfl⟩
    rw [extract_list]; simp
  · go_enter Try.func13, Try.ntmps13
    go_wp2
    go_ret
    refine ⟨ret_str (ba_ext ?_), rfl⟩
    show _ = s.data.toList.take 20000
    rw [List.take_of_length_le (by simp only [Array.length_toList, ByteArray.size_data]; omega)]

theorem map_list_inj : ∀ {l l' : List ByteArray}, l.map (fun x : ByteArray => x.data.toList) = l'.map (fun x : ByteArray => x.data.toList) → l = l'
  | [], [], _ => rfl
  | [], _ :: _, h => by simp at h
  | _ :: _, [], h => by simp at h
  | x :: l, y :: l', h => by
    rw [List.map_cons, List.map_cons] at h
    injection h with h4 h5
    rw [ba_ext h4, map_list_inj h5]

/-- A slice of strings that came in. -/
def InS (w : World) (a : Option Addr) (xs : List ByteArray) : Prop :=
  xs ≠ [] → ∃ b off, a = some ⟨b, off, none⟩ ∧ b < w.heap.size ∧ ∀ j (h : j < xs.length), w.cell? ⟨b, off + j, none⟩ = some (.string xs[j])

theorem scan_reads2 (s : ByteArray) (w : World) (hs : s.size ≤ 1000000) : Calls Try.prog 14 #[.string s] w fun e w' => ∃ (a : Option Addr) (cap : Nat) (xs : List ByteArray) (n : Nat), Scanned s.data.toList (xs.map (·.data.toList)) n ∧ e = .returned (.tuple #[.slice a xs.length cap, .int .i64 (n : Nat)]) ∧ Reads w' a cap xs ∧ Below w.heap.size w w' ∧ ((a = none ∧ cap = 0 ∧ xs = []) ∨ (cap ≤ maxLen ∧ ∃ g, a = some ⟨g, 0, none⟩)) := by
  refine (scan_any s w hs).mono fun e w' h => ?_
  obtain ⟨v, bs, hS, he, ho, hb⟩ := h
  have e1 : bs.map (fun b => Value.string b.1) = (bs.map (·.1)).map Value.string := by rw [List.map_map]; rfl
  have e2 : listsB bs = (bs.map (·.1)).map (·.data.toList) := by rw [List.map_map]; rfl
  have e3 : bs.length = (bs.map (·.1)).length := (List.length_map _).symm
  unfold strsB at ho
  rw [e1, e3] at ho
  obtain ⟨a, cap, rfl, hr⟩ := reads_of_owns ho
  refine ⟨a, cap, bs.map (·.1), _, by rw [← e2]; exact hS, he, hr, hb, ?_⟩
  rcases ho.2 with ⟨h0, h1⟩ | ⟨g, cap', cur, hv, -, -, -, hm, -⟩
  · injection h0 with h2 _ h3
    exact .inl ⟨h2, h3, List.length_eq_zero_iff.1 h1⟩
  · injection hv with h2 _ h3
    subst h3
    exact .inr ⟨hm, g, h2⟩

/-- How far the law has come: ys are the bodies that were put, rb their frames. -/
structure RowsI (w : World) (ys : List ByteArray) (rb : ByteArray) (v : Value) (W : World) : Prop where
  short : ∀ b, b ∈ ys.map (·.data.toList) → b.length ≤ 65536
  row : rb.data.toList = framesF (ys.map (·.data.toList))
  own : W.ownsRow w.heap.size 9 1 v ys.length (ys.map Value.string)
  below : Below w.heap.size w W

set_option maxRecDepth 100000 in
set_option maxHeartbeats 6400000 in
theorem rows_walk (w : World) (a : Option Addr) (cap : Nat) (xs : List ByteArray) (more c2 : ByteArray) (hxl : xs.length ≤ 9223372036854775807) (hxs : ∀ x, x ∈ xs → x.size ≤ 9223372036854775807) (hIn : InS w a xs)
    (hM : ∀ W, Calls Try.prog 13 #[.string more] W fun e w' => e = .returned (.string c2) ∧ W = w') (hc2 : c2.size ≤ 20000) :
    Calls Try.prog 5 #[.slice a xs.length cap, .string more] w fun e w' => e = .returned (.bool true) ∧ Below w.heap.size w w' := by
  obtain ⟨i0, hi, hz0, hz1, hz2⟩ := info_parts info9
  have HIn := Lib.hid hIn
  have HM := Lib.hid hM
  have HXS := Lib.hid hxs
  clear hIn hM hxs
  go_enter Try.func5, Try.ntmps5
  go_wp2
  go_loopw [5, 6, 15] (fun r v i wr => ∃ (rb : ByteArray) (ys : List ByteArray) (pa : Option Addr) (pcap k : Nat), r = .string rb ∧ v = .slice pa ys.length pcap ∧ i = .int .i64 k ∧ k ≤ xs.length ∧ ys.length ≤ 20 ∧ Hid (k = ys.length) ∧ rb.size ≤ 40012 ∧ Hid (RowsI w ys rb v wr)) (fun _ _ i _ => xs.length - (intOf i).toNat)
  case atStart => exact ⟨⟨#[]⟩, [], none, 0, 0, rfl, rfl, rfl, by omega, by simp, Lib.hid rfl, by show 0 ≤ 40012; omega, Lib.hid { short := fun b hb => by simp at hb, row := rfl, own := World.ownsRow_nil _ _ _ _, below := Below.refl _ _ }⟩
  case round =>
    obtain ⟨rb, ys, pa, pcap, k, rfl, rfl, rfl, hk, hy20, HK, hrb, HI⟩ := hrel
    by_cases hgo : k < xs.length ∧ k < 20 ∧ rb.size ≤ 20000
    · obtain ⟨hlt, hk20, hr2⟩ := hgo
      have hne : xs ≠ [] := by intro h; subst h; simp at hlt
      obtain ⟨b, off, rfl, hb, hcl⟩ := HIn.out hne
      have hcell : wr.cell? ⟨b, off + k, none⟩ = some (.string xs[k]) := (HI.out.below.cell (p := ⟨b, off + k, none⟩) hb).trans (hcl k hlt)
      have hx := HXS.out xs[k] (List.getElem_mem hlt)
      have HSH := Lib.hid (fun W => short2_any xs[k] W hx)
      have hcz := cut_size xs[k]
      clear hcl hne hx
      generalize xs[k] = x at *
      generalize cutS x = c at *
      have HP := Lib.hid (fun W => put_any c W (by omega))
      have hfz : (str (frameF c.data.toList)).size = c.size + 12 := by show (frameF c.data.toList).toArray.size = _; rw [List.size_toArray, frameF_length, ba_len]
      have HF2 : Hid ((rb ++ str (frameF c.data.toList)).data.toList = framesF ((ys ++ [c]).map (·.data.toList))) := Lib.hid (by
        rw [ba_append, HI.out.row, List.map_append, List.map_singleton, framesF_snoc])
      have hz4 : (rb ++ str (frameF c.data.toList)).size ≤ 40012 := by
        rw [← ba_len, ba_append, List.length_append, ba_len, ba_len, hfz]; omega
      generalize str (frameF c.data.toList) = fr at *
      go_wp2_with fail
      refine (HSH.out _).mono ?_
      rintro e w1 ⟨rfl, rfl⟩
      go_wp2_with fail
      refine (HP.out _).mono ?_
      rintro e w1 ⟨rfl, hb1⟩
      have H1 : Hid (RowsI w ys rb (.slice pa ys.length pcap) w1) := Lib.hid { HI.out with own := ownsRow_below HI.out.own hb1, below := HI.out.below.trans (hb1.mono HI.out.below.size) }
      clear hb1 HI hcell
      go_wp2_with fail
      refine (HSH.out _).mono ?_
      rintro e w2 ⟨rfl, rfl⟩
      have hrow := H1.out.own
      have hB := H1.out.below
      go_wp2_with (at_builtin; refine wpList_append_own _ rfl _ _ 29 rfl w.heap.size 9 i0 (.string ByteArray.empty) 1 16 Try.underlying29 hi hz0 hz1 hz2 rfl (by decide) _ _ _ rfl (hrow.alloc _) ⟨w1.heap.size, 0, none⟩ 1 1 [.string c] rfl rfl (cell_one_new _ _ _) (by simp [Value.oneCell']) (by unfold maxLen; omega) (by omega) (by have := hB.size; simp; omega) ?_; intro v' w2 hown' hgrow _; obtain ⟨g', cap', rfl⟩ := ownsRow_succ hown')
      have hb2 : Below w.heap.size w w2 := (hB.alloc hB.size _).grown hgrow (by have := hB.size; simp; omega) (fun k e => (hrow.lt k e).1)
      have hkl := HK.out
      refine ⟨⟨rb ++ fr, ys ++ [c], some ⟨g', 0, none⟩, cap', k + 1, rfl, by simp, by go_num, by omega, by simp; omega, Lib.hid (by simp [hkl]), hz4, Lib.hid { short := ?_, row := HF2.out, own := by simpa using hown', below := hb2 }⟩, ?_⟩
      · intro z hz
        rw [List.map_append, List.map_singleton] at hz
        rcases List.mem_append.1 hz with hz | hz
        · exact H1.out.short z hz
        · rw [List.mem_singleton.1 hz, ba_len]; omega
      · simp [intOf]; omega
    · have hN : (rb ++ c2).data.toList = framesF (ys.map (·.data.toList)) ++ c2.data.toList := by rw [ba_append, HI.out.row]
      have hNs : (rb ++ c2).size ≤ 1000000 := by rw [← ba_len, ba_append, List.length_append, ba_len, ba_len]; omega
      have HC : Hid (∀ W, Calls Try.prog 14 #[.string (rb ++ c2)] W fun e w' => ∃ (a : Option Addr) (cap : Nat) (zs : List ByteArray) (n : Nat), (rb.size ≤ n ∧ n ≤ 1000000 ∧ zs.length ≤ 1000000) ∧ e = .returned (.tuple #[.slice a (ys.length + zs.length) cap, .int .i64 (n : Nat)]) ∧ Reads w' a cap ys ∧ Below W.heap.size W w' ∧ ys.length + zs.length ≤ cap ∧ ((a = none ∧ cap = 0 ∧ ys = [] ∧ zs = []) ∨ (cap ≤ maxLen ∧ ∃ g, a = some ⟨g, 0, none⟩))) := Lib.hid (fun W => by
        refine (scan_reads2 (rb ++ c2) W hNs).mono fun e w' h => ?_
        obtain ⟨a, cap, us, n, hS, he, hr, hb, hA⟩ := h
        have hlen := hS.pre.length_le
        rw [← hS.at_, ba_len] at hlen
        have hul := framesF_len (us.map (·.data.toList))
        rw [← hS.at_, List.length_map] at hul
        rw [hN] at hS
        obtain ⟨bs', n', h1, h2, -⟩ := scanned_rows _ _ _ _ HI.out.short hS
        have h3 : us = ys ++ us.drop ys.length := by
          have e1 : us.take ys.length = ys := by
            apply map_list_inj
            rw [List.map_take, h1]
            exact List.take_left' (List.length_map _)
          conv => lhs; rw [← List.take_append_drop ys.length us, e1]
        have h4 : us.length = ys.length + (us.drop ys.length).length := by
          have := congrArg List.length h3
          rw [List.length_append] at this
          exact this
        refine ⟨a, cap, us.drop ys.length, n, ⟨?_, by omega, by omega⟩, by rw [he, h4], Reads.take (ys := us.drop ys.length) (by rw [← h3]; exact hr), hb, by rw [← h4]; exact hr.1, ?_⟩
        · rw [← ba_len, HI.out.row]; omega
        · rcases hA with ⟨h5, h6, h7⟩ | h5
          · subst h7
            have h8 : ys = [] := List.length_eq_zero_iff.1 (by simp at h4; omega)
            exact .inl ⟨h5, h6, h8, by simp⟩
          · exact .inr h5)
      obtain ⟨pa', pcap', hpe, hPR⟩ := reads_of_owns HI.out.own
      obtain ⟨h5, -, h6⟩ := Value.slice.inj hpe
      subst h5 h6
      have HPR := Lib.hid hPR
      have HB := Lib.hid HI.out.below
      clear hN hNs hpe hPR HI
      have hstop : ¬ (k < xs.length) ∨ (k < xs.length ∧ 20 ≤ k) ∨ (k < xs.length ∧ k < 20 ∧ 20000 < rb.size) := by omega
      clear hgo
      rcases hstop with hst | ⟨hst, hst2⟩ | ⟨hst, hst2, hst3⟩
      · go_wp2_with fail
        refine (HM.out _).mono ?_
        rintro e w1 ⟨rfl, rfl⟩
        go_wp2_with fail
        refine (HC.out _).mono ?_
        rintro e w2 ⟨a3, cap3, zs, n, ⟨hn1, hn2, hzl⟩, rfl, hR3, hb3, hcap3, hA⟩
        have HL := Lib.hid (like_any w2 a3 pa cap3 pcap ys (by omega) hR3 (HPR.out.below hb3))
        have HB3 : Hid (Below w.heap.size w w2) := Lib.hid (HB.out.trans (hb3.mono HB.out.size))
        clear hR3 hb3
        go_wp2_with fail
        refine (sumA_any _).mono ?_
        rintro e w3 ⟨rfl, rfl⟩
        rcases hA with ⟨rfl, rfl, rfl, rfl⟩ | ⟨hcm, g3, rfl⟩
        · go_wp2_with fail
          refine HL.out.mono ?_
          rintro e w4 ⟨rfl, m, rfl⟩
          go_wp2
          go_ret
          exact ⟨rfl, below_drewN HB3.out m⟩
        · unfold maxLen at hcm
          go_wp2_with fail
          refine HL.out.mono ?_
          rintro e w4 ⟨rfl, m, rfl⟩
          go_wp2
          go_ret
          exact ⟨rfl, below_drewN HB3.out m⟩
      · have hne : xs ≠ [] := by intro h; subst h; simp at hst
        obtain ⟨b, off, rfl, hb, hcl⟩ := HIn.out hne
        have hcell : wr.cell? ⟨b, off + k, none⟩ = some (.string xs[k]) := (HB.out.cell (p := ⟨b, off + k, none⟩) hb).trans (hcl k hst)
        clear hcl hne
        generalize xs[k] = x at *
        go_wp2_with fail
        refine (HM.out _).mono ?_
        rintro e w1 ⟨rfl, rfl⟩
        go_wp2_with fail
        refine (HC.out _).mono ?_
        rintro e w2 ⟨a3, cap3, zs, n, ⟨hn1, hn2, hzl⟩, rfl, hR3, hb3, hcap3, hA⟩
        have HL := Lib.hid (like_any w2 a3 pa cap3 pcap ys (by omega) hR3 (HPR.out.below hb3))
        have HB3 : Hid (Below w.heap.size w w2) := Lib.hid (HB.out.trans (hb3.mono HB.out.size))
        clear hR3 hb3
        go_wp2_with fail
        refine (sumA_any _).mono ?_
        rintro e w3 ⟨rfl, rfl⟩
        rcases hA with ⟨rfl, rfl, rfl, rfl⟩ | ⟨hcm, g3, rfl⟩
        · go_wp2_with fail
          refine HL.out.mono ?_
          rintro e w4 ⟨rfl, m, rfl⟩
          go_wp2
          go_ret
          exact ⟨rfl, below_drewN HB3.out m⟩
        · unfold maxLen at hcm
          go_wp2_with fail
          refine HL.out.mono ?_
          rintro e w4 ⟨rfl, m, rfl⟩
          go_wp2
          go_ret
          exact ⟨rfl, below_drewN HB3.out m⟩
      · have hne : xs ≠ [] := by intro h; subst h; simp at hst
        obtain ⟨b, off, rfl, hb, hcl⟩ := HIn.out hne
        have hcell : wr.cell? ⟨b, off + k, none⟩ = some (.string xs[k]) := (HB.out.cell (p := ⟨b, off + k, none⟩) hb).trans (hcl k hst)
        clear hcl hne
        generalize xs[k] = x at *
        go_wp2_with fail
        refine (HM.out _).mono ?_
        rintro e w1 ⟨rfl, rfl⟩
        go_wp2_with fail
        refine (HC.out _).mono ?_
        rintro e w2 ⟨a3, cap3, zs, n, ⟨hn1, hn2, hzl⟩, rfl, hR3, hb3, hcap3, hA⟩
        have HL := Lib.hid (like_any w2 a3 pa cap3 pcap ys (by omega) hR3 (HPR.out.below hb3))
        have HB3 : Hid (Below w.heap.size w w2) := Lib.hid (HB.out.trans (hb3.mono HB.out.size))
        clear hR3 hb3
        go_wp2_with fail
        refine (sumA_any _).mono ?_
        rintro e w3 ⟨rfl, rfl⟩
        rcases hA with ⟨rfl, rfl, rfl, rfl⟩ | ⟨hcm, g3, rfl⟩
        · go_wp2_with fail
          refine HL.out.mono ?_
          rintro e w4 ⟨rfl, m, rfl⟩
          go_wp2
          go_ret
          exact ⟨rfl, below_drewN HB3.out m⟩
        · unfold maxLen at hcm
          go_wp2_with fail
          refine HL.out.mono ?_
          rintro e w4 ⟨rfl, m, rfl⟩
          go_wp2
          go_ret
          exact ⟨rfl, below_drewN HB3.out m⟩

theorem rows_any (w : World) (a : Option Addr) (cap : Nat) (xs : List ByteArray) (more : ByteArray) (hxl : xs.length ≤ 9223372036854775807) (hxs : ∀ x, x ∈ xs → x.size ≤ 9223372036854775807) (hIn : InS w a xs) (h0 : more.size ≤ 140737488351232) :
    Calls Try.prog 5 #[.slice a xs.length cap, .string more] w fun e w' => e = .returned (.bool true) ∧ Below w.heap.size w w' :=
  rows_walk w a cap xs more (cutS more) hxl hxs hIn (fun W => short_any more W h0) (cut_size more)
end Go.Proofs.Ytljbbhbebplknaa
