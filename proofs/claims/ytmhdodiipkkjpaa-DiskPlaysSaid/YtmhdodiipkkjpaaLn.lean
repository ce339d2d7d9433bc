/- DiskRenames: what the calls make, one behind the other. -/
import Derived.Test.YtmhdodiipkkjpaaLr
namespace Go.Proofs.Ytmhdodiipkkjpaa.Dk
open Go.RowKit

theorem nil_nil (m : BA) : noB ++ (noB ++ m) = m := by rw [nil_app, nil_app]
theorem left_neg {d : Dsk} (h : RgtD d) (hl : d.left < 0) : d.left = -1 := by have := lfB_iff.1 h.left; omega
/-- A file is written anew. -/
theorem wr_new {d : Dsk} {n m : BA} (hR : RgtD d) (hd : d.down = false) (hl : d.left < 0) (hf : findF d.fs n = none) :
    (∃ A k, writeF d n m = (A, k) ∧ (k = 1 ∨ k = 130)) ∨ (∃ A, writeF d n m = (A, 0) ∧ nmB n = true ∧ RgtD A ∧ A.down = false ∧ A.left < 0 ∧ findF A.fs n = some ⟨n, noB, m⟩) := by
  have hw := @write_right d n m
  cases hn : nmB n with
  | false =>
    have he : findE d [n] n = .error 1 := by unfold findE; rw [if_neg (fun k => by have := k.2; rw [nms_one, hn] at this; cases this)]
    refine .inl ⟨zeroD, 1, ?_, .inl rfl⟩
    unfold writeF
    rw [he]
    simp
  | true =>
    have he : findE d [n] n = .error 60 := findE_no hR (by rw [nms_one]; exact hn) hd hf
    by_cases h8 : d.fs.length < 8
    · have hE : writeF d n m = putF d ⟨n, noB, noB⟩ m := by
        unfold writeF; rw [he]; simp [h8]
      by_cases hz : d.room - sizF d.fs < m.size
      · exact .inl ⟨zeroD, 130, by rw [hE, put_long hz], .inr rfl⟩
      · rw [put_ok hz, exe_stay hl] at hE
        rw [hE] at hw
        refine .inr ⟨_, hE, rfl, hw, hd, hl, ?_⟩
        show findF (withF d.fs ⟨n, noB, noB ++ m⟩) n = _
        rw [find_with, if_pos rfl, nil_app]
    · refine .inl ⟨zeroD, 130, ?_, .inr rfl⟩
      unfold writeF
      rw [he]
      simp [h8]
/-- It is synced. -/
theorem sy_new {d : Dsk} {n m : BA} (hR : RgtD d) (hn : nmB n = true) (hd : d.down = false) (hl : d.left < 0) (hf : findF d.fs n = some ⟨n, noB, m⟩) :
    ∃ B, syncF d n = (B, 0) ∧ RgtD B ∧ B.down = false ∧ B.left < 0 ∧ findF B.fs n = some ⟨n, m, noB⟩ := by
  have hw := @sync_right d n
  have hE : syncF d n = exeF d (withF d.fs ⟨n, noB ++ m, noB⟩) d.fs := by
    unfold syncF; rw [findE_yes hR (by rw [nms_one]; exact hn) hd hf]
  rw [exe_stay hl] at hE
  rw [hE] at hw
  refine ⟨_, hE, hw, hd, hl, ?_⟩
  show findF (withF d.fs ⟨n, noB ++ m, noB⟩) n = _
  rw [find_with, if_pos rfl, nil_app]
/-- The power is to go. -/
theorem cut_new {d : Dsk} {n m : BA} (hR : RgtD d) (hd : d.down = false) (hf : findF d.fs n = some ⟨n, m, noB⟩) :
    ∃ C, cutF d 0 = (C, 0) ∧ RgtD C ∧ C.down = false ∧ C.left = 0 ∧ findF C.fs n = some ⟨n, m, noB⟩ := by
  have hw := @cut_right d 0
  have hE := cut_up hR (by omega : (-1 : Int) ≤ 0 ∧ (0 : Int) ≤ 1073741824) hd
  rw [hE] at hw
  exact ⟨_, hE, hw, hd, rfl, hf⟩
/-- No new name. -/
theorem ren_bad {d : Dsk} {n t : BA} (ht : nmB t = false) : ∃ R, renF d n t = (R, 1) := by
  refine ⟨zeroD, ?_⟩
  unfold renF findE
  rw [if_neg (fun k => by have := k.2; rw [nms_two, ht, Bool.and_false] at this; cases this)]
/-- It is renamed, or the power goes. -/
theorem ren_off {d : Dsk} {n t m : BA} (hR : RgtD d) (hn : nmB n = true) (ht : nmB t = true) (hd : d.down = false) (hl : d.left = 0) (hf : findF d.fs n = some ⟨n, m, noB⟩) :
    ∃ R, renF d n t = (R, 132) ∧ RgtD R ∧ findF R.fs n = some ⟨n, m, noB⟩ := by
  have hw := @ren_right d n t
  have hE : renF d n t = exeF d (withF (outF d.fs n) ⟨t, m, noB⟩) d.fs := by
    unfold renF; rw [findE_yes hR (by rw [nms_two, hn, ht]; rfl) hd hf]; rfl
  rw [exe_off hl] at hE
  rw [hE] at hw
  exact ⟨_, hE, hw, hf⟩
theorem ren_on {d : Dsk} {n t m : BA} (hR : RgtD d) (hn : nmB n = true) (ht : nmB t = true) (hne : n ≠ t) (hd : d.down = false) (hl : d.left < 0) (hf : findF d.fs n = some ⟨n, m, noB⟩) :
    ∃ R, renF d n t = (R, 0) ∧ RgtD R ∧ findF R.fs t = some ⟨t, m, noB⟩ ∧ findF R.fs n = none := by
  have hw := @ren_right d n t
  have hE : renF d n t = exeF d (withF (outF d.fs n) ⟨t, m, noB⟩) d.fs := by
    unfold renF; rw [findE_yes hR (by rw [nms_two, hn, ht]; rfl) hd hf]; rfl
  rw [exe_stay hl] at hE
  rw [hE] at hw
  refine ⟨_, hE, hw, ?_, ?_⟩
  · show findF (withF (outF d.fs n) ⟨t, m, noB⟩) t = _
    rw [find_with, if_pos rfl]
  · show findF (withF (outF d.fs n) ⟨t, m, noB⟩) n = _
    rw [find_with, if_neg (fun h => hne h.symm), find_out, if_pos rfl]
/-- Behind a crash. -/
theorem cr_new {d : Dsk} {n m : BA} (keep : List Int) (hR : RgtD d) (hn : nmB n = true) (hf : findF d.fs n = some ⟨n, m, noB⟩) :
    ∃ X, crashF d keep = (X, 0) ∧ RgtD X ∧ readF X n = (m, 0) ∧ ∀ s, nmB s = true → findF d.fs s = none → readF X s = (noB, 60) := by
  have hw := @crash_right d keep
  have hE := crash_yes (keep := keep) hR
  rw [hE] at hw
  refine ⟨_, hE, hw, ?_, fun s hs hfs => read_none hw hs rfl (find_crs_none hfs)⟩
  obtain ⟨i, -, h2⟩ := find_crs (keep := keep) hR.fs.srt hR.fs hf
  have h3 := read_up hw hn rfl h2
  rw [h3]
  show ((m ++ ByteArray.extract noB 0 _) ++ noB, 0) = _
  rw [nil_ext, app_nil, app_nil]
end Go.Proofs.Ytmhdodiipkkjpaa.Dk
