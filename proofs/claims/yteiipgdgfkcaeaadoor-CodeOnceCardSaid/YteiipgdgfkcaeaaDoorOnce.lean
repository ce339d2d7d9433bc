/- The statement CodeOnce: the walk of its function. -/
import Derived.Test.YteiipgdgfkcaeaaDoorSound
import Derived.Test.YteiipgdgfkcaeaaDoorPut
namespace Go.Proofs.YteiipgdgfkcaeaaDoor
open Go.RowKit

theorem enc_seven : enc (.num 7) = [105, 55, 101] := by
  rw [enc, Lib.itoa, if_neg (by omega), show (7 : Int).toNat = 7 from rfl, decDigits_small (by omega)]
  rfl

set_option maxHeartbeats 800000 in
set_option maxRecDepth 100000 in
theorem alive_any (w : World) (htab : Lib.TabIs Tryd.prog w "internal/strconv.uint64pow10" .u64 Lib.pow10Tab) :
    Calls Tryd.prog 8 #[] w fun e w' => e = .returned (.bool true) ∧ Below w.heap.size w w' := by
  have HP : Hid (Calls Tryd.prog 9 #[numV 7] w fun e w' => e = .returned (.tuple #[.string ⟨#[105, 55, 101]⟩, .int .i64 0]) ∧ Below w.heap.size w w') := Lib.hid (by
    have := put_any (t := .num 7) (v := numV 7) (w := w) (by rw [Rep]) (by rw [Ok]; omega) (by rw [Lev]; omega) (by rw [nodes]; omega) (by rw [enc_seven]; simp) htab
    unfold PutOK at this
    rw [enc_seven] at this
    exact this)
  clear htab
  go_enter Tryd.func8, Tryd.ntmps8
  go_wp2_with fail
  refine HP.out.mono ?_
  rintro e w1 ⟨rfl, hb⟩
  have HB := Lib.hid hb
  clear hb
  go_wp2
  go_ret
  exact ⟨by simp, HB.out⟩

set_option maxHeartbeats 800000 in
set_option maxRecDepth 100000 in
theorem like_zero (w : World) : Calls Tryd.prog 7 #[zeroV, zeroV] w fun e w' => e = .returned (.bool true) ∧ Below w.heap.size w w' := by
  go_enter Tryd.func7, Tryd.ntmps7
  go_wp2
  refine wp_loop_rounds 1 ?_
  rw [rounds_succ]
  go_wp2
  go_ret
  exact ⟨rfl, (below1 _ _).alloc (by simp) _⟩

set_option maxHeartbeats 1600000 in
set_option maxRecDepth 100000 in
theorem once_any (s : ByteArray) (w : World) (hs : s.size ≤ 140737488351232) (htab : Lib.TabIs Tryd.prog w "internal/strconv.uint64pow10" .u64 Lib.pow10Tab) :
    Calls Tryd.prog 4 #[.string s] w fun e w' => e = .returned (.bool true) ∧ Below w.heap.size w w' := by
  have HA := Lib.hid (alive_any w htab)
  have HT := Lib.hid htab
  have HG := Lib.hid (fun W => get_any s W hs)
  clear htab
  go_enter Tryd.func4, Tryd.ntmps4
  go_wp2_with fail
  refine HA.out.mono ?_
  rintro e w1 ⟨rfl, hb1⟩
  have HB1 := Lib.hid hb1
  clear hb1
  go_wp2_with fail
  refine (HG.out _).mono ?_
  intro e w2 hp
  rcases hr : getF s.data.toList with ⟨t, k⟩ | ⟨er, k⟩
  · obtain ⟨rfl, henc, hlen, hn, hlev, hok⟩ := getF_sound hr
    rw [hr] at hp
    obtain ⟨⟨v, rfl, hrep⟩, hb2⟩ := hp
    obtain ⟨kd, n0, b0, a, len, cap, rfl⟩ := Rep.cells t v hrep
    have HP : Hid (Calls Tryd.prog 9 #[.agg #[.int .i64 kd, .int .i64 n0, .string b0, .slice a len cap]] (w2.alloc (.cells #[.int .i64 kd, .int .i64 n0, .string b0, .slice a len cap] 24)) fun e w' => e = .returned (.tuple #[.string s, .int .i64 0]) ∧ Below w.heap.size w w') := Lib.hid (by
      have hbw : Below w.heap.size w (w2.alloc (.cells #[.int .i64 kd, .int .i64 n0, .string b0, .slice a len cap] 24)) := (HB1.out.trans (hb2.mono HB1.out.size)).alloc (by have := hb2.size; have := HB1.out.size; omega) _
      have := put_any (t := t) (w := w2.alloc (.cells #[.int .i64 kd, .int .i64 n0, .string b0, .slice a len cap] 24)) ((Rep.s24 _ _ hrep).k24 ((K24.refl _).alloc _)) hok hlev hn (by rw [henc]; exact hlen) (Lib.tabBelow_of_tabIs HT.out _ hbw)
      unfold PutOK at this
      rw [henc] at this
      exact this.mono fun _ _ ⟨he, hb⟩ => ⟨he, hbw.trans (hb.mono hbw.size)⟩)
    clear hr henc hlen hn hlev hok hrep hb2
    go_wp2_with fail
    refine HP.out.mono ?_
    rintro e w3 ⟨rfl, hb3⟩
    have HB3 := Lib.hid hb3
    clear hb3
    go_wp2
    go_ret
    exact ⟨by simp, HB3.out⟩
  · obtain ⟨hk, hne⟩ := getF_bad hr
    rw [hr] at hp
    obtain ⟨rfl, hb2⟩ := hp
    have hE : ((er : Int) != 0) = true := by simp; omega
    have hsz : s.data.toList.length = s.size := by simp
    rw [hsz] at hk
    have HB2 := Lib.hid (HB1.out.trans (hb2.mono HB1.out.size))
    have HZ := Lib.hid hb2.size
    clear hr hb2 hne hsz
    go_wp2_with fail
    refine (like_zero _).mono ?_
    rintro e w3 ⟨rfl, hb3⟩
    have HB3 : Hid (Below w.heap.size w w3) := Lib.hid ((HB2.out.alloc HB2.out.size _).trans (hb3.mono (by have := HB2.out.size; simp; omega)))
    clear hb3
    go_wp2
    go_ret
    exact ⟨rfl, HB3.out⟩

end Go.Proofs.YteiipgdgfkcaeaaDoor
