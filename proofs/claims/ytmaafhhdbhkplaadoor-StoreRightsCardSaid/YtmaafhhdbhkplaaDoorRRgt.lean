/- The document's Right. -/
import Derived.Test.YtmaafhhdbhkplaaDoorRgt
import Derived.Deep.QuietTactic
import Derived.BigQuiet
namespace Go.Proofs.YtmaafhhdbhkplaaDoor
open Go.RowKit

theorem RPost.yes' {b : Bool} {xs : List Itm} {w w' : World} (hb' : b = true) (h : Rgt xs) (hb : Below w.heap.size w w') : RPost xs w (.returned (.bool b)) w' := by subst hb'; exact RPost.yes h hb
theorem RPost.no' {b : Bool} {xs : List Itm} {w w' : World} (hb' : b = false) (h : ¬ Rgt xs) (hb : Below w.heap.size w w') : RPost xs w (.returned (.bool b)) w' := by subst hb'; exact RPost.no h hb

set_option maxHeartbeats 3200000 in
set_option maxRecDepth 100000 in
theorem rright_any (w : World) (a : Option Addr) (cap : Nat) (xs : List Itm) (hxl : xs.length ≤ 9223372036854775807) (hz : Szs xs) (hIn : InI w a xs) :
    Calls Tryd.prog 8 #[.agg #[.slice a xs.length cap]] w (RPost xs w) := by
  have HIN := Lib.hid hIn
  have HZ := Lib.hid hz
  clear hIn hz
  go_enter Tryd.func8, Tryd.ntmps8
  go_wp2
  go_loopw [8] (fun i wr => ∃ k : Nat, k ≤ xs.length ∧ i = .int .i64 k ∧ Hid (∀ j, j < k → OkAt xs j) ∧ Hid (Below (w.heap.size + 1) (w.alloc (.cells #[.slice a xs.length cap] 24)) wr)) (fun i _ => xs.length - (intOf i).toNat)
  case atStart => exact ⟨0, by omega, rfl, Lib.hid (fun j hj => by omega), Lib.hid (Below.refl _ _)⟩
  case round =>
    obtain ⟨k, hk, rfl, HA, HB⟩ := hrel
    obtain ⟨hcs, hInr, hszr, hbr⟩ := env_of HIN.out HB.out
    have HIR := Lib.hid hInr
    have HBR := Lib.hid hbr
    clear hInr hbr
    by_cases hlt : k < xs.length
    · obtain ⟨x, hx⟩ : ∃ x, xs[k]? = some x := ⟨_, List.getElem?_eq_getElem hlt⟩
      obtain ⟨b, off, rfl, hbl, h0, h1, h2⟩ := HIR.out.at_ hx
      obtain ⟨hzk, hzb⟩ := HZ.out k x hx
      have HX := Lib.hid hx
      clear hx
      by_cases hS : Snd x
      · by_cases hk0 : 0 < k
        · obtain ⟨q, HQ⟩ : ∃ q, Hid (k = q + 1) := ⟨k - 1, Lib.hid (by omega)⟩
          obtain ⟨y, hy⟩ : ∃ y, xs[q]? = some y := ⟨_, List.getElem?_eq_getElem (by have := HQ.out; omega)⟩
          obtain ⟨b', off', hab, -, hp0, -⟩ := HIR.out.at_ hy
          obtain ⟨rfl, rfl⟩ : b = b' ∧ off = off' := by simpa using hab
          clear hab
          have hgt : decide (0 < k) = true := by simpa using hk0
          have hq0 : (0 : Int) ≤ (q : Int) := by omega
          have hq1 : (q : Int) < (xs.length : Int) := by have := HQ.out; omega
          have hqw : IntKind.i64.wrap ((k : Int) - 1) = (q : Int) := by rw [IntWalk.i64_in _ (by omega)]; have := HQ.out; omega
          have HY := Lib.hid hy
          clear hy
          obtain ⟨pk, pb, pr⟩ := y
          simp only at hp0
          by_cases hlow : ltB pk x.k = true
          · have HA2 : Hid (∀ j, j < k + 1 → OkAt xs j) := Lib.hid (fun j hj => by
              by_cases hjk : j < k
              · exact HA.out j hjk
              · obtain rfl : j = k := by omega
                intro z hz
                rw [HX.out] at hz
                obtain rfl := Option.some.inj hz
                refine ⟨hS, fun z2 _ hz2 => ?_⟩
                rw [HQ.out, Nat.add_sub_cancel, HY.out] at hz2
                obtain rfl := Option.some.inj hz2
                exact hlow)
            have hle1 : Op.bytesLess x.k.toList pk.toList = false := by
              cases h : Op.bytesLess x.k.toList pk.toList with
              | false => rfl
              | true => have := ltB_trans hlow h; rw [ltB_irr] at this; cases this
            have hle2 : (x.k.toList == pk.toList) = false := by
              rw [beq_eq_false_iff_ne]
              intro h
              rw [BA.ext' h, ltB_irr] at hlow; cases hlow
            have HSS := Lib.hid hS
            have hs1 := HSS.out.k
            have hs2 := HSS.out.b1
            have hs3 := HSS.out.b2
            have hs4 := HSS.out.r1
            have hs5 := HSS.out.r2
            clear hS hlow
            obtain ⟨kk, bb, rr⟩ := x
            simp only at h0 h1 h2 hzk hzb hs1 hs2 hs3 hs4 hs5 hle1 hle2
            have c1 : ((kk.size : Int) != 32) = false := by rw [bne_eq_false_iff_eq]; omega
            have c2 : decide (bb.size < 1) = false := decide_eq_false (by omega)
            have c3 : decide (512 < bb.size) = false := decide_eq_false (by omega)
            have c4 : decide (rr < 0) = false := decide_eq_false (by omega)
            have c5 : decide (1073741824 < rr) = false := decide_eq_false (by omega)
            have bc := alloc_cells3 wr (.string kk) (.string bb) (.int .i64 rr) 29
            have HW1 : Hid (Below wr.heap.size wr (wr.alloc (.cells #[.string kk, .string bb, .int .i64 rr] 29))) := Lib.hid (below1 _ _)
            have hcs1 := (Below.cell (below1 wr (.cells #[.string kk, .string bb, .int .i64 rr] 29)) (p := ⟨w.heap.size, 0, none⟩) hszr).trans hcs
            have hp1 := (Below.cell (below1 wr (.cells #[.string kk, .string bb, .int .i64 rr] 29)) (p := ⟨b, off + q * 3, none⟩) hbl).trans hp0
            obtain ⟨d0, d1, d2⟩ := bc
            clear hs1
            go_wp2
            generalize wr.alloc (.cells #[.string kk, .string bb, .int .i64 rr] 29) = W1 at *
            go_quiet (fail)
            go_wp2
            go_roundw
            case rel => exact ⟨k + 1, by omega, by go_num, HA2, Lib.hid (HB.out.trans ((below_drewN HW1.out _).mono hszr))⟩
            case measure => simp [intOf]; omega
          · have HN : Hid (¬ Rgt xs) := Lib.hid (fun h => hlow (h.lt HY.out HX.out (by have := HQ.out; omega)))
            have hle : (Op.bytesLess x.k.toList pk.toList || x.k.toList == pk.toList) = true := by
              cases h : Op.bytesLess x.k.toList pk.toList with
              | true => rfl
              | false =>
                have h2 : ltB pk x.k = false := by simpa using hlow
                rw [ltB_tri (a := x.k) (b := pk) h h2]; simp
            have HSS := Lib.hid hS
            have hs1 := HSS.out.k
            have hs2 := HSS.out.b1
            have hs3 := HSS.out.b2
            have hs4 := HSS.out.r1
            have hs5 := HSS.out.r2
            clear hS hlow
            obtain ⟨kk, bb, rr⟩ := x
            simp only at h0 h1 h2 hzk hzb hs1 hs2 hs3 hs4 hs5 hle
            have c1 : ((kk.size : Int) != 32) = false := by rw [bne_eq_false_iff_eq]; omega
            have c2 : decide (bb.size < 1) = false := decide_eq_false (by omega)
            have c3 : decide (512 < bb.size) = false := decide_eq_false (by omega)
            have c4 : decide (rr < 0) = false := decide_eq_false (by omega)
            have c5 : decide (1073741824 < rr) = false := decide_eq_false (by omega)
            have bc := alloc_cells3 wr (.string kk) (.string bb) (.int .i64 rr) 29
            have HW1 : Hid (Below wr.heap.size wr (wr.alloc (.cells #[.string kk, .string bb, .int .i64 rr] 29))) := Lib.hid (below1 _ _)
            have hcs1 := (Below.cell (below1 wr (.cells #[.string kk, .string bb, .int .i64 rr] 29)) (p := ⟨w.heap.size, 0, none⟩) hszr).trans hcs
            have hp1 := (Below.cell (below1 wr (.cells #[.string kk, .string bb, .int .i64 rr] 29)) (p := ⟨b, off + q * 3, none⟩) hbl).trans hp0
            obtain ⟨d0, d1, d2⟩ := bc
            clear hs1
            go_wp2
            generalize wr.alloc (.cells #[.string kk, .string bb, .int .i64 rr] 29) = W1 at *
            go_quiet (fail)
            go_wp2
            go_ret
            exact RPost.no HN.out (below_trans HBR.out (below_drewN HW1.out _))
        · have hgt : decide (0 < k) = false := by simpa using hk0
          have HA2 : Hid (∀ j, j < k + 1 → OkAt xs j) := Lib.hid (fun j hj => by
            obtain rfl : j = k := by omega
            intro y hy
            rw [HX.out] at hy
            obtain rfl := Option.some.inj hy
            exact ⟨hS, fun z hz => by omega⟩)
          have HSS := Lib.hid hS
          have hs1 := HSS.out.k
          have hs2 := HSS.out.b1
          have hs3 := HSS.out.b2
          have hs4 := HSS.out.r1
          have hs5 := HSS.out.r2
          clear hS
          obtain ⟨kk, bb, rr⟩ := x
          simp only at h0 h1 h2 hzk hzb hs1 hs2 hs3 hs4 hs5
          have c1 : ((kk.size : Int) != 32) = false := by rw [bne_eq_false_iff_eq]; omega
          have c2 : decide (bb.size < 1) = false := decide_eq_false (by omega)
          have c3 : decide (512 < bb.size) = false := decide_eq_false (by omega)
          have c4 : decide (rr < 0) = false := decide_eq_false (by omega)
          have c5 : decide (1073741824 < rr) = false := decide_eq_false (by omega)
          have bc := alloc_cells3 wr (.string kk) (.string bb) (.int .i64 rr) 29
          have HW1 : Hid (Below wr.heap.size wr (wr.alloc (.cells #[.string kk, .string bb, .int .i64 rr] 29))) := Lib.hid (below1 _ _)
          obtain ⟨d0, d1, d2⟩ := bc
          clear hs1
          go_wp2
          generalize wr.alloc (.cells #[.string kk, .string bb, .int .i64 rr] 29) = W1 at *
          go_quiet (fail)
          go_wp2
          go_roundw
          case rel => exact ⟨k + 1, by omega, by go_num, HA2, Lib.hid (HB.out.trans ((below_drewN HW1.out _).mono hszr))⟩
          case measure => simp [intOf]; omega
      · have HN : Hid (¬ Rgt xs) := Lib.hid (fun h => hS (h.snd HX.out))
        have HS := Lib.hid hS
        clear hS
        obtain ⟨kk, bb, rr⟩ := x
        simp only at h0 h1 h2 hzk hzb
        go_wp2
        all_goals first
          | (go_ret; exact RPost.no HN.out (below_trans HBR.out (below1 _ _)))
          | (exfalso; exact HS.out ⟨by simp only; omega, by simp only; omega, by simp only; omega, by simp only; omega, by simp only; omega⟩)
    · by_cases h4 : xs.length ≤ 4096
      · have HR : Hid (Rgt xs) := Lib.hid ⟨h4, fun j hj => HA.out j (by omega)⟩
        go_wp2
        go_ret
        exact RPost.yes' (b := decide ((xs.length : Int) ≤ 4096)) (by simp; omega) HR.out HBR.out
      · have HN : Hid (¬ Rgt xs) := Lib.hid (fun h => h4 h.1)
        go_wp2
        go_ret
        exact RPost.no' (b := decide ((xs.length : Int) ≤ 4096)) (by simp; omega) HN.out HBR.out
end Go.Proofs.YtmaafhhdbhkplaaDoor
