/- DiskReads: what is no disk. -/
import Derived.Test.YtmhdodiipkkjpaaLr
namespace Go.Proofs.Ytmhdodiipkkjpaa.Dk
open Go.RowKit

set_option maxHeartbeats 6400000 in
set_option maxRecDepth 100000 in
theorem lreads_no (w : World) (d : Dsk) (a : Option Addr) (cap : Nat) (ak : Option Addr) (ck : Nat) (n : BA) (left : Int) (keep : List Int) (h : DAt w d a cap) (hn : n.size ≤ 140737488351232) (hk : SlI w (Old w) (.slice ak keep.length ck) keep) (hw : ∀ n, n ∈ keep → I64 n) (hR : ¬ RgtD d) :
    Calls Try.prog 4 #[diV d (.slice a d.fs.length cap), .string n, .int .i64 left, .slice ak keep.length ck] w fun e w' => e = .returned (.bool true) ∧ Below w.heap.size w w' := by
  have HCR := Lib.hid (fun W (hb : Below w.heap.size w W) => crashbad_any W d a cap ak ck keep (h.old hb) (hk.old hb) hw hR)
  have HCU := Lib.hid (fun W (hb : Below w.heap.size w W) => cutbad_any W d a cap left (h.old hb) hR)
  have HRE := Lib.hid (fun W (hb : Below w.heap.size w W) => read_any W d a cap n (h.old hb) hn)
  have HRR := Lib.hid (fun W (hb : Below w.heap.size w W) => rright_any W d a cap (h.old hb))
  have HAL := Lib.hid (fun W => alive_any W)
  rw [read_bad hR] at HRE
  have HNR := Lib.hid hR
  clear h hk hw hR
  obtain ⟨rm, fs, lf, dn⟩ := d
  obtain ⟨L, HL⟩ : ∃ L, Hid (L = fs.length) := ⟨_, Lib.hid rfl⟩
  obtain ⟨M, HM⟩ : ∃ L, Hid (L = keep.length) := ⟨_, Lib.hid rfl⟩
  simp only at HCR HCU HRE HRR HNR ⊢
  rw [← HL.out] at HCR HCU HRE HRR ⊢
  rw [← HM.out] at HCR ⊢
  have HRD := Lib.hid (row_new w #[.int .i64 rm, .slice a L cap, .int .i64 lf, .bool dn] 24)
  have HB1 := Lib.hid (below1 w (.cells #[.int .i64 rm, .slice a L cap, .int .i64 lf, .bool dn] 24))
  have r0 := HRD.out.cell (i := 0) rfl
  have r1 := HRD.out.cell (i := 1) rfl
  have r2 := HRD.out.cell (i := 2) rfl
  have r3 := HRD.out.cell (i := 3) rfl
  go_enter Try.func4, Try.ntmps4
  go_wp2_with fail
  generalize hW1 : w.alloc (.cells #[.int .i64 rm, .slice a L cap, .int .i64 lf, .bool dn] 24) = W1 at *
  clear hW1
  refine (HRE.out W1 HB1.out).mono ?_
  rintro e w2 ⟨rfl, hb2⟩
  have HB2 := Lib.hid (below_trans HB1.out hb2)
  have HRD2 := Lib.hid (HRD.out.below hb2)
  clear hb2 r0 r1 r2 r3
  have r0 := HRD2.out.cell (i := 0) rfl
  have r1 := HRD2.out.cell (i := 1) rfl
  have r2 := HRD2.out.cell (i := 2) rfl
  have r3 := HRD2.out.cell (i := 3) rfl
  go_wp2_with fail
  refine (HCU.out w2 HB2.out).mono ?_
  rintro e w3 ⟨a3, c3, rfl, hs3, hb3⟩
  clear r0 r1 r2 r3
  have HBx3 := Lib.hid (below_trans hb3 (below1 w3 (.cells #[.int .i64 0, .slice a3 0 c3, .int .i64 0, .bool false] 24)))
  have HB3 := Lib.hid (below_trans HB2.out HBx3.out)
  have HRA : Hid (Row (w3.alloc (.cells #[.int .i64 0, .slice a3 0 c3, .int .i64 0, .bool false] 24)) w3.heap.size 24 [.int .i64 0, .slice a3 0 c3, .int .i64 0, .bool false]) := Lib.hid (row_new w3 #[.int .i64 0, .slice a3 0 c3, .int .i64 0, .bool false] _)
  have HSA := Lib.hid (hs3.old (below1 w3 (.cells #[.int .i64 0, .slice a3 0 c3, .int .i64 0, .bool false] 24)))
  have HRD3 := Lib.hid (HRD2.out.below HBx3.out)
  have r0 := HRD3.out.cell (i := 0) rfl
  have r1 := HRD3.out.cell (i := 1) rfl
  have r2 := HRD3.out.cell (i := 2) rfl
  have r3 := HRD3.out.cell (i := 3) rfl
  clear hs3 hb3
  go_wp2_with fail
  generalize hW4 : w3.alloc (.cells #[.int .i64 0, .slice a3 0 c3, .int .i64 0, .bool false] 24) = w4 at *
  clear hW4 r0 r1 r2 r3
  refine (HCR.out w4 HB3.out).mono ?_
  rintro e w5 ⟨a5, c5, rfl, hs5, hb5⟩
  have HBx5 := Lib.hid (below_trans hb5 (below1 w5 (.cells #[.int .i64 0, .slice a5 0 c5, .int .i64 0, .bool false] 24)))
  have HB5 := Lib.hid (below_trans HB3.out HBx5.out)
  have HRB : Hid (Row (w5.alloc (.cells #[.int .i64 0, .slice a5 0 c5, .int .i64 0, .bool false] 24)) w5.heap.size 24 [.int .i64 0, .slice a5 0 c5, .int .i64 0, .bool false]) := Lib.hid (row_new w5 #[.int .i64 0, .slice a5 0 c5, .int .i64 0, .bool false] _)
  have HSB := Lib.hid (hs5.old (below1 w5 (.cells #[.int .i64 0, .slice a5 0 c5, .int .i64 0, .bool false] 24)))
  have HRD5 := Lib.hid (HRD3.out.below HBx5.out)
  have HRA5 := Lib.hid (HRA.out.below HBx5.out)
  have HSA5 := Lib.hid (HSA.out.old HBx5.out)
  clear hs5 hb5
  have r0 := HRD5.out.cell (i := 0) rfl
  have r1 := HRD5.out.cell (i := 1) rfl
  have r2 := HRD5.out.cell (i := 2) rfl
  have r3 := HRD5.out.cell (i := 3) rfl
  go_wp2_with fail
  generalize hW6 : w5.alloc (.cells #[.int .i64 0, .slice a5 0 c5, .int .i64 0, .bool false] 24) = w6 at *
  clear hW6 r0 r1 r2 r3
  refine (HRR.out w6 HB5.out).mono ?_
  rintro e w7 ⟨q, rfl, hq, hb7⟩
  obtain rfl : q = false := by cases q with | false => rfl | true => exact absurd (hq.1 rfl) HNR.out
  have HRA7 := Lib.hid (HRA5.out.below hb7)
  have HSA7 := Lib.hid (HSA5.out.old hb7)
  have HRB7 := Lib.hid (HRB.out.below hb7)
  have HSB7 := Lib.hid (HSB.out.old hb7)
  have HB7 := Lib.hid (below_trans HB5.out hb7)
  clear hb7 hq
  go_wp2_with fail
  refine (HAL.out w7).mono ?_
  rintro e w8 ⟨rfl, hb8⟩
  have HB8 := Lib.hid (below_trans HB7.out hb8)
  have HRA8 := Lib.hid (HRA7.out.below hb8)
  have HSA8 := Lib.hid (HSA7.out.old hb8)
  have HRB8 := Lib.hid (HRB7.out.below hb8)
  have HSB8 := Lib.hid (HSB7.out.old hb8)
  clear hb8
  have x0 := HRA8.out.cell (i := 0) rfl
  have x1 := HRA8.out.cell (i := 1) rfl
  have x2 := HRA8.out.cell (i := 2) rfl
  have x3 := HRA8.out.cell (i := 3) rfl
  go_wp2_with fail
  refine (likez_any w8 a3 c3 HSA8.out).mono ?_
  rintro e w9 ⟨rfl, hb9⟩
  have HB9 := Lib.hid (below_trans HB8.out hb9)
  have HRB9 := Lib.hid (HRB8.out.below hb9)
  have HSB9 := Lib.hid (HSB8.out.old hb9)
  clear hb9 x0 x1 x2 x3
  have x0 := HRB9.out.cell (i := 0) rfl
  have x1 := HRB9.out.cell (i := 1) rfl
  have x2 := HRB9.out.cell (i := 2) rfl
  have x3 := HRB9.out.cell (i := 3) rfl
  go_wp2_with fail
  refine (likez_any w9 a5 c5 HSB9.out).mono ?_
  rintro e w10 ⟨rfl, hb10⟩
  have HB10 := Lib.hid (below_trans HB9.out hb10)
  clear hb10 x0 x1 x2 x3
  go_wp2
  go_ret
  exact ⟨rfl, HB10.out⟩
end Go.Proofs.Ytmhdodiipkkjpaa.Dk
