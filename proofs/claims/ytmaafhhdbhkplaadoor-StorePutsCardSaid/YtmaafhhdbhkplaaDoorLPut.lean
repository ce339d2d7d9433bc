/- StorePuts: what the law answers. -/
import Derived.Test.YtmaafhhdbhkplaaDoorLik
import Derived.Test.YtmaafhhdbhkplaaDoorRPutN
namespace Go.Proofs.YtmaafhhdbhkplaaDoor
open Go.RowKit

/-- The law's own store, cut short, in its box. -/
structure LEnv (w wi : World) (a : Option Addr) (cap : Nat) (xs : List Itm) : Prop where
  box : Row wi w.heap.size 24 [.slice a xs.length cap]
  arg : Arg wi a cap xs
  tab : Tab wi
  bel : Below w.heap.size w wi
theorem LEnv.new {w w1 : World} {a : Option Addr} {cap : Nat} {xs : List Itm} {v : Value} (h : Arg w a cap xs) (ht : Tab w) (hb : Below (w.alloc (.cells #[v] 24)).heap.size (w.alloc (.cells #[v] 24)) w1) : LEnv w (w1.setCell ⟨w.heap.size, 0, none⟩ (.slice a xs.length cap)) a cap xs := by
  have hB : Below w.heap.size w (w1.setCell ⟨w.heap.size, 0, none⟩ (.slice a xs.length cap)) := (below_trans (below1 w _) hb).trans (((But.refl w.heap.size w1).set 0 _).below (Nat.le_refl _))
  exact ⟨((row_new w #[v] 24).below hb).set 0 _, h.below hB, ht.below hB, hB⟩
theorem LEnv.step {w wi wj : World} {a : Option Addr} {cap : Nat} {xs : List Itm} (h : LEnv w wi a cap xs) (hb : Below wi.heap.size wi wj) : LEnv w wj a cap xs := ⟨h.box.below hb, h.arg.below hb, h.tab.below hb, below_trans h.bel hb⟩
theorem box_set {w w1 : World} {v : Value} (hb : Below (w.alloc (.cells #[v] 24)).heap.size (w.alloc (.cells #[v] 24)) w1) : w1.cell? ⟨w.heap.size, 0, none⟩ = some v ∧ w1.frozen? ⟨w.heap.size, 0, none⟩ = false :=
  ⟨((row_new w #[v] 24).below hb).cell rfl, ((row_new w #[v] 24).below hb).thaw 0⟩

set_option maxHeartbeats 3200000 in
set_option maxRecDepth 100000 in
theorem lputs_any (w : World) (a : Option Addr) (cap : Nat) (xs : List Itm) (body : BA) (ha : Arg w a cap xs) (ht : Tab w) (hbs : body.size ≤ 140737488351232) :
    Calls Tryd.prog 4 #[.agg #[.slice a xs.length cap], .string body] w fun e w' => e = .returned (.bool true) ∧ Below w.heap.size w w' := by
  have HFW := Lib.hid (few_any (w.alloc (.cells #[.slice a xs.length cap] 24)) a cap xs (ha.below (below1 _ _)))
  have HAF := Lib.hid ha.few
  have HT := Lib.hid ht
  obtain ⟨ys, k, er, hpc⟩ := putCase_ex (fewF xs) body
  have HPC := Lib.hid hpc
  have hyl : ys.length ≤ 1000000 := by
    cases hpc with
    | more x hr => rw [List.length_set]; have := hr.1; omega
    | new hr => rw [insF_length (pos_le _ _)]; have := hr.1; omega
    | _ => simp
  clear ha ht hpc
  generalize fewF xs = fx at *
  go_enter Tryd.func4, Tryd.ntmps4
  go_wp2_with fail
  refine HFW.out.mono ?_
  rintro e w1 ⟨rfl, hb1⟩
  obtain ⟨e1, e2⟩ := box_set hb1
  have E2 := Lib.hid (LEnv.new HAF.out HT.out hb1)
  have f2 := E2.out.box.cell (i := 0) rfl
  clear hb1
  go_wp2_with fail
  generalize hW2 : w1.setCell ⟨w.heap.size, 0, none⟩ (.slice a fx.length cap) = w2 at *
  clear hW2 e1 e2
  refine (put_any w2 a cap fx body E2.out.arg E2.out.tab hbs HPC.out).mono ?_
  rintro e w3 ⟨a3, c3, rfl, hI3, hb3⟩
  have hb4 := below_trans hb3 (below1 w3 (.cells #[.slice a3 ys.length c3] 24))
  have E4 := Lib.hid (E2.out.step hb4)
  have R4 := Lib.hid (row_new w3 #[.slice a3 ys.length c3] 24)
  have I4 := Lib.hid (hI3.below (below1 w3 (.cells #[.slice a3 ys.length c3] 24)))
  have f4 := E4.out.box.cell (i := 0) rfl
  clear f2 hI3 hb3 hb4
  go_wp2_with fail
  generalize hW4 : w3.alloc (.cells #[.slice a3 ys.length c3] 24) = w4 at *
  clear hW4
  refine (rput_any w4 a cap fx body E4.out.arg E4.out.tab hbs HPC.out).mono ?_
  rintro e w5 ⟨a5, c5, rfl, hI5, hb5⟩
  have hb6 := below_trans hb5 (below1 w5 (.cells #[.slice a5 ys.length c5] 24))
  have E6 := Lib.hid (E4.out.step hb6)
  have R6 := Lib.hid (row_new w5 #[.slice a5 ys.length c5] 24)
  have I6 := Lib.hid (hI5.below (below1 w5 (.cells #[.slice a5 ys.length c5] 24)))
  have R46 := Lib.hid (R4.out.below hb6)
  have I46 := Lib.hid (I4.out.below hb6)
  clear f4 hI5 hb5 hb6
  go_wp2_with fail
  generalize hW6 : w5.alloc (.cells #[.slice a5 ys.length c5] 24) = w6 at *
  clear hW6
  refine (alive_any w6 E6.out.tab).mono ?_
  rintro e w7 ⟨rfl, hb7⟩
  have E7 := Lib.hid (E6.out.step hb7)
  have g1 := (R46.out.below hb7).cell (i := 0) rfl
  have g2 := (R6.out.below hb7).cell (i := 0) rfl
  have I7a := Lib.hid (I46.out.below hb7)
  have I7b := Lib.hid (I6.out.below hb7)
  clear hb7
  go_wp2_with fail
  refine (like_any w7 a3 a5 c3 c5 ys I7a.out I7b.out hyl).mono ?_
  rintro e w8 ⟨rfl, hb8⟩
  have E8 := Lib.hid (E7.out.step hb8)
  clear hb8
  go_wp2
  go_ret
  exact ⟨rfl, E8.out.bel⟩
end Go.Proofs.YtmaafhhdbhkplaaDoor
