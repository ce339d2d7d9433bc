/- StoreDrops: what the law answers. -/
import Derived.Test.YtmaafhhdbhkplaaDoorLPut
import Derived.Test.YtmaafhhdbhkplaaDoorRSwp
namespace Go.Proofs.YtmaafhhdbhkplaaDoor
open Go.RowKit

/-- A store in a box of the law's: block, slice, items. -/
structure Bx (W : World) (B : Nat) (a : Option Addr) (c : Nat) (ys : List Itm) : Prop where
  row : Row W B 24 [.slice a ys.length c]
  its : InI W a ys
theorem Bx.step {W W' : World} {B : Nat} {a : Option Addr} {c : Nat} {ys : List Itm} (h : Bx W B a c ys) (hb : Below W.heap.size W W') : Bx W' B a c ys := ⟨h.row.below hb, h.its.below hb⟩
theorem Bx.new {W : World} {a : Option Addr} {c : Nat} {ys : List Itm} (h : InI W a ys) : Bx (W.alloc (.cells #[.slice a ys.length c] 24)) W.heap.size a c ys := ⟨row_new W #[.slice a ys.length c] 24, h.below (below1 _ _)⟩

/-- What stays while the law looks. -/
structure DE (w : World) (a : Option Addr) (cap : Nat) (fx : List Itm) (B5 : Nat) (a5 : Option Addr) (c5 : Nat) (B7 : Nat) (a7 : Option Addr) (c7 : Nat) (ys : List Itm) (B9 : Nat) (a9 : Option Addr) (c9 : Nat) (zs : List Itm) (W : World) : Prop where
  env : LEnv w W a cap fx
  b5 : Bx W B5 a5 c5 ys
  b7 : Bx W B7 a7 c7 ys
  b9 : Bx W B9 a9 c9 zs
theorem DE.step {w : World} {a : Option Addr} {cap : Nat} {fx : List Itm} {B5 : Nat} {a5 : Option Addr} {c5 : Nat} {B7 : Nat} {a7 : Option Addr} {c7 : Nat} {ys : List Itm} {B9 : Nat} {a9 : Option Addr} {c9 : Nat} {zs : List Itm} {W W' : World}
    (h : DE w a cap fx B5 a5 c5 B7 a7 c7 ys B9 a9 c9 zs W) (hb : Below W.heap.size W W') : DE w a cap fx B5 a5 c5 B7 a7 c7 ys B9 a9 c9 zs W' := ⟨h.env.step hb, h.b5.step hb, h.b7.step hb, h.b9.step hb⟩
theorem DE.cells {w : World} {a : Option Addr} {cap : Nat} {fx : List Itm} {B5 : Nat} {a5 : Option Addr} {c5 : Nat} {B7 : Nat} {a7 : Option Addr} {c7 : Nat} {ys : List Itm} {B9 : Nat} {a9 : Option Addr} {c9 : Nat} {zs : List Itm} {W : World}
    (h : DE w a cap fx B5 a5 c5 B7 a7 c7 ys B9 a9 c9 zs W) : W.cell? ⟨w.heap.size, 0, none⟩ = some (.slice a fx.length cap) ∧ W.cell? ⟨B5, 0, none⟩ = some (.slice a5 ys.length c5) ∧ W.cell? ⟨B7, 0, none⟩ = some (.slice a7 ys.length c7) ∧ W.cell? ⟨B9, 0, none⟩ = some (.slice a9 zs.length c9) :=
  ⟨h.env.box.cell rfl, h.b5.row.cell rfl, h.b7.row.cell rfl, h.b9.row.cell rfl⟩

set_option maxHeartbeats 6400000 in
set_option maxRecDepth 100000 in
theorem ldrops_any (w : World) (a : Option Addr) (cap : Nat) (xs : List Itm) (key : BA) (ha : Arg w a cap xs) (ht : Tab w) (hks : key.size ≤ 140737488351232) :
    Calls Tryd.prog 5 #[.agg #[.slice a xs.length cap], .string key] w fun e w' => e = .returned (.bool true) ∧ Below w.heap.size w w' := by
  have HFW := Lib.hid (few_any (w.alloc (.cells #[.slice a xs.length cap] 24)) a cap xs (ha.below (below1 _ _)))
  have HAF := Lib.hid ha.few
  have HT := Lib.hid ht
  clear ha ht
  generalize fewF xs = fx at *
  by_cases hr : Rgt fx
  · obtain ⟨ys, er, hdc⟩ := dropCase_ex fx key
    have HDC := Lib.hid hdc
    have hl4 := hr.1
    have hyl : ys.length ≤ 1000000 := by
      cases hdc with
      | less x hr => rw [List.length_set]; omega
      | _ => simp
    have hzl : (swp fx).length ≤ 1000000 := by have := swp_length_le fx; omega
    have HR := Lib.hid hr
    have HSW := Lib.hid (fun W (h : Arg W a cap fx) (t : Tab W) => sweep_yes W a cap fx h t HR.out)
    have HRS := Lib.hid (fun W (h : Arg W a cap fx) => rsweep_any W a cap fx h.its hl4)
    clear hdc hr
    generalize swp fx = zs at *
    go_enter Tryd.func5, Tryd.ntmps5
    go_wp2_with fail
    refine HFW.out.mono ?_
    rintro e w1 ⟨rfl, hb1⟩
    obtain ⟨e1, e2⟩ := box_set hb1
    have E2 := Lib.hid (LEnv.new HAF.out HT.out hb1)
    have f2 := E2.out.box.cell (i := 0) rfl
    clear hb1
    go_wp2_with fail
    generalize hW2 : w1.setCell ⟨w.heap.size, 0, none⟩ (.slice a fx.length cap) = w2 at *
    clear hW2 e1 e2
    refine (drop_any w2 a cap fx key E2.out.arg E2.out.tab hks HDC.out).mono ?_
    rintro e w3 ⟨a5, c5, rfl, hI3, hb3⟩
    have E4 := Lib.hid (E2.out.step (below_trans hb3 (below1 w3 (.cells #[.slice a5 ys.length c5] 24))))
    have X4 := Lib.hid (Bx.new (c := c5) hI3)
    have f4 := E4.out.box.cell (i := 0) rfl
    clear f2 hI3 hb3
    go_wp2_with fail
    generalize hW4 : w3.alloc (.cells #[.slice a5 ys.length c5] 24) = w4 at *
    clear hW4
    refine (rdrop_any w4 a cap fx key E4.out.arg E4.out.tab hks HDC.out).mono ?_
    rintro e w5 ⟨a7, c7, rfl, hI5, hb5⟩
    have hb6 := below_trans hb5 (below1 w5 (.cells #[.slice a7 ys.length c7] 24))
    have E6 := Lib.hid (E4.out.step hb6)
    have X46 := Lib.hid (X4.out.step hb6)
    have X6 := Lib.hid (Bx.new (c := c7) hI5)
    have f6 := E6.out.box.cell (i := 0) rfl
    clear f4 hI5 hb5 hb6
    go_wp2_with fail
    generalize hW6 : w5.alloc (.cells #[.slice a7 ys.length c7] 24) = w6 at *
    clear hW6
    refine (HSW.out w6 E6.out.arg E6.out.tab).mono ?_
    rintro e w7 ⟨a9, c9, rfl, hI7, hb7⟩
    have hb8 := below_trans hb7 (below1 w7 (.cells #[.slice a9 zs.length c9] 24))
    have D8 : Hid (DE w a cap fx w3.heap.size a5 c5 w5.heap.size a7 c7 ys w7.heap.size a9 c9 zs (w7.alloc (.cells #[.slice a9 zs.length c9] 24))) := Lib.hid ⟨E6.out.step hb8, X46.out.step hb8, X6.out.step hb8, Bx.new hI7⟩
    have f8 := D8.out.env.box.cell (i := 0) rfl
    clear f6 hI7 hb7 hb8
    go_wp2_with fail
    generalize hW8 : w7.alloc (.cells #[.slice a9 zs.length c9] 24) = w8 at *
    clear hW8
    refine (rright_yes w8 a cap fx HR.out D8.out.env.arg.szs D8.out.env.arg.its).mono ?_
    rintro e W1 ⟨rfl, hb9⟩
    have D9 := Lib.hid (D8.out.step hb9)
    clear f8 hb9
    have K0 := Lib.hid (D9.out.step (Below.refl _ W1).drew)
    obtain ⟨d0, d1, d2, d3⟩ := K0.out.cells
    have HC1 : Hid (∀ W, Hid (DE w a cap fx w3.heap.size a5 c5 w5.heap.size a7 c7 ys w7.heap.size a9 c9 zs W) → Calls Tryd.prog 10 #[] W fun e w' => e = .returned (.bool true) ∧ (w'.cell? ⟨w.heap.size, 0, none⟩ = some (.slice a fx.length cap) ∧ w'.cell? ⟨w3.heap.size, 0, none⟩ = some (.slice a5 ys.length c5) ∧ w'.cell? ⟨w5.heap.size, 0, none⟩ = some (.slice a7 ys.length c7) ∧ w'.cell? ⟨w7.heap.size, 0, none⟩ = some (.slice a9 zs.length c9)) ∧ Hid (DE w a cap fx w3.heap.size a5 c5 w5.heap.size a7 c7 ys w7.heap.size a9 c9 zs w')) :=
      Lib.hid (fun W h => (alive_any W h.out.env.tab).mono fun e w' ⟨he, hb⟩ => ⟨he, (h.out.step hb).cells, Lib.hid (h.out.step hb)⟩)
    have HC2 : Hid (∀ W, Hid (DE w a cap fx w3.heap.size a5 c5 w5.heap.size a7 c7 ys w7.heap.size a9 c9 zs W) → Calls Tryd.prog 16 #[.agg #[.slice a5 ys.length c5], .agg #[.slice a7 ys.length c7]] W fun e w' => e = .returned (.bool true) ∧ (w'.cell? ⟨w.heap.size, 0, none⟩ = some (.slice a fx.length cap) ∧ w'.cell? ⟨w3.heap.size, 0, none⟩ = some (.slice a5 ys.length c5) ∧ w'.cell? ⟨w5.heap.size, 0, none⟩ = some (.slice a7 ys.length c7) ∧ w'.cell? ⟨w7.heap.size, 0, none⟩ = some (.slice a9 zs.length c9)) ∧ Hid (DE w a cap fx w3.heap.size a5 c5 w5.heap.size a7 c7 ys w7.heap.size a9 c9 zs w')) :=
      Lib.hid (fun W h => (like_any W a5 a7 c5 c7 ys h.out.b5.its h.out.b7.its hyl).mono fun e w' ⟨he, hb⟩ => ⟨he, (h.out.step hb).cells, Lib.hid (h.out.step hb)⟩)
    have HC3 : Hid (∀ W, Hid (DE w a cap fx w3.heap.size a5 c5 w5.heap.size a7 c7 ys w7.heap.size a9 c9 zs W) → Calls Tryd.prog 20 #[.agg #[.slice a fx.length cap]] W fun e w' => ∃ aa cc, e = .returned (.agg #[.slice aa zs.length cc]) ∧ (w'.cell? ⟨w.heap.size, 0, none⟩ = some (.slice a fx.length cap) ∧ w'.cell? ⟨w3.heap.size, 0, none⟩ = some (.slice a5 ys.length c5) ∧ w'.cell? ⟨w5.heap.size, 0, none⟩ = some (.slice a7 ys.length c7) ∧ w'.cell? ⟨w7.heap.size, 0, none⟩ = some (.slice a9 zs.length c9)) ∧ Hid (InI w' aa zs) ∧ Hid (DE w a cap fx w3.heap.size a5 c5 w5.heap.size a7 c7 ys w7.heap.size a9 c9 zs w')) :=
      Lib.hid (fun W h => (HRS.out W h.out.env.arg).mono fun e w' ⟨aa, cc, he, hI, _, hb⟩ => ⟨aa, cc, he, (h.out.step hb).cells, Lib.hid hI, Lib.hid (h.out.step hb)⟩)
    have HC4 : Hid (∀ W aa cc, Hid (DE w a cap fx w3.heap.size a5 c5 w5.heap.size a7 c7 ys w7.heap.size a9 c9 zs W) → Hid (InI W aa zs) → Calls Tryd.prog 16 #[.agg #[.slice a9 zs.length c9], .agg #[.slice aa zs.length cc]] W fun e w' => e = .returned (.bool true) ∧ (w'.cell? ⟨w.heap.size, 0, none⟩ = some (.slice a fx.length cap) ∧ w'.cell? ⟨w3.heap.size, 0, none⟩ = some (.slice a5 ys.length c5) ∧ w'.cell? ⟨w5.heap.size, 0, none⟩ = some (.slice a7 ys.length c7) ∧ w'.cell? ⟨w7.heap.size, 0, none⟩ = some (.slice a9 zs.length c9)) ∧ Hid (DE w a cap fx w3.heap.size a5 c5 w5.heap.size a7 c7 ys w7.heap.size a9 c9 zs w')) :=
      Lib.hid (fun W aa cc h hI => (like_any W a9 aa c9 cc zs h.out.b9.its hI.out hzl).mono fun e w' ⟨he, hb⟩ => ⟨he, (h.out.step hb).cells, Lib.hid (h.out.step hb)⟩)
    go_wp2_with fail
    go_region_held3 (fun W => W.cell? ⟨w.heap.size, 0, none⟩ = some (.slice a fx.length cap) ∧ W.cell? ⟨w3.heap.size, 0, none⟩ = some (.slice a5 ys.length c5) ∧ W.cell? ⟨w5.heap.size, 0, none⟩ = some (.slice a7 ys.length c7) ∧ W.cell? ⟨w7.heap.size, 0, none⟩ = some (.slice a9 zs.length c9)) (first | go_keep | assumption)
      (first
        | (go_at_call 10; refine (HC1.out _ ?_).mono ?_; assumption; rintro e U1 ⟨rfl, hq1, hk1⟩)
        | (go_at_call_of 16 (Value.agg #[.slice a5 ys.length c5]); refine (HC2.out _ ?_).mono ?_; assumption; rintro e U2 ⟨rfl, hq2, hk2⟩)
        | (go_at_call 20; refine (HC3.out _ ?_).mono ?_; assumption; rintro e U3 ⟨aa, cc, rfl, hq3, hi3, hk3⟩)
        | (go_at_call 16; refine (HC4.out _ _ _ ?_ ?_).mono ?_; assumption; assumption; rintro e U4 ⟨rfl, hq4, hk4⟩)
        | fail)
    all_goals go_wp2
    all_goals go_ret
    all_goals exact ⟨rfl, hk4.out.env.bel⟩
  · have HR := Lib.hid hr
    have HSW := Lib.hid (fun W (h : Arg W a cap fx) (t : Tab W) => sweep_no W a cap fx h t HR.out)
    clear hr
    have hlen := HAF.out.len
    go_enter Tryd.func5, Tryd.ntmps5
    go_wp2_with fail
    refine HFW.out.mono ?_
    rintro e w1 ⟨rfl, hb1⟩
    obtain ⟨e1, e2⟩ := box_set hb1
    have E2 := Lib.hid (LEnv.new HAF.out HT.out hb1)
    have f2 := E2.out.box.cell (i := 0) rfl
    clear hb1
    go_wp2_with fail
    generalize hW2 : w1.setCell ⟨w.heap.size, 0, none⟩ (.slice a fx.length cap) = w2 at *
    clear hW2 e1 e2
    refine (drop_any w2 a cap fx key E2.out.arg E2.out.tab hks (.bad HR.out)).mono ?_
    rintro e w3 ⟨a5, c5, rfl, hI3, hb3⟩
    rw [List.length_nil]
    have E4 := Lib.hid (E2.out.step (below_trans hb3 (below1 w3 (.cells #[.slice a5 0 c5] 24))))
    have X4 : Hid (Bx (w3.alloc (.cells #[.slice a5 0 c5] 24)) w3.heap.size a5 c5 []) := Lib.hid (Bx.new (c := c5) hI3)
    have f4 := E4.out.box.cell (i := 0) rfl
    clear f2 hI3 hb3
    go_wp2_with fail
    generalize hW4 : w3.alloc (.cells #[.slice a5 0 c5] 24) = w4 at *
    clear hW4
    refine (rdrop_any w4 a cap fx key E4.out.arg E4.out.tab hks (.bad HR.out)).mono ?_
    rintro e w5 ⟨a7, c7, rfl, hI5, hb5⟩
    rw [List.length_nil]
    have hb6 := below_trans hb5 (below1 w5 (.cells #[.slice a7 0 c7] 24))
    have E6 := Lib.hid (E4.out.step hb6)
    have X46 := Lib.hid (X4.out.step hb6)
    have X6 : Hid (Bx (w5.alloc (.cells #[.slice a7 0 c7] 24)) w5.heap.size a7 c7 []) := Lib.hid (Bx.new (c := c7) hI5)
    have f6 := E6.out.box.cell (i := 0) rfl
    clear f4 hI5 hb5 hb6
    go_wp2_with fail
    generalize hW6 : w5.alloc (.cells #[.slice a7 0 c7] 24) = w6 at *
    clear hW6
    refine (HSW.out w6 E6.out.arg E6.out.tab).mono ?_
    rintro e w7 ⟨a9, c9, rfl, hI7, hb7⟩
    rw [List.length_nil]
    have hb8 := below_trans hb7 (below1 w7 (.cells #[.slice a9 0 c9] 24))
    have X9 : Bx (w7.alloc (.cells #[.slice a9 0 c9] 24)) w7.heap.size a9 c9 [] := Bx.new hI7
    have D8 : Hid (DE w a cap fx w3.heap.size a5 c5 w5.heap.size a7 c7 [] w7.heap.size a9 c9 [] (w7.alloc (.cells #[.slice a9 0 c9] 24))) := Lib.hid ⟨E6.out.step hb8, X46.out.step hb8, X6.out.step hb8, X9⟩
    have f8 := D8.out.env.box.cell (i := 0) rfl
    clear f6 hI7 hb7 hb8 X9
    go_wp2_with fail
    generalize hW8 : w7.alloc (.cells #[.slice a9 0 c9] 24) = w8 at *
    clear hW8
    refine (rright_no w8 a cap fx HR.out hlen D8.out.env.arg.szs D8.out.env.arg.its).mono ?_
    rintro e W1 ⟨rfl, hb9⟩
    have D9 := Lib.hid (D8.out.step hb9)
    obtain ⟨d0, d1, d2, d3⟩ := D9.out.cells
    rw [List.length_nil] at d1 d2 d3
    clear f8 hb9
    go_wp2
    go_ret
    exact ⟨rfl, D9.out.env.bel⟩
end Go.Proofs.YtmaafhhdbhkplaaDoor
