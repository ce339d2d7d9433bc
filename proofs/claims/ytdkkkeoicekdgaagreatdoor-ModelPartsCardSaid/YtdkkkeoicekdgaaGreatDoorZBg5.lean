/- The document's Ahead, At, Like; the law's few. -/
import Derived.Laws.StructEq
import Derived.Deep.QuietTactic
import Derived.BigQuiet
import Derived.WalkLawsBesides
import Derived.Deep.RegionHeld3
import Derived.Test.YtdkkkeoicekdgaaGreatDoorZBEr

section

namespace Go.Proofs.YtdkkkeoicekdgaaGreatDoor.Ca
set_option maxHeartbeats 1600000
set_option maxRecDepth 100000
open Go.Lib (hid)
open Go.RowKit Go.Proofs.YtdkkkeoicekdgaaGreatDoor
def AtP (xs : List Ent) (loc key : BA) (w : World) (e : Ending) (w' : World) : Prop := ∃ i : Int, e = .returned (.int .i64 i) /\ ((∃ (k : Nat) (y : Ent), i = k /\ xs[k]? = some y /\ y.loc = loc /\ y.key = key) ∨ (i = -1 /\ ∀ y, y ∈ xs -> ¬ (y.loc = loc /\ y.key = key))) /\ Below w.heap.size w w'
theorem AtP.yes {xs : List Ent} {loc key : BA} {i : Int} (hs : Srt xs) (h : (∃ (k : Nat) (y : Ent), i = k /\ xs[k]? = some y /\ y.loc = loc /\ y.key = key) ∨ (i = -1 /\ ∀ y, y ∈ xs -> ¬ (y.loc = loc /\ y.key = key))) :
  (∃ (k : Nat) (y : Ent), i = k /\ xs[k]? = some y /\ findC xs loc key = some y) ∨ (i = -1 /\ findC xs loc key = none) := by
 rcases h with ⟨k, y, h1, h2, h3, h4⟩ | ⟨h1, h2⟩
 ·exact .inl ⟨k, y, h1, h2, z7s hs (List.mem_of_getElem? h2) h3 h4⟩
 ·exact .inr ⟨h1, z3k.2 h2⟩
theorem neq38 (w : World) (a b c : BA) : (binOp .neq 81 (.agg #[.string a, .string b, .string c]) (.agg #[.string a, .string b, .string c])).run Tryz.prog w = .ok (.bool false) w := by
 have hS : Tryz.prog.underlying 81 = some (.struct (Tryz.prog.fieldsOf 81)) := by kernel_rfl
 have hp : Tryz.prog.stoodInHeld 81 = false := by kernel_rfl
 have u9 := Tryz.underlying9
 have a9 := Tryz.isAgg9
 have z9 := Tryz.sizeOf9
 rw [run_neq_struct, show (10000 : Nat) = 9999 + 1 from rfl, run_equalIn_agg w 9999 81 _ _ hS hp]
 simp only [Program.fieldsOf, Tryz.underlying81]
 go_simp
theorem guard38 : Tryz.prog.eqGuardType Tryz.prog.depth 81 = false := by kernel_rfl
theorem like_any (w : World) (a1 a2 : Option Addr) (c1 c2 : Nat) (xs : List Ent) (h1 : SlE w (Old w) (.slice a1 xs.length c1) xs) (h2 : SlE w (Old w) (.slice a2 xs.length c2) xs) :
  Calls Tryz.prog 36 #[.slice a1 xs.length c1, .slice a2 xs.length c2] w fun e w' => e = .returned (.bool true) /\ Below w.heap.size w w' := by
 have hl := h1.len
 have H1 := hid h1
 have H2 := hid h2
 obtain ⟨L, HL⟩ : ∃ L, Hid (L = xs.length) := ⟨_, hid rfl⟩
 have hL2 : L <= 9223372036854775807 := by have := HL.out; omega
 rw [<- HL.out] at H1 H2 ⊢
 clear h1 h2 hl
 go_enter Tryz.func36, Tryz.ntmps36
 go_wp2
 go_loopw [13] (fun i wr => ∃ k m : Nat, k <= L /\ i = .int .i64 k /\ wr = w.drewN m) (fun i _ => L - (intOf i).toNat)
 case atStart => exact ⟨0, 0, by omega, rfl, rfl⟩
 case round =>
  obtain ⟨k, m, hk, rfl, rfl⟩ := hrel
  by_cases hlt : k < L
  ·obtain ⟨x, hx⟩ : ∃ x, xs[k]? = some x := ⟨_, List.getElem?_eq_getElem (by have := HL.out; omega)⟩
   obtain ⟨b1, o1, rfl, hb1, i1, i2, i3⟩ := H1.out.get hx
   obtain ⟨b2, o2, rfl, hb2, j1, j2, j3⟩ := H2.out.get hx
   have hne := neq38
   have hgd := guard38
   obtain ⟨kk, bb, rr⟩ := x
   simp only at i1 i2 i3 j1 j2 j3
   clear hx
   go_wp2
   go_quiet (fail)
   go_wp2
   go_roundw
   case rel => exact ⟨k + 1, _, by omega, by go_num, rfl⟩
   case measure => simp [intOf]; omega
  ·go_wp2
   go_ret
   exact ⟨rfl, z09 (Below.refl _ _) m⟩
end Go.Proofs.YtdkkkeoicekdgaaGreatDoor.Ca

end

section

namespace Go.Proofs.YtdkkkeoicekdgaaGreatDoor.Ca
open Go.RowKit Go.Proofs.YtdkkkeoicekdgaaGreatDoor
theorem z06 {P : Program} {ops : Array Oper} {Q : Exit -> Act -> World -> Prop} {md : Region.Mode} {S : World -> Prop} {i d fuel : Nat} {listed : Array Bool} {a : Act} {w : World}
  (hi : (ops[i]?).map (fun o => (o.dst, Region.wanted o (yielded ops a.tmps))) = some (some d, false)) (hs : Region.noSelect ops = true) (hf : Region.free md ops listed i = true) (hr : (Region.ready md ops listed).contains i = true)
  (hQ : ∀ c a w, Q (.panic c) (a.put (some d) undef) w -> Q (.panic c) a w) (hS : S w) (h : wpAnyH P md ops Q S fuel (listed.setIfInBounds i true) (a.put (some d) undef) w) : wpAnyH P md ops Q S (fuel + 1) listed a w := by
 cases ho : ops[i]? with
 | none => rw [ho] at hi; cases hi
 | some o =>
  rw [ho] at hi
  simp only [Option.map_some, Option.some.injEq, Prod.mk.injEq] at hi
  exact wpAnyH_take (v := undef) ho hs hf hr (by rw [hi.1]; exact hQ) (Or.inr ⟨hi.2, rfl⟩) hS (by rw [hi.1]; exact h)
end Go.Proofs.YtdkkkeoicekdgaaGreatDoor.Ca

end
