/- A delta that was handed in; few. -/
import Derived.Test.YtmagcikaepobiaaDoorBIx
namespace Go.Proofs.YtmagcikaepobiaaDoor.Dl
open Go.RowKit

theorem InI.few {w : World} {a : Option Addr} {xs : List Opr} (h : InI w a xs) : InI w a (fewL xs) := by
  unfold fewL; split
  · exact h.take 60
  · exact h
/-- What the law's last literal holds. -/
abbrev copyOne : List Opr := [⟨0, 1, ByteArray.empty⟩]
theorem rgB_one : rgB copyOne = true := rgB_mk (by decide) (fun j x hx => by
  match j, hx with
  | 0, hx => obtain rfl := Option.some.inj hx; rfl)
theorem szs_one : Szs copyOne := fun j x hx => by
  match j, hx with
  | 0, hx => obtain rfl := Option.some.inj hx; decide
theorem in_one (w : World) : InI (w.alloc (.cells #[.int .i64 0, .int .i64 1, .string ByteArray.empty] 32)) (some ⟨w.heap.size, 0, none⟩) copyOne := fun _ =>
  ⟨w.heap.size, 0, rfl, by simp, fun j x hx => by
    match j, hx with
    | 0, hx =>
      obtain rfl := Option.some.inj hx
      have R := row_new w #[.int .i64 0, .int .i64 1, .string ByteArray.empty] 32
      exact ⟨R.cell (i := 0) rfl, R.cell (i := 1) rfl, R.cell (i := 2) rfl⟩⟩
theorem right_one (w : World) : Calls Tryd.prog 11 #[.slice (some ⟨w.heap.size, 0, none⟩) 1 1] (w.alloc (.cells #[.int .i64 0, .int .i64 1, .string ByteArray.empty] 32)) fun e w' => e = .returned (.bool true) ∧ Below w.heap.size w w' :=
  (right_any _ _ 1 copyOne (by decide) szs_one (in_one w)).mono (by
    rintro e w1 ⟨rfl, hb⟩
    exact ⟨ret_bool rgB_one, below_trans (below1 w _) hb⟩)

/-- A delta that was handed in. -/
structure ArgO (w : World) (a : Option Addr) (cap : Nat) (xs : List Opr) : Prop where
  ini : InI w a xs
  szs : Szs xs
  len : xs.length ≤ 9223372036854775807
  capg : xs.length ≤ cap
  capm : cap ≤ 9223372036854775807
  nil : a = none → xs = []
  lenr : xs.length ≤ 140737488351232
theorem few_len {xs : List Opr} : (fewL xs).length ≤ xs.length := by
  unfold fewL; split
  · rw [List.length_take]; omega
  · omega
theorem ArgO.few {w : World} {a : Option Addr} {cap : Nat} {xs : List Opr} (h : ArgO w a cap xs) : ArgO w a cap (fewL xs) :=
  ⟨h.ini.few, h.szs.few, Nat.le_trans few_len h.len, Nat.le_trans few_len h.capg, h.capm, fun e => by rw [h.nil e]; rfl, Nat.le_trans few_len h.lenr⟩
theorem ArgO.below {w w' : World} {a : Option Addr} {cap : Nat} {xs : List Opr} (h : ArgO w a cap xs) (hb : Below w.heap.size w w') : ArgO w' a cap xs := ⟨h.ini.below hb, h.szs, h.len, h.capg, h.capm, h.nil, h.lenr⟩
theorem nodes_opT (x : Opr) : nodes (opT x) ≤ 3 := by
  cases hi : inB x with
  | true => rw [opT_in hi, nodes]; decide
  | false => simp only [opT_cp hi, nodes, nodesL]; decide
theorem nodesL_map : ∀ (xs : List Opr), nodesL (xs.map opT) ≤ 3 * xs.length
  | [] => by simp [nodesL]
  | x :: r => by
    have h1 := nodes_opT x
    have h2 := nodesL_map r
    rw [List.map_cons, nodesL, List.length_cons]
    omega
theorem few_nodes {xs : List Opr} (h : rgB (fewL xs) = true) : nodes (treeD (fewL xs)) ≤ 4000 := by
  have hl : (fewL xs).length ≤ 60 := by
    have h2 := (rgB_true h).1
    unfold fewL at h2 ⊢
    split
    · rw [List.length_take]; omega
    · rename_i h3
      rw [if_neg h3] at h2
      omega
  have := nodesL_map (fewL xs)
  unfold treeD
  rw [nodes]
  omega
end Go.Proofs.YtmagcikaepobiaaDoor.Dl
