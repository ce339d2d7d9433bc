/- The iterator of package frame: which bodies it yields, for every loop body. -/
import Derived.Test.YtljbbhbebplknaaFirst
import Derived.RangeFuncNested
import Derived.RangeFuncBound
import Derived.RangeFuncCalls
import Derived.RangeFuncLeaves
import Derived.RangeFuncBox
import Derived.Shelf.Abstract
import Derived.Shelf.RegionOpen
import Derived.WalkKit
import Derived.OwnWalkIn
import Derived.TacticsInMore
import Derived.LoopNIn
import Derived.LoopIn
namespace Go.Proofs.Ytljbbhbebplknaa
open Go.RowKit Go.Shelf

attribute [local go_sem] Oper.semAt_some

abbrev Body := { b : ByteArray // b.size ≤ 65536 }
abbrev Item := { x : ByteArray × Bool // x.1.size ≤ 65536 }
abbrev encI (x : Item) : Array Value := #[.string x.1.1, .bool x.1.2]
abbrev listsB (bs : List Body) : List Bs := bs.map (·.1.data.toList)
def okI (b : Body) : Item := ⟨(b.1, true), b.2⟩
def endI : Item := ⟨(⟨#[]⟩, false), by show 0 ≤ 65536; omega⟩
def itemsB (bs : List Body) : List Item := bs.map okI ++ [endI]

theorem scan_exists : ∀ (n : Nat) (s : Bs), s.length ≤ n → ∃ bs : List Body, Scanned s (listsB bs) (framesF (listsB bs)).length := by
  intro n
  induction n with
  | zero =>
    intro s hs
    obtain rfl : s = [] := List.length_eq_zero_iff.1 (by omega)
    refine ⟨[], { short := fun _ h => by simp [listsB] at h, at_ := rfl, pre := List.prefix_refl _, stop := ?_ }⟩
    cases h : firstF (List.drop (framesF (listsB [])).length []) with
    | none => rfl
    | some b =>
      have := ((firstF_iff _ _).1 h).2.length_le
      simp at this
  | succ n ih =>
    intro s hs
    cases h : firstF s with
    | none => exact ⟨[], { short := fun _ h => by simp [listsB] at h, at_ := rfl, pre := List.nil_prefix, stop := by simpa using h }⟩
    | some b =>
      obtain ⟨hb, t, rfl⟩ := (firstF_iff _ _).1 h
      obtain ⟨bs, hS⟩ := ih t (by simp at hs; omega)
      have hbs : (str b).size ≤ 65536 := by show b.toArray.size ≤ 65536; simpa using hb
      refine ⟨⟨str b, hbs⟩ :: bs, { short := ?_, at_ := rfl, pre := ?_, stop := ?_ }⟩
      · intro c hc
        rcases List.mem_cons.1 hc with rfl | hc
        · exact hb
        · exact hS.short c hc
      · show frameF b ++ framesF (listsB bs) <+: _
        exact (List.prefix_append_right_inj _).2 hS.pre
      · show firstF (List.drop (frameF b ++ framesF (listsB bs)).length _) = none
        rw [List.length_append, ← List.drop_drop, List.drop_left' rfl]
        exact hS.stop

def lenV : Value → Nat
  | .string s => s.size
  | _ => 0

theorem grown_drewN (w : World) (n : Nat) : w.grownBy (w.drewN n) none := ⟨rfl, rfl, rfl, Nat.le_refl _, fun _ _ _ => rfl⟩

set_option maxRecDepth 100000 in
set_option maxHeartbeats 2000000 in
theorem iter_in (n : Nat) (hn : 1 ≤ n) (l Bn : Nat) (s : ByteArray) (hs : s.size ≤ 140737488351232) (bs : List Body) (hS : Scanned s.data.toList (listsB bs) (framesF (listsB bs)).length) (J Jx : List Item → World → Prop) (n₀ : Nat)
    (hY : ∀ pre x W, J pre W → pre.length < (itemsB bs).length → YieldAt Fence.wide (n - 1) Try.prog l (encI x) W fun e W' =>
      (e = .returned (.bool true) ∧ J (pre ++ [x]) W' ∧ Below n₀ W W') ∨ (e = .returned (.bool false) ∧ Jx (pre ++ [x]) W'))
    (W : World) (hJ : AbidesFrom W.heap.size J) (hBn : W.cell? ⟨Bn, 0, none⟩ = some (.string s)) (h0 : J [] W) :
    CallsIn Fence.wide n Try.prog 22 #[.func (.yield l) #[] #[], .pointer (some ⟨Bn, 0, none⟩)] W fun e W' => (∃ v, e = .returned v) ∧
      ((∃ ys, ys = itemsB bs ∧ J ys W') ∨ (∃ pre, pre <+: itemsB bs ∧ Jx pre W')) := by
  have HY := Lib.hid hY
  have HJ := Lib.hid hJ
  have H0 := Lib.hid h0
  have HS := Lib.hid hS
  clear hY hJ h0 hS
  refine callsIn_of_wp Try.func22 rfl trivial ?_ rfl
  simp only [Try.ntmps22, List.size_toArray, List.length_cons, List.length_nil, Nat.reduceAdd, Nat.reduceSub, Array.replicate_succ, Array.replicate_zero, List.push_toArray, List.append_toArray, List.nil_append, List.cons_append]
  gi_wp2
  gi_loopw [3] (fun p wr => ∃ (r : ByteArray) (done todo : List Body), p = .string r ∧ r.size ≤ s.size ∧ Hid (bs = done ++ todo) ∧ Hid (Scanned r.data.toList (listsB todo) (framesF (listsB todo)).length) ∧ Hid (J (done.map okI) wr))
    (fun p _ => lenV p)
  case atStart =>
    exact ⟨s, [], bs, rfl, Nat.le_refl _, Lib.hid rfl, HS, H0⟩
  case round =>
    obtain ⟨r, done, todo, rfl, hr, HD, HR, HJs⟩ := hrel
    cases todo with
    | nil =>
      have HF : Hid (firstF r.data.toList = none) := Lib.hid (by simpa using HR.out.stop)
      have HC : Hid (Calls Try.prog 23 #[.string r] wr fun e w' => e = .returned (.tuple #[.string ⟨#[]⟩, .bool false]) ∧ ∃ m, w' = wr.drewN m) := Lib.hid (by
        have := first_any r wr (by omega)
        rw [HF.out] at this
        exact this)
      have HJm : Hid (∀ m, J (done.map okI) (wr.drewN m)) := Lib.hid (fun m => HJ.out _ _ _ none HJs.out (grown_drewN wr m) (fun r e => by cases e))
      gi_wp2_with fail
      refine ⟨trivial, (callsIn_wide.2 HC.out).mono ?_⟩
      rintro e w1 ⟨rfl, m, rfl⟩
      obtain ⟨fn, tmps, assign, body, hy, hR⟩ := HY.out (done.map okI) endI (wr.drewN m) (HJm.out m) (by rw [HD.out]; simp [itemsB])
      have hitems : Hid (itemsB bs = done.map okI ++ [endI]) := Lib.hid (by rw [HD.out]; simp [itemsB])
      dsimp only [encI, endI] at hy
      have HRr := Lib.hid hR
      clear hR
      gi_wp2
      refine HRr.out.mono ?_
      rintro e W3 (⟨rfl, hJ3, hk3⟩ | ⟨rfl, hJx3⟩)
      · have h3 := Lib.hid hJ3
        clear hJ3
        gi_wp2
        refine bodyPost_ret (results_none rfl _ _ _) rfl ?_
        exact ⟨⟨_, rfl⟩, .inl ⟨_, hitems.out.symm, h3.out⟩⟩
      · have h3 := Lib.hid hJx3
        clear hJx3
        gi_wp2
        refine bodyPost_ret (results_none rfl _ _ _) rfl ?_
        exact ⟨⟨_, rfl⟩, .inr ⟨_, by rw [hitems.out]; exact List.prefix_refl _, h3.out⟩⟩
    | cons b todo =>
      have HF : Hid (firstF r.data.toList = some b.1.data.toList) := Lib.hid ((firstF_iff _ _).2 ⟨HR.out.short _ (by simp), (List.prefix_append _ _).trans HR.out.pre⟩)
      have HC : Hid (Calls Try.prog 23 #[.string r] wr fun e w' => e = .returned (.tuple #[.string b.1, .bool true]) ∧ ∃ m, w' = wr.drewN m) := Lib.hid (by
        have := first_any r wr (by omega)
        rw [HF.out] at this
        exact this)
      have HJm : Hid (∀ m, J (done.map okI) (wr.drewN m)) := Lib.hid (fun m => HJ.out _ _ _ none HJs.out (grown_drewN wr m) (fun r e => by cases e))
      have HLn : Hid (b.1.size + 12 ≤ r.size) := Lib.hid (by
        have h1 := ((firstF_iff _ _).1 HF.out).2.length_le
        rw [frameF_length, ba_len, ba_len] at h1
        exact h1)
      have hln := HLn.out
      gi_wp2_with fail
      refine ⟨trivial, (callsIn_wide.2 HC.out).mono ?_⟩
      rintro e w1 ⟨rfl, m, rfl⟩
      obtain ⟨fn, tmps, assign, body, hy, hR⟩ := HY.out (done.map okI) (okI b) (wr.drewN m) (HJm.out m) (by rw [HD.out]; simp [itemsB])
      have hitems : Hid (itemsB bs = (done.map okI ++ [okI b]) ++ (todo.map okI ++ [endI])) := Lib.hid (by rw [HD.out]; simp [itemsB])
      dsimp only [encI, okI] at hy
      have HRr := Lib.hid hR
      clear hR
      gi_wp2
      refine HRr.out.mono ?_
      rintro e W3 (⟨rfl, hJ3, hk3⟩ | ⟨rfl, hJx3⟩)
      · have h3 := Lib.hid hJ3
        clear hJ3
        gi_wp2
        have hsz := extract_size r (12 + b.1.size) r.size (Nat.le_refl _)
        refine ⟨⟨_, done ++ [b], todo, rfl, by omega, Lib.hid (by rw [HD.out]; simp), Lib.hid ?_, Lib.hid (by simpa using h3.out)⟩, ?_⟩
        · obtain ⟨t, ht⟩ := ((firstF_iff _ _).1 HF.out).2
          have h4 := HR.out
          rw [← ht] at h4
          obtain ⟨bs', n', h5, -, h6⟩ := scanned_cons h4 ((firstF_iff _ _).1 HF.out).1
          have h7 : bs' = listsB todo := by simpa [listsB] using h5.symm
          rw [extract_list, List.take_of_length_le (by simp), ← ht, List.drop_left' (by rw [frameF_length, ba_len]; omega), ← h7, ← h6.at_]
          exact h6
        · show (r.extract (12 + b.1.size) r.size).size < r.size
          omega
      · have h3 := Lib.hid hJx3
        clear hJx3
        gi_wp2
        refine bodyPost_ret (results_none rfl _ _ _) rfl ?_
        exact ⟨⟨_, rfl⟩, .inr ⟨_, by rw [hitems.out]; exact List.prefix_append _ _, h3.out⟩⟩

/-- The iterator's contract: all bodies and then the false one; or a beginning of these, where a round has said 'no more'. -/
theorem iter_stops (n : Nat) (hn : 1 ≤ n) (Bn n₀ : Nat) (s : ByteArray) (hs : s.size ≤ 140737488351232) (bs : List Body) (hS : Scanned s.data.toList (listsB bs) (framesF (listsB bs)).length) (w : World) (hBn : Bn < w.heap.size) (hc : w.cell? ⟨Bn, 0, none⟩ = some (.string s)) :
    SeqStopsK Fence.wide n Try.prog 22 #[.pointer (some ⟨Bn, 0, none⟩)] encI (Below n₀) (fun ys => ys = itemsB bs) (fun pre => pre <+: itemsB bs) (itemsB bs).length w := fun l J Jx W hW hJ _ hY h0 =>
  iter_in n hn l Bn s hs bs hS J Jx n₀ hY W hJ ((hW.cell (p := ⟨Bn, 0, none⟩) hBn).trans hc) h0

set_option maxHeartbeats 1000000 in
theorem frames_any (n : Nat) (s : ByteArray) (w : World) : CallsIn Fence.wide n Try.prog 20 #[.string s] w fun e w' => e = .returned (.func (.func 22) #[] #[.pointer (some ⟨w.heap.size, 0, none⟩)]) ∧ w' = w.alloc (.cells #[.string s] 9) := by
  refine callsIn_of_wp Try.func20 rfl trivial ?_ rfl
  simp only [Try.ntmps20, List.size_toArray, List.length_cons, List.length_nil, Nat.reduceAdd, Nat.reduceSub, Array.replicate_succ, Array.replicate_zero, List.push_toArray, List.append_toArray, List.nil_append, List.cons_append]
  gi_wp2
  go_ret
  exact ⟨rfl, rfl⟩
end Go.Proofs.Ytljbbhbebplknaa
