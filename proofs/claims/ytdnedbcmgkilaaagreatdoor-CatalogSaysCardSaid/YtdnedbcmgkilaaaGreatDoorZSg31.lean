/- Letters and names. -/
import Derived.Deep.QuietTactic
import Derived.BigQuiet
import Derived.IntWalk
import Derived.Test.YtdnedbcmgkilaaaGreatDoorZSg35
import Derived.Test.YtdnedbcmgkilaaaGreatDoorZSg7

section

namespace Go.Proofs.YtdnedbcmgkilaaaGreatDoor
set_option maxHeartbeats 3200000
set_option maxRecDepth 100000
open Go.Lib (hid)
open Go.RowKit
theorem z2r (c : UInt8) (w : World) : Calls Tryz.prog 159 #[.int .u8 c.toNat] w fun e w' => e = .returned (.bool (isLet c)) /\ w' = w := by
 have hc := c.toNat_lt
 by_cases h1 : 97 <= c.toNat
 ·by_cases h2 : c.toNat <= 122
  ·have HE : Hid (isLet c = true) := hid (by unfold isLet; simp [h1, h2])
   have g1 : (97 : Int) <= (c.toNat : Int) := by omega
   have g2 : (c.toNat : Int) <= 122 := by omega
   go_enter Tryz.func159, Tryz.ntmps159
   go_wp2
   go_ret
   exact ⟨by rw [HE.out]; rfl, rfl⟩
  ·have HE : Hid (isLet c = false) := hid (by unfold isLet; simp [h2])
   have g1 : (97 : Int) <= (c.toNat : Int) := by omega
   have g2 : ¬ (c.toNat : Int) <= 122 := by omega
   go_enter Tryz.func159, Tryz.ntmps159
   go_wp2
   go_ret
   exact ⟨by rw [HE.out]; rfl, rfl⟩
 ·have HE : Hid (isLet c = false) := hid (by unfold isLet; simp [h1])
  have g1 : ¬ (97 : Int) <= (c.toNat : Int) := by omega
  go_enter Tryz.func159, Tryz.ntmps159
  go_wp2
  go_ret
  exact ⟨by rw [HE.out]; rfl, rfl⟩
theorem z35 {l : List UInt8} {c : UInt8} (h : l[0]? = some c) : nameB l = (decide (l.length <= 32) && isLet c && l.all isWrd) := by
 cases l with
 | nil => cases h
 | cons d r =>
  obtain rfl : d = c := by simpa using h
  show (decide (r.length <= 31) && _ && _) = _
  have : decide (r.length <= 31) = decide ((d :: r).length <= 32) := by simp
  rw [this]
theorem z9a {l : List UInt8} {k : Nat} {c : UInt8} (h : l[k]? = some c) (hc : isWrd c = false) : nameB l = false := by
 cases h0 : l[0]? with
 | none => rw [List.getElem?_eq_none_iff] at h0; have := z0l h; omega
 | some d =>
  rw [z35 h0]
  have : l.all isWrd = false := by
   rw [List.all_eq_false]
   exact ⟨c, List.mem_of_getElem? h, by simp [hc]⟩
  simp [this]
theorem zi7 {c : UInt8} (h : isLet c = true) : isWrd c = true := by unfold isWrd; simp [h]
theorem z54 {l : List UInt8} {k : Nat} {c : UInt8} (h : l[k]? = some c) (hc : isWrd c = true) (ha : (l.take k).all isWrd = true) : (l.take (k + 1)).all isWrd = true := by
 rw [List.take_add_one, h, List.all_append, ha]; simp [hc]
theorem z3m (t : BA) (w : World) (ht : t.size <= 140737488351232) : Calls Tryz.prog 119 #[.string t] w fun e w' => e = .returned (.bool (nameB t.data.toList)) /\ w' = w := by
 by_cases h0 : t.size < 1
 ·have HE : Hid (nameB t.data.toList = false) := hid (by
   cases hl : t.data.toList with
   | nil => rfl
   | cons c r => have := z05 t; rw [hl] at this; simp at this; omega)
  have hlt : (t.size : Int) < 1 := by omega
  go_enter Tryz.func119, Tryz.ntmps119
  go_wp2
  go_ret
  exact ⟨by rw [HE.out]; rfl, rfl⟩
 have hge : ¬ (t.size : Int) < 1 := by omega
 have hx0 := z1s t 0 (by omega)
 by_cases h1 : 32 < t.size
 ·have HE : Hid (nameB t.data.toList = false) := hid (by rw [z35 hx0, decide_eq_false (by rw [z05]; omega)]; rfl)
  have hgt : (32 : Int) < (t.size : Int) := by omega
  clear hx0
  go_enter Tryz.func119, Tryz.ntmps119
  go_wp2
  go_ret
  exact ⟨by rw [HE.out]; rfl, rfl⟩
 have hng : ¬ (32 : Int) < (t.size : Int) := by omega
 have hp0 : 0 < t.size := by omega
 have HL := hid (fun w => z2r t[0] w)
 cases hlet : isLet t[0] with
 | false =>
  have HE : Hid (nameB t.data.toList = false) := hid (by rw [z35 hx0, hlet]; simp)
  rw [hlet] at HL
  clear hx0 hlet
  go_enter Tryz.func119, Tryz.ntmps119
  go_wp2_with fail
  refine (HL.out _).mono ?_
  rintro e w1 ⟨rfl, rfl⟩
  go_wp2
  go_ret
  exact ⟨by rw [HE.out]; rfl, rfl⟩
 | true =>
  have HE : Hid (nameB t.data.toList = t.data.toList.all isWrd) := hid (by rw [z35 hx0, hlet, decide_eq_true (by rw [z05]; omega)]; rfl)
  rw [hlet] at HL
  clear hx0 hlet
  go_enter Tryz.func119, Tryz.ntmps119
  go_wp2_with fail
  refine (HL.out _).mono ?_
  rintro e w1 ⟨rfl, rfl⟩
  clear HL
  go_wp2
  go_loop [21] (fun i => ∃ k : Nat, i = .int .i64 k /\ k <= t.size /\ Hid ((t.data.toList.take k).all isWrd = true)) (fun i => t.size - (intOf i).toNat)
  case atStart => exact ⟨0, rfl, by omega, hid rfl⟩
  case round =>
   obtain ⟨k, rfl, hk, HA⟩ := hrel
   by_cases hlt : k < t.size
   ·have hxk := hid (z1s t k hlt)
    have hlt2 : (k : Int) < (t.size : Int) := by omega
    obtain ⟨c, hcc⟩ : ∃ c, t[k] = c := ⟨_, rfl⟩
    rw [hcc] at hxk
    have HL := hid (fun w => z2r c w)
    have hc8 := c.toNat_lt
    cases hlc : isLet c with
    | true =>
     have HA2 := hid (z54 hxk.out (zi7 hlc) HA.out)
     rw [hlc] at HL
     clear hlc
     go_wp2_with fail
     refine (HL.out _).mono ?_
     rintro e w1 ⟨rfl, rfl⟩
     go_wp2
     go_round
     case rel => exact ⟨k + 1, by go_num, by omega, HA2⟩
     case measure => simp [intOf]; omega
    | false =>
     rw [hlc] at HL
     by_cases hd : 48 <= c.toNat /\ c.toNat <= 57
     ·have HA2 := hid (z54 hxk.out (show isWrd c = true by unfold isWrd isDig; simp [hd.1, hd.2]) HA.out)
      have g1 : ¬ (c.toNat : Int) < 48 := by omega
      have g2 : ¬ (57 : Int) < (c.toNat : Int) := by omega
      clear hlc hd
      go_wp2_with fail
      refine (HL.out _).mono ?_
      rintro e w1 ⟨rfl, rfl⟩
      go_wp2
      go_round
      case rel => exact ⟨k + 1, by go_num, by omega, HA2⟩
      case measure => simp [intOf]; omega
     ·have hdig : isDig c = false := by unfold isDig; simp; omega
      by_cases hu : c.toNat = 95
      ·have HA2 := hid (z54 hxk.out (show isWrd c = true by unfold isWrd; have : c = 95 := UInt8.toNat_inj.1 hu; simp [this]) HA.out)
       have g1 : ¬ (c.toNat : Int) < 48 := by omega
       have g2 : (57 : Int) < (c.toNat : Int) := by omega
       have g3 : ((c.toNat : Int) != (95 : Int)) = false := by simp; omega
       clear hlc hd hdig hu
       go_wp2_with fail
       refine (HL.out _).mono ?_
       rintro e w1 ⟨rfl, rfl⟩
       go_wp2
       go_round
       case rel => exact ⟨k + 1, by go_num, by omega, HA2⟩
       case measure => simp [intOf]; omega
      ·have HN := hid (z9a hxk.out (show isWrd c = false by unfold isWrd; have : c ≠ 95 := fun e => hu (by rw [e]; rfl); simp [hlc, hdig, this]))
       have g3 : ((c.toNat : Int) != (95 : Int)) = true := by simp; omega
       by_cases h48 : c.toNat < 48
       ·have g1 : (c.toNat : Int) < 48 := by omega
        clear hlc hd hdig hu
        go_wp2_with fail
        refine (HL.out _).mono ?_
        rintro e w1 ⟨rfl, rfl⟩
        go_wp2
        go_ret
        exact ⟨by rw [HN.out]; rfl, rfl⟩
       ·have g1 : ¬ (c.toNat : Int) < 48 := by omega
        have g2 : (57 : Int) < (c.toNat : Int) := by omega
        clear hlc hd hdig hu
        go_wp2_with fail
        refine (HL.out _).mono ?_
        rintro e w1 ⟨rfl, rfl⟩
        go_wp2
        go_ret
        exact ⟨by rw [HN.out]; rfl, rfl⟩
   ·have HT : Hid (nameB t.data.toList = true) := hid (by
     have h := HA.out
     rw [List.take_of_length_le (by simp; omega)] at h
     rw [HE.out]; exact h)
    have hlt2 : ¬ (k : Int) < (t.size : Int) := by omega
    go_wp2
    go_ret
    exact ⟨by rw [HT.out]; rfl, rfl⟩
end Go.Proofs.YtdnedbcmgkilaaaGreatDoor

end

section

namespace Go.Proofs.YtdnedbcmgkilaaaGreatDoor
set_option maxHeartbeats 1600000
set_option maxRecDepth 100000
open Go.Lib (hid)
open Go.RowKit
def RdAt (w : World) (rb : Nat) (s : BA) (o : Nat) (S : St) : Prop := w.heap[rb]? = some (.cells #[.string s, .int .i64 S.1, .int .i64 o, .int .i64 S.2] 109 (0, 0))
section
variable {w w' : World} {rb : Nat} {s : BA} {o : Nat} {S : St}
theorem RdAt.row (h : RdAt w rb s o S) : Row w rb 109 [.string s, .int .i64 S.1, .int .i64 o, .int .i64 S.2] := h
theorem RdAt.lt (h : RdAt w rb s o S) : rb < w.heap.size := (Array.getElem?_eq_some_iff.1 h).1
theorem RdAt.c0 (h : RdAt w rb s o S) : w.cell? ⟨rb, 0, none⟩ = some (.string s) := h.row.cell rfl
theorem RdAt.c1 (h : RdAt w rb s o S) : w.cell? ⟨rb, 1, none⟩ = some (.int .i64 S.1) := h.row.cell rfl
theorem RdAt.c2 (h : RdAt w rb s o S) : w.cell? ⟨rb, 2, none⟩ = some (.int .i64 o) := h.row.cell rfl
theorem RdAt.c3 (h : RdAt w rb s o S) : w.cell? ⟨rb, 3, none⟩ = some (.int .i64 S.2) := h.row.cell rfl
theorem RdAt.thaw (h : RdAt w rb s o S) (i : Nat) : w.frozen? ⟨rb, i, none⟩ = false := h.row.thaw i
theorem RdAt.keep (h : RdAt w rb s o S) (hk : w'.heap[rb]? = w.heap[rb]?) : RdAt w' rb s o S := hk.trans h
theorem RdAt.same (h : RdAt w rb s o S) (hk : Same w w') : RdAt w' rb s o S := h.keep (by rw [hk.heap])
theorem RdAt.below (h : RdAt w rb s o S) (hk : Below w.heap.size w w') : RdAt w' rb s o S := h.keep (hk.block rb h.lt)
theorem RdAt.alloc (h : RdAt w rb s o S) (ob : Obj) : RdAt (w.alloc ob) rb s o S := h.keep (Below.heap_alloc _ _ _ h.lt)
theorem RdAt.set1 (h : RdAt w rb s o S) (a : Nat) : RdAt (w.setCell ⟨rb, 1, none⟩ (.int .i64 a)) rb s o (a, S.2) := h.row.set 1 _
theorem RdAt.set2 (h : RdAt w rb s o S) (p : Nat) : RdAt (w.setCell ⟨rb, 2, none⟩ (.int .i64 p)) rb s p S := h.row.set 2 _
theorem RdAt.set3 (h : RdAt w rb s o S) (e : Nat) : RdAt (w.setCell ⟨rb, 3, none⟩ (.int .i64 e)) rb s o (S.1, e) := h.row.set 3 _
end
theorem z0d {w : World} {rb : Nat} (i : Nat) (u : Value) : Fr (· = rb) w (w.setCell ⟨rb, i, none⟩ u) := Fr.setCell (X := (· = rb)) (Fr.refl _ w) (p := ⟨rb, i, none⟩) (.inr rfl) u
def restF (s : BA) (S : St) : BA := if S.2 = 0 then s.extract S.1 s.size else ⟨#[]⟩
theorem z3h {s : BA} {S : St} (h : S.2 = 0) : (restF s S).data.toList = s.data.toList.drop S.1 := by
 unfold restF; rw [if_pos h]; simp only [ByteArray.data_extract, Array.toList_extract]; rw [List.extract_eq_take_drop, List.take_of_length_le (by simp)]
theorem z1u {s : BA} {S : St} (h : S.2 ≠ 0) : restF s S = ⟨#[]⟩ := by unfold restF; rw [if_neg h]
theorem z5h (rb : Nat) (s : BA) (o : Nat) (S : St) (w : World) (_hs : s.size <= 2000) (hS : Wf s.data.toList S) (hR : RdAt w rb s o S) :
  Calls Tryz.prog 79 #[.pointer (some ⟨rb, 0, none⟩)] w fun e w' => e = .returned (.tuple #[]) /\ RdAt w' rb s o (failF s.data.toList S) /\ Fr (· = rb) w w' := by
 obtain ⟨a, st⟩ := S
 have c0 := hR.c0
 have c1 := hR.c1
 have c3 := hR.c3
 have z3 := hR.thaw 3
 simp only at c1 c3
 have HR := hid hR
 have hle := hS.1
 rw [z05] at hle
 simp only at hle
 clear hR hS
 by_cases hst : st = 0
 ·subst hst
  by_cases he : a = s.size
  ·have HE : Hid (failF s.data.toList (a, 0) = (a, 10)) := hid (by unfold failF; simp [he])
   have HQ : Hid (RdAt (w.setCell ⟨rb, 3, none⟩ (.int .i64 10)) rb s o (a, 10)) := hid (HR.out.set3 10)
   have hB : ((a : Int) == (s.size : Int)) = true := by simp; omega
   clear he
   go_enter Tryz.func79, Tryz.ntmps79
   go_wp2
   go_quiet (fail)
   generalize hw0 : w.drewN nq = w2
   have hw2 : Same w w2 := by rw [<- hw0]; exact (Same.refl _).drewN _
   have HR2 := hid (HR.out.same hw2)
   have HF2 : Hid (Fr (· = rb) w w2) := hid (Fr.of_same hw2)
   clear hw2 hw0 HQ c0 c1 c3 z3
   have z3 := HR2.out.thaw 3
   have c3 := HR2.out.c3
   go_wp2
   go_end0
   exact ⟨rfl, by rw [HE.out]; exact HR2.out.set3 10, HF2.out.trans (z0d 3 _)⟩
  ·have HE : Hid (failF s.data.toList (a, 0) = (a, 90)) := hid (by unfold failF; simp [he])
   have hB : ((a : Int) == (s.size : Int)) = false := by simp; omega
   clear he
   go_enter Tryz.func79, Tryz.ntmps79
   go_wp2
   go_quiet (fail)
   generalize hw0 : w.drewN nq = w2
   have hw2 : Same w w2 := by rw [<- hw0]; exact (Same.refl _).drewN _
   have HR2 := hid (HR.out.same hw2)
   have HF2 : Hid (Fr (· = rb) w w2) := hid (Fr.of_same hw2)
   clear hw2 hw0 c0 c1 c3 z3
   have z3 := HR2.out.thaw 3
   have c3 := HR2.out.c3
   go_wp2
   go_end0
   exact ⟨rfl, by rw [HE.out]; exact HR2.out.set3 90, HF2.out.trans (z0d 3 _)⟩
 ·have HE : Hid (failF s.data.toList (a, st) = (a, st)) := hid (z1i hst)
  have hB : ((st : Int) != (0 : Int)) = true := by simp; omega
  go_enter Tryz.func79, Tryz.ntmps79
  go_wp2
  go_end0
  exact ⟨rfl, by rw [HE.out]; exact HR.out, Fr.refl _ _⟩
theorem z33 (rb : Nat) (s : BA) (o : Nat) (S : St) (w : World) (_hs : s.size <= 2000) (hS : Wf s.data.toList S) (hR : RdAt w rb s o S) :
  Calls Tryz.prog 114 #[.pointer (some ⟨rb, 0, none⟩)] w fun e w' => e = .returned (.string (restF s S)) /\ Same w w' := by
 obtain ⟨a, st⟩ := S
 have c0 := hR.c0
 have c1 := hR.c1
 have c3 := hR.c3
 simp only at c1 c3
 have hle := hS.1
 rw [z05] at hle
 simp only at hle
 clear hR hS
 by_cases hst : st = 0
 ·subst hst
  have HE : Hid (restF s (a, 0) = s.extract a s.size) := hid rfl
  go_enter Tryz.func114, Tryz.ntmps114
  go_wp2
  go_quiet (fail)
  go_wp2
  go_ret
  exact ⟨by rw [HE.out]; rfl, (Same.refl _).drewN _⟩
 ·have HE : Hid (restF s (a, st) = ⟨#[]⟩) := hid (z1u hst)
  have hB : ((st : Int) != (0 : Int)) = true := by simp; omega
  go_enter Tryz.func114, Tryz.ntmps114
  go_wp2
  go_ret
  exact ⟨by rw [HE.out]; rfl, Same.refl _⟩
theorem z13 (rb : Nat) (s t : BA) (o : Nat) (S : St) (w : World) (hs : s.size <= 2000) (hS : Wf s.data.toList S) (ht : 0 < t.size) (hR : RdAt w rb s o S) :
  Calls Tryz.prog 115 #[.pointer (some ⟨rb, 0, none⟩), .string t] w fun e w' => e = .returned (.bool (nextF s.data.toList t.data.toList S)) /\ Same w w' := by
 have HC := hid (z33 rb s o S w hs hS hR)
 have HE : Hid (Lib.hasPrefix (restF s S).data.toList t.data.toList = nextF s.data.toList t.data.toList S) := hid (by
  unfold nextF
  by_cases h0 : S.2 = 0
  ·rw [z3h h0]; simp [h0, Lib.hasPrefix]
  ·rw [z1u h0]; simp only [h0, decide_false, Bool.false_and, Lib.hasPrefix]
   cases ht2 : t.data.toList with
   | nil => have := z05 t; rw [ht2] at this; simp at this; omega
   | cons c r => rfl)
 clear hR hS
 go_enter Tryz.func115, Tryz.ntmps115
 go_wp2_with fail
 refine HC.out.mono ?_
 rintro e w2 ⟨rfl, hw2⟩
 have HW := hid hw2
 clear hw2 HC
 go_wp2_with fail
 refine (Tryz.strings_HasPrefix _ _ _).mono ?_
 rintro e w3 ⟨rfl, rfl⟩
 go_wp2
 go_ret
 exact ⟨by rw [<- HE.out]; rfl, HW.out⟩
end Go.Proofs.YtdnedbcmgkilaaaGreatDoor

end

section

namespace Go.Proofs.YtdnedbcmgkilaaaGreatDoor
set_option maxHeartbeats 1600000
set_option maxRecDepth 100000
open Go.Lib (hid)
open Go.RowKit
theorem z3j {s : BA} {S : St} (h : Wf s.data.toList S) : S.1 <= s.size := by have := h.1; rw [z05] at this; exact this
theorem z32 {l : List UInt8} {S T : St} (h : Ge l S T) (hS : Wf l S) : Wf l T := h.2.1 hS
theorem zax {s : BA} {S : St} {c : UInt8} (h0 : S.2 = 0) (hx : s.data.toList[S.1]? = some c) : ∃ r, restF s S = ⟨(c :: r).toArray⟩ /\ (c :: r).length + S.1 = s.size /\ c :: r = s.data.toList.drop S.1 := by
 obtain ⟨hi, he⟩ := List.getElem?_eq_some_iff.1 hx
 refine ⟨s.data.toList.drop (S.1 + 1), ?_, ?_, ?_⟩
 ·have h := z3h (s := s) h0
  rw [List.drop_eq_getElem_cons hi, he] at h
  rw [<- h]
 ·have := z05 s; simp at hi ⊢; omega
 ·rw [List.drop_eq_getElem_cons hi, he]
theorem zaw {s : BA} {S : St} (hx : S.2 = 0 -> s.data.toList[S.1]? = none) : restF s S = ⟨#[]⟩ := by
 by_cases h0 : S.2 = 0
 ·have h := z3h (s := s) h0
  have := hx h0
  rw [List.getElem?_eq_none_iff] at this
  rw [List.drop_eq_nil_iff.2 this] at h
  cases hr : restF s S with
  | mk d => rw [hr] at h; simp at h; rw [h]
 ·exact z1u h0
theorem one_in {l m : List UInt8} {S : St} {c : UInt8} (h0 : S.2 = 0) (hx : l[S.1]? = some c) (hm : c ∈ m) : oneF l m S = ([c], (S.1 + 1, 0)) := by
 unfold oneF; rw [if_pos h0, hx]; simp [hm]
theorem zhj {l m : List UInt8} {S : St} (h : ∀ c, S.2 = 0 -> l[S.1]? = some c -> c ∉ m) : oneF l m S = ([], failF l S) := by
 unfold oneF
 split
 ·rename_i h0
  split
  ·rename_i c hc; rw [if_neg (h c h0 hc)]
  ·rfl
 ·rename_i h0; rw [z1i h0]
theorem zbe : ∀ (m : List UInt8) (c : UInt8), decide (0 <= Lib.indexByte m c) = decide (c ∈ m)
 | [], c => rfl
 | b :: l, c => by
  have ih := zbe l c
  have hge := Lib.indexByte_ge l c
  rw [Lib.indexByte]
  by_cases hbc : b = c
  ·subst hbc; simp
  ·have hcb : ¬ c = b := fun e => hbc e.symm
   rw [if_neg (by simp [hbc])]
   simp only [decide_eq_decide] at ih ⊢
   rw [List.mem_cons]
   by_cases h1 : Lib.indexByte l c = -1
   ·rw [if_pos (by simp [h1])]
    rw [h1] at ih
    constructor
    ·intro h; omega
    ·rintro (h | h)
     ·exact absurd h hcb
     ·have := ih.2 h; omega
   ·rw [if_neg (by simp [h1])]
    constructor
    ·intro h; exact .inr (ih.1 (by omega))
    ·intro _; omega
theorem z95 (rb : Nat) (s m : BA) (o : Nat) (S : St) (w : World) (hs : s.size <= 2000) (hS : Wf s.data.toList S) (hR : RdAt w rb s o S) :
  Calls Tryz.prog 192 #[.pointer (some ⟨rb, 0, none⟩), .string m] w fun e w' => e = .returned (.string (ba (oneF s.data.toList m.data.toList S).1)) /\ RdAt w' rb s o (oneF s.data.toList m.data.toList S).2 /\ Fr (· = rb) w w' := by
 have HC := hid (z33 rb s o S w hs hS hR)
 have HF := hid (fun w2 (h : RdAt w2 rb s o S) => z5h rb s o S w2 hs hS h)
 have HR := hid hR
 have hle := z3j hS
 clear hR
 by_cases hx : ∃ c, S.2 = 0 /\ s.data.toList[S.1]? = some c
 ·obtain ⟨c, h0, hx⟩ := hx
  obtain ⟨r, hr1, hr2, -⟩ := zax h0 hx
  have hsz := zam c r
  have hex := zix c r
  have hcc : (c :: r).length = r.length + 1 := rfl
  have hne : ((⟨(c :: r).toArray⟩ : BA).toList.isEmpty) = false := by rw [ByteArray.toList_eq]; rfl
  rw [hr1] at HC
  have HI := hid (zbe m.data.toList c)
  by_cases hm : c ∈ m.data.toList
  ·have HE := hid (one_in h0 hx hm)
   rw [decide_eq_true hm] at HI
   obtain ⟨a, st⟩ := S
   simp only at h0 hr2 hle HE
   subst h0
   clear hx hm hr1
   go_enter Tryz.func192, Tryz.ntmps192
   go_wp2_with fail
   refine HC.out.mono ?_
   rintro e w2 ⟨rfl, hw2⟩
   have HR2 := hid (HR.out.same hw2)
   have HF2 : Hid (Fr (· = rb) w w2) := hid (Fr.of_same hw2)
   clear hw2 HC
   generalize (⟨(c :: r).toArray⟩ : BA) = R at *
   go_wp2_with fail
   refine (Tryz.strings_Contains_one _ _ _).mono ?_
   rintro e w3 ⟨rfl, rfl⟩
   rw [HI.out]
   have c1 := HR2.out.c1
   have z1 := HR2.out.thaw 1
   simp only at c1
   go_wp2
   go_ret
   rw [HE.out]
   exact ⟨rfl, HR2.out.set1 (a + 1), HF2.out.trans (z0d 1 _)⟩
  ·have HE := hid (zhj (l := s.data.toList) (m := m.data.toList) (S := S) (fun d _ hd => by rw [hx] at hd; injection hd with hd; rw [<- hd]; exact hm))
   rw [decide_eq_false hm] at HI
   clear hx hm hr1
   go_enter Tryz.func192, Tryz.ntmps192
   go_wp2_with fail
   refine HC.out.mono ?_
   rintro e w2 ⟨rfl, hw2⟩
   have HR2 := hid (HR.out.same hw2)
   have HF2 : Hid (Fr (· = rb) w w2) := hid (Fr.of_same hw2)
   clear hw2 HC
   generalize (⟨(c :: r).toArray⟩ : BA) = R at *
   go_wp2_with fail
   refine (Tryz.strings_Contains_one _ _ _).mono ?_
   rintro e w3 ⟨rfl, rfl⟩
   rw [HI.out]
   go_wp2_with fail
   refine (HF.out _ HR2.out).mono ?_
   rintro e w4 ⟨rfl, hr4, hf4⟩
   have HR4 := hid hr4
   have HF4 := hid (HF2.out.trans hf4)
   clear hr4 hf4
   go_wp2
   go_ret
   rw [HE.out]
   exact ⟨rfl, HR4.out, HF4.out⟩
 ·have hr1 : restF s S = ⟨#[]⟩ := zaw (fun h0 => by
   cases hq : s.data.toList[S.1]? with
   | none => rfl
   | some c => exact absurd ⟨c, h0, hq⟩ hx)
  have HE := hid (zhj (l := s.data.toList) (m := m.data.toList) (S := S) (fun d h0 hd => absurd ⟨d, h0, hd⟩ hx))
  rw [hr1] at HC
  clear hr1 hx
  go_enter Tryz.func192, Tryz.ntmps192
  go_wp2_with fail
  refine HC.out.mono ?_
  rintro e w2 ⟨rfl, hw2⟩
  have HR2 := hid (HR.out.same hw2)
  have HF2 : Hid (Fr (· = rb) w w2) := hid (Fr.of_same hw2)
  clear hw2 HC
  go_wp2_with fail
  refine (HF.out _ HR2.out).mono ?_
  rintro e w4 ⟨rfl, hr4, hf4⟩
  have HR4 := hid hr4
  have HF4 := hid (HF2.out.trans hf4)
  clear hr4 hf4
  go_wp2
  go_ret
  rw [HE.out]
  exact ⟨rfl, HR4.out, HF4.out⟩
theorem z0i (rb : Nat) (s t : BA) (o : Nat) (S : St) (w : World) (hs : s.size <= 2000) (ht : t.size <= 100) (hS : Wf s.data.toList S) (hR : RdAt w rb s o S) :
  Calls Tryz.prog 155 #[.pointer (some ⟨rb, 0, none⟩), .string t] w fun e w' => e = .returned (.tuple #[]) /\ RdAt w' rb s o (wordF s.data.toList t.data.toList S) /\ Fr (· = rb) w w' := by
 have HR := hid hR
 have HS := hid hS
 clear hR hS
 go_enter Tryz.func155, Tryz.ntmps155
 go_wp2
 go_loopw [7] (fun i wr => ∃ (k : Nat) (T : St), k <= t.size /\ i = .int .i64 k /\ Hid (Wf s.data.toList T) /\ Hid (RdAt wr rb s o T) /\ Hid (Fr (· = rb) w wr) /\ Hid (wordF s.data.toList t.data.toList S = wordF s.data.toList (t.data.toList.drop k) T)) (fun i _ => t.size - (intOf i).toNat)
 case atStart => exact ⟨0, S, by omega, rfl, HS, HR, hid (Fr.refl _ _), hid (by rw [List.drop_zero])⟩
 case round =>
  obtain ⟨k, T, hk, rfl, HT, HRT, HF, HW⟩ := hrel
  clear HR
  by_cases hlt : k < t.size
  ·have hc := z1s t k hlt
   have HD := hid (HW.out.trans (by rw [zdb hc, wordF]))
   have HN := hid (fun (m : BA) => z95 rb s m o T wr hs HT.out HRT.out)
   have HX : Hid ((ByteArray.extract t k (k + 1)).data.toList = [t[k]]) := hid (by rw [z4v t k hlt])
   clear hc HW
   generalize t[k] = c at *
   go_wp2_with fail
   refine (HN.out _).mono ?_
   rintro e w2 ⟨rfl, hr2, hf2⟩
   rw [HX.out] at hr2
   have HR2 := hid hr2
   have HF2 := hid (HF.out.trans hf2)
   have HT2 := hid (z32 (z1e s.data.toList [c] T) HT.out)
   clear hr2 hf2 HN HX
   go_wp2
   go_roundw
   case rel => exact ⟨k + 1, _, by omega, by go_num, HT2, HR2, HF2, HD⟩
   case measure => simp [intOf]; omega
  ·have HD : Hid (t.data.toList.drop k = []) := hid (by rw [List.drop_eq_nil_iff]; simp; omega)
   go_wp2
   go_end0
   exact ⟨rfl, by rw [HW.out, HD.out]; exact HRT.out, HF.out⟩
end Go.Proofs.YtdnedbcmgkilaaaGreatDoor

end
