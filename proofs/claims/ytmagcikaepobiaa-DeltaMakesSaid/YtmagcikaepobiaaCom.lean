/- How many bytes two strings have in common; an insert, if there is any text. By package delta. -/
import Derived.Test.YtmagcikaepobiaaPlcs
import Derived.Test.YtmagcikaepobiaaDRApp
import Derived.Deep.AppendLies
import Derived.Deep.QuietTactic
import Derived.BigQuiet
namespace Go.Proofs.Ytmagcikaepobiaa.Dl
open Go.RowKit

theorem drew_more {w wr : World} (h : ∃ m, wr = w.drewN m) (n : Nat) : ∃ m, wr.drewN n = w.drewN m := by
  obtain ⟨m, rfl⟩ := h
  exact ⟨m + n, World.drewN_drewN _ _ _⟩

set_option maxHeartbeats 3200000 in
set_option maxRecDepth 100000 in
theorem common_any (w : World) (a b : BA) (ha : a.size ≤ 140737488351232) (hb : b.size ≤ 140737488351232) : Calls Try.prog 30 #[.string a, .string b] w fun e w' => e = .returned (.int .i64 (comF a.data.toList b.data.toList)) ∧ ∃ m, w' = w.drewN m := by
  go_enter Try.func30, Try.ntmps30
  go_wp2
  all_goals
    go_loopw [13] (fun i wr => ∃ k : Nat, k ≤ min a.size b.size ∧ i = .int .i64 k ∧ Hid (comF a.data.toList b.data.toList = k + comF (a.data.toList.drop k) (b.data.toList.drop k)) ∧ Hid (∃ m, wr = w.drewN m)) (fun i _ => min a.size b.size - (intOf i).toNat)
    case atStart => exact ⟨0, by omega, rfl, Lib.hid (by simp), Lib.hid ⟨0, rfl⟩⟩
    case round =>
      obtain ⟨k, hk, rfl, HC, HB⟩ := hrel
      by_cases hlt : k < min a.size b.size
      · have ha2 : (k : Int) < (a.size : Int) := by omega
        have hb2 : (k : Int) < (b.size : Int) := by omega
        have HD := Lib.hid (comF_drop (a := a.data.toList) (b := b.data.toList) (i := k) (by rw [BA.len]; omega) (by rw [BA.len]; omega))
        have hA : k < a.size := by omega
        have hB : k < b.size := by omega
        have gA : a.data.toList[k]'(by rw [BA.len]; exact hA) = a[k]'hA := by simp [ByteArray.getElem_eq_getElem_data]
        have gB : b.data.toList[k]'(by rw [BA.len]; exact hB) = b[k]'hB := by simp [ByteArray.getElem_eq_getElem_data]
        rw [gA, gB] at HD
        by_cases he : a[k]'hA = b[k]'hB
        · have hne : (((a[k]'hA).toNat : Int) != ((b[k]'hB).toNat : Int)) = false := by rw [he]; simp
          have HC2 : Hid (comF a.data.toList b.data.toList = (k + 1 : Nat) + comF (a.data.toList.drop (k + 1)) (b.data.toList.drop (k + 1))) := Lib.hid (by rw [HC.out, HD.out, if_pos he]; omega)
          clear gA gB HD HC he
          go_wp2
          go_quiet (fail)
          go_wp2
          go_roundw
          case rel => exact ⟨k + 1, by omega, by go_num, HC2, Lib.hid (drew_more HB.out _)⟩
          case measure => simp [intOf]; omega
        · have hne : (((a[k]'hA).toNat : Int) != ((b[k]'hB).toNat : Int)) = true := by
            rw [bne_iff_ne]; intro e; exact he (UInt8.toNat_inj.1 (by omega))
          have HC2 : Hid (comF a.data.toList b.data.toList = k) := Lib.hid (by rw [HC.out, HD.out, if_neg he]; rfl)
          clear gA gB HD HC he
          go_wp2
          go_quiet (fail)
          go_wp2
          go_ret
          exact ⟨ret_int (by rw [HC2.out]), drew_more HB.out _⟩
      · have HE : Hid (comF a.data.toList b.data.toList = min a.size b.size) := Lib.hid (by
          have : k = min a.size b.size := by omega
          rw [HC.out, comF_end (by rw [BA.len, BA.len]; omega), this]; rfl)
        go_wp2
        go_ret
        exact ⟨ret_int (by rw [HE.out]; omega), HB.out⟩

theorem insD_no {d : List Opr} {t : BA} (h : t.size = 0) : insD d t = d := by unfold insD; rw [if_pos h]
theorem insD_yes {d : List Opr} {t : BA} (h : t.size ≠ 0) : insD d t = d ++ [⟨0, 0, t⟩] := by unfold insD; rw [if_neg h]

set_option maxHeartbeats 3200000 in
set_option maxRecDepth 100000 in
theorem inserted_any (B : Nat) (w : World) (v : Value) (d : List Opr) (t : BA) (hv : Own w B v d) (hB : B ≤ w.heap.size) (hl : d.length ≤ 1000000) (ht : t.size ≤ 140737488351232) :
    Calls Try.prog 31 #[v, .string t] w fun e w' => ∃ v', e = .returned v' ∧ Own w' B v' (insD d t) ∧ Below B w w' := by
  obtain ⟨i0, hi, hz0, hz1, hz2⟩ := info_parts infoOp
  rcases text_cases t with rfl | h0
  · have HI := Lib.hid (insD_no (d := d) (t := ByteArray.empty) rfl)
    rw [HI.out]
    obtain ⟨a, cap, rfl⟩ := owns_slice hv
    have HV := Lib.hid hv
    clear hv
    go_enter Try.func31, Try.ntmps31
    go_wp2
    go_ret
    exact ⟨_, rfl, HV.out, Below.refl _ _⟩
  · have HI := Lib.hid (insD_yes (d := d) h0)
    rw [HI.out]
    have e1 := size_pos_of h0
    have e2 := toList_ne h0
    have HV := Lib.hid hv
    obtain ⟨a, cap, rfl⟩ := owns_slice hv
    clear hv h0
    go_enter Try.func31, Try.ntmps31
    go_wp2_with (at_builtin; refine wpList_append_lies _ rfl _ _ 22 rfl B 30 i0 _ 3 32 Try.underlying22 hi hz0 hz1 hz2 rfl (by decide) _ _ _ rfl (HV.out.alloc _) _ 1 1 [.int .i64 0, .int .i64 0, .string t] rfl rfl (cell_n3 _ _ _ _ _ rfl) (by simp [Value.oneCell']) (by decide) (by unfold maxLen; omega) (by omega) (by simp; omega) (w.heap.size + 1) (by simp) ?_)
    intro g c w1 hown hgrow _ _
    have HO : Hid (Own w1 B (.slice (some ⟨g, 0, none⟩) (d.length + 1) c) (d ++ [⟨0, 0, t⟩])) := Lib.hid (by unfold Own; rw [flat_append, List.length_append]; exact hown)
    have HB : Hid (Below B w w1) := Lib.hid (((Below.refl B w).alloc hB _).grown hgrow (by simp; omega) (fun k hk => by
      cases a with
      | none => cases hk
      | some ad =>
        have := own_base HV.out ad rfl
        have e : ad.block = k := by simpa [Value.ownBlock] using hk
        omega))
    clear hown hgrow
    go_wp2
    go_ret
    exact ⟨_, rfl, HO.out, HB.out⟩
end Go.Proofs.Ytmagcikaepobiaa.Dl
