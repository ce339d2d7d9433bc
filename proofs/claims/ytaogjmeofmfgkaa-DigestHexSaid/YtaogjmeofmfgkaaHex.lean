/- Hex and Parse: digits of bytes, bytes of digits. -/
import Derived.Test.YtaogjmeofmfgkaaMem
import Derived.Test.YtaogjmeofmfgkaaBuild
import Derived.WalkSpells
import Derived.Lib.IndexLaws
namespace Go.Proofs.Ytaogjmeofmfgkaa
open Go.RowKit

abbrev dA : ByteArray := ⟨#[48, 49, 50, 51, 52, 53, 54, 55, 56, 57, 97, 98, 99, 100, 101, 102]⟩
def dL : Bs := [48, 49, 50, 51, 52, 53, 54, 55, 56, 57, 97, 98, 99, 100, 101, 102]
/-- The two digits of a byte. -/
def hex1 (b : UInt8) : Bs := [dL.getD (b.toNat / 16) 0, dL.getD (b.toNat % 16) 0]
/-- The digits of the first n bytes. -/
def hexs (l : Bs) : Nat → Bs
  | 0 => []
  | i + 1 => hexs l i ++ hex1 (l.getD i 0)
theorem hexs_length (l : Bs) : ∀ i, (hexs l i).length = 2 * i
  | 0 => rfl
  | i + 1 => by rw [hexs, List.length_append, hexs_length l i]; simp [hex1]; omega
theorem dL_at (n : Nat) (h : n < 16) : dA.data.toList[n]? = some (dL.getD n 0) := by
  have hl : n < dL.length := h
  show dL[n]? = _
  rw [List.getElem?_eq_getElem hl, List.getD_eq_getElem?_getD, List.getElem?_eq_getElem hl]
  rfl

theorem run_index_str (w : World) (s : ByteArray) (k : IntKind) (n : Nat) (v : UInt8) (hv : s.data.toList[n]? = some v) : (Instr.index 9 (.string s) (.int k (n : Int))).run Try.prog w = .ok (.int .u8 (v.toNat : Int)) w := by
  have hn : n < s.size := by
    have := (List.getElem?_eq_some_iff.1 hv).1
    simpa using this
  have h1 : 0 ≤ (n : Int) ∧ (n : Int) < (s.size : Int) := by omega
  have hg : s[n] = v := by
    have := (List.getElem?_eq_some_iff.1 hv).2
    rw [← this]; rfl
  rw [run_index_string w 9 s k n Try.underlying9]
  simp [h1, hn, hg]
/-- One byte of a text. -/
theorem wpList_index_str {ops : Array Oper} {rest : List Oper} {op : Oper} {a : Act} {w : World} {Q : Exit → Act → World → Prop} (hgd : op.guard = none) (x y : Operand) (ho : op.op = .index 9 x y)
    (s : ByteArray) (k : IntKind) (i : Int) (n : Nat) (v : UInt8) (hx : a.eval x = .string s) (hy : a.eval y = .int k i) (hi : i = (n : Int)) (hv : s.data.toList[n]? = some v)
    (h : wpList Try.prog ops Q rest (a.put op.dst (.int .u8 (v.toNat : Int))) w) : wpList Try.prog ops Q (op :: rest) a w :=
  wpList_plain hgd fun _ hK => by
    subst hi
    unfold Oper.wp execOp
    simp only [ho, hx, hy, Sem.run_bind, run_index_str w s k n v hv, Sem.run_pure, Result.andThen_ok]
    exact hK _ _ h

theorem and15 (b : UInt8) : bits .and .u8 (b.toNat : Int) 15 = ((b.toNat % 16 : Nat) : Int) := by
  have := u8_and_nat b.toNat 15 b.toNat_lt (by decide)
  rw [show b.toNat &&& 15 = b.toNat % 16 from Nat.and_two_pow_sub_one_eq_mod b.toNat 4] at this
  exact this

set_option maxHeartbeats 1000000 in
theorem hex_any (s : ByteArray) (w : World) (hs : s.size ≤ 1000000) : Calls Try.prog 5 #[.string s] w fun e w' => e = .returned (.string (str (hexs s.data.toList s.size))) ∧ Below w.heap.size w w' := by
  have HB0 : Hid (Lib.IsBuilderF 31 5 w.heap.size w.heap.size (Lib.byteCells (hexs s.data.toList 0)) (w.alloc (.cells #[.pointer none, .slice none 0 0] 31))) := Lib.hid (Lib.IsBuilderF.of (Lib.fresh_isBuilder 31 5 w))
  have HW0 : Hid (Below w.heap.size w (w.alloc (.cells #[.pointer none, .slice none 0 0] 31))) := Lib.hid (below1 _ _)
  go_enter Try.func5, Try.ntmps5
  go_wp2
  generalize w.alloc (.cells #[.pointer none, .slice none 0 0] 31) = w1 at *
  go_loopw [7] (fun x wr => ∃ i : Nat, i ≤ s.size ∧ x = .int .i64 i ∧ Hid (Below w.heap.size w wr) ∧ Hid (Lib.IsBuilderF 31 5 w.heap.size w.heap.size (Lib.byteCells (hexs s.data.toList i)) wr)) (fun x _ => s.size - (intOf x).toNat)
  case atStart => exact ⟨0, by omega, rfl, HW0, HB0⟩
  case round =>
    clear HB0 HW0
    obtain ⟨i, hi, rfl, HB, HI⟩ := hrel
    by_cases hlt : i < s.size
    · have HE : Hid (hexs s.data.toList (i + 1) = hexs s.data.toList i ++ hex1 s[i]) := Lib.hid (by
        rw [hexs, show s.data.toList.getD i 0 = s[i] by simp [List.getD, hlt]; rfl])
      have hlen : (Lib.byteCells (hexs s.data.toList i)).length = 2 * i := by rw [bytes_length, hexs_length]
      have HLEN := Lib.hid hlen
      clear hlen
      generalize hsb : s[i] = b at *
      obtain ⟨d1, hq1⟩ : ∃ d, d = dL.getD (b.toNat / 16) 0 := ⟨_, rfl⟩
      obtain ⟨d2, hq2⟩ : ∃ d, d = dL.getD (b.toNat % 16) 0 := ⟨_, rfl⟩
      have HD1 : Hid (dA.data.toList[b.toNat / 16]? = some d1) := Lib.hid (by rw [hq1]; exact dL_at _ (by have := b.toNat_lt; omega))
      have HD2 : Hid (dA.data.toList[b.toNat % 16]? = some d2) := Lib.hid (by rw [hq2]; exact dL_at _ (by omega))
      have HE2 : Hid (Lib.byteCells (hexs s.data.toList (i + 1)) = Lib.byteCells (hexs s.data.toList i) ++ [.int .u8 (d1.toNat : Int)] ++ [.int .u8 (d2.toNat : Int)]) := Lib.hid (by
        rw [HE.out, hq1, hq2]; simp [Lib.byteCells, hex1])
      clear hq1 hq2 HE
      go_wp2_with ((refine wpList_index_str rfl (.const (.string dA)) _ rfl dA .u8 _ (b.toNat / 16) d1 rfl rfl (by omega) HD1.out ?_))
      refine (writeByte_any w.heap.size w.heap.size _ (d1.toNat : Int) wr HI.out (by rw [HLEN.out]; omega) HB.out.size).mono ?_
      rintro e w2 ⟨rfl, hat2, hb2, -⟩
      have HB2 : Hid (Below w.heap.size w w2) := Lib.hid (HB.out.trans hb2)
      have HI2 := Lib.hid hat2
      clear hat2 hb2 HB HI
      have ha15 := and15 b
      go_wp2_with ((refine wpList_index_str rfl (.const (.string dA)) _ rfl dA .u8 _ (b.toNat % 16) d2 rfl rfl (by first | exact ha15 | omega) HD2.out ?_))
      refine (writeByte_any w.heap.size w.heap.size _ (d2.toNat : Int) w2 (.inr HI2.out) (by rw [List.length_append, HLEN.out]; simp; omega) HB2.out.size).mono ?_
      rintro e w3 ⟨rfl, hat3, hb3, -⟩
      have HB3 : Hid (Below w.heap.size w w3) := Lib.hid (HB2.out.trans hb3)
      have HI3 : Hid (Lib.IsBuilderF 31 5 w.heap.size w.heap.size (Lib.byteCells (hexs s.data.toList (i + 1))) w3) := Lib.hid (.inr (by rw [HE2.out]; exact hat3))
      clear hat3 hb3 HB2 HI2 ha15
      go_wp2
      go_roundw
      case rel => exact ⟨i + 1, by omega, by go_num, HB3, HI3⟩
      case measure => simp [intOf]; omega
    · obtain rfl : i = s.size := by omega
      go_wp2_with fail
      refine (Try.Builder_String_any_k w.heap.size w.heap.size _ wr HI.out HB.out.size).mono ?_
      rintro e w5 ⟨rfl, -, hb5, -⟩
      go_wp2
      go_ret
      exact ⟨rfl, HB.out.trans hb5⟩
end Go.Proofs.Ytaogjmeofmfgkaa
