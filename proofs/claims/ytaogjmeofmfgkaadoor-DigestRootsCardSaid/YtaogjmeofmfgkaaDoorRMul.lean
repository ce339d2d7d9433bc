/- The document's product. -/
import Derived.Test.YtaogjmeofmfgkaaDoorRProd
namespace Go.Proofs.YtaogjmeofmfgkaaDoor
open Go.RowKit

/-- While rows are added. -/
structure PI (G : Nat) (w1 : World) (n z V : Nat) (O : List Nat) (W : World) : Prop where
  row : Row W G 3 (nats O)
  len : O.length = n
  dig : DigAll O
  val : valD O = V
  zero : ∀ k, z ≤ k → O.getD k 0 = 0
  but : But G w1 W
/-- Within a row. -/
structure QI (G : Nat) (w1 : World) (n z k C V : Nat) (O : List Nat) (W : World) : Prop where
  row : Row W G 3 (nats O)
  len : O.length = n
  dig : DigAll O
  carry : C < 65536
  val : valD O + C * 65536 ^ k = V
  zero : ∀ k, z ≤ k → O.getD k 0 = 0
  but : But G w1 W
theorem row_val (T A I J B X : Nat) : T + A * I * (X + J * B) = T + A * I * X + A * B * (I * J) := by
  rw [Nat.mul_add, ← Nat.add_assoc]
  congr 1
  ac_rfl
theorem QI.step {G : Nat} {w1 : World} {n z k C V A B : Nat} {O : List Nat} {W W' : World} (h : QI G w1 n z k C V O W) (hk : k < n) (hkz : k < z) (hA : A < 65536) (hB : B < 65536) {V' : Nat} (hV : V' = V + A * B * 65536 ^ k)
    (hr : Row W' G 3 ((nats O).set k (.int .i64 (((O.getD k 0 + A * B + C) % 65536 : Nat) : Int)))) (hb : But G w1 W') :
    QI G w1 n z (k + 1) ((O.getD k 0 + A * B + C) / 65536) V' (O.set k ((O.getD k 0 + A * B + C) % 65536)) W' where
  row := by rw [nats_set] at hr; exact hr
  len := by rw [List.length_set]; exact h.len
  dig := h.dig.set _ _ (Nat.mod_lt _ (by decide))
  carry := (step_carry _ A B C (h.dig.getD k) hA hB h.carry).1
  val := by rw [hV]; exact step_val O k A B C V (by rw [h.len]; exact hk) h.val
  zero := fun q hq => by
    rw [List.getD_eq_getElem?_getD, List.getElem?_set_ne (by omega), ← List.getD_eq_getElem?_getD]
    exact h.zero q hq
  but := hb
theorem QI.close {G : Nat} {w1 : World} {n z C V : Nat} {O : List Nat} {W W' : World} (h : QI G w1 n z z C V O W) (hz : z < n) (hr : Row W' G 3 ((nats O).set z (.int .i64 ((C : Nat) : Int)))) (hb : But G w1 W') : PI G w1 n (z + 1) V (O.set z C) W' where
  row := by rw [nats_set] at hr; exact hr
  len := by rw [List.length_set]; exact h.len
  dig := h.dig.set _ _ h.carry
  val := by
    have h1 := valD_set O z C (by rw [h.len]; exact hz)
    rw [h.zero z (Nat.le_refl _), Nat.mul_zero, Nat.add_zero] at h1
    rw [h1, ← h.val, Nat.mul_comm C]
  zero := fun q hq => by
    rw [List.getD_eq_getElem?_getD, List.getElem?_set_ne (by omega), ← List.getD_eq_getElem?_getD]
    exact h.zero q (by omega)
  but := hb

set_option maxHeartbeats 2000000 in
set_option maxRecDepth 100000 in
theorem product_any (va vb : Value) (a b : List Nat) (w : World) (hal : a.length ≤ 50) (hbl : b.length ≤ 50) (hA : DR w va a) (hB : DR w vb b) : Calls Tryd.prog 30 #[va, vb] w fun e w' => ∃ v l, e = .returned v ∧ DR w' v l ∧ valD l = valD a * valD b ∧ l.length = a.length + b.length ∧ Below w.heap.size w w' := by
  obtain ⟨⟨g1, cap1, rfl, -, hg1, ha⟩, hda⟩ := hA
  obtain ⟨⟨g2, cap2, rfl, -, hg2, hb⟩, hdb⟩ := hB
  have HA := Lib.hid ha
  have HB := Lib.hid hb
  clear ha hb
  have hmk := make_any w (a.length + b.length) (by omega)
  have HP0 : Hid (PI w.heap.size (w.alloc (.cells (nats (List.replicate (a.length + b.length) 0)).toArray 3)) (a.length + b.length) (0 + b.length) (valD (a.take 0) * valD b) (List.replicate (a.length + b.length) 0) (w.alloc (.cells (nats (List.replicate (a.length + b.length) 0)).toArray 3))) := Lib.hid {
    row := row_new w (nats (List.replicate (a.length + b.length) 0)).toArray 3
    len := by simp
    dig := fun d hd => by rw [List.eq_of_mem_replicate hd]; decide
    val := by
      have := valD_zeros (a.length + b.length) []
      rw [List.append_nil] at this
      rw [this]; simp [valD]
    zero := fun k _ => by
      by_cases hk : k < a.length + b.length
      · simp [List.getD, hk]
      · exact getD_out _ _ (by simp; omega)
    but := But.refl _ _ }
  have HB1 := Lib.hid (below1 w (.cells (nats (List.replicate (a.length + b.length) 0)).toArray 3))
  have hsum : ((a.length + b.length : Nat) : Int) = (a.length : Int) + (b.length : Int) := by omega
  rw [hsum] at hmk
  generalize List.replicate (a.length + b.length) 0 = O0 at *
  generalize w.alloc (.cells (nats O0).toArray 3) = w1 at *
  go_enter Tryd.func30, Tryd.ntmps30
  go_wp2
  go_loopw [18] (fun x wr => ∃ (i : Nat) (O : List Nat), i ≤ a.length ∧ x = .int .i64 i ∧ Hid (PI w.heap.size w1 (a.length + b.length) (i + b.length) (valD (a.take i) * valD b) O wr)) (fun x _ => a.length - (intOf x).toNat)
  case atStart => exact ⟨0, O0, by omega, rfl, HP0⟩
  case round =>
    clear HP0
    obtain ⟨i, O, hi, rfl, HP⟩ := hrel
    by_cases hia : i < a.length
    · have HVI : Hid (∀ j, valD (a.take i) * valD b + a.getD i 0 * 65536 ^ i * valD (b.take j) = valD (a.take i) * valD b + a.getD i 0 * 65536 ^ i * valD (b.take j)) := Lib.hid (fun _ => rfl)
      have hA1 := hda.getD i
      have HQ0 : Hid (QI w.heap.size w1 (a.length + b.length) (i + b.length) (i + 0) 0 (valD (a.take i) * valD b + a.getD i 0 * 65536 ^ i * valD (b.take 0)) O wr) := Lib.hid { row := HP.out.row, len := HP.out.len, dig := HP.out.dig, carry := by decide, val := by rw [HP.out.val]; simp [valD], zero := HP.out.zero, but := HP.out.but }
      have HAI := Lib.hid (valD_take a i hia)
      have HCA : Hid (w.cell? ⟨g1, i, none⟩ = some (.int .i64 ((a.getD i 0 : Nat) : Int))) := Lib.hid (HA.out i hia)
      clear HP HVI
      generalize a.getD i 0 = A at *
      go_wp2
      go_loopw [7, 23] (fun c x wr => ∃ (j C : Nat) (O : List Nat), j ≤ b.length ∧ x = .int .i64 j ∧ c = .int .i64 C ∧ C < 65536 ∧ Hid (QI w.heap.size w1 (a.length + b.length) (i + b.length) (i + j) C (valD (a.take i) * valD b + A * 65536 ^ i * valD (b.take j)) O wr)) (fun _ x _ => b.length - (intOf x).toNat)
      case atStart => exact ⟨0, 0, O, by omega, rfl, rfl, by omega, HQ0⟩
      case round =>
        clear HQ0
        obtain ⟨j, C, O, hj, rfl, rfl, hC, HQ⟩ := hrel
        have hBW : Below w.heap.size w wr := HB1.out.trans (HQ.out.but.below (Nat.le_refl _))
        by_cases hjb : j < b.length
        · have hB1 := hdb.getD j
          have hO1 := HQ.out.dig.getD (i + j)
          have hlen := HQ.out.len
          have c1 : wr.cell? ⟨g1, i, none⟩ = some (.int .i64 (A : Int)) := (hBW.cell (p := ⟨g1, i, none⟩) hg1).trans HCA.out
          have c2 : wr.cell? ⟨g2, j, none⟩ = some (.int .i64 ((b.getD j 0 : Nat) : Int)) := (hBW.cell (p := ⟨g2, j, none⟩) hg2).trans (HB.out j hjb)
          have c3 : wr.cell? ⟨w.heap.size, i + j, none⟩ = some (.int .i64 ((O.getD (i + j) 0 : Nat) : Int)) := HQ.out.row.cell (nats_at O (i + j) (by omega))
          have HST : Hid (∀ W', Row W' w.heap.size 3 ((nats O).set (i + j) (.int .i64 (((O.getD (i + j) 0 + A * b.getD j 0 + C) % 65536 : Nat) : Int))) → But w.heap.size w1 W' → QI w.heap.size w1 (a.length + b.length) (i + b.length) (i + (j + 1)) ((O.getD (i + j) 0 + A * b.getD j 0 + C) / 65536) (valD (a.take i) * valD b + A * 65536 ^ i * valD (b.take (j + 1))) (O.set (i + j) ((O.getD (i + j) 0 + A * b.getD j 0 + C) % 65536)) W') := Lib.hid (fun W' h1 h2 => by
            have := HQ.out.step (A := A) (B := b.getD j 0) (by omega) (by omega) hA1 hB1 (V' := valD (a.take i) * valD b + A * 65536 ^ i * valD (b.take (j + 1))) (by rw [valD_take b j hjb, row_val, Nat.pow_add]) h1 h2
            rwa [Nat.add_assoc] at this)
          have hsc := step_carry (O.getD (i + j) 0) A (b.getD j 0) C hO1 hA1 hB1 hC
          generalize O.getD (i + j) 0 = o at *
          generalize b.getD j 0 = B at *
          obtain ⟨P, hP⟩ : ∃ P, P = A * B := ⟨_, rfl⟩
          have hPi : (A : Int) * (B : Int) = (P : Int) := by rw [hP]; exact (Int.natCast_mul A B).symm
          rw [← hP] at HST hsc
          have p1 : IntKind.i64.wrap ((i : Int) + (j : Int)) = (i : Int) + (j : Int) := IntWalk.i64_in _ (by omega)
          have p2 : ((i : Int) + (j : Int)).toNat = i + j := by omega
          have p3 : (i : Int) + (j : Int) < (a.length : Int) + (b.length : Int) := by omega
          have p3' : (i : Int) + (j : Int) < ((a.length + b.length : Nat) : Int) := by omega
          have p4 : 0 ≤ (i : Int) + (j : Int) := by omega
          have p5 : IntKind.i64.wrap (P : Int) = (P : Int) := IntWalk.i64_in _ (by omega)
          have p6 : IntKind.i64.wrap ((o : Int) + (P : Int)) = (o : Int) + (P : Int) := IntWalk.i64_in _ (by omega)
          have p7 : IntKind.i64.wrap ((o : Int) + (P : Int) + (C : Int)) = (o : Int) + (P : Int) + (C : Int) := IntWalk.i64_in _ (by omega)
          have q1 : (i : Int) < (a.length : Int) := by omega
          have q2 : (j : Int) < (b.length : Int) := by omega
          clear hP hA1 hB1 hO1
          have HR := Lib.hid HQ.out.row
          have HBt := Lib.hid HQ.out.but
          clear HQ
          go_wp2
          go_quiet (fail)
          obtain ⟨X, hX⟩ : ∃ X, X = o + P + C := ⟨_, rfl⟩
          have hXi : (o : Int) + (P : Int) + (C : Int) = (X : Int) := by omega
          rw [← hX] at HST hsc
          have hm : ((X % 65536 : Nat) : Int) = (X : Int) % 65536 := by omega
          have HX := Lib.hid hX
          rw [hm] at HST
          rw [hXi]
          have HR2 : Hid (Row (wr.drewN nq) w.heap.size 3 (nats O)) := Lib.hid (HR.out.keep rfl)
          have HBt2 : Hid (But w.heap.size w1 (wr.drewN nq)) := Lib.hid (HBt.out.drewN nq)
          have d3 : (wr.drewN nq).cell? ⟨w.heap.size, i + j, none⟩ = some (.int .i64 (o : Int)) := c3
          have f3 := HR2.out.thaw (i + j)
          clear HR HBt c1 c2 c3 hX hXi hm p5 p6 p7 hPi
          generalize wr.drewN nq = wq at *
          go_wp2
          refine ⟨⟨j + 1, X / 65536, _, by omega, by go_num, by go_num, hsc.1, Lib.hid (HST.out _ (HR2.out.set (i + j) _) (HBt2.out.set (i + j) _))⟩, ?_⟩
          simp [intOf]; omega
        · obtain rfl : j = b.length := by omega
          have HQB : Hid (QI w.heap.size w1 (a.length + b.length) (i + b.length) (i + b.length) C (valD (a.take (i + 1)) * valD b) O wr) := Lib.hid (by
            have h := HQ.out
            rw [List.take_length] at h
            have e : valD (a.take (i + 1)) * valD b = valD (a.take i) * valD b + A * 65536 ^ i * valD b := by rw [HAI.out, Nat.add_mul, Nat.mul_comm (65536 ^ i) A]
            rw [e]; exact h)
          have hlen := HQ.out.len
          have c3 : wr.cell? ⟨w.heap.size, i + b.length, none⟩ = some (.int .i64 0) := by
            have := HQ.out.row.cell (nats_at O (i + b.length) (by omega))
            rw [HQ.out.zero _ (Nat.le_refl _)] at this
            exact this
          have f3 := HQ.out.row.thaw (i + b.length)
          have p2 : ((i : Int) + (b.length : Int)).toNat = i + b.length := by omega
          have p3 : (i : Int) + (b.length : Int) < (a.length : Int) + (b.length : Int) := by omega
          have p3' : (i : Int) + (b.length : Int) < ((a.length + b.length : Nat) : Int) := by omega
          have HPC : Hid (PI w.heap.size w1 (a.length + b.length) (i + b.length + 1) (valD (a.take (i + 1)) * valD b) (O.set (i + b.length) C) (wr.setCell ⟨w.heap.size, i + b.length, none⟩ (.int .i64 (C : Int)))) := Lib.hid (HQB.out.close (by omega) (HQB.out.row.set _ _) (HQB.out.but.set _ _))
          clear HQ HQB
          go_wp2
          refine ⟨⟨i + 1, _, by omega, by go_num, by rw [show i + 1 + b.length = i + b.length + 1 by omega]; exact HPC⟩, ?_⟩
          simp [intOf]; omega
    · obtain rfl : i = a.length := by omega
      have HV : Hid (valD O = valD a * valD b) := Lib.hid (by rw [HP.out.val, List.take_length])
      go_wp2
      go_ret
      refine ⟨_, O, rfl, ⟨⟨w.heap.size, a.length + b.length, ?_, ?_, HP.out.row.lt, fun j hj => HP.out.row.cell (nats_at O j hj)⟩, HP.out.dig⟩, HV.out, HP.out.len, HB1.out.trans (HP.out.but.below (Nat.le_refl _))⟩
      · rw [HP.out.len]; rfl
      · rw [HP.out.len]; exact Nat.le_refl _
end Go.Proofs.YtaogjmeofmfgkaaDoor
