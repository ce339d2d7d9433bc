/- Sum: the digest of what was added. -/
import Derived.Test.YtmaafhhdbhkplaaDoorAdd
import Derived.Laws.OwnMore
import Derived.Laws.IdiomStrings
namespace Go.Proofs.YtmaafhhdbhkplaaDoor
open Go.RowKit

theorem add_nil (s : ByteArray) (w : World) : Calls Tryd.prog 41 #[.pointer none, .string s] w fun e w' => e = .returned (.tuple #[]) ∧ w = w' := by
  go_enter Tryd.func41, Tryd.ntmps41
  go_wp2
  exact bodyPost_ret (v := .tuple #[]) (by simp [results, Tryd.results41, go_sem]) rfl ⟨rfl, rfl⟩
theorem sum_nil (w : World) : Calls Tryd.prog 42 #[.pointer none] w fun e w' => e = .returned (.string ⟨#[]⟩) ∧ w = w' := by
  go_enter Tryd.func42, Tryd.ntmps42
  go_wp2
  go_ret
  exact ⟨rfl, rfl⟩

theorem wpList_store_list {P : Program} {ops : Array Oper} {rest : List Oper} {op : Oper} {a : Act} {w : World} {Q : Exit → Act → World → Prop} (hgd : op.guard = none) (hd : op.dst = none) (ty : TypeId) (x y : Operand) (ho : op.op = .store ty x y)
    (b o : Nat) (cells : List Value) (hx : a.eval x = .pointer (some ⟨b, o, none⟩)) (hy : a.eval y = .agg cells.toArray)
    (ht : w.there b o cells.toArray.size) (hi : (P.info? ty).map (·.size) = some cells.toArray.size) (h1 : cells.toArray.all (·.oneCell') = true)
    (h : wpList P ops Q rest a (w.setCells b o cells)) : wpList P ops Q (op :: rest) a w :=
  wpList_store_row hgd hd ty x y ho b o cells.toArray hx hy ht hi h1 (by rw [List.toList_toArray]; exact h)

/-- The four bytes of a word, the highest first. -/
def be4 (x : Int) : Bs := [UInt8.ofNat (x.toNat / 16777216), UInt8.ofNat (x.toNat / 65536), UInt8.ofNat (x.toNat / 256), UInt8.ofNat x.toNat]
def be4s (l : List Int) : Nat → Bs
  | 0 => []
  | i + 1 => be4s l i ++ be4 (l.getD i 0)
theorem be4s_length (l : List Int) : ∀ i, (be4s l i).length = 4 * i
  | 0 => rfl
  | i + 1 => by rw [be4s, List.length_append, be4s_length l i]; simp [be4]; omega
/-- The digest. -/
def shaF (m : Bs) : Bs := be4s (stW (m ++ padF m.length)).list 8
theorem shaF_length (m : Bs) : (shaF m).length = 32 := be4s_length _ 8

theorem new_cells (w : World) (cs : Array Value) (t : TypeId) : ∀ j u, cs.toList[j]? = some u → (w.alloc (.cells cs t)).cell? ((⟨w.heap.size, 0, none⟩ : Addr).add j) = some u := by
  intro j u h
  rw [Addr.add_mid, Nat.zero_add]
  exact (row_new w cs t).cell h
theorem ownsRow_slice {w : World} {base : Nat} {e : TypeId} {size : Nat} {v : Value} {n : Nat} {xs : List Value} (h : w.ownsRow base e size v n xs) : ∃ a cap, v = .slice a n cap := by
  rcases h.2 with ⟨rfl, h0⟩ | ⟨g, cap, cur, rfl, -⟩
  · exact ⟨none, 0, by rw [h0]⟩
  · exact ⟨_, cap, rfl⟩
theorem be4_cells (X : Nat) (h : X < 4294967296) : (be4 (X : Int)).map (fun b : UInt8 => Value.int .u8 (b.toNat : Int)) = [.int .u8 ((X : Int) / 16777216), .int .u8 ((X : Int) / 65536 % 256), .int .u8 ((X : Int) / 256 % 256), .int .u8 ((X : Int) % 256)] := by
  simp only [be4, List.map_cons, List.map_nil, Int.toNat_natCast, UInt8.toNat_ofNat']
  have e1 : ((X / 16777216 % 2 ^ 8 : Nat) : Int) = (X : Int) / 16777216 := by omega
  have e2 : ((X / 65536 % 2 ^ 8 : Nat) : Int) = (X : Int) / 65536 % 256 := by omega
  have e3 : ((X / 256 % 2 ^ 8 : Nat) : Int) = (X : Int) / 256 % 256 := by omega
  have e4 : ((X % 2 ^ 8 : Nat) : Int) = (X : Int) % 256 := by omega
  rw [e1, e2, e3, e4]
/-- Bytes of a row of the call's own, as a string. -/
theorem bytes_back {w : World} {base : Nat} {a : Option Addr} {n cap : Nat} {l : Bs} (h : w.ownsRow base 5 1 (.slice a n cap) n (Lib.byteCells l)) (hl : l.length = n) (hn : 0 < n := by decide) : (convert 65 9 (.slice a n cap)).run Tryd.prog w = .ok (.string (str l)) w := by
  subst hl
  rcases h.2 with ⟨hv, h0⟩ | ⟨g, cap', cur, hv, -, hg, hr⟩
  · omega
  · injection hv with h1 h2 h3
    subst h1 h3
    obtain ⟨-, -, -, ht⟩ := hr
    refine run_convert_bytes_back (P := Tryd.prog) w 65 9 5 ⟨g, 0, none⟩ cap l Tryd.underlying65 Tryd.underlying5 Tryd.underlying9 (fun j hj => ?_)
    rw [Addr.add_mid, Nat.zero_add]
    have hc : w.cell? ⟨g, j, none⟩ = cur[j]? := by simp [World.cell?, hg]
    rw [hc, ← Array.getElem?_toList]
    have h5 : (cur.toList.take (l.length * 1))[j]? = cur.toList[j]? := List.getElem?_take_of_lt (by omega)
    rw [← h5, ht]
    simp [Lib.byteCells, hj]

set_option maxHeartbeats 1000000 in
set_option maxRecDepth 100000 in
theorem sum_any (w : World) (b : Nat) (m : Bs) (h : HashAt w b m) (ht : Tab w) (hm : m.length ≤ 1000000000000) :
    Calls Tryd.prog 42 #[.pointer (some ⟨b, 0, none⟩)] w fun e w' => e = .returned (.string (str (shaF m))) ∧ Below w.heap.size w w' := by
  obtain ⟨ws, bl, hin⟩ := h
  have hlt := hin.row.lt
  have hcl : (hcells m.length ws bl).length = 73 := by rw [hcells_length, hin.wl, hin.bll]
  have HI : Hid ((Tryd.prog.info? 72).map (·.size) = some (hcells m.length ws bl).length) := Lib.hid (by rw [hcl]; exact info55)
  have HI2 : Hid ((Tryd.prog.info? 72).map (·.size) = some (hcells m.length ws bl).toArray.size) := Lib.hid (by rw [List.size_toArray]; exact HI.out)
  have h1c : (hcells m.length ws bl).toArray.all (·.oneCell') = true := all_oneCell_toArray (fun v hv => by
    rw [hcells, List.mem_cons, List.mem_append] at hv
    rcases hv with rfl | hv | hv
    · rfl
    · obtain ⟨x, -, rfl⟩ := List.mem_map.1 hv; rfl
    · obtain ⟨x, -, rfl⟩ := List.mem_map.1 hv; rfl)
  have H1C := Lib.hid h1c
  have HRG : Hid (w.rangeAt b 0 (hcells m.length ws bl)) := Lib.hid hin.row.range
  have hc0 := hin.c0
  have RN := row_new w z73 72
  have HTH : Hid ((w.alloc (.cells z73 72)).there w.heap.size 0 (hcells m.length ws bl).toArray.size) := Lib.hid (RN.there 0 _ (by rw [List.size_toArray, hcl]; simp))
  have RS := RN.setAll (hcells m.length ws bl) (by rw [hcl]; rfl)
  have HBT : Hid (But w.heap.size (w.alloc (.cells z73 72)) ((w.alloc (.cells z73 72)).setCells w.heap.size 0 (hcells m.length ws bl))) := Lib.hid (but_setCells _ _ _ _)
  have HIN2 : Hid (HashAt ((w.alloc (.cells z73 72)).setCells w.heap.size 0 (hcells m.length ws bl)) w.heap.size m) := Lib.hid ⟨ws, bl, { hin with row := RS }⟩
  have HB2 : Hid (Below w.heap.size w ((w.alloc (.cells z73 72)).setCells w.heap.size 0 (hcells m.length ws bl))) := Lib.hid ((below1 _ _).trans (HBT.out.below (Nat.le_refl _)))
  have HT2 : Hid (Tab ((w.alloc (.cells z73 72)).setCells w.heap.size 0 (hcells m.length ws bl))) := Lib.hid (ht.below HB2.out)
  have hc2 : ((w.alloc (.cells z73 72)).setCells w.heap.size 0 (hcells m.length ws bl)).cell? ⟨b, 0, none⟩ = some (.int .u64 m.length) := (HB2.out.cell (p := ⟨b, 0, none⟩) hlt).trans hc0
  have HPOS : Hid (0 < w.heap.size) := Lib.hid ht.pos
  clear RN RS h1c hcl hin ht
  go_enter Tryd.func42, Tryd.ntmps42
  first
    | (go_wp2_with ((refine wpList_load_mid rfl 72 _ rfl b 0 rfl (hcells m.length ws bl) _ HRG.out Tryd.underlying72 rfl HI.out ?_))
       rw [zero55]
       simp only [Result.andThen]
       rw [Oper.upon_value]
       go_wp2_with ((refine wpList_store_list rfl rfl 72 _ _ rfl w.heap.size 0 (hcells m.length ws bl) rfl rfl HTH.out HI2.out H1C.out ?_)))
    | (have hc2' : ((w.alloc (.cells Tryd.zeroCells72 72)).setCells w.heap.size 0 (hcells m.length ws bl)).cell? ⟨b, 0, none⟩ = some (.int .u64 m.length) := hc2
       go_wp2_with (first
         | (refine wpList_load_mid rfl 72 _ rfl b 0 rfl (hcells m.length ws bl) _ HRG.out Tryd.underlying72 rfl HI.out ?_)
         | (refine wpList_store_list rfl rfl 72 _ _ rfl w.heap.size 0 (hcells m.length ws bl) rfl rfl HTH.out HI2.out H1C.out ?_))
       rw [show Tryd.zeroCells72 = z73 from rfl]
       clear hc2')
  generalize (w.alloc (.cells z73 72)).setCells w.heap.size 0 (hcells m.length ws bl) = w2 at *
  clear HTH HBT HRG hc0 hc2 HI HI2 H1C hlt
  refine (padding_any m.length w2 (by omega)).mono ?_
  rintro e w3 ⟨rfl, hb3⟩
  have HIN3 : Hid (HashAt w3 w.heap.size m) := Lib.hid (HIN2.out.keep (hb3.block _ HIN2.out.lt))
  have HB3 : Hid (Below w.heap.size w w3) := Lib.hid (below_trans HB2.out hb3)
  have HT3 : Hid (Tab w3) := Lib.hid (HT2.out.below hb3)
  have hpl := padF_length m.length
  have hmod := padF_whole m.length
  generalize hPP : padF m.length = PP at hpl hmod ⊢
  have HPP := Lib.hid hPP
  have HMOD := Lib.hid hmod
  have hps : (str PP).size = PP.length := by show PP.toArray.size = _; simp
  have hple : PP.length ≤ 80 := by
    rw [hpl]
    have := Nat.mod_lt (119 - m.length % 64) (show 0 < 64 by decide)
    omega
  have hpge : 9 ≤ PP.length := by rw [hpl]; omega
  clear hPP hpl hmod hb3 HIN2 HB2 HT2
  go_wp2_with fail
  refine (add_any (str PP) w3 w.heap.size m HIN3.out (by have := HPOS.out; omega) HT3.out (by rw [hps]; omega)).mono ?_
  rintro e w4 ⟨rfl, hat4, hnx4⟩
  have HB4 : Hid (Below w.heap.size w w4) := Lib.hid ⟨hnx4.os.trans HB3.out.os, hnx4.tape.trans HB3.out.tape, hnx4.output.trans HB3.out.output, Nat.le_trans HB3.out.size hnx4.size, fun k hk => (hnx4.block k (Nat.lt_of_lt_of_le hk HB3.out.size) (by omega)).trans (HB3.out.block k hk)⟩
  obtain ⟨ws4, bl4, hin4⟩ := hat4
  have hlist : (str PP).data.toList = PP := by simp
  rw [hlist] at hin4
  have HWS : Hid (ws4 = (stW (m ++ PP)).list) := Lib.hid (hin4.words (by
    have := HMOD.out
    rw [List.length_append]
    omega))
  have HWL : Hid (ws4.length = 8) := Lib.hid hin4.wl
  have HRG4 : Hid (w4.rangeAt w.heap.size 1 (u32s ws4)) := Lib.hid hin4.words_at
  have HI4 : Hid ((Tryd.prog.info? 69).map (·.size) = some (u32s ws4).length) := Lib.hid (by rw [List.length_map, HWL.out]; exact info52)
  have HWD : Hid (WdAll ws4) := Lib.hid (by
    rw [HWS.out]
    have hok := stW_ok (m ++ PP)
    intro x hx
    simp only [S8.list, List.mem_cons, List.not_mem_nil, or_false] at hx
    rcases hx with rfl | rfl | rfl | rfl | rfl | rfl | rfl | rfl
    · exact hok.a
    · exact hok.b
    · exact hok.c
    · exact hok.d
    · exact hok.e
    · exact hok.f
    · exact hok.g
    · exact hok.h)
  clear hin4 hnx4 hlist hps HIN3 HB3 HT3 hple hpge
  go_wp2_with ((refine wpList_load_mid rfl 69 _ rfl w.heap.size 1 rfl (u32s ws4) _ HRG4.out Tryd.underlying69 rfl HI4.out ?_))
  obtain ⟨i0, hi, hz0, hz1, hz2⟩ := info_parts Tryd.info5
  go_loopw [4, 20] (fun v x wr => ∃ (i : Nat) (a : Option Addr) (cap : Nat), i ≤ 8 ∧ x = .int .i64 i ∧ v = .slice a (4 * i) cap ∧ Hid (wr.ownsRow w.heap.size 5 1 v (4 * i) (Lib.byteCells (be4s ws4 i))) ∧ Hid (Below w.heap.size w wr)) (fun _ x _ => 8 - (intOf x).toNat)
  case atStart => exact ⟨0, none, 0, by omega, rfl, rfl, Lib.hid (World.ownsRow_nil _ _ _ _), HB4⟩
  case round =>
    clear HB4
    obtain ⟨i, a, cap, hi8, rfl, rfl, HO, HB⟩ := hrel
    by_cases h8 : i < 8
    · have hwd := HWD.out.getD i
      have HV : Hid ((u32s ws4).toArray[i]? = some (.int .u32 (ws4.getD i 0))) := Lib.hid (by
        rw [List.getElem?_toArray]; exact u32s_at ws4 i (by rw [HWL.out]; exact h8))
      have HE : Hid (be4s ws4 (i + 1) = be4s ws4 i ++ be4 (ws4.getD i 0)) := Lib.hid rfl
      generalize ws4.getD i 0 = x at *
      obtain ⟨hx0, hx1⟩ := hwd
      obtain ⟨X, rfl⟩ := Int.eq_ofNat_of_zero_le hx0
      have hX : X < 4294967296 := by omega
      clear hx0 hx1
      have hrow := HO.out
      have hsz := HB.out.size
      go_wp2_with (first
        | (refine wpList_index8 rfl _ _ rfl _ i (.int .u32 (X : Int)) rfl rfl HV.out h8 ?_)
        | (at_builtin; refine wpList_append_own _ rfl _ _ 65 rfl w.heap.size 5 i0 (.int .u8 0) 1 1 Tryd.underlying65 hi hz0 hz1 hz2 rfl (by decide) _ _ _ rfl (hrow.alloc _) ⟨wr.heap.size, 0, none⟩ 4 4 [.int .u8 ((X : Int) / 16777216), .int .u8 ((X : Int) / 65536 % 256), .int .u8 ((X : Int) / 256 % 256), .int .u8 ((X : Int) % 256)] rfl rfl (new_cells wr #[.int .u8 ((X : Int) / 16777216), .int .u8 ((X : Int) / 65536 % 256), .int .u8 ((X : Int) / 256 % 256), .int .u8 ((X : Int) % 256)] 5) (by simp [Value.oneCell']) (by unfold maxLen; omega) (by omega) (by simp; omega) ?_; intro v' w5 hown' hgrow _; obtain ⟨a', cap', rfl⟩ := ownsRow_slice hown'))
      have HB5 : Hid (Below w.heap.size w w5) := Lib.hid ((HB.out.alloc HB.out.size _).grown hgrow (by simp; omega) (fun k e => (hrow.lt k e).1))
      have HO5 : Hid (w5.ownsRow w.heap.size 5 1 (.slice a' (4 * (i + 1)) cap') (4 * (i + 1)) (Lib.byteCells (be4s ws4 (i + 1)))) := Lib.hid (by
        rw [HE.out]
        have e1 : Lib.byteCells (be4s ws4 i ++ be4 (X : Int)) = Lib.byteCells (be4s ws4 i) ++ [.int .u8 ((X : Int) / 16777216), .int .u8 ((X : Int) / 65536 % 256), .int .u8 ((X : Int) / 256 % 256), .int .u8 ((X : Int) % 256)] := by
          simp only [Lib.byteCells, List.map_append]
          rw [show List.map (fun b : UInt8 => Value.int .u8 (b.toNat : Int)) (be4 (X : Int)) = [.int .u8 ((X : Int) / 16777216), .int .u8 ((X : Int) / 65536 % 256), .int .u8 ((X : Int) / 256 % 256), .int .u8 ((X : Int) % 256)] from be4_cells X hX]
        rw [e1, show 4 * (i + 1) = 4 * i + 4 by omega]
        exact hown')
      refine ⟨⟨i + 1, a', cap', by omega, by go_num, rfl, HO5, HB5⟩, ?_⟩
      simp [intOf]; omega
    · obtain rfl : i = 8 := by omega
      have hrow := HO.out
      have HBK : Hid ((convert 65 9 (.slice a (4 * 8) cap)).run Tryd.prog wr = .ok (.string (str (be4s ws4 8))) wr) := Lib.hid (bytes_back hrow (be4s_length ws4 8))
      have hbk := HBK.out
      clear hrow
      go_wp2
      go_ret
      refine ⟨?_, HB.out⟩
      rw [HWS.out, ← HPP.out]
      rfl
end Go.Proofs.YtmaafhhdbhkplaaDoor
