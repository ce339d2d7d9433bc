/- Package format: what an evaluation adds to its output; a pattern of one text. -/
import Derived.Test.YtlmaafmhadbiaaaGreatDoorBd
import Derived.Test.YtlmaafmhadbiaaaGreatDoorRh
namespace Go.Proofs.YtlmaafmhadbiaaaGreatDoor
open Go.RowKit

theorem bdAt_below {B b : Nat} {p : Value} {bs : List Value} {w w' : World} (h : Lib.BuilderAtF 68 5 B b p bs w) (hb : Below w.heap.size w w') : Lib.BuilderAtF 68 5 B b p bs w' := by
  have hlt := h.lt
  obtain ⟨hB, v, hv, hown, hne⟩ := h
  exact ⟨hB, v, (hb.block b hlt).trans hv, hown.kept (row := none) ⟨hb.os, hb.tape, hb.output, hb.size, fun k hk _ => hb.block k hk⟩ (Classical.em _), hne⟩
theorem bd_below {B b : Nat} {bs : List Value} {w w' : World} (h : Lib.IsBuilderF 68 5 B b bs w) (hb : Below w.heap.size w w') : Lib.IsBuilderF 68 5 B b bs w' := h.elim (fun x => .inl (bdAt_below x hb)) (fun x => .inr (bdAt_below x hb))
theorem others_below {b : Nat} {w w' : World} (hb : Below w.heap.size w w') : Lib.OthersKept 5 (some b) w w' := fun k _ hk _ _ => (hb.block k (Array.getElem?_eq_some_iff.1 hk).1).trans hk
/-- What an evaluation may change: the output alone, and bytes. -/
structure Ekp (B b : Nat) (w w' : World) : Prop where
  below : Below B w w'
  others : Lib.OthersKept 5 (some b) w w'
theorem Ekp.trans {B b : Nat} {a w w' : World} (h : Ekp B b a w) (k : Ekp B b w w') : Ekp B b a w' := ⟨h.below.trans k.below, h.others.trans k.others⟩
theorem Ekp.of_below {B b : Nat} {w w' : World} (hB : B ≤ w.heap.size) (h : Below w.heap.size w w') : Ekp B b w w' := ⟨h.mono hB, others_below h⟩
theorem Ekp.alloc {B b : Nat} {w w' : World} (h : Ekp B b w w') (hB : B ≤ w.heap.size) (o : Obj) : Ekp B b w (w'.alloc o) := h.trans (.of_below (by have := h.below.size; omega) (below1 _ _))
theorem Ekp.row {B b c : Nat} {w w' : World} {t : TypeId} {cs : List Value} (h : Ekp B b w w') (hr : Row w c t cs) (ht : t ≠ 5) (hc : c ≠ b) : Row w' c t cs :=
  h.others c _ hr (fun e => hc (Option.some.inj e)) (fun c2 fz e => by injection e with _ e2 _; exact ht e2)
/-- The output holds these bytes. -/
abbrev OutAt (B b : Nat) (l : List UInt8) (w : World) : Prop := Lib.IsBuilderF 68 5 B b (Lib.byteCells l) w
abbrev addFn (b : Nat) : Value := .func (.func 27) #[.pointer (some ⟨b, 0, none⟩)] #[]

set_option maxHeartbeats 1600000 in
set_option maxRecDepth 100000 in
theorem add_any (B b : Nat) (l : List UInt8) (s : BA) (w : World) (h : OutAt B b l w) (hl : l.length + s.size ≤ 8000) (hB : B ≤ w.heap.size) :
    Calls Tryz.prog 27 #[.pointer (some ⟨b, 0, none⟩), .string s] w fun e w' => e = .returned (.tuple #[]) ∧ OutAt B b (l ++ s.data.toList) w' ∧ Ekp B b w w' := by
  have hlen : (Lib.byteCells l).length = l.length := Lib.byteCells_length _
  have HLN := Lib.hid (len_any B b _ w h)
  have HWR := Lib.hid (writeString_any B b _ s w h (by rw [hlen]; omega) hB)
  rw [hlen] at HLN
  rw [append_bytes] at HWR
  have hl2 : ¬ (8000 : Int) < (l.length : Int) + (s.size : Int) := by omega
  clear h hlen
  go_enter Tryz.func27, Tryz.ntmps27
  go_wp2_with fail
  refine HLN.out.mono ?_
  rintro e w2 ⟨rfl, rfl⟩
  go_wp2_with fail
  refine HWR.out.mono ?_
  rintro e w3 ⟨rfl, h3, hb3, ho3⟩
  have HF : Hid (OutAt B b (l ++ s.data.toList) w3 ∧ Ekp B b w2 w3) := Lib.hid ⟨.inr h3, hb3, ho3⟩
  clear h3 hb3 ho3
  go_wp2
  go_end0
  exact ⟨rfl, HF.out⟩

set_option maxHeartbeats 3200000 in
set_option maxRecDepth 100000 in
/-- Of one text: it is added. -/
theorem parts_text (n B b : Nat) (l : List UInt8) (lang : BA) (asl : Value) (h : Int) (x : Pt) (a : Option Addr) (cap : Nat) (w : World) (hk : x.k = 1) (hx : SlP w (Old w) n (.slice a 1 cap) [x]) (ho : OutAt B b l w) (hl : l.length + x.t.size ≤ 8000) (hB : B ≤ w.heap.size) :
    Calls Tryz.prog 26 #[.agg #[.string lang, asl], .slice a 1 cap, .int .i64 h, addFn b] w fun e w' => e = .returned (.tuple #[]) ∧ OutAt B b (l ++ x.t.data.toList) w' ∧ Ekp B b w w' := by
  have hx1 := hx.old (below1 w (.cells #[.string lang, asl] 46))
  have HE1 : Hid (Ekp B b w (w.alloc (.cells #[.string lang, asl] 46))) := Lib.hid (.of_below hB (below1 _ _))
  have HO1 : Hid (OutAt B b l (w.alloc (.cells #[.string lang, asl] 46))) := Lib.hid (bd_below ho (below1 _ _))
  have HZ : Hid (B ≤ (w.alloc (.cells #[.string lang, asl] 46)).heap.size) := Lib.hid (by rw [World.size_alloc]; omega)
  obtain ⟨g, off, rfl, -, hat⟩ := hx1.at_ (j := 0) rfl
  obtain ⟨c0, c1, c2, m, a1, p1, -, c3, -⟩ := hat.p
  rw [hk] at c0
  simp only [Nat.zero_mul, Nat.add_zero] at c0 c1 c2 c3
  obtain ⟨pk, t, nm, cs⟩ := x
  simp only [Pt.t, Pt.n, Pt.cs] at c1 c2 c3 hl ⊢
  clear hx hx1 ho hat hk
  go_enter Tryz.func26, Tryz.ntmps26
  go_wp2
  generalize w.alloc (.cells #[.string lang, asl] 46) = w1 at *
  go_loopw [13] (fun i wr => (i = .int .i64 0 ∧ wr = w1) ∨ (i = .int .i64 1 ∧ Hid (OutAt B b (l ++ t.data.toList) wr ∧ Ekp B b w wr))) (fun i _ => 1 - (intOf i).toNat)
  case atStart => exact .inl ⟨rfl, rfl⟩
  case round =>
    rcases hrel with ⟨rfl, rfl⟩ | ⟨rfl, HP⟩
    · have HA := Lib.hid (add_any B b l t (wr.alloc (.cells #[.int .i64 1, .string t, .string nm, .slice a1 cs.length p1] 30)) (bd_below HO1.out (below1 _ _)) hl (by rw [World.size_alloc]; have := HZ.out; omega))
      have HE2 : Hid (Ekp B b w (wr.alloc (.cells #[.int .i64 1, .string t, .string nm, .slice a1 cs.length p1] 30))) := Lib.hid (HE1.out.alloc hB _)
      go_wp2_with fail
      refine HA.out.mono ?_
      rintro e w3 ⟨rfl, h3, e3⟩
      have HF := Lib.hid (And.intro h3 (HE2.out.trans e3))
      clear h3 e3
      go_wp2
      go_roundw
      case rel => exact .inr ⟨by go_num, HF⟩
      case measure => simp [intOf]
    · go_wp2
      go_end0
      exact ⟨rfl, HP.out⟩
end Go.Proofs.YtlmaafmhadbiaaaGreatDoor
