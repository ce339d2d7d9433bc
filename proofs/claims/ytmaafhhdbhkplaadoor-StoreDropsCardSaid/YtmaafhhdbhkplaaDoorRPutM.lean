/- The document's Put: a reference more. -/
import Derived.Test.YtmaafhhdbhkplaaDoorRPut
import Derived.IntWalk
namespace Go.Proofs.YtmaafhhdbhkplaaDoor
open Go.RowKit

set_option maxHeartbeats 1600000 in
set_option maxRecDepth 100000 in
theorem rput_more (w : World) (a : Option Addr) (cap : Nat) (xs : List Itm) (body : BA) (ha : Arg w a cap xs) (ht : Tab w) (hbs : body.size ≤ 140737488351232) (hr : Rgt xs) (hb0 : 0 < body.size) (hb1 : body.size ≤ 512) (x : Itm) (hf : Fnd xs (leafF body) x) (hc : corB x = false) (hx : x.r ≠ 1073741824) :
    Calls Tryd.prog 15 #[.agg #[.slice a xs.length cap], .string body] w (PutPost (xs.set (pos xs (leafF body)) ⟨x.k, x.b, x.r + 1⟩) (leafF body) 0 w) := by
  obtain ⟨b, off, rfl, hbl, -⟩ := ha.its.at_ hf.1
  have HR := Lib.hid hr
  have hl4 := hr.1
  clear hr
  have hne : body.toList.isEmpty = false := by rw [ByteArray.toList_eq]; cases h : body.data.toList with
    | nil => have := BA.len body; rw [h] at this; simp at this; omega
    | cons _ _ => rfl
  have hks : (leafF body).size ≤ 140737488351232 := by rw [leafF_size]; omega
  have HF := Lib.hid hf
  have hpl := hf.lt
  have HS := Lib.hid (HR.out.snd hf.1)
  have hsb := HS.out.b2
  have hsr1 := HS.out.r1
  have hsr2 := HS.out.r2
  clear hf
  have HE := Lib.hid hc
  have hxr : (x.r == 1073741824) = false := by simpa using hx
  clear hc hx
  have E0 := Lib.hid (REnv.new ha ht)
  obtain ⟨f1, f2, f3, f4⟩ := E0.out.facts
  have hlen := ha.len
  have HOLD := Lib.hid (inI_old ha.its)
  clear ha ht
  go_enter Tryd.func15, Tryd.ntmps15
  go_wp2_with fail
  generalize ((w.alloc (.cells #[.slice (some ⟨b, off, none⟩) xs.length cap] 24)).alloc (.cells #[.slice none 0 0] 24)).alloc (.cells #[.slice none 0 0] 24) = w0 at *
  refine (rright_yes w0 _ cap xs HR.out E0.out.env.arg.szs E0.out.env.arg.its).mono ?_
  rintro e w1 ⟨rfl, hb1⟩
  have E1 := Lib.hid (E0.out.step hb1)
  clear f1 f2 f3 f4
  obtain ⟨f1, f2, f3, f4⟩ := E1.out.facts
  clear hb1
  go_wp2_with fail
  refine (rleaf_any body w1 (by omega)).mono ?_
  rintro e w2 ⟨rfl, hb2⟩
  have E2 := Lib.hid (E1.out.step hb2)
  clear f1 f2 f3 f4
  obtain ⟨f1, f2, f3, f4⟩ := E2.out.facts
  clear hb2
  go_wp2_with fail
  refine (at_fnd w2 _ cap xs (leafF body) E2.out.env.arg.its HR.out hks HF.out).mono ?_
  rintro e w3 ⟨rfl, hb3⟩
  have E3 := Lib.hid (E2.out.step hb3)
  clear f1 f2 f3 f4
  obtain ⟨f1, f2, f3, f4⟩ := E3.out.facts
  obtain ⟨b', off', hab, -, i1, i2, i3⟩ := E3.out.item HF.out.1
  obtain ⟨rfl, rfl⟩ : b = b' ∧ off = off' := by simpa using hab
  clear hab
  clear hb3
  go_wp2_with fail
  refine (rot_any x w3 hsb).mono ?_
  rintro e w4 ⟨rfl, hb4⟩
  have E4 := Lib.hid (E3.out.step hb4)
  clear f1 f2 f3 f4
  obtain ⟨f1, f2, f3, f4⟩ := E4.out.facts
  clear i1 i2 i3
  obtain ⟨b', off', hab, -, i1, i2, i3⟩ := E4.out.item HF.out.1
  obtain ⟨rfl, rfl⟩ : b = b' ∧ off = off' := by simpa using hab
  clear hab
  rw [HE.out]
  clear hb4
  go_wp2
  have HSR := Lib.hid (setR_fnd HR.out HF.out (x.r + 1))
  have hbo : b < w.heap.size := by
      rcases HOLD.out _ rfl with h | h
      · exact h
      · rw [h] at hpl; simp at hpl
  have HD : Hid (∀ W, Hid (Below w4.heap.size w4 W) → (W.cell? ⟨w.heap.size, 0, none⟩ = some (.slice (some ⟨b, off, none⟩) xs.length cap) ∧ W.cell? ⟨b, off + pos xs (leafF body) * 3 + 2, none⟩ = some (.int .i64 x.r)) ∧ W.cell? ⟨w.heap.size + 1, 0, none⟩ = some (.slice none 0 0) ∧ W.frozen? ⟨w.heap.size + 1, 0, none⟩ = false) := Lib.hid (fun W h => by
      have e := E4.out.step h.out
      obtain ⟨q1, q2, q3, -⟩ := e.facts
      obtain ⟨b', off', hab, -, -, -, j3⟩ := e.item HF.out.1
      obtain ⟨rfl, rfl⟩ : b = b' ∧ off = off' := by simpa using hab
      exact ⟨⟨q1, j3⟩, q2, q3⟩)
  have hd0 : Hid (Below w4.heap.size w4 w4.drew) := Lib.hid (Below.refl _ _).drew
  obtain ⟨⟨d0, d1⟩, d2, d3⟩ := HD.out _ hd0
  have HC : Hid (∀ W, Hid (Below w4.heap.size w4 W) → Calls Tryd.prog 31 #[.agg #[.slice (some ⟨b, off, none⟩) xs.length cap], .string (leafF body), .int .i64 (x.r + 1)] W fun e w' => ∃ a5 c5, e = .returned (.agg #[.slice a5 xs.length c5]) ∧ (w'.cell? ⟨w.heap.size, 0, none⟩ = some (.slice (some ⟨b, off, none⟩) xs.length cap) ∧ w'.cell? ⟨b, off + pos xs (leafF body) * 3 + 2, none⟩ = some (.int .i64 x.r)) ∧ w'.cell? ⟨w.heap.size + 1, 0, none⟩ = some (.slice none 0 0) ∧ w'.frozen? ⟨w.heap.size + 1, 0, none⟩ = false ∧ Hid (InI w' a5 (xs.set (pos xs (leafF body)) ⟨x.k, x.b, x.r + 1⟩)) ∧ Hid (∀ ad : Addr, a5 = some ad → w4.heap.size ≤ ad.block) ∧ Hid (Below w4.heap.size w4 w')) := Lib.hid (fun W h => by
      refine (with_any W (some ⟨b, off, none⟩) cap xs (leafF body) (x.r + 1) (E4.out.step h.out).env.arg.its hl4 hks (by omega) (by omega)).mono fun e w' hh => ?_
      obtain ⟨a5, c5, he, hI, hba, hb⟩ := hh
      have hb' := below_trans h.out hb
      obtain ⟨q1, q2, q3⟩ := HD.out w' (Lib.hid hb')
      rw [HSR.out] at he hI
      rw [List.length_set] at he
      exact ⟨a5, c5, he, q1, q2, q3, Lib.hid hI, Lib.hid (fun ad had => Nat.le_trans h.out.size (hba ad had)), Lib.hid hb'⟩)
  have hne1 : ¬ (w.heap.size + 1 = w.heap.size) := by omega
  have hne2 : ¬ (w.heap.size + 1 = b) := by omega
  have hsum : IntKind.i64.wrap (x.r + 1) = x.r + 1 := IntWalk.i64_in _ (by omega)
  have hpi : ((pos xs (leafF body) : Nat) : Int) < (xs.length : Int) := by omega
  have hpz : (0 : Int) ≤ ((pos xs (leafF body) : Nat) : Int) := by omega
  clear f1 f2 f3 f4 i1 i2 i3
  go_region_held3 (fun W => W.cell? ⟨w.heap.size, 0, none⟩ = some (.slice (some ⟨b, off, none⟩) xs.length cap) ∧ W.cell? ⟨b, off + pos xs (leafF body) * 3 + 2, none⟩ = some (.int .i64 x.r)) (first | go_keep | assumption)
    (first | (go_at_call 31; refine (HC.out _ ?_).mono ?_; assumption; rintro e w9 ⟨a5, c5, rfl, hq9, hc9, hf9, HI9, HA9, HB9⟩) | fail)
  obtain ⟨g1, g2⟩ := (E4.out.step HB9.out).env.put (.slice a5 xs.length c5)
  have HI := Lib.hid ((E4.out.step HB9.out).env.putI (.slice a5 xs.length c5) HI9.out E4.out.env.lt HA9.out)
  have G2 := Lib.hid g2
  clear g2 hq9 hc9 hf9 d0 d1 d2 d3
  go_wp2
  exact bodyPost_ret (v := .tuple #[.agg #[.slice a5 xs.length c5], .string (leafF body), .int .i64 0]) (by simp [results, Tryd.results15, go_sem, g1]) rfl ⟨a5, c5, by rw [List.length_set], HI.out, G2.out⟩

set_option maxHeartbeats 1600000 in
set_option maxRecDepth 100000 in
theorem rput_many (w : World) (a : Option Addr) (cap : Nat) (xs : List Itm) (body : BA) (ha : Arg w a cap xs) (ht : Tab w) (hbs : body.size ≤ 140737488351232) (hr : Rgt xs) (hb0 : 0 < body.size) (hb1 : body.size ≤ 512) (hn : Nof xs (leafF body)) (hx : xs.length = 4096) :
    Calls Tryd.prog 15 #[.agg #[.slice a xs.length cap], .string body] w (PutPost [] ⟨#[]⟩ 130 w) := by
  have HR := Lib.hid hr
  have hl4 := hr.1
  clear hr
  have hne : body.toList.isEmpty = false := by rw [ByteArray.toList_eq]; cases h : body.data.toList with
    | nil => have := BA.len body; rw [h] at this; simp at this; omega
    | cons _ _ => rfl
  have hks : (leafF body).size ≤ 140737488351232 := by rw [leafF_size]; omega
  have HNF := Lib.hid hn
  have hpl := pos_le xs (leafF body)
  clear hn
  have hxb : ((xs.length : Int) == 4096) = true := by rw [beq_iff_eq]; omega
  clear hx
  have E0 := Lib.hid (REnv.new ha ht)
  obtain ⟨f1, f2, f3, f4⟩ := E0.out.facts
  have hlen := ha.len
  have HOLD := Lib.hid (inI_old ha.its)
  clear ha ht
  go_enter Tryd.func15, Tryd.ntmps15
  go_wp2_with fail
  generalize ((w.alloc (.cells #[.slice a xs.length cap] 24)).alloc (.cells #[.slice none 0 0] 24)).alloc (.cells #[.slice none 0 0] 24) = w0 at *
  refine (rright_yes w0 a cap xs HR.out E0.out.env.arg.szs E0.out.env.arg.its).mono ?_
  rintro e w1 ⟨rfl, hb1⟩
  have E1 := Lib.hid (E0.out.step hb1)
  clear f1 f2 f3 f4
  obtain ⟨f1, f2, f3, f4⟩ := E1.out.facts
  clear hb1
  go_wp2_with fail
  refine (rleaf_any body w1 (by omega)).mono ?_
  rintro e w2 ⟨rfl, hb2⟩
  have E2 := Lib.hid (E1.out.step hb2)
  clear f1 f2 f3 f4
  obtain ⟨f1, f2, f3, f4⟩ := E2.out.facts
  clear hb2
  go_wp2_with fail
  refine (at_nof w2 a cap xs (leafF body) E2.out.env.arg.its HR.out hks HNF.out).mono ?_
  rintro e w3 ⟨rfl, hb3⟩
  have E3 := Lib.hid (E2.out.step hb3)
  clear f1 f2 f3 f4
  obtain ⟨f1, f2, f3, f4⟩ := E3.out.facts
  clear hb3
  obtain ⟨g1, g2⟩ := E3.out.env.put (.slice none 0 0)
  have G2 := Lib.hid g2
  clear g2
  go_wp2
  exact bodyPost_ret (v := .tuple #[.agg #[.slice none 0 0], .string ⟨#[]⟩, .int .i64 130]) (by simp [results, Tryd.results15, go_sem, g1]) rfl ⟨_, _, rfl, InI.nil _ _, G2.out⟩

end Go.Proofs.YtmaafhhdbhkplaaDoor
