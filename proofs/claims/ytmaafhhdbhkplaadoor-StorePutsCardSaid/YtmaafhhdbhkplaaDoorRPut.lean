/- The document's Put. -/
import Derived.Test.YtmaafhhdbhkplaaDoorPut
import Derived.Test.YtmaafhhdbhkplaaDoorWth
namespace Go.Proofs.YtmaafhhdbhkplaaDoor
open Go.RowKit

/-- As PEnv, with an empty store beside. -/
structure REnv (w wi : World) (a : Option Addr) (cap : Nat) (xs : List Itm) : Prop where
  env : PEnv w wi a cap xs
  non : Row wi (w.heap.size + 1 + 1) 24 [.slice none 0 0]
theorem REnv.new {w : World} {a : Option Addr} {cap : Nat} {xs : List Itm} (h : Arg w a cap xs) (ht : Tab w) : REnv w (((w.alloc (.cells #[.slice a xs.length cap] 24)).alloc (.cells #[.slice none 0 0] 24)).alloc (.cells #[.slice none 0 0] 24)) a cap xs :=
  ⟨(PEnv.new h ht).step (below1 _ _), by have := row_new ((w.alloc (.cells #[.slice a xs.length cap] 24)).alloc (.cells #[.slice none 0 0] 24)) #[.slice none 0 0] 24; simpa using this⟩
theorem REnv.step {w wi wj : World} {a : Option Addr} {cap : Nat} {xs : List Itm} (h : REnv w wi a cap xs) (hb : Below wi.heap.size wi wj) : REnv w wj a cap xs := ⟨h.env.step hb, h.non.below hb⟩
theorem REnv.facts {w wi : World} {a : Option Addr} {cap : Nat} {xs : List Itm} (h : REnv w wi a cap xs) : wi.cell? ⟨w.heap.size, 0, none⟩ = some (.slice a xs.length cap) ∧ wi.cell? ⟨w.heap.size + 1, 0, none⟩ = some (.slice none 0 0) ∧ wi.frozen? ⟨w.heap.size + 1, 0, none⟩ = false ∧ wi.cell? ⟨w.heap.size + 1 + 1, 0, none⟩ = some (.slice none 0 0) :=
  ⟨h.env.box.cell rfl, h.env.res.cell rfl, h.env.res.thaw 0, h.non.cell rfl⟩
/-- An item of the store. -/
theorem REnv.item {w wi : World} {a : Option Addr} {cap : Nat} {xs : List Itm} (h : REnv w wi a cap xs) {p : Nat} {x : Itm} (hx : xs[p]? = some x) : ∃ b off, a = some ⟨b, off, none⟩ ∧ b < wi.heap.size ∧ At3 wi b (off + p * 3) x := h.env.arg.its.at_ hx

set_option maxHeartbeats 1600000 in
set_option maxRecDepth 100000 in
theorem rput_bad (w : World) (a : Option Addr) (cap : Nat) (xs : List Itm) (body : BA) (ha : Arg w a cap xs) (ht : Tab w) (hbs : body.size ≤ 140737488351232) (hr : ¬ Rgt xs) :
    Calls Tryd.prog 15 #[.agg #[.slice a xs.length cap], .string body] w (PutPost [] ⟨#[]⟩ 1 w) := by
  have HR := Lib.hid hr
  clear hr
  have E0 := Lib.hid (REnv.new ha ht)
  obtain ⟨f1, f2, f3, f4⟩ := E0.out.facts
  have hlen := ha.len
  have HOLD := Lib.hid (inI_old ha.its)
  clear ha ht
  go_enter Tryd.func15, Tryd.ntmps15
  go_wp2_with fail
  generalize ((w.alloc (.cells #[.slice a xs.length cap] 24)).alloc (.cells #[.slice none 0 0] 24)).alloc (.cells #[.slice none 0 0] 24) = w0 at *
  refine (rright_no w0 a cap xs HR.out hlen E0.out.env.arg.szs E0.out.env.arg.its).mono ?_
  rintro e w1 ⟨rfl, hb1⟩
  have E1 := Lib.hid (E0.out.step hb1)
  clear f1 f2 f3 f4
  obtain ⟨f1, f2, f3, f4⟩ := E1.out.facts
  clear hb1
  obtain ⟨g1, g2⟩ := E1.out.env.put (.slice none 0 0)
  have G2 := Lib.hid g2
  clear g2
  go_wp2
  exact bodyPost_ret (v := .tuple #[.agg #[.slice none 0 0], .string ⟨#[]⟩, .int .i64 1]) (by simp [results, Tryd.results15, go_sem, g1]) rfl ⟨_, _, rfl, InI.nil _ _, G2.out⟩

set_option maxHeartbeats 1600000 in
set_option maxRecDepth 100000 in
theorem rput_none (w : World) (a : Option Addr) (cap : Nat) (xs : List Itm) (body : BA) (ha : Arg w a cap xs) (ht : Tab w) (hbs : body.size ≤ 140737488351232) (hr : Rgt xs) (h0 : body.size = 0) :
    Calls Tryd.prog 15 #[.agg #[.slice a xs.length cap], .string body] w (PutPost [] ⟨#[]⟩ 1 w) := by
  have HR := Lib.hid hr
  clear hr
  obtain rfl := ba_empty h0
  clear h0 hbs
  have E0 := Lib.hid (REnv.new ha ht)
  obtain ⟨f1, f2, f3, f4⟩ := E0.out.facts
  have hlen := ha.len
  have HOLD := Lib.hid (inI_old ha.its)
  clear ha ht
  go_enter Tryd.func15, Tryd.ntmps15
  go_wp2_with fail
  generalize ((w.alloc (.cells #[.slice a xs.length cap] 24)).alloc (.cells #[.slice none 0 0] 24)).alloc (.cells #[.slice none 0 0] 24) = w0 at *
  refine (rright_yes w0 a cap xs HR.out E0.out.env.arg.szs E0.out.env.arg.its).mono ?_
  rintro e w1 ⟨rfl, hb1⟩
  have E1 := Lib.hid (E0.out.step hb1)
  clear f1 f2 f3 f4
  obtain ⟨f1, f2, f3, f4⟩ := E1.out.facts
  clear hb1
  obtain ⟨g1, g2⟩ := E1.out.env.put (.slice none 0 0)
  have G2 := Lib.hid g2
  clear g2
  go_wp2
  exact bodyPost_ret (v := .tuple #[.agg #[.slice none 0 0], .string ⟨#[]⟩, .int .i64 1]) (by simp [results, Tryd.results15, go_sem, g1]) rfl ⟨_, _, rfl, InI.nil _ _, G2.out⟩

set_option maxHeartbeats 1600000 in
set_option maxRecDepth 100000 in
theorem rput_long (w : World) (a : Option Addr) (cap : Nat) (xs : List Itm) (body : BA) (ha : Arg w a cap xs) (ht : Tab w) (hbs : body.size ≤ 140737488351232) (hr : Rgt xs) (h1 : 512 < body.size) :
    Calls Tryd.prog 15 #[.agg #[.slice a xs.length cap], .string body] w (PutPost [] ⟨#[]⟩ 2 w) := by
  have HR := Lib.hid hr
  have hl4 := hr.1
  clear hr
  have hne : body.toList.isEmpty = false := by rw [ByteArray.toList_eq]; cases h : body.data.toList with
    | nil => have := BA.len body; rw [h] at this; simp at this; omega
    | cons _ _ => rfl
  have E0 := Lib.hid (REnv.new ha ht)
  obtain ⟨f1, f2, f3, f4⟩ := E0.out.facts
  have hlen := ha.len
  have HOLD := Lib.hid (inI_old ha.its)
  clear ha ht
  go_enter Tryd.func15, Tryd.ntmps15
  go_wp2_with fail
  generalize ((w.alloc (.cells #[.slice a xs.length cap] 24)).alloc (.cells #[.slice none 0 0] 24)).alloc (.cells #[.slice none 0 0] 24) = w0 at *
  refine (rright_yes w0 a cap xs HR.out E0.out.env.arg.szs E0.out.env.arg.its).mono ?_
  rintro e w1 ⟨rfl, hb1⟩
  have E1 := Lib.hid (E0.out.step hb1)
  clear f1 f2 f3 f4
  obtain ⟨f1, f2, f3, f4⟩ := E1.out.facts
  clear hb1
  obtain ⟨g1, g2⟩ := E1.out.env.put (.slice none 0 0)
  have G2 := Lib.hid g2
  clear g2
  go_wp2
  exact bodyPost_ret (v := .tuple #[.agg #[.slice none 0 0], .string ⟨#[]⟩, .int .i64 2]) (by simp [results, Tryd.results15, go_sem, g1]) rfl ⟨_, _, rfl, InI.nil _ _, G2.out⟩

set_option maxHeartbeats 1600000 in
set_option maxRecDepth 100000 in
theorem rput_rot (w : World) (a : Option Addr) (cap : Nat) (xs : List Itm) (body : BA) (ha : Arg w a cap xs) (ht : Tab w) (hbs : body.size ≤ 140737488351232) (hr : Rgt xs) (hb0 : 0 < body.size) (hb1 : body.size ≤ 512) (x : Itm) (hf : Fnd xs (leafF body) x) (hc : corB x = true) :
    Calls Tryd.prog 15 #[.agg #[.slice a xs.length cap], .string body] w (PutPost [] ⟨#[]⟩ 61 w) := by
  obtain ⟨b, off, rfl, hbl, -⟩ := ha.its.at_ hf.1
  have HR := Lib.hid hr
  have hl4 := hr.1
  clear hr
  have hne : body.toList.isEmpty = false := by rw [ByteArray.toList_eq]; cases h : body.data.toList with
    | nil => have := BA.len body; rw [h] at this; simp at this; omega
    | cons _ _ => rfl
  have hks : (leafF body).size ≤ 140737488351232 := by rw [leafF_size]; omega
  have HF := Lib.hid hf
  have hpl := hf.lt
  have HS := Lib.hid (HR.out.snd hf.1)
  have hsb := HS.out.b2
  have hsr1 := HS.out.r1
  have hsr2 := HS.out.r2
  clear hf
  have HE := Lib.hid hc
  clear hc
  have E0 := Lib.hid (REnv.new ha ht)
  obtain ⟨f1, f2, f3, f4⟩ := E0.out.facts
  have hlen := ha.len
  have HOLD := Lib.hid (inI_old ha.its)
  clear ha ht
  go_enter Tryd.func15, Tryd.ntmps15
  go_wp2_with fail
  generalize ((w.alloc (.cells #[.slice (some ⟨b, off, none⟩) xs.length cap] 24)).alloc (.cells #[.slice none 0 0] 24)).alloc (.cells #[.slice none 0 0] 24) = w0 at *
  refine (rright_yes w0 _ cap xs HR.out E0.out.env.arg.szs E0.out.env.arg.its).mono ?_
  rintro e w1 ⟨rfl, hb1⟩
  have E1 := Lib.hid (E0.out.step hb1)
  clear f1 f2 f3 f4
  obtain ⟨f1, f2, f3, f4⟩ := E1.out.facts
  clear hb1
  go_wp2_with fail
  refine (rleaf_any body w1 (by omega)).mono ?_
  rintro e w2 ⟨rfl, hb2⟩
  have E2 := Lib.hid (E1.out.step hb2)
  clear f1 f2 f3 f4
  obtain ⟨f1, f2, f3, f4⟩ := E2.out.facts
  clear hb2
  go_wp2_with fail
  refine (at_fnd w2 _ cap xs (leafF body) E2.out.env.arg.its HR.out hks HF.out).mono ?_
  rintro e w3 ⟨rfl, hb3⟩
  have E3 := Lib.hid (E2.out.step hb3)
  clear f1 f2 f3 f4
  obtain ⟨f1, f2, f3, f4⟩ := E3.out.facts
  obtain ⟨b', off', hab, -, i1, i2, i3⟩ := E3.out.item HF.out.1
  obtain ⟨rfl, rfl⟩ : b = b' ∧ off = off' := by simpa using hab
  clear hab
  clear hb3
  go_wp2_with fail
  refine (rot_any x w3 hsb).mono ?_
  rintro e w4 ⟨rfl, hb4⟩
  have E4 := Lib.hid (E3.out.step hb4)
  clear f1 f2 f3 f4
  obtain ⟨f1, f2, f3, f4⟩ := E4.out.facts
  clear i1 i2 i3
  obtain ⟨b', off', hab, -, i1, i2, i3⟩ := E4.out.item HF.out.1
  obtain ⟨rfl, rfl⟩ : b = b' ∧ off = off' := by simpa using hab
  clear hab
  rw [HE.out]
  clear hb4
  obtain ⟨g1, g2⟩ := E4.out.env.put (.slice none 0 0)
  have G2 := Lib.hid g2
  clear g2
  go_wp2
  exact bodyPost_ret (v := .tuple #[.agg #[.slice none 0 0], .string ⟨#[]⟩, .int .i64 61]) (by simp [results, Tryd.results15, go_sem, g1]) rfl ⟨_, _, rfl, InI.nil _ _, G2.out⟩

set_option maxHeartbeats 1600000 in
set_option maxRecDepth 100000 in
theorem rput_full (w : World) (a : Option Addr) (cap : Nat) (xs : List Itm) (body : BA) (ha : Arg w a cap xs) (ht : Tab w) (hbs : body.size ≤ 140737488351232) (hr : Rgt xs) (hb0 : 0 < body.size) (hb1 : body.size ≤ 512) (x : Itm) (hf : Fnd xs (leafF body) x) (hc : corB x = false) (hx : x.r = 1073741824) :
    Calls Tryd.prog 15 #[.agg #[.slice a xs.length cap], .string body] w (PutPost [] ⟨#[]⟩ 130 w) := by
  obtain ⟨b, off, rfl, hbl, -⟩ := ha.its.at_ hf.1
  have HR := Lib.hid hr
  have hl4 := hr.1
  clear hr
  have hne : body.toList.isEmpty = false := by rw [ByteArray.toList_eq]; cases h : body.data.toList with
    | nil => have := BA.len body; rw [h] at this; simp at this; omega
    | cons _ _ => rfl
  have hks : (leafF body).size ≤ 140737488351232 := by rw [leafF_size]; omega
  have HF := Lib.hid hf
  have hpl := hf.lt
  have HS := Lib.hid (HR.out.snd hf.1)
  have hsb := HS.out.b2
  have hsr1 := HS.out.r1
  have hsr2 := HS.out.r2
  clear hf
  have HE := Lib.hid hc
  have hxr : (x.r == 1073741824) = true := by simpa using hx
  clear hc hx
  have E0 := Lib.hid (REnv.new ha ht)
  obtain ⟨f1, f2, f3, f4⟩ := E0.out.facts
  have hlen := ha.len
  have HOLD := Lib.hid (inI_old ha.its)
  clear ha ht
  go_enter Tryd.func15, Tryd.ntmps15
  go_wp2_with fail
  generalize ((w.alloc (.cells #[.slice (some ⟨b, off, none⟩) xs.length cap] 24)).alloc (.cells #[.slice none 0 0] 24)).alloc (.cells #[.slice none 0 0] 24) = w0 at *
  refine (rright_yes w0 _ cap xs HR.out E0.out.env.arg.szs E0.out.env.arg.its).mono ?_
  rintro e w1 ⟨rfl, hb1⟩
  have E1 := Lib.hid (E0.out.step hb1)
  clear f1 f2 f3 f4
  obtain ⟨f1, f2, f3, f4⟩ := E1.out.facts
  clear hb1
  go_wp2_with fail
  refine (rleaf_any body w1 (by omega)).mono ?_
  rintro e w2 ⟨rfl, hb2⟩
  have E2 := Lib.hid (E1.out.step hb2)
  clear f1 f2 f3 f4
  obtain ⟨f1, f2, f3, f4⟩ := E2.out.facts
  clear hb2
  go_wp2_with fail
  refine (at_fnd w2 _ cap xs (leafF body) E2.out.env.arg.its HR.out hks HF.out).mono ?_
  rintro e w3 ⟨rfl, hb3⟩
  have E3 := Lib.hid (E2.out.step hb3)
  clear f1 f2 f3 f4
  obtain ⟨f1, f2, f3, f4⟩ := E3.out.facts
  obtain ⟨b', off', hab, -, i1, i2, i3⟩ := E3.out.item HF.out.1
  obtain ⟨rfl, rfl⟩ : b = b' ∧ off = off' := by simpa using hab
  clear hab
  clear hb3
  go_wp2_with fail
  refine (rot_any x w3 hsb).mono ?_
  rintro e w4 ⟨rfl, hb4⟩
  have E4 := Lib.hid (E3.out.step hb4)
  clear f1 f2 f3 f4
  obtain ⟨f1, f2, f3, f4⟩ := E4.out.facts
  clear i1 i2 i3
  obtain ⟨b', off', hab, -, i1, i2, i3⟩ := E4.out.item HF.out.1
  obtain ⟨rfl, rfl⟩ : b = b' ∧ off = off' := by simpa using hab
  clear hab
  rw [HE.out]
  clear hb4
  obtain ⟨g1, g2⟩ := E4.out.env.put (.slice none 0 0)
  have G2 := Lib.hid g2
  clear g2
  go_wp2
  exact bodyPost_ret (v := .tuple #[.agg #[.slice none 0 0], .string ⟨#[]⟩, .int .i64 130]) (by simp [results, Tryd.results15, go_sem, g1]) rfl ⟨_, _, rfl, InI.nil _ _, G2.out⟩

end Go.Proofs.YtmaafhhdbhkplaaDoor
