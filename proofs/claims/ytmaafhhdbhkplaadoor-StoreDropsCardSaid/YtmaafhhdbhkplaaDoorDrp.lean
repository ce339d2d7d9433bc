/- Drop, of package store and of the document. -/
import Derived.Test.YtmaafhhdbhkplaaDoorPut
import Derived.Test.YtmaafhhdbhkplaaDoorWth
import Derived.IntWalk
namespace Go.Proofs.YtmaafhhdbhkplaaDoor
open Go.RowKit

/-- What dropping a key makes. -/
inductive DropCase (xs : List Itm) (key : BA) : List Itm → Int → Prop
  | bad : ¬ Rgt xs → DropCase xs key [] 1
  | none : Rgt xs → Nof xs key → DropCase xs key [] 60
  | free (x : Itm) : Rgt xs → Fnd xs key x → x.r = 0 → DropCase xs key [] 60
  | less (x : Itm) : Rgt xs → Fnd xs key x → 0 < x.r → DropCase xs key (xs.set (pos xs key) ⟨x.k, x.b, x.r + -1⟩) 0
theorem dropCase_ex (xs : List Itm) (key : BA) : ∃ ys er, DropCase xs key ys er := by
  by_cases hr : Rgt xs
  · rcases fnd_or xs key hr with ⟨x, hx⟩ | hn
    · by_cases h0 : x.r = 0
      · exact ⟨_, _, .free x hr hx h0⟩
      · exact ⟨_, _, .less x hr hx (by have := (hr.snd hx.1).r1; omega)⟩
    · exact ⟨_, _, .none hr hn⟩
  · exact ⟨_, _, .bad hr⟩
/-- A Drop's answer. -/
def DropPost (ys : List Itm) (er : Int) (w : World) (e : Ending) (w' : World) : Prop := ∃ a cap, e = .returned (.tuple #[.agg #[.slice a ys.length cap], .int .i64 er]) ∧ InI w' a ys ∧ Below w.heap.size w w'

set_option maxHeartbeats 1600000 in
set_option maxRecDepth 100000 in
theorem drop_bad (w : World) (a : Option Addr) (cap : Nat) (xs : List Itm) (key : BA) (ha : Arg w a cap xs) (ht : Tab w) (hks : key.size ≤ 140737488351232) (hr : ¬ Rgt xs) :
    Calls Tryd.prog 17 #[.agg #[.slice a xs.length cap], .string key] w (DropPost [] 1 w) := by
  have HR := Lib.hid hr
  clear hr
  have E0 := Lib.hid (PEnv.new ha ht)
  obtain ⟨f1, f2, f3⟩ := E0.out.facts
  have hlen := ha.len
  have HOLD := Lib.hid (inI_old ha.its)
  clear ha ht
  go_enter Tryd.func17, Tryd.ntmps17
  go_wp2_with fail
  generalize (w.alloc (.cells #[.slice a xs.length cap] 24)).alloc (.cells #[.slice none 0 0] 24) = w0 at *
  refine (right_no w0 a cap xs HR.out hlen E0.out.arg.szs E0.out.arg.its).mono ?_
  rintro e w1 ⟨rfl, hb1⟩
  have E1 := Lib.hid (E0.out.step hb1)
  clear f1 f2 f3
  obtain ⟨f1, f2, f3⟩ := E1.out.facts
  clear hb1
  obtain ⟨g1, g2⟩ := E1.out.put (.slice none 0 0)
  have G2 := Lib.hid g2
  clear g2
  go_wp2
  exact bodyPost_ret (v := .tuple #[.agg #[.slice none 0 0], .int .i64 1]) (by simp [results, Tryd.results17, go_sem, g1]) rfl ⟨_, _, rfl, InI.nil _ _, G2.out⟩

set_option maxHeartbeats 1600000 in
set_option maxRecDepth 100000 in
theorem drop_none (w : World) (a : Option Addr) (cap : Nat) (xs : List Itm) (key : BA) (ha : Arg w a cap xs) (ht : Tab w) (hks : key.size ≤ 140737488351232) (hr : Rgt xs) (hn : Nof xs key) :
    Calls Tryd.prog 17 #[.agg #[.slice a xs.length cap], .string key] w (DropPost [] 60 w) := by
  have HR := Lib.hid hr
  have hl4 := hr.1
  clear hr
  have HNF := Lib.hid hn
  have hpl := pos_le xs key
  have HFB := Lib.hid (fndB_no hn)
  clear hn
  have E0 := Lib.hid (PEnv.new ha ht)
  obtain ⟨f1, f2, f3⟩ := E0.out.facts
  have hlen := ha.len
  have HOLD := Lib.hid (inI_old ha.its)
  clear ha ht
  go_enter Tryd.func17, Tryd.ntmps17
  go_wp2_with fail
  generalize (w.alloc (.cells #[.slice a xs.length cap] 24)).alloc (.cells #[.slice none 0 0] 24) = w0 at *
  refine (right_yes w0 a cap xs HR.out E0.out.arg.szs E0.out.arg.its).mono ?_
  rintro e w1 ⟨rfl, hb1⟩
  have E1 := Lib.hid (E0.out.step hb1)
  clear f1 f2 f3
  obtain ⟨f1, f2, f3⟩ := E1.out.facts
  clear hb1
  go_wp2_with fail
  refine (place_any w1 a cap xs E1.out.arg.its HR.out key hks).mono ?_
  rintro e w2 ⟨rfl, hb2⟩
  have E2 := Lib.hid (E1.out.step hb2)
  clear f1 f2 f3
  obtain ⟨f1, f2, f3⟩ := E2.out.facts
  rw [HFB.out]
  clear hb2
  obtain ⟨g1, g2⟩ := E2.out.put (.slice none 0 0)
  have G2 := Lib.hid g2
  clear g2
  go_wp2
  exact bodyPost_ret (v := .tuple #[.agg #[.slice none 0 0], .int .i64 60]) (by simp [results, Tryd.results17, go_sem, g1]) rfl ⟨_, _, rfl, InI.nil _ _, G2.out⟩

set_option maxHeartbeats 1600000 in
set_option maxRecDepth 100000 in
theorem drop_free (w : World) (a : Option Addr) (cap : Nat) (xs : List Itm) (key : BA) (ha : Arg w a cap xs) (ht : Tab w) (hks : key.size ≤ 140737488351232) (hr : Rgt xs) (x : Itm) (hf : Fnd xs key x) (hx : x.r = 0) :
    Calls Tryd.prog 17 #[.agg #[.slice a xs.length cap], .string key] w (DropPost [] 60 w) := by
  obtain ⟨b, off, rfl, hbl, -⟩ := ha.its.at_ hf.1
  have HR := Lib.hid hr
  have hl4 := hr.1
  clear hr
  have HF := Lib.hid hf
  have hpl := hf.lt
  have HFB := Lib.hid (fndB_yes hf)
  have HS := Lib.hid (HR.out.snd hf.1)
  have hsr1 := HS.out.r1
  have hsr2 := HS.out.r2
  clear hf
  have HE : Hid (decide (0 < x.r) = false) := Lib.hid (by simp; omega)
  clear hx
  have E0 := Lib.hid (PEnv.new ha ht)
  obtain ⟨f1, f2, f3⟩ := E0.out.facts
  have hlen := ha.len
  have HOLD := Lib.hid (inI_old ha.its)
  clear ha ht
  go_enter Tryd.func17, Tryd.ntmps17
  go_wp2_with fail
  generalize (w.alloc (.cells #[.slice (some ⟨b, off, none⟩) xs.length cap] 24)).alloc (.cells #[.slice none 0 0] 24) = w0 at *
  refine (right_yes w0 _ cap xs HR.out E0.out.arg.szs E0.out.arg.its).mono ?_
  rintro e w1 ⟨rfl, hb1⟩
  have E1 := Lib.hid (E0.out.step hb1)
  clear f1 f2 f3
  obtain ⟨f1, f2, f3⟩ := E1.out.facts
  clear hb1
  go_wp2_with fail
  refine (place_any w1 _ cap xs E1.out.arg.its HR.out key hks).mono ?_
  rintro e w2 ⟨rfl, hb2⟩
  have E2 := Lib.hid (E1.out.step hb2)
  clear f1 f2 f3
  obtain ⟨f1, f2, f3⟩ := E2.out.facts
  obtain ⟨b', off', hab, -, i1, i2, i3⟩ := E2.out.arg.its.at_ HF.out.1
  obtain ⟨rfl, rfl⟩ : b = b' ∧ off = off' := by simpa using hab
  clear hab
  rw [HFB.out]
  clear hb2
  go_wp2_with fail
  refine (held_any x w2).mono ?_
  rintro e w3 ⟨rfl, hb3⟩
  have E3 := Lib.hid (E2.out.step hb3)
  clear f1 f2 f3
  obtain ⟨f1, f2, f3⟩ := E3.out.facts
  rw [HE.out]
  clear hb3
  obtain ⟨g1, g2⟩ := E3.out.put (.slice none 0 0)
  have G2 := Lib.hid g2
  clear g2
  go_wp2
  exact bodyPost_ret (v := .tuple #[.agg #[.slice none 0 0], .int .i64 60]) (by simp [results, Tryd.results17, go_sem, g1]) rfl ⟨_, _, rfl, InI.nil _ _, G2.out⟩

set_option maxHeartbeats 1600000 in
set_option maxRecDepth 100000 in
theorem drop_less (w : World) (a : Option Addr) (cap : Nat) (xs : List Itm) (key : BA) (ha : Arg w a cap xs) (ht : Tab w) (hks : key.size ≤ 140737488351232) (hr : Rgt xs) (x : Itm) (hf : Fnd xs key x) (hx : 0 < x.r) :
    Calls Tryd.prog 17 #[.agg #[.slice a xs.length cap], .string key] w (DropPost (xs.set (pos xs key) ⟨x.k, x.b, x.r + -1⟩) 0 w) := by
  obtain ⟨b, off, rfl, hbl, -⟩ := ha.its.at_ hf.1
  have HR := Lib.hid hr
  have hl4 := hr.1
  clear hr
  have HF := Lib.hid hf
  have hpl := hf.lt
  have HFB := Lib.hid (fndB_yes hf)
  have HS := Lib.hid (HR.out.snd hf.1)
  have hsr1 := HS.out.r1
  have hsr2 := HS.out.r2
  clear hf
  have HE : Hid (decide (0 < x.r) = true) := Lib.hid (by simp; omega)
  clear hx
  have E0 := Lib.hid (PEnv.new ha ht)
  obtain ⟨f1, f2, f3⟩ := E0.out.facts
  have hlen := ha.len
  have HOLD := Lib.hid (inI_old ha.its)
  clear ha ht
  go_enter Tryd.func17, Tryd.ntmps17
  go_wp2_with fail
  generalize (w.alloc (.cells #[.slice (some ⟨b, off, none⟩) xs.length cap] 24)).alloc (.cells #[.slice none 0 0] 24) = w0 at *
  refine (right_yes w0 _ cap xs HR.out E0.out.arg.szs E0.out.arg.its).mono ?_
  rintro e w1 ⟨rfl, hb1⟩
  have E1 := Lib.hid (E0.out.step hb1)
  clear f1 f2 f3
  obtain ⟨f1, f2, f3⟩ := E1.out.facts
  clear hb1
  go_wp2_with fail
  refine (place_any w1 _ cap xs E1.out.arg.its HR.out key hks).mono ?_
  rintro e w2 ⟨rfl, hb2⟩
  have E2 := Lib.hid (E1.out.step hb2)
  clear f1 f2 f3
  obtain ⟨f1, f2, f3⟩ := E2.out.facts
  obtain ⟨b', off', hab, -, i1, i2, i3⟩ := E2.out.arg.its.at_ HF.out.1
  obtain ⟨rfl, rfl⟩ : b = b' ∧ off = off' := by simpa using hab
  clear hab
  rw [HFB.out]
  clear hb2
  go_wp2_with fail
  refine (held_any x w2).mono ?_
  rintro e w3 ⟨rfl, hb3⟩
  have E3 := Lib.hid (E2.out.step hb3)
  clear f1 f2 f3
  obtain ⟨f1, f2, f3⟩ := E3.out.facts
  rw [HE.out]
  clear hb3
  go_wp2_with fail
  refine (counted_any w3 _ cap (pos xs key) xs x (-1) E3.out.arg.its HF.out.1 hl4 HS.out (by omega) (by omega)).mono ?_
  rintro e w4 ⟨a5, c5, rfl, hI5, ha5, hb4⟩
  have E4 := Lib.hid (E3.out.step hb4)
  clear f1 f2 f3
  obtain ⟨f1, f2, f3⟩ := E4.out.facts
  have HI5 := Lib.hid hI5
  have HA5 := Lib.hid ha5
  have HLT := Lib.hid E3.out.lt
  clear hI5 ha5
  obtain ⟨n5, HN5⟩ : ∃ n, Hid (n = (xs.set (pos xs key) ⟨x.k, x.b, x.r + -1⟩).length) := ⟨_, Lib.hid rfl⟩
  rw [← HN5.out]
  clear hb4
  obtain ⟨g1, g2⟩ := E4.out.put (.slice a5 n5 c5)
  have G2 := Lib.hid g2
  have HI := Lib.hid (E4.out.putI (.slice a5 n5 c5) HI5.out HLT.out HA5.out)
  clear g2
  go_wp2
  exact bodyPost_ret (v := .tuple #[.agg #[.slice a5 n5 c5], .int .i64 0]) (by simp [results, Tryd.results17, go_sem, g1]) rfl ⟨_, _, by rw [HN5.out], HI.out, G2.out⟩

theorem drop_any (w : World) (a : Option Addr) (cap : Nat) (xs : List Itm) (key : BA) (ha : Arg w a cap xs) (ht : Tab w) (hks : key.size ≤ 140737488351232) {ys : List Itm} {er : Int} (h : DropCase xs key ys er) :
    Calls Tryd.prog 17 #[.agg #[.slice a xs.length cap], .string key] w (DropPost ys er w) := by
  cases h with
  | bad hr => exact drop_bad w a cap xs key ha ht hks hr
  | none hr hn => exact drop_none w a cap xs key ha ht hks hr hn
  | free x hr hf hx => exact drop_free w a cap xs key ha ht hks hr x hf hx
  | less x hr hf hx => exact drop_less w a cap xs key ha ht hks hr x hf hx

set_option maxHeartbeats 1600000 in
set_option maxRecDepth 100000 in
theorem rdrop_bad (w : World) (a : Option Addr) (cap : Nat) (xs : List Itm) (key : BA) (ha : Arg w a cap xs) (ht : Tab w) (hks : key.size ≤ 140737488351232) (hr : ¬ Rgt xs) :
    Calls Tryd.prog 18 #[.agg #[.slice a xs.length cap], .string key] w (DropPost [] 1 w) := by
  have HR := Lib.hid hr
  clear hr
  have E0 := Lib.hid (PEnv.new ha ht)
  obtain ⟨f1, f2, f3⟩ := E0.out.facts
  have hlen := ha.len
  have HOLD := Lib.hid (inI_old ha.its)
  clear ha ht
  go_enter Tryd.func18, Tryd.ntmps18
  go_wp2_with fail
  generalize (w.alloc (.cells #[.slice a xs.length cap] 24)).alloc (.cells #[.slice none 0 0] 24) = w0 at *
  refine (rright_no w0 a cap xs HR.out hlen E0.out.arg.szs E0.out.arg.its).mono ?_
  rintro e w1 ⟨rfl, hb1⟩
  have E1 := Lib.hid (E0.out.step hb1)
  clear f1 f2 f3
  obtain ⟨f1, f2, f3⟩ := E1.out.facts
  clear hb1
  obtain ⟨g1, g2⟩ := E1.out.put (.slice none 0 0)
  have G2 := Lib.hid g2
  clear g2
  go_wp2
  exact bodyPost_ret (v := .tuple #[.agg #[.slice none 0 0], .int .i64 1]) (by simp [results, Tryd.results18, go_sem, g1]) rfl ⟨_, _, rfl, InI.nil _ _, G2.out⟩

set_option maxHeartbeats 1600000 in
set_option maxRecDepth 100000 in
theorem rdrop_none (w : World) (a : Option Addr) (cap : Nat) (xs : List Itm) (key : BA) (ha : Arg w a cap xs) (ht : Tab w) (hks : key.size ≤ 140737488351232) (hr : Rgt xs) (hn : Nof xs key) :
    Calls Tryd.prog 18 #[.agg #[.slice a xs.length cap], .string key] w (DropPost [] 60 w) := by
  have HR := Lib.hid hr
  have hl4 := hr.1
  clear hr
  have HNF := Lib.hid hn
  have hpl := pos_le xs key
  have HFB := Lib.hid (fndB_no hn)
  clear hn
  have E0 := Lib.hid (PEnv.new ha ht)
  obtain ⟨f1, f2, f3⟩ := E0.out.facts
  have hlen := ha.len
  have HOLD := Lib.hid (inI_old ha.its)
  clear ha ht
  go_enter Tryd.func18, Tryd.ntmps18
  go_wp2_with fail
  generalize (w.alloc (.cells #[.slice a xs.length cap] 24)).alloc (.cells #[.slice none 0 0] 24) = w0 at *
  refine (rright_yes w0 a cap xs HR.out E0.out.arg.szs E0.out.arg.its).mono ?_
  rintro e w1 ⟨rfl, hb1⟩
  have E1 := Lib.hid (E0.out.step hb1)
  clear f1 f2 f3
  obtain ⟨f1, f2, f3⟩ := E1.out.facts
  clear hb1
  go_wp2_with fail
  refine (at_nof w1 a cap xs key E1.out.arg.its HR.out hks HNF.out).mono ?_
  rintro e w2 ⟨rfl, hb2⟩
  have E2 := Lib.hid (E1.out.step hb2)
  clear f1 f2 f3
  obtain ⟨f1, f2, f3⟩ := E2.out.facts
  clear hb2
  obtain ⟨g1, g2⟩ := E2.out.put (.slice none 0 0)
  have G2 := Lib.hid g2
  clear g2
  go_wp2
  exact bodyPost_ret (v := .tuple #[.agg #[.slice none 0 0], .int .i64 60]) (by simp [results, Tryd.results18, go_sem, g1]) rfl ⟨_, _, rfl, InI.nil _ _, G2.out⟩

set_option maxHeartbeats 1600000 in
set_option maxRecDepth 100000 in
theorem rdrop_free (w : World) (a : Option Addr) (cap : Nat) (xs : List Itm) (key : BA) (ha : Arg w a cap xs) (ht : Tab w) (hks : key.size ≤ 140737488351232) (hr : Rgt xs) (x : Itm) (hf : Fnd xs key x) (hx : x.r = 0) :
    Calls Tryd.prog 18 #[.agg #[.slice a xs.length cap], .string key] w (DropPost [] 60 w) := by
  obtain ⟨b, off, rfl, hbl, -⟩ := ha.its.at_ hf.1
  have HR := Lib.hid hr
  have hl4 := hr.1
  clear hr
  have HF := Lib.hid hf
  have hpl := hf.lt
  have HFB := Lib.hid (fndB_yes hf)
  have HS := Lib.hid (HR.out.snd hf.1)
  have hsr1 := HS.out.r1
  have hsr2 := HS.out.r2
  clear hf
  have hxr : (x.r == 0) = true := by simpa using hx
  clear hx
  have E0 := Lib.hid (PEnv.new ha ht)
  obtain ⟨f1, f2, f3⟩ := E0.out.facts
  have hlen := ha.len
  have HOLD := Lib.hid (inI_old ha.its)
  clear ha ht
  go_enter Tryd.func18, Tryd.ntmps18
  go_wp2_with fail
  generalize (w.alloc (.cells #[.slice (some ⟨b, off, none⟩) xs.length cap] 24)).alloc (.cells #[.slice none 0 0] 24) = w0 at *
  refine (rright_yes w0 _ cap xs HR.out E0.out.arg.szs E0.out.arg.its).mono ?_
  rintro e w1 ⟨rfl, hb1⟩
  have E1 := Lib.hid (E0.out.step hb1)
  clear f1 f2 f3
  obtain ⟨f1, f2, f3⟩ := E1.out.facts
  clear hb1
  go_wp2_with fail
  refine (at_fnd w1 _ cap xs key E1.out.arg.its HR.out hks HF.out).mono ?_
  rintro e w2 ⟨rfl, hb2⟩
  have E2 := Lib.hid (E1.out.step hb2)
  clear f1 f2 f3
  obtain ⟨f1, f2, f3⟩ := E2.out.facts
  obtain ⟨b', off', hab, -, i1, i2, i3⟩ := E2.out.arg.its.at_ HF.out.1
  obtain ⟨rfl, rfl⟩ : b = b' ∧ off = off' := by simpa using hab
  clear hab
  clear hb2
  obtain ⟨g1, g2⟩ := E2.out.put (.slice none 0 0)
  have G2 := Lib.hid g2
  clear g2
  go_wp2
  exact bodyPost_ret (v := .tuple #[.agg #[.slice none 0 0], .int .i64 60]) (by simp [results, Tryd.results18, go_sem, g1]) rfl ⟨_, _, rfl, InI.nil _ _, G2.out⟩

set_option maxHeartbeats 1600000 in
set_option maxRecDepth 100000 in
theorem rdrop_less (w : World) (a : Option Addr) (cap : Nat) (xs : List Itm) (key : BA) (ha : Arg w a cap xs) (ht : Tab w) (hks : key.size ≤ 140737488351232) (hr : Rgt xs) (x : Itm) (hf : Fnd xs key x) (hx : 0 < x.r) :
    Calls Tryd.prog 18 #[.agg #[.slice a xs.length cap], .string key] w (DropPost (xs.set (pos xs key) ⟨x.k, x.b, x.r + -1⟩) 0 w) := by
  obtain ⟨b, off, rfl, hbl, -⟩ := ha.its.at_ hf.1
  have HR := Lib.hid hr
  have hl4 := hr.1
  clear hr
  have HF := Lib.hid hf
  have hpl := hf.lt
  have HFB := Lib.hid (fndB_yes hf)
  have HS := Lib.hid (HR.out.snd hf.1)
  have hsr1 := HS.out.r1
  have hsr2 := HS.out.r2
  clear hf
  have hxr : (x.r == 0) = false := by rw [beq_eq_false_iff_ne]; omega
  clear hx
  have E0 := Lib.hid (PEnv.new ha ht)
  obtain ⟨f1, f2, f3⟩ := E0.out.facts
  have hlen := ha.len
  have HOLD := Lib.hid (inI_old ha.its)
  clear ha ht
  go_enter Tryd.func18, Tryd.ntmps18
  go_wp2_with fail
  generalize (w.alloc (.cells #[.slice (some ⟨b, off, none⟩) xs.length cap] 24)).alloc (.cells #[.slice none 0 0] 24) = w0 at *
  refine (rright_yes w0 _ cap xs HR.out E0.out.arg.szs E0.out.arg.its).mono ?_
  rintro e w1 ⟨rfl, hb1⟩
  have E1 := Lib.hid (E0.out.step hb1)
  clear f1 f2 f3
  obtain ⟨f1, f2, f3⟩ := E1.out.facts
  clear hb1
  go_wp2_with fail
  refine (at_fnd w1 _ cap xs key E1.out.arg.its HR.out hks HF.out).mono ?_
  rintro e w2 ⟨rfl, hb2⟩
  have E2 := Lib.hid (E1.out.step hb2)
  clear f1 f2 f3
  obtain ⟨f1, f2, f3⟩ := E2.out.facts
  obtain ⟨b', off', hab, -, i1, i2, i3⟩ := E2.out.arg.its.at_ HF.out.1
  obtain ⟨rfl, rfl⟩ : b = b' ∧ off = off' := by simpa using hab
  clear hab
  clear hb2
  go_wp2
  have HSR : Hid (setR xs key (x.r - 1) = (xs.set (pos xs key) ⟨x.k, x.b, x.r + -1⟩)) := Lib.hid (setR_fnd HR.out HF.out (x.r - 1))
  have hbo : b < w.heap.size := by
    rcases HOLD.out _ rfl with h | h
    · exact h
    · rw [h] at hpl; simp at hpl
  have HD : Hid (∀ W, Hid (Below w2.heap.size w2 W) → (W.cell? ⟨w.heap.size, 0, none⟩ = some (.slice (some ⟨b, off, none⟩) xs.length cap) ∧ W.cell? ⟨b, off + pos xs key * 3 + 2, none⟩ = some (.int .i64 x.r)) ∧ W.cell? ⟨w.heap.size + 1, 0, none⟩ = some (.slice none 0 0) ∧ W.frozen? ⟨w.heap.size + 1, 0, none⟩ = false) := Lib.hid (fun W h => by
    have e := E2.out.step h.out
    obtain ⟨q1, q2, q3⟩ := e.facts
    obtain ⟨b', off', hab, -, -, -, j3⟩ := e.arg.its.at_ HF.out.1
    obtain ⟨rfl, rfl⟩ : b = b' ∧ off = off' := by simpa using hab
    exact ⟨⟨q1, j3⟩, q2, q3⟩)
  have hd0 : Hid (Below w2.heap.size w2 w2.drew) := Lib.hid (Below.refl _ _).drew
  obtain ⟨⟨d0, d1⟩, d2, d3⟩ := HD.out _ hd0
  have HC : Hid (∀ W, Hid (Below w2.heap.size w2 W) → Calls Tryd.prog 31 #[.agg #[.slice (some ⟨b, off, none⟩) xs.length cap], .string key, .int .i64 (x.r - 1)] W fun e w' => ∃ a5 c5, e = .returned (.agg #[.slice a5 xs.length c5]) ∧ (w'.cell? ⟨w.heap.size, 0, none⟩ = some (.slice (some ⟨b, off, none⟩) xs.length cap) ∧ w'.cell? ⟨b, off + pos xs key * 3 + 2, none⟩ = some (.int .i64 x.r)) ∧ w'.cell? ⟨w.heap.size + 1, 0, none⟩ = some (.slice none 0 0) ∧ w'.frozen? ⟨w.heap.size + 1, 0, none⟩ = false ∧ Hid (InI w' a5 (xs.set (pos xs key) ⟨x.k, x.b, x.r + -1⟩)) ∧ Hid (∀ ad : Addr, a5 = some ad → w2.heap.size ≤ ad.block) ∧ Hid (Below w2.heap.size w2 w')) := Lib.hid (fun W h => by
    refine (with_any W (some ⟨b, off, none⟩) cap xs key (x.r - 1) (E2.out.step h.out).arg.its hl4 hks (by omega) (by omega)).mono fun e w' hh => ?_
    obtain ⟨a5, c5, he, hI, hba, hb⟩ := hh
    have hb' := below_trans h.out hb
    obtain ⟨q1, q2, q3⟩ := HD.out w' (Lib.hid hb')
    rw [HSR.out] at he hI
    rw [List.length_set] at he
    exact ⟨a5, c5, he, q1, q2, q3, Lib.hid hI, Lib.hid (fun ad had => Nat.le_trans h.out.size (hba ad had)), Lib.hid hb'⟩)
  have hne1 : ¬ (w.heap.size + 1 = w.heap.size) := by omega
  have hne2 : ¬ (w.heap.size + 1 = b) := by omega
  have hsum : IntKind.i64.wrap (x.r - 1) = x.r - 1 := IntWalk.i64_in _ (by omega)
  have hpi : ((pos xs key : Nat) : Int) < (xs.length : Int) := by omega
  have hpz : (0 : Int) ≤ ((pos xs key : Nat) : Int) := by omega
  clear f1 f2 f3 i1 i2 i3
  go_region_held3 (fun W => W.cell? ⟨w.heap.size, 0, none⟩ = some (.slice (some ⟨b, off, none⟩) xs.length cap) ∧ W.cell? ⟨b, off + pos xs key * 3 + 2, none⟩ = some (.int .i64 x.r)) (first | go_keep | assumption)
    (first | (go_at_call 31; refine (HC.out _ ?_).mono ?_; assumption; rintro e w9 ⟨a5, c5, rfl, hq9, hc9, hf9, HI9, HA9, HB9⟩) | fail)
  obtain ⟨g1, g2⟩ := (E2.out.step HB9.out).put (.slice a5 xs.length c5)
  have HI := Lib.hid ((E2.out.step HB9.out).putI (.slice a5 xs.length c5) HI9.out E2.out.lt HA9.out)
  have G2 := Lib.hid g2
  clear g2 hq9 hc9 hf9 d0 d1 d2 d3
  go_wp2
  exact bodyPost_ret (v := .tuple #[.agg #[.slice a5 xs.length c5], .int .i64 0]) (by simp [results, Tryd.results18, go_sem, g1]) rfl ⟨a5, c5, by rw [List.length_set], HI.out, G2.out⟩

theorem rdrop_any (w : World) (a : Option Addr) (cap : Nat) (xs : List Itm) (key : BA) (ha : Arg w a cap xs) (ht : Tab w) (hks : key.size ≤ 140737488351232) {ys : List Itm} {er : Int} (h : DropCase xs key ys er) :
    Calls Tryd.prog 18 #[.agg #[.slice a xs.length cap], .string key] w (DropPost ys er w) := by
  cases h with
  | bad hr => exact rdrop_bad w a cap xs key ha ht hks hr
  | none hr hn => exact rdrop_none w a cap xs key ha ht hks hr hn
  | free x hr hf hx => exact rdrop_free w a cap xs key ha ht hks hr x hf hx
  | less x hr hf hx => exact rdrop_less w a cap xs key ha ht hks hr x hf hx
end Go.Proofs.YtmaafhhdbhkplaaDoor
