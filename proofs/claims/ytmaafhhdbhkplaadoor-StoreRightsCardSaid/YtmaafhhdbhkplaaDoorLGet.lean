/- Get of package store; StoreGets: what the law answers. -/
import Derived.Test.YtmaafhhdbhkplaaDoorLPut
namespace Go.Proofs.YtmaafhhdbhkplaaDoor
open Go.RowKit

/-- What a store tells of a key. -/
inductive GetCase (xs : List Itm) (key : BA) : BA → Int → Prop
  | bad : ¬ Rgt xs → GetCase xs key ⟨#[]⟩ 1
  | none : Rgt xs → Nof xs key → GetCase xs key ⟨#[]⟩ 60
  | rot (x : Itm) : Rgt xs → Fnd xs key x → corB x = true → GetCase xs key ⟨#[]⟩ 61
  | got (x : Itm) : Rgt xs → Fnd xs key x → corB x = false → GetCase xs key x.b 0
theorem getCase_ex (xs : List Itm) (key : BA) : ∃ s er, GetCase xs key s er := by
  by_cases hr : Rgt xs
  · rcases fnd_or xs key hr with ⟨x, hx⟩ | hn
    · cases hc : corB x with
      | true => exact ⟨_, _, .rot x hr hx hc⟩
      | false => exact ⟨_, _, .got x hr hx hc⟩
    · exact ⟨_, _, .none hr hn⟩
  · exact ⟨_, _, .bad hr⟩
/-- A call that has boxed a store. -/
structure GEnv (w wi : World) (a : Option Addr) (cap : Nat) (xs : List Itm) : Prop where
  box : Row wi w.heap.size 24 [.slice a xs.length cap]
  arg : Arg wi a cap xs
  tab : Tab wi
  bel : Below w.heap.size w wi
theorem GEnv.new {w : World} {a : Option Addr} {cap : Nat} {xs : List Itm} (h : Arg w a cap xs) (ht : Tab w) : GEnv w (w.alloc (.cells #[.slice a xs.length cap] 24)) a cap xs :=
  ⟨row_new w #[.slice a xs.length cap] 24, h.below (below1 _ _), ht.below (below1 _ _), below1 _ _⟩
theorem GEnv.step {w wi wj : World} {a : Option Addr} {cap : Nat} {xs : List Itm} (h : GEnv w wi a cap xs) (hb : Below wi.heap.size wi wj) : GEnv w wj a cap xs := ⟨h.box.below hb, h.arg.below hb, h.tab.below hb, below_trans h.bel hb⟩

set_option maxHeartbeats 1600000 in
set_option maxRecDepth 100000 in
theorem get_bad (w : World) (a : Option Addr) (cap : Nat) (xs : List Itm) (key : BA) (ha : Arg w a cap xs) (ht : Tab w) (hks : key.size ≤ 140737488351232) (hr : ¬ Rgt xs) :
    Calls Tryd.prog 21 #[.agg #[.slice a xs.length cap], .string key] w fun e w' => e = .returned (.tuple #[.string ⟨#[]⟩, .int .i64 1]) ∧ Below w.heap.size w w' := by
  have HR := Lib.hid hr
  clear hr
  have E0 := Lib.hid (GEnv.new ha ht)
  have f1 := E0.out.box.cell (i := 0) rfl
  have hlen := ha.len
  clear ha ht
  go_enter Tryd.func21, Tryd.ntmps21
  go_wp2_with fail
  generalize w.alloc (.cells #[.slice a xs.length cap] 24) = w0 at *
  refine (right_no w0 a cap xs HR.out hlen E0.out.arg.szs E0.out.arg.its).mono ?_
  rintro e w1 ⟨rfl, hb1⟩
  have E1 := Lib.hid (E0.out.step hb1)
  clear f1
  have f1 := E1.out.box.cell (i := 0) rfl
  clear hb1
  go_wp2
  go_ret2
  exact ⟨rfl, E1.out.bel⟩

set_option maxHeartbeats 1600000 in
set_option maxRecDepth 100000 in
theorem get_none (w : World) (a : Option Addr) (cap : Nat) (xs : List Itm) (key : BA) (ha : Arg w a cap xs) (ht : Tab w) (hks : key.size ≤ 140737488351232) (hr : Rgt xs) (hn : Nof xs key) :
    Calls Tryd.prog 21 #[.agg #[.slice a xs.length cap], .string key] w fun e w' => e = .returned (.tuple #[.string ⟨#[]⟩, .int .i64 60]) ∧ Below w.heap.size w w' := by
  have HR := Lib.hid hr
  have hl4 := hr.1
  clear hr
  have HNF := Lib.hid hn
  have hpl := pos_le xs key
  have HFB := Lib.hid (fndB_no hn)
  clear hn
  have E0 := Lib.hid (GEnv.new ha ht)
  have f1 := E0.out.box.cell (i := 0) rfl
  have hlen := ha.len
  clear ha ht
  go_enter Tryd.func21, Tryd.ntmps21
  go_wp2_with fail
  generalize w.alloc (.cells #[.slice a xs.length cap] 24) = w0 at *
  refine (right_yes w0 a cap xs HR.out E0.out.arg.szs E0.out.arg.its).mono ?_
  rintro e w1 ⟨rfl, hb1⟩
  have E1 := Lib.hid (E0.out.step hb1)
  clear f1
  have f1 := E1.out.box.cell (i := 0) rfl
  clear hb1
  go_wp2_with fail
  refine (place_any w1 a cap xs E1.out.arg.its HR.out key hks).mono ?_
  rintro e w2 ⟨rfl, hb2⟩
  have E2 := Lib.hid (E1.out.step hb2)
  clear f1
  have f1 := E2.out.box.cell (i := 0) rfl
  rw [HFB.out]
  clear hb2
  go_wp2
  go_ret2
  exact ⟨rfl, E2.out.bel⟩

set_option maxHeartbeats 1600000 in
set_option maxRecDepth 100000 in
theorem get_rot (w : World) (a : Option Addr) (cap : Nat) (xs : List Itm) (key : BA) (ha : Arg w a cap xs) (ht : Tab w) (hks : key.size ≤ 140737488351232) (hr : Rgt xs) (x : Itm) (hf : Fnd xs key x) (hc : corB x = true) :
    Calls Tryd.prog 21 #[.agg #[.slice a xs.length cap], .string key] w fun e w' => e = .returned (.tuple #[.string ⟨#[]⟩, .int .i64 61]) ∧ Below w.heap.size w w' := by
  obtain ⟨b, off, rfl, hbl, -⟩ := ha.its.at_ hf.1
  have HR := Lib.hid hr
  have hl4 := hr.1
  clear hr
  have HF := Lib.hid hf
  have hpl := hf.lt
  have HFB := Lib.hid (fndB_yes hf)
  have HS := Lib.hid (HR.out.snd hf.1)
  have hsb := HS.out.b2
  clear hf
  have HE := Lib.hid hc
  clear hc
  have E0 := Lib.hid (GEnv.new ha ht)
  have f1 := E0.out.box.cell (i := 0) rfl
  have hlen := ha.len
  clear ha ht
  go_enter Tryd.func21, Tryd.ntmps21
  go_wp2_with fail
  generalize w.alloc (.cells #[.slice (some ⟨b, off, none⟩) xs.length cap] 24) = w0 at *
  refine (right_yes w0 _ cap xs HR.out E0.out.arg.szs E0.out.arg.its).mono ?_
  rintro e w1 ⟨rfl, hb1⟩
  have E1 := Lib.hid (E0.out.step hb1)
  clear f1
  have f1 := E1.out.box.cell (i := 0) rfl
  clear hb1
  go_wp2_with fail
  refine (place_any w1 _ cap xs E1.out.arg.its HR.out key hks).mono ?_
  rintro e w2 ⟨rfl, hb2⟩
  have E2 := Lib.hid (E1.out.step hb2)
  clear f1
  have f1 := E2.out.box.cell (i := 0) rfl
  obtain ⟨b', off', hab, -, i1, i2, i3⟩ := E2.out.arg.its.at_ HF.out.1
  obtain ⟨rfl, rfl⟩ : b = b' ∧ off = off' := by simpa using hab
  clear hab
  rw [HFB.out]
  clear hb2
  go_wp2_with fail
  refine (corrupt_any x w2 E2.out.tab hsb).mono ?_
  rintro e w3 ⟨rfl, hb3⟩
  have E3 := Lib.hid (E2.out.step hb3)
  clear f1
  have f1 := E3.out.box.cell (i := 0) rfl
  rw [HE.out]
  clear hb3
  go_wp2
  go_ret2
  exact ⟨rfl, E3.out.bel⟩

set_option maxHeartbeats 1600000 in
set_option maxRecDepth 100000 in
theorem get_got (w : World) (a : Option Addr) (cap : Nat) (xs : List Itm) (key : BA) (ha : Arg w a cap xs) (ht : Tab w) (hks : key.size ≤ 140737488351232) (hr : Rgt xs) (x : Itm) (hf : Fnd xs key x) (hc : corB x = false) :
    Calls Tryd.prog 21 #[.agg #[.slice a xs.length cap], .string key] w fun e w' => e = .returned (.tuple #[.string x.b, .int .i64 0]) ∧ Below w.heap.size w w' := by
  obtain ⟨b, off, rfl, hbl, -⟩ := ha.its.at_ hf.1
  have HR := Lib.hid hr
  have hl4 := hr.1
  clear hr
  have HF := Lib.hid hf
  have hpl := hf.lt
  have HFB := Lib.hid (fndB_yes hf)
  have HS := Lib.hid (HR.out.snd hf.1)
  have hsb := HS.out.b2
  clear hf
  have HE := Lib.hid hc
  clear hc
  have E0 := Lib.hid (GEnv.new ha ht)
  have f1 := E0.out.box.cell (i := 0) rfl
  have hlen := ha.len
  clear ha ht
  go_enter Tryd.func21, Tryd.ntmps21
  go_wp2_with fail
  generalize w.alloc (.cells #[.slice (some ⟨b, off, none⟩) xs.length cap] 24) = w0 at *
  refine (right_yes w0 _ cap xs HR.out E0.out.arg.szs E0.out.arg.its).mono ?_
  rintro e w1 ⟨rfl, hb1⟩
  have E1 := Lib.hid (E0.out.step hb1)
  clear f1
  have f1 := E1.out.box.cell (i := 0) rfl
  clear hb1
  go_wp2_with fail
  refine (place_any w1 _ cap xs E1.out.arg.its HR.out key hks).mono ?_
  rintro e w2 ⟨rfl, hb2⟩
  have E2 := Lib.hid (E1.out.step hb2)
  clear f1
  have f1 := E2.out.box.cell (i := 0) rfl
  obtain ⟨b', off', hab, -, i1, i2, i3⟩ := E2.out.arg.its.at_ HF.out.1
  obtain ⟨rfl, rfl⟩ : b = b' ∧ off = off' := by simpa using hab
  clear hab
  rw [HFB.out]
  clear hb2
  go_wp2_with fail
  refine (corrupt_any x w2 E2.out.tab hsb).mono ?_
  rintro e w3 ⟨rfl, hb3⟩
  have E3 := Lib.hid (E2.out.step hb3)
  clear f1
  have f1 := E3.out.box.cell (i := 0) rfl
  clear i1 i2 i3
  obtain ⟨b', off', hab, -, i1, i2, i3⟩ := E3.out.arg.its.at_ HF.out.1
  obtain ⟨rfl, rfl⟩ : b = b' ∧ off = off' := by simpa using hab
  clear hab
  rw [HE.out]
  clear hb3
  go_wp2
  go_ret2
  exact ⟨rfl, E3.out.bel⟩

theorem get_any (w : World) (a : Option Addr) (cap : Nat) (xs : List Itm) (key : BA) (ha : Arg w a cap xs) (ht : Tab w) (hks : key.size ≤ 140737488351232) {s : BA} {er : Int} (h : GetCase xs key s er) :
    Calls Tryd.prog 21 #[.agg #[.slice a xs.length cap], .string key] w fun e w' => e = .returned (.tuple #[.string s, .int .i64 er]) ∧ Below w.heap.size w w' := by
  cases h with
  | bad hr => exact get_bad w a cap xs key ha ht hks hr
  | none hr hn => exact get_none w a cap xs key ha ht hks hr hn
  | rot x hr hf hc => exact get_rot w a cap xs key ha ht hks hr x hf hc
  | got x hr hf hc => exact get_got w a cap xs key ha ht hks hr x hf hc

set_option maxHeartbeats 1600000 in
set_option maxRecDepth 100000 in
theorem lgets_bad (w : World) (a : Option Addr) (cap : Nat) (xs fx : List Itm) (key : BA) (hfw : Calls Tryd.prog 7 #[.agg #[.slice a xs.length cap]] (w.alloc (.cells #[.slice a xs.length cap] 24)) fun e w' => e = .returned (.agg #[.slice a fx.length cap]) ∧ Below (w.alloc (.cells #[.slice a xs.length cap] 24)).heap.size (w.alloc (.cells #[.slice a xs.length cap] 24)) w') (haf : Arg w a cap fx) (ht : Tab w) (hks : key.size ≤ 140737488351232) (hr : ¬ Rgt fx) :
    Calls Tryd.prog 6 #[.agg #[.slice a xs.length cap], .string key] w fun e w' => e = .returned (.bool true) ∧ Below w.heap.size w w' := by
  have HR := Lib.hid hr
  clear hr
  have HFW := Lib.hid hfw
  have HAF := Lib.hid haf
  have HT := Lib.hid ht
  have hlen := haf.len
  have HGC := Lib.hid (GetCase.bad (key := key) HR.out)
  clear hfw haf ht
  go_enter Tryd.func6, Tryd.ntmps6
  go_wp2_with fail
  refine HFW.out.mono ?_
  rintro e w1 ⟨rfl, hb1⟩
  obtain ⟨e1, e2⟩ := box_set hb1
  have E2 := Lib.hid (LEnv.new HAF.out HT.out hb1)
  have f1 := E2.out.box.cell (i := 0) rfl
  clear hb1
  go_wp2_with fail
  generalize hW2 : w1.setCell ⟨w.heap.size, 0, none⟩ (.slice a fx.length cap) = w2 at *
  clear hW2 e1 e2
  refine (get_any w2 _ cap fx key E2.out.arg E2.out.tab hks HGC.out).mono ?_
  rintro e w3 ⟨rfl, hb3⟩
  have E3 := Lib.hid (E2.out.step hb3)
  clear f1
  have f1 := E3.out.box.cell (i := 0) rfl
  clear hb3
  go_wp2_with fail
  refine (rright_no w3 _ cap fx HR.out hlen E3.out.arg.szs E3.out.arg.its).mono ?_
  rintro e w4 ⟨rfl, hb4⟩
  have E4 := Lib.hid (E3.out.step hb4)
  clear f1
  have f1 := E4.out.box.cell (i := 0) rfl
  clear hb4
  go_wp2_with fail
  refine (alive_any w4 E4.out.tab).mono ?_
  rintro e w5 ⟨rfl, hb5⟩
  have E5 := Lib.hid (E4.out.step hb5)
  clear f1
  have f1 := E5.out.box.cell (i := 0) rfl
  clear hb5
  go_wp2
  go_ret
  exact ⟨rfl, E5.out.bel⟩

set_option maxHeartbeats 1600000 in
set_option maxRecDepth 100000 in
theorem lgets_none (w : World) (a : Option Addr) (cap : Nat) (xs fx : List Itm) (key : BA) (hfw : Calls Tryd.prog 7 #[.agg #[.slice a xs.length cap]] (w.alloc (.cells #[.slice a xs.length cap] 24)) fun e w' => e = .returned (.agg #[.slice a fx.length cap]) ∧ Below (w.alloc (.cells #[.slice a xs.length cap] 24)).heap.size (w.alloc (.cells #[.slice a xs.length cap] 24)) w') (haf : Arg w a cap fx) (ht : Tab w) (hks : key.size ≤ 140737488351232) (hr : Rgt fx) (hn : Nof fx key) :
    Calls Tryd.prog 6 #[.agg #[.slice a xs.length cap], .string key] w fun e w' => e = .returned (.bool true) ∧ Below w.heap.size w w' := by
  have HR := Lib.hid hr
  have hl4 := hr.1
  clear hr
  have HNF := Lib.hid hn
  clear hn
  have HFW := Lib.hid hfw
  have HAF := Lib.hid haf
  have HT := Lib.hid ht
  have hlen := haf.len
  have HGC := Lib.hid (GetCase.none HR.out HNF.out)
  clear hfw haf ht
  go_enter Tryd.func6, Tryd.ntmps6
  go_wp2_with fail
  refine HFW.out.mono ?_
  rintro e w1 ⟨rfl, hb1⟩
  obtain ⟨e1, e2⟩ := box_set hb1
  have E2 := Lib.hid (LEnv.new HAF.out HT.out hb1)
  have f1 := E2.out.box.cell (i := 0) rfl
  clear hb1
  go_wp2_with fail
  generalize hW2 : w1.setCell ⟨w.heap.size, 0, none⟩ (.slice a fx.length cap) = w2 at *
  clear hW2 e1 e2
  refine (get_any w2 _ cap fx key E2.out.arg E2.out.tab hks HGC.out).mono ?_
  rintro e w3 ⟨rfl, hb3⟩
  have E3 := Lib.hid (E2.out.step hb3)
  clear f1
  have f1 := E3.out.box.cell (i := 0) rfl
  clear hb3
  go_wp2_with fail
  refine (rright_yes w3 _ cap fx HR.out E3.out.arg.szs E3.out.arg.its).mono ?_
  rintro e w4 ⟨rfl, hb4⟩
  have E4 := Lib.hid (E3.out.step hb4)
  clear f1
  have f1 := E4.out.box.cell (i := 0) rfl
  clear hb4
  go_wp2_with fail
  refine (at_nof w4 _ cap fx key E4.out.arg.its HR.out hks HNF.out).mono ?_
  rintro e w5 ⟨rfl, hb5⟩
  have E5 := Lib.hid (E4.out.step hb5)
  clear f1
  have f1 := E5.out.box.cell (i := 0) rfl
  clear hb5
  go_wp2_with fail
  refine (alive_any w5 E5.out.tab).mono ?_
  rintro e w6 ⟨rfl, hb6⟩
  have E6 := Lib.hid (E5.out.step hb6)
  clear f1
  have f1 := E6.out.box.cell (i := 0) rfl
  clear hb6
  go_wp2
  go_ret
  exact ⟨rfl, E6.out.bel⟩

set_option maxHeartbeats 1600000 in
set_option maxRecDepth 100000 in
theorem lgets_rot (w : World) (a : Option Addr) (cap : Nat) (xs fx : List Itm) (key : BA) (hfw : Calls Tryd.prog 7 #[.agg #[.slice a xs.length cap]] (w.alloc (.cells #[.slice a xs.length cap] 24)) fun e w' => e = .returned (.agg #[.slice a fx.length cap]) ∧ Below (w.alloc (.cells #[.slice a xs.length cap] 24)).heap.size (w.alloc (.cells #[.slice a xs.length cap] 24)) w') (haf : Arg w a cap fx) (ht : Tab w) (hks : key.size ≤ 140737488351232) (hr : Rgt fx) (x : Itm) (hf : Fnd fx key x) (hc : corB x = true) :
    Calls Tryd.prog 6 #[.agg #[.slice a xs.length cap], .string key] w fun e w' => e = .returned (.bool true) ∧ Below w.heap.size w w' := by
  obtain ⟨b, off, rfl, hbl, -⟩ := haf.its.at_ hf.1
  have HR := Lib.hid hr
  have hl4 := hr.1
  clear hr
  have HF := Lib.hid hf
  have hpl := hf.lt
  have HS := Lib.hid (HR.out.snd hf.1)
  have hsb := HS.out.b2
  clear hf
  have HE := Lib.hid hc
  clear hc
  have HFW := Lib.hid hfw
  have HAF := Lib.hid haf
  have HT := Lib.hid ht
  have hlen := haf.len
  have HGC := Lib.hid (GetCase.rot x HR.out HF.out HE.out)
  clear hfw haf ht
  go_enter Tryd.func6, Tryd.ntmps6
  go_wp2_with fail
  refine HFW.out.mono ?_
  rintro e w1 ⟨rfl, hb1⟩
  obtain ⟨e1, e2⟩ := box_set hb1
  have E2 := Lib.hid (LEnv.new HAF.out HT.out hb1)
  have f1 := E2.out.box.cell (i := 0) rfl
  clear hb1
  go_wp2_with fail
  generalize hW2 : w1.setCell ⟨w.heap.size, 0, none⟩ (.slice (some ⟨b, off, none⟩) fx.length cap) = w2 at *
  clear hW2 e1 e2
  refine (get_any w2 _ cap fx key E2.out.arg E2.out.tab hks HGC.out).mono ?_
  rintro e w3 ⟨rfl, hb3⟩
  have E3 := Lib.hid (E2.out.step hb3)
  clear f1
  have f1 := E3.out.box.cell (i := 0) rfl
  clear hb3
  go_wp2_with fail
  refine (rright_yes w3 _ cap fx HR.out E3.out.arg.szs E3.out.arg.its).mono ?_
  rintro e w4 ⟨rfl, hb4⟩
  have E4 := Lib.hid (E3.out.step hb4)
  clear f1
  have f1 := E4.out.box.cell (i := 0) rfl
  clear hb4
  go_wp2_with fail
  refine (at_fnd w4 _ cap fx key E4.out.arg.its HR.out hks HF.out).mono ?_
  rintro e w5 ⟨rfl, hb5⟩
  have E5 := Lib.hid (E4.out.step hb5)
  clear f1
  have f1 := E5.out.box.cell (i := 0) rfl
  obtain ⟨b', off', hab, -, i1, i2, i3⟩ := E5.out.arg.its.at_ HF.out.1
  obtain ⟨rfl, rfl⟩ : b = b' ∧ off = off' := by simpa using hab
  clear hab
  clear hb5
  go_wp2_with fail
  refine (rot_any x w5 hsb).mono ?_
  rintro e w6 ⟨rfl, hb6⟩
  have E6 := Lib.hid (E5.out.step hb6)
  clear f1
  have f1 := E6.out.box.cell (i := 0) rfl
  clear i1 i2 i3
  obtain ⟨b', off', hab, -, i1, i2, i3⟩ := E6.out.arg.its.at_ HF.out.1
  obtain ⟨rfl, rfl⟩ : b = b' ∧ off = off' := by simpa using hab
  clear hab
  rw [HE.out]
  clear hb6
  go_wp2_with fail
  refine (alive_any w6 E6.out.tab).mono ?_
  rintro e w7 ⟨rfl, hb7⟩
  have E7 := Lib.hid (E6.out.step hb7)
  clear f1
  have f1 := E7.out.box.cell (i := 0) rfl
  clear hb7
  go_wp2
  go_ret
  exact ⟨rfl, E7.out.bel⟩

set_option maxHeartbeats 1600000 in
set_option maxRecDepth 100000 in
theorem lgets_got (w : World) (a : Option Addr) (cap : Nat) (xs fx : List Itm) (key : BA) (hfw : Calls Tryd.prog 7 #[.agg #[.slice a xs.length cap]] (w.alloc (.cells #[.slice a xs.length cap] 24)) fun e w' => e = .returned (.agg #[.slice a fx.length cap]) ∧ Below (w.alloc (.cells #[.slice a xs.length cap] 24)).heap.size (w.alloc (.cells #[.slice a xs.length cap] 24)) w') (haf : Arg w a cap fx) (ht : Tab w) (hks : key.size ≤ 140737488351232) (hr : Rgt fx) (x : Itm) (hf : Fnd fx key x) (hc : corB x = false) :
    Calls Tryd.prog 6 #[.agg #[.slice a xs.length cap], .string key] w fun e w' => e = .returned (.bool true) ∧ Below w.heap.size w w' := by
  obtain ⟨b, off, rfl, hbl, -⟩ := haf.its.at_ hf.1
  have HR := Lib.hid hr
  have hl4 := hr.1
  clear hr
  have HF := Lib.hid hf
  have hpl := hf.lt
  have HS := Lib.hid (HR.out.snd hf.1)
  have hsb := HS.out.b2
  clear hf
  have HE := Lib.hid hc
  clear hc
  have HFW := Lib.hid hfw
  have HAF := Lib.hid haf
  have HT := Lib.hid ht
  have hlen := haf.len
  have HGC := Lib.hid (GetCase.got x HR.out HF.out HE.out)
  clear hfw haf ht
  go_enter Tryd.func6, Tryd.ntmps6
  go_wp2_with fail
  refine HFW.out.mono ?_
  rintro e w1 ⟨rfl, hb1⟩
  obtain ⟨e1, e2⟩ := box_set hb1
  have E2 := Lib.hid (LEnv.new HAF.out HT.out hb1)
  have f1 := E2.out.box.cell (i := 0) rfl
  clear hb1
  go_wp2_with fail
  generalize hW2 : w1.setCell ⟨w.heap.size, 0, none⟩ (.slice (some ⟨b, off, none⟩) fx.length cap) = w2 at *
  clear hW2 e1 e2
  refine (get_any w2 _ cap fx key E2.out.arg E2.out.tab hks HGC.out).mono ?_
  rintro e w3 ⟨rfl, hb3⟩
  have E3 := Lib.hid (E2.out.step hb3)
  clear f1
  have f1 := E3.out.box.cell (i := 0) rfl
  clear hb3
  go_wp2_with fail
  refine (rright_yes w3 _ cap fx HR.out E3.out.arg.szs E3.out.arg.its).mono ?_
  rintro e w4 ⟨rfl, hb4⟩
  have E4 := Lib.hid (E3.out.step hb4)
  clear f1
  have f1 := E4.out.box.cell (i := 0) rfl
  clear hb4
  go_wp2_with fail
  refine (at_fnd w4 _ cap fx key E4.out.arg.its HR.out hks HF.out).mono ?_
  rintro e w5 ⟨rfl, hb5⟩
  have E5 := Lib.hid (E4.out.step hb5)
  clear f1
  have f1 := E5.out.box.cell (i := 0) rfl
  obtain ⟨b', off', hab, -, i1, i2, i3⟩ := E5.out.arg.its.at_ HF.out.1
  obtain ⟨rfl, rfl⟩ : b = b' ∧ off = off' := by simpa using hab
  clear hab
  clear hb5
  go_wp2_with fail
  refine (rot_any x w5 hsb).mono ?_
  rintro e w6 ⟨rfl, hb6⟩
  have E6 := Lib.hid (E5.out.step hb6)
  clear f1
  have f1 := E6.out.box.cell (i := 0) rfl
  clear i1 i2 i3
  obtain ⟨b', off', hab, -, i1, i2, i3⟩ := E6.out.arg.its.at_ HF.out.1
  obtain ⟨rfl, rfl⟩ : b = b' ∧ off = off' := by simpa using hab
  clear hab
  rw [HE.out]
  clear hb6
  go_wp2_with fail
  refine (alive_any w6 E6.out.tab).mono ?_
  rintro e w7 ⟨rfl, hb7⟩
  have E7 := Lib.hid (E6.out.step hb7)
  clear f1
  have f1 := E7.out.box.cell (i := 0) rfl
  clear hb7
  go_wp2
  go_ret
  exact ⟨rfl, E7.out.bel⟩

theorem lgets_any (w : World) (a : Option Addr) (cap : Nat) (xs : List Itm) (key : BA) (ha : Arg w a cap xs) (ht : Tab w) (hks : key.size ≤ 140737488351232) :
    Calls Tryd.prog 6 #[.agg #[.slice a xs.length cap], .string key] w fun e w' => e = .returned (.bool true) ∧ Below w.heap.size w w' := by
  have hfw := few_any (w.alloc (.cells #[.slice a xs.length cap] 24)) a cap xs (ha.below (below1 _ _))
  have haf := ha.few
  by_cases hr : Rgt (fewF xs)
  · rcases fnd_or (fewF xs) key hr with ⟨x, hx⟩ | hn
    · cases hc : corB x with
      | true => exact lgets_rot w a cap xs _ key hfw haf ht hks hr x hx hc
      | false => exact lgets_got w a cap xs _ key hfw haf ht hks hr x hx hc
    · exact lgets_none w a cap xs _ key hfw haf ht hks hr hn
  · exact lgets_bad w a cap xs _ key hfw haf ht hks hr
end Go.Proofs.YtmaafhhdbhkplaaDoor
