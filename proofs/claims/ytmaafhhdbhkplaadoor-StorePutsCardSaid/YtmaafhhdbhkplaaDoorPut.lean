/- Package store's Put. -/
import Derived.Test.YtmaafhhdbhkplaaDoorIns
import Derived.Test.YtmaafhhdbhkplaaDoorPlc
namespace Go.Proofs.YtmaafhhdbhkplaaDoor
open Go.RowKit

theorem right_yes (w : World) (a : Option Addr) (cap : Nat) (xs : List Itm) (h : Rgt xs) (hz : Szs xs) (hIn : InI w a xs) : Calls Tryd.prog 11 #[.agg #[.slice a xs.length cap]] w fun e w' => e = .returned (.bool true) ∧ Below w.heap.size w w' :=
  (right_any w a cap xs (by have := h.1; omega) hz hIn).mono fun e w' ⟨b, he, hb, hB⟩ => ⟨by rw [he, hb.2 h], hB⟩
theorem right_no (w : World) (a : Option Addr) (cap : Nat) (xs : List Itm) (h : ¬ Rgt xs) (hl : xs.length ≤ 9223372036854775807) (hz : Szs xs) (hIn : InI w a xs) : Calls Tryd.prog 11 #[.agg #[.slice a xs.length cap]] w fun e w' => e = .returned (.bool false) ∧ Below w.heap.size w w' :=
  (right_any w a cap xs hl hz hIn).mono fun e w' ⟨b, he, hb, hB⟩ => ⟨by
    cases b with
    | true => exact absurd (hb.1 rfl) h
    | false => exact he, hB⟩

/-- A store that is handed in. -/
structure Arg (w : World) (a : Option Addr) (cap : Nat) (xs : List Itm) : Prop where
  its : InI w a xs
  szs : Szs xs
  len : xs.length ≤ 9223372036854775807
  cap1 : xs.length ≤ cap
  cap2 : cap ≤ 9223372036854775807
  nil : a = none → cap = 0
theorem Arg.below {w w' : World} {a : Option Addr} {cap : Nat} {xs : List Itm} (h : Arg w a cap xs) (hb : Below w.heap.size w w') : Arg w' a cap xs := ⟨h.its.below hb, h.szs, h.len, h.cap1, h.cap2, h.nil⟩
/-- A call that has boxed a store and has a place for a store as its result. -/
structure PEnv (w wi : World) (a : Option Addr) (cap : Nat) (xs : List Itm) : Prop where
  box : Row wi w.heap.size 24 [.slice a xs.length cap]
  res : Row wi (w.heap.size + 1) 24 [.slice none 0 0]
  arg : Arg wi a cap xs
  tab : Tab wi
  bel : Below w.heap.size w wi
theorem PEnv.new {w : World} {a : Option Addr} {cap : Nat} {xs : List Itm} (h : Arg w a cap xs) (ht : Tab w) : PEnv w ((w.alloc (.cells #[.slice a xs.length cap] 24)).alloc (.cells #[.slice none 0 0] 24)) a cap xs :=
  ⟨(row_new w #[.slice a xs.length cap] 24).alloc _, by have := row_new (w.alloc (.cells #[.slice a xs.length cap] 24)) #[.slice none 0 0] 24; simpa using this, h.below (below2 _ _ _), ht.below (below2 _ _ _), below2 _ _ _⟩
theorem PEnv.step {w wi wj : World} {a : Option Addr} {cap : Nat} {xs : List Itm} (h : PEnv w wi a cap xs) (hb : Below wi.heap.size wi wj) : PEnv w wj a cap xs :=
  ⟨h.box.below hb, h.res.below hb, h.arg.below hb, h.tab.below hb, below_trans h.bel hb⟩
theorem PEnv.facts {w wi : World} {a : Option Addr} {cap : Nat} {xs : List Itm} (h : PEnv w wi a cap xs) : wi.cell? ⟨w.heap.size, 0, none⟩ = some (.slice a xs.length cap) ∧ wi.cell? ⟨w.heap.size + 1, 0, none⟩ = some (.slice none 0 0) ∧ wi.frozen? ⟨w.heap.size + 1, 0, none⟩ = false :=
  ⟨h.box.cell rfl, h.res.cell rfl, h.res.thaw 0⟩
/-- The result, stored. -/
theorem PEnv.put {w wi : World} {a : Option Addr} {cap : Nat} {xs : List Itm} (h : PEnv w wi a cap xs) (v : Value) : (wi.setCell ⟨w.heap.size + 1, 0, none⟩ v).cell? ⟨w.heap.size + 1, 0, none⟩ = some v ∧ Below w.heap.size w (wi.setCell ⟨w.heap.size + 1, 0, none⟩ v) :=
  ⟨(h.res.set 0 v).cell rfl, h.bel.trans (((But.refl (w.heap.size + 1) wi).set 0 v).below (by omega))⟩
theorem PEnv.lt {w wi : World} {a : Option Addr} {cap : Nat} {xs : List Itm} (h : PEnv w wi a cap xs) : w.heap.size + 1 < wi.heap.size := h.res.lt
theorem PEnv.putI {w wi : World} {a : Option Addr} {cap : Nat} {xs ys : List Itm} {a' : Option Addr} (_h : PEnv w wi a cap xs) (v : Value) (hI : InI wi a' ys) {B : Nat} (hB : w.heap.size + 1 < B) (ha : ∀ ad : Addr, a' = some ad → B ≤ ad.block) : InI (wi.setCell ⟨w.heap.size + 1, 0, none⟩ v) a' ys :=
  hI.but ((But.refl (w.heap.size + 1) wi).set 0 v) (fun ad had => by have := ha ad had; omega)

theorem ba_empty {s : BA} (h : s.size = 0) : s = ⟨#[]⟩ := BA.ext (List.eq_nil_of_length_eq_zero (by rw [BA.len]; exact h))
/-- What putting a body makes. -/
inductive PutCase (xs : List Itm) (body : BA) : List Itm → BA → Int → Prop
  | bad : ¬ Rgt xs → PutCase xs body [] ⟨#[]⟩ 1
  | none : Rgt xs → body.size = 0 → PutCase xs body [] ⟨#[]⟩ 1
  | long : Rgt xs → 512 < body.size → PutCase xs body [] ⟨#[]⟩ 2
  | rot (x : Itm) : Rgt xs → 0 < body.size → body.size ≤ 512 → Fnd xs (leafF body) x → corB x = true → PutCase xs body [] ⟨#[]⟩ 61
  | full (x : Itm) : Rgt xs → 0 < body.size → body.size ≤ 512 → Fnd xs (leafF body) x → corB x = false → x.r = 1073741824 → PutCase xs body [] ⟨#[]⟩ 130
  | more (x : Itm) : Rgt xs → 0 < body.size → body.size ≤ 512 → Fnd xs (leafF body) x → corB x = false → x.r ≠ 1073741824 → PutCase xs body (xs.set (pos xs (leafF body)) ⟨x.k, x.b, x.r + 1⟩) (leafF body) 0
  | many : Rgt xs → 0 < body.size → body.size ≤ 512 → Nof xs (leafF body) → xs.length = 4096 → PutCase xs body [] ⟨#[]⟩ 130
  | new : Rgt xs → 0 < body.size → body.size ≤ 512 → Nof xs (leafF body) → xs.length < 4096 → PutCase xs body (insF xs (pos xs (leafF body)) ⟨leafF body, body, 1⟩) (leafF body) 0
theorem putCase_ex (xs : List Itm) (body : BA) : ∃ ys k er, PutCase xs body ys k er := by
  by_cases hr : Rgt xs
  · by_cases h0 : body.size = 0
    · exact ⟨_, _, _, .none hr h0⟩
    · by_cases h1 : 512 < body.size
      · exact ⟨_, _, _, .long hr h1⟩
      · rcases fnd_or xs (leafF body) hr with ⟨x, hx⟩ | hn
        · cases hc : corB x with
          | true => exact ⟨_, _, _, .rot x hr (by omega) (by omega) hx hc⟩
          | false =>
            by_cases h2 : x.r = 1073741824
            · exact ⟨_, _, _, .full x hr (by omega) (by omega) hx hc h2⟩
            · exact ⟨_, _, _, .more x hr (by omega) (by omega) hx hc h2⟩
        · have := hr.1
          by_cases h3 : xs.length = 4096
          · exact ⟨_, _, _, .many hr (by omega) (by omega) hn h3⟩
          · exact ⟨_, _, _, .new hr (by omega) (by omega) hn (by omega)⟩
  · exact ⟨_, _, _, .bad hr⟩
/-- A Put's answer. -/
def PutPost (ys : List Itm) (k : BA) (er : Int) (w : World) (e : Ending) (w' : World) : Prop := ∃ a cap, e = .returned (.tuple #[.agg #[.slice a ys.length cap], .string k, .int .i64 er]) ∧ InI w' a ys ∧ Below w.heap.size w w'

set_option maxHeartbeats 1600000 in
set_option maxRecDepth 100000 in
theorem put_bad (w : World) (a : Option Addr) (cap : Nat) (xs : List Itm) (body : BA) (ha : Arg w a cap xs) (ht : Tab w) (hbs : body.size ≤ 140737488351232) (hr : ¬ Rgt xs) :
    Calls Tryd.prog 14 #[.agg #[.slice a xs.length cap], .string body] w (PutPost [] ⟨#[]⟩ 1 w) := by
  have HR := Lib.hid hr
  clear hr
  have E0 := Lib.hid (PEnv.new ha ht)
  obtain ⟨f1, f2, f3⟩ := E0.out.facts
  have hlen := ha.len
  clear ha ht
  go_enter Tryd.func14, Tryd.ntmps14
  go_wp2_with fail
  generalize (w.alloc (.cells #[.slice a xs.length cap] 24)).alloc (.cells #[.slice none 0 0] 24) = w0 at *
  refine (right_no w0 a cap xs HR.out hlen E0.out.arg.szs E0.out.arg.its).mono ?_
  rintro e w1 ⟨rfl, hb1⟩
  have E1 := Lib.hid (E0.out.step hb1)
  clear f1 f2 f3
  obtain ⟨f1, f2, f3⟩ := E1.out.facts
  clear hb1
  obtain ⟨g1, g2⟩ := E1.out.put (.slice none 0 0)
  have G2 := Lib.hid g2
  clear g2
  go_wp2
  exact bodyPost_ret (v := .tuple #[.agg #[.slice none 0 0], .string ⟨#[]⟩, .int .i64 1]) (by simp [results, Tryd.results14, go_sem, g1]) rfl ⟨_, _, rfl, InI.nil _ _, G2.out⟩

set_option maxHeartbeats 1600000 in
set_option maxRecDepth 100000 in
theorem put_none (w : World) (a : Option Addr) (cap : Nat) (xs : List Itm) (body : BA) (ha : Arg w a cap xs) (ht : Tab w) (hbs : body.size ≤ 140737488351232) (hr : Rgt xs) (h0 : body.size = 0) :
    Calls Tryd.prog 14 #[.agg #[.slice a xs.length cap], .string body] w (PutPost [] ⟨#[]⟩ 1 w) := by
  have HR := Lib.hid hr
  clear hr
  obtain rfl := ba_empty h0
  clear h0 hbs
  have E0 := Lib.hid (PEnv.new ha ht)
  obtain ⟨f1, f2, f3⟩ := E0.out.facts
  have hlen := ha.len
  clear ha ht
  go_enter Tryd.func14, Tryd.ntmps14
  go_wp2_with fail
  generalize (w.alloc (.cells #[.slice a xs.length cap] 24)).alloc (.cells #[.slice none 0 0] 24) = w0 at *
  refine (right_yes w0 a cap xs HR.out E0.out.arg.szs E0.out.arg.its).mono ?_
  rintro e w1 ⟨rfl, hb1⟩
  have E1 := Lib.hid (E0.out.step hb1)
  clear f1 f2 f3
  obtain ⟨f1, f2, f3⟩ := E1.out.facts
  clear hb1
  obtain ⟨g1, g2⟩ := E1.out.put (.slice none 0 0)
  have G2 := Lib.hid g2
  clear g2
  go_wp2
  exact bodyPost_ret (v := .tuple #[.agg #[.slice none 0 0], .string ⟨#[]⟩, .int .i64 1]) (by simp [results, Tryd.results14, go_sem, g1]) rfl ⟨_, _, rfl, InI.nil _ _, G2.out⟩

set_option maxHeartbeats 1600000 in
set_option maxRecDepth 100000 in
theorem put_long (w : World) (a : Option Addr) (cap : Nat) (xs : List Itm) (body : BA) (ha : Arg w a cap xs) (ht : Tab w) (hbs : body.size ≤ 140737488351232) (hr : Rgt xs) (h1 : 512 < body.size) :
    Calls Tryd.prog 14 #[.agg #[.slice a xs.length cap], .string body] w (PutPost [] ⟨#[]⟩ 2 w) := by
  have HR := Lib.hid hr
  have hl4 := hr.1
  clear hr
  have hne : body.toList.isEmpty = false := by rw [ByteArray.toList_eq]; cases h : body.data.toList with
    | nil => have := BA.len body; rw [h] at this; simp at this; omega
    | cons _ _ => rfl
  have E0 := Lib.hid (PEnv.new ha ht)
  obtain ⟨f1, f2, f3⟩ := E0.out.facts
  have hlen := ha.len
  clear ha ht
  go_enter Tryd.func14, Tryd.ntmps14
  go_wp2_with fail
  generalize (w.alloc (.cells #[.slice a xs.length cap] 24)).alloc (.cells #[.slice none 0 0] 24) = w0 at *
  refine (right_yes w0 a cap xs HR.out E0.out.arg.szs E0.out.arg.its).mono ?_
  rintro e w1 ⟨rfl, hb1⟩
  have E1 := Lib.hid (E0.out.step hb1)
  clear f1 f2 f3
  obtain ⟨f1, f2, f3⟩ := E1.out.facts
  clear hb1
  obtain ⟨g1, g2⟩ := E1.out.put (.slice none 0 0)
  have G2 := Lib.hid g2
  clear g2
  go_wp2
  exact bodyPost_ret (v := .tuple #[.agg #[.slice none 0 0], .string ⟨#[]⟩, .int .i64 2]) (by simp [results, Tryd.results14, go_sem, g1]) rfl ⟨_, _, rfl, InI.nil _ _, G2.out⟩

set_option maxHeartbeats 1600000 in
set_option maxRecDepth 100000 in
theorem put_rot (w : World) (a : Option Addr) (cap : Nat) (xs : List Itm) (body : BA) (ha : Arg w a cap xs) (ht : Tab w) (hbs : body.size ≤ 140737488351232) (hr : Rgt xs) (hb0 : 0 < body.size) (hb1 : body.size ≤ 512) (x : Itm) (hf : Fnd xs (leafF body) x) (hc : corB x = true) :
    Calls Tryd.prog 14 #[.agg #[.slice a xs.length cap], .string body] w (PutPost [] ⟨#[]⟩ 61 w) := by
  have HR := Lib.hid hr
  have hl4 := hr.1
  clear hr
  have hne : body.toList.isEmpty = false := by rw [ByteArray.toList_eq]; cases h : body.data.toList with
    | nil => have := BA.len body; rw [h] at this; simp at this; omega
    | cons _ _ => rfl
  have hks : (leafF body).size ≤ 140737488351232 := by rw [leafF_size]; omega
  have HF := Lib.hid hf
  have hpl := hf.lt
  have HFB := Lib.hid (fndB_yes hf)
  have HS := Lib.hid (HR.out.snd hf.1)
  clear hf
  have HE : Hid ((if corB x = true then 61 else if x.r = 1073741824 then 130 else 0 : Int) = 61) := Lib.hid (if_pos hc)
  clear hc
  have E0 := Lib.hid (PEnv.new ha ht)
  obtain ⟨f1, f2, f3⟩ := E0.out.facts
  have hlen := ha.len
  clear ha ht
  go_enter Tryd.func14, Tryd.ntmps14
  go_wp2_with fail
  generalize (w.alloc (.cells #[.slice a xs.length cap] 24)).alloc (.cells #[.slice none 0 0] 24) = w0 at *
  refine (right_yes w0 a cap xs HR.out E0.out.arg.szs E0.out.arg.its).mono ?_
  rintro e w1 ⟨rfl, hb1⟩
  have E1 := Lib.hid (E0.out.step hb1)
  clear f1 f2 f3
  obtain ⟨f1, f2, f3⟩ := E1.out.facts
  clear hb1
  go_wp2_with fail
  refine (leaf_any body w1 E1.out.tab (by omega)).mono ?_
  rintro e w2 ⟨rfl, hb2⟩
  have E2 := Lib.hid (E1.out.step hb2)
  clear f1 f2 f3
  obtain ⟨f1, f2, f3⟩ := E2.out.facts
  clear hb2
  go_wp2_with fail
  refine (place_any w2 a cap xs E2.out.arg.its HR.out (leafF body) hks).mono ?_
  rintro e w3 ⟨rfl, hb3⟩
  have E3 := Lib.hid (E2.out.step hb3)
  clear f1 f2 f3
  obtain ⟨f1, f2, f3⟩ := E3.out.facts
  rw [HFB.out]
  clear hb3
  go_wp2_with fail
  refine (refusal_found w3 a cap (pos xs (leafF body)) xs x E3.out.arg.its E3.out.tab HF.out.1 hl4 HS.out).mono ?_
  rintro e w4 ⟨rfl, hb4⟩
  have E4 := Lib.hid (E3.out.step hb4)
  clear f1 f2 f3
  obtain ⟨f1, f2, f3⟩ := E4.out.facts
  rw [HE.out]
  clear hb4
  obtain ⟨g1, g2⟩ := E4.out.put (.slice none 0 0)
  have G2 := Lib.hid g2
  clear g2
  go_wp2
  exact bodyPost_ret (v := .tuple #[.agg #[.slice none 0 0], .string ⟨#[]⟩, .int .i64 61]) (by simp [results, Tryd.results14, go_sem, g1]) rfl ⟨_, _, rfl, InI.nil _ _, G2.out⟩

set_option maxHeartbeats 1600000 in
set_option maxRecDepth 100000 in
theorem put_full (w : World) (a : Option Addr) (cap : Nat) (xs : List Itm) (body : BA) (ha : Arg w a cap xs) (ht : Tab w) (hbs : body.size ≤ 140737488351232) (hr : Rgt xs) (hb0 : 0 < body.size) (hb1 : body.size ≤ 512) (x : Itm) (hf : Fnd xs (leafF body) x) (hc : corB x = false) (hx : x.r = 1073741824) :
    Calls Tryd.prog 14 #[.agg #[.slice a xs.length cap], .string body] w (PutPost [] ⟨#[]⟩ 130 w) := by
  have HR := Lib.hid hr
  have hl4 := hr.1
  clear hr
  have hne : body.toList.isEmpty = false := by rw [ByteArray.toList_eq]; cases h : body.data.toList with
    | nil => have := BA.len body; rw [h] at this; simp at this; omega
    | cons _ _ => rfl
  have hks : (leafF body).size ≤ 140737488351232 := by rw [leafF_size]; omega
  have HF := Lib.hid hf
  have hpl := hf.lt
  have HFB := Lib.hid (fndB_yes hf)
  have HS := Lib.hid (HR.out.snd hf.1)
  clear hf
  have HE : Hid ((if corB x = true then 61 else if x.r = 1073741824 then 130 else 0 : Int) = 130) := Lib.hid (by rw [if_neg (by rw [hc]; decide), if_pos hx])
  clear hc hx
  have E0 := Lib.hid (PEnv.new ha ht)
  obtain ⟨f1, f2, f3⟩ := E0.out.facts
  have hlen := ha.len
  clear ha ht
  go_enter Tryd.func14, Tryd.ntmps14
  go_wp2_with fail
  generalize (w.alloc (.cells #[.slice a xs.length cap] 24)).alloc (.cells #[.slice none 0 0] 24) = w0 at *
  refine (right_yes w0 a cap xs HR.out E0.out.arg.szs E0.out.arg.its).mono ?_
  rintro e w1 ⟨rfl, hb1⟩
  have E1 := Lib.hid (E0.out.step hb1)
  clear f1 f2 f3
  obtain ⟨f1, f2, f3⟩ := E1.out.facts
  clear hb1
  go_wp2_with fail
  refine (leaf_any body w1 E1.out.tab (by omega)).mono ?_
  rintro e w2 ⟨rfl, hb2⟩
  have E2 := Lib.hid (E1.out.step hb2)
  clear f1 f2 f3
  obtain ⟨f1, f2, f3⟩ := E2.out.facts
  clear hb2
  go_wp2_with fail
  refine (place_any w2 a cap xs E2.out.arg.its HR.out (leafF body) hks).mono ?_
  rintro e w3 ⟨rfl, hb3⟩
  have E3 := Lib.hid (E2.out.step hb3)
  clear f1 f2 f3
  obtain ⟨f1, f2, f3⟩ := E3.out.facts
  rw [HFB.out]
  clear hb3
  go_wp2_with fail
  refine (refusal_found w3 a cap (pos xs (leafF body)) xs x E3.out.arg.its E3.out.tab HF.out.1 hl4 HS.out).mono ?_
  rintro e w4 ⟨rfl, hb4⟩
  have E4 := Lib.hid (E3.out.step hb4)
  clear f1 f2 f3
  obtain ⟨f1, f2, f3⟩ := E4.out.facts
  rw [HE.out]
  clear hb4
  obtain ⟨g1, g2⟩ := E4.out.put (.slice none 0 0)
  have G2 := Lib.hid g2
  clear g2
  go_wp2
  exact bodyPost_ret (v := .tuple #[.agg #[.slice none 0 0], .string ⟨#[]⟩, .int .i64 130]) (by simp [results, Tryd.results14, go_sem, g1]) rfl ⟨_, _, rfl, InI.nil _ _, G2.out⟩

set_option maxHeartbeats 1600000 in
set_option maxRecDepth 100000 in
theorem put_more (w : World) (a : Option Addr) (cap : Nat) (xs : List Itm) (body : BA) (ha : Arg w a cap xs) (ht : Tab w) (hbs : body.size ≤ 140737488351232) (hr : Rgt xs) (hb0 : 0 < body.size) (hb1 : body.size ≤ 512) (x : Itm) (hf : Fnd xs (leafF body) x) (hc : corB x = false) (hx : x.r ≠ 1073741824) :
    Calls Tryd.prog 14 #[.agg #[.slice a xs.length cap], .string body] w (PutPost (xs.set (pos xs (leafF body)) ⟨x.k, x.b, x.r + 1⟩) (leafF body) 0 w) := by
  have HR := Lib.hid hr
  have hl4 := hr.1
  clear hr
  have hne : body.toList.isEmpty = false := by rw [ByteArray.toList_eq]; cases h : body.data.toList with
    | nil => have := BA.len body; rw [h] at this; simp at this; omega
    | cons _ _ => rfl
  have hks : (leafF body).size ≤ 140737488351232 := by rw [leafF_size]; omega
  have HF := Lib.hid hf
  have hpl := hf.lt
  have HFB := Lib.hid (fndB_yes hf)
  have HS := Lib.hid (HR.out.snd hf.1)
  clear hf
  have HE : Hid ((if corB x = true then 61 else if x.r = 1073741824 then 130 else 0 : Int) = 0) := Lib.hid (by rw [if_neg (by rw [hc]; decide), if_neg hx])
  clear hc hx
  have E0 := Lib.hid (PEnv.new ha ht)
  obtain ⟨f1, f2, f3⟩ := E0.out.facts
  have hlen := ha.len
  clear ha ht
  go_enter Tryd.func14, Tryd.ntmps14
  go_wp2_with fail
  generalize (w.alloc (.cells #[.slice a xs.length cap] 24)).alloc (.cells #[.slice none 0 0] 24) = w0 at *
  refine (right_yes w0 a cap xs HR.out E0.out.arg.szs E0.out.arg.its).mono ?_
  rintro e w1 ⟨rfl, hb1⟩
  have E1 := Lib.hid (E0.out.step hb1)
  clear f1 f2 f3
  obtain ⟨f1, f2, f3⟩ := E1.out.facts
  clear hb1
  go_wp2_with fail
  refine (leaf_any body w1 E1.out.tab (by omega)).mono ?_
  rintro e w2 ⟨rfl, hb2⟩
  have E2 := Lib.hid (E1.out.step hb2)
  clear f1 f2 f3
  obtain ⟨f1, f2, f3⟩ := E2.out.facts
  clear hb2
  go_wp2_with fail
  refine (place_any w2 a cap xs E2.out.arg.its HR.out (leafF body) hks).mono ?_
  rintro e w3 ⟨rfl, hb3⟩
  have E3 := Lib.hid (E2.out.step hb3)
  clear f1 f2 f3
  obtain ⟨f1, f2, f3⟩ := E3.out.facts
  rw [HFB.out]
  clear hb3
  go_wp2_with fail
  refine (refusal_found w3 a cap (pos xs (leafF body)) xs x E3.out.arg.its E3.out.tab HF.out.1 hl4 HS.out).mono ?_
  rintro e w4 ⟨rfl, hb4⟩
  have E4 := Lib.hid (E3.out.step hb4)
  clear f1 f2 f3
  obtain ⟨f1, f2, f3⟩ := E4.out.facts
  rw [HE.out]
  clear hb4
  go_wp2_with fail
  refine (counted_any w4 a cap (pos xs (leafF body)) xs x 1 E4.out.arg.its HF.out.1 hl4 HS.out (by omega) (by omega)).mono ?_
  rintro e w5 ⟨a5, c5, rfl, hI5, ha5, hb5⟩
  have E5 := Lib.hid (E4.out.step hb5)
  clear f1 f2 f3
  obtain ⟨f1, f2, f3⟩ := E5.out.facts
  have HI5 := Lib.hid hI5
  have HA5 := Lib.hid ha5
  have HLT := Lib.hid E4.out.lt
  clear hI5 ha5
  obtain ⟨n5, HN5⟩ : ∃ n, Hid (n = (xs.set (pos xs (leafF body)) ⟨x.k, x.b, x.r + 1⟩).length) := ⟨_, Lib.hid rfl⟩
  rw [← HN5.out]
  clear hb5
  obtain ⟨g1, g2⟩ := E5.out.put (.slice a5 n5 c5)
  have G2 := Lib.hid g2
  have HI := Lib.hid (E5.out.putI (.slice a5 n5 c5) HI5.out HLT.out HA5.out)
  clear g2
  go_wp2
  exact bodyPost_ret (v := .tuple #[.agg #[.slice a5 n5 c5], .string (leafF body), .int .i64 0]) (by simp [results, Tryd.results14, go_sem, g1]) rfl ⟨_, _, by rw [HN5.out], HI.out, G2.out⟩

set_option maxHeartbeats 1600000 in
set_option maxRecDepth 100000 in
theorem put_many (w : World) (a : Option Addr) (cap : Nat) (xs : List Itm) (body : BA) (ha : Arg w a cap xs) (ht : Tab w) (hbs : body.size ≤ 140737488351232) (hr : Rgt xs) (hb0 : 0 < body.size) (hb1 : body.size ≤ 512) (hn : Nof xs (leafF body)) (hx : xs.length = 4096) :
    Calls Tryd.prog 14 #[.agg #[.slice a xs.length cap], .string body] w (PutPost [] ⟨#[]⟩ 130 w) := by
  have HR := Lib.hid hr
  have hl4 := hr.1
  clear hr
  have hne : body.toList.isEmpty = false := by rw [ByteArray.toList_eq]; cases h : body.data.toList with
    | nil => have := BA.len body; rw [h] at this; simp at this; omega
    | cons _ _ => rfl
  have hks : (leafF body).size ≤ 140737488351232 := by rw [leafF_size]; omega
  have HNF := Lib.hid hn
  have hpl := pos_le xs (leafF body)
  have HFB := Lib.hid (fndB_no hn)
  clear hn
  have HE : Hid ((if xs.length = 4096 then 130 else 0 : Int) = 130) := Lib.hid (if_pos hx)
  clear hx
  have E0 := Lib.hid (PEnv.new ha ht)
  obtain ⟨f1, f2, f3⟩ := E0.out.facts
  have hlen := ha.len
  clear ha ht
  go_enter Tryd.func14, Tryd.ntmps14
  go_wp2_with fail
  generalize (w.alloc (.cells #[.slice a xs.length cap] 24)).alloc (.cells #[.slice none 0 0] 24) = w0 at *
  refine (right_yes w0 a cap xs HR.out E0.out.arg.szs E0.out.arg.its).mono ?_
  rintro e w1 ⟨rfl, hb1⟩
  have E1 := Lib.hid (E0.out.step hb1)
  clear f1 f2 f3
  obtain ⟨f1, f2, f3⟩ := E1.out.facts
  clear hb1
  go_wp2_with fail
  refine (leaf_any body w1 E1.out.tab (by omega)).mono ?_
  rintro e w2 ⟨rfl, hb2⟩
  have E2 := Lib.hid (E1.out.step hb2)
  clear f1 f2 f3
  obtain ⟨f1, f2, f3⟩ := E2.out.facts
  clear hb2
  go_wp2_with fail
  refine (place_any w2 a cap xs E2.out.arg.its HR.out (leafF body) hks).mono ?_
  rintro e w3 ⟨rfl, hb3⟩
  have E3 := Lib.hid (E2.out.step hb3)
  clear f1 f2 f3
  obtain ⟨f1, f2, f3⟩ := E3.out.facts
  rw [HFB.out]
  clear hb3
  go_wp2_with fail
  refine (refusal_none w3 a cap xs.length (pos xs (leafF body)) hl4 (by omega)).mono ?_
  rintro e w4 ⟨rfl, hb4⟩
  have E4 := Lib.hid (E3.out.step hb4)
  clear f1 f2 f3
  obtain ⟨f1, f2, f3⟩ := E4.out.facts
  rw [HE.out]
  clear hb4
  obtain ⟨g1, g2⟩ := E4.out.put (.slice none 0 0)
  have G2 := Lib.hid g2
  clear g2
  go_wp2
  exact bodyPost_ret (v := .tuple #[.agg #[.slice none 0 0], .string ⟨#[]⟩, .int .i64 130]) (by simp [results, Tryd.results14, go_sem, g1]) rfl ⟨_, _, rfl, InI.nil _ _, G2.out⟩

set_option maxHeartbeats 1600000 in
set_option maxRecDepth 100000 in
theorem put_new (w : World) (a : Option Addr) (cap : Nat) (xs : List Itm) (body : BA) (ha : Arg w a cap xs) (ht : Tab w) (hbs : body.size ≤ 140737488351232) (hr : Rgt xs) (hb0 : 0 < body.size) (hb1 : body.size ≤ 512) (hn : Nof xs (leafF body)) (hx : xs.length < 4096) :
    Calls Tryd.prog 14 #[.agg #[.slice a xs.length cap], .string body] w (PutPost (insF xs (pos xs (leafF body)) ⟨leafF body, body, 1⟩) (leafF body) 0 w) := by
  have HR := Lib.hid hr
  have hl4 := hr.1
  clear hr
  have hne : body.toList.isEmpty = false := by rw [ByteArray.toList_eq]; cases h : body.data.toList with
    | nil => have := BA.len body; rw [h] at this; simp at this; omega
    | cons _ _ => rfl
  have hks : (leafF body).size ≤ 140737488351232 := by rw [leafF_size]; omega
  have HNF := Lib.hid hn
  have hpl := pos_le xs (leafF body)
  have HFB := Lib.hid (fndB_no hn)
  clear hn
  have HE : Hid ((if xs.length = 4096 then 130 else 0 : Int) = 0) := Lib.hid (if_neg (by omega))
  have E0 := Lib.hid (PEnv.new ha ht)
  obtain ⟨f1, f2, f3⟩ := E0.out.facts
  have hlen := ha.len
  clear ha ht
  go_enter Tryd.func14, Tryd.ntmps14
  go_wp2_with fail
  generalize (w.alloc (.cells #[.slice a xs.length cap] 24)).alloc (.cells #[.slice none 0 0] 24) = w0 at *
  refine (right_yes w0 a cap xs HR.out E0.out.arg.szs E0.out.arg.its).mono ?_
  rintro e w1 ⟨rfl, hb1⟩
  have E1 := Lib.hid (E0.out.step hb1)
  clear f1 f2 f3
  obtain ⟨f1, f2, f3⟩ := E1.out.facts
  clear hb1
  go_wp2_with fail
  refine (leaf_any body w1 E1.out.tab (by omega)).mono ?_
  rintro e w2 ⟨rfl, hb2⟩
  have E2 := Lib.hid (E1.out.step hb2)
  clear f1 f2 f3
  obtain ⟨f1, f2, f3⟩ := E2.out.facts
  clear hb2
  go_wp2_with fail
  refine (place_any w2 a cap xs E2.out.arg.its HR.out (leafF body) hks).mono ?_
  rintro e w3 ⟨rfl, hb3⟩
  have E3 := Lib.hid (E2.out.step hb3)
  clear f1 f2 f3
  obtain ⟨f1, f2, f3⟩ := E3.out.facts
  rw [HFB.out]
  clear hb3
  go_wp2_with fail
  refine (refusal_none w3 a cap xs.length (pos xs (leafF body)) hl4 (by omega)).mono ?_
  rintro e w4 ⟨rfl, hb4⟩
  have E4 := Lib.hid (E3.out.step hb4)
  clear f1 f2 f3
  obtain ⟨f1, f2, f3⟩ := E4.out.facts
  rw [HE.out]
  clear hb4
  go_wp2_with fail
  refine (inserted_any w4 a cap (pos xs (leafF body)) xs ⟨leafF body, body, 1⟩ hpl hx E4.out.arg.its E4.out.arg.cap1 E4.out.arg.cap2 E4.out.arg.nil).mono ?_
  rintro e w5 ⟨a5, c5, rfl, hI5, ha5, hb5⟩
  have E5 := Lib.hid (E4.out.step hb5)
  clear f1 f2 f3
  obtain ⟨f1, f2, f3⟩ := E5.out.facts
  have HI5 := Lib.hid hI5
  have HA5 := Lib.hid ha5
  have HLT := Lib.hid E4.out.lt
  clear hI5 ha5
  obtain ⟨n5, HN5⟩ : ∃ n, Hid (n = (insF xs (pos xs (leafF body)) ⟨leafF body, body, 1⟩).length) := ⟨_, Lib.hid rfl⟩
  rw [← HN5.out]
  clear hb5
  obtain ⟨g1, g2⟩ := E5.out.put (.slice a5 n5 c5)
  have G2 := Lib.hid g2
  have HI := Lib.hid (E5.out.putI (.slice a5 n5 c5) HI5.out HLT.out HA5.out)
  clear g2
  go_wp2
  exact bodyPost_ret (v := .tuple #[.agg #[.slice a5 n5 c5], .string (leafF body), .int .i64 0]) (by simp [results, Tryd.results14, go_sem, g1]) rfl ⟨_, _, by rw [HN5.out], HI.out, G2.out⟩

theorem put_any (w : World) (a : Option Addr) (cap : Nat) (xs : List Itm) (body : BA) (ha : Arg w a cap xs) (ht : Tab w) (hbs : body.size ≤ 140737488351232) {ys : List Itm} {k : BA} {er : Int} (h : PutCase xs body ys k er) :
    Calls Tryd.prog 14 #[.agg #[.slice a xs.length cap], .string body] w (PutPost ys k er w) := by
  cases h with
  | bad hr => exact put_bad w a cap xs body ha ht hbs hr
  | none hr h0 => exact put_none w a cap xs body ha ht hbs hr h0
  | long hr h1 => exact put_long w a cap xs body ha ht hbs hr h1
  | rot x hr h0 h1 hf hc => exact put_rot w a cap xs body ha ht hbs hr h0 h1 x hf hc
  | full x hr h0 h1 hf hc hx => exact put_full w a cap xs body ha ht hbs hr h0 h1 x hf hc hx
  | more x hr h0 h1 hf hc hx => exact put_more w a cap xs body ha ht hbs hr h0 h1 x hf hc hx
  | many hr h0 h1 hn hx => exact put_many w a cap xs body ha ht hbs hr h0 h1 hn hx
  | new hr h0 h1 hn hx => exact put_new w a cap xs body ha ht hbs hr h0 h1 hn hx
end Go.Proofs.YtmaafhhdbhkplaaDoor
