/- Package format: rightArgs, whatever comes in; Format, whatever comes in. -/
import Derived.Test.YtdnedbcmgkilaaaGreatDoorZSFr
import Derived.Test.YtdnedbcmgkilaaaGreatDoorZSAs
import Derived.Test.YtdnedbcmgkilaaaGreatDoorZSURc
import Derived.Test.YtdnedbcmgkilaaaGreatDoorZSg40

section

namespace Go.Proofs.YtdnedbcmgkilaaaGreatDoor
set_option maxHeartbeats 3200000
set_option maxRecDepth 100000
open Go.Lib (hid)
open Go.RowKit Go.Maps Go.WideShapes Go.WideMaps
def valB (x : Argm) : Bool := if x.num then decide (x.s = ⟨#[]⟩) else (decide (x.n = 0) && decide (x.s.size <= 8000))
theorem valB_iff {x : Argm} : valB x = true ↔ valOK x := by
  unfold valB valOK
  cases x.num <;> simp
theorem z7q (x : Argm) (w : World) : Calls Tryz.prog 120 #[.agg #[.string x.nm, .bool x.num, .int .i64 x.n, .string x.s]] w fun e w' => e = .returned (.bool (valB x)) /\ Below w.heap.size w w' := by
  have HB := hid (z02 w (.cells #[.string x.nm, .bool x.num, .int .i64 x.n, .string x.s] 148))
  obtain ⟨nm, num, n, s⟩ := x
  simp only at HB ⊢
  cases num with
  | true =>
    by_cases he : s = ⟨#[]⟩
    · have HV : Hid (valB ⟨nm, true, n, s⟩ = true) := hid (by simp [valB, he])
      rw [HV.out]
      subst he
      clear HV
      go_enter Tryz.func120, Tryz.ntmps120
      go_wp2
      go_ret
      exact ⟨rfl, HB.out⟩
    · have HV : Hid (valB ⟨nm, true, n, s⟩ = false) := hid (by simp [valB, he])
      rw [HV.out]
      have hee := zc0 he
      clear he HV
      go_enter Tryz.func120, Tryz.ntmps120
      go_wp2
      go_ret
      exact ⟨rfl, HB.out⟩
  | false =>
    by_cases he : n = 0
    · by_cases h8 : s.size <= 8000
      · have HV : Hid (valB ⟨nm, false, n, s⟩ = true) := hid (by simp [valB, he, h8])
        rw [HV.out]
        subst he
        have h4 : (s.size : Int) <= 8000 := by omega
        clear HV
        go_enter Tryz.func120, Tryz.ntmps120
        go_wp2
        go_ret
        exact ⟨z01 (by first | rfl | (simp; done) | (simp; omega)), HB.out⟩
      · have HV : Hid (valB ⟨nm, false, n, s⟩ = false) := hid (by simp [valB, h8])
        rw [HV.out]
        subst he
        have h4 : ¬ (s.size : Int) <= 8000 := by omega
        clear HV
        go_enter Tryz.func120, Tryz.ntmps120
        go_wp2
        go_ret
        exact ⟨z01 (by first | rfl | (simp; done) | (simp; omega)), HB.out⟩
    · have HV : Hid (valB ⟨nm, false, n, s⟩ = false) := hid (by simp [valB, he])
      rw [HV.out]
      have hne : (n == 0) = false := by rw [beq_eq_false_iff_ne]; exact he
      clear HV
      go_enter Tryz.func120, Tryz.ntmps120
      go_wp2
      go_ret
      exact ⟨rfl, HB.out⟩
theorem nms_dup {xs : List Argm} {k : Nat} {x : Argm} (hx : xs[k]? = some x) (h : x.nm.data.toList ∈ nmsL (xs.take k)) : ¬ ArgsOK xs := by
  intro ho
  have := nms_not ho hx
  rw [decide_eq_false_iff_not] at this
  exact this h
theorem nms_new {xs : List Argm} {k : Nat} {x : Argm} (h : ¬ x.nm.data.toList ∈ nmsL (xs.take k)) : ∀ (q : Nat) y, q < k -> xs[q]? = some y -> y.nm ≠ x.nm := fun q y hq hy he => by
  apply h
  unfold nmsL
  exact List.mem_map.2 ⟨y, List.mem_iff_getElem?.2 ⟨q, by rw [List.getElem?_take, if_pos hq]; exact hy⟩, by rw [he]⟩
theorem z8w (w : World) (a : Option Addr) (cap : Nat) (xs : List Argm) (hxs : SlA w (Old w) (.slice a xs.length cap) xs) (hsz : ∀ (k : Nat) x, xs[k]? = some x -> x.nm.size <= 140737488351232) :
    Calls Tryz.prog 81 #[.slice a xs.length cap] w fun e w' => ∃ q : Bool, e = .returned (.bool q) /\ (q = true ↔ ArgsOK xs) /\ Below w.heap.size w w' := by
  have hmax := hxs.lenleA.2
  have HX := hid hxs
  have HSZ := hid hsz
  obtain ⟨L, HL⟩ : ∃ L, Hid (L = xs.length) := ⟨_, hid rfl⟩
  have hL2 : L <= 9223372036854775807 := by have := HL.out; omega
  rw [<- HL.out] at HX ⊢
  clear hxs hsz hmax
  have hmm := @run_makeMap Tryz.prog
  by_cases h32 : 32 < L
  · have HF : Hid (¬ ArgsOK xs) := hid (fun ho => by have := ho.len; have := HL.out; omega)
    have h32i : (32 : Int) < (L : Int) := by omega
    clear hmm
    go_enter Tryz.func81, Tryz.ntmps81
    go_wp2
    go_ret
    exact ⟨false, rfl, ⟨(fun e => by cases e), fun e => absurd e HF.out⟩, Below.refl _ _⟩
  have h32i : ¬ (32 : Int) < (L : Int) := by omega
  go_enter Tryz.func81, Tryz.ntmps81
  go_wp2
  clear hmm
  go_loopw [14] (fun i wr => ∃ (k : Nat) (D : DataW Unit), k <= L /\ i = .int .i64 k /\ Hid (OM wr w.heap.size k D) /\ Hid (SetD (nmsL (xs.take k)) D) /\ Hid (Below w.heap.size w wr) /\ Hid (ArgsK xs k)) (fun i _ => L - (intOf i).toNat)
  case atStart => exact ⟨0, .map [], Nat.zero_le _, rfl, hid (World.ownsMap_made _ _ _ _), hid z8t, hid ((Below.refl _ _).alloc (Nat.le_refl _) _), hid ⟨Nat.zero_le _, fun j x h => by omega, fun i j x y h => by omega⟩⟩
  case round =>
    obtain ⟨k, D, hk, rfl, HO, HS, HB, HAK⟩ := hrel
    by_cases hlt : k < L
    · obtain ⟨x, hx⟩ : ∃ x, xs[k]? = some x := ⟨_, List.getElem?_eq_getElem (by have := HL.out; omega)⟩
      obtain ⟨g1, off1, rfl, -, hat⟩ := (HX.out.old HB.out).at_ hx
      obtain ⟨h0, h1, h2, h3⟩ := hat.a
      have HXK := hid hx
      have hns : x.nm.size <= 140737488351232 := HSZ.out k x hx
      have HKO := hid (nms_one hx)
      have HVL := hid (fun W => z7q x W)
      have HVI := hid (valB_iff (x := x))
      obtain ⟨vb, HVB⟩ : ∃ vb, Hid (vb = valB x) := ⟨_, hid rfl⟩
      rw [<- HVB.out] at HVL HVI
      obtain ⟨nm, num, n, s⟩ := x
      simp only at h0 h1 h2 h3 HKO HVL hns
      have HKY : Hid (keyOf Tryz.prog 9 (.string nm) = some (.string nm.data.toList)) := hid (by
        have := keyOf_string_mk (P := Tryz.prog) Tryz.underlying9 (s := nm) (by unfold maxLen; omega)
        exact this)
      have HHA := hid (HS.out.2 nm.data.toList)
      have HPS := hid (zcf HS.out nm.data.toList (.agg []))
      rw [<- HKO.out] at HPS
      have HKN : Hid (k < maxLen) := hid (by unfold maxLen; omega)
      have R := z04 wr #[.string nm, .bool num, .int .i64 n, .string s] 148
      have c0 := R.cell (i := 0) rfl
      have HB2 : Hid (Below w.heap.size w (wr.alloc (.cells #[.string nm, .bool num, .int .i64 n, .string s] 148))) := hid (z00 HB.out (z02 _ _))
      have HO2 : Hid (OM (wr.alloc (.cells #[.string nm, .bool num, .int .i64 n, .string s] 148)) w.heap.size k D) := hid (HO.out.alloc _)
      have HRW : Hid (Row (wr.alloc (.cells #[.string nm, .bool num, .int .i64 n, .string s] 148)) wr.heap.size 148 [.string nm, .bool num, .int .i64 n, .string s]) := hid R
      have HB4 : Hid (Below w.heap.size w ((wr.alloc (.cells #[.string nm, .bool num, .int .i64 n, .string s] 148)).alloc (.cells #[] 149))) := hid (z00 HB2.out (z02 _ _))
      have HO4 : Hid (OM ((wr.alloc (.cells #[.string nm, .bool num, .int .i64 n, .string s] 148)).alloc (.cells #[] 149)) w.heap.size k D) := hid (HO2.out.alloc _)
      have HRW4 := hid (HRW.out.alloc (.cells #[] 149))
      have HNC := hid (z3m nm ((wr.alloc (.cells #[.string nm, .bool num, .int .i64 n, .string s] 148)).alloc (.cells #[] 149)) (by omega))
      clear R hat hx HO HB
      by_cases hm : nm.data.toList ∈ nmsL (xs.take k)
      · have HF : Hid (¬ ArgsOK xs) := hid (nms_dup HXK.out hm)
        have hH : Maps.has D (.string nm.data.toList) = true := by rw [HHA.out, decide_eq_true hm]
        clear hm
        go_wp2_with (first
          | (at_lookup; refine wpList_lookup_own_unit _ rfl _ _ 146 rfl 9 149 lawS Tryz.underlying146 (zeroU _) w.heap.size k D rfl HO2.out _ _ rfl HKY.out ?_))
        go_ret
        exact ⟨false, rfl, ⟨(fun e => by cases e), fun e => absurd e HF.out⟩, HB4.out⟩
      have HNW := hid (nms_new (x := ⟨nm, num, n, s⟩) hm)
      have hH : Maps.has D (.string nm.data.toList) = false := by rw [HHA.out, decide_eq_false hm]
      clear hm
      cases hnb : nameB nm.data.toList with
      | false =>
        have HF : Hid (¬ ArgsOK xs) := hid (fun ho => by have := (ho.each k _ HXK.out).1; rw [hnb] at this; cases this)
        rw [hnb] at HNC
        clear hnb
        go_wp2_with (first
          | (at_lookup; refine wpList_lookup_own_unit _ rfl _ _ 146 rfl 9 149 lawS Tryz.underlying146 (zeroU _) w.heap.size k D rfl HO2.out _ _ rfl HKY.out ?_))
        refine HNC.out.mono ?_
        rintro e w5 ⟨rfl, rfl⟩
        go_wp2
        go_ret
        exact ⟨false, rfl, ⟨(fun e => by cases e), fun e => absurd e HF.out⟩, HB4.out⟩
      | true =>
        rw [hnb] at HNC
        have HNB := hid hnb
        clear hnb
        go_wp2_with (first
          | (at_lookup; refine wpList_lookup_own_unit _ rfl _ _ 146 rfl 9 149 lawS Tryz.underlying146 (zeroU _) w.heap.size k D rfl HO2.out _ _ rfl HKY.out ?_))
        generalize (wr.alloc (.cells #[.string nm, .bool num, .int .i64 n, .string s] 148)).alloc (.cells #[] 149) = w4 at *
        clear c0 hH HO2 HB2 HRW h0 h1 h2 h3
        refine HNC.out.mono ?_
        rintro e w5 ⟨rfl, rfl⟩
        have d0 := HRW4.out.cell (i := 0) rfl
        have d1 := HRW4.out.cell (i := 1) rfl
        have d2 := HRW4.out.cell (i := 2) rfl
        have d3 := HRW4.out.cell (i := 3) rfl
        clear HNC
        cases vb with
        | false =>
          have HF : Hid (¬ ArgsOK xs) := hid (fun ho => by have := HVI.out.2 (ho.each k _ HXK.out).2; cases this)
          go_wp2_with fail
          refine (HVL.out _).mono ?_
          rintro e w6 ⟨rfl, hb6⟩
          have HB6 := hid (z00 HB4.out hb6)
          clear hb6
          go_wp2
          go_ret
          exact ⟨false, rfl, ⟨(fun e => by cases e), fun e => absurd e HF.out⟩, HB6.out⟩
        | true =>
          have HVK := hid (HVI.out.1 rfl)
          go_wp2_with fail
          refine (HVL.out _).mono ?_
          rintro e w6 ⟨rfl, hb6⟩
          have HB6 := hid (z00 HB4.out hb6)
          have HO6 := hid (HO4.out.below hb6)
          have HRW6 := hid (HRW4.out.below hb6)
          clear hb6 HVL HB4 HO4 HRW4 d0 d1 d2 d3
          have c0 := HRW6.out.cell (i := 0) rfl
          go_wp2_with (first
            | (at_mapUpdate; refine wpList_mapUpdate_own _ rfl _ _ _ 146 rfl 9 149 lawS Tryz.underlying146 _ w.heap.size k D rfl HO6.out HKN.out _ _ _ rfl rfl HKY.out _ [] unitElem_mk ?_; intro w7 hown7 hgrow7))
          have HO7 := hid hown7
          have HB7 : Hid (Below w.heap.size w w7) := hid (HB6.out.grown hgrow7 HB6.out.size (fun j hj => by cases hj; exact Nat.le_refl _))
          have HAN : Hid (ArgsK xs (k + 1)) := hid (z5z HAK.out HXK.out HNB.out HVK.out (by omega) HNW.out)
          clear hown7 hgrow7
          go_wp2
          go_roundw
          case rel => exact ⟨k + 1, _, by omega, by go_num, HO7, HPS, HB7, HAN⟩
          case measure => simp [intOf]; omega
    · have HF : Hid (ArgsOK xs) := hid (zc1 (by rw [<- HL.out]; have : k = L := by omega
                                                subst this; exact HAK.out))
      go_wp2
      go_ret
      exact ⟨true, rfl, ⟨fun _ => HF.out, fun _ => rfl⟩, HB.out⟩
end Go.Proofs.YtdnedbcmgkilaaaGreatDoor

end

section

namespace Go.Proofs.YtdnedbcmgkilaaaGreatDoor
set_option maxHeartbeats 3200000
set_option maxRecDepth 100000
open Go.Lib (hid)
open Go.RowKit
theorem zh7 (w : World) (lang : BA) (a : Option Addr) (cap : Nat) (xs : List Pt) (b : Option Addr) (capb : Nat) (gs : List Argm) (n : Nat) (hxs : SlP w (Old w) n (.slice a xs.length cap) xs) (has : SlA w (Old w) (.slice b gs.length capb) gs) (hgb : ArgB gs) (hst : stPs 140737488351232 xs) (hE : EnvW w) :
  PartsE w lang (.slice b gs.length capb) (.slice a xs.length cap) (evPs lang gs n 0 xs []) := fun W bb hb hbb ho => by
 have h1 : SlP w (Lt w.heap.size) n (.slice a xs.length cap) xs := hxs
 have h2 : SlA w (Lt w.heap.size) (.slice b gs.length capb) gs := has
 have h3 : Env w w.heap.size := ⟨w, hE, Below.refl _ _, Nat.le_refl _⟩
 exact zfq n w.heap.size bb [] lang b capb gs 0 xs a cap W (by omega) (by omega) (h1.lt hb) (h2.lt hb) hgb hst (h3.lt hb) ho (by simp) hb.size
def FmtE (g : BA) (gs : List Argm) (n : Nat) (xs : List Pt) (e : Ending) : Prop :=
 (z0k xs ≠ 0 /\ e = .returned (.tuple #[.string ⟨#[]⟩, .int .i64 (z0k xs)])) ∨
 (z0k xs = 0 /\ ¬ ArgsOK gs /\ e = .returned (.tuple #[.string ⟨#[]⟩, .int .i64 1])) ∨
 (z0k xs = 0 /\ ArgsOK gs /\ EvE (evPs g gs n 0 xs []) e)
theorem zfw (n : Nat) (w : World) (a : Option Addr) (cap : Nat) (xs : List Pt) (lang : BA) (b : Option Addr) (capb : Nat) (gs : List Argm) (hxs : SlP w (Old w) n (.slice a xs.length cap) xs) (hc : cntPs xs <= 2000) (hsm : smPs 140737488351232 xs) (hst : stPs 140737488351232 xs) (hE : EnvW w)
  (has : SlA w (Old w) (.slice b gs.length capb) gs) (hsz : ∀ (k : Nat) x, gs[k]? = some x -> x.nm.size <= 140737488351232) (hgb : ArgB gs) :
  Calls Tryz.prog 45 #[.slice a xs.length cap, .string lang, .slice b gs.length capb] w fun e w' => FmtE lang gs n xs e /\ Below w.heap.size w w' := by
 have HR := hid (z1o n w a cap xs hxs hc hsm hE)
 have HA := hid (fun W (hb : Below w.heap.size w W) => z8w W b capb gs (has.old hb) hsz)
 have HV := hid (fun W (hb : Below w.heap.size w W) => z9p W lang (.slice b gs.length capb) (.slice a xs.length cap) _ (zh7 W lang a cap xs b capb gs n (hxs.old hb) (has.old hb) hgb hst (hE.below hb)))
 obtain ⟨q, HQ⟩ : ∃ q, Hid (q = z0k xs) := ⟨_, hid rfl⟩
 rw [<- HQ.out] at HR
 have hq : q <= 91 := by
  rw [HQ.out]; unfold z0k
  split
  ·omega
  ·split
   ·omega
   ·split <;> omega
 clear hxs hc hsm hE has hsz hgb hst
 generalize hlx : xs.length = nx at *
 generalize hlg : gs.length = na at *
 clear hlx hlg
 by_cases h0 : q = 0
 ·have HQ0 : Hid (z0k xs = 0) := hid (by rw [<- HQ.out]; exact h0)
  subst h0
  go_enter Tryz.func45, Tryz.ntmps45
  go_wp2_with fail
  refine HR.out.mono ?_
  rintro e w1 ⟨rfl, hb1⟩
  have HB1 := hid hb1
  clear hb1 HR
  go_wp2_with fail
  refine (HA.out w1 HB1.out).mono ?_
  rintro e w2 ⟨z, rfl, hz, hb2⟩
  have HB2 := hid (z00 HB1.out hb2)
  have HZ := hid hz
  clear hb2 HA HB1 hz
  cases z with
  | false =>
   have HNO : Hid (¬ ArgsOK gs) := hid (fun h => by have := HZ.out.2 h; cases this)
   go_wp2
   exact bodyPost_ret (v := .tuple #[.string ⟨#[]⟩, .int .i64 1]) (by simp [results, Tryz.results45, go_sem]) rfl ⟨.inr (.inl ⟨HQ0.out, HNO.out, rfl⟩), HB2.out⟩
  | true =>
   have HOK := hid (HZ.out.1 rfl)
   go_wp2_with fail
   refine (HV.out w2 HB2.out).mono ?_
   rintro e w3 ⟨he, hb3⟩
   have HB3 := hid (z00 HB2.out hb3)
   clear hb3 HV HB2
   obtain ⟨r, HRR⟩ : ∃ r, Hid (r = evPs lang gs n 0 xs []) := ⟨_, hid rfl⟩
   rw [<- HRR.out] at he
   cases r with
   | ok o =>
    obtain rfl : e = .returned (.tuple #[.string ⟨o.toArray⟩, .int .i64 0]) := he
    go_wp2
    exact bodyPost_ret (v := .tuple #[.string ⟨o.toArray⟩, .int .i64 0]) (by simp [results, Tryz.results45, go_sem]) rfl ⟨.inr (.inr ⟨HQ0.out, HOK.out, by rw [<- HRR.out]; rfl⟩), HB3.out⟩
   | error k =>
    obtain rfl : e = .returned (.tuple #[.string ⟨#[]⟩, .int .i64 k]) := he
    go_wp2
    exact bodyPost_ret (v := .tuple #[.string ⟨#[]⟩, .int .i64 k]) (by simp [results, Tryz.results45, go_sem]) rfl ⟨.inr (.inr ⟨HQ0.out, HOK.out, by rw [<- HRR.out]; rfl⟩), HB3.out⟩
 ·have HQ0 : Hid (z0k xs ≠ 0) := hid (by rw [<- HQ.out]; exact h0)
  have hqb : ((q : Int) != 0) = true := by rw [bne_iff_ne]; omega
  go_enter Tryz.func45, Tryz.ntmps45
  go_wp2_with fail
  refine HR.out.mono ?_
  rintro e w1 ⟨rfl, hb1⟩
  have HB1 := hid hb1
  clear hb1 HR
  go_wp2
  exact bodyPost_ret (v := .tuple #[.string ⟨#[]⟩, .int .i64 q]) (by simp [results, Tryz.results45, go_sem]) rfl ⟨.inl ⟨HQ0.out, by rw [HQ.out]⟩, HB1.out⟩
end Go.Proofs.YtdnedbcmgkilaaaGreatDoor

end

section

namespace Go.Proofs.YtdnedbcmgkilaaaGreatDoor
set_option maxHeartbeats 3200000
set_option maxRecDepth 100000
open Go.Lib (hid)
open Go.RowKit
def RArgE (r : Option Argm) (e : Ending) : Prop := match r with
 | some a => e = .returned (.tuple #[.agg #[.string a.nm, .bool a.num, .int .i64 a.n, .string a.s], .bool true])
 | none => e = .returned (.tuple #[.agg #[.string ⟨#[]⟩, .bool false, .int .i64 0, .string ⟨#[]⟩], .bool false])
theorem rarg_any (w : World) (b : Option Addr) (capb : Nat) (gs : List Argm) (nm : BA) (hx : SlA w (Old w) (.slice b gs.length capb) gs) :
  Calls Tryz.prog 134 #[.slice b gs.length capb, .string nm] w fun e w' => RArgE (findA gs nm) e /\ Below w.heap.size w w' := by
 have hmax := hx.lenleA.2
 obtain ⟨L, HL⟩ : ∃ L, Hid (L = gs.length) := ⟨_, hid rfl⟩
 have hL2 : L <= 9223372036854775807 := by have := HL.out; omega
 rw [<- HL.out] at hx ⊢
 have HX1 := hid (hx.old (z02 w (.cells #[.string ⟨#[]⟩, .bool false, .int .i64 0, .string ⟨#[]⟩] 148)))
 have HB1 := hid (z02 w (.cells #[.string ⟨#[]⟩, .bool false, .int .i64 0, .string ⟨#[]⟩] 148))
 have HR1 := hid (z04 w #[.string ⟨#[]⟩, .bool false, .int .i64 0, .string ⟨#[]⟩] 148)
 clear hx hmax
 go_enter Tryz.func134, Tryz.ntmps134
 go_wp2
 generalize w.alloc (.cells #[.string ⟨#[]⟩, .bool false, .int .i64 0, .string ⟨#[]⟩] 148) = w1 at *
 go_loopw [10] (fun i wr => ∃ k : Nat, k <= L /\ i = .int .i64 k /\ Hid (Below w1.heap.size w1 wr) /\ Hid (∀ (q : Nat) y, q < k -> gs[q]? = some y -> y.nm ≠ nm)) (fun i _ => L - (intOf i).toNat)
 case atStart => exact ⟨0, Nat.zero_le _, rfl, hid (Below.refl _ _), hid (fun q y h => by omega)⟩
 case round =>
  obtain ⟨k, hk, rfl, HB, HN⟩ := hrel
  have HBW : Hid (Below w.heap.size w wr) := hid (HB1.out.trans (HB.out.mono HB1.out.size))
  have HR0 := hid (HR1.out.below HB.out)
  by_cases hlt : k < L
  ·obtain ⟨x, hxk⟩ : ∃ x, gs[k]? = some x := ⟨_, List.getElem?_eq_getElem (by have := HL.out; omega)⟩
   obtain ⟨g, off, rfl, -, hat⟩ := (HX1.out.old HB.out).at_ hxk
   obtain ⟨h0, h1, h2, h3⟩ := hat.a
   have HXK := hid hxk
   obtain ⟨xn, num, n, s⟩ := x
   simp only at h0 h1 h2 h3
   have R2 := HR0.out.alloc (.cells #[.string xn, .bool num, .int .i64 n, .string s] 148)
   have R3 := z04 wr #[.string xn, .bool num, .int .i64 n, .string s] 148
   have HB4 := hid (z00 HB.out (z02 wr (.cells #[.string xn, .bool num, .int .i64 n, .string s] 148)))
   have HB3 := hid (z00 HBW.out (z02 wr (.cells #[.string xn, .bool num, .int .i64 n, .string s] 148)))
   have HR2 := hid R2
   have c0 := R2.cell (i := 0) rfl
   have c1 := R2.cell (i := 1) rfl
   have c2 := R2.cell (i := 2) rfl
   have c3 := R2.cell (i := 3) rfl
   have d0 := R3.cell (i := 0) rfl
   have d1 := R3.cell (i := 1) rfl
   have d2 := R3.cell (i := 2) rfl
   have d3 := R3.cell (i := 3) rfl
   have z0 := R2.thaw 0
   have z1 := R2.thaw 1
   have z2 := R2.thaw 2
   have z3 := R2.thaw 3
   clear R2 R3 hat hxk
   by_cases he : xn = nm
   ·have HF : Hid (findA gs nm = some ⟨xn, num, n, s⟩) := hid (zeq HN.out HXK.out he)
    subst he
    go_wp2
    generalize wr.alloc (.cells #[.string xn, .bool num, .int .i64 n, .string s] 148) = w3 at *
    have R5 := (((HR2.out.set 0 (.string xn)).set 1 (.bool num)).set 2 (.int .i64 n)).set 3 (.string s)
    have HB5 := (((HB3.out.setCell (p := ⟨w.heap.size, 0, none⟩) (Nat.le_refl _) (.string xn)).setCell (p := ⟨w.heap.size, 1, none⟩) (Nat.le_refl _) (.bool num)).setCell (p := ⟨w.heap.size, 2, none⟩) (Nat.le_refl _) (.int .i64 n)).setCell (p := ⟨w.heap.size, 3, none⟩) (Nat.le_refl _) (.string s)
    generalize (((w3.setCell ⟨w.heap.size, 0, none⟩ (.string xn)).setCell ⟨w.heap.size, 1, none⟩ (.bool num)).setCell ⟨w.heap.size, 2, none⟩ (.int .i64 n)).setCell ⟨w.heap.size, 3, none⟩ (.string s) = w5 at R5 HB5 ⊢
    have e0 := R5.cell (i := 0) rfl
    have e1 := R5.cell (i := 1) rfl
    have e2 := R5.cell (i := 2) rfl
    have e3 := R5.cell (i := 3) rfl
    exact bodyPost_ret (v := .tuple #[.agg #[.string xn, .bool num, .int .i64 n, .string s], .bool true]) (by simp [results, Tryz.results134, go_sem, e0, e1, e2, e3]) rfl ⟨by rw [HF.out]; rfl, HB5⟩
   ·have HN2 : Hid (∀ (q : Nat) y, q < k + 1 -> gs[q]? = some y -> y.nm ≠ nm) := hid (fun q y hq hqy => by
     rcases Nat.lt_or_eq_of_le (Nat.le_of_lt_succ hq) with h | rfl
     ·exact HN.out q y h hqy
     ·rw [HXK.out] at hqy
      obtain rfl := Option.some.inj hqy
      exact he)
    have hbe : (xn.toList == nm.toList) = false := by
     rw [ByteArray.toList_eq, ByteArray.toList_eq]
     exact beq_eq_false_iff_ne.2 (fun e => he (ByteArray.ext (Array.toList_inj.1 e)))
    clear he
    go_wp2
    go_roundw
    case rel => exact ⟨k + 1, by omega, by go_num, HB4, HN2⟩
    case measure => simp [intOf]; omega
  ·have HF : Hid (findA gs nm = none) := hid (z9o (fun q y hq => HN.out q y (by have := HL.out; have := (List.getElem?_eq_some_iff.1 hq).1; omega) hq))
   have c0 := HR0.out.cell (i := 0) rfl
   have c1 := HR0.out.cell (i := 1) rfl
   have c2 := HR0.out.cell (i := 2) rfl
   have c3 := HR0.out.cell (i := 3) rfl
   have z0 := HR0.out.thaw 0
   have z1 := HR0.out.thaw 1
   have z2 := HR0.out.thaw 2
   have z3 := HR0.out.thaw 3
   go_wp2
   have R5 := (((HR0.out.set 0 (.string ⟨#[]⟩)).set 1 (.bool false)).set 2 (.int .i64 0)).set 3 (.string ⟨#[]⟩)
   have HB5 := (((HBW.out.setCell (p := ⟨w.heap.size, 0, none⟩) (Nat.le_refl _) (.string ⟨#[]⟩)).setCell (p := ⟨w.heap.size, 1, none⟩) (Nat.le_refl _) (.bool false)).setCell (p := ⟨w.heap.size, 2, none⟩) (Nat.le_refl _) (.int .i64 0)).setCell (p := ⟨w.heap.size, 3, none⟩) (Nat.le_refl _) (.string ⟨#[]⟩)
   generalize (((wr.setCell ⟨w.heap.size, 0, none⟩ (.string ⟨#[]⟩)).setCell ⟨w.heap.size, 1, none⟩ (.bool false)).setCell ⟨w.heap.size, 2, none⟩ (.int .i64 0)).setCell ⟨w.heap.size, 3, none⟩ (.string ⟨#[]⟩) = w5 at R5 HB5 ⊢
   have e0 := R5.cell (i := 0) rfl
   have e1 := R5.cell (i := 1) rfl
   have e2 := R5.cell (i := 2) rfl
   have e3 := R5.cell (i := 3) rfl
   exact bodyPost_ret (v := .tuple #[.agg #[.string ⟨#[]⟩, .bool false, .int .i64 0, .string ⟨#[]⟩], .bool false]) (by simp [results, Tryz.results134, go_sem, e0, e1, e2, e3]) rfl ⟨by rw [HF.out]; rfl, HB5⟩
def KidE (w' : World) (m : Nat) (r : Option Cs) (e : Ending) : Prop := match r with
 | some c => ∃ a1 p1, e = .returned (.tuple #[.slice a1 c.kids.length p1, .bool true]) /\ SlP w' (Old w') m (.slice a1 c.kids.length p1) c.kids
 | none => e = .returned (.tuple #[.slice none 0 0, .bool false])
theorem zap (m : Nat) (w : World) (pk : Int) (t nm : BA) (a : Option Addr) (cap : Nat) (cs : List Cs) (key : BA) (hcs : SlC w (Old w) m (.slice a cs.length cap) cs) :
  Calls Tryz.prog 136 #[.agg #[.int .i64 pk, .string t, .string nm, .slice a cs.length cap], .string key] w fun e w' => KidE w' m (cs.find? (ky key)) e /\ Below w.heap.size w w' := by
 have hl1 := hcs.lenle
 obtain ⟨L, HL⟩ : ∃ L, Hid (L = cs.length) := ⟨_, hid rfl⟩
 have hL : L <= 9223372036854775807 := by have := HL.out; omega
 rw [<- HL.out] at hcs ⊢
 have HC := hid (hcs.old (z02 w (.cells #[.int .i64 pk, .string t, .string nm, .slice a L cap] 141)))
 have HB1 := hid (z02 w (.cells #[.int .i64 pk, .string t, .string nm, .slice a L cap] 141))
 have R := z04 w #[.int .i64 pk, .string t, .string nm, .slice a L cap] 141
 have x3 := R.cell (i := 3) rfl
 clear hcs hl1 R
 go_enter Tryz.func136, Tryz.ntmps136
 go_wp2
 clear x3
 generalize w.alloc (.cells #[.int .i64 pk, .string t, .string nm, .slice a L cap] 141) = w1 at *
 go_loopw [11] (fun j w4 => ∃ k2 : Nat, k2 <= L /\ j = .int .i64 k2 /\ Hid (Below w1.heap.size w1 w4) /\ Hid (∀ (q : Nat) y, q < k2 -> cs[q]? = some y -> y.key ≠ key)) (fun j _ => L - (intOf j).toNat)
 case atStart => exact ⟨0, Nat.zero_le _, rfl, hid (Below.refl _ _), hid (fun q y h => by omega)⟩
 case round =>
  obtain ⟨k2, hk2, rfl, HB4, HD⟩ := hrel
  have HBW : Hid (Below w.heap.size w wr) := hid (HB1.out.trans (HB4.out.mono HB1.out.size))
  by_cases hlt2 : k2 < L
  ·obtain ⟨c, hc⟩ : ∃ y, cs[k2]? = some y := ⟨_, List.getElem?_eq_getElem (by have := HL.out; omega)⟩
   obtain ⟨g2, off2, hg2, -, hat2⟩ := ((HC.out.old HB4.out).at_ hc)
   subst hg2
   obtain ⟨y0, a1, p1, y1, hkid⟩ := hat2.c
   have HCC := hid hc
   obtain ⟨ck, kids⟩ := c
   simp only [Cs.key, Cs.kids] at y0 y1 hkid
   obtain ⟨nk, HNK⟩ : ∃ nk, Hid (nk = kids.length) := ⟨_, hid rfl⟩
   rw [<- HNK.out] at y1 hkid
   have HKD := hid (SlP.old hkid (z02 wr (.cells #[.string ck, .slice a1 nk p1] 185)))
   have R := z04 wr #[.string ck, .slice a1 nk p1] 185
   have d0 := R.cell (i := 0) rfl
   have d1 := R.cell (i := 1) rfl
   have HB5 := hid (z00 HB4.out (z02 wr (.cells #[.string ck, .slice a1 nk p1] 185)))
   have HB6 := hid (z00 HBW.out (z02 wr (.cells #[.string ck, .slice a1 nk p1] 185)))
   clear hat2 hc hkid R
   by_cases he : ck = key
   ·have HE : Hid (cs.find? (ky key) = some (.mk ck kids)) := hid (z7c HD.out HCC.out he)
    subst he
    go_wp2
    exact bodyPost_ret (v := .tuple #[.slice a1 nk p1, .bool true]) (by simp [results, Tryz.results136, go_sem]) rfl ⟨by rw [HE.out]; exact ⟨a1, p1, by rw [HNK.out]; rfl, by show SlP _ _ m (.slice a1 kids.length p1) kids; rw [<- HNK.out]; exact HKD.out⟩, HB6.out⟩
   ·have HN2 : Hid (∀ (q : Nat) y, q < k2 + 1 -> cs[q]? = some y -> y.key ≠ key) := hid (fun q y hq hqy => by
     rcases Nat.lt_or_eq_of_le (Nat.le_of_lt_succ hq) with h | rfl
     ·exact HD.out q y h hqy
     ·rw [HCC.out] at hqy
      obtain rfl := Option.some.inj hqy
      exact he)
    have hbe : (ck.toList == key.toList) = false := by
     rw [ByteArray.toList_eq, ByteArray.toList_eq]
     exact beq_eq_false_iff_ne.2 (fun e => he (ByteArray.ext (Array.toList_inj.1 e)))
    clear he
    go_wp2
    go_roundw
    case rel => exact ⟨k2 + 1, by omega, by go_num, HB5, HN2⟩
    case measure => simp [intOf]; omega
  ·have HE : Hid (cs.find? (ky key) = none) := hid (zit (fun q y hq => HD.out q y (by have := HL.out; have := (List.getElem?_eq_some_iff.1 hq).1; omega) hq))
   go_wp2
   exact bodyPost_ret (v := .tuple #[.slice none 0 0, .bool false]) (by simp [results, Tryz.results136, go_sem]) rfl ⟨by rw [HE.out]; rfl, HBW.out⟩
end Go.Proofs.YtdnedbcmgkilaaaGreatDoor

end

section

namespace Go.Proofs.YtdnedbcmgkilaaaGreatDoor
open Go.RowKit
theorem zhk (l may : List UInt8) (S : St) : (oneF l may S).1.length <= 1 := by
 unfold oneF
 split
 ·split
  ·split
   ·simp
   ·simp
  ·simp
 ·simp
theorem zh2 (l : List UInt8) (S : St) : (quotF l S).1.length <= 1 := by
 unfold quotF
 split
 ·exact zhk _ _ _
 ·exact zhk _ _ _
theorem z8g (l : List UInt8) : ∀ (f : Nat) (acc : List UInt8) (S : St), (textL l f acc S).1.length <= acc.length + f
 | 0, acc, S => by rw [textL]; exact Nat.le_refl _
 | f + 1, acc, S => by
  rw [textL]
  split
  ·split
   ·show acc.length <= _; omega
   ·split
    ·show acc.length <= _; omega
    ·split
     ·have h1 := z8g l f (acc ++ (quotF l S).1) (quotF l S).2
      have h2 := zh2 l S
      rw [List.length_append] at h1; omega
     ·rename_i c _ _ _
      have h1 := z8g l f (acc ++ [c]) (S.1 + 1, 0)
      rw [List.length_append] at h1; simp only [List.length_cons, List.length_nil] at h1; omega
  ·show acc.length <= _; omega
theorem zae {m : Nat} : ∀ {xs : List Pt} {x : Pt}, stPs m xs -> stP m x -> stPs m (xs ++ [x])
 | [], x, _, h => by show stPs m [x]; rw [stPs]; exact ⟨h, by rw [stPs]; trivial⟩
 | y :: r, x, hs, h => by rw [stPs] at hs; show stPs m (y :: (r ++ [x])); rw [stPs]; exact ⟨hs.1, zae hs.2 h⟩
theorem zag {m : Nat} : ∀ {xs : List Cs} {x : Cs}, stCs m xs -> stC m x -> stCs m (xs ++ [x])
 | [], x, _, h => by show stCs m [x]; rw [stCs]; exact ⟨h, by rw [stCs]; trivial⟩
 | y :: r, x, hs, h => by rw [stCs] at hs; show stCs m (y :: (r ++ [x])); rw [stCs]; exact ⟨hs.1, zag hs.2 h⟩
theorem zgm {l : List UInt8} {m : Nat} (hm : l.length <= m) : ∀ f, (∀ h o acc S, stPs m acc -> stPs m (z09 l f h o acc S).1) /\ (∀ h o acc b, stCs m acc -> stCs m (z08 l f h o acc b).1)
 | 0 => ⟨fun h o acc S hs => by rw [z09]; exact hs, fun h o acc b hs => by rw [z08]; exact hs⟩
 | f + 1 => by
  obtain ⟨ih1, ih2⟩ := zgm hm f
  have hnil : stCs m [] := by rw [stCs]; trivial
  have hnil2 : stPs m [] := by rw [stPs]; trivial
  refine ⟨fun h o acc S hs => ?_, fun h o acc b hs => ?_⟩
  ·rw [z09]
   split
   ·refine ih1 _ _ _ _ (zae hs ?_)
    rw [zaf]
    unfold partG
    split
    ·unfold holeG
     simp only
     split
     ·exact ⟨Nat.zero_le _, ih2 _ _ _ _ hnil⟩
     ·split
      ·exact ⟨Nat.zero_le _, ih2 _ _ _ _ hnil⟩
      ·exact ⟨Nat.zero_le _, hnil⟩
    ·split
     ·exact ⟨Nat.zero_le _, hnil⟩
     ·have ht := z8g l l.length [] S
      exact ⟨by show (ba _).size <= m; rw [z4x]; simp only [List.length_nil] at ht; omega, hnil⟩
   ·exact hs
  ·rw [z08]
   split
   ·refine ih2 _ _ _ _ (zag hs ?_)
    rw [stC_eq]
    unfold z15
    exact ih1 _ _ _ _ hnil2
   ·exact hs
theorem st_read {l : List UInt8} {m : Nat} (hm : l.length <= m) : stPs m (readF l).1 := (zgm hm (l.length + 1)).1 false 0 [] (0, 0) (by rw [stPs]; trivial)
theorem zes : ∀ {xs : List Pt} {x : Pt}, x ∈ xs -> dpCs x.cs <= dpPs xs
 | [], x, h => by cases h
 | y :: r, x, h => by
  rw [dpPs]
  rcases List.mem_cons.1 h with rfl | h
  ·rw [dpP_eq]; exact Nat.le_max_left _ _
  ·exact Nat.le_trans (zes h) (Nat.le_max_right _ _)
theorem zeu : ∀ {cs : List Cs} {c : Cs}, c ∈ cs -> dpPs c.kids + 1 <= dpCs cs
 | [], x, h => by cases h
 | y :: r, x, h => by
  rw [dpCs]
  rcases List.mem_cons.1 h with rfl | h
  ·rw [dpC_eq]; exact Nat.le_max_left _ _
  ·exact Nat.le_trans (zeu h) (Nat.le_max_right _ _)
theorem zjd {cs : List Cs} : ∀ ks : List BA, choF cs ks = [] ∨ ∃ c, c ∈ cs /\ choF cs ks = c.kids
 | [] => .inl rfl
 | k :: r => by
  rw [choF]
  split
  ·rename_i c hf
   exact .inr ⟨c, List.mem_of_find?_eq_some hf, rfl⟩
  ·exact zjd r
theorem evP_same {g : BA} {gs : List Argm} {rc rc' : Int -> List Pt -> List UInt8 -> Ev} {h : Int} {x : Pt} {o : List UInt8} (hr : ∀ h ks o, rc h (choF x.cs ks) o = rc' h (choF x.cs ks) o) : evP g gs rc h x o = evP g gs rc' h x o := by
 unfold evP
 simp only [hr]
theorem zer {f f' : Pt -> List UInt8 -> Ev} : ∀ {xs : List Pt} {o : List UInt8}, (∀ x, x ∈ xs -> ∀ o, f x o = f' x o) -> evL f xs o = evL f' xs o
 | [], o, _ => rfl
 | x :: r, o, h => by
  rw [evL, evL, h x (by simp) o]
  cases f' x o with
  | ok o2 => exact zer (fun y hy => h y (by simp [hy]))
  | error e => rfl
theorem z88 {g : BA} {gs : List Argm} : ∀ {n n' : Nat} {h : Int} {xs : List Pt} {o : List UInt8}, dpPs xs < n -> dpPs xs < n' -> evPs g gs n h xs o = evPs g gs n' h xs o
 | 0, _, h, xs, o, hn, _ => by omega
 | n + 1, 0, h, xs, o, _, hn => by omega
 | n + 1, n' + 1, h, xs, o, hn, hn' => by
  rw [evPs, evPs]
  refine zer (fun x hx o => evP_same (fun h ks o => ?_))
  have hd := zes hx
  rcases zjd (cs := x.cs) ks with he | ⟨c, hc, he⟩
  ·rw [he]
   cases n <;> cases n' <;> rfl
  ·rw [he]
   have := zeu hc
   exact z88 (by omega) (by omega)
theorem z84 {g : BA} {gs : List Argm} {n n' : Nat} {xs : List Pt} {e : Ending} (hd : dpPs xs < n) (hd' : dpPs xs < n') (h : FmtE g gs n xs e) : FmtE g gs n' xs e := by
 unfold FmtE at *
 rw [<- z88 (g := g) (gs := gs) hd hd']
 exact h
end Go.Proofs.YtdnedbcmgkilaaaGreatDoor

end
