/- A delta as bytes, by the document. -/
import Derived.Test.YtmagcikaepobiaaDoorBIx
import Derived.Test.YtmagcikaepobiaaDoorRBts
namespace Go.Proofs.YtmagcikaepobiaaDoor.Dl
open Go.RowKit

theorem num_any (n : Int) (w : World) : Calls Tryd.prog 15 #[.int .i64 n] w fun e w' => e = .returned (.agg #[.int .i64 1, .int .i64 n, .string ⟨#[]⟩, .slice none 0 0]) ∧ Below w.heap.size w w' := by
  go_enter Tryd.func15, Tryd.ntmps15
  have hR := heap_alloc_new w (.cells #[.int .i64 1, .int .i64 n, .string ⟨#[]⟩, .slice none 0 0] 36)
  have HB := Lib.hid (below1 w (.cells #[.int .i64 1, .int .i64 n, .string ⟨#[]⟩, .slice none 0 0] 36))
  have HR := Lib.hid hR
  clear hR
  go_wp2
  generalize w.alloc (.cells #[.int .i64 1, .int .i64 n, .string ⟨#[]⟩, .slice none 0 0] 36) = w4 at *
  have hP := HR.out
  exact bodyPost_ret (v := .agg #[.int .i64 1, .int .i64 n, .string ⟨#[]⟩, .slice none 0 0]) (by simp [results, Tryd.results15, go_sem, World.cell?, hP]) rfl ⟨rfl, HB.out⟩

/-- A goal in a box. -/
def BoxG (G : Prop) : Prop := G
theorem boxG {G : Prop} (h : BoxG G) : G := h
theorem viaD {G : Prop} (h : G) : BoxG G = True := by unfold BoxG; simp only [h]

structure BP (wr : World) (f n : Int) (W : World) : Prop where
  below : Below wr.heap.size wr W
  lt : wr.heap.size < W.heap.size
  blk : W.heap[wr.heap.size]? = some (.cells #[.int .i64 f, .int .i64 n, .string ByteArray.empty] 32 (0, 0))
theorem BP.drew {wr W : World} {f n : Int} (h : BP wr f n W) : BP wr f n W.drew := ⟨h.below.drew, h.lt, h.blk⟩

theorem BP.of4 {wr W : World} {f n : Int} {A B C : Prop} {o : Obj} (h : A ∧ B ∧ C ∧ BP wr f n W) : BP wr f n (W.alloc o) := ⟨h.2.2.2.below.alloc h.2.2.2.below.size _, by rw [World.size_alloc]; exact Nat.lt_succ_of_lt h.2.2.2.lt, (Below.heap_alloc _ _ _ h.2.2.2.lt).trans h.2.2.2.blk⟩
theorem BP.alo {wr W : World} {f n : Int} {o : Obj} (h : BP wr f n W) : BP wr f n (W.alloc o) := BP.of4 ⟨trivial, trivial, trivial, h⟩
theorem enc_opT {x : Opr} (h : okB x = true) : (enc (opT x)).length ≤ 200000 := by
  have hs := okB_size h
  cases hi : inB x with
  | true =>
    have hl : x.t.data.toList.length ≤ 131072 := by rw [BA.len]; exact hs
    have := Lib.itoa_length_le (x.t.data.toList.length : Int) (by omega) (by omega)
    rw [opT_in hi, enc, List.length_append, List.length_cons]
    omega
  | false =>
    have hc := cpB_true (cp_of_not h hi)
    have h1 := Lib.itoa_length_le x.f (by omega) (by omega)
    have h2 := Lib.itoa_length_le x.n (by omega) (by omega)
    rw [opT_cp hi]
    simp only [enc, encL, List.length_append, List.length_cons, List.length_nil]
    omega
theorem encL_map : ∀ {xs : List Opr}, (∀ x ∈ xs, okB x = true) → (encL (xs.map opT)).length ≤ 200000 * xs.length
  | [], _ => by simp [encL]
  | x :: r, h => by
    have h1 := enc_opT (h x (by simp))
    have h2 := encL_map (xs := r) (fun y hy => h y (by simp [hy]))
    rw [List.map_cons, encL, List.length_append, List.length_cons]
    omega
theorem enc_treeD {xs : List Opr} (h : rgB xs = true) : (enc (treeD xs)).length ≤ 100000000000 := by
  obtain ⟨h1, h2⟩ := rgB_true h
  have := encL_map (xs := xs) (fun x hx => by obtain ⟨j, hj⟩ := List.mem_iff_getElem?.1 hx; exact h2 j x hj)
  unfold treeD
  rw [enc, List.length_cons, List.length_append, List.length_cons, List.length_nil]
  omega

set_option maxHeartbeats 40000000 in
set_option maxRecDepth 100000 in
theorem rbytes_any (w : World) (a : Option Addr) (cap : Nat) (xs : List Opr) (hxl : xs.length ≤ 9223372036854775807) (hz : Szs xs) (hIn : InI w a xs) (hn : rgB xs = true → nodes (treeD xs) ≤ 4000) (htab : TabW w) :
    Calls Tryd.prog 7 #[.slice a xs.length cap] w fun e w' => e = .returned (.tuple #[.string ⟨(bytF xs).1.toArray⟩, .int .i64 (bytF xs).2]) ∧ Below w.heap.size w w' := by
  have HC := Lib.hid (fun w' (hb : Below w.heap.size w w') => rright_any w' a cap xs hxl hz (hIn.below hb))
  have HIN := Lib.hid hIn
  have HTB := Lib.hid htab
  clear hIn hz htab
  cases hr : rgB xs with
  | false =>
    have HR := Lib.hid (bytF_no hr)
    rw [hr] at HC
    clear hr hn
    go_enter Tryd.func7, Tryd.ntmps7
    go_wp2_with fail
    refine (HC.out _ (Below.refl _ _)).mono ?_
    rintro e w1 ⟨rfl, hb1⟩
    have HB1 := Lib.hid hb1
    clear hb1
    go_wp2
    go_ret2
    exact ⟨by rw [HR.out]; rfl, HB1.out⟩
  | true =>
    have HR := Lib.hid (bytF_yes hr)
    have HTO := Lib.hid (tree_ok hr)
    have HEN := Lib.hid (enc_treeD hr)
    have HN := Lib.hid (hn hr)
    obtain ⟨hx2, hok⟩ := rgB_true hr
    have HOK := Lib.hid hok
    obtain ⟨i0, hi, hz0, hz1, hz2⟩ := info_parts infoV
    rw [hr] at HC
    clear hr hn hok
    go_enter Tryd.func7, Tryd.ntmps7
    go_wp2_with fail
    refine (HC.out _ (Below.refl _ _)).mono ?_
    rintro e w1 ⟨rfl, hb1⟩
    have HB1 := Lib.hid hb1
    have HS := Lib.hid (BI.start w w1 hb1)
    clear hb1
    go_wp2
    generalize w1.alloc (.cells #[.int .i64 3, .int .i64 0, .string ⟨#[]⟩, .slice none 0 0] 36) = W0 at *
    go_loopw [13] (fun i wr => ∃ (k : Nat) (L : Value) (vs : List Value), k ≤ xs.length ∧ i = .int .i64 k ∧ Hid (BI w1.heap.size w wr L ((xs.take k).map opT) vs)) (fun i _ => xs.length - (intOf i).toNat)
    case atStart => exact ⟨0, _, _, by omega, rfl, HS⟩
    case round =>
      clear HS
      obtain ⟨k, L, vs, hk, rfl, HI⟩ := hrel
      have hlk : ((xs.take k).map opT).length = k := by rw [List.length_map, List.length_take]; omega
      by_cases hlt : k < xs.length
      · obtain ⟨x, hx⟩ : ∃ x, xs[k]? = some x := ⟨_, List.getElem?_eq_getElem hlt⟩
        obtain ⟨b, off, rfl, hbl, h0, h1, h2⟩ := (HIN.out.below HI.out.below).at_ hx
        have hokx := HOK.out k x hx
        have hzx := okB_size hokx
        have HMT := Lib.hid (map_take hx)
        have HLK := Lib.hid hlk
        obtain ⟨Q3, HE1⟩ := op_box wr x
        have hbk := HI.out.blk
        have hbk3 := (HE1.out.block _ (lt_of_heap hbk)).trans hbk
        obtain ⟨aL, cL, hL⟩ := HI.out.slice
        rw [HLK.out] at hL
        subst hL
        have HH := Lib.hid (And.intro (lt_of_heap HI.out.blk) (HIN.out.below HI.out.below))
        clear hx hlk
        cases hin : inB x with
        | true =>
          have HO := Lib.hid (opT_in hin)
          have hi3 := inB_true hin
          clear hin hokx
          obtain ⟨f, n, T⟩ := x
          simp only at h0 h1 h2 Q3 HE1 hzx hbk3 hi3 HO
          obtain ⟨rfl, rfl, ht1, ht2⟩ := hi3
          have e1 := size_pos_of (s := T) (by omega)
          have e2 := toList_ne (s := T) (by omega)
          have c0 := Q3.out.cell (i := 0) rfl
          have c1 := Q3.out.cell (i := 1) rfl
          have c2 := Q3.out.cell (i := 2) rfl
          have l3 : (wr.alloc (.cells #[.int .i64 0, .int .i64 0, .string T] 32)).cell? ⟨w1.heap.size, 3, none⟩ = some (.slice aL k cL) := by simp [World.cell?, hbk3]
          have hlb := lt_of_heap hbk3
          have hsz : (wr.alloc (.cells #[.int .i64 0, .int .i64 0, .string T] 32)).heap.size = wr.heap.size + 1 := World.size_alloc _ _
          have HR2 : Hid (Rep (wr.alloc (.cells #[.int .i64 0, .int .i64 0, .string T] 32)) (fun g => wr.heap.size ≤ g ∧ g < (wr.alloc (.cells #[.int .i64 0, .int .i64 0, .string T] 32)).heap.size) (opT ⟨0, 0, T⟩) (.agg #[.int .i64 2, .int .i64 0, .string T, .slice none 0 0])) := Lib.hid (by rw [HO.out, Rep])
          clear hbk hbk3 HO
          go_wp2_with (at_builtin; refine wpList_append_lies _ (by rfl) _ _ _ (by rfl) (w1.heap.size + 1) 36 i0 _ 4 56 Tryd.underlying34 hi hz0 hz1 hz2 rfl (by omega) (.slice aL k cL) k vs (by rfl) (((by have h9 := (HI.out.call HE1.out).own; rw [HLK.out] at h9; exact h9 : ((wr.alloc (.cells #[.int .i64 0, .int .i64 0, .string T] 32))).ownsRow (w1.heap.size + 1) 36 4 (.slice aL k cL) k vs)).alloc _) ⟨wr.heap.size + 1, 0, none⟩ 1 1 [.int .i64 2, .int .i64 0, .string T, .slice none 0 0] (by rfl) (by rfl) (cell_new4 _ _ _ _ _ _ hsz) (by simp [Value.oneCell']) (by omega) (by unfold maxLen; omega) (by omega) (by simp; omega) (wr.heap.size + 1 + 1) (by simp) ?_; intro g c w3 hown hgrow hl hlt3; have s3 := BI.blk3 HI.out HE1.out hgrow; have z3 : w3.cell? ⟨w1.heap.size, 3, none⟩ = some (.slice aL k cL) := (by simp [World.cell?, s3]); have f3 := frozen_of_heap s3 3; have HST := Lib.hid (BI.step HI.out HLK.out HE1.out HR2.out hown hgrow hsz hl); clear hown hgrow hl s3)
          go_roundw
          case rel => exact ⟨k + 1, _, _, by omega, by go_num, Lib.hid (by rw [HMT.out]; exact HST.out)⟩
          case measure => simp [intOf]; omega
        | false =>
          have HO := Lib.hid (opT_cp hin)
          have hc := cpB_true (cp_of_not hokx hin)
          clear hin hokx
          obtain ⟨f, n, T⟩ := x
          simp only at h0 h1 h2 Q3 HE1 hzx hbk3 hc HO
          obtain ⟨h3, h4, h5, h6, h7⟩ := hc
          obtain rfl : T = ByteArray.empty := ba_empty h7
          have c0 := Q3.out.cell (i := 0) rfl
          have c1 := Q3.out.cell (i := 1) rfl
          have c2 := Q3.out.cell (i := 2) rfl
          have l3 : (wr.alloc (.cells #[.int .i64 f, .int .i64 n, .string ByteArray.empty] 32)).cell? ⟨w1.heap.size, 3, none⟩ = some (.slice aL k cL) := by simp [World.cell?, hbk3]
          have hlb := lt_of_heap hbk3
          have HB0 : BP wr f n (wr.alloc (.cells #[.int .i64 f, .int .i64 n, .string ByteArray.empty] 32)).drew := ⟨HE1.out.drew, by show wr.heap.size < (wr.alloc (.cells #[.int .i64 f, .int .i64 n, .string ByteArray.empty] 32)).heap.size; rw [World.size_alloc]; omega, heap_alloc_new _ _⟩
          have HS0 : ((wr.alloc (.cells #[.int .i64 f, .int .i64 n, .string ByteArray.empty] 32)).drew.cell? ⟨wr.heap.size, 0, none⟩ = some (.int .i64 f) ∧ (wr.alloc (.cells #[.int .i64 f, .int .i64 n, .string ByteArray.empty] 32)).drew.cell? ⟨wr.heap.size, 1, none⟩ = some (.int .i64 n)) := ⟨c0, c1⟩
          have hl3d : (wr.alloc (.cells #[.int .i64 f, .int .i64 n, .string ByteArray.empty] 32)).drew.cell? ⟨w1.heap.size, 3, none⟩ = some (.slice aL k cL) := l3
          have hneb : w1.heap.size ≠ wr.heap.size := by have := lt_of_heap HI.out.blk; omega
          have hneb2 : wr.heap.size ≠ w1.heap.size := fun e => hneb e.symm
          have HNM : Hid (∀ (m : Int) (W : World), BP wr f n W → Calls Tryd.prog 15 #[.int .i64 m] W fun e w2 => e = .returned (.agg #[.int .i64 1, .int .i64 m, .string ⟨#[]⟩, .slice none 0 0]) ∧ (w2.cell? ⟨wr.heap.size, 0, none⟩ = some (.int .i64 f) ∧ w2.cell? ⟨wr.heap.size, 1, none⟩ = some (.int .i64 n)) ∧ w2.cell? ⟨w1.heap.size, 3, none⟩ = some (.slice aL k cL) ∧ w1.heap.size < w2.heap.size ∧ BP wr f n w2) := Lib.hid (fun m W HW => (num_any m W).mono (by
            rintro e w2 ⟨rfl, hb2⟩
            have hb3 : Below wr.heap.size wr w2 := HW.below.trans (hb2.mono HW.below.size)
            have h8 := (hb2.block _ HW.lt).trans HW.blk
            have h9 := (hb3.block _ (lt_of_heap HI.out.blk)).trans HI.out.blk
            refine ⟨rfl, ⟨?_, ?_⟩, ?_, ?_, hb3, Nat.lt_of_lt_of_le HW.lt hb2.size, h8⟩
            · simp [World.cell?, h8]
            · simp [World.cell?, h8]
            · simp [World.cell?, h9]
            · exact Nat.lt_of_lt_of_le (lt_of_heap HI.out.blk) hb3.size))
          have HPR : Hid (∀ W : World, BP wr f n W → Below wr.heap.size wr (W.alloc (.cells #[.int .i64 1, .int .i64 f, .string ⟨#[]⟩, .slice none 0 0, .int .i64 1, .int .i64 n, .string ⟨#[]⟩, .slice none 0 0] 36)) ∧ Rep (W.alloc (.cells #[.int .i64 1, .int .i64 f, .string ⟨#[]⟩, .slice none 0 0, .int .i64 1, .int .i64 n, .string ⟨#[]⟩, .slice none 0 0] 36)) (fun g => wr.heap.size ≤ g ∧ g < (W.alloc (.cells #[.int .i64 1, .int .i64 f, .string ⟨#[]⟩, .slice none 0 0, .int .i64 1, .int .i64 n, .string ⟨#[]⟩, .slice none 0 0] 36)).heap.size) (opT ⟨f, n, ByteArray.empty⟩) (.agg #[.int .i64 3, .int .i64 0, .string ⟨#[]⟩, .slice (some ⟨W.heap.size, 0, none⟩) 2 2])) := Lib.hid (fun W HW => by
            refine ⟨HW.below.alloc HW.below.size _, ?_⟩
            rw [HO.out]
            exact rep_two_nums (heap_alloc_new _ _) HW.below.size (by rw [World.size_alloc]; omega))
          clear hbk hbk3 HO
          go_wp2_with fail
          clear h0 h1 h2
          refine wp_region_noPanic ?_
          refine wp_region_held_drew (S := fun W => (W.cell? ⟨wr.heap.size, 0, none⟩ = some (.int .i64 f) ∧ W.cell? ⟨wr.heap.size, 1, none⟩ = some (.int .i64 n))) (by kernel_rfl) ?_ (fun hq0 => ?_)
          · (try dsimp only) <;> (first | assumption | (apply BP.of4; assumption) | (apply BP.alo; assumption) | (refine ⟨?_, ?_⟩ <;> first | assumption | (apply BP.of4; assumption) | (apply BP.alo; assumption) | go_keep))
          refine wpAnyH_take (i := 0) (oi := { dst := some 20, op := Go.Op.fieldAddr 36 (Go.Operand.tmp 4) 3, type := 0, pos := "ref.go:73", after := #[], guard := none }) (v := ?_) rfl (by kernel_rfl) (by kernel_rfl) (by kernel_rfl) (fun _ _ _ h => h) (Or.inl ⟨by rfl, ?_⟩) (by assumption) ?_
          rotate_left
          · (intro w hSw; (try dsimp only at hSw); go_simp) <;> with_reducible rfl
          simp only [Act.put, List.setIfInBounds_toArray, List.set_cons_zero, List.set_cons_succ]
          refine wpAnyH_take (i := 2) (oi := { dst := some 22, op := Go.Op.fieldAddr 32 (Go.Operand.tmp 6) 0, type := 0, pos := "ref.go:73", after := #[], guard := none }) (v := ?_) rfl (by kernel_rfl) (by kernel_rfl) (by kernel_rfl) (fun _ _ _ h => h) (Or.inl ⟨by rfl, ?_⟩) (by assumption) ?_
          rotate_left
          · (intro w hSw; (try dsimp only at hSw); go_simp) <;> with_reducible rfl
          simp only [Act.put, List.setIfInBounds_toArray, List.set_cons_zero, List.set_cons_succ]
          refine wpAnyH_take (i := 3) (oi := { dst := some 23, op := Go.Op.load 3 (Go.Operand.tmp 22), type := 3, pos := "ref.go:73", after := #[{ on := 2, ground := Go.Ground.data }], guard := none }) (v := ?_) rfl (by kernel_rfl) (by kernel_rfl) (by kernel_rfl) (fun _ _ _ h => h) (Or.inl ⟨by rfl, ?_⟩) (by assumption) ?_
          rotate_left
          · (intro w hSw; (try dsimp only at hSw); go_simp) <;> with_reducible rfl
          simp only [Act.put, List.setIfInBounds_toArray, List.set_cons_zero, List.set_cons_succ]
          refine wpAnyH_take (i := 5) (oi := { dst := some 25, op := Go.Op.fieldAddr 32 (Go.Operand.tmp 6) 1, type := 0, pos := "ref.go:73", after := #[], guard := none }) (v := ?_) rfl (by kernel_rfl) (by kernel_rfl) (by kernel_rfl) (fun _ _ _ h => h) (Or.inl ⟨by rfl, ?_⟩) (by assumption) ?_
          rotate_left
          · (intro w hSw; (try dsimp only at hSw); go_simp) <;> with_reducible rfl
          simp only [Act.put, List.setIfInBounds_toArray, List.set_cons_zero, List.set_cons_succ]
          refine wpAnyH_take (i := 6) (oi := { dst := some 26, op := Go.Op.load 3 (Go.Operand.tmp 25), type := 3, pos := "ref.go:73", after := #[{ on := 5, ground := Go.Ground.data }], guard := none }) (v := ?_) rfl (by kernel_rfl) (by kernel_rfl) (by kernel_rfl) (fun _ _ _ h => h) (Or.inl ⟨by rfl, ?_⟩) (by assumption) ?_
          rotate_left
          · (intro w hSw; (try dsimp only at hSw); go_simp) <;> with_reducible rfl
          simp only [Act.put, List.setIfInBounds_toArray, List.set_cons_zero, List.set_cons_succ]
          refine wpAnyH_ready (rs := [1, 4]) (by kernel_rfl) (by simp) ?_
          refine AllReadyH.cons (o := { dst := some 21, op := Go.Op.load 34 (Go.Operand.tmp 20), type := 34, pos := "ref.go:73", after := #[{ on := 0, ground := Go.Ground.data }], guard := none }) rfl (fun K hK => ?_) ?_
          · skip
            go_simp
            refine hK.out _ _ ?_ (fun hq1 => ?_)
            · (try dsimp only) <;> (first | assumption | (apply BP.of4; assumption) | (apply BP.alo; assumption) | (refine ⟨?_, ?_⟩ <;> first | assumption | (apply BP.of4; assumption) | (apply BP.alo; assumption) | go_keep))
            clear hK K hq0
            try simp only [Act.put, List.setIfInBounds_toArray, List.set_cons_zero, List.set_cons_succ]
            refine wpAnyH_ready (rs := [4]) (by kernel_rfl) (by simp) ?_
            refine AllReadyH.cons (o := { dst := some 24, op := Go.Op.call { callee := Go.Callee.value (Go.Operand.func 15), args := #[Go.Operand.tmp 23], argTypes := #[3] }, type := 36, pos := "ref.go:73", after := #[{ on := 3, ground := Go.Ground.data }], guard := none }) rfl (fun K hK => ?_) AllReadyH.nil
            go_simp
            (go_at_call 15; refine (HNM.out _ _ ?_).mono ?_; assumption; rintro e w2 ⟨rfl, hS2, hl3, l6, HB2⟩)
            go_wp2_with fail
            refine hK.out _ _ ?_ (fun hq2 => ?_)
            · (try dsimp only) <;> (first | assumption | (apply BP.of4; assumption) | (apply BP.alo; assumption) | (refine ⟨?_, ?_⟩ <;> first | assumption | (apply BP.of4; assumption) | (apply BP.alo; assumption) | go_keep))
            clear hK K hq1
            try simp only [Act.put, List.setIfInBounds_toArray, List.set_cons_zero, List.set_cons_succ]
            refine wpAnyH_ready (rs := [7]) (by kernel_rfl) (by simp) ?_
            refine AllReadyH.cons (o := { dst := some 27, op := Go.Op.call { callee := Go.Callee.value (Go.Operand.func 15), args := #[Go.Operand.tmp 26], argTypes := #[3] }, type := 36, pos := "ref.go:73", after := #[{ on := 6, ground := Go.Ground.data }, { on := 4, ground := Go.Ground.chain }], guard := none }) rfl (fun K hK => ?_) AllReadyH.nil
            go_simp
            (go_at_call 15; refine (HNM.out _ _ ?_).mono ?_; assumption; rintro e w2 ⟨rfl, hS2, hl3, l6, HB2⟩)
            go_wp2_with fail
            refine hK.out _ _ ?_ (fun hq3 => ?_)
            · (try dsimp only) <;> (first | assumption | (apply BP.of4; assumption) | (apply BP.alo; assumption) | (refine ⟨?_, ?_⟩ <;> first | assumption | (apply BP.of4; assumption) | (apply BP.alo; assumption) | go_keep))
            clear hK K hq2
            try simp only [Act.put, List.setIfInBounds_toArray, List.set_cons_zero, List.set_cons_succ]
            refine wpAnyH_ready (rs := [8]) (by kernel_rfl) (by simp) ?_
            refine AllReadyH.cons (o := { dst := some 28, op := Go.Op.buildSlice 34 2 #[(0, Go.Operand.tmp 24), (1, Go.Operand.tmp 27)], type := 34, pos := "ref.go:73", after := #[{ on := 4, ground := Go.Ground.data }, { on := 7, ground := Go.Ground.data }], guard := none }) rfl (fun K hK => ?_) AllReadyH.nil
            go_simp
            refine hK.out _ _ ?_ (fun hq4 => ?_)
            · (try dsimp only) <;> (first | assumption | (apply BP.of4; assumption) | (apply BP.alo; assumption) | (refine ⟨?_, ?_⟩ <;> first | assumption | (apply BP.of4; assumption) | (apply BP.alo; assumption) | go_keep))
            clear hK K hq3
            try simp only [Act.put, List.setIfInBounds_toArray, List.set_cons_zero, List.set_cons_succ]
            refine wpAnyH_take (i := 9) (oi := { dst := some 29, op := Go.Op.build 36 #[(0, Go.Operand.const (Go.Value.int Go.IntKind.i64 3)), (3, Go.Operand.tmp 28)], type := 36, pos := "ref.go:73", after := #[{ on := 8, ground := Go.Ground.data }], guard := none }) (v := ?_) rfl (by kernel_rfl) (by kernel_rfl) (by kernel_rfl) (fun _ _ _ h => h) (Or.inl ⟨by rfl, ?_⟩) (by assumption) ?_
            rotate_left
            · (intro w hSw; (try dsimp only at hSw); go_simp) <;> with_reducible rfl
            simp only [Act.put, List.setIfInBounds_toArray, List.set_cons_zero, List.set_cons_succ]
            refine wpAnyH_ready (rs := [10]) (by kernel_rfl) (by simp) ?_
            refine AllReadyH.cons (o := { dst := some 30, op := Go.Op.buildSlice 34 1 #[(0, Go.Operand.tmp 29)], type := 34, pos := "ref.go:73", after := #[{ on := 9, ground := Go.Ground.data }], guard := none }) rfl (fun K hK => ?_) AllReadyH.nil
            go_simp
            refine hK.out _ _ ?_ (fun hq5 => ?_)
            · (try dsimp only) <;> (first | assumption | (apply BP.of4; assumption) | (apply BP.alo; assumption) | (refine ⟨?_, ?_⟩ <;> first | assumption | (apply BP.of4; assumption) | (apply BP.alo; assumption) | go_keep))
            clear hK K hq4
            try simp only [Act.put, List.setIfInBounds_toArray, List.set_cons_zero, List.set_cons_succ]
            refine wpAnyH_ready (rs := [11]) (by kernel_rfl) (by simp) ?_
            refine AllReadyH.cons (o := { dst := some 31, op := Go.Op.call { callee := Go.Callee.builtin Go.Builtin.append, args := #[Go.Operand.tmp 21, Go.Operand.tmp 30], argTypes := #[34, 34] }, type := 34, pos := "ref.go:73", after := #[{ on := 1, ground := Go.Ground.data }, { on := 10, ground := Go.Ground.data }, { on := 7, ground := Go.Ground.chain }], guard := none }) rfl (fun K hK => ?_) AllReadyH.nil
            (refine step_append_lies _ (by rfl) _ _ _ (by rfl) (w1.heap.size + 1) 36 i0 _ 4 56 Tryd.underlying34 hi hz0 hz1 hz2 rfl (by omega) (.slice aL k cL) k vs (by rfl) (((by have h9 := (HI.out.call (HPR.out _ HB2).1).own; rw [HLK.out] at h9; exact h9 : (w2.alloc (.cells #[.int .i64 1, .int .i64 f, .string ⟨#[]⟩, .slice none 0 0, .int .i64 1, .int .i64 n, .string ⟨#[]⟩, .slice none 0 0] 36)).ownsRow (w1.heap.size + 1) 36 4 (.slice aL k cL) k vs)).alloc _) ⟨w2.heap.size + 1, 0, none⟩ 1 1 [.int .i64 3, .int .i64 0, .string ⟨#[]⟩, .slice (some ⟨w2.heap.size, 0, none⟩) 2 2] (by rfl) (by rfl) (cell_new4 _ _ _ _ _ _ (World.size_alloc _ _)) (by simp [Value.oneCell']) (by omega) (by unfold maxLen; omega) (by omega) (by simp; omega) (w2.heap.size + 1 + 1) (by simp) ?_; intro g c w3 hown hgrow hl hlt3; have s3 := BI.blk3 HI.out (HPR.out _ HB2).1 hgrow; have z3 : w3.cell? ⟨w1.heap.size, 3, none⟩ = some (.slice aL k cL) := (by simp [World.cell?, s3]); have f3 := frozen_of_heap s3 3; have HST := Lib.hid (BI.step HI.out HLK.out (HPR.out _ HB2).1 (HPR.out _ HB2).2 hown hgrow (World.size_alloc _ _) hl); have q3 : w3.heap[wr.heap.size]? = some (.cells #[.int .i64 f, .int .i64 n, .string ByteArray.empty] 32 (0, 0)) := (hgrow.block wr.heap.size (by rw [World.size_alloc, World.size_alloc]; have := HB2.lt; omega) (fun e => by have := (HI.out.own.lt _ e.symm).2; omega)).trans (((Below.heap_alloc _ _ _ (by rw [World.size_alloc]; have := HB2.lt; omega)).trans (Below.heap_alloc _ _ _ HB2.lt)).trans HB2.blk); have zS := And.intro (show w3.cell? ⟨wr.heap.size, 0, none⟩ = some (.int .i64 f) by simp [World.cell?, q3]) (show w3.cell? ⟨wr.heap.size, 1, none⟩ = some (.int .i64 n) by simp [World.cell?, q3]); clear hown hgrow hl s3 q3)
            refine hK.out _ _ ?_ (fun hq6 => ?_)
            · (try dsimp only) <;> (first | assumption | (apply BP.of4; assumption) | (apply BP.alo; assumption) | (refine ⟨?_, ?_⟩ <;> first | assumption | (apply BP.of4; assumption) | (apply BP.alo; assumption) | go_keep))
            clear hK K hq5
            try simp only [Act.put, List.setIfInBounds_toArray, List.set_cons_zero, List.set_cons_succ]
            refine wpAnyH_take (i := 12) (oi := { dst := some 32, op := Go.Op.fieldAddr 36 (Go.Operand.tmp 4) 3, type := 0, pos := "ref.go:73", after := #[{ on := 0, ground := Go.Ground.phase }, { on := 1, ground := Go.Ground.phase }, { on := 2, ground := Go.Ground.phase }, { on := 3, ground := Go.Ground.phase }, { on := 4, ground := Go.Ground.phase }, { on := 5, ground := Go.Ground.phase }, { on := 6, ground := Go.Ground.phase }, { on := 7, ground := Go.Ground.phase }, { on := 8, ground := Go.Ground.phase }, { on := 9, ground := Go.Ground.phase }, { on := 10, ground := Go.Ground.phase }, { on := 11, ground := Go.Ground.phase }], guard := none }) (v := ?_) rfl (by kernel_rfl) (by kernel_rfl) (by kernel_rfl) (fun _ _ _ h => h) (Or.inl ⟨by rfl, ?_⟩) (by assumption) ?_
            rotate_left
            · (intro w hSw; (try dsimp only at hSw); go_simp) <;> with_reducible rfl
            simp only [Act.put, List.setIfInBounds_toArray, List.set_cons_zero, List.set_cons_succ]
            refine wpAnyH_ready (rs := [13]) (by kernel_rfl) (by simp) ?_
            refine AllReadyH.cons (o := { dst := none, op := Go.Op.store 34 (Go.Operand.tmp 32) (Go.Operand.tmp 31), type := 0, pos := "ref.go:73", after := #[{ on := 12, ground := Go.Ground.data }, { on := 11, ground := Go.Ground.data }, { on := 11, ground := Go.Ground.chain }, { on := 0, ground := Go.Ground.phase }, { on := 1, ground := Go.Ground.phase }, { on := 2, ground := Go.Ground.phase }, { on := 3, ground := Go.Ground.phase }, { on := 4, ground := Go.Ground.phase }, { on := 5, ground := Go.Ground.phase }, { on := 6, ground := Go.Ground.phase }, { on := 7, ground := Go.Ground.phase }, { on := 8, ground := Go.Ground.phase }, { on := 9, ground := Go.Ground.phase }, { on := 10, ground := Go.Ground.phase }, { on := 11, ground := Go.Ground.phase }], guard := none }) rfl (fun K hK => ?_) AllReadyH.nil
            go_simp
            refine hK.out _ _ ?_ (fun hq7 => ?_)
            · (try dsimp only) <;> (first | assumption | (apply BP.of4; assumption) | (apply BP.alo; assumption) | (refine ⟨?_, ?_⟩ <;> first | assumption | (apply BP.of4; assumption) | (apply BP.alo; assumption) | go_keep))
            clear hK K hq6
            try simp only [Act.put, List.setIfInBounds_toArray, List.set_cons_zero, List.set_cons_succ]
            refine wpAnyH_done (by kernel_rfl) ?_ _
            refine NoPanic.normal ?_
            go_wp2
            go_roundw
            case rel => exact ⟨k + 1, _, _, by omega, by go_num, Lib.hid (by rw [HMT.out]; exact HST.out)⟩
            case measure => simp [intOf]; omega
          refine AllReadyH.cons (o := { dst := some 24, op := Go.Op.call { callee := Go.Callee.value (Go.Operand.func 15), args := #[Go.Operand.tmp 23], argTypes := #[3] }, type := 36, pos := "ref.go:73", after := #[{ on := 3, ground := Go.Ground.data }], guard := none }) rfl (fun K hK => ?_) AllReadyH.nil
          go_simp
          (go_at_call 15; refine (HNM.out _ _ ?_).mono ?_; assumption; rintro e w2 ⟨rfl, hS2, hl3, l6, HB2⟩)
          go_wp2_with fail
          refine hK.out _ _ ?_ (fun hq8 => ?_)
          · (try dsimp only) <;> (first | assumption | (apply BP.of4; assumption) | (apply BP.alo; assumption) | (refine ⟨?_, ?_⟩ <;> first | assumption | (apply BP.of4; assumption) | (apply BP.alo; assumption) | go_keep))
          clear hK K hq0
          try simp only [Act.put, List.setIfInBounds_toArray, List.set_cons_zero, List.set_cons_succ]
          refine wpAnyH_ready (rs := [1, 7]) (by kernel_rfl) (by simp) ?_
          refine AllReadyH.cons (o := { dst := some 21, op := Go.Op.load 34 (Go.Operand.tmp 20), type := 34, pos := "ref.go:73", after := #[{ on := 0, ground := Go.Ground.data }], guard := none }) rfl (fun K hK => ?_) ?_
          · skip
            go_simp
            refine hK.out _ _ ?_ (fun hq9 => ?_)
            · (try dsimp only) <;> (first | assumption | (apply BP.of4; assumption) | (apply BP.alo; assumption) | (refine ⟨?_, ?_⟩ <;> first | assumption | (apply BP.of4; assumption) | (apply BP.alo; assumption) | go_keep))
            clear hK K hq8
            try simp only [Act.put, List.setIfInBounds_toArray, List.set_cons_zero, List.set_cons_succ]
            refine wpAnyH_ready (rs := [7]) (by kernel_rfl) (by simp) ?_
            refine AllReadyH.cons (o := { dst := some 27, op := Go.Op.call { callee := Go.Callee.value (Go.Operand.func 15), args := #[Go.Operand.tmp 26], argTypes := #[3] }, type := 36, pos := "ref.go:73", after := #[{ on := 6, ground := Go.Ground.data }, { on := 4, ground := Go.Ground.chain }], guard := none }) rfl (fun K hK => ?_) AllReadyH.nil
            go_simp
            (go_at_call 15; refine (HNM.out _ _ ?_).mono ?_; assumption; rintro e w2 ⟨rfl, hS2, hl3, l6, HB2⟩)
            go_wp2_with fail
            refine hK.out _ _ ?_ (fun hq10 => ?_)
            · (try dsimp only) <;> (first | assumption | (apply BP.of4; assumption) | (apply BP.alo; assumption) | (refine ⟨?_, ?_⟩ <;> first | assumption | (apply BP.of4; assumption) | (apply BP.alo; assumption) | go_keep))
            clear hK K hq9
            try simp only [Act.put, List.setIfInBounds_toArray, List.set_cons_zero, List.set_cons_succ]
            refine wpAnyH_ready (rs := [8]) (by kernel_rfl) (by simp) ?_
            refine AllReadyH.cons (o := { dst := some 28, op := Go.Op.buildSlice 34 2 #[(0, Go.Operand.tmp 24), (1, Go.Operand.tmp 27)], type := 34, pos := "ref.go:73", after := #[{ on := 4, ground := Go.Ground.data }, { on := 7, ground := Go.Ground.data }], guard := none }) rfl (fun K hK => ?_) AllReadyH.nil
            go_simp
            refine hK.out _ _ ?_ (fun hq11 => ?_)
            · (try dsimp only) <;> (first | assumption | (apply BP.of4; assumption) | (apply BP.alo; assumption) | (refine ⟨?_, ?_⟩ <;> first | assumption | (apply BP.of4; assumption) | (apply BP.alo; assumption) | go_keep))
            clear hK K hq10
            try simp only [Act.put, List.setIfInBounds_toArray, List.set_cons_zero, List.set_cons_succ]
            refine wpAnyH_take (i := 9) (oi := { dst := some 29, op := Go.Op.build 36 #[(0, Go.Operand.const (Go.Value.int Go.IntKind.i64 3)), (3, Go.Operand.tmp 28)], type := 36, pos := "ref.go:73", after := #[{ on := 8, ground := Go.Ground.data }], guard := none }) (v := ?_) rfl (by kernel_rfl) (by kernel_rfl) (by kernel_rfl) (fun _ _ _ h => h) (Or.inl ⟨by rfl, ?_⟩) (by assumption) ?_
            rotate_left
            · (intro w hSw; (try dsimp only at hSw); go_simp) <;> with_reducible rfl
            simp only [Act.put, List.setIfInBounds_toArray, List.set_cons_zero, List.set_cons_succ]
            refine wpAnyH_ready (rs := [10]) (by kernel_rfl) (by simp) ?_
            refine AllReadyH.cons (o := { dst := some 30, op := Go.Op.buildSlice 34 1 #[(0, Go.Operand.tmp 29)], type := 34, pos := "ref.go:73", after := #[{ on := 9, ground := Go.Ground.data }], guard := none }) rfl (fun K hK => ?_) AllReadyH.nil
            go_simp
            refine hK.out _ _ ?_ (fun hq12 => ?_)
            · (try dsimp only) <;> (first | assumption | (apply BP.of4; assumption) | (apply BP.alo; assumption) | (refine ⟨?_, ?_⟩ <;> first | assumption | (apply BP.of4; assumption) | (apply BP.alo; assumption) | go_keep))
            clear hK K hq11
            try simp only [Act.put, List.setIfInBounds_toArray, List.set_cons_zero, List.set_cons_succ]
            refine wpAnyH_ready (rs := [11]) (by kernel_rfl) (by simp) ?_
            refine AllReadyH.cons (o := { dst := some 31, op := Go.Op.call { callee := Go.Callee.builtin Go.Builtin.append, args := #[Go.Operand.tmp 21, Go.Operand.tmp 30], argTypes := #[34, 34] }, type := 34, pos := "ref.go:73", after := #[{ on := 1, ground := Go.Ground.data }, { on := 10, ground := Go.Ground.data }, { on := 7, ground := Go.Ground.chain }], guard := none }) rfl (fun K hK => ?_) AllReadyH.nil
            (refine step_append_lies _ (by rfl) _ _ _ (by rfl) (w1.heap.size + 1) 36 i0 _ 4 56 Tryd.underlying34 hi hz0 hz1 hz2 rfl (by omega) (.slice aL k cL) k vs (by rfl) (((by have h9 := (HI.out.call (HPR.out _ HB2).1).own; rw [HLK.out] at h9; exact h9 : (w2.alloc (.cells #[.int .i64 1, .int .i64 f, .string ⟨#[]⟩, .slice none 0 0, .int .i64 1, .int .i64 n, .string ⟨#[]⟩, .slice none 0 0] 36)).ownsRow (w1.heap.size + 1) 36 4 (.slice aL k cL) k vs)).alloc _) ⟨w2.heap.size + 1, 0, none⟩ 1 1 [.int .i64 3, .int .i64 0, .string ⟨#[]⟩, .slice (some ⟨w2.heap.size, 0, none⟩) 2 2] (by rfl) (by rfl) (cell_new4 _ _ _ _ _ _ (World.size_alloc _ _)) (by simp [Value.oneCell']) (by omega) (by unfold maxLen; omega) (by omega) (by simp; omega) (w2.heap.size + 1 + 1) (by simp) ?_; intro g c w3 hown hgrow hl hlt3; have s3 := BI.blk3 HI.out (HPR.out _ HB2).1 hgrow; have z3 : w3.cell? ⟨w1.heap.size, 3, none⟩ = some (.slice aL k cL) := (by simp [World.cell?, s3]); have f3 := frozen_of_heap s3 3; have HST := Lib.hid (BI.step HI.out HLK.out (HPR.out _ HB2).1 (HPR.out _ HB2).2 hown hgrow (World.size_alloc _ _) hl); have q3 : w3.heap[wr.heap.size]? = some (.cells #[.int .i64 f, .int .i64 n, .string ByteArray.empty] 32 (0, 0)) := (hgrow.block wr.heap.size (by rw [World.size_alloc, World.size_alloc]; have := HB2.lt; omega) (fun e => by have := (HI.out.own.lt _ e.symm).2; omega)).trans (((Below.heap_alloc _ _ _ (by rw [World.size_alloc]; have := HB2.lt; omega)).trans (Below.heap_alloc _ _ _ HB2.lt)).trans HB2.blk); have zS := And.intro (show w3.cell? ⟨wr.heap.size, 0, none⟩ = some (.int .i64 f) by simp [World.cell?, q3]) (show w3.cell? ⟨wr.heap.size, 1, none⟩ = some (.int .i64 n) by simp [World.cell?, q3]); clear hown hgrow hl s3 q3)
            refine hK.out _ _ ?_ (fun hq13 => ?_)
            · (try dsimp only) <;> (first | assumption | (apply BP.of4; assumption) | (apply BP.alo; assumption) | (refine ⟨?_, ?_⟩ <;> first | assumption | (apply BP.of4; assumption) | (apply BP.alo; assumption) | go_keep))
            clear hK K hq12
            try simp only [Act.put, List.setIfInBounds_toArray, List.set_cons_zero, List.set_cons_succ]
            refine wpAnyH_take (i := 12) (oi := { dst := some 32, op := Go.Op.fieldAddr 36 (Go.Operand.tmp 4) 3, type := 0, pos := "ref.go:73", after := #[{ on := 0, ground := Go.Ground.phase }, { on := 1, ground := Go.Ground.phase }, { on := 2, ground := Go.Ground.phase }, { on := 3, ground := Go.Ground.phase }, { on := 4, ground := Go.Ground.phase }, { on := 5, ground := Go.Ground.phase }, { on := 6, ground := Go.Ground.phase }, { on := 7, ground := Go.Ground.phase }, { on := 8, ground := Go.Ground.phase }, { on := 9, ground := Go.Ground.phase }, { on := 10, ground := Go.Ground.phase }, { on := 11, ground := Go.Ground.phase }], guard := none }) (v := ?_) rfl (by kernel_rfl) (by kernel_rfl) (by kernel_rfl) (fun _ _ _ h => h) (Or.inl ⟨by rfl, ?_⟩) (by assumption) ?_
            rotate_left
            · (intro w hSw; (try dsimp only at hSw); go_simp) <;> with_reducible rfl
            simp only [Act.put, List.setIfInBounds_toArray, List.set_cons_zero, List.set_cons_succ]
            refine wpAnyH_ready (rs := [13]) (by kernel_rfl) (by simp) ?_
            refine AllReadyH.cons (o := { dst := none, op := Go.Op.store 34 (Go.Operand.tmp 32) (Go.Operand.tmp 31), type := 0, pos := "ref.go:73", after := #[{ on := 12, ground := Go.Ground.data }, { on := 11, ground := Go.Ground.data }, { on := 11, ground := Go.Ground.chain }, { on := 0, ground := Go.Ground.phase }, { on := 1, ground := Go.Ground.phase }, { on := 2, ground := Go.Ground.phase }, { on := 3, ground := Go.Ground.phase }, { on := 4, ground := Go.Ground.phase }, { on := 5, ground := Go.Ground.phase }, { on := 6, ground := Go.Ground.phase }, { on := 7, ground := Go.Ground.phase }, { on := 8, ground := Go.Ground.phase }, { on := 9, ground := Go.Ground.phase }, { on := 10, ground := Go.Ground.phase }, { on := 11, ground := Go.Ground.phase }], guard := none }) rfl (fun K hK => ?_) AllReadyH.nil
            go_simp
            refine hK.out _ _ ?_ (fun hq14 => ?_)
            · (try dsimp only) <;> (first | assumption | (apply BP.of4; assumption) | (apply BP.alo; assumption) | (refine ⟨?_, ?_⟩ <;> first | assumption | (apply BP.of4; assumption) | (apply BP.alo; assumption) | go_keep))
            clear hK K hq13
            try simp only [Act.put, List.setIfInBounds_toArray, List.set_cons_zero, List.set_cons_succ]
            refine wpAnyH_done (by kernel_rfl) ?_ _
            refine NoPanic.normal ?_
            go_wp2
            go_roundw
            case rel => exact ⟨k + 1, _, _, by omega, by go_num, Lib.hid (by rw [HMT.out]; exact HST.out)⟩
            case measure => simp [intOf]; omega
          refine AllReadyH.cons (o := { dst := some 27, op := Go.Op.call { callee := Go.Callee.value (Go.Operand.func 15), args := #[Go.Operand.tmp 26], argTypes := #[3] }, type := 36, pos := "ref.go:73", after := #[{ on := 6, ground := Go.Ground.data }, { on := 4, ground := Go.Ground.chain }], guard := none }) rfl (fun K hK => ?_) AllReadyH.nil
          go_simp
          (go_at_call 15; refine (HNM.out _ _ ?_).mono ?_; assumption; rintro e w2 ⟨rfl, hS2, hl3, l6, HB2⟩)
          go_wp2_with fail
          refine hK.out _ _ ?_ (fun hq15 => ?_)
          · (try dsimp only) <;> (first | assumption | (apply BP.of4; assumption) | (apply BP.alo; assumption) | (refine ⟨?_, ?_⟩ <;> first | assumption | (apply BP.of4; assumption) | (apply BP.alo; assumption) | go_keep))
          clear hK K hq8
          try simp only [Act.put, List.setIfInBounds_toArray, List.set_cons_zero, List.set_cons_succ]
          refine wpAnyH_ready (rs := [1, 8]) (by kernel_rfl) (by simp) ?_
          refine AllReadyH.cons (o := { dst := some 21, op := Go.Op.load 34 (Go.Operand.tmp 20), type := 34, pos := "ref.go:73", after := #[{ on := 0, ground := Go.Ground.data }], guard := none }) rfl (fun K hK => ?_) ?_
          · skip
            go_simp
            refine hK.out _ _ ?_ (fun hq16 => ?_)
            · (try dsimp only) <;> (first | assumption | (apply BP.of4; assumption) | (apply BP.alo; assumption) | (refine ⟨?_, ?_⟩ <;> first | assumption | (apply BP.of4; assumption) | (apply BP.alo; assumption) | go_keep))
            clear hK K hq15
            try simp only [Act.put, List.setIfInBounds_toArray, List.set_cons_zero, List.set_cons_succ]
            refine wpAnyH_ready (rs := [8]) (by kernel_rfl) (by simp) ?_
            refine AllReadyH.cons (o := { dst := some 28, op := Go.Op.buildSlice 34 2 #[(0, Go.Operand.tmp 24), (1, Go.Operand.tmp 27)], type := 34, pos := "ref.go:73", after := #[{ on := 4, ground := Go.Ground.data }, { on := 7, ground := Go.Ground.data }], guard := none }) rfl (fun K hK => ?_) AllReadyH.nil
            go_simp
            refine hK.out _ _ ?_ (fun hq17 => ?_)
            · (try dsimp only) <;> (first | assumption | (apply BP.of4; assumption) | (apply BP.alo; assumption) | (refine ⟨?_, ?_⟩ <;> first | assumption | (apply BP.of4; assumption) | (apply BP.alo; assumption) | go_keep))
            clear hK K hq16
            try simp only [Act.put, List.setIfInBounds_toArray, List.set_cons_zero, List.set_cons_succ]
            refine wpAnyH_take (i := 9) (oi := { dst := some 29, op := Go.Op.build 36 #[(0, Go.Operand.const (Go.Value.int Go.IntKind.i64 3)), (3, Go.Operand.tmp 28)], type := 36, pos := "ref.go:73", after := #[{ on := 8, ground := Go.Ground.data }], guard := none }) (v := ?_) rfl (by kernel_rfl) (by kernel_rfl) (by kernel_rfl) (fun _ _ _ h => h) (Or.inl ⟨by rfl, ?_⟩) (by assumption) ?_
            rotate_left
            · (intro w hSw; (try dsimp only at hSw); go_simp) <;> with_reducible rfl
            simp only [Act.put, List.setIfInBounds_toArray, List.set_cons_zero, List.set_cons_succ]
            refine wpAnyH_ready (rs := [10]) (by kernel_rfl) (by simp) ?_
            refine AllReadyH.cons (o := { dst := some 30, op := Go.Op.buildSlice 34 1 #[(0, Go.Operand.tmp 29)], type := 34, pos := "ref.go:73", after := #[{ on := 9, ground := Go.Ground.data }], guard := none }) rfl (fun K hK => ?_) AllReadyH.nil
            go_simp
            refine hK.out _ _ ?_ (fun hq18 => ?_)
            · (try dsimp only) <;> (first | assumption | (apply BP.of4; assumption) | (apply BP.alo; assumption) | (refine ⟨?_, ?_⟩ <;> first | assumption | (apply BP.of4; assumption) | (apply BP.alo; assumption) | go_keep))
            clear hK K hq17
            try simp only [Act.put, List.setIfInBounds_toArray, List.set_cons_zero, List.set_cons_succ]
            refine wpAnyH_ready (rs := [11]) (by kernel_rfl) (by simp) ?_
            refine AllReadyH.cons (o := { dst := some 31, op := Go.Op.call { callee := Go.Callee.builtin Go.Builtin.append, args := #[Go.Operand.tmp 21, Go.Operand.tmp 30], argTypes := #[34, 34] }, type := 34, pos := "ref.go:73", after := #[{ on := 1, ground := Go.Ground.data }, { on := 10, ground := Go.Ground.data }, { on := 7, ground := Go.Ground.chain }], guard := none }) rfl (fun K hK => ?_) AllReadyH.nil
            (refine step_append_lies _ (by rfl) _ _ _ (by rfl) (w1.heap.size + 1) 36 i0 _ 4 56 Tryd.underlying34 hi hz0 hz1 hz2 rfl (by omega) (.slice aL k cL) k vs (by rfl) (((by have h9 := (HI.out.call (HPR.out _ HB2).1).own; rw [HLK.out] at h9; exact h9 : (w2.alloc (.cells #[.int .i64 1, .int .i64 f, .string ⟨#[]⟩, .slice none 0 0, .int .i64 1, .int .i64 n, .string ⟨#[]⟩, .slice none 0 0] 36)).ownsRow (w1.heap.size + 1) 36 4 (.slice aL k cL) k vs)).alloc _) ⟨w2.heap.size + 1, 0, none⟩ 1 1 [.int .i64 3, .int .i64 0, .string ⟨#[]⟩, .slice (some ⟨w2.heap.size, 0, none⟩) 2 2] (by rfl) (by rfl) (cell_new4 _ _ _ _ _ _ (World.size_alloc _ _)) (by simp [Value.oneCell']) (by omega) (by unfold maxLen; omega) (by omega) (by simp; omega) (w2.heap.size + 1 + 1) (by simp) ?_; intro g c w3 hown hgrow hl hlt3; have s3 := BI.blk3 HI.out (HPR.out _ HB2).1 hgrow; have z3 : w3.cell? ⟨w1.heap.size, 3, none⟩ = some (.slice aL k cL) := (by simp [World.cell?, s3]); have f3 := frozen_of_heap s3 3; have HST := Lib.hid (BI.step HI.out HLK.out (HPR.out _ HB2).1 (HPR.out _ HB2).2 hown hgrow (World.size_alloc _ _) hl); have q3 : w3.heap[wr.heap.size]? = some (.cells #[.int .i64 f, .int .i64 n, .string ByteArray.empty] 32 (0, 0)) := (hgrow.block wr.heap.size (by rw [World.size_alloc, World.size_alloc]; have := HB2.lt; omega) (fun e => by have := (HI.out.own.lt _ e.symm).2; omega)).trans (((Below.heap_alloc _ _ _ (by rw [World.size_alloc]; have := HB2.lt; omega)).trans (Below.heap_alloc _ _ _ HB2.lt)).trans HB2.blk); have zS := And.intro (show w3.cell? ⟨wr.heap.size, 0, none⟩ = some (.int .i64 f) by simp [World.cell?, q3]) (show w3.cell? ⟨wr.heap.size, 1, none⟩ = some (.int .i64 n) by simp [World.cell?, q3]); clear hown hgrow hl s3 q3)
            refine hK.out _ _ ?_ (fun hq19 => ?_)
            · (try dsimp only) <;> (first | assumption | (apply BP.of4; assumption) | (apply BP.alo; assumption) | (refine ⟨?_, ?_⟩ <;> first | assumption | (apply BP.of4; assumption) | (apply BP.alo; assumption) | go_keep))
            clear hK K hq18
            try simp only [Act.put, List.setIfInBounds_toArray, List.set_cons_zero, List.set_cons_succ]
            refine wpAnyH_take (i := 12) (oi := { dst := some 32, op := Go.Op.fieldAddr 36 (Go.Operand.tmp 4) 3, type := 0, pos := "ref.go:73", after := #[{ on := 0, ground := Go.Ground.phase }, { on := 1, ground := Go.Ground.phase }, { on := 2, ground := Go.Ground.phase }, { on := 3, ground := Go.Ground.phase }, { on := 4, ground := Go.Ground.phase }, { on := 5, ground := Go.Ground.phase }, { on := 6, ground := Go.Ground.phase }, { on := 7, ground := Go.Ground.phase }, { on := 8, ground := Go.Ground.phase }, { on := 9, ground := Go.Ground.phase }, { on := 10, ground := Go.Ground.phase }, { on := 11, ground := Go.Ground.phase }], guard := none }) (v := ?_) rfl (by kernel_rfl) (by kernel_rfl) (by kernel_rfl) (fun _ _ _ h => h) (Or.inl ⟨by rfl, ?_⟩) (by assumption) ?_
            rotate_left
            · (intro w hSw; (try dsimp only at hSw); go_simp) <;> with_reducible rfl
            simp only [Act.put, List.setIfInBounds_toArray, List.set_cons_zero, List.set_cons_succ]
            refine wpAnyH_ready (rs := [13]) (by kernel_rfl) (by simp) ?_
            refine AllReadyH.cons (o := { dst := none, op := Go.Op.store 34 (Go.Operand.tmp 32) (Go.Operand.tmp 31), type := 0, pos := "ref.go:73", after := #[{ on := 12, ground := Go.Ground.data }, { on := 11, ground := Go.Ground.data }, { on := 11, ground := Go.Ground.chain }, { on := 0, ground := Go.Ground.phase }, { on := 1, ground := Go.Ground.phase }, { on := 2, ground := Go.Ground.phase }, { on := 3, ground := Go.Ground.phase }, { on := 4, ground := Go.Ground.phase }, { on := 5, ground := Go.Ground.phase }, { on := 6, ground := Go.Ground.phase }, { on := 7, ground := Go.Ground.phase }, { on := 8, ground := Go.Ground.phase }, { on := 9, ground := Go.Ground.phase }, { on := 10, ground := Go.Ground.phase }, { on := 11, ground := Go.Ground.phase }], guard := none }) rfl (fun K hK => ?_) AllReadyH.nil
            go_simp
            refine hK.out _ _ ?_ (fun hq20 => ?_)
            · (try dsimp only) <;> (first | assumption | (apply BP.of4; assumption) | (apply BP.alo; assumption) | (refine ⟨?_, ?_⟩ <;> first | assumption | (apply BP.of4; assumption) | (apply BP.alo; assumption) | go_keep))
            clear hK K hq19
            try simp only [Act.put, List.setIfInBounds_toArray, List.set_cons_zero, List.set_cons_succ]
            refine wpAnyH_done (by kernel_rfl) ?_ _
            refine NoPanic.normal ?_
            go_wp2
            go_roundw
            case rel => exact ⟨k + 1, _, _, by omega, by go_num, Lib.hid (by rw [HMT.out]; exact HST.out)⟩
            case measure => simp [intOf]; omega
          refine AllReadyH.cons (o := { dst := some 28, op := Go.Op.buildSlice 34 2 #[(0, Go.Operand.tmp 24), (1, Go.Operand.tmp 27)], type := 34, pos := "ref.go:73", after := #[{ on := 4, ground := Go.Ground.data }, { on := 7, ground := Go.Ground.data }], guard := none }) rfl (fun K hK => ?_) AllReadyH.nil
          go_simp
          refine hK.out _ _ ?_ (fun hq21 => ?_)
          · (try dsimp only) <;> (first | assumption | (apply BP.of4; assumption) | (apply BP.alo; assumption) | (refine ⟨?_, ?_⟩ <;> first | assumption | (apply BP.of4; assumption) | (apply BP.alo; assumption) | go_keep))
          clear hK K hq15
          try simp only [Act.put, List.setIfInBounds_toArray, List.set_cons_zero, List.set_cons_succ]
          refine wpAnyH_take (i := 9) (oi := { dst := some 29, op := Go.Op.build 36 #[(0, Go.Operand.const (Go.Value.int Go.IntKind.i64 3)), (3, Go.Operand.tmp 28)], type := 36, pos := "ref.go:73", after := #[{ on := 8, ground := Go.Ground.data }], guard := none }) (v := ?_) rfl (by kernel_rfl) (by kernel_rfl) (by kernel_rfl) (fun _ _ _ h => h) (Or.inl ⟨by rfl, ?_⟩) (by assumption) ?_
          rotate_left
          · (intro w hSw; (try dsimp only at hSw); go_simp) <;> with_reducible rfl
          simp only [Act.put, List.setIfInBounds_toArray, List.set_cons_zero, List.set_cons_succ]
          refine wpAnyH_ready (rs := [1, 10]) (by kernel_rfl) (by simp) ?_
          refine AllReadyH.cons (o := { dst := some 21, op := Go.Op.load 34 (Go.Operand.tmp 20), type := 34, pos := "ref.go:73", after := #[{ on := 0, ground := Go.Ground.data }], guard := none }) rfl (fun K hK => ?_) ?_
          · skip
            go_simp
            refine hK.out _ _ ?_ (fun hq22 => ?_)
            · (try dsimp only) <;> (first | assumption | (apply BP.of4; assumption) | (apply BP.alo; assumption) | (refine ⟨?_, ?_⟩ <;> first | assumption | (apply BP.of4; assumption) | (apply BP.alo; assumption) | go_keep))
            clear hK K hq21
            try simp only [Act.put, List.setIfInBounds_toArray, List.set_cons_zero, List.set_cons_succ]
            refine wpAnyH_ready (rs := [10]) (by kernel_rfl) (by simp) ?_
            refine AllReadyH.cons (o := { dst := some 30, op := Go.Op.buildSlice 34 1 #[(0, Go.Operand.tmp 29)], type := 34, pos := "ref.go:73", after := #[{ on := 9, ground := Go.Ground.data }], guard := none }) rfl (fun K hK => ?_) AllReadyH.nil
            go_simp
            refine hK.out _ _ ?_ (fun hq23 => ?_)
            · (try dsimp only) <;> (first | assumption | (apply BP.of4; assumption) | (apply BP.alo; assumption) | (refine ⟨?_, ?_⟩ <;> first | assumption | (apply BP.of4; assumption) | (apply BP.alo; assumption) | go_keep))
            clear hK K hq22
            try simp only [Act.put, List.setIfInBounds_toArray, List.set_cons_zero, List.set_cons_succ]
            refine wpAnyH_ready (rs := [11]) (by kernel_rfl) (by simp) ?_
            refine AllReadyH.cons (o := { dst := some 31, op := Go.Op.call { callee := Go.Callee.builtin Go.Builtin.append, args := #[Go.Operand.tmp 21, Go.Operand.tmp 30], argTypes := #[34, 34] }, type := 34, pos := "ref.go:73", after := #[{ on := 1, ground := Go.Ground.data }, { on := 10, ground := Go.Ground.data }, { on := 7, ground := Go.Ground.chain }], guard := none }) rfl (fun K hK => ?_) AllReadyH.nil
            (refine step_append_lies _ (by rfl) _ _ _ (by rfl) (w1.heap.size + 1) 36 i0 _ 4 56 Tryd.underlying34 hi hz0 hz1 hz2 rfl (by omega) (.slice aL k cL) k vs (by rfl) (((by have h9 := (HI.out.call (HPR.out _ HB2).1).own; rw [HLK.out] at h9; exact h9 : (w2.alloc (.cells #[.int .i64 1, .int .i64 f, .string ⟨#[]⟩, .slice none 0 0, .int .i64 1, .int .i64 n, .string ⟨#[]⟩, .slice none 0 0] 36)).ownsRow (w1.heap.size + 1) 36 4 (.slice aL k cL) k vs)).alloc _) ⟨w2.heap.size + 1, 0, none⟩ 1 1 [.int .i64 3, .int .i64 0, .string ⟨#[]⟩, .slice (some ⟨w2.heap.size, 0, none⟩) 2 2] (by rfl) (by rfl) (cell_new4 _ _ _ _ _ _ (World.size_alloc _ _)) (by simp [Value.oneCell']) (by omega) (by unfold maxLen; omega) (by omega) (by simp; omega) (w2.heap.size + 1 + 1) (by simp) ?_; intro g c w3 hown hgrow hl hlt3; have s3 := BI.blk3 HI.out (HPR.out _ HB2).1 hgrow; have z3 : w3.cell? ⟨w1.heap.size, 3, none⟩ = some (.slice aL k cL) := (by simp [World.cell?, s3]); have f3 := frozen_of_heap s3 3; have HST := Lib.hid (BI.step HI.out HLK.out (HPR.out _ HB2).1 (HPR.out _ HB2).2 hown hgrow (World.size_alloc _ _) hl); have q3 : w3.heap[wr.heap.size]? = some (.cells #[.int .i64 f, .int .i64 n, .string ByteArray.empty] 32 (0, 0)) := (hgrow.block wr.heap.size (by rw [World.size_alloc, World.size_alloc]; have := HB2.lt; omega) (fun e => by have := (HI.out.own.lt _ e.symm).2; omega)).trans (((Below.heap_alloc _ _ _ (by rw [World.size_alloc]; have := HB2.lt; omega)).trans (Below.heap_alloc _ _ _ HB2.lt)).trans HB2.blk); have zS := And.intro (show w3.cell? ⟨wr.heap.size, 0, none⟩ = some (.int .i64 f) by simp [World.cell?, q3]) (show w3.cell? ⟨wr.heap.size, 1, none⟩ = some (.int .i64 n) by simp [World.cell?, q3]); clear hown hgrow hl s3 q3)
            refine hK.out _ _ ?_ (fun hq24 => ?_)
            · (try dsimp only) <;> (first | assumption | (apply BP.of4; assumption) | (apply BP.alo; assumption) | (refine ⟨?_, ?_⟩ <;> first | assumption | (apply BP.of4; assumption) | (apply BP.alo; assumption) | go_keep))
            clear hK K hq23
            try simp only [Act.put, List.setIfInBounds_toArray, List.set_cons_zero, List.set_cons_succ]
            refine wpAnyH_take (i := 12) (oi := { dst := some 32, op := Go.Op.fieldAddr 36 (Go.Operand.tmp 4) 3, type := 0, pos := "ref.go:73", after := #[{ on := 0, ground := Go.Ground.phase }, { on := 1, ground := Go.Ground.phase }, { on := 2, ground := Go.Ground.phase }, { on := 3, ground := Go.Ground.phase }, { on := 4, ground := Go.Ground.phase }, { on := 5, ground := Go.Ground.phase }, { on := 6, ground := Go.Ground.phase }, { on := 7, ground := Go.Ground.phase }, { on := 8, ground := Go.Ground.phase }, { on := 9, ground := Go.Ground.phase }, { on := 10, ground := Go.Ground.phase }, { on := 11, ground := Go.Ground.phase }], guard := none }) (v := ?_) rfl (by kernel_rfl) (by kernel_rfl) (by kernel_rfl) (fun _ _ _ h => h) (Or.inl ⟨by rfl, ?_⟩) (by assumption) ?_
            rotate_left
            · (intro w hSw; (try dsimp only at hSw); go_simp) <;> with_reducible rfl
            simp only [Act.put, List.setIfInBounds_toArray, List.set_cons_zero, List.set_cons_succ]
            refine wpAnyH_ready (rs := [13]) (by kernel_rfl) (by simp) ?_
            refine AllReadyH.cons (o := { dst := none, op := Go.Op.store 34 (Go.Operand.tmp 32) (Go.Operand.tmp 31), type := 0, pos := "ref.go:73", after := #[{ on := 12, ground := Go.Ground.data }, { on := 11, ground := Go.Ground.data }, { on := 11, ground := Go.Ground.chain }, { on := 0, ground := Go.Ground.phase }, { on := 1, ground := Go.Ground.phase }, { on := 2, ground := Go.Ground.phase }, { on := 3, ground := Go.Ground.phase }, { on := 4, ground := Go.Ground.phase }, { on := 5, ground := Go.Ground.phase }, { on := 6, ground := Go.Ground.phase }, { on := 7, ground := Go.Ground.phase }, { on := 8, ground := Go.Ground.phase }, { on := 9, ground := Go.Ground.phase }, { on := 10, ground := Go.Ground.phase }, { on := 11, ground := Go.Ground.phase }], guard := none }) rfl (fun K hK => ?_) AllReadyH.nil
            go_simp
            refine hK.out _ _ ?_ (fun hq25 => ?_)
            · (try dsimp only) <;> (first | assumption | (apply BP.of4; assumption) | (apply BP.alo; assumption) | (refine ⟨?_, ?_⟩ <;> first | assumption | (apply BP.of4; assumption) | (apply BP.alo; assumption) | go_keep))
            clear hK K hq24
            try simp only [Act.put, List.setIfInBounds_toArray, List.set_cons_zero, List.set_cons_succ]
            refine wpAnyH_done (by kernel_rfl) ?_ _
            refine NoPanic.normal ?_
            go_wp2
            go_roundw
            case rel => exact ⟨k + 1, _, _, by omega, by go_num, Lib.hid (by rw [HMT.out]; exact HST.out)⟩
            case measure => simp [intOf]; omega
          refine AllReadyH.cons (o := { dst := some 30, op := Go.Op.buildSlice 34 1 #[(0, Go.Operand.tmp 29)], type := 34, pos := "ref.go:73", after := #[{ on := 9, ground := Go.Ground.data }], guard := none }) rfl (fun K hK => ?_) AllReadyH.nil
          go_simp
          refine hK.out _ _ ?_ (fun hq26 => ?_)
          · (try dsimp only) <;> (first | assumption | (apply BP.of4; assumption) | (apply BP.alo; assumption) | (refine ⟨?_, ?_⟩ <;> first | assumption | (apply BP.of4; assumption) | (apply BP.alo; assumption) | go_keep))
          clear hK K hq21
          try simp only [Act.put, List.setIfInBounds_toArray, List.set_cons_zero, List.set_cons_succ]
          refine wpAnyH_ready (rs := [1]) (by kernel_rfl) (by simp) ?_
          refine AllReadyH.cons (o := { dst := some 21, op := Go.Op.load 34 (Go.Operand.tmp 20), type := 34, pos := "ref.go:73", after := #[{ on := 0, ground := Go.Ground.data }], guard := none }) rfl (fun K hK => ?_) AllReadyH.nil
          go_simp
          refine hK.out _ _ ?_ (fun hq27 => ?_)
          · (try dsimp only) <;> (first | assumption | (apply BP.of4; assumption) | (apply BP.alo; assumption) | (refine ⟨?_, ?_⟩ <;> first | assumption | (apply BP.of4; assumption) | (apply BP.alo; assumption) | go_keep))
          clear hK K hq26
          try simp only [Act.put, List.setIfInBounds_toArray, List.set_cons_zero, List.set_cons_succ]
          refine wpAnyH_ready (rs := [11]) (by kernel_rfl) (by simp) ?_
          refine AllReadyH.cons (o := { dst := some 31, op := Go.Op.call { callee := Go.Callee.builtin Go.Builtin.append, args := #[Go.Operand.tmp 21, Go.Operand.tmp 30], argTypes := #[34, 34] }, type := 34, pos := "ref.go:73", after := #[{ on := 1, ground := Go.Ground.data }, { on := 10, ground := Go.Ground.data }, { on := 7, ground := Go.Ground.chain }], guard := none }) rfl (fun K hK => ?_) AllReadyH.nil
          (refine step_append_lies _ (by rfl) _ _ _ (by rfl) (w1.heap.size + 1) 36 i0 _ 4 56 Tryd.underlying34 hi hz0 hz1 hz2 rfl (by omega) (.slice aL k cL) k vs (by rfl) (((by have h9 := (HI.out.call (HPR.out _ HB2).1).own; rw [HLK.out] at h9; exact h9 : (w2.alloc (.cells #[.int .i64 1, .int .i64 f, .string ⟨#[]⟩, .slice none 0 0, .int .i64 1, .int .i64 n, .string ⟨#[]⟩, .slice none 0 0] 36)).ownsRow (w1.heap.size + 1) 36 4 (.slice aL k cL) k vs)).alloc _) ⟨w2.heap.size + 1, 0, none⟩ 1 1 [.int .i64 3, .int .i64 0, .string ⟨#[]⟩, .slice (some ⟨w2.heap.size, 0, none⟩) 2 2] (by rfl) (by rfl) (cell_new4 _ _ _ _ _ _ (World.size_alloc _ _)) (by simp [Value.oneCell']) (by omega) (by unfold maxLen; omega) (by omega) (by simp; omega) (w2.heap.size + 1 + 1) (by simp) ?_; intro g c w3 hown hgrow hl hlt3; have s3 := BI.blk3 HI.out (HPR.out _ HB2).1 hgrow; have z3 : w3.cell? ⟨w1.heap.size, 3, none⟩ = some (.slice aL k cL) := (by simp [World.cell?, s3]); have f3 := frozen_of_heap s3 3; have HST := Lib.hid (BI.step HI.out HLK.out (HPR.out _ HB2).1 (HPR.out _ HB2).2 hown hgrow (World.size_alloc _ _) hl); have q3 : w3.heap[wr.heap.size]? = some (.cells #[.int .i64 f, .int .i64 n, .string ByteArray.empty] 32 (0, 0)) := (hgrow.block wr.heap.size (by rw [World.size_alloc, World.size_alloc]; have := HB2.lt; omega) (fun e => by have := (HI.out.own.lt _ e.symm).2; omega)).trans (((Below.heap_alloc _ _ _ (by rw [World.size_alloc]; have := HB2.lt; omega)).trans (Below.heap_alloc _ _ _ HB2.lt)).trans HB2.blk); have zS := And.intro (show w3.cell? ⟨wr.heap.size, 0, none⟩ = some (.int .i64 f) by simp [World.cell?, q3]) (show w3.cell? ⟨wr.heap.size, 1, none⟩ = some (.int .i64 n) by simp [World.cell?, q3]); clear hown hgrow hl s3 q3)
          refine hK.out _ _ ?_ (fun hq28 => ?_)
          · (try dsimp only) <;> (first | assumption | (apply BP.of4; assumption) | (apply BP.alo; assumption) | (refine ⟨?_, ?_⟩ <;> first | assumption | (apply BP.of4; assumption) | (apply BP.alo; assumption) | go_keep))
          clear hK K hq27
          try simp only [Act.put, List.setIfInBounds_toArray, List.set_cons_zero, List.set_cons_succ]
          refine wpAnyH_take (i := 12) (oi := { dst := some 32, op := Go.Op.fieldAddr 36 (Go.Operand.tmp 4) 3, type := 0, pos := "ref.go:73", after := #[{ on := 0, ground := Go.Ground.phase }, { on := 1, ground := Go.Ground.phase }, { on := 2, ground := Go.Ground.phase }, { on := 3, ground := Go.Ground.phase }, { on := 4, ground := Go.Ground.phase }, { on := 5, ground := Go.Ground.phase }, { on := 6, ground := Go.Ground.phase }, { on := 7, ground := Go.Ground.phase }, { on := 8, ground := Go.Ground.phase }, { on := 9, ground := Go.Ground.phase }, { on := 10, ground := Go.Ground.phase }, { on := 11, ground := Go.Ground.phase }], guard := none }) (v := ?_) rfl (by kernel_rfl) (by kernel_rfl) (by kernel_rfl) (fun _ _ _ h => h) (Or.inl ⟨by rfl, ?_⟩) (by assumption) ?_
          rotate_left
          · (intro w hSw; (try dsimp only at hSw); go_simp) <;> with_reducible rfl
          simp only [Act.put, List.setIfInBounds_toArray, List.set_cons_zero, List.set_cons_succ]
          refine wpAnyH_ready (rs := [13]) (by kernel_rfl) (by simp) ?_
          refine AllReadyH.cons (o := { dst := none, op := Go.Op.store 34 (Go.Operand.tmp 32) (Go.Operand.tmp 31), type := 0, pos := "ref.go:73", after := #[{ on := 12, ground := Go.Ground.data }, { on := 11, ground := Go.Ground.data }, { on := 11, ground := Go.Ground.chain }, { on := 0, ground := Go.Ground.phase }, { on := 1, ground := Go.Ground.phase }, { on := 2, ground := Go.Ground.phase }, { on := 3, ground := Go.Ground.phase }, { on := 4, ground := Go.Ground.phase }, { on := 5, ground := Go.Ground.phase }, { on := 6, ground := Go.Ground.phase }, { on := 7, ground := Go.Ground.phase }, { on := 8, ground := Go.Ground.phase }, { on := 9, ground := Go.Ground.phase }, { on := 10, ground := Go.Ground.phase }, { on := 11, ground := Go.Ground.phase }], guard := none }) rfl (fun K hK => ?_) AllReadyH.nil
          go_simp
          refine hK.out _ _ ?_ (fun hq29 => ?_)
          · (try dsimp only) <;> (first | assumption | (apply BP.of4; assumption) | (apply BP.alo; assumption) | (refine ⟨?_, ?_⟩ <;> first | assumption | (apply BP.of4; assumption) | (apply BP.alo; assumption) | go_keep))
          clear hK K hq28
          try simp only [Act.put, List.setIfInBounds_toArray, List.set_cons_zero, List.set_cons_succ]
          refine wpAnyH_done (by kernel_rfl) ?_ _
          refine NoPanic.normal ?_
          go_wp2
          go_roundw
          case rel => exact ⟨k + 1, _, _, by omega, by go_num, Lib.hid (by rw [HMT.out]; exact HST.out)⟩
          case measure => simp [intOf]; omega
      · have hk2 : xs.take k = xs := List.take_of_length_le (by omega)
        have hB := HI.out
        rw [hk2] at hB
        obtain ⟨ok1, ok2, ok3⟩ := HTO.out
        have hbk := hB.blk
        obtain ⟨aL, cL, hL⟩ := hB.slice
        rw [List.length_map] at hL
        subst hL
        have hBt := hB.tree
        rw [show Tree.list (xs.map opT) = treeD xs from rfl] at hBt
        have HP := Lib.hid (rput_any hBt ok1 ok3 HN.out HEN.out (HTB.out.below hB.below))
        have HBW := Lib.hid hB.below
        clear hBt
        have c0 : wr.cell? ⟨w1.heap.size, 0, none⟩ = some (.int .i64 3) := by simp [World.cell?, hbk]
        have c1 : wr.cell? ⟨w1.heap.size, 1, none⟩ = some (.int .i64 0) := by simp [World.cell?, hbk]
        have c2 : wr.cell? ⟨w1.heap.size, 2, none⟩ = some (.string ⟨#[]⟩) := by simp [World.cell?, hbk]
        have c3 : wr.cell? ⟨w1.heap.size, 3, none⟩ = some (.slice aL xs.length cL) := by simp [World.cell?, hbk]
        clear hB hbk hk2 ok1 ok2 ok3
        go_wp2_with fail
        refine HP.out.mono ?_
        rintro e w5 ⟨rfl, hb5⟩
        have HB5 := Lib.hid (below_trans HBW.out hb5)
        clear hb5
        go_wp2
        go_ret2
        exact ⟨by rw [HR.out]; rfl, HB5.out⟩
end Go.Proofs.YtmagcikaepobiaaDoor.Dl
