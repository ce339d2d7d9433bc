/- The document's reader reads what the program's reads. -/
import Derived.Test.YtdkkkeoicekdgaaGreatDoorZEg15

section

namespace Go.Proofs.YtdkkkeoicekdgaaGreatDoor
def endO (l : List UInt8) (o : Nat) (T : St) : St := if o = 0 then endF l T else T
theorem z48 {l : List UInt8} {o : Nat} {T : St} (h : T.2 ≠ 0) : endO l o T = T := by
 unfold endO endF
 split
 ·split
  ·exact z1i h
  ·rfl
 ·rfl
def clean (l : List UInt8) (acc : List Pt) (S : St) : Prop := (∀ x, acc.getLast? = some x -> x.k ≠ 1) ∨ Stop l S
theorem zd4 (l : List UInt8) (S : St) : wordF l [] S = S := by rw [wordF]
theorem z3d {l : List UInt8} {S : St} {c : UInt8} (h : nowF l S = some c) : wordF l [c] S = (S.1 + 1, 0) := by rw [z5r h, zd4]
theorem zhd {l : List UInt8} {S : St} (h : S.2 ≠ 0) : dKey l S = ([], S) := by
 unfold dKey dName
 rw [z11 h, if_neg (by simp)]
 have hn : isNow l isLet S = false := by unfold isNow; rw [z11 h]
 rw [hn];simp only [Bool.false_eq_true, if_false];rw [z1i h, z59 h]
theorem zaq {l : List UInt8} {S : St} (h : nowF l S ≠ some 44) : nextF l [44, 32, 115] S = false := by
 cases hn : nextF l [44, 32, 115] S with
 | false => rfl
 | true => exact absurd (z1t.1 (next_in hn)) h
theorem zcg {l : List UInt8} {S : St} (h : nextF l [44, 32, 115] S = true) : nowF l (wordF l [44, 32] S) = some 115 := by
 unfold nextF at h
 simp only [Bool.and_eq_true, decide_eq_true_eq] at h;obtain ⟨h0, hp⟩ := h;obtain ⟨r, hr⟩ := List.isPrefixOf_iff_prefix.1 hp
 have e0 : l[S.1]? = some 44 := by
  have : (l.drop S.1)[0]? = some 44 := by rw [<- hr]; rfl
  simpa using this
 have e1 : l[S.1 + 1]? = some 32 := by
  have : (l.drop S.1)[1]? = some 32 := by rw [<- hr]; rfl
  simpa using this
 have e2 : l[S.1 + 1 + 1]? = some 115 := by
  have : (l.drop S.1)[2]? = some 115 := by rw [<- hr]; rfl
  rw [List.getElem?_drop] at this;exact this
 rw [z5r (z2x h0 e0), z5r (z2x (S := (S.1 + 1, 0)) rfl e1), zd4];exact z2x rfl e2
theorem zfg {l : List UInt8} {S : St} (h : nowF l (wordF l [44, 32] S) = some 115) : nextF l [44, 32, 115] S = true := by
 obtain ⟨h0, h1⟩ := z0b h;have hl : S.2 = 0 := (z06 l [44, 32] S).live h0;refine zap hl ?_;have : wordF l [44, 32, 115] S = wordF l [115] (wordF l [44, 32] S) := z6f l [44, 32] [115] S;rw [this, z3d h]
theorem hole_doc {l : List UInt8} {h : Bool} {S : St} (hn : nowF l S = some 123) {cd : Bool -> St -> List Cs × St} {cp : Bool -> List UInt8 × St -> List Cs × St}
  (hs : ∀ h T, T.2 ≠ 0 -> (cd h T).2 = T) (hc : ∀ h T, Wf l T -> (T.2 = 0 -> S.1 + 1 <= T.1) -> (cd h T).2 = (cp h (oneF l [32] T)).2 /\ ((cd h T).2.2 = 0 -> (cd h T).1 = (cp h (oneF l [32] T)).1)) :
  (z1g l cd h S).2 = (holeG l cp h S).2 /\ ((z1g l cd h S).2.2 = 0 -> (z1g l cd h S).1 = (holeG l cp h S).1) := by
 have hg := zds l (S.1 + 1, 0);have n : Wf l (S.1 + 1, 0) := z0u hn;have g := z3c l nameB (S.1 + 1, 0)
 unfold z1g holeG
 simp only;rw [z3d hn]
 generalize dName l (S.1 + 1, 0) = D at *
 generalize longF l nameB (S.1 + 1, 0) = P at *
 rcases hg with ⟨g1, g2⟩ | ⟨g1, g2, d, g3, g4⟩
 ·have i : Wf l P.2 := g.2.1 n
  have j := g.1;simp only at j;obtain ⟨d1, D2⟩ := D;obtain ⟨p1, N⟩ := P;simp only at g1 g2 i j ⊢;subst g1
  by_cases h125 : nowF l D2 = some 125
  ·rw [if_pos h125, zaq (by rw [h125]; simp), z2h (by rw [h125]; simp)]
   simp only [Bool.false_eq_true, if_false];rw [z3d h125, g2 (z0b h125).1];exact ⟨rfl, fun _ => rfl⟩
  ·rw [if_neg h125]
   have hA : Wf l (wordF l [44, 32] D2) := (z06 l [44, 32] D2).2.1 i;have q := (z06 l [44, 32] D2).1
   by_cases h3 : nowF l (wordF l [44, 32] D2) = some 115
   ·rw [if_pos h3, zfg h3]
    simp only [if_true];have b : wordF l seW D2 = wordF l seT (wordF l [44, 32] D2) := z6f l [44, 32] seT D2;have c := z06 l seT (wordF l [44, 32] D2);obtain ⟨k1, k2⟩ := hc h (wordF l seT (wordF l [44, 32] D2)) (c.2.1 hA) (fun _ => by have := c.1; omega);rw [b];refine ⟨k1, fun hl => ?_⟩;have f := k2 hl;have o : (wordF l [44, 32] D2).2 = 0 := (z0b h3).1;rw [f, g2 ((z06 l [44, 32] D2).live o)]
   ·have p : nextF l [44, 32, 115] D2 = false := by
     cases hx : nextF l [44, 32, 115] D2 with
     | false => rfl
     | true => exact absurd (zcg hx) h3
    rw [if_neg h3, p];simp only [Bool.false_eq_true, if_false]
    by_cases h44 : nowF l D2 = some 44
    ·rw [z1t.2 h44]
     simp only [if_true];have b : wordF l plW D2 = wordF l plT (wordF l [44, 32] D2) := z6f l [44, 32] plT D2;have c := z06 l plT (wordF l [44, 32] D2);obtain ⟨k1, k2⟩ := hc true (wordF l plT (wordF l [44, 32] D2)) (c.2.1 hA) (fun _ => by have := c.1; omega);rw [b];refine ⟨k1, fun hl => ?_⟩;have f := k2 hl;rw [f, g2 (z0b h44).1]
    ·rw [z2h h44]
     simp only [Bool.false_eq_true, if_false];have a := z0t l D2;rw [z27 h44, z0k l _ a, z27 h125];rw [hs true _ a];exact ⟨rfl, fun e => absurd e a⟩
 ·have a := z0t l P.2
  have hx : nowF l P.2 = some d := z2x g1 g3
  have k : nowF l P.2 ≠ some 44 := fun e => by rw [hx] at e; obtain rfl := Option.some.inj e; exact absurd g4 (by decide)
  have m : nowF l P.2 ≠ some 125 := fun e => by rw [hx] at e; obtain rfl := Option.some.inj e; exact absurd g4 (by decide)
  rw [g2, z11 a, z0k l _ a, z11 a, z0k l _ a, zaq k, z2h k, z27 m];simp only [Bool.false_eq_true, if_false, reduceCtorEq];rw [z0k l plT a, hs true _ a];exact ⟨rfl, fun e => absurd e a⟩
theorem parts_on {l : List UInt8} {f : Nat} {h : Bool} {o : Nat} {acc : List Pt} {S : St} {c : UInt8} (hn : nowF l S = some c) (hc : c ≠ 125) :
  z0c l (f + 1) h o acc S = z0c l f h o (acc ++ [(partG l (fun h b => z09 l f h o [] b) h S).1]) (partG l (fun h b => z09 l f h o [] b) h S).2 := by
 rw [z0c, if_pos ⟨(z0b hn).1, z0z (z0b hn).2, z2h (by rw [hn]; intro e; exact hc (Option.some.inj e))⟩]
theorem zai {l : List UInt8} {f : Nat} {h : Bool} {o : Nat} {acc : List Pt} {S : St} (hn : nowF l S = none ∨ nowF l S = some 125) : z0c l f h o acc S = (acc, S) := by
 cases f with
 | zero => rw [z0c]
 | succ f =>
  rw [z0c, if_neg];rintro ⟨h0, h1, h2⟩
  rcases hn with hn | hn
  ·rw [z2x h0 (List.getElem?_eq_getElem h1)] at hn; cases hn
  ·rw [z1t.2 hn] at h2; cases h2
theorem zav (acc : List Pt) (y : Pt) (h : y.k ≠ 1) : ∀ x, (acc ++ [y]).getLast? = some x -> x.k ≠ 1 := fun x hx => by
 rw [List.getLast?_concat] at hx;obtain rfl := Option.some.inj hx;exact h
theorem one_same {l : List UInt8} {E : St} (h : nowF l E ≠ some 125) : oneF l [32, 125] E = oneF l [32] E := by
 by_cases h0 : E.2 = 0
 ·unfold oneF
  rw [if_pos h0, if_pos h0]
  cases hx : l[E.1]? with
  | none => rfl
  | some c =>
   have hc : c ≠ 125 := fun e => h (by rw [z2x h0 hx, e])
   simp [hc]
 ·rw [z3z h0, z3z h0]
theorem hole_k {l : List UInt8} {cp : Bool -> List UInt8 × St -> List Cs × St} {h : Bool} {S : St} : (holeG l cp h S).1.k ≠ 1 := by
 unfold holeG
 simp only
 split
 ·simp [Pt.k]
 ·split <;> simp [Pt.k]
theorem cases_on {l : List UInt8} {f o : Nat} {h : Bool} {acc : List Cs} {S : St} : z09 l (f + 1) h o acc (([32] : List UInt8), S) = z09 l f h o (acc ++ [(z16 l (fun S => z0c l f h (o + 1) [] S) o S).1]) (oneF l [32, 125] (z16 l (fun S => z0c l f h (o + 1) [] S) o S).2) := by
 rw [z09, if_pos rfl]
theorem doc_both (l : List UInt8) : ∀ n,
  (∀ (o : Nat) (h : Bool) (acc : List Pt) (S : St) (g f : Nat), Wf l S -> (o <= 32 ∨ S.2 ≠ 0) -> (S.2 = 0 -> l.length - S.1 <= n /\ l.length - S.1 < g /\ l.length - S.1 < f) -> clean l acc S ->
   (z05 l f o h acc S).2 = endO l o (z0c l g h o acc S).2 /\ ((z05 l f o h acc S).2.2 = 0 -> (z05 l f o h acc S).1 = (z0c l g h o acc S).1)) /\
  (∀ (o : Nat) (h : Bool) (acc : List Cs) (S : St) (g f : Nat), Wf l S -> o <= 32 -> (S.2 = 0 -> l.length - S.1 <= n /\ l.length - S.1 < g /\ l.length - S.1 < f) ->
   (z0f l f o h acc S).2 = (z09 l g h o acc (oneF l [32] S)).2 /\ ((z0f l f o h acc S).2.2 = 0 -> (z0f l f o h acc S).1 = (z09 l g h o acc (oneF l [32] S)).1)) := by
 intro n
 induction n using Nat.strongRecOn with
 | _ n ih =>
 refine ⟨fun o h acc S g f hS ho hb hcl => ?_, fun o h acc S g f hS ho hb => ?_⟩
 ·cases hn : nowF l S with
  | none =>
   rw [zai (.inl hn)]
   have hD : z05 l f o h acc S = (acc, S) := by
    cases f with
    | zero => rw [z05]
    | succ f => rw [z05, hn]
   rw [hD];refine ⟨?_, fun _ => rfl⟩
   by_cases h0 : S.2 = 0
   ·unfold endO endF
    split
    ·rw [if_neg]
     intro p
     rw [z2x h0 (List.getElem?_eq_getElem p)] at hn; cases hn
    ·rfl
   ·exact (z48 h0).symm
  | some c =>
   obtain ⟨h0, hx⟩ := z0b hn;have p := z0z hx;obtain ⟨b1, b2, b3⟩ := hb h0
   have m : o <= 32 := by
    rcases ho with ho | ho
    ·exact ho
    ·exact absurd h0 ho
   obtain ⟨g', rfl⟩ : ∃ g', g = g' + 1 := ⟨g - 1, by omega⟩;obtain ⟨f', rfl⟩ : ∃ f', f = f' + 1 := ⟨f - 1, by omega⟩
   have i : n - 1 < n := by omega
   by_cases h125 : c = 125
   ·subst h125
    rw [zai (.inr hn)]
    by_cases hpos : 0 < o
    ·have hD : z05 l (f' + 1) o h acc S = (acc, S) := by rw [z05, hn]; simp only; rw [if_pos ⟨trivial, hpos⟩]
     rw [hD];exact ⟨by unfold endO; rw [if_neg (by omega)], fun _ => rfl⟩
    ·have hD : z05 l (f' + 1) o h acc S = (acc, failF l S) := by rw [z05, hn]; simp only; rw [if_neg (fun e => hpos e.2), if_pos (.inl trivial)]
     rw [hD];exact ⟨by unfold endO endF; rw [if_pos (by omega), if_pos p], fun e => absurd e (z0t l S)⟩
   rw [parts_on hn h125]
   by_cases h35 : c = 35
   ·subst h35
    have hp : partG l (fun h b => z09 l g' h o [] b) h S = (.mk 3 (ba []) (ba []) [], wordF l [35] (if h then S else failF l S)) := by
     unfold partG; rw [if_neg (by rw [z2h (by rw [hn]; simp)]; simp), if_pos (z1t.2 hn)]
    rw [hp]
    cases h with
    | false =>
     have hD : z05 l (f' + 1) o false acc S = (acc, failF l S) := by rw [z05, hn]; simp only; rw [if_neg (fun e => absurd e.1 (by decide)), if_pos (.inr ⟨trivial, trivial⟩)]
     rw [hD];have a := z0t l S;simp only [Bool.false_eq_true, if_false];rw [z0k l _ a, z2w a];exact ⟨(z48 a).symm, fun e => absurd e a⟩
    | true =>
     have hD : z05 l (f' + 1) o true acc S = z05 l f' o true (acc ++ [.mk 3 (ba []) (ba []) []]) (S.1 + 1, 0) := by
      rw [z05, hn]; simp only
      rw [if_neg (fun e => absurd e.1 (by decide)), if_neg (fun e => by rcases e with e | e; exact absurd e (by decide); cases e.2), if_neg (by decide), if_pos trivial]
     rw [hD];simp only [if_true];rw [z3d hn];exact (ih (n - 1) i).1 o true _ (S.1 + 1, 0) g' f' (z0u hn) (.inl m) (fun _ => by simp only; omega) (.inl (zav _ _ (by simp [Pt.k])))
   by_cases h123 : c = 123
   ·subst h123
    have hp : partG l (fun h b => z09 l g' h o [] b) h S = holeG l (fun h b => z09 l g' h o [] b) h S := by unfold partG; rw [if_pos (z1t.2 hn)]
    have hD : z05 l (f' + 1) o h acc S = z05 l f' o h (acc ++ [(z1g l (fun h S => z0f l f' o h [] S) h S).1]) (z1g l (fun h S => z0f l f' o h [] S) h S).2 := by
     rw [z05, hn]; simp only
     rw [if_neg (fun e => absurd e.1 (by decide)), if_neg (fun e => by rcases e with e | e; exact absurd e (by decide); exact absurd e.1 (by decide)), if_pos trivial]
    have hd := hole_doc (h := h) hn (cd := fun h S => z0f l f' o h [] S) (cp := fun h b => z09 l g' h o [] b) (fun h T hT => by rw [z2a hT])
     (fun h T hT j => (ih (n - 1) i).2 o h [] T g' f' hT m (fun e => by have := j e; omega))
    have j := zhs (l := l) (cf := fun h b => z09 l g' h o [] b) (fun h b => z3n _ _ _ _ _ _) h S;have q := z90 (l := l) (cf := fun h b => z09 l g' h o [] b) (fun h b => z3n _ _ _ _ _ _) (h := h) h0 p (z2h (by rw [hn]; simp));have hk := hole_k (l := l) (cp := fun h b => z09 l g' h o [] b) (h := h) (S := S);rw [hp] at q ⊢;rw [hD];have C := j.2.1 hS
    generalize z1g l (fun h S => z0f l f' o h [] S) h S = rd at *
    generalize holeG l (fun h b => z09 l g' h o [] b) h S = rp at *
    obtain ⟨xd, Td⟩ := rd;obtain ⟨xp, T⟩ := rp;simp only at hd q C hk ⊢;obtain ⟨e1, e2⟩ := hd;subst e1
    by_cases hl : Td.2 = 0
    ·rw [e2 hl]
     have hT := q.resolve_left (fun e => e hl);exact (ih (n - 1) i).1 o h _ Td g' f' C (.inl m) (fun _ => by omega) (.inl (zav _ _ hk))
    ·rw [z49 hl, z2w hl]
     exact ⟨(z48 hl).symm, fun e => absurd e hl⟩
   have hp : partG l (fun h b => z09 l g' h o [] b) h S = (.mk 1 (ba (textL l l.length [] S).1) (ba []) [], (textL l l.length [] S).2) := by
    unfold partG
    rw [if_neg (by rw [z2h (by rw [hn]; intro e; exact h123 (Option.some.inj e))]; simp), if_neg (by rw [z2h (by rw [hn]; intro e; exact h35 (Option.some.inj e))]; simp)]
   rw [hp]
   have s : ∀ x, acc.getLast? = some x -> x.k ≠ 1 := by
    rcases hcl with hcl | hcl
    ·exact hcl
    ·rcases hcl h0 c hx with e | e | e
     ·exact absurd e h123
     ·exact absurd e h125
     ·exact absurd e h35
   have hD : z05 l (f' + 1) o h acc S = if c = 39 then
     (match nowF l (S.1 + 1, 0) with
     | some d => if isSp d then z05 l f' o h (acc ++ [tx [d]]) (if d = 39 then (S.1 + 2, 0) else wordF l [39] (S.1 + 2, 0)) else (acc, failF l (S.1 + 1, 0))
     | none => (acc, failF l (S.1 + 1, 0)))
    else z05 l f' o h (acc ++ [tx [c]]) (S.1 + 1, 0) := by
    rw [z05, hn];simp only;rw [if_neg (fun e => h125 e.1), if_neg (fun e => by rcases e with e | e; exact h125 e; exact h35 e.1), if_neg h123, if_neg h35, zd2 s]
    by_cases hq : c = 39
    ·rw [if_pos hq, if_pos hq]
     cases nowF l (S.1 + 1, 0) with
     | none => rfl
     | some d => simp only; rw [zd2 s]
    ·rw [if_neg hq, if_neg hq]
   obtain ⟨L', I⟩ : ∃ L', l.length = L' + 1 := ⟨l.length - 1, by omega⟩
   have hT : textL l l.length [] S = if c = 39 then textL l L' ([] ++ (quotF l S).1) (quotF l S).2 else textL l L' ([] ++ [c]) (S.1 + 1, 0) := by
    rw [I, z9z hn, if_neg (fun e => by rcases e with e | e | e; exact h123 e; exact h125 e; exact h35 e)]
   rw [hD, hT];clear hD hT hp
   have u : ∀ (t : List UInt8) (Q : St), Wf l Q -> S.1 + 1 <= Q.1 ->
     (z05 l f' o h (acc ++ [tx t]) Q).2 = endO l o (z0c l g' h o (acc ++ [.mk 1 (ba (textL l L' t Q).1) (ba []) []]) (textL l L' t Q).2).2 /\
     ((z05 l f' o h (acc ++ [tx t]) Q).2.2 = 0 -> (z05 l f' o h (acc ++ [tx t]) Q).1 = (z0c l g' h o (acc ++ [.mk 1 (ba (textL l L' t Q).1) (ba []) []]) (textL l L' t Q).2).1) := by
    intro t Q hQ j;have af := hQ.1;obtain ⟨r1, r2, r3⟩ := z6j o h acc L' t Q f' hQ (fun _ => by omega) (fun _ => by omega)
    rcases r3 with ⟨r3, r4⟩ | ⟨r3, r4, f2, r5, r6⟩
    ·rw [z2w r3, r4]
     exact ⟨(z48 r3).symm, fun e => absurd e r3⟩
    ·rw [r6]
     exact (ih (n - 1) i).1 o h _ _ g' f2 r1 (.inl m) (fun _ => by omega) (.inr r4)
   by_cases hq : c = 39
   ·subst hq
    rw [if_pos rfl, if_pos rfl, zgh hn];have a := z0t l (S.1 + 1, 0)
    have y : (failF l (S.1 + 1, 0)) = endO l o (z0c l g' h o (acc ++ [.mk 1 (ba (textL l L' ([] ++ []) (failF l (S.1 + 1, 0))).1) (ba []) []]) (textL l L' ([] ++ []) (failF l (S.1 + 1, 0))).2).2 := by
     rw [z57 (z11 a), z2w a]; exact (z48 a).symm
    cases hd : nowF l (S.1 + 1, 0) with
    | none =>
     simp only;exact ⟨y, fun e => absurd e a⟩
    | some d =>
     simp only
     by_cases hsp : isSp d
     ·rw [if_pos hsp, if_pos hsp]
      obtain ⟨hw, j⟩ := zhp hd;exact u [d] _ hw (by omega)
     ·rw [if_neg hsp, if_neg hsp]
      exact ⟨y, fun e => absurd e a⟩
   ·rw [if_neg hq, if_neg hq]
    exact u [c] (S.1 + 1, 0) (z0u hn) (Nat.le_refl _)
 ·by_cases h0 : S.2 = 0
  ·obtain ⟨b1, b2, b3⟩ := hb h0
   obtain ⟨g', rfl⟩ : ∃ g', g = g' + 1 := ⟨g - 1, by omega⟩;obtain ⟨f', rfl⟩ : ∃ f', f = f' + 1 := ⟨f - 1, by omega⟩
   by_cases hsp : nowF l S = some 32
   ·have p := z0z (z0b hsp).2
    have i : n - 1 < n := by omega
    rw [zgs (z1t.2 hsp), z0f, if_pos h0, cases_on];simp only;rw [z3d hsp];have D := key_doc l (S.1 + 1, 0);have F := (zay l (S.1 + 1, 0)).trans (z06 l [32] _);have J := D.word (c := 32) (r := []) (by decide);have L : Wf l (wordF l [32] (keyF l (S.1 + 1, 0)).2) := F.2.1 (z0u hsp);have M := F.1
    have G : (wordF l [32] (keyF l (S.1 + 1, 0)).2).2 = 0 -> (dKey l (S.1 + 1, 0)).1 = (keyF l (S.1 + 1, 0)).1 := fun e => (D.val e (by decide)).1
    unfold z16
    simp only;rw [J]
    generalize wordF l [32] (keyF l (S.1 + 1, 0)).2 = R at *
    generalize (keyF l (S.1 + 1, 0)).1 = kp at *
    generalize (dKey l (S.1 + 1, 0)).1 = kd at *
    simp only at M
    by_cases hdeep : nowF l R = some 123 /\ 32 <= o
    ·rw [if_pos hdeep]
     have hX : deepF l o R = (R.1, 12) := by unfold deepF; rw [if_pos ⟨z1t.2 hdeep.1, by omega⟩]
     have a : ((R.1, 12) : St).2 ≠ 0 := by simp
     rw [hX, z0k l _ a, z2w a];simp only;rw [z0k l _ a, z3z a, z4a (by simp)];exact ⟨rfl, fun e => absurd e a⟩
    ·rw [if_neg hdeep]
     have hX : deepF l o R = R := by
      unfold deepF; rw [if_neg]; rintro ⟨e1, e2⟩; exact hdeep ⟨z1t.1 e1, by omega⟩
     rw [hX];have z := z06 l [123] R
     have N : o + 1 <= 32 ∨ (wordF l [123] R).2 ≠ 0 := by
      by_cases hn : nowF l R = some 123
      ·left; rcases Nat.lt_or_ge o 32 with p | j
       ·omega
       ·exact absurd ⟨hn, j⟩ hdeep
      ·right; rw [z27 hn]; exact z0t l R
     have A : (wordF l [123] R).2 = 0 -> R.1 + 1 <= (wordF l [123] R).1 := z4d;have O : (wordF l [123] R).2 = 0 -> R.2 = 0 := z.live;have H := z.2.1 L;have Y := z.1
     generalize wordF l [123] R = W at *
     have hi := (ih (n - 1) i).1 (o + 1) h [] W g' f' H N (fun e => by have := A e; omega) (.inl (fun x hx => by cases hx))
     have U : ∀ T, endO l (o + 1) T = T := fun T => by unfold endO; rw [if_neg (by omega)]
     rw [U] at hi;have w := z2k l g' h (o + 1) [] W
     generalize z05 l f' (o + 1) h [] W = rd at *
     generalize z0c l g' h (o + 1) [] W = rp at *
     obtain ⟨xd, Vd⟩ := rd;obtain ⟨xp, V⟩ := rp;simp only at hi w ⊢;obtain ⟨e1, e2⟩ := hi;subst e1;have B := z06 l [125] Vd;have X := B.2.1 (w.2.1 H);have Z := B.1;have aa := w.1
     have v : (wordF l [125] Vd).2 = 0 -> (Cs.mk (ba kd) xd) = .mk (ba kp) xp := fun e => by
      have hV := B.live e;rw [e2 hV, G (O (w.live hV))]
     generalize wordF l [125] Vd = E at *
     by_cases hE : nowF l E = some 125
     ·rw [if_pos hE]
      have ho : oneF l [32, 125] E = ([125], (E.1 + 1, 0)) := by
       obtain ⟨q0, q1⟩ := z0b hE
       unfold oneF; rw [if_pos q0, q1]; simp
      rw [ho, z4a (by simp)];exact ⟨rfl, fun _ => by simp only; rw [v (z0b hE).1]⟩
     ·rw [if_neg hE, one_same hE]
      by_cases hEl : E.2 = 0
      ·rw [v hEl]
       exact (ih (n - 1) i).2 o h _ E g' f' X ho (fun _ => by omega)
      ·rw [z2a hEl, z3z hEl, z4a (by simp)]
       exact ⟨rfl, fun e => absurd e hEl⟩
   ·have a := z0t l S
    have ho : oneF l [32] S = ([], failF l S) := by
     unfold oneF
     rw [if_pos h0]
     cases hx : l[S.1]? with
     | none => rfl
     | some d =>
      simp only;rw [if_neg];intro hd
      obtain rfl : d = 32 := by simpa using hd
      exact hsp (z2x h0 hx)
    rw [ho, z4a (by simp), z0f, if_pos h0];simp only;rw [z27 hsp, zhd a];simp only;rw [z0k l _ a, z11 a, if_neg (by simp), z0k l _ a, z49 a];simp only;rw [z0k l _ a, z11 a, if_neg (by simp), z2a a];exact ⟨rfl, fun e => absurd e a⟩
  ·rw [z3z h0, z4a (by simp), z2a h0]
   exact ⟨rfl, fun e => absurd e h0⟩
def z1d (l : List UInt8) : List Pt × St := z05 l (l.length + 1) 0 false [] (0, 0)
def z2z (l : List UInt8) : List Pt × Nat × Nat :=
 if 2000 < l.length then ([], 2, 0)
 else if (z1d l).2.2 ≠ 0 then ([], (z1d l).2.2, (z1d l).2.1)
 else if z12 (z1d l).1 ≠ 0 then ([], z12 (z1d l).1, 0)
 else ((z1d l).1, 0, 0)
theorem zeq (l : List UInt8) : (z1d l).2 = endF l (readF l).2 /\ ((z1d l).2.2 = 0 -> (z1d l).1 = (readF l).1) := by
 have := (doc_both l l.length).1 0 false [] (0, 0) (l.length + 1) (l.length + 1) ⟨Nat.zero_le _, .inl rfl⟩ (.inl (by omega)) (fun _ => by simp only; omega) (.inl (fun x hx => by cases hx))
 unfold endO at this
 rw [if_pos rfl] at this;exact this
theorem zip (l : List UInt8) : z2z l = z0r l := by
 obtain ⟨h1, h2⟩ := zeq l
 unfold z2z z0r
 rw [<- h1]
 split
 ·rfl
 ·split
  ·rfl
  ·rename_i h
   have h0 : (z1d l).2.2 = 0 := by simpa using h
   rw [h2 h0]
end Go.Proofs.YtdkkkeoicekdgaaGreatDoor

end

section

namespace Go.Proofs.YtdkkkeoicekdgaaGreatDoor.Dr
set_option maxHeartbeats 1600000
set_option maxRecDepth 100000
open Go.Lib (hid)
open Go.RowKit Go.Proofs.YtdkkkeoicekdgaaGreatDoor
def PAt (w : World) (pb : Nat) (s : BA) (S : St) : Prop := w.heap[pb]? = some (.cells #[.string s, .int .i64 S.1, .int .i64 S.2] 241 (0, 0))
section
variable {w w' : World} {pb : Nat} {s : BA} {S : St}
theorem PAt.row (h : PAt w pb s S) : Row w pb 241 [.string s, .int .i64 S.1, .int .i64 S.2] := h
theorem PAt.lt (h : PAt w pb s S) : pb < w.heap.size := (Array.getElem?_eq_some_iff.1 h).1
theorem PAt.keep (h : PAt w pb s S) (hk : w'.heap[pb]? = w.heap[pb]?) : PAt w' pb s S := hk.trans h
theorem PAt.same (h : PAt w pb s S) (hk : Same w w') : PAt w' pb s S := h.keep (by rw [hk.heap])
theorem PAt.alloc (h : PAt w pb s S) (o : Obj) : PAt (w.alloc o) pb s S := h.keep (Below.heap_alloc _ _ _ h.lt)
theorem PAt.drewN (h : PAt w pb s S) (n : Nat) : PAt (w.drewN n) pb s S := h
theorem PAt.on (h : PAt w pb s S) : PAt (w.setCell ⟨pb, 1, none⟩ (.int .i64 ((S.1 : Int) + 1))) pb s (S.1 + 1, S.2) := h.row.set 1 _
theorem PAt.bad (h : PAt w pb s S) (e : Nat) : PAt (w.setCell ⟨pb, 2, none⟩ (.int .i64 e)) pb s (S.1, e) := h.row.set 2 _
end
theorem z3v (c : UInt8) : wrap64 (c.toNat : Int) = c.toNat := by
 have := c.toNat_lt
 unfold wrap64; omega
def nowI (l : List UInt8) (S : St) : Int := match nowF l S with | some c => c.toNat | none => -1
theorem z0g {l : List UInt8} {S : St} {c : UInt8} (h : nowF l S = some c) : nowI l S = c.toNat := by unfold nowI; rw [h]
theorem z1r {l : List UInt8} {S : St} (h : nowF l S = none) : nowI l S = -1 := by unfold nowI; rw [h]
theorem z97 {l : List UInt8} {S : St} (c : UInt8) : (nowI l S == (c.toNat : Int)) = decide (nowF l S = some c) := by
 cases h : nowF l S with
 | none => rw [z1r h, decide_eq_false (by simp), beq_eq_false_iff_ne]; omega
 | some d =>
  rw [z0g h]
  by_cases e : d = c
  ·subst e; simp
  ·rw [decide_eq_false (by simpa using e), beq_eq_false_iff_ne]
   intro q; exact e (by rw [<- UInt8.toNat_inj]; omega)
theorem z1q (pb : Nat) (s : BA) (S : St) (w : World) (_ : s.size <= 2000) (hR : PAt w pb s S) :
  Calls Tryz.prog 226 #[.pointer (some ⟨pb, 0, none⟩)] w fun e w' => e = .returned (.int .i64 (nowI s.data.toList S)) /\ ∃ n, w' = w.drewN n := by
 obtain ⟨a, st⟩ := S;have c0 := hR.row.c0;have c1 := hR.row.c1;have c2 := hR.row.c2;simp only at c1 c2;clear hR
 by_cases h0 : st = 0
 ·subst h0
  simp only [Int.natCast_zero] at c2
  by_cases hlt : a < s.size
  ·have HE : Hid (nowI s.data.toList (a, 0) = s[a].toNat) := hid (z0g (z2x rfl (z3f s a hlt)))
   have b := z3v s[a];rw [HE.out]
   go_enter Tryz.func226, Tryz.ntmps226
   go_wp2
   go_quiet (fail)
   go_wp2
   go_quiet (fail)
   go_wp2;go_ret;exact ⟨z3x b, _, World.drewN_drewN _ _ _⟩
  ·have HE : Hid (nowI s.data.toList (a, 0) = -1) := hid (z1r (by unfold nowF; simp only [if_true]; exact get_no s a hlt))
   rw [HE.out]
   go_enter Tryz.func226, Tryz.ntmps226
   go_wp2
   go_quiet (fail)
   go_wp2;go_ret;exact ⟨rfl, _, rfl⟩
 ·have HE : Hid (nowI s.data.toList (a, st) = -1) := hid (z1r (z11 h0))
  have hB : ((st : Int) != 0) = true := by simp; omega
  rw [HE.out];clear h0
  go_enter Tryz.func226, Tryz.ntmps226
  go_wp2
  go_quiet (fail)
  go_wp2;go_ret;exact ⟨rfl, _, rfl⟩
theorem z15 (pb : Nat) (s : BA) (S : St) (w : World) (_ : s.size <= 2000) (hS : Wf s.data.toList S) (hR : PAt w pb s S) :
  Calls Tryz.prog 227 #[.pointer (some ⟨pb, 0, none⟩)] w fun e w' => e = .returned (.tuple #[]) /\ PAt w' pb s (failF s.data.toList S) /\ Fr (· = pb) w w' := by
 obtain ⟨a, st⟩ := S;have c0 := hR.row.c0;have c1 := hR.row.c1;have c2 := hR.row.c2;have z2 := hR.row.thaw 2;simp only at c1 c2;have HR := hid hR;have c := z3j hS;have b := z08 s;simp only at c;clear hR hS
 by_cases h0 : st = 0
 ·subst h0
  simp only [Int.natCast_zero] at c2;have d : Hid (PAt (w.setCell ⟨pb, 2, none⟩ (.int .i64 90)) pb s (a, 90)) := hid (HR.out.bad 90);have h : Hid (Fr (· = pb) w (w.setCell ⟨pb, 2, none⟩ (.int .i64 90))) := hid (z0l 2 _);have d0 := d.out.row.c0;have d1 := d.out.row.c1;simp only at d1
  by_cases hge : s.size <= a
  ·have HB : Hid (failF s.data.toList (a, 0) = (a, 10)) := hid (by unfold failF; rw [if_pos rfl, if_pos (by omega)])
   clear c b
   go_enter Tryz.func227, Tryz.ntmps227
   go_wp2
   go_quiet (fail)
   generalize hw0 : (w.setCell ⟨pb, 2, none⟩ (.int .i64 90)).drewN nq = w5
   have f : Same (w.setCell ⟨pb, 2, none⟩ (.int .i64 90)) w5 := by rw [<- hw0]; exact (Same.refl _).drewN _
   have g := hid (f.row d.out);have i := hid (h.out.trans (Fr.of_same f));clear f hw0 c0 c1 c2 z2 d0 d1;have c2 := g.out.c2;have z2 := g.out.thaw 2;go_wp2
   go_end0
   exact ⟨rfl, by rw [HB.out]; exact g.out.set 2 (.int .i64 10), i.out.trans (z0l 2 _)⟩
  ·have HB : Hid (failF s.data.toList (a, 0) = (a, 90)) := hid (by unfold failF; rw [if_pos rfl, if_neg (by omega)])
   clear c b
   go_enter Tryz.func227, Tryz.ntmps227
   go_wp2
   go_quiet (fail)
   go_wp2
   go_end0
   exact ⟨rfl, by rw [HB.out]; exact d.out, h.out.trans (Fr.of_same ((Same.refl _).drewN _))⟩
 ·have HB : Hid (failF s.data.toList (a, st) = (a, st)) := hid (z1i h0)
  have hB : ((st : Int) == 0) = false := by rw [beq_eq_false_iff_ne]; omega
  clear h0 c b
  go_enter Tryz.func227, Tryz.ntmps227
  go_wp2
  go_end0
  exact ⟨rfl, by rw [HB.out]; exact HR.out, Fr.refl _ _⟩
theorem z6g (pb : Nat) (s t : BA) (S : St) (w : World) (hs : s.size <= 2000) (ht : t.size <= 100) (hS : Wf s.data.toList S) (hR : PAt w pb s S) :
  Calls Tryz.prog 229 #[.pointer (some ⟨pb, 0, none⟩), .string t] w fun e w' => e = .returned (.tuple #[]) /\ PAt w' pb s (wordF s.data.toList t.data.toList S) /\ Fr (· = pb) w w' := by
 have HR := hid hR;have o := hid hS;clear hR hS
 go_enter Tryz.func229, Tryz.ntmps229
 go_wp2
 go_loopw [4] (fun i wr => ∃ (k : Nat) (T : St), k <= t.size /\ i = .int .i64 k /\ Hid (PAt wr pb s T) /\ Hid (Wf s.data.toList T) /\ Hid (Fr (· = pb) w wr) /\ Hid (wordF s.data.toList t.data.toList S = wordF s.data.toList (t.data.toList.drop k) T)) (fun i _ => t.size - (intOf i).toNat)
 case atStart => exact ⟨0, S, by omega, rfl, HR, o, hid (Fr.refl _ _), hid (by rw [List.drop_zero])⟩
 case round =>
  obtain ⟨k, T, hk, rfl, c, x, HF, HW⟩ := hrel;clear HR o
  by_cases hlt : k < t.size
  ·have hc := z3f t k hlt
   have HD := hid (HW.out.trans (by rw [z9i hc]));have A : k < t.data.size := hlt
   by_cases hb : nowF s.data.toList T = some t[k]
   ·have f := hid (HD.out.trans (z5r hb))
    obtain ⟨p, d⟩ := z0b hb;have y := hid (z0u hb)
    have hB : (nowI s.data.toList T != (t[k].toNat : Int)) = false := by rw [z0g hb]; simp
    have HN := hid (fun n => z1q pb s T (wr.drewN n) hs (c.out.drewN n));have HS : Hid (T.1 < s.size) := hid (by have := z0z d; simpa using this);obtain ⟨a, st⟩ := T;simp only at p d;subst p;have g := hB;rw [<- z3v t[k]] at g
    generalize nowI s.data.toList (a, 0) = v at *
    clear hb hc HW HD d;go_wp2
    go_quiet ((go_at_call 226; exact Calls.quiet_of (HN.out _)))
    generalize hw0 : wr.drewN nq = w2
    have b : Same wr w2 := by rw [<- hw0]; exact (Same.refl _).drewN _
    have h := hid (c.out.same b);have j := hid (HF.out.trans (Fr.of_same b));clear b hw0 HN;have c1 := h.out.row.c1;have z1 := h.out.row.thaw 1;simp only at c1;have HQ : Hid (PAt (w2.setCell ⟨pb, 1, none⟩ (.int .i64 ((a : Int) + 1))) pb s (a + 1, 0)) := hid (PAt.on (S := (a, 0)) h.out);have m : Hid (Fr (· = pb) w (w2.setCell ⟨pb, 1, none⟩ (.int .i64 ((a : Int) + 1)))) := hid (j.out.trans (z0l 1 _));have B := HS.out;go_wp2;go_roundw
    case rel => exact ⟨k + 1, (a + 1, 0), by omega, by go_num, HQ, y, m, f⟩
    case measure => simp [intOf]; omega
   ·have f := hid (HD.out.trans (z27 hb))
    have hB : (nowI s.data.toList T != (t[k].toNat : Int)) = true := by
     have := z97 (l := s.data.toList) (S := T) t[k];rw [decide_eq_false hb] at this
     rw [bne, this]; rfl
    have HN := hid (fun n => z1q pb s T (wr.drewN n) hs (c.out.drewN n));have g := hB;rw [<- z3v t[k]] at g
    generalize nowI s.data.toList T = v at *
    clear hb hc HW HD;go_wp2
    go_quiet ((go_at_call 226; exact Calls.quiet_of (HN.out _)))
    generalize hw0 : wr.drewN nq = w2
    have b : Same wr w2 := by rw [<- hw0]; exact (Same.refl _).drewN _
    have j := hid (HF.out.trans (Fr.of_same b));have q := hid (z15 pb s T w2 hs x.out (c.out.same b));clear b hw0 HN
    go_wp2_with fail
    refine q.out.mono ?_;rintro e w3 ⟨rfl, r, u⟩;have z := hid r;have m := hid (j.out.trans u);clear r u q;go_wp2;exact bodyPost_ret (v := .tuple #[]) (by simp [results, Tryz.results229, go_sem]) rfl ⟨rfl, by rw [f.out]; exact z.out, m.out⟩
  ·have C : ¬ k < t.size := hlt
   have HD := hid (HW.out.trans (by rw [List.drop_eq_nil_of_le (by rw [z08]; omega), wordF]));clear HW;go_wp2
   go_end0
   exact ⟨rfl, by rw [HD.out]; exact c.out, HF.out⟩
def ltI (n : Int) : Bool := decide (97 <= n) && decide (n <= 122)
def wrdI (n : Int) : Bool := ltI n || (decide (48 <= n) && decide (n <= 57)) || (n == 95)
theorem z99 (c : UInt8) : ltI c.toNat = isLet c := by
 unfold ltI isLet
 congr 1
 ·exact decide_eq_decide.2 (by omega)
 ·exact decide_eq_decide.2 (by omega)
theorem z9v (c : UInt8) : wrdI c.toNat = isWrd c := by
 unfold wrdI isWrd isDig
 rw [z99]
 congr 1
 ·congr 1
  congr 1
  ·exact decide_eq_decide.2 (by omega)
  ·exact decide_eq_decide.2 (by omega)
 ·by_cases h : c = 95
  ·subst h; rfl
  ·rw [beq_eq_false_iff_ne.2 h, beq_eq_false_iff_ne]
   intro e; exact h (by rw [<- UInt8.toNat_inj]; exact Int.ofNat.inj e)
theorem ltI_now (l : List UInt8) (S : St) : ltI (nowI l S) = isNow l isLet S := by
 unfold isNow
 cases h : nowF l S with
 | none => rw [z1r h]; rfl
 | some c => rw [z0g h]; exact z99 c
theorem zd3 (l : List UInt8) (S : St) : wrdI (nowI l S) = isNow l isWrd S := by
 unfold isNow
 cases h : nowF l S with
 | none => rw [z1r h]; rfl
 | some c => rw [z0g h]; exact z9v c
theorem z2q (n : Int) (w : World) : Calls Tryz.prog 275 #[.int .i64 n] w fun e w' => e = .returned (.bool (ltI n)) /\ w' = w := by
 by_cases h1 : 97 <= n
 ·by_cases h2 : n <= 122
  all_goals
   have HE : Hid (ltI n = decide (n <= 122)) := hid (by unfold ltI; rw [decide_eq_true h1]; rfl)
   go_enter Tryz.func275, Tryz.ntmps275
   go_wp2;go_ret;exact ⟨z01 (by rw [HE.out]; simp [h2]), rfl⟩
 ·have HE : Hid (ltI n = false) := hid (by unfold ltI; rw [decide_eq_false h1]; rfl)
  have a : decide (97 <= n) = false := decide_eq_false h1
  go_enter Tryz.func275, Tryz.ntmps275
  go_wp2;go_ret;exact ⟨z01 HE.out.symm, rfl⟩
theorem z5q (n : Int) (w : World) : Calls Tryz.prog 276 #[.int .i64 n] w fun e w' => e = .returned (.bool (wrdI n)) /\ w' = w := by
 have HL := hid (z2q n w)
 cases hl : ltI n with
 | true =>
  rw [hl] at HL;have HE : Hid (wrdI n = true) := hid (by unfold wrdI; rw [hl]; rfl);clear hl
  go_enter Tryz.func276, Tryz.ntmps276
  go_wp2_with fail
  refine HL.out.mono ?_;rintro e w2 ⟨rfl, rfl⟩;go_wp2;go_ret;exact ⟨z01 HE.out.symm, rfl⟩
 | false =>
  rw [hl] at HL;have HE : Hid (wrdI n = ((decide (48 <= n) && decide (n <= 57)) || (n == 95))) := hid (by unfold wrdI; rw [hl]; simp);clear hl
  by_cases h1 : 48 <= n
  ·by_cases h2 : n <= 57
   ·have HF : Hid (wrdI n = true) := hid (by rw [HE.out, decide_eq_true h1, decide_eq_true h2]; rfl)
    have b1 : decide (48 <= n) = true := decide_eq_true h1;have b2 : decide (n <= 57) = true := decide_eq_true h2;clear HE
    go_enter Tryz.func276, Tryz.ntmps276
    go_wp2_with fail
    refine HL.out.mono ?_;rintro e w2 ⟨rfl, rfl⟩;go_wp2;go_ret;exact ⟨z01 HF.out.symm, rfl⟩
   ·have HF : Hid (wrdI n = (n == 95)) := hid (by rw [HE.out, decide_eq_false h2]; simp)
    have b2 : decide (n <= 57) = false := decide_eq_false h2;clear HE
    go_enter Tryz.func276, Tryz.ntmps276
    go_wp2_with fail
    refine HL.out.mono ?_;rintro e w2 ⟨rfl, rfl⟩;go_wp2;go_ret;exact ⟨z01 HF.out.symm, rfl⟩
  ·have HF : Hid (wrdI n = (n == 95)) := hid (by rw [HE.out, decide_eq_false h1]; simp)
   have b1 : decide (48 <= n) = false := decide_eq_false h1;clear HE
   go_enter Tryz.func276, Tryz.ntmps276
   go_wp2_with fail
   refine HL.out.mono ?_;rintro e w2 ⟨rfl, rfl⟩;go_wp2;go_ret;exact ⟨z01 HF.out.symm, rfl⟩
end Go.Proofs.YtdkkkeoicekdgaaGreatDoor.Dr

end

section

namespace Go.Proofs.YtdkkkeoicekdgaaGreatDoor.Dr
set_option maxHeartbeats 3200000
set_option maxRecDepth 100000
open Go.Lib (hid)
open Go.RowKit Go.Proofs.YtdkkkeoicekdgaaGreatDoor
theorem za9 (t : BA) (w : World) (ht : t.size <= 140737488351232) : Calls Tryz.prog 257 #[.string t] w fun e w' => e = .returned (.bool (nameB t.data.toList)) /\ w' = w := by
 have g := z08 t;have a := hid g;clear g
 go_enter Tryz.func257, Tryz.ntmps257
 go_wp2
 go_loop [3] (fun i => ∃ k : Nat, i = .int .i64 k /\ k <= t.size /\ Hid ((t.data.toList.take k).all isWrd = true)) (fun i => t.size - (intOf i).toNat)
 case atStart => exact ⟨0, rfl, by omega, hid rfl⟩
 case round =>
  obtain ⟨k, rfl, hk, HA⟩ := hrel
  by_cases hlt : k < t.size
  ·have f := hid (z3f t k hlt)
   have m : (k : Int) < (t.size : Int) := by omega
   obtain ⟨c, h⟩ : ∃ c, t[k] = c := ⟨_, rfl⟩;rw [h] at f;have HW := hid (fun W => z5q (c.toNat : Int) W);rw [z9v] at HW;have j := z3v c
   cases hc : isWrd c with
   | true =>
    have l := hid (z6h f.out hc HA.out);rw [hc] at HW;clear hc
    go_wp2_with fail
    refine (HW.out _).mono ?_;rintro e w1 ⟨rfl, rfl⟩;go_wp2
    go_round
    case rel => exact ⟨k + 1, by go_num, by omega, l⟩
    case measure => simp [intOf]; omega
   | false =>
    have HF := hid (zdt f.out hc);rw [hc] at HW;clear hc
    go_wp2_with fail
    refine (HW.out _).mono ?_;rintro e w1 ⟨rfl, rfl⟩;go_wp2;go_ret;exact ⟨z01 HF.out.symm, rfl⟩
  ·have n : ¬ (k : Int) < (t.size : Int) := by omega
   have hA : t.data.toList.all isWrd = true := by
    have := HA.out;rw [List.take_of_length_le (by rw [a.out]; omega)] at this;exact this
   by_cases h0 : t.size < 1
   ·have HF : Hid (nameB t.data.toList = false) := hid (by
     cases hl : t.data.toList with
     | nil => rfl
     | cons c r => have := a.out; rw [hl] at this; simp at this; omega)
    have b1 : ¬ (1 : Int) <= (t.size : Int) := by omega
    have b2 : decide ((1 : Int) <= (t.size : Int)) = false := decide_eq_false b1;clear hA;go_wp2;go_ret;exact ⟨z01 HF.out.symm, rfl⟩
   have b := z3f t 0 (by omega)
   by_cases h1 : 32 < t.size
   ·have HF : Hid (nameB t.data.toList = false) := hid (by rw [z4h b, decide_eq_false (by rw [a.out]; omega)]; rfl)
    have b1 : (1 : Int) <= (t.size : Int) := by omega
    have b2 : ¬ (t.size : Int) <= 32 := by omega
    have b3 : decide ((1 : Int) <= (t.size : Int)) = true := decide_eq_true b1;have b4 : decide ((t.size : Int) <= 32) = false := decide_eq_false b2;clear hA b;go_wp2;go_ret;exact ⟨z01 HF.out.symm, rfl⟩
   have o : 0 < t.size := by omega
   have HF : Hid (nameB t.data.toList = isLet t[0]) := hid (by rw [z4h b, decide_eq_true (by rw [a.out]; omega), hA]; simp);obtain ⟨d, hd⟩ : ∃ d, t[0] = d := ⟨_, rfl⟩;rw [hd] at HF;have HW := hid (fun W => z2q (d.toNat : Int) W);rw [z99] at HW;have j := z3v d
   have b1 : (1 : Int) <= (t.size : Int) := by omega
   have b2 : (t.size : Int) <= 32 := by omega
   have b3 : decide ((1 : Int) <= (t.size : Int)) = true := decide_eq_true b1;have b4 : decide ((t.size : Int) <= 32) = true := decide_eq_true b2;clear hA b
   go_wp2_with fail
   refine (HW.out _).mono ?_;rintro e w1 ⟨rfl, rfl⟩;go_wp2;go_ret;exact ⟨z01 HF.out.symm, rfl⟩
theorem z9f : ∀ (r : List UInt8) (n m : Nat), r.all isDig = true -> n < 10 ^ m -> r.foldl nx n < 10 ^ (m + r.length)
 | [], n, m, _, h => by simpa using h
 | c :: r, n, m, ha, h => by
  simp only [List.all_cons, Bool.and_eq_true] at ha;have hc := z2c.1 ha.1
  have h1 : nx n c < 10 ^ (m + 1) := by rw [z4o, Nat.pow_succ]; omega
  have := z9f r (nx n c) (m + 1) ha.2 h1;rw [List.foldl_cons, List.length_cons, show m + (r.length + 1) = m + 1 + r.length by omega];exact this
theorem rkey_no (t : BA) (w : World) (ht : t.size <= 140737488351232) : Calls Tryz.prog 277 #[.bool false, .string t] w fun e w' => e = .returned (.bool (nameB t.data.toList)) /\ w' = w := by
 have HN := hid (za9 t w ht)
 go_enter Tryz.func277, Tryz.ntmps277
 go_wp2_with fail
 refine HN.out.mono ?_;rintro e w1 ⟨rfl, rfl⟩;go_wp2;go_ret;exact ⟨rfl, rfl⟩
theorem zda (t : BA) (w : World) (ht : t.size <= 140737488351232) : Calls Tryz.prog 277 #[.bool true, .string t] w fun e w' => e = .returned (.bool (pkeyB t.data.toList)) /\ w' = w := by
 by_cases hzero : t.data.toList = [122, 101, 114, 111]
 ·have HE : Hid (pkeyB t.data.toList = true) := hid (by rw [hzero]; decide)
  obtain rfl := z2e hzero;clear hzero
  go_enter Tryz.func277, Tryz.ntmps277
  go_wp2;go_ret;exact ⟨z01 HE.out.symm, rfl⟩
 by_cases hone : t.data.toList = [111, 110, 101]
 ·have HE : Hid (pkeyB t.data.toList = true) := hid (by rw [hone]; decide)
  obtain rfl := z2e hone;clear hone
  go_enter Tryz.func277, Tryz.ntmps277
  go_wp2;go_ret;exact ⟨z01 HE.out.symm, rfl⟩
 by_cases htwo : t.data.toList = [116, 119, 111]
 ·have HE : Hid (pkeyB t.data.toList = true) := hid (by rw [htwo]; decide)
  obtain rfl := z2e htwo;clear htwo
  go_enter Tryz.func277, Tryz.ntmps277
  go_wp2;go_ret;exact ⟨z01 HE.out.symm, rfl⟩
 by_cases hfew : t.data.toList = [102, 101, 119]
 ·have HE : Hid (pkeyB t.data.toList = true) := hid (by rw [hfew]; decide)
  obtain rfl := z2e hfew;clear hfew
  go_enter Tryz.func277, Tryz.ntmps277
  go_wp2;go_ret;exact ⟨z01 HE.out.symm, rfl⟩
 by_cases hmany : t.data.toList = [109, 97, 110, 121]
 ·have HE : Hid (pkeyB t.data.toList = true) := hid (by rw [hmany]; decide)
  obtain rfl := z2e hmany;clear hmany
  go_enter Tryz.func277, Tryz.ntmps277
  go_wp2;go_ret;exact ⟨z01 HE.out.symm, rfl⟩
 by_cases hother : t.data.toList = [111, 116, 104, 101, 114]
 ·have HE : Hid (pkeyB t.data.toList = true) := hid (by rw [hother]; decide)
  obtain rfl := z2e hother;clear hother
  go_enter Tryz.func277, Tryz.ntmps277
  go_wp2;go_ret;exact ⟨z01 HE.out.symm, rfl⟩
 have C := z2s hzero;have O := z2s hone;have R := z2s htwo;have T := z2s hfew;have D := z2s hmany;have B := z2s hother;have b : Hid (pkeyB t.data.toList = eqB t.data.toList) := hid (by rw [zca]; simp [hzero, hone, htwo, hfew, hmany, hother]);have u := hid (z08 t);clear hzero hone htwo hfew hmany hother
 by_cases h2 : t.size < 2
 ·have HF : Hid (pkeyB t.data.toList = false) := hid (by
   rw [b.out]
   cases hl : t.data.toList with
   | nil => rfl
   | cons c r =>
    have f := u.out;rw [hl] at f;simp only [List.length_cons] at f
    cases r with
    | nil =>
     unfold eqB
     split
     ·rename_i e; injection e with _ e2; rw [<- e2]; rfl
     ·rfl
    | cons d r => simp only [List.length_cons] at f; omega)
  have b1 : (t.size : Int) < 2 := by omega
  have b2 : decide ((t.size : Int) < 2) = true := decide_eq_true b1;clear h2
  go_enter Tryz.func277, Tryz.ntmps277
  go_wp2;go_ret;exact ⟨z01 HF.out.symm, rfl⟩
 have E : 0 < t.size := by omega
 have F : 1 < t.size := by omega
 obtain ⟨c0, h0⟩ : ∃ c0, t[0] = c0 := ⟨_, rfl⟩;obtain ⟨c1, h1⟩ : ∃ c1, t[1] = c1 := ⟨_, rfl⟩
 obtain ⟨r, HR⟩ : ∃ r, Hid (t.data.toList = c0 :: c1 :: r) := by
  have e0 := z3f t 0 E;have e1 := z3f t 1 F;rw [h0] at e0;rw [h1] at e1
  cases hl : t.data.toList with
  | nil => rw [hl] at e0; cases e0
  | cons x xs =>
   rw [hl] at e0 e1
   cases xs with
   | nil => cases e1
   | cons y ys =>
    obtain rfl : x = c0 := by simpa using e0
    obtain rfl : y = c1 := by simpa using e1
    exact ⟨ys, hid rfl⟩
 have g : Hid (t.size = r.length + 2) := hid (by have := u.out; rw [HR.out] at this; simp only [List.length_cons] at this; omega);have U := c0.toNat_lt;have V := c1.toNat_lt
 have b1 : ¬ (t.size : Int) < 2 := by omega
 have b2 : decide ((t.size : Int) < 2) = false := decide_eq_false b1;clear h2
 by_cases h8 : 8 < t.size
 ·have HF : Hid (pkeyB t.data.toList = false) := hid (by
   rw [b.out, HR.out]
   unfold eqB
   split
   ·rename_i e
    injection e with e1 e2
    subst e2;simp only [numB];have := g.out;rw [decide_eq_false (show ¬ r.length <= 6 by omega)]
    simp
   ·rfl)
  have b3 : (8 : Int) < (t.size : Int) := by omega
  have b4 : decide ((8 : Int) < (t.size : Int)) = true := decide_eq_true b3;clear h8
  go_enter Tryz.func277, Tryz.ntmps277
  go_wp2;go_ret;exact ⟨z01 HF.out.symm, rfl⟩
 have b3 : ¬ (8 : Int) < (t.size : Int) := by omega
 have b4 : decide ((8 : Int) < (t.size : Int)) = false := decide_eq_false b3
 by_cases h61 : c0 = 61
 rotate_left
 ·have HF : Hid (pkeyB t.data.toList = false) := hid (by
   rw [b.out, HR.out]
   unfold eqB
   split
   ·rename_i e; injection e with e1 e2; exact absurd e1 h61
   ·rfl)
  have b5 : ((c0.toNat : Int) != (61 : Int)) = true := by
   have := zf4 (d := 61) h61;rw [bne]
   rw [show ((c0.toNat : Int) == (61 : Int)) = false from this]; rfl
  clear h61
  go_enter Tryz.func277, Tryz.ntmps277
  go_wp2;go_ret;exact ⟨z01 HF.out.symm, rfl⟩
 have h : Hid (pkeyB t.data.toList = numB (c1 :: r)) := hid (by rw [b.out, HR.out, h61]; rfl);subst h61;clear b
 by_cases h48 : c1 = 48 /\ 2 < t.size
 ·have HF : Hid (pkeyB t.data.toList = false) := hid (by
   rw [h.out, h48.1];have o := g.out;have h3 := h48.2
   cases r with
   | nil => simp only [List.length_nil] at o; omega
   | cons d r => simp [numB])
  obtain ⟨q1, q2⟩ := h48;subst q1
  have b5 : (2 : Int) < (t.size : Int) := by omega
  have b6 : decide ((2 : Int) < (t.size : Int)) = true := decide_eq_true b5;clear q2
  go_enter Tryz.func277, Tryz.ntmps277
  go_wp2;go_ret;exact ⟨z01 HF.out.symm, rfl⟩
 have p : Hid (numB (c1 :: r) = ((c1 :: r).all isDig && decide ((c1 :: r).foldl nx 0 <= 1000000))) := hid (by
  have o := g.out;simp only [numB];rw [decide_eq_true (show r.length <= 6 by omega)]
  have : (c1 != 48 || r.isEmpty) = true := by
   by_cases e : c1 = 48
   ·have hr : r.length = 0 := by
     rcases Nat.eq_zero_or_pos r.length with z | z
     ·exact z
     ·exact absurd ⟨e, by omega⟩ h48
    rw [List.length_eq_zero_iff.1 hr]; simp
   ·simp [e]
  rw [this]; simp)
 have v : Hid (t.size <= 8) := hid (by omega)
 by_cases hq : c1 = 48
 ·have G : ¬ 2 < t.size := fun e => h48 ⟨hq, e⟩
  have b5 : ¬ (2 : Int) < (t.size : Int) := by omega
  have b6 : decide ((2 : Int) < (t.size : Int)) = false := decide_eq_false b5
  have H : ((c1.toNat : Int) == (48 : Int)) = true := by rw [hq]; rfl
  clear h48 G hq
  go_enter Tryz.func277, Tryz.ntmps277
  go_wp2
  go_loopw [5, 6] (fun nv i wr => ∃ (k N : Nat), 1 <= k /\ k <= t.size /\ i = .int .i64 k /\ nv = .int .i64 N /\ N < 100000000 /\ Hid (N = ((c1 :: r).take (k - 1)).foldl nx 0) /\ Hid (((c1 :: r).take (k - 1)).all isDig = true) /\ wr = w) (fun _ i _ => t.size - (intOf i).toNat)
  case atStart => exact ⟨1, 0, by omega, by omega, rfl, rfl, by omega, hid rfl, hid rfl, rfl⟩
  case round =>
   obtain ⟨k, N, I, hk, rfl, rfl, hN, HN, HA, rfl⟩ := hrel
   by_cases hlt : k < t.size
   ·have j := hid (z3f t k hlt)
    have A : (k : Int) < (t.size : Int) := by omega
    obtain ⟨c, q⟩ : ∃ c, t[k] = c := ⟨_, rfl⟩;rw [q] at j
    have HG : Hid ((c1 :: r)[k - 1]? = some c) := hid (by
     have := j.out;rw [HR.out, show k = (k - 1) + 1 by omega, List.getElem?_cons_succ] at this
     exact this)
    have HT := hid (take_one HG.out);have J := c.toNat_lt
    by_cases hd : 48 <= c.toNat /\ c.toNat <= 57
    ·have g1 : ¬ (c.toNat : Int) < 48 := by omega
     have g2 : ¬ (57 : Int) < (c.toNat : Int) := by omega
     have g3 : decide ((c.toNat : Int) < 48) = false := decide_eq_false g1;have g4 : decide ((57 : Int) < (c.toNat : Int)) = false := decide_eq_false g2;have l : isDig c = true := z2c.2 hd
     have m : Hid (((c1 :: r).take (k + 1 - 1)).all isDig = true) := hid (by
      rw [show k + 1 - 1 = k - 1 + 1 by omega, HT.out, List.all_append, HA.out]; simp [l])
     obtain ⟨N2, a⟩ : ∃ N2, Hid (N2 = nx N c) := ⟨_, hid rfl⟩
     have n : Hid (N2 = ((c1 :: r).take (k + 1 - 1)).foldl nx 0) := hid (by
      rw [show k + 1 - 1 = k - 1 + 1 by omega, HT.out, List.foldl_append, <- HN.out, a.out]; rfl)
     have L : 10 * (N : Int) + ((c.toNat : Int) - 48) = (N2 : Int) := by have := a.out; rw [z4o] at this; omega
     have s : N2 < 100000000 := by
      have h1 := z9f _ 0 0 m.out (by omega);rw [<- n.out] at h1
      have h2 : ((c1 :: r).take (k + 1 - 1)).length <= 8 := by rw [List.length_take]; have := v.out; omega
      have h3 : 10 ^ (0 + ((c1 :: r).take (k + 1 - 1)).length) <= 10 ^ 8 := Nat.pow_le_pow_right (by omega) (by omega);exact Nat.lt_of_lt_of_le h1 h3
     clear l;go_wp2;go_roundw
     case rel => exact ⟨k + 1, N2, by omega, by omega, by go_num, by go_num, s, n, m, trivial⟩
     case measure => simp [intOf]; omega
    ·have HF : Hid (pkeyB t.data.toList = false) := hid (by
      rw [h.out, p.out]
      have : (c1 :: r).all isDig = false := by
       rw [List.all_eq_false];refine ⟨c, List.mem_iff_getElem?.2 ⟨_, HG.out⟩, ?_⟩
       intro e; exact hd (z2c.1 e)
      rw [this]; rfl)
     by_cases h5 : c.toNat < 48
     ·have g1 : (c.toNat : Int) < 48 := by omega
      have g3 : decide ((c.toNat : Int) < 48) = true := decide_eq_true g1;clear hd;go_wp2;go_ret;exact ⟨z01 HF.out.symm, rfl⟩
     ·have g1 : ¬ (c.toNat : Int) < 48 := by omega
      have g2 : (57 : Int) < (c.toNat : Int) := by omega
      have g3 : decide ((c.toNat : Int) < 48) = false := decide_eq_false g1;have g4 : decide ((57 : Int) < (c.toNat : Int)) = true := decide_eq_true g2;clear hd;go_wp2;go_ret;exact ⟨z01 HF.out.symm, rfl⟩
   ·have M : ¬ (k : Int) < (t.size : Int) := by omega
    have HF : Hid (pkeyB t.data.toList = decide (N <= 1000000)) := hid (by
     have o := g.out;have h1 : (c1 :: r).take (k - 1) = c1 :: r := List.take_of_length_le (by simp only [List.length_cons]; omega);have h2 := HA.out;have h3 := HN.out;rw [h1] at h2 h3
     rw [h.out, p.out, h2, <- h3]; rfl)
    go_wp2;go_ret;exact ⟨z01 (by rw [HF.out]; exact decide_eq_decide.2 (by omega)), rfl⟩
 ·have H : ((c1.toNat : Int) == (48 : Int)) = false := zf4 (d := 48) hq
  clear h48 hq
  go_enter Tryz.func277, Tryz.ntmps277
  go_wp2
  go_loopw [5, 6] (fun nv i wr => ∃ (k N : Nat), 1 <= k /\ k <= t.size /\ i = .int .i64 k /\ nv = .int .i64 N /\ N < 100000000 /\ Hid (N = ((c1 :: r).take (k - 1)).foldl nx 0) /\ Hid (((c1 :: r).take (k - 1)).all isDig = true) /\ wr = w) (fun _ i _ => t.size - (intOf i).toNat)
  case atStart => exact ⟨1, 0, by omega, by omega, rfl, rfl, by omega, hid rfl, hid rfl, rfl⟩
  case round =>
   obtain ⟨k, N, I, hk, rfl, rfl, hN, HN, HA, rfl⟩ := hrel
   by_cases hlt : k < t.size
   ·have j := hid (z3f t k hlt)
    have A : (k : Int) < (t.size : Int) := by omega
    obtain ⟨c, q⟩ : ∃ c, t[k] = c := ⟨_, rfl⟩;rw [q] at j
    have HG : Hid ((c1 :: r)[k - 1]? = some c) := hid (by
     have := j.out;rw [HR.out, show k = (k - 1) + 1 by omega, List.getElem?_cons_succ] at this
     exact this)
    have HT := hid (take_one HG.out);have J := c.toNat_lt
    by_cases hd : 48 <= c.toNat /\ c.toNat <= 57
    ·have g1 : ¬ (c.toNat : Int) < 48 := by omega
     have g2 : ¬ (57 : Int) < (c.toNat : Int) := by omega
     have g3 : decide ((c.toNat : Int) < 48) = false := decide_eq_false g1;have g4 : decide ((57 : Int) < (c.toNat : Int)) = false := decide_eq_false g2;have l : isDig c = true := z2c.2 hd
     have m : Hid (((c1 :: r).take (k + 1 - 1)).all isDig = true) := hid (by
      rw [show k + 1 - 1 = k - 1 + 1 by omega, HT.out, List.all_append, HA.out]; simp [l])
     obtain ⟨N2, a⟩ : ∃ N2, Hid (N2 = nx N c) := ⟨_, hid rfl⟩
     have n : Hid (N2 = ((c1 :: r).take (k + 1 - 1)).foldl nx 0) := hid (by
      rw [show k + 1 - 1 = k - 1 + 1 by omega, HT.out, List.foldl_append, <- HN.out, a.out]; rfl)
     have L : 10 * (N : Int) + ((c.toNat : Int) - 48) = (N2 : Int) := by have := a.out; rw [z4o] at this; omega
     have s : N2 < 100000000 := by
      have h1 := z9f _ 0 0 m.out (by omega);rw [<- n.out] at h1
      have h2 : ((c1 :: r).take (k + 1 - 1)).length <= 8 := by rw [List.length_take]; have := v.out; omega
      have h3 : 10 ^ (0 + ((c1 :: r).take (k + 1 - 1)).length) <= 10 ^ 8 := Nat.pow_le_pow_right (by omega) (by omega);exact Nat.lt_of_lt_of_le h1 h3
     clear l;go_wp2;go_roundw
     case rel => exact ⟨k + 1, N2, by omega, by omega, by go_num, by go_num, s, n, m, trivial⟩
     case measure => simp [intOf]; omega
    ·have HF : Hid (pkeyB t.data.toList = false) := hid (by
      rw [h.out, p.out]
      have : (c1 :: r).all isDig = false := by
       rw [List.all_eq_false];refine ⟨c, List.mem_iff_getElem?.2 ⟨_, HG.out⟩, ?_⟩
       intro e; exact hd (z2c.1 e)
      rw [this]; rfl)
     by_cases h5 : c.toNat < 48
     ·have g1 : (c.toNat : Int) < 48 := by omega
      have g3 : decide ((c.toNat : Int) < 48) = true := decide_eq_true g1;clear hd;go_wp2;go_ret;exact ⟨z01 HF.out.symm, rfl⟩
     ·have g1 : ¬ (c.toNat : Int) < 48 := by omega
      have g2 : (57 : Int) < (c.toNat : Int) := by omega
      have g3 : decide ((c.toNat : Int) < 48) = false := decide_eq_false g1;have g4 : decide ((57 : Int) < (c.toNat : Int)) = true := decide_eq_true g2;clear hd;go_wp2;go_ret;exact ⟨z01 HF.out.symm, rfl⟩
   ·have M : ¬ (k : Int) < (t.size : Int) := by omega
    have HF : Hid (pkeyB t.data.toList = decide (N <= 1000000)) := hid (by
     have o := g.out;have h1 : (c1 :: r).take (k - 1) = c1 :: r := List.take_of_length_le (by simp only [List.length_cons]; omega);have h2 := HA.out;have h3 := HN.out;rw [h1] at h2 h3
     rw [h.out, p.out, h2, <- h3]; rfl)
    go_wp2;go_ret;exact ⟨z01 (by rw [HF.out]; exact decide_eq_decide.2 (by omega)), rfl⟩
end Go.Proofs.YtdkkkeoicekdgaaGreatDoor.Dr

end

section

namespace Go.Proofs.YtdkkkeoicekdgaaGreatDoor
theorem z2b {l : List UInt8} {S : St} {c : UInt8} (h : nowF l S = some c) : Ge l S (S.1 + 1, 0) := ⟨Nat.le_succ _, fun _ => z0u h, fun e => absurd (z0b h).1 e⟩
theorem zea (l : List UInt8) (w : UInt8 -> Bool) (p : List UInt8 -> Bool) : ∀ (f : Nat) (acc : List UInt8) (S : St), Ge l S (runL l w p f acc S).2
 | 0, acc, S => by rw [runL]; exact Ge.refl _ _
 | f + 1, acc, S => by
  rw [runL]
  cases hn : nowF l S with
  | none => exact Ge.refl _ _
  | some c =>
   simp only
   split
   ·split
    ·exact (z2b hn).trans (zea l w p f _ _)
    ·exact z1u l S
   ·exact Ge.refl _ _
theorem z9d (l : List UInt8) (S : St) : Ge l S (dName l S).2 := by
 unfold dName
 split
 ·exact zea _ _ _ _ _ _
 ·exact (z1u l S).trans (zea _ _ _ _ _ _)
theorem zhv (l : List UInt8) (S : St) : Ge l S (dKey l S).2 := by
 unfold dKey
 split
 ·rename_i h
  split
  ·exact (z2b h).trans (zea _ _ _ _ _ _)
  ·exact (z2b h).trans (z1u _ _)
 ·exact z9d l S
theorem ge_over {l : List UInt8} {R : St} (h : nowF l R = some 123) : Ge l R (R.1, 12) := ⟨Nat.le_refl _, fun _ => ⟨Nat.le_of_lt (z0z (z0b h).2), .inr (.inr ⟨.inr rfl, z0z (z0b h).2⟩)⟩, fun e => absurd (z0b h).1 e⟩
theorem zeb {l : List UInt8} {cf : Bool -> St -> List Cs × St} (hc : ∀ h S, Ge l S (cf h S).2) (h : Bool) (S : St) : Ge l (S.1 + 1, 0) (z1g l cf h S).2 := by
 have hn := z9d l (S.1 + 1, 0)
 unfold z1g
 simp only
 split
 ·rename_i h1
  exact hn.trans (z2b h1)
 ·split
  ·exact hn.trans ((z06 l _ _).trans ((z06 l _ _).trans (hc _ _)))
  ·exact hn.trans ((z06 l _ _).trans ((z06 l _ _).trans (hc _ _)))
theorem z9e (l : List UInt8) : ∀ f, (∀ o h acc S, Ge l S (z05 l f o h acc S).2) /\ (∀ o h acc S, Ge l S (z0f l f o h acc S).2)
 | 0 => ⟨fun o h acc S => by rw [z05]; exact Ge.refl _ _, fun o h acc S => by rw [z0f]; exact Ge.refl _ _⟩
 | f + 1 => by
  obtain ⟨i1, i2⟩ := z9e l f;refine ⟨fun o h acc S => ?_, fun o h acc S => ?_⟩
  ·rw [z05]
   cases hn : nowF l S with
   | none => exact Ge.refl _ _
   | some c =>
    simp only
    split
    ·exact Ge.refl _ _
    ·split
     ·exact z1u l S
     ·split
      ·exact (z2b hn).trans ((zeb (fun h S => i2 o h [] S) h S).trans (i1 _ _ _ _))
      ·split
       ·exact (z2b hn).trans (i1 _ _ _ _)
       ·split
        ·cases hd : nowF l (S.1 + 1, 0) with
         | none => exact (z2b hn).trans (z1u _ _)
         | some d =>
          simp only
          split
          ·refine (z2b hn).trans (Ge.trans (z2b hd) (Ge.trans ?_ (i1 _ _ _ _)))
           split
           ·exact Ge.refl _ _
           ·exact z06 l [39] _
          ·exact (z2b hn).trans (z1u _ _)
        ·exact (z2b hn).trans (i1 _ _ _ _)
  ·rw [z0f]
   split
   ·simp only
    have hk := (z06 l [32] S).trans (zhv l (wordF l [32] S));have hr := hk.trans (z06 l [32] (dKey l (wordF l [32] S)).2)
    split
    ·rename_i h1
     exact hr.trans (ge_over h1.1)
    ·have hp := hr.trans ((z06 l [123] _).trans ((i1 (o + 1) h [] (wordF l [123] (wordF l [32] (dKey l (wordF l [32] S)).2))).trans (z06 l [125] _)))
     split
     ·rename_i h1
      exact hp.trans (z2b h1)
     ·exact hp.trans (i2 _ _ _ _)
   ·exact Ge.refl _ _
theorem zhu (l : List UInt8) (f o : Nat) (h : Bool) (acc : List Pt) (S : St) : Ge l S (z05 l f o h acc S).2 := (z9e l f).1 o h acc S
theorem zhw (l : List UInt8) (f o : Nat) (h : Bool) (acc : List Cs) (S : St) : Ge l S (z0f l f o h acc S).2 := (z9e l f).2 o h acc S
end Go.Proofs.YtdkkkeoicekdgaaGreatDoor

end
