/- The digest as a plain function: words are whole numbers from 0 to 2^32 - 1, their sums and bits as the language has them. -/
import Derived.WalkKit
import Derived.Laws.BitsAllLaws
import Derived.Lib.Hide
namespace Go.Proofs.YtmaafhhdbhkplaaDoor
open Go.RowKit

abbrev Bs := List UInt8
def Wd (x : Int) : Prop := 0 ≤ x ∧ x < 4294967296
abbrev WdAll (l : List Int) : Prop := ∀ x ∈ l, Wd x

/-- x turned right by m bits. -/
def rot (x m : Int) : Int := bits .or .u32 (x / 2 ^ m.toNat) (x * 2 ^ (32 - m.toNat) % 4294967296)
theorem wd_bits (o : BinOp) (a b : Int) : Wd (bits o .u32 a b) := by
  unfold Wd bits
  rw [IntKind.wrap_u32']
  omega
theorem wd_rot (x m : Int) : Wd (rot x m) := wd_bits _ _ _
theorem wd_mod (x : Int) : Wd (x % 4294967296) := ⟨Int.emod_nonneg _ (by decide), Int.emod_lt_of_pos _ (by decide)⟩

/-- The word of four bytes, the highest first. -/
def wd4 (a b c d : UInt8) : Int := (a.toNat : Int) * 16777216 + (b.toNat : Int) * 65536 + (c.toNat : Int) * 256 + (d.toNat : Int)
theorem wd_wd4 (a b c d : UInt8) : Wd (wd4 a b c d) := by
  have := a.toNat_lt
  have := b.toNat_lt
  have := c.toNat_lt
  have := d.toNat_lt
  unfold wd4 Wd; omega

def s1F (x : Int) : Int := bits .xor .u32 (bits .xor .u32 (rot x 17) (rot x 19)) (x / 1024)
def s0F (x : Int) : Int := bits .xor .u32 (bits .xor .u32 (rot x 7) (rot x 18)) (x / 8)
def nextF (x2 x7 x15 x16 : Int) : Int := (s1F x2 + x7 + s0F x15 + x16) % 4294967296
theorem wd_next (a b c d : Int) : Wd (nextF a b c d) := wd_mod _

/-- The first n words of a block. -/
def w16 (p : Bs) : Nat → List Int
  | 0 => []
  | n + 1 => w16 p n ++ [wd4 (p.getD (4 * n) 0) (p.getD (4 * n + 1) 0) (p.getD (4 * n + 2) 0) (p.getD (4 * n + 3) 0)]
theorem w16_length (p : Bs) : ∀ n, (w16 p n).length = n
  | 0 => rfl
  | n + 1 => by rw [w16, List.length_append, w16_length p n]; rfl
theorem w16_wd (p : Bs) : ∀ n, WdAll (w16 p n)
  | 0 => by intro x hx; cases hx
  | n + 1 => by
    intro x hx
    rw [w16, List.mem_append] at hx
    rcases hx with hx | hx
    · exact w16_wd p n x hx
    · rw [List.mem_singleton] at hx; subst hx; exact wd_wd4 _ _ _ _

/-- n words more. -/
def sch (l : List Int) : Nat → List Int
  | 0 => l
  | n + 1 => sch l n ++ [nextF ((sch l n).getD (n + 14) 0) ((sch l n).getD (n + 9) 0) ((sch l n).getD (n + 1) 0) ((sch l n).getD n 0)]
theorem sch_length (l : List Int) : ∀ n, (sch l n).length = l.length + n
  | 0 => rfl
  | n + 1 => by rw [sch, List.length_append, sch_length l n]; rfl
theorem sch_wd (l : List Int) (h : WdAll l) : ∀ n, WdAll (sch l n)
  | 0 => h
  | n + 1 => by
    intro x hx
    rw [sch, List.mem_append] at hx
    rcases hx with hx | hx
    · exact sch_wd l h n x hx
    · rw [List.mem_singleton] at hx; subst hx; exact wd_next _ _ _ _
/-- The words of all rounds. -/
def schF (p : Bs) : List Int := sch (w16 p 16) 48
theorem schF_length (p : Bs) : (schF p).length = 64 := by rw [schF, sch_length, w16_length]
theorem schF_wd (p : Bs) : WdAll (schF p) := sch_wd _ (w16_wd p 16) 48
theorem WdAll.getD {l : List Int} (h : WdAll l) (i : Nat) : Wd (l.getD i 0) := by
  rw [List.getD_eq_getElem?_getD]
  by_cases hi : i < l.length
  · rw [List.getElem?_eq_getElem hi]; exact h _ (List.getElem_mem hi)
  · rw [List.getElem?_eq_none (by omega)]; exact ⟨by decide, by decide⟩

/-- Eight words. -/
structure S8 where
  (a b c d e f g h : Int)
def S8.list (s : S8) : List Int := [s.a, s.b, s.c, s.d, s.e, s.f, s.g, s.h]
structure S8.Ok (s : S8) : Prop where
  (a : Wd s.a) (b : Wd s.b) (c : Wd s.c) (d : Wd s.d) (e : Wd s.e) (f : Wd s.f) (g : Wd s.g) (h : Wd s.h)

def T1 (e f g h k w : Int) : Int := (h + bits .xor .u32 (bits .xor .u32 (rot e 6) (rot e 11)) (rot e 25) + bits .xor .u32 (bits .and .u32 e f) (bits .and .u32 (bits .xor .u32 IntKind.u32.max e) g) + k + w) % 4294967296
def T2 (a b c : Int) : Int := (bits .xor .u32 (bits .xor .u32 (rot a 2) (rot a 13)) (rot a 22) + bits .xor .u32 (bits .xor .u32 (bits .and .u32 a b) (bits .and .u32 a c)) (bits .and .u32 b c)) % 4294967296
/-- One round. -/
def stepF (s : S8) (k w : Int) : S8 := ⟨(T1 s.e s.f s.g s.h k w + T2 s.a s.b s.c) % 4294967296, s.a, s.b, s.c, (s.d + T1 s.e s.f s.g s.h k w) % 4294967296, s.e, s.f, s.g⟩
theorem stepF_ok {s : S8} (h : s.Ok) (k w : Int) : (stepF s k w).Ok := ⟨wd_mod _, h.a, h.b, h.c, wd_mod _, h.e, h.f, h.g⟩
/-- The first n rounds. -/
def rnd (ks ws : List Int) (s : S8) : Nat → S8
  | 0 => s
  | n + 1 => stepF (rnd ks ws s n) (ks.getD n 0) (ws.getD n 0)
theorem rnd_ok (ks ws : List Int) {s : S8} (h : s.Ok) : ∀ n, (rnd ks ws s n).Ok
  | 0 => h
  | n + 1 => stepF_ok (rnd_ok ks ws h n) _ _
def addF (s r : S8) : S8 := ⟨(s.a + r.a) % 4294967296, (s.b + r.b) % 4294967296, (s.c + r.c) % 4294967296, (s.d + r.d) % 4294967296, (s.e + r.e) % 4294967296, (s.f + r.f) % 4294967296, (s.g + r.g) % 4294967296, (s.h + r.h) % 4294967296⟩
theorem addF_ok (s r : S8) : (addF s r).Ok := ⟨wd_mod _, wd_mod _, wd_mod _, wd_mod _, wd_mod _, wd_mod _, wd_mod _, wd_mod _⟩
/-- The eight words behind a block. -/
def mixF (ks : List Int) (s : S8) (p : Bs) : S8 := addF s (rnd ks (schF p) s 64)
theorem mixF_ok (ks : List Int) (s : S8) (p : Bs) : (mixF ks s p).Ok := addF_ok _ _
/-- The eight words behind the first n blocks of a text. -/
def stN (ks : List Int) (s0 : S8) (m : Bs) : Nat → S8
  | 0 => s0
  | n + 1 => mixF ks (stN ks s0 m n) ((m.drop (64 * n)).take 64)
theorem stN_ok (ks : List Int) {s0 : S8} (h : s0.Ok) (m : Bs) : ∀ n, (stN ks s0 m n).Ok
  | 0 => h
  | _ + 1 => mixF_ok _ _ _
theorem stN_append (ks : List Int) (s0 : S8) (m r : Bs) : ∀ n, 64 * n ≤ m.length → stN ks s0 (m ++ r) n = stN ks s0 m n
  | 0, _ => rfl
  | n + 1, h => by
    rw [stN, stN, stN_append ks s0 m r n (by omega), List.drop_append_of_le_length (by omega), List.take_append_of_le_length (by rw [List.length_drop]; omega)]

/-- The numbers of the rounds, and the beginning. -/
def kL : List Int := [1116352408, 1899447441, 3049323471, 3921009573, 961987163, 1508970993, 2453635748, 2870763221, 3624381080, 310598401, 607225278, 1426881987, 1925078388, 2162078206, 2614888103, 3248222580, 3835390401, 4022224774, 264347078, 604807628, 770255983, 1249150122, 1555081692, 1996064986, 2554220882, 2821834349, 2952996808, 3210313671, 3336571891, 3584528711, 113926993, 338241895, 666307205, 773529912, 1294757372, 1396182291, 1695183700, 1986661051, 2177026350, 2456956037, 2730485921, 2820302411, 3259730800, 3345764771, 3516065817, 3600352804, 4094571909, 275423344, 430227734, 506948616, 659060556, 883997877, 958139571, 1322822218, 1537002063, 1747873779, 1955562222, 2024104815, 2227730452, 2361852424, 2428436474, 2756734187, 3204031479, 3329325298]
def h0 : S8 := ⟨1779033703, 3144134277, 1013904242, 2773480762, 1359893119, 2600822924, 528734635, 1541459225⟩
theorem h0_ok : h0.Ok := by constructor <;> exact ⟨by decide, by decide⟩
theorem kL_length : kL.length = 64 := rfl

end Go.Proofs.YtmaafhhdbhkplaaDoor
