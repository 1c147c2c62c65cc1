/-
  SHA-256 as plain functions of numbers and lists: turns, sums, the schedule, the rounds, the state behind a block. No program is spoken of.
-/
import Derived.WalkKit
import Derived.Laws.BitsAllLaws
namespace Go.Proofs.YtmnkhcefdpcheaaDoor.Sh
open Go.RowKit
set_option linter.unusedVariables false

def add32 (a b : Nat) : Nat := (a + b) % 4294967296
def ror (x n : Nat) : Nat := (x * 2 ^ (32 - n) % 4294967296) ||| (x / 2 ^ n)
def ss0 (x : Nat) : Nat := ror x 7 ^^^ ror x 18 ^^^ (x / 8)
def ss1 (x : Nat) : Nat := ror x 17 ^^^ ror x 19 ^^^ (x / 1024)
def bs0 (x : Nat) : Nat := ror x 2 ^^^ ror x 13 ^^^ ror x 22
def bs1 (x : Nat) : Nat := ror x 6 ^^^ ror x 11 ^^^ ror x 25
def chN (e f g : Nat) : Nat := (e &&& f) ^^^ ((4294967295 - e) &&& g)
def majN (a b c : Nat) : Nat := (a &&& b) ^^^ (a &&& c) ^^^ (b &&& c)

theorem add32_lt (a b : Nat) : add32 a b < 4294967296 := Nat.mod_lt _ (by decide)
theorem xor_lt {a b : Nat} (ha : a < 4294967296) (hb : b < 4294967296) : a ^^^ b < 4294967296 := Nat.xor_lt_two_pow (n := 32) ha hb
theorem or_lt {a b : Nat} (ha : a < 4294967296) (hb : b < 4294967296) : a ||| b < 4294967296 := Nat.or_lt_two_pow (n := 32) ha hb
theorem and_lt {a b : Nat} (ha : a < 4294967296) : a &&& b < 4294967296 := Nat.lt_of_le_of_lt Nat.and_le_left ha
theorem div_lt {a n : Nat} (ha : a < 4294967296) : a / n < 4294967296 := Nat.lt_of_le_of_lt (Nat.div_le_self _ _) ha
theorem ror_lt {x n : Nat} (hx : x < 4294967296) : ror x n < 4294967296 := or_lt (Nat.mod_lt _ (by decide)) (div_lt hx)
theorem ss0_lt {x : Nat} (hx : x < 4294967296) : ss0 x < 4294967296 := xor_lt (xor_lt (ror_lt hx) (ror_lt hx)) (div_lt hx)
theorem ss1_lt {x : Nat} (hx : x < 4294967296) : ss1 x < 4294967296 := xor_lt (xor_lt (ror_lt hx) (ror_lt hx)) (div_lt hx)
theorem bs0_lt {x : Nat} (hx : x < 4294967296) : bs0 x < 4294967296 := xor_lt (xor_lt (ror_lt hx) (ror_lt hx)) (ror_lt hx)
theorem bs1_lt {x : Nat} (hx : x < 4294967296) : bs1 x < 4294967296 := xor_lt (xor_lt (ror_lt hx) (ror_lt hx)) (ror_lt hx)
theorem ch_lt {e f g : Nat} (h : e < 4294967296) (hf : g < 4294967296) : chN e f g < 4294967296 := xor_lt (and_lt h) (Nat.lt_of_le_of_lt Nat.and_le_right hf)
theorem maj_lt {a b c : Nat} (h : a < 4294967296) (hb : b < 4294967296) : majN a b c < 4294967296 := xor_lt (xor_lt (and_lt h) (and_lt h)) (and_lt hb)

/-- sums as the walk spells them -/
theorem wadd (a b : Nat) : IntKind.u32.wrap ((a : Int) + (b : Int)) = ((add32 a b : Nat) : Int) := by
  rw [IntKind.wrap_u32']; unfold add32; omega
theorem wxor {a b : Nat} (ha : a < 4294967296) (hb : b < 4294967296) : bits .xor .u32 (a : Int) (b : Int) = ((a ^^^ b : Nat) : Int) := u32_xor_nat a b ha hb
theorem wor {a b : Nat} (ha : a < 4294967296) (hb : b < 4294967296) : bits .or .u32 (a : Int) (b : Int) = ((a ||| b : Nat) : Int) := u32_or_nat a b ha hb
theorem wand {a b : Nat} (ha : a < 4294967296) (hb : b < 4294967296) : bits .and .u32 (a : Int) (b : Int) = ((a &&& b : Nat) : Int) := u32_and_nat a b ha hb
theorem nxor (e : Nat) (h : e < 4294967296) : e ^^^ 4294967295 = 4294967295 - e := by
  have := BitVec.toNat_not (x := BitVec.ofNat 32 e)
  rw [← BitVec.xor_allOnes, BitVec.toNat_xor, BitVec.toNat_allOnes, BitVec.toNat_ofNat, Nat.mod_eq_of_lt (by simpa using h)] at this
  simpa using this
theorem wnot {e : Nat} (h : e < 4294967296) : bits .xor .u32 4294967295 (e : Int) = ((4294967295 - e : Nat) : Int) := by
  rw [← nxor e h, Nat.xor_comm]
  exact u32_xor_nat 4294967295 e (by decide) h
theorem wshr (x n : Nat) : (x : Int) / 2 ^ n = ((x / 2 ^ n : Nat) : Int) := by simp
theorem wshl (x n : Nat) : IntKind.u32.wrap ((x : Int) * 2 ^ n) = ((x * 2 ^ n % 4294967296 : Nat) : Int) := by
  rw [IntKind.wrap_u32']; simp

/-- the k of t -/
def keys : List Nat := [1116352408, 1899447441, 3049323471, 3921009573, 961987163, 1508970993, 2453635748, 2870763221, 3624381080, 310598401, 607225278, 1426881987, 1925078388, 2162078206, 2614888103, 3248222580, 3835390401, 4022224774, 264347078, 604807628, 770255983, 1249150122, 1555081692, 1996064986, 2554220882, 2821834349, 2952996808, 3210313671, 3336571891, 3584528711, 113926993, 338241895, 666307205, 773529912, 1294757372, 1396182291, 1695183700, 1986661051, 2177026350, 2456956037, 2730485921, 2820302411, 3259730800, 3345764771, 3516065817, 3600352804, 4094571909, 275423344, 430227734, 506948616, 659060556, 883997877, 958139571, 1322822218, 1537002063, 1747873779, 1955562222, 2024104815, 2227730452, 2361852424, 2428436474, 2756734187, 3204031479, 3329325298]
def start : List Nat := [1779033703, 3144134277, 1013904242, 2773480762, 1359893119, 2600822924, 528734635, 1541459225]

/-- the i-th of a row of numbers -/
def at0 (l : List Nat) (i : Nat) : Nat := l.getD i 0
/-- all numbers of a row are below m -/
def Lt (m : Nat) (l : List Nat) : Prop := ∀ i, at0 l i < m
theorem at0_lt {l : List Nat} {i : Nat} (h : i < l.length) : at0 l i = l[i] := by unfold at0; simp [h]
theorem at0_set (l : List Nat) (i j v : Nat) (h : i < l.length) : at0 (l.set i v) j = if i = j then v else at0 l j := by
  unfold at0
  simp only [List.getD_eq_getElem?_getD, List.getElem?_set]
  by_cases e : i = j
  · subst e; simp [h]
  · simp [e]
theorem Lt.set {m : Nat} {l : List Nat} (h : Lt m l) {i v : Nat} (hv : v < m) : Lt m (l.set i v) := by
  intro j
  by_cases hi : i < l.length
  · rw [at0_set l i j v hi]; split
    · exact hv
    · exact h j
  · rw [List.set_eq_of_length_le (by omega)]; exact h j
theorem lt_of_all {m : Nat} (hm : 0 < m) {l : List Nat} (h : ∀ x ∈ l, x < m) : Lt m l := by
  intro i
  unfold at0
  rw [List.getD_eq_getElem?_getD]
  rcases hh : l[i]? with _ | x
  · simpa using hm
  · exact h x (List.mem_of_getElem? hh)

/-- the number of the 4 bytes from 4 * t on -/
def word (b : List Nat) (t : Nat) : Nat := ((((at0 b (4 * t) * 16777216 % 4294967296) ||| (at0 b (4 * t + 1) * 65536 % 4294967296)) ||| (at0 b (4 * t + 2) * 256 % 4294967296)) ||| at0 b (4 * t + 3))
def later (L : List Nat) (t : Nat) : Nat := add32 (add32 (add32 (ss1 (at0 L (t - 2))) (at0 L (t - 7))) (ss0 (at0 L (t - 15)))) (at0 L (t - 16))
def schedTo (b : List Nat) : Nat → List Nat
  | 0 => List.replicate 64 0
  | t + 1 => (schedTo b t).set t (if t < 16 then word b t else later (schedTo b t) t)
theorem sched_len (b : List Nat) : ∀ t, (schedTo b t).length = 64
  | 0 => by simp [schedTo]
  | t + 1 => by simp [schedTo, sched_len b t]
theorem word_lt {b : List Nat} (h : Lt 256 b) (t : Nat) : word b t < 4294967296 := by
  unfold word
  exact or_lt (or_lt (or_lt (Nat.mod_lt _ (by decide)) (Nat.mod_lt _ (by decide))) (Nat.mod_lt _ (by decide))) (Nat.lt_of_lt_of_le (h _) (by decide))
theorem sched_lt {b : List Nat} (h : Lt 256 b) : ∀ t, Lt 4294967296 (schedTo b t)
  | 0 => lt_of_all (by decide) (by simp [schedTo])
  | t + 1 => by
    unfold schedTo
    refine (sched_lt h t).set ?_
    split
    · exact word_lt h t
    · exact add32_lt _ _

/-- a to h -/
structure R8 where
  a : Nat
  b : Nat
  c : Nat
  d : Nat
  e : Nat
  f : Nat
  g : Nat
  h : Nat
def R8.of (s : List Nat) : R8 := ⟨at0 s 0, at0 s 1, at0 s 2, at0 s 3, at0 s 4, at0 s 5, at0 s 6, at0 s 7⟩
def R8.list (r : R8) : List Nat := [r.a, r.b, r.c, r.d, r.e, r.f, r.g, r.h]
def t1 (r : R8) (k w : Nat) : Nat := add32 (add32 (add32 (add32 r.h (bs1 r.e)) (chN r.e r.f r.g)) k) w
def t2 (r : R8) : Nat := add32 (bs0 r.a) (majN r.a r.b r.c)
def R8.next (r : R8) (k w : Nat) : R8 := ⟨add32 (t1 r k w) (t2 r), r.a, r.b, r.c, add32 r.d (t1 r k w), r.e, r.f, r.g⟩
def roundTo (s W : List Nat) : Nat → R8
  | 0 => R8.of s
  | t + 1 => (roundTo s W t).next (at0 keys t) (at0 W t)
structure R8.Ok (r : R8) : Prop where
  a : r.a < 4294967296
  b : r.b < 4294967296
  c : r.c < 4294967296
  d : r.d < 4294967296
  e : r.e < 4294967296
  f : r.f < 4294967296
  g : r.g < 4294967296
  h : r.h < 4294967296
theorem round_ok {s W : List Nat} (hs : Lt 4294967296 s) : ∀ t, (roundTo s W t).Ok
  | 0 => ⟨hs 0, hs 1, hs 2, hs 3, hs 4, hs 5, hs 6, hs 7⟩
  | t + 1 => have r := round_ok (W := W) hs t
    ⟨add32_lt _ _, r.a, r.b, r.c, add32_lt _ _, r.e, r.f, r.g⟩
def addR (s : List Nat) (r : R8) : List Nat :=
  [add32 (at0 s 0) r.a, add32 (at0 s 1) r.b, add32 (at0 s 2) r.c, add32 (at0 s 3) r.d, add32 (at0 s 4) r.e, add32 (at0 s 5) r.f, add32 (at0 s 6) r.g, add32 (at0 s 7) r.h]
def mixL (s b : List Nat) : List Nat := addR s (roundTo s (schedTo b 64) 64)
theorem mix_len (s b : List Nat) : (mixL s b).length = 8 := by simp only [mixL, addR, List.length_cons, List.length_nil]
theorem addR_lt (s : List Nat) (r : R8) : Lt 4294967296 (addR s r) := by
  refine lt_of_all (by decide) ?_
  intro x hx
  simp only [addR, List.mem_cons, List.not_mem_nil, or_false] at hx
  rcases hx with h | h | h | h | h | h | h | h <;> (rw [h]; exact add32_lt _ _)
theorem mix_lt (s b : List Nat) : Lt 4294967296 (mixL s b) := by unfold mixL; exact addR_lt _ _
theorem keys_lt : Lt 4294967296 keys := lt_of_all (by decide) (by decide +kernel)
theorem start_lt : Lt 4294967296 start := lt_of_all (by decide) (by decide)

theorem round_zero (s W : List Nat) : roundTo s W 0 = R8.of s := rfl
theorem round_succ (s W : List Nat) (t : Nat) : roundTo s W (t + 1) = (roundTo s W t).next (at0 keys t) (at0 W t) := rfl
theorem sched_zero (b : List Nat) : schedTo b 0 = List.replicate 64 0 := rfl
theorem sched_early (b : List Nat) (t : Nat) (h : t < 16) : schedTo b (t + 1) = (schedTo b t).set t (word b t) := by
  rw [schedTo, if_pos h]
theorem sched_late (b : List Nat) (t : Nat) (h : ¬ t < 16) : schedTo b (t + 1) = (schedTo b t).set t (later (schedTo b t) t) := by
  rw [schedTo, if_neg h]
theorem mix_eq (s b : List Nat) : mixL s b = addR s (roundTo s (schedTo b 64) 64) := rfl
/-- the digest of a state -/
def digTo (s : List Nat) : Nat → List Nat
  | 0 => List.replicate 32 0
  | t + 1 => ((((digTo s t).set (4 * t) (at0 s t / 16777216 % 256)).set (4 * t + 1) (at0 s t / 65536 % 256)).set (4 * t + 2) (at0 s t / 256 % 256)).set (4 * t + 3) (at0 s t % 256)
theorem dig_len (s : List Nat) : ∀ t, (digTo s t).length = 32
  | 0 => by simp [digTo]
  | t + 1 => by simp [digTo, dig_len s t]
theorem dig_zero (s : List Nat) : digTo s 0 = List.replicate 32 0 := rfl
theorem dig_succ (s : List Nat) (t : Nat) : digTo s (t + 1) = ((((digTo s t).set (4 * t) (at0 s t / 16777216 % 256)).set (4 * t + 1) (at0 s t / 65536 % 256)).set (4 * t + 2) (at0 s t / 256 % 256)).set (4 * t + 3) (at0 s t % 256) := rfl
theorem dig_lt (s : List Nat) : ∀ t, Lt 256 (digTo s t)
  | 0 => lt_of_all (by decide) (by simp [digTo])
  | t + 1 => by
    rw [dig_succ]
    exact ((((dig_lt s t).set (Nat.mod_lt _ (by decide))).set (Nat.mod_lt _ (by decide))).set (Nat.mod_lt _ (by decide))).set (Nat.mod_lt _ (by decide))
attribute [irreducible] schedTo roundTo mixL digTo

/-- a row of numbers in memory -/
def vals (k : IntKind) (l : List Nat) : List Value := l.map fun (n : Nat) => Value.int k (n : Int)
theorem vals_len (k : IntKind) (l : List Nat) : (vals k l).length = l.length := by simp [vals]
theorem vals_get {k : IntKind} {l : List Nat} {j : Nat} (h : j < l.length) : (vals k l)[j]? = some (.int k (at0 l j)) := by rw [at0_lt h]; simp [vals, h]
theorem vals_set (k : IntKind) (l : List Nat) (i v : Nat) : (vals k l).set i (.int k (v : Int)) = vals k (l.set i v) := by simp [vals, List.map_set]
theorem vals_append (k : IntKind) (a b : List Nat) : vals k (a ++ b) = vals k a ++ vals k b := by simp [vals]
theorem vals_one (k : IntKind) (l : List Nat) : ∀ u ∈ vals k l, u.oneCell' = true := by
  intro u hu
  simp only [vals, List.mem_map] at hu
  obtain ⟨c, _, rfl⟩ := hu
  rfl
end Go.Proofs.YtmnkhcefdpcheaaDoor.Sh
