/-
  Math of the law that what is safe stays: one file, appended to and synced.
-/
import Derived.Test.YtkhlcmponfkccaaPkHas
import Derived.SliceStrings
import Derived.Deep.Slices
namespace Go.Proofs.Ytkhlcmponfkccaa.Pk
open Go.RowKit Go.PlainAid Go.Maps
set_option linter.unusedVariables false
set_option linter.unusedSimpArgs false

/-- v reads as the row of bools l in w -/
structure BoolsAt (w : World) (v : Value) (l : List Bool) : Prop where
  is : ∃ base cap, v = .slice base l.length cap ∧ ∀ j x, l[j]? = some x → ∃ a : Addr, base = some a ∧ a.block < w.heap.size ∧ w.cell? (a.add j) = some (.bool x)
theorem none_strs (w : World) : StrsAt w (.slice none 0 0) [] := ⟨none, 0, rfl, by simp⟩
theorem none_bools (w : World) : BoolsAt w (.slice none 0 0) [] := ⟨none, 0, rfl, by simp⟩
theorem trod_bool {H : Type} {enc : TypeId × Value → H} {P : Program} {w : World} {base : Nat} {spare : Nat → Bool} {held : Bool} {fuel : Nat} {t : TypeId} {cs : List Value} {x : DataW H × List MemPlace}
    (ht : P.underlying t = some .bool) (h : DataW.trod enc P w base spare held fuel t cs = some x) : ∃ n, cs = [.bool n] := by
  cases fuel with
  | zero => simp [DataW.trod] at h
  | succ n =>
    unfold DataW.trod at h
    rw [ht] at h
    split at h <;> simp_all
theorem open_bools {H : Type} {enc : TypeId × Value → H} {P : Program} {w : World} {base : Nat} {spare : Nat → Bool} {held : Bool} {fuel : Nat} {t e : TypeId} {b : Option Addr} {len cap : Nat} {x : DataW H × List MemPlace}
    (ht : P.underlying t = some (.slice e)) (he : P.underlying e = some .bool) (hc : P.cellsOf e = 1) (h : DataW.trod enc P w base spare held fuel t [.slice b len cap] = some x) :
    ∃ l : List Bool, BoolsAt w (.slice b len cap) l ∧ l.length ≤ 9223372036854775807 := by
  rcases Deep.open_slice1 ht hc h with ⟨hcs, _⟩ | ⟨a, len', cap', m, n, V, D, Pl, hcs, hb, hl, hm, hmm, _, hx⟩
  · simp at hcs
    obtain ⟨rfl, rfl, rfl⟩ := hcs
    exact ⟨[], none_bools w, by simp⟩
  · simp at hcs
    obtain ⟨rfl, rfl, rfl⟩ := hcs
    have hlm : len ≤ m := by rw [hmm]; split <;> omega
    have hf : ∀ i, i < len → ∃ y, w.cell? (a.add i) = some (.bool y) := by
      intro i hi
      obtain ⟨h1, h2⟩ := hx i (by omega)
      obtain ⟨y, e1⟩ := trod_bool he h2
      simp only [List.cons.injEq, and_true] at e1
      rw [e1] at h1
      exact ⟨y, h1⟩
    obtain ⟨Y, hY⟩ := Deep.choose_lt (α := Bool) (p := fun i y => w.cell? (a.add i) = some (.bool y)) hf
    refine ⟨(List.range len).map Y, ⟨some a, cap, by simp, ?_⟩, ?_⟩
    · intro j y hj
      have hlt : j < len := by
        have := (List.getElem?_eq_some_iff.1 hj).1
        simpa using this
      have : y = Y j := by simpa [hlt] using hj.symm
      subst this
      have hcell := hY j hlt
      have hb := World.block_lt_of_cell? w _ hcell
      rw [add_block] at hb
      exact ⟨a, rfl, hb, hcell⟩
    · simp; unfold maxLen at hm; omega

/-! ### one file -/
def oneF (all : Bs) (sf : Nat) : List Fi := [⟨[102], all, sf⟩]
theorem get_one (all : Bs) (sf : Nat) : getF [102] (oneF all sf) = some ⟨[102], all, sf⟩ := rfl
theorem upd_one (all all' : Bs) (sf sf' : Nat) : updF [102] ⟨[102], all', sf'⟩ (oneF all sf) = oneF all' sf' := rfl
theorem append_one {D : Dk} {all t : Bs} {sf : Nat} (hL : D.L = oneF all sf) (hr : D.room = 16384) (hl : all.length + t.length ≤ 16384) :
    ((D.append [102] t).1 = 0 ∧ (D.append [102] t).2.L = oneF (all ++ t) sf ∨ (D.append [102] t).1 ≠ 0 ∧ (D.append [102] t).2.L = oneF all sf) ∧ (D.append [102] t).2.room = 16384 ∧ (D.append [102] t).2.ops ≤ D.ops + 1 := by
  obtain ⟨b1, b2, b3, _⟩ := beg_L D true
  unfold Dk.append
  rw [show isName [102] = true from rfl]
  simp only
  by_cases h : (D.beg true).1 = 0
  · rw [if_neg (by simpa using h), b1, hL, get_one]
    simp only
    rw [if_neg (by rw [b2, hr]; simp [oneF, usedF]; omega)]
    exact ⟨.inl ⟨rfl, rfl⟩, by rw [b2, hr], b3⟩
  · rw [if_pos h]
    exact ⟨.inr ⟨h, by rw [b1, hL]⟩, by rw [b2, hr], b3⟩
theorem sync_one {D : Dk} {all : Bs} {sf : Nat} (hL : D.L = oneF all sf) (hr : D.room = 16384) :
    ((D.sync [102]).1 = 0 ∧ (D.sync [102]).2.L = oneF all all.length ∨ (D.sync [102]).1 ≠ 0 ∧ (D.sync [102]).2.L = oneF all sf) ∧ (D.sync [102]).2.room = 16384 ∧ (D.sync [102]).2.ops ≤ D.ops + 1 := by
  obtain ⟨b1, b2, b3, _⟩ := beg_L D true
  unfold Dk.sync
  rw [show isName [102] = true from rfl]
  simp only
  by_cases h : (D.beg true).1 = 0
  · rw [if_neg (by simpa using h), b1, hL, get_one]
    exact ⟨.inl ⟨rfl, rfl⟩, by rw [b2, hr], b3⟩
  · rw [if_pos h]
    exact ⟨.inr ⟨h, by rw [b1, hL]⟩, by rw [b2, hr], b3⟩
/-- behind Off and On -/
theorem back_one {D : Dk} {all : Bs} {sf : Nat} (hL : D.L = oneF all sf) (hs : sf ≤ all.length) (keep : Int) :
    ∃ n, sf ≤ n ∧ n ≤ all.length ∧ (D.offd.on [keep]).L = oneF (all.take n) n ∧ (D.offd.on [keep]).off = false ∧ (D.offd.on [keep]).kd = 0 ∧ (D.offd.on [keep]).ops = D.ops := by
  have e : (D.offd.on [keep]) = { D.offd with off := false, L := onL [keep] D.L } := by
    unfold Dk.on
    rw [if_pos (show D.offd.off = true from rfl)]
    rfl
  rw [e, hL]
  by_cases h : sf = all.length
  · refine ⟨sf, Nat.le_refl _, hs, ?_, rfl, rfl, rfl⟩
    show onL [keep] [⟨[102], all, sf⟩] = _
    rw [onL_same (f := ⟨[102], all, sf⟩) h, onL, oneF, List.take_of_length_le (by omega)]
  · have hm := Nat.mod_lt (max keep 0).toNat (show 0 < all.length - sf + 1 by omega)
    refine ⟨sf + (max keep 0).toNat % (all.length - sf + 1), by omega, by omega, ?_, rfl, rfl, rfl⟩
    show onL [keep] [⟨[102], all, sf⟩] = _
    rw [onL_some (f := ⟨[102], all, sf⟩) h, onL]
    rfl
theorem read_one {D : Dk} {all : Bs} {n len : Nat} (hL : D.L = oneF (all.take n) n) (hn : n ≤ all.length) (hl : len = all.length) (ho : D.off = false) (hk : D.kd = 0) :
    (D.read [102] 0 (len : Int)).1 = all.take n ∧ (D.read [102] 0 (len : Int)).2.1 = 0 := by
  have hb : D.beg true = (0, { D with ops := D.ops + 1 }) := by
    unfold Dk.beg
    rw [if_neg (by simp), if_neg (by simp [ho])]
    unfold Dk.fail
    rw [if_pos (.inl hk)]
  unfold Dk.read
  have hg : (isName [102] && decide ((0 : Int) ≤ 0) && decide (0 ≤ (len : Int))) = true := by
    rw [show isName [102] = true from rfl]
    simp
  rw [hg, hb]
  simp only
  rw [if_neg (by simp), hL, get_one]
  simp only
  rw [if_neg (by omega)]
  refine ⟨?_, rfl⟩
  simp only [Int.toNat_zero, List.drop_zero, Int.toNat_natCast]
  rw [List.take_of_length_le (by simp; omega)]
theorem bytes_one {D : Dk} {all : Bs} {sf : Nat} (hL : D.L = oneF all sf) : D.bytes [102] = all ∧ D.safe [102] = (sf : Int) := by
  unfold Dk.bytes Dk.safe
  rw [hL, get_one]
  exact ⟨rfl, rfl⟩
theorem kl_app (a b : ByteArray) : kl (a ++ b) = kl a ++ kl b := by simp [kl, ByteArray.data_append]
theorem take_text (a : ByteArray) (n : Nat) : (⟨((kl a).take n).toArray⟩ : ByteArray) = a.extract 0 n := by
  apply WideShapes.bytes_inj
  simp [kl, ByteArray.data_extract]
end Go.Proofs.Ytkhlcmponfkccaa.Pk
