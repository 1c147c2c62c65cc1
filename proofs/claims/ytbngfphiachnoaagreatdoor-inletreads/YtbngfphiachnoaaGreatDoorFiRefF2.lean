/-
  Contract of Frame of the document's answers.
-/
import Derived.Test.YtbngfphiachnoaaGreatDoorFiRefG
import Derived.Test.YtbngfphiachnoaaGreatDoorFiRefU2
import Derived.Test.YtbngfphiachnoaaGreatDoorSet7
namespace Go.Proofs.YtbngfphiachnoaaGreatDoor.Fi
open Go.RowKit Go.PlainAid
open Hx HxU
set_option linter.unusedVariables false
set_option maxRecDepth 20000
set_option linter.unusedSimpArgs false

def nte : ByteArray := ⟨#[116, 114, 97, 110, 115, 102, 101, 114, 45, 101, 110, 99, 111, 100, 105, 110, 103]⟩
def ncl : ByteArray := ⟨#[99, 111, 110, 116, 101, 110, 116, 45, 108, 101, 110, 103, 116, 104]⟩
theorem te_low : low (ls nte) = low (ls nTE) := by decide +kernel
theorem cl_low : low (ls ncl) = low (ls nCL) := by decide +kernel
theorem get_low {a b : List UInt8} (h : low a = low b) (xs : List Fd) : getS a xs = getS b xs ∧ getN a xs = getN b xs := by
  unfold getS getN
  rw [valsF_low h]; exact ⟨rfl, rfl⟩
theorem getS_short {name : List UInt8} {xs : List Fd} (h : Short xs) : (getS name xs).size ≤ 100000 := by
  unfold getS
  cases hq : (valsF name xs)[0]? with
  | none => exact Nat.zero_le _
  | some s =>
    obtain ⟨x, hx, rfl⟩ := valsF_mem (List.mem_of_getElem? hq)
    exact h.v x hx
theorem chunked_is (s : ByteArray) : ((tx (low (ls s))).toList == [99, 104, 117, 110, 107, 101, 100]) = sameL (ls s) (ls wChunked) := by
  unfold sameL
  rw [ls_toList, ls_tx, show low (ls wChunked) = [99, 104, 117, 110, 107, 101, 100] by decide +kernel]
set_option maxHeartbeats 2000000 in
theorem refFrame_any {w : World} {v : Value} {xs : List Fd} (m : Int) (hv : FdsAt w v xs) (hs : Short xs) (h2 : -9223372036854775808 ≤ m) (h3 : m ≤ 9223372036854775807) :
    Calls Tryz.prog 29 #[v, .int .i64 m] w fun e w' => e = .returned (.tuple #[.int .i64 (frF xs m).n, .bool (frF xs m).c, .int .i64 (frF xs m).e]) ∧ Below w.heap.size w w' := by
  have hl := hs.len
  have hn : ∀ x ∈ xs, x.n.size ≤ 1099511627776 := fun x hx => by have := hs.n x hx; omega
  have r1 : Calls Tryz.prog 28 #[v, .string ⟨#[116, 114, 97, 110, 115, 102, 101, 114, 45, 101, 110, 99, 111, 100, 105, 110, 103]⟩] w fun e w' => e = .returned (.tuple #[.string (getS (ls nTE) xs), .int .i64 (getN (ls nTE) xs)]) ∧ Below w.heap.size w w' := by
    have := refGet_any nte hv (by omega) (by decide) hn (by decide)
    rw [(get_low te_low xs).1, (get_low te_low xs).2] at this
    exact this
  have r2 : ∀ w2, Below w.heap.size w w2 → Calls Tryz.prog 28 #[v, .string ⟨#[99, 111, 110, 116, 101, 110, 116, 45, 108, 101, 110, 103, 116, 104]⟩] w2 fun e w' => e = .returned (.tuple #[.string (getS (ls nCL) xs), .int .i64 (getN (ls nCL) xs)]) ∧ Below w2.heap.size w2 w' := fun w2 hb => by
    have := refGet_any ncl (hv.below hb) (by omega) (by decide) hn (by decide)
    rw [(get_low cl_low xs).1, (get_low cl_low xs).2] at this
    exact this
  have z1 := getS_short (name := ls nTE) hs
  have z2 := getS_short (name := ls nCL) hs
  have n1 : getN (ls nTE) xs ≤ 1000 := Nat.le_trans (valsF_le _ _) hl
  have n2 : getN (ls nCL) xs ≤ 1000 := Nat.le_trans (valsF_le _ _) hl
  obtain ⟨base, cap, rfl, _, _⟩ := hv.is
  clear hv hs hl hn
  unfold frF lenN lenE
  have lo := fun w => refLow_any (getS (ls nTE) xs) w (by omega)
  have un := fun w => refUndec_any (getS (ls nCL) xs) m w (by omega) h2 h3
  have uc := und_cases (getS (ls nCL) xs) m
  have ch := chunked_is (getS (ls nTE) xs)
  generalize tx (low (ls (getS (ls nTE) xs))) = LT at lo ch
  generalize sameL (ls (getS (ls nTE) xs)) (ls wChunked) = sc at *
  generalize undN (getS (ls nCL) xs) m = UN at *
  generalize undE (getS (ls nCL) xs) m = UE at *
  generalize getS (ls nTE) xs = s1 at *
  generalize getS (ls nCL) xs = s2 at *
  generalize getN (ls nTE) xs = t at *
  generalize getN (ls nCL) xs = k at *
  have cs : 1 < t ∨ (t = 1 ∧ 0 < k) ∨ (t = 1 ∧ k = 0) ∨ (t = 0 ∧ k = 0) ∨ (t = 0 ∧ 1 < k) ∨ (t = 0 ∧ k = 1) := by omega
  rcases cs with c | ⟨rfl, c⟩ | ⟨rfl, rfl⟩ | ⟨rfl, rfl⟩ | ⟨rfl, c⟩ | ⟨rfl, rfl⟩
  · rw [if_neg (by omega), if_pos (by omega)]
    have g1 : (1 : Int) < (t : Int) := by omega
    have g0 : (0 : Int) < (t : Int) := by omega
    clear uc ch un lo c
    go_enter Tryz.func29, Tryz.ntmps29
    go_wp2_with fail
    refine r1.mono ?_
    rintro e w1 ⟨rfl, G⟩
    clear r1
    go_wp2_with fail
    refine (r2 _ G).mono ?_
    rintro e w2 ⟨rfl, G2⟩
    clear r2
    go_wp2
    go_ret3
    exact ⟨rfl, G.trans (G2.mono G.size)⟩
  · rw [if_neg (by omega), if_pos (by omega)]
    have g1 : (0 : Int) < (k : Int) := by omega
    clear uc ch un lo c
    go_enter Tryz.func29, Tryz.ntmps29
    go_wp2_with fail
    refine r1.mono ?_
    rintro e w1 ⟨rfl, G⟩
    clear r1
    go_wp2_with fail
    refine (r2 _ G).mono ?_
    rintro e w2 ⟨rfl, G2⟩
    clear r2
    go_wp2
    go_ret3
    exact ⟨rfl, G.trans (G2.mono G.size)⟩
  · rw [if_neg (by omega), if_neg (by omega), if_neg (by omega)]
    clear uc un
    cases sc with
    | true =>
      rw [if_pos rfl]
      go_enter Tryz.func29, Tryz.ntmps29
      go_wp2_with fail
      refine r1.mono ?_
      rintro e w1 ⟨rfl, G⟩
      clear r1
      go_wp2_with fail
      refine (r2 _ G).mono ?_
      rintro e w2 ⟨rfl, G2⟩
      replace G := G.trans (G2.mono G.size)
      clear r2 G2
      go_wp2_with fail
      refine (lo _).mono ?_
      rintro e w3 ⟨rfl, G3⟩
      replace G := G.trans (G3.mono G.size)
      clear lo G3
      go_wp2
      go_ret3
      exact ⟨rfl, G⟩
    | false =>
      rw [if_neg (by simp)]
      go_enter Tryz.func29, Tryz.ntmps29
      go_wp2_with fail
      refine r1.mono ?_
      rintro e w1 ⟨rfl, G⟩
      clear r1
      go_wp2_with fail
      refine (r2 _ G).mono ?_
      rintro e w2 ⟨rfl, G2⟩
      replace G := G.trans (G2.mono G.size)
      clear r2 G2
      go_wp2_with fail
      refine (lo _).mono ?_
      rintro e w3 ⟨rfl, G3⟩
      replace G := G.trans (G3.mono G.size)
      clear lo G3
      go_wp2
      go_ret3
      exact ⟨rfl, G⟩
  · rw [if_pos ⟨rfl, rfl⟩]
    clear uc ch un lo
    go_enter Tryz.func29, Tryz.ntmps29
    go_wp2_with fail
    refine r1.mono ?_
    rintro e w1 ⟨rfl, G⟩
    clear r1
    go_wp2_with fail
    refine (r2 _ G).mono ?_
    rintro e w2 ⟨rfl, G2⟩
    clear r2
    go_wp2
    go_ret3
    exact ⟨rfl, G.trans (G2.mono G.size)⟩
  · rw [if_neg (by omega), if_pos (by omega)]
    have g1 : (1 : Int) < (k : Int) := by omega
    have g2 : ((k : Int) == 0) = false := by rw [beq_eq_false_iff_ne]; omega
    clear uc ch lo c
    go_enter Tryz.func29, Tryz.ntmps29
    go_wp2_with fail
    refine r1.mono ?_
    rintro e w1 ⟨rfl, G⟩
    clear r1
    go_wp2_with fail
    refine (r2 _ G).mono ?_
    rintro e w2 ⟨rfl, G2⟩
    clear r2
    go_wp2_with fail
    refine (un _).mono ?_
    rintro e w3 ⟨rfl, rfl⟩
    clear un
    go_wp2
    go_ret3
    exact ⟨rfl, G.trans (G2.mono G.size)⟩
  · rw [if_neg (by omega), if_neg (by omega), if_pos rfl]
    clear ch lo
    rcases uc with ⟨rfl, _, _⟩ | ⟨rfl | rfl, rfl⟩
    all_goals
      go_enter Tryz.func29, Tryz.ntmps29
      go_wp2_with fail
      refine r1.mono ?_
      rintro e w1 ⟨rfl, G⟩
      clear r1
      go_wp2_with fail
      refine (r2 _ G).mono ?_
      rintro e w2 ⟨rfl, G2⟩
      clear r2
      go_wp2_with fail
      refine (un _).mono ?_
      rintro e w3 ⟨rfl, rfl⟩
      clear un
      go_wp2
      go_ret3
      exact ⟨rfl, G.trans (G2.mono G.size)⟩
end Go.Proofs.YtbngfphiachnoaaGreatDoor.Fi
