/-
  What is found behind a loss of power at any place: a beginning, with all that was safe; and begins.
-/
import Derived.Test.YtdmgobffhpgjlaaDgBack
import Derived.Laws.AppendOwnNone
namespace Go.Proofs.Ytdmgobffhpgjlaa.Sl.Dg
open Go.RowKit Go.PlainAid Go.Proofs.Ytdmgobffhpgjlaa.Cr
open Go.Proofs.Ytdmgobffhpgjlaa.Pk (Bs Fi Dk kl HasD)
set_option linter.unusedVariables false
set_option maxRecDepth 20000
set_option linter.unusedSimpArgs false

section
variable {D : Dk} {xs : List Sp} {j : Nat} {room N : Int}
theorem keep_back (h : Mild D xs j room N) (hl : xs.length ≤ 100) (hr : 131072 ≤ room) (ks : List Int) :
    ∃ t E i, load (D.offd.on ks) = (t, 0, E) ∧ (∀ zs m, Reads (nb t) zs m → zs = xs.take i ∧ m = (recs (xs.take i)).length) ∧ j ≤ i ∧ i ≤ xs.length ∧ (D.offd.on ks).ops ≤ N ∧ E.ops ≤ N + 2 ∧
      (decide ((recs (xs.take i)).length < t.length) = false → Good E (xs.take i) (xs.take i).length room (N + 6)) ∧
      ∀ L, decide ((recs (xs.take i)).length < t.length) = true → ∃ F, rewL E L (xs.take i) = (0, F, lgOf (xs.take i) (xs.take i).length false) ∧ Good F (xs.take i) (xs.take i).length room (N + 6) := by
  have hn := h.n
  have hrl := recs_len_le h.can
  obtain ⟨n, h1, h2, h3⟩ := on_one h.l (by rw [recsB_len]; have := recs_mono xs h.j; rw [take_all] at this; exact this) ks
  obtain ⟨r1, r2⟩ := on_room D ks
  have hc := on_calm D ks
  have hlo := load_one hc h3
  obtain ⟨i, hi, hrd, hle, hmax⟩ := reads_cut h.can n (by rw [← recsB_len]; exact h2)
  have hcan : ∀ x ∈ xs.take i, Can x := fun x hx => h.can x (List.mem_of_mem_take hx)
  have hnb : nb ((recsB xs).take n) = (recs xs).take n := by rw [nb_take, nb_recs h.can]
  have htl : ((recsB xs).take n).length = n := by rw [List.length_take]; omega
  refine ⟨_, _, i, hlo, fun zs m hz => ?_, hmax j h.j h1, hi, by omega, by simp only; omega, fun hd => ?_, fun L hd => ?_⟩
  · rw [hnb] at hz
    obtain ⟨e1, e2⟩ := reads_one hrd hz
    exact ⟨e1.symm, e2.symm⟩
  · rw [htl, decide_eq_false_iff_not] at hd
    have he : (recs (xs.take i)).length = n := by omega
    have ht : (recsB xs).take n = recsB (xs.take i) := by
      unfold recsB
      rw [← u8_take, recs_cut he]
    refine ⟨⟨?_, Nat.le_refl _, by simp only; rw [r1, h.r], by simp only; omega, hcan⟩, hc.tick 2 _⟩
    simp only
    rw [ht, take_all, recsB_len]
  · have hE : Calm { D.offd.on ks with ops := (D.offd.on ks).ops + 2, L := oneD ((recsB xs).take n) ((recsB xs).take n).length } := hc.tick 2 _
    have hrl2 := recs_len_le hcan
    have hti : (xs.take i).length ≤ 100 := by rw [List.length_take]; omega
    obtain ⟨k, hk, h5⟩ := repl_one (s := recsB (xs.take i)) hE rfl (by simp only; rw [r1, h.r, htl, recsB_len]; rw [recsB_len] at h2; omega)
    refine ⟨(repl { D.offd.on ks with ops := (D.offd.on ks).ops + 2, L := oneD ((recsB xs).take n) ((recsB xs).take n).length } (recsB (xs.take i))).2, by rw [rewL_ok (allCan.2 hcan) (by rw [h5]), lgOf_new], ?_⟩
    rw [h5]
    refine ⟨⟨by simp only; rw [take_all, recsB_len], Nat.le_refl _, by simp only; rw [r1, h.r], by simp only; omega, hcan⟩, hE.tick k _⟩
end

set_option maxHeartbeats 2000000 in
theorem begins_any {w : World} {b1 b2 : Option Addr} {n1 c1 n2 c2 : Nat} {xs ys : List Sp} (ha : SlsAt w (.slice b1 n1 c1) xs) (hb : SlsAt w (.slice b2 n2 c2) ys) (hl : xs.length ≤ 1099511627776) (hle : ys.length ≤ xs.length) (he : xs.take ys.length = ys) :
    Calls Try.prog 16 #[.slice b1 n1 c1, .slice b2 n2 c2] w fun e w' => e = .returned (.bool true) ∧ Below w.heap.size w w' := by
  obtain ⟨e1, g1⟩ := ha.len
  obtain ⟨e2, g2⟩ := hb.len
  have S := same_any (ha.take (m := n2) (by omega)) hb (by rw [List.length_take]; omega) (by omega)
  rw [sameB_yes (by rw [e2]; exact he)] at S
  have l0 : n1 ≤ 1099511627776 := by omega
  have l1 : (n2 : Int) ≤ (n1 : Int) := by omega
  have l2 : (n2 : Int) ≤ (c1 : Int) := by omega
  clear ha hb he hle e1 e2
  go_enter Try.func16, Try.ntmps16
  go_wp2_with fail
  refine S.mono ?_
  rintro e w1 ⟨rfl, G⟩
  go_wp2
  go_ret
  exact ⟨rfl, G⟩
theorem gone_can : Can { Sp.zero with k := 5 } := ⟨by decide, by decide, fun _ => ⟨rfl, rfl⟩, by decide, fun _ => ⟨rfl, rfl⟩, fun _ => rfl, by decide, by decide, by decide, zeros_dig⟩
end Go.Proofs.Ytdmgobffhpgjlaa.Sl.Dg
