/-
  Contract of renew: all is known of the log, and safe.
  Contract of Open: the log of a disk, and its slips; and of Open of no disk.
  The builder of texts that stands alone: what its methods do. No conditions but that it holds at most 2^40 bytes.
  Contract of recordsOf: all records of a row of slips, one behind the other; or none, if one of them can't be.
-/
import Derived.Test.YtdmgobffhpgjlaaGreatDgA
import Derived.Test.YtdmgobffhpgjlaaGreatDgLeaf
section
namespace Go.Proofs.YtdmgobffhpgjlaaGreat.Sl.Dg
open Go.RowKit Go.PlainAid Go.Proofs.YtdmgobffhpgjlaaGreat.Cr
open Go.Proofs.YtdmgobffhpgjlaaGreat.Pk (Dk)
set_option linter.unusedVariables false
set_option maxRecDepth 20000
set_option linter.unusedSimpArgs false

set_option maxHeartbeats 2000000 in
theorem renew_any {w0 w : World} {p q : Nat} {D : Dk} {L : Lg} {X : List (Nat × Obj)} (h : HasL w0 w p q D L X) (n b : Int) :
    Calls Tryz.prog 38 #[.pointer (some ⟨q, 0, none⟩), .agg #[.int .i64 n, .int .i64 b]] w fun e w' => e = .returned (.tuple #[]) ∧ HasL w0 w' p q D ⟨n, b, n, false⟩ X := by
  have J := At.new w 80 #[.int .i64 n, .int .i64 b]
  have hne : q ≠ w.heap.size := by have := h.lt; omega
  replace h := h.alloc (.cells #[.int .i64 n, .int .i64 b] 80)
  go_enter Tryz.func38, Tryz.ntmps38
  go_upto_region 1 with (fail)
  generalize w.alloc (.cells #[.int .i64 n, .int .i64 b] 80) = w1 at h J ⊢
  generalize w.heap.size = B at J hne ⊢
  refine wp_region_held (S := fun z => At z B 80 #[.int .i64 n, .int .i64 b]) (by kernel_rfl) ?_
  change wpAnyH _ _ _ _ _ _ _ _ w1.drew
  replace h := h.drew
  replace J := J.drew
  generalize w1.drew = w2 at h J ⊢
  have LH : Hid (∀ z, At z B 80 #[.int .i64 n, .int .i64 b] → Loads Tryz.prog z 80 ⟨B, 0, none⟩ #[.int .i64 n, .int .i64 b]) := Lib.hid fun z j => j.loads (by kernel_rfl) (by kernel_rfl)
  have c1 : w2.cell? ⟨q, 1, none⟩ = some (.int .i64 L.n) := h.at.cell 1
  have f1 := h.at.frozen 1
  have h1 := h.set (L' := ⟨n, L.b, L.s, L.k⟩) 1 (.int .i64 n) rfl
  have c2 : (w2.setCell ⟨q, 1, none⟩ (.int .i64 n)).cell? ⟨q, 2, none⟩ = some (.int .i64 L.b) := h1.at.cell 2
  have f2 : (w2.setCell ⟨q, 1, none⟩ (.int .i64 n)).frozen? ⟨q, 2, none⟩ = false := h1.at.frozen 2
  clear h1
  refine held_take 0 (.pointer (some ⟨q, 0, none⟩)) rfl (by kernel_rfl) (by kernel_rfl) (by kernel_rfl) (fun _ _ _ h => h) (Or.inl ⟨by rfl, fun x j => by go_simp⟩) J (fun K hK => ?_)
  go_simp
  refine hK _ _ ?_
  clear hK K
  refine held_take 1 (.pointer (some ⟨q, 0, none⟩)) rfl (by kernel_rfl) (by kernel_rfl) (by kernel_rfl) (fun _ _ _ h => h) (Or.inl ⟨by rfl, fun x j => by go_simp⟩) J (fun K hK => ?_)
  go_simp
  refine hK _ _ ?_
  clear hK K
  refine held_take 2 (.pointer (some ⟨q, 0, none⟩)) rfl (by kernel_rfl) (by kernel_rfl) (by kernel_rfl) (fun _ _ _ h => h) (Or.inl ⟨by rfl, fun x j => by go_simp⟩) J (fun K hK => ?_)
  go_simp
  refine hK _ _ ?_
  clear hK K
  refine held_take 3 (.agg #[.int .i64 n, .int .i64 b]) rfl (by kernel_rfl) (by kernel_rfl) (by kernel_rfl) (fun _ _ _ h => h) (yields_load LH.out rfl rfl rfl) J (fun K hK => ?_)
  go_simp
  refine hK _ _ ?_
  clear hK K
  refine held_take 4 (.pointer (some ⟨B, 0, none⟩)) rfl (by kernel_rfl) (by kernel_rfl) (by kernel_rfl) (fun _ _ _ h => h) (Or.inl ⟨by rfl, fun x j => by go_simp⟩) J (fun K hK => ?_)
  go_simp
  refine hK _ _ ?_
  clear hK K
  refine held_take 5 (.int .i64 n) rfl (by kernel_rfl) (by kernel_rfl) (by kernel_rfl) (fun _ _ _ h => h) (Or.inl ⟨by rfl, fun x j => by have c0 := j.cell 0; go_simp⟩) J (fun K hK => ?_)
  go_simp
  refine hK _ _ ?_
  clear hK K
  refine held_take 6 (.pointer (some ⟨q, 0, none⟩)) rfl (by kernel_rfl) (by kernel_rfl) (by kernel_rfl) (fun _ _ _ h => h) (Or.inl ⟨by rfl, fun x j => by go_simp⟩) J (fun K hK => ?_)
  go_simp
  refine hK _ _ ?_
  clear hK K
  refine held_take 7 (.pointer (some ⟨q, 1, none⟩)) rfl (by kernel_rfl) (by kernel_rfl) (by kernel_rfl) (fun _ _ _ h => h) (Or.inl ⟨by rfl, fun x j => by go_simp⟩) J (fun K hK => ?_)
  go_simp
  refine hK _ _ ?_
  clear hK K
  refine held_one 8 (by kernel_rfl) (fun K hK => wpOp_in rfl rfl ?_)
  go_simp
  have h3 := (h.set (L' := ⟨n, L.b, L.s, L.k⟩) 1 (.int .i64 n) rfl).set (L' := ⟨n, b, L.s, L.k⟩) 2 (.int .i64 b) rfl
  have J3 := (J.other (a := ⟨q, 1, none⟩) hne.symm (.int .i64 n)).other (a := ⟨q, 2, none⟩) hne.symm (.int .i64 b)
  refine hK _ _ J3 ?_
  generalize (w2.setCell ⟨q, 1, none⟩ (.int .i64 n)).setCell ⟨q, 2, none⟩ (.int .i64 b) = w3 at h3 J3 ⊢
  clear h J c1 f1 c2 f2
  have c3 : w3.cell? ⟨q, 3, none⟩ = some (.int .i64 L.s) := h3.at.cell 3
  have f3 := h3.at.frozen 3
  clear hK K
  refine held_take 9 (.pointer (some ⟨q, 0, none⟩)) rfl (by kernel_rfl) (by kernel_rfl) (by kernel_rfl) (fun _ _ _ h => h) (Or.inl ⟨by rfl, fun x j => by go_simp⟩) J3 (fun K hK => ?_)
  go_simp
  refine hK _ _ ?_
  clear hK K
  refine held_take 10 (.pointer (some ⟨q, 3, none⟩)) rfl (by kernel_rfl) (by kernel_rfl) (by kernel_rfl) (fun _ _ _ h => h) (Or.inl ⟨by rfl, fun x j => by go_simp⟩) J3 (fun K hK => ?_)
  go_simp
  refine hK _ _ ?_
  clear hK K
  refine held_one 11 (by kernel_rfl) (fun K hK => wpOp_in rfl rfl ?_)
  go_simp
  have h4 := h3.set (L' := ⟨n, b, n, L.k⟩) 3 (.int .i64 n) rfl
  have J4 := J3.other (a := ⟨q, 3, none⟩) hne.symm (.int .i64 n)
  refine hK _ _ J4 ?_
  generalize w3.setCell ⟨q, 3, none⟩ (.int .i64 n) = w4 at h4 J4 ⊢
  clear h3 J3 c3 f3
  have c4 : w4.cell? ⟨q, 4, none⟩ = some (.bool L.k) := h4.at.cell 4
  have f4 := h4.at.frozen 4
  clear hK K
  refine held_take 12 (.pointer (some ⟨q, 0, none⟩)) rfl (by kernel_rfl) (by kernel_rfl) (by kernel_rfl) (fun _ _ _ h => h) (Or.inl ⟨by rfl, fun x j => by go_simp⟩) J4 (fun K hK => ?_)
  go_simp
  refine hK _ _ ?_
  clear hK K
  refine held_take 13 (.pointer (some ⟨q, 4, none⟩)) rfl (by kernel_rfl) (by kernel_rfl) (by kernel_rfl) (fun _ _ _ h => h) (Or.inl ⟨by rfl, fun x j => by go_simp⟩) J4 (fun K hK => ?_)
  go_simp
  refine hK _ _ ?_
  clear hK K
  refine held_one 14 (by kernel_rfl) (fun K hK => wpOp_in rfl rfl ?_)
  go_simp
  have h5 := h4.set (L' := ⟨n, b, n, false⟩) 4 (.bool false) rfl
  refine hK _ _ (J4.other (a := ⟨q, 4, none⟩) hne.symm (.bool false)) ?_
  generalize w4.setCell ⟨q, 4, none⟩ (.bool false) = w5 at h5 ⊢
  clear h4 J4 c4 f4
  clear hK K
  refine wpAnyH_done (by kernel_rfl) ?_ _
  go_wp2
  go_end0
  exact ⟨rfl, h5⟩
end Go.Proofs.YtdmgobffhpgjlaaGreat.Sl.Dg
end

section
namespace Go.Proofs.YtdmgobffhpgjlaaGreat.Sl.Dg
open Go.RowKit Go.PlainAid Go.Proofs.YtdmgobffhpgjlaaGreat.Cr
open Go.Proofs.YtdmgobffhpgjlaaGreat.Pk (Bs Fi Dk kl HasD usedF delF insF getF)
set_option linter.unusedVariables false
set_option maxRecDepth 20000
set_option linter.unusedSimpArgs false

theorem used_filter (P : Fi → Bool) : ∀ l : List Fi, usedF (l.filter P) ≤ usedF l
  | [] => by simp [usedF]
  | x :: r => by
    have := used_filter P r
    rw [List.filter_cons]
    split <;> simp only [usedF] <;> omega
theorem disc_used (D : Dk) : usedF (disc D).2.L ≤ usedF D.L := by
  obtain ⟨h1, _⟩ := Pk.beg_L D (Pk.isName nN)
  unfold disc
  split
  · exact Nat.le_refl _
  · unfold Dk.delete
    simp only
    split
    · rw [h1]; exact Nat.le_refl _
    · split
      · rw [h1]; exact Nat.le_refl _
      · rw [h1]; exact used_filter _ _
theorem make_used (D : Dk) : usedF (make D).2.L ≤ usedF D.L := by
  obtain ⟨h1, _⟩ := Pk.beg_L D (Pk.isName dN)
  unfold make
  split
  · unfold Dk.create
    simp only
    split
    · rw [h1]; exact Nat.le_refl _
    · split
      · rw [h1]; exact Nat.le_refl _
      · split
        · rw [h1]; exact Nat.le_refl _
        · rw [h1, Pk.used_ins]; simp
  · exact Nat.le_refl _
theorem read_used (D : Dk) (n : Bs) (a b : Int) : (D.read n a b).1.length ≤ usedF D.L := by
  obtain ⟨h1, _⟩ := Pk.beg_L D (Pk.isName n && decide (0 ≤ a) && decide (0 ≤ b))
  unfold Dk.read
  simp only
  split
  · simp
  · rw [h1]
    split
    · simp
    · rename_i f hf
      have := Pk.mem_used (Pk.get_some hf).1
      split
      · simp
      · simp only [List.length_take, List.length_drop]
        omega
theorem load_len {D : Dk} (ok : D.Ok) : (load D).1.length ≤ 4194304 := by
  have h1 := disc_used D
  have h2 := make_used (disc D).2
  have h3 := read_used (make (disc D).2).2 dN 0 ((make (disc D).2).2.size dN)
  have h4 := ok.used
  have h5 := ok.room1
  unfold load
  split
  · simp
  · split
    · simp
    · split
      · simp
      · split
        · simp
        · simp only; omega
theorem owns_mono {w : World} {M N T sz n : Nat} {v : Value} {xs : List Value} (h : w.ownsRow N T sz v n xs) (hM : M ≤ N) : w.ownsRow M T sz v n xs := by
  refine ⟨h.1, ?_⟩
  rcases h.2 with hn | ⟨g, cap, cur, e, hb, r⟩
  · exact .inl hn
  · exact .inr ⟨g, cap, cur, e, Nat.le_trans hM hb, r⟩
theorem HasL.kset {w0 w : World} {p q : Nat} {D : Dk} {L : Lg} {X : List (Nat × Obj)} (h : HasL w0 w p q D L X) (j : Nat) (v : Value) : Kp w (w.setCell ⟨q, j, none⟩ v) := by
  refine ⟨fun b c fr hb => Below.heap_setCell _ _ _ _ fun e => ?_⟩
  have := h.at.heap
  simp only at e
  rw [← e, hb] at this
  injection this with this
  injection this with _ this
  exact absurd this (by decide)
/-- what Open answers -/
def OpenPost (w0 w : World) (p : Nat) (D : Dk) (X : List (Nat × Obj)) (e : Ending) (w' : World) : Prop :=
  ((load D).2.1 ≠ 0 ∧ e = .returned (.tuple #[.pointer none, .slice none 0 0, .int .i64 (load D).2.1]) ∧ HasD w0 w' p (load D).2.2 X ∧ Kp w w') ∨
  ((load D).2.1 = 0 ∧ ∃ (q : Nat) (v : Value) (xs : List Sp) (n : Nat), e = .returned (.tuple #[.pointer (some ⟨q, 0, none⟩), v, .int .i64 0]) ∧ Reads (nb (load D).1) xs n ∧ (∀ x ∈ xs, Okay x) ∧ w'.ownsRow w0.heap.size 39 38 v xs.length (slsL xs) ∧
    HasL w0 w' p q (load D).2.2 ⟨(xs.length : Int), (n : Int), (xs.length : Int), decide (n < (load D).1.length)⟩ X ∧ Kp w w')
section
variable {w0 w w' : World} {p q : Nat} {D D' : Dk} {L L' : Lg} {X : List (Nat × Obj)}
set_option maxHeartbeats 2000000 in
theorem open_no {t : Bs} {e1 : Int} {E : Dk} (hE : load D = (t, e1, E)) (c : e1 ≠ 0) (h : HasD w0 w p D X) (ho : D.ops + 5 ≤ 1099511627776) :
    Calls Tryz.prog 7 #[.pointer (some ⟨p, 0, none⟩)] w fun e w' => e = .returned (.tuple #[.pointer none, .slice none 0 0, .int .i64 e1]) ∧ HasD w0 w' p E X := by
  have C1 := load_any h ho
  rw [hE] at C1
  have n1 : (e1 != 0) = true := by simpa using c
  clear hE
  go_enter Tryz.func7, Tryz.ntmps7
  go_wp2_with fail
  refine C1.mono ?_
  rintro e w1 ⟨rfl, h⟩
  clear C1
  go_wp2
  go_ret3
  exact ⟨rfl, h⟩
set_option maxHeartbeats 2000000 in
theorem open_yes {t : Bs} {E : Dk} (hE : load D = (t, 0, E)) (h : HasD w0 w p D X) (ho : D.ops + 5 ≤ 1099511627776) :
    Calls Tryz.prog 7 #[.pointer (some ⟨p, 0, none⟩)] w fun e w' => ∃ (q : Nat) (v : Value) (xs : List Sp) (n : Nat), e = .returned (.tuple #[.pointer (some ⟨q, 0, none⟩), v, .int .i64 0]) ∧ Reads (nb t) xs n ∧ (∀ x ∈ xs, Okay x) ∧ w'.ownsRow w0.heap.size 39 38 v xs.length (slsL xs) ∧
    HasL w0 w' p q E ⟨(xs.length : Int), (n : Int), (xs.length : Int), decide (n < t.length)⟩ X := by
  have C1 := load_any h ho
  have hz := load_len h.ok
  rw [hE] at C1 hz
  simp only at hz
  have hz2 : (⟨t.toArray⟩ : ByteArray).size = t.length := mk_size t
  have hz3 : (⟨t.toArray⟩ : ByteArray).size ≤ 4194304 := by omega
  have C2 := fun z : World => all_own ⟨t.toArray⟩ z (by omega)
  rw [bl_mk] at C2
  have HZ2 := Lib.hid hz2
  have C2 := Lib.hid C2
  clear hE hz2 hz
  generalize (⟨t.toArray⟩ : ByteArray) = s at C1 C2 hz3 HZ2
  go_enter Tryz.func7, Tryz.ntmps7
  go_wp2_with fail
  refine C1.mono ?_
  rintro e w1 ⟨rfl, h⟩
  clear C1
  go_wp2_with fail
  refine (C2.out w1).mono ?_
  rintro e w2 ⟨xs, n, v, rfl, own, ok, rd, G⟩
  clear C2
  replace own := owns_mono own h.below.size
  replace h := h.kept G
  have OK := Lib.hid ok
  have RD := Lib.hid rd
  obtain ⟨l1, l2⟩ := reads_le rd
  rw [nb_len] at l1
  have l3 : n ≤ 4194304 := by have := HZ2.out; omega
  clear rd ok G l1
  obtain ⟨g, cap, rfl⟩ : ∃ g cap, v = .slice g xs.length cap := by
    rcases own.2 with ⟨rfl, e⟩ | ⟨g, cap, cur, rfl, _⟩
    · exact ⟨none, 0, by rw [e]⟩
    · exact ⟨_, cap, rfl⟩
  have l4 : xs.length ≤ 4194304 := by omega
  have Z := At.new w2 82 #[.pointer (some ⟨p, 0, none⟩), .int .i64 0, .int .i64 0, .int .i64 0, .bool false]
  have F : Below w2.heap.size w2 (w2.alloc (.cells #[.pointer (some ⟨p, 0, none⟩), .int .i64 0, .int .i64 0, .int .i64 0, .bool false] 82)) := (Below.refl _ _).alloc (Nat.le_refl _) _
  have hl : HasL w0 (w2.alloc (.cells #[.pointer (some ⟨p, 0, none⟩), .int .i64 0, .int .i64 0, .int .i64 0, .bool false] 82)) p w2.heap.size E ⟨0, 0, 0, false⟩ X := has_log h F (Nat.le_refl _) Z.heap
  replace own := (Kp.of_below F).owns own
  clear Z F h l2
  go_upto_region 8 with (fail)
  generalize w2.alloc (.cells #[.pointer (some ⟨p, 0, none⟩), .int .i64 0, .int .i64 0, .int .i64 0, .bool false] 82) = w3 at own hl ⊢
  generalize w2.heap.size = q at hl ⊢
  have R := hl.frame (R := fun e _ => e = .returned (.tuple #[])) fun X h => renew_any h (xs.length : Int) (n : Int)
  clear hl
  go_wp2_with fail
  refine R.mono ?_
  rintro e w4 ⟨rfl, hl, k⟩
  clear R
  replace own := k.owns own
  clear k
  have c4 : w4.cell? ⟨q, 4, none⟩ = some (.bool false) := hl.at.cell 4
  have f4 : w4.frozen? ⟨q, 4, none⟩ = false := hl.at.frozen 4
  have hd : decide (n < s.size) = decide (n < t.length) := by rw [HZ2.out]
  have h5 := hl.set (L' := ⟨(xs.length : Int), (n : Int), (xs.length : Int), decide (n < s.size)⟩) 4 (.bool (decide (n < s.size))) rfl
  have o5 := (hl.kset 4 (.bool (decide (n < s.size)))).owns own
  have HD := Lib.hid hd
  clear hd hl own
  go_wp2
  go_ret3
  exact ⟨q, _, xs, n, rfl, RD.out, OK.out, o5, by rw [← HD.out]; exact h5⟩
theorem open_any (h : HasD w0 w p D X) (ho : D.ops + 5 ≤ 1099511627776) :
    Calls Tryz.prog 7 #[.pointer (some ⟨p, 0, none⟩)] w fun e w' => OpenPost w0 w p D X e w' := by
  cases hE : load D with
  | mk t r =>
  obtain ⟨e1, E⟩ := r
  by_cases c : e1 = 0
  · subst c
    refine (open_yes hE (has_slips h) ho).mono ?_
    rintro e w' ⟨q, v, xs, n, rfl, rd, ok, own, hl⟩
    exact .inr ⟨by rw [hE], q, v, xs, n, rfl, by rw [hE]; exact rd, ok, own, by rw [hE]; exact hl.less fun x hx => List.mem_append_right _ hx, kp_of hl.disk⟩
  · refine (open_no hE c (has_slips h) ho).mono ?_
    rintro e w' ⟨rfl, h'⟩
    exact .inl ⟨by rw [hE]; exact c, by rw [hE], by rw [hE]; exact h'.less fun x hx => List.mem_append_right _ hx, kp_of h'⟩
end
end Go.Proofs.YtdmgobffhpgjlaaGreat.Sl.Dg
end

section
namespace Go.Proofs.YtdmgobffhpgjlaaGreat.Sl.Dg
open Go.RowKit Go.PlainAid Go.Proofs.YtdmgobffhpgjlaaGreat.Cr
set_option linter.unusedVariables false
set_option maxRecDepth 20000
set_option linter.unusedSimpArgs false

/-- the writer in block b, whose buffer lies from block N on, holds the bytes l -/
structure Wr (w : World) (b N : Nat) (l : List Nat) : Prop where
  lo : b < N
  hi : N ≤ w.heap.size
  lt : ∀ x ∈ l, x < 256
  is : ∃ p v, (p = .pointer none ∨ p = .pointer (some ⟨b, 0, none⟩)) ∧ w.heap[b]? = some (.cells #[p, v] 120 (0, 0)) ∧ w.ownsRowF N 5 1 v l.length (dV l)
theorem Wr.below {w w' : World} {b N M : Nat} {l : List Nat} (h : Wr w b N l) (hb : Below M w w') (hM : w.heap.size ≤ M) : Wr w' b N l := by
  obtain ⟨p, v, hp, hh, hv⟩ := h.is
  have hbs : b < w.heap.size := Nat.lt_of_lt_of_le h.lo h.hi
  refine ⟨h.lo, Nat.le_trans h.hi hb.size, h.lt, p, v, hp, by rw [hb.block b (by omega)]; exact hh, ?_⟩
  refine hv.kept (row := none) ⟨hb.os, hb.tape, hb.output, hb.size, fun k hk _ => hb.block k (by omega)⟩ ?_
  cases v.ownBlock <;> simp
theorem Wr.drew {w : World} {b N : Nat} {l : List Nat} (h : Wr w b N l) : Wr w.drew b N l := h.below ((Below.refl _ _).drew) (Nat.le_refl _)
/-- another writer is written: this one stays -/
theorem Wr.keeps {w w' : World} {b N c M : Nat} {l : List Nat} (h : Wr w b N l) (k : Keeps c M w w') (hM : w.heap.size ≤ M) (hc : c < N) (hne : b ≠ c) : Wr w' b N l := by
  obtain ⟨p, v, hp, hh, hv⟩ := h.is
  have hbs : b < w.heap.size := Nat.lt_of_lt_of_le h.lo h.hi
  refine ⟨h.lo, Nat.le_trans h.hi k.size, h.lt, p, v, hp, by rw [k.block b (by omega) hne]; exact hh, ?_⟩
  refine hv.kept (row := some c) ⟨k.os, k.tape, k.output, k.size, fun i hi hn => k.block i (by omega) fun e => hn (by rw [e])⟩ ?_
  refine Or.inr fun e => ?_
  have := (hv.lt c e).1
  omega
theorem liesBuilder : liesAt Tryz.prog Tryz.prog.depth 120 (2 / Tryz.prog.cellsOf 120) 0 120 1 = true := by kernel_rfl

set_option maxHeartbeats 1000000 in
theorem copy_fresh (b : Nat) (w : World) (h0 : w.cell? ⟨b, 0, none⟩ = some (.pointer none)) (hsh : w.shape? b = some (120, 2)) (hfz : w.frozen? ⟨b, 0, none⟩ = false) :
    Calls Tryz.prog 102 #[.pointer (some ⟨b, 0, none⟩)] w fun e w' => e = .returned (.tuple #[]) ∧ w' = w.setCell ⟨b, 0, none⟩ (.pointer (some ⟨b, 0, none⟩)) := by
  obtain ⟨j, hj, hjs⟩ := Option.map_eq_some_iff.1 infoBuilder
  go_enter Tryz.func102, Tryz.ntmps102
  go_wp2
  rw [Lib.run_to_unsafe w ⟨b, 0, none⟩ Tryz.underlying118 Tryz.underlying165 hj (by rw [hjs]; decide) hsh (Nat.zero_lt_succ 1)]
  simp only [Result.andThen]
  rw [Oper.upon_value]
  go_wp2
  rw [run_callFunc_extern Tryz.func112 (by kernel_rfl) (by kernel_rfl) (by kernel_rfl) (e := Extern.AbiNoEscape.same) (by kernel_rfl)]
  rw [Lib.run_noEscape]
  simp only [Result.andThen]
  rw [Oper.upon_value]
  go_wp2
  rw [Lib.run_from_unsafe w ⟨b, 0, none⟩ Tryz.underlying165 Tryz.underlying118 hj hsh liesBuilder]
  simp only [Result.andThen]
  rw [Oper.upon_value]
  go_wp2
  go_end0
  exact ⟨rfl, rfl⟩
theorem copy_any {b N : Nat} {l : List Nat} {w : World} (h : Wr w b N l) :
    Calls Tryz.prog 102 #[.pointer (some ⟨b, 0, none⟩)] w fun e w' => e = .returned (.tuple #[]) ∧ (∃ v, w'.heap[b]? = some (.cells #[.pointer (some ⟨b, 0, none⟩), v] 120 (0, 0)) ∧ w'.ownsRowF N 5 1 v l.length (dV l)) ∧ Keeps b N w w' ∧ N ≤ w'.heap.size := by
  obtain ⟨p, v, hp, hh, hv⟩ := h.is
  have c0 : w.cell? ⟨b, 0, none⟩ = some p := by rw [Lib.cell_of_heap hh]; rfl
  rcases hp with rfl | rfl
  · refine (copy_fresh b w c0 (by simp [World.shape?, hh]) (Lib.frozen_of_heap hh 0)).mono ?_
    rintro e w' ⟨rfl, rfl⟩
    refine ⟨rfl, ⟨v, by simp [World.setCell, Array.getElem?_modify, hh], ?_⟩, Keeps.set w 0 _, by simpa [World.setCell] using h.hi⟩
    refine hv.kept (row := some b) ⟨rfl, rfl, rfl, by simp [World.setCell], fun k _ hk => Below.heap_setCell _ _ _ _ (fun e => hk (by simp [e]))⟩ (Or.inr fun e => ?_)
    have := (hv.lt b e).1
    have := h.lo
    omega
  · refine (copy_used b w c0).mono ?_
    rintro e w' ⟨rfl, rfl⟩
    exact ⟨rfl, ⟨v, hh, hv⟩, Keeps.refl _ _ _, h.hi⟩

/-- behind an append the new row is laid into the writer -/
theorem Wr.put {b N : Nat} {l : List Nat} {w1 w2 : World} {v v' : Value} (hlo : b < N) (hN : N ≤ w1.heap.size) (hl : ∀ x ∈ l, x < 256) (hh : w1.heap[b]? = some (.cells #[.pointer (some ⟨b, 0, none⟩), v] 120 (0, 0)))
    (hg : w1.grownBy w2 v.ownBlock) (hv : ∀ k, v.ownBlock = some k → N ≤ k) (hown : w2.ownsRowF N 5 1 v' l.length (dV l)) : Wr (w2.setCell ⟨b, 1, none⟩ v') b N l ∧ Keeps b N w1 (w2.setCell ⟨b, 1, none⟩ v') := by
  have hb2 : w2.heap[b]? = some (.cells #[.pointer (some ⟨b, 0, none⟩), v] 120 (0, 0)) := by
    rw [hg.block b (by omega) (fun e => by have := hv b e.symm; omega)]
    exact hh
  refine ⟨⟨hlo, by simpa [World.setCell] using Nat.le_trans hN hg.size, hl, _, v', Or.inr rfl, by simp [World.setCell, Array.getElem?_modify, hb2], ?_⟩, (Keeps.grown hg hN hv).trans (Keeps.set _ 1 _)⟩
  refine hown.kept (row := some b) ⟨rfl, rfl, rfl, by simp [World.setCell], fun k _ hk => Below.heap_setCell _ _ _ _ (fun e => hk (by simp [e]))⟩ (Or.inr fun e => ?_)
  have := (hown.lt b e).1
  omega
set_option maxHeartbeats 2000000 in
theorem string_any {b N : Nat} {l : List Nat} {w : World} (h : Wr w b N l) (s : ByteArray) (hl : l.length + s.size ≤ 1099511627776) :
    Calls Tryz.prog 84 #[.pointer (some ⟨b, 0, none⟩), .string s] w fun e w' => e = .returned (.tuple #[.int .i64 s.size, .nilIface]) ∧ Wr w' b N (l ++ bl s) ∧ Keeps b N w w' := by
  obtain ⟨i0, hi, hz0, hz1, hz2⟩ := info_parts infoB
  have hlo := h.lo; have hhi := h.hi
  have HL := Lib.hid h.lt
  have hss : s.size ≤ 9223372036854775807 := by omega
  go_enter Tryz.func84, Tryz.ntmps84
  go_wp2_with fail
  refine (copy_any h).mono ?_
  rintro e w1 ⟨rfl, ⟨v, hh, hown⟩, k1, s1⟩
  clear h
  have c1 : w1.cell? ⟨b, 1, none⟩ = some v := by rw [Lib.cell_of_heap hh]; rfl
  have c0 : w1.cell? ⟨b, 0, none⟩ = some (.pointer (some ⟨b, 0, none⟩)) := by rw [Lib.cell_of_heap hh]; rfl
  go_wp2_with (at_builtin; refine Lib.wpList_append_own_stringF _ rfl _ _ 87 9 rfl N 5 i0 Tryz.underlying87 Tryz.underlying9 hi hz0 hz1 hz2 _ _ _ rfl hown s rfl ?c3 ?c4 ?c5 ?_)
  case c3 => unfold maxLen; omega
  case c4 => omega
  case c5 => omega
  intro v' w2 hown' hgrow _
  have hvN : ∀ k, v.ownBlock = some k → N ≤ k := fun k hk => (hown.lt k hk).1
  have e5 : dV l ++ Lib.strCells s = dV (l ++ bl s) := by
    simp [dV, bl, Lib.strCells, List.map_append, List.map_map, Function.comp]
  rw [e5] at hown'
  obtain ⟨W2, K2⟩ := Wr.put (l := l ++ bl s) hlo (by omega) (by
    intro x hx
    rcases List.mem_append.1 hx with h | h
    · exact HL.out x h
    · exact bl_lt s x h) hh hgrow hvN (by simpa [bl_len] using hown')
  have hb2 : w2.heap[b]? = some (.cells #[.pointer (some ⟨b, 0, none⟩), v] 120 (0, 0)) := by
    rw [hgrow.block b (by omega) (fun e => by have := hvN b e.symm; omega)]
    exact hh
  have d0 : w2.cell? ⟨b, 0, none⟩ = some (.pointer (some ⟨b, 0, none⟩)) := by rw [Lib.cell_of_heap hb2]; rfl
  have d1 : w2.cell? ⟨b, 1, none⟩ = some v := by rw [Lib.cell_of_heap hb2]; rfl
  have f1 : w2.frozen? ⟨b, 1, none⟩ = false := Lib.frozen_of_heap hb2 1
  obtain ⟨ao, n', cap, rfl⟩ : ∃ ao n' cap, v' = .slice ao n' cap := by
    rcases hown'.2 with ⟨hv, _⟩ | ⟨g, cap, cur, fz, hv, _⟩
    · exact ⟨_, _, _, hv⟩
    · exact ⟨_, _, _, hv⟩
  have K3 := k1.trans K2
  clear hown' hown hgrow K2 k1
  go_wp2
  go_ret2
  exact ⟨rfl, W2, K3⟩
set_option maxHeartbeats 2000000 in
/-- String: of a writer that holds at least one byte -/
theorem text_any {b N : Nat} {l : List Nat} {w : World} (h : Wr w b N l) (h0 : l ≠ []) (hl : l.length ≤ 1099511627776) :
    Calls Tryz.prog 76 #[.pointer (some ⟨b, 0, none⟩)] w fun e w' => e = .returned (.string (Cr.strOf l)) ∧ Wr w' b N l ∧ Keeps b N w w' := by
  obtain ⟨p, v, hp, hh, hv⟩ := h.is
  have hl0 : l.length ≠ 0 := by simpa using h0
  obtain ⟨g, cap, cur, fz, rfl, hbg, hg, hfz, hnc, hcm, hcs, htake⟩ : ∃ g cap cur fz, v = .slice (some ⟨g, 0, none⟩) l.length cap ∧ N ≤ g ∧ w.heap[g]? = some (.cells cur 5 fz) ∧ fz.2 ≤ l.length * 1 ∧ l.length ≤ cap ∧ cap ≤ maxLen ∧ cur.size = cap * 1 ∧ cur.toList.take (l.length * 1) = dV l := by
    rcases hv.2 with ⟨_, hz⟩ | ⟨g, cap, cur, fz, hv, r⟩
    · exact absurd hz hl0
    · exact ⟨g, cap, cur, fz, hv, r⟩
  have c1 : w.drew.cell? ⟨b, 1, none⟩ = some (.slice (some ⟨g, 0, none⟩) l.length cap) := by
    have : w.drew.heap[b]? = some (.cells #[p, .slice (some ⟨g, 0, none⟩) l.length cap] 120 (0, 0)) := hh
    rw [Lib.cell_of_heap this]; rfl
  have hSD : (Builtin.unsafeSliceData_ #[87] 155 #[.slice (some ⟨g, 0, none⟩) l.length cap]).run Tryz.prog w.drew = .ok (.pointer (some ⟨g, 0, none⟩)) w.drew :=
    Lib.run_unsafeSliceData_row _ _ _ _ _ _ (by omega)
  have hUS : (Builtin.unsafeString_ #[155, 3] 9 #[.pointer (some ⟨g, 0, none⟩), .int .i64 l.length]).run Tryz.prog w.drew = .ok (.string (Cr.strOf l)) (w.drew.freeze ⟨g, 0, none⟩ l.length) := by
    have := Lib.run_unsafeString_row (P := Tryz.prog) w.drew 155 3 9 5 Tryz.underlying155 (by kernel_rfl) g cur.size (by have hg' : w.drew.heap[g]? = some (.cells cur 5 fz) := hg; simp [World.shape?, hg']) (l.map UInt8.ofNat) (by simpa using h0) (by simp; omega) (by simp; omega) (by
      intro j x hx
      have hb := dV_bytes h.lt
      have := hv.cells (g := g) rfl j (.int .u8 x.toNat) (by rw [hb, Lib.byteCells, List.getElem?_map, hx]; rfl)
      exact this)
    rw [List.length_map] at this
    exact this
  have W2 : Wr (w.drew.freeze ⟨g, 0, none⟩ l.length) b N l := by
    have hb : Lib.BuilderAtF 120 5 b b p (dV l) w.drew := ⟨Nat.le_refl _, _, hh, by
      rw [dV_len]
      exact ⟨hv.1, .inr ⟨g, cap, cur, fz, rfl, by have := h.lo; omega, hg, hfz, hnc, hcm, hcs, htake⟩⟩, by simp [Value.ownBlock]; have := h.lo; omega⟩
    have hF := hb.froze (g := g) (cap := cap) (by rw [dV_len]; exact c1)
    rw [dV_len] at hF
    obtain ⟨_, v2, hh2, hv2, _⟩ := hF
    refine ⟨h.lo, ?_, h.lt, p, v2, hp, hh2, ?_⟩
    · have := (keeps_freeze (b := b) (N := N) w.drew l.length hbg).size
      have h2 := h.hi
      exact Nat.le_trans h2 this
    · rw [dV_len] at hv2
      have e2 : w.drew.heap[b]? = some (.cells #[p, .slice (some ⟨g, 0, none⟩) l.length cap] 120 (0, 0)) := hh
      have e3 := (keeps_freeze (b := N) (N := N) w.drew l.length hbg).block b h.lo (by have := h.lo; omega)
      rw [hh2, e2] at e3
      have : v2 = .slice (some ⟨g, 0, none⟩) l.length cap := by simpa using e3
      subst this
      refine ⟨hv2.1, ?_⟩
      rcases hv2.2 with ⟨e4, _⟩ | ⟨g', cap', cur', fz', e4, _, r⟩
      · cases e4
      · injection e4 with e5 _ e6
        injection e5 with e7
        injection e7 with e8
        subst e8
        subst e6
        exact .inr ⟨g, cap, cur', fz', rfl, hbg, r⟩
  have K2 : Keeps b N w (w.drew.freeze ⟨g, 0, none⟩ l.length) := (Keeps.of_below ((Below.refl N w).drew)).trans (keeps_freeze w.drew l.length hbg)
  clear hv hg htake hp h
  go_enter Tryz.func76, Tryz.ntmps76
  go_wp2
  go_region
  all_goals (go_wp2; go_ret; exact ⟨rfl, W2, K2⟩)
set_option maxHeartbeats 2000000 in
/-- String: of one that holds nothing -/
theorem text_none {b : Nat} {w : World} (h : At w b 120 #[.pointer none, .slice none 0 0]) :
    Calls Tryz.prog 76 #[.pointer (some ⟨b, 0, none⟩)] w fun e w' => e = .returned (.string ⟨#[]⟩) ∧ Below w.heap.size w w' := by
  have c1 : w.drew.cell? ⟨b, 1, none⟩ = some (.slice none 0 0) := (h.drew).cell 1
  have hSD : (Builtin.unsafeSliceData_ #[87] 155 #[.slice none 0 0]).run Tryz.prog w.drew = .ok (.pointer none) w.drew := Lib.run_unsafeSliceData_nil _ _ _ _ _
  have hUS : (Builtin.unsafeString_ #[155, 3] 9 #[.pointer none, .int .i64 0]).run Tryz.prog w.drew = .ok (.string ⟨#[]⟩) w.drew := Lib.run_unsafeString_none _ _ _ _ _
  have K : Below w.heap.size w w.drew := (Below.refl _ _).drew
  clear h
  go_enter Tryz.func76, Tryz.ntmps76
  go_wp2
  go_region
  all_goals (go_wp2; go_ret; exact ⟨rfl, K⟩)
end Go.Proofs.YtdmgobffhpgjlaaGreat.Sl.Dg
end

section
namespace Go.Proofs.YtdmgobffhpgjlaaGreat.Sl.Dg
open Go.RowKit Go.PlainAid Go.Proofs.YtdmgobffhpgjlaaGreat.Cr
set_option linter.unusedVariables false
set_option maxRecDepth 20000
set_option linter.unusedSimpArgs false

theorem recs_snoc_take {xs : List Sp} {k : Nat} {x : Sp} (h : xs[k]? = some x) : recs (xs.take (k + 1)) = recs (xs.take k) ++ recL (bodyL x) := by
  rw [List.take_add_one, h, recs_append]
  simp [recs_one]
theorem can_snoc {xs : List Sp} {k : Nat} {x : Sp} (h : xs[k]? = some x) (hx : Can x) (hc : ∀ y ∈ xs.take k, Can y) : ∀ y ∈ xs.take (k + 1), Can y := by
  intro y hy
  rw [List.take_add_one, h] at hy
  rcases List.mem_append.1 hy with c | c
  · exact hc y c
  · simp at c; subst c; exact hx
theorem all_no {xs : List Sp} {k : Nat} {x : Sp} (h : xs[k]? = some x) (hx : ¬ Can x) : xs.all canB = false := by
  rw [List.all_eq_false]
  exact ⟨x, List.mem_of_getElem? h, by rw [canB_no hx]; simp⟩
def RecsPost (xs : List Sp) (w : World) (e : Ending) (w' : World) : Prop := (xs.all canB = true ∧ e = .returned (.tuple #[.string (Cr.strOf (recs xs)), .int .i64 0]) ∨ xs.all canB = false ∧ e = .returned (.tuple #[.string ⟨#[]⟩, .int .i64 1])) ∧ Below w.heap.size w w'
set_option maxHeartbeats 400000 in
theorem records_none {v0 : Value} {w : World} (hv : SlsAt w v0 []) :
    Calls Tryz.prog 57 #[v0] w fun e w' => RecsPost [] w e w' := by
  obtain ⟨b1, cap1, hv0, hcap, _⟩ := hv.is
  rw [List.length_nil] at hv0
  subst hv0
  have X := At.new w 120 #[.pointer none, .slice none 0 0]
  have F : Below w.heap.size w (w.alloc (.cells #[.pointer none, .slice none 0 0] 120)) := (Below.refl _ _).alloc (Nat.le_refl _) _
  clear hv
  go_enter Tryz.func57, Tryz.ntmps57
  go_upto_region 2 with (fail)
  obtain ⟨B, hB⟩ : ∃ B, B = w.heap.size := ⟨_, rfl⟩
  rw [← hB] at X F ⊢
  generalize w.alloc (.cells #[.pointer none, .slice none 0 0] 120) = w1 at X F ⊢
  have HB := Lib.hid hB
  clear hB
  go_wp2
  go_loopw [11] (fun i wr => ∃ z, i = .int .i64 0 ∧ z = wr ∧ At z B 120 #[.pointer none, .slice none 0 0] ∧ Below B w z) (fun _ _ => 0)
  case atStart => exact ⟨_, rfl, rfl, X, F⟩
  case round =>
    clear X F
    obtain ⟨z, rfl, rfl, X, F⟩ := hrel
    go_wp2_with fail
    refine (text_none X).mono ?_
    rintro e w2 ⟨rfl, G⟩
    go_wp2
    go_ret2
    exact ⟨.inl ⟨rfl, rfl⟩, by rw [← HB.out]; exact F.trans (G.mono (by have := HB.out; have := F.size; omega))⟩
set_option maxHeartbeats 2000000 in
theorem records_some {v0 : Value} {xs : List Sp} {w : World} (hv : SlsAt w v0 xs) (hl : xs.length ≤ 1000000) (h0 : xs ≠ []) :
    Calls Tryz.prog 57 #[v0] w fun e w' => RecsPost xs w e w' := by
  obtain ⟨b1, cap1, rfl, hcap, _⟩ := hv.is
  have OKL := Lib.hid hv.ok
  have W0 : Wr (w.alloc (.cells #[.pointer none, .slice none 0 0] 120)) w.heap.size (w.heap.size + 1) [] := ⟨by omega, by simp, by simp, _, _, .inl rfl, heap_alloc_new w _, by simp [dV], .inl ⟨rfl, rfl⟩⟩
  have F : Below w.heap.size w (w.alloc (.cells #[.pointer none, .slice none 0 0] 120)) := (Below.refl _ _).alloc (Nat.le_refl _) _
  obtain ⟨n1, hn1⟩ : ∃ n1, n1 = xs.length := ⟨_, rfl⟩
  rw [← hn1] at hv hl hcap ⊢
  have HN1 := Lib.hid hn1
  have H0 := Lib.hid h0
  clear hn1 h0
  go_enter Tryz.func57, Tryz.ntmps57
  go_upto_region 2 with (fail)
  obtain ⟨B, hB⟩ : ∃ B, B = w.heap.size := ⟨_, rfl⟩
  rw [← hB] at W0 F ⊢
  generalize w.alloc (.cells #[.pointer none, .slice none 0 0] 120) = w1 at W0 F ⊢
  have HB := Lib.hid hB
  clear hB
  go_wp2
  go_loopw [11] (fun i wr => ∃ (u : World) (k : Nat), u = wr ∧ k ≤ n1 ∧ i = .int .i64 k ∧ Wr u B (B + 1) (recs (xs.take k)) ∧ Below B w u ∧ ∀ x ∈ xs.take k, Can x) (fun i _ => n1 - (intOf i).toNat)
  case atStart => exact ⟨_, 0, rfl, Nat.zero_le _, rfl, W0, F, by simp⟩
  case round =>
    clear W0 F
    obtain ⟨u, k, rfl, hk, rfl, W, F, can⟩ := hrel
    have hrl := recs_len_le can
    rw [List.length_take] at hrl
    by_cases hlt : k < n1
    · obtain ⟨x, hx⟩ : ∃ x, xs[k]? = some x := ⟨xs[k]'(by have := HN1.out; omega), List.getElem?_eq_getElem _⟩
      have xok := OKL.out x (List.mem_of_getElem? hx)
      have hv2 := hv.below (w' := u) (by rw [← HB.out]; exact F)
      obtain ⟨a1, rfl, _, LXX⟩ := hv2.loads hx
      clear hv2
      have HX := Lib.hid hx
      clear hx
      have l1 : (k : Int) < (n1 : Int) := by omega
      obtain ⟨w3, S3, X3, G3, Z3⟩ := x_keep u xok.dig.len
      have LX := sl_loads X3 xok.dig.len
      replace W := W.below G3 (Nat.le_refl _)
      have NF := F.size
      replace F := F.trans (G3.mono (by have := HB.out; omega))
      clear Z3 X3
      go_upto_region 5 with (first | refine wpl_load LXX rfl rfl rfl ?_ | refine wpl_store S3 rfl rfl rfl rfl rfl ?_)
      clear S3 LXX G3
      generalize u.heap.size = X at LX ⊢
      go_wp2_with (refine wpl_load LX rfl rfl rfl ?_)
      by_cases can1 : Can x
      · refine (write_yes x _ xok can1).mono ?_
        rintro e w4 ⟨rfl, G4⟩
        have W4 := W.below G4 (Nat.le_refl _)
        have F4 := F.trans (G4.mono (by have := HB.out; have := F.size; omega))
        clear W F G4 LX
        have hz : (Cr.strOf (recL (bodyL x))).size ≤ 414 := by rw [strOf_size, rec_len]; have := (body_len can1).2; omega
        have hb : bl (Cr.strOf (recL (bodyL x))) = recL (bodyL x) := bl_strOf (rec_lt (body_lt can1.dig))
        have hs : recs (xs.take (k + 1)) = recs (xs.take k) ++ bl (Cr.strOf (recL (bodyL x))) := by rw [hb]; exact recs_snoc_take HX.out
        have HS := Lib.hid hs
        have HC := Lib.hid (can_snoc HX.out can1 can)
        have STR := string_any W4 (Cr.strOf (recL (bodyL x))) (by omega)
        clear hb hs W4 can
        generalize Cr.strOf (recL (bodyL x)) = sx at STR HS hz ⊢
        go_wp2_with fail
        refine STR.mono ?_
        rintro e w5 ⟨rfl, W5, K5⟩
        clear STR
        have F5 := K5.below F4 (by omega) (Nat.le_refl _)
        go_wp2
        go_roundw
        case rel => exact ⟨_, k + 1, rfl, by omega, by go_num, by rw [HS.out]; exact W5, F5, HC.out⟩
        case measure => simp [intOf]; omega
      · refine (write_no x _ xok can1).mono ?_
        rintro e w4 ⟨rfl, G4⟩
        replace F := F.trans (G4.mono (by have := HB.out; have := F.size; omega))
        go_wp2
        go_ret2
        exact ⟨.inr ⟨all_no HX.out can1, rfl⟩, by rw [← HB.out]; exact F⟩
    · obtain rfl : k = n1 := by omega
      have ht : xs.take k = xs := List.take_of_length_le (by have := HN1.out; omega)
      rw [ht] at W can
      have hne : recs xs ≠ [] := by
        have h1 := H0.out
        cases hx : xs with
        | nil => exact absurd hx h1
        | cons y ys =>
          rw [recs_cons]
          intro e
          have := congrArg List.length e
          rw [List.length_append, rec_len] at this
          simp at this
      have TX := text_any W hne (by rw [ht] at hrl; omega)
      have HC := Lib.hid can
      clear hne ht can hrl
      obtain ⟨sx, hsx⟩ : ∃ sx, sx = Cr.strOf (recs xs) := ⟨_, rfl⟩
      rw [← hsx] at TX
      have HSX := Lib.hid hsx
      clear hsx hv
      have l1 : ¬ (k : Int) < (k : Int) := by omega
      go_wp2_with fail
      refine TX.mono ?_
      rintro e w4 ⟨rfl, W4, K4⟩
      have F4 := K4.below F (by omega) (Nat.le_refl _)
      go_wp2
      go_ret2
      exact ⟨.inl ⟨allCan.2 HC.out, by rw [← HSX.out]; rfl⟩, by rw [← HB.out]; exact F4⟩
theorem records_any {v0 : Value} {xs : List Sp} {w : World} (hv : SlsAt w v0 xs) (hl : xs.length ≤ 1000000) :
    Calls Tryz.prog 57 #[v0] w fun e w' => RecsPost xs w e w' := by
  by_cases h : xs = []
  · subst h
    exact records_none hv
  · exact records_some hv hl h
end Go.Proofs.YtdmgobffhpgjlaaGreat.Sl.Dg
end
