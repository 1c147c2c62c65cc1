/-
  Contract of Next of package inlet.
-/
import Derived.Test.YtdldoklkenhopaaGreatDoorInNext
import Derived.Test.YtdldoklkenhopaaGreatDoorFiRefP
namespace Go.Proofs.YtdldoklkenhopaaGreatDoor.In
open Go.RowKit Go.PlainAid
open Hx Fi Ch
set_option linter.unusedVariables false
set_option maxRecDepth 20000
set_option linter.unusedSimpArgs false

/-- what Next answers -/
def NextPost (w : World) (p : Nat) (Z : Nat → Prop) (l : List UInt8) (e : Ending) (w' : World) : Prop :=
  (∃ st c', (st = 0 ∧ rdF l = .more ∨ rdF l = .bad st) ∧ e = .returned (.tuple #[.agg zR, .int .i64 st]) ∧ Post w w' p Z c' ∧ IsAt c' l st) ∨
  (∃ q n fv c', rdF l = .ok q n ∧ e = .returned (.tuple #[.agg (rqV q fv), .int .i64 200]) ∧ IsAt c' (l.drop n) 0 ∧ (∃ o m k, fv = .slice o m k) ∧ ∃ Z', Has w' p Z' c' ∧ Goes w w' Z Z' ∧ FdsAt w' fv q.fs ∧ ∀ b, FB fv q.fs b → ¬ Z' b ∧ (Z b ∨ w.heap.size ≤ b))
/-- behind the loop: what stands -/
structure Finl (w u : World) (p B : Nat) (Z Z2 : Nat → Prop) (c : I) (st : Int) : Prop where
  has : Has u p Z2 c
  goes : Goes w u Z Z2
  at_ : At u B 36 zR
  nB : ¬ Z2 B
  wr : c.wr = st
section
variable {w u : World} {p B : Nat} {Z Z2 : Nat → Prop} {c : I} {st : Int}
theorem Finl.drew (h : Finl w u p B Z Z2 c st) : Finl w u.drew p B Z Z2 c st :=
  ⟨h.has.old ((Below.refl _ _).drew), h.goes.trans (Goes.of_below ((Below.refl _ _).drew) Z2), h.at_.drew, h.nB, h.wr⟩
theorem Finl.cell (h : Finl w u p B Z Z2 c st) : u.cell? ⟨p, 10, none⟩ = some (.int .i64 st) := by rw [h.has.c10, h.wr]
theorem Finl.stores (h : Finl w u p B Z Z2 c st) : Stores Tryz.prog u 36 B 0 zR (u.setRow B zR) := h.at_.stores (by kernel_rfl) rfl (by
  intro v hv
  simp [zR] at hv
  rcases hv with rfl | rfl | rfl <;> rfl)
theorem Finl.store (h : Finl w u p B Z Z2 c st) (hB : w.heap.size ≤ B) : Finl w (u.setRow B zR) p B Z Z2 c st := by
  refine ⟨h.has.kept (by simp) fun b hb => heap_setRow_other fun e => h.nB (by rw [← e]; exact hb), ?_, h.at_.row _, h.nB, h.wr⟩
  exact ⟨h.goes.os, h.goes.tape, h.goes.output, by simpa using h.goes.size, fun b h1 h2 => (heap_setRow_other (by omega)).trans (h.goes.block b h1 h2), h.goes.sub⟩
theorem Finl.loads (h : Finl w u p B Z Z2 c st) : Loads Tryz.prog u 36 ⟨B, 0, none⟩ zR := h.at_.loads (by kernel_rfl) (by kernel_rfl)
end
/-- how early the state is -/
def rkV : Option Value → Nat
  | some (.int .i64 0) => 3
  | some (.int .i64 3) => 0
  | _ => 1
def rkW (p : Nat) (w : World) : Nat := rkV (w.cell? ⟨p, 0, none⟩)
theorem rkV_is (c : I) : rkV (some (.int .i64 c.st)) = rank c := by
  unfold rank
  by_cases h0 : c.st = 0
  · rw [h0]; rfl
  · by_cases h3 : c.st = 3
    · rw [h3]; rfl
    · rw [if_neg h0, if_neg h3]
      unfold rkV
      split
      · rename_i e; injection e with e; injection e with _ e; exact absurd e h0
      · rename_i e; injection e with e; injection e with _ e; exact absurd e h3
      · rfl
theorem rkW_is {w : World} {p : Nat} {c : I} (h : w.cell? ⟨p, 0, none⟩ = some (.int .i64 c.st)) : rkW p w = rank c := by unfold rkW; rw [h]; exact rkV_is c
/-- where the loop of Next stands -/
def LInv (w wr : World) (p : Nat) (Z : Nat → Prop) (l : List UInt8) : Prop := ∃ c Z1, Has wr p Z1 c ∧ IsAt c l 0 ∧ Goes w wr Z Z1 ∧ At wr w.heap.size 36 zR ∧ ¬ Z1 w.heap.size
set_option maxHeartbeats 4000000 in
theorem next_go {w : World} {p : Nat} {Z : Nat → Prop} {c : I} {l : List UInt8} (h : Has w p Z c) (hi : IsAt c l 0) (hm : l.length ≤ 524288) :
    Calls Tryz.prog 9 #[.pointer (some ⟨p, 0, none⟩)] w (NextPost w p Z l) := by
  have B0 : Below w.heap.size w (w.alloc (.cells zR 36)) := (Below.refl _ _).alloc (Nat.le_refl _) _
  have L0 : LInv w (w.alloc (.cells zR 36)) p Z l := ⟨c, Z, h.old B0, hi, Goes.of_below B0 Z, At.new w _ _, fun hz => by have := h.lt _ hz; omega⟩
  clear B0 h hi
  unfold zR at L0
  go_enter Tryz.func9, Tryz.ntmps9
  go_upto_region 1 with (fail)
  generalize w.alloc (.cells #[.string ⟨#[]⟩, .string ⟨#[]⟩, .slice none 0 0, .bool false] 36) = w0 at L0 ⊢
  go_wp2_with fail
  go_step3
  go_wp2_with fail
  go_step3
  go_wp2_with fail
  go_loopw [] (fun wr => LInv w wr p Z l) (fun wr => rkW p wr)
  case atStart => exact L0
  case round =>
    clear L0
    obtain ⟨c1, Z1, h1, is1, G1, A1, nB⟩ := hrel
    have x10 : wr.cell? ⟨p, 10, none⟩ = some (.int .i64 0) := by rw [h1.c10, is1.wr]
    have x0 := h1.c0.1
    cases is1 with
    | wrong hX => exact absurd rfl hX.ne
    | head hX =>
      rw [hX.st] at x0
      have is1 := trivial
      have ST := head_any h1 hX (by omega)
      skip
      go_wp2_with fail
      refine ST.mono ?_
      rintro e w2 ⟨b, c2, rfl, ⟨Z2, h2, G2⟩, hst⟩
      clear ST
      have A2 : At w2 w.heap.size 36 zR := A1.same (G2.block _ A1.lt nB)
      have nB2 : ¬ Z2 w.heap.size := fun hz => by
        rcases G2.sub _ hz with x | x
        · exact nB x
        · have := A1.lt; omega
      cases b with
      | true =>
        unfold Stp at hst
        rw [if_pos rfl] at hst
        have hms : rkW p w2 < rkW p wr := by rw [rkW_is h2.c0.1, rkW_is h1.c0.1]; exact hst.2
        have LI : LInv w w2 p Z l := ⟨c2, Z2, h2, hst.1, G1.trans G2, A2, nB2⟩
        clear h2 G2 A2 nB2 hst h1 is1 G1 A1 nB x0 x10 hX
        go_wp2
        go_roundw
        case rel => exact LI
        case measure => exact hms
      | false =>
        unfold Stp at hst
        rw [if_neg (by simp)] at hst
        obtain ⟨st, RS, IS⟩ : ∃ st, (st = 0 ∧ rdF l = .more ∨ rdF l = .bad st) ∧ IsAt c2 l st := by
          rcases hst with ⟨a, b⟩ | ⟨s, a, b⟩
          · exact ⟨0, .inl ⟨rfl, a⟩, b⟩
          · exact ⟨s, .inr a, b⟩
        have FN : Finl w w2 p w.heap.size Z Z2 c2 st := ⟨h2, G1.trans G2, A2, nB2, IS.wr⟩
        clear hst h2 G2 A2 nB2 h1 is1 G1 A1 nB x0 x10 hX
        go_upto_region 13 with (fail)
        refine wp_region_held (S := fun u => Finl w u p w.heap.size Z Z2 c2 st) (by kernel_rfl) ?_
        change wpAnyH _ _ _ _ _ _ _ _ w2.drew
        have j0 := FN.drew
        clear FN
        generalize w2.drew = W at j0 ⊢
        have j2 := j0.store (Nat.le_refl _)
        have S2 := j0.stores
        unfold zR at j2 S2
        generalize W.setRow w.heap.size #[.string ⟨#[]⟩, .string ⟨#[]⟩, .slice none 0 0, .bool false] = W2 at j2 S2
        refine held_take 0 (.agg #[.string ⟨#[]⟩, .string ⟨#[]⟩, .slice none 0 0, .bool false]) rfl (by kernel_rfl) (by kernel_rfl) (by kernel_rfl) (fun _ _ _ h => h) (Or.inl ⟨by rfl, fun x j => by go_simp⟩) j0 (fun K hK => ?_)
        go_simp
        refine hK _ _ ?_
        clear hK K
        refine held_take 1 (.pointer (some ⟨p, 0, none⟩)) rfl (by kernel_rfl) (by kernel_rfl) (by kernel_rfl) (fun _ _ _ h => h) (Or.inl ⟨by rfl, fun x j => by go_simp⟩) j0 (fun K hK => ?_)
        go_simp
        refine hK _ _ ?_
        clear hK K
        refine held_take 2 (.pointer (some ⟨p, 0, none⟩)) rfl (by kernel_rfl) (by kernel_rfl) (by kernel_rfl) (fun _ _ _ h => h) (Or.inl ⟨by rfl, fun x j => by go_simp⟩) j0 (fun K hK => ?_)
        go_simp
        refine hK _ _ ?_
        clear hK K
        refine held_take 3 (.pointer (some ⟨p, 10, none⟩)) rfl (by kernel_rfl) (by kernel_rfl) (by kernel_rfl) (fun _ _ _ h => h) (Or.inl ⟨by rfl, fun x j => by go_simp⟩) j0 (fun K hK => ?_)
        go_simp
        refine hK _ _ ?_
        clear hK K
        refine held_take 4 (.int .i64 st) rfl (by kernel_rfl) (by kernel_rfl) (by kernel_rfl) (fun _ _ _ h => h) (Or.inl ⟨by rfl, fun x j => by have jc := j.cell; go_simp⟩) j0 (fun K hK => ?_)
        go_simp
        refine hK _ _ ?_
        clear hK K
        refine held_one 5 (by kernel_rfl) (fun K hK => wpOp_in rfl rfl ?_)
        refine wpo_store S2 rfl rfl rfl rfl ?_
        refine hK _ _ j2 ?_
        clear hK K
        refine held_take 6 (.int .i64 st) rfl (by kernel_rfl) (by kernel_rfl) (by kernel_rfl) (fun _ _ _ h => h) (Or.inl ⟨by rfl, fun x j => by go_simp⟩) j2 (fun K hK => ?_)
        go_simp
        refine hK _ _ ?_
        clear hK K
        refine wpAnyH_done (by kernel_rfl) ?_ _
        go_wp2
        rw [Exit.noGoto_ret]
        refine bodyPost_ret (Fi.results_cell_tmp Tryz.results9 _ rfl rfl j2.loads) rfl ?_
        exact (.inl ⟨st, c2, RS, rfl, ⟨Z2, j2.has, j2.goes⟩, IS⟩)
    | body pre f hX =>
      rw [hX.st] at x0
      have is1 := trivial
      have ST := body_step h1 hX hm
      skip
      go_wp2_with fail
      refine ST.mono ?_
      rintro e w2 ⟨b, c2, rfl, ⟨Z2, h2, G2⟩, hst⟩
      clear ST
      have A2 : At w2 w.heap.size 36 zR := A1.same (G2.block _ A1.lt nB)
      have nB2 : ¬ Z2 w.heap.size := fun hz => by
        rcases G2.sub _ hz with x | x
        · exact nB x
        · have := A1.lt; omega
      cases b with
      | true =>
        unfold Stp at hst
        rw [if_pos rfl] at hst
        have hms : rkW p w2 < rkW p wr := by rw [rkW_is h2.c0.1, rkW_is h1.c0.1]; exact hst.2
        have LI : LInv w w2 p Z l := ⟨c2, Z2, h2, hst.1, G1.trans G2, A2, nB2⟩
        clear h2 G2 A2 nB2 hst h1 is1 G1 A1 nB x0 x10 hX
        go_wp2
        go_roundw
        case rel => exact LI
        case measure => exact hms
      | false =>
        unfold Stp at hst
        rw [if_neg (by simp)] at hst
        obtain ⟨st, RS, IS⟩ : ∃ st, (st = 0 ∧ rdF l = .more ∨ rdF l = .bad st) ∧ IsAt c2 l st := by
          rcases hst with ⟨a, b⟩ | ⟨s, a, b⟩
          · exact ⟨0, .inl ⟨rfl, a⟩, b⟩
          · exact ⟨s, .inr a, b⟩
        have FN : Finl w w2 p w.heap.size Z Z2 c2 st := ⟨h2, G1.trans G2, A2, nB2, IS.wr⟩
        clear hst h2 G2 A2 nB2 h1 is1 G1 A1 nB x0 x10 hX
        go_upto_region 13 with (fail)
        refine wp_region_held (S := fun u => Finl w u p w.heap.size Z Z2 c2 st) (by kernel_rfl) ?_
        change wpAnyH _ _ _ _ _ _ _ _ w2.drew
        have j0 := FN.drew
        clear FN
        generalize w2.drew = W at j0 ⊢
        have j2 := j0.store (Nat.le_refl _)
        have S2 := j0.stores
        unfold zR at j2 S2
        generalize W.setRow w.heap.size #[.string ⟨#[]⟩, .string ⟨#[]⟩, .slice none 0 0, .bool false] = W2 at j2 S2
        refine held_take 0 (.agg #[.string ⟨#[]⟩, .string ⟨#[]⟩, .slice none 0 0, .bool false]) rfl (by kernel_rfl) (by kernel_rfl) (by kernel_rfl) (fun _ _ _ h => h) (Or.inl ⟨by rfl, fun x j => by go_simp⟩) j0 (fun K hK => ?_)
        go_simp
        refine hK _ _ ?_
        clear hK K
        refine held_take 1 (.pointer (some ⟨p, 0, none⟩)) rfl (by kernel_rfl) (by kernel_rfl) (by kernel_rfl) (fun _ _ _ h => h) (Or.inl ⟨by rfl, fun x j => by go_simp⟩) j0 (fun K hK => ?_)
        go_simp
        refine hK _ _ ?_
        clear hK K
        refine held_take 2 (.pointer (some ⟨p, 0, none⟩)) rfl (by kernel_rfl) (by kernel_rfl) (by kernel_rfl) (fun _ _ _ h => h) (Or.inl ⟨by rfl, fun x j => by go_simp⟩) j0 (fun K hK => ?_)
        go_simp
        refine hK _ _ ?_
        clear hK K
        refine held_take 3 (.pointer (some ⟨p, 10, none⟩)) rfl (by kernel_rfl) (by kernel_rfl) (by kernel_rfl) (fun _ _ _ h => h) (Or.inl ⟨by rfl, fun x j => by go_simp⟩) j0 (fun K hK => ?_)
        go_simp
        refine hK _ _ ?_
        clear hK K
        refine held_take 4 (.int .i64 st) rfl (by kernel_rfl) (by kernel_rfl) (by kernel_rfl) (fun _ _ _ h => h) (Or.inl ⟨by rfl, fun x j => by have jc := j.cell; go_simp⟩) j0 (fun K hK => ?_)
        go_simp
        refine hK _ _ ?_
        clear hK K
        refine held_one 5 (by kernel_rfl) (fun K hK => wpOp_in rfl rfl ?_)
        refine wpo_store S2 rfl rfl rfl rfl ?_
        refine hK _ _ j2 ?_
        clear hK K
        refine held_take 6 (.int .i64 st) rfl (by kernel_rfl) (by kernel_rfl) (by kernel_rfl) (fun _ _ _ h => h) (Or.inl ⟨by rfl, fun x j => by go_simp⟩) j2 (fun K hK => ?_)
        go_simp
        refine hK _ _ ?_
        clear hK K
        refine wpAnyH_done (by kernel_rfl) ?_ _
        go_wp2
        rw [Exit.noGoto_ret]
        refine bodyPost_ret (Fi.results_cell_tmp Tryz.results9 _ rfl rfl j2.loads) rfl ?_
        exact (.inl ⟨st, c2, RS, rfl, ⟨Z2, j2.has, j2.goes⟩, IS⟩)
    | chunks pre f hX =>
      rw [hX.st] at x0
      have is1 := trivial
      have ST := chunk_step h1 hX hm
      skip
      go_wp2_with fail
      refine ST.mono ?_
      rintro e w2 ⟨b, c2, rfl, ⟨Z2, h2, G2⟩, hst⟩
      clear ST
      have A2 : At w2 w.heap.size 36 zR := A1.same (G2.block _ A1.lt nB)
      have nB2 : ¬ Z2 w.heap.size := fun hz => by
        rcases G2.sub _ hz with x | x
        · exact nB x
        · have := A1.lt; omega
      cases b with
      | true =>
        unfold Stp at hst
        rw [if_pos rfl] at hst
        have hms : rkW p w2 < rkW p wr := by rw [rkW_is h2.c0.1, rkW_is h1.c0.1]; exact hst.2
        have LI : LInv w w2 p Z l := ⟨c2, Z2, h2, hst.1, G1.trans G2, A2, nB2⟩
        clear h2 G2 A2 nB2 hst h1 is1 G1 A1 nB x0 x10 hX
        go_wp2
        go_roundw
        case rel => exact LI
        case measure => exact hms
      | false =>
        unfold Stp at hst
        rw [if_neg (by simp)] at hst
        obtain ⟨st, RS, IS⟩ : ∃ st, (st = 0 ∧ rdF l = .more ∨ rdF l = .bad st) ∧ IsAt c2 l st := by
          rcases hst with ⟨a, b⟩ | ⟨s, a, b⟩
          · exact ⟨0, .inl ⟨rfl, a⟩, b⟩
          · exact ⟨s, .inr a, b⟩
        have FN : Finl w w2 p w.heap.size Z Z2 c2 st := ⟨h2, G1.trans G2, A2, nB2, IS.wr⟩
        clear hst h2 G2 A2 nB2 h1 is1 G1 A1 nB x0 x10 hX
        go_upto_region 13 with (fail)
        refine wp_region_held (S := fun u => Finl w u p w.heap.size Z Z2 c2 st) (by kernel_rfl) ?_
        change wpAnyH _ _ _ _ _ _ _ _ w2.drew
        have j0 := FN.drew
        clear FN
        generalize w2.drew = W at j0 ⊢
        have j2 := j0.store (Nat.le_refl _)
        have S2 := j0.stores
        unfold zR at j2 S2
        generalize W.setRow w.heap.size #[.string ⟨#[]⟩, .string ⟨#[]⟩, .slice none 0 0, .bool false] = W2 at j2 S2
        refine held_take 0 (.agg #[.string ⟨#[]⟩, .string ⟨#[]⟩, .slice none 0 0, .bool false]) rfl (by kernel_rfl) (by kernel_rfl) (by kernel_rfl) (fun _ _ _ h => h) (Or.inl ⟨by rfl, fun x j => by go_simp⟩) j0 (fun K hK => ?_)
        go_simp
        refine hK _ _ ?_
        clear hK K
        refine held_take 1 (.pointer (some ⟨p, 0, none⟩)) rfl (by kernel_rfl) (by kernel_rfl) (by kernel_rfl) (fun _ _ _ h => h) (Or.inl ⟨by rfl, fun x j => by go_simp⟩) j0 (fun K hK => ?_)
        go_simp
        refine hK _ _ ?_
        clear hK K
        refine held_take 2 (.pointer (some ⟨p, 0, none⟩)) rfl (by kernel_rfl) (by kernel_rfl) (by kernel_rfl) (fun _ _ _ h => h) (Or.inl ⟨by rfl, fun x j => by go_simp⟩) j0 (fun K hK => ?_)
        go_simp
        refine hK _ _ ?_
        clear hK K
        refine held_take 3 (.pointer (some ⟨p, 10, none⟩)) rfl (by kernel_rfl) (by kernel_rfl) (by kernel_rfl) (fun _ _ _ h => h) (Or.inl ⟨by rfl, fun x j => by go_simp⟩) j0 (fun K hK => ?_)
        go_simp
        refine hK _ _ ?_
        clear hK K
        refine held_take 4 (.int .i64 st) rfl (by kernel_rfl) (by kernel_rfl) (by kernel_rfl) (fun _ _ _ h => h) (Or.inl ⟨by rfl, fun x j => by have jc := j.cell; go_simp⟩) j0 (fun K hK => ?_)
        go_simp
        refine hK _ _ ?_
        clear hK K
        refine held_one 5 (by kernel_rfl) (fun K hK => wpOp_in rfl rfl ?_)
        refine wpo_store S2 rfl rfl rfl rfl ?_
        refine hK _ _ j2 ?_
        clear hK K
        refine held_take 6 (.int .i64 st) rfl (by kernel_rfl) (by kernel_rfl) (by kernel_rfl) (fun _ _ _ h => h) (Or.inl ⟨by rfl, fun x j => by go_simp⟩) j2 (fun K hK => ?_)
        go_simp
        refine hK _ _ ?_
        clear hK K
        refine wpAnyH_done (by kernel_rfl) ?_ _
        go_wp2
        rw [Exit.noGoto_ret]
        refine bodyPost_ret (Fi.results_cell_tmp Tryz.results9 _ rfl rfl j2.loads) rfl ?_
        exact (.inl ⟨st, c2, RS, rfl, ⟨Z2, j2.has, j2.goes⟩, IS⟩)
    | whole pre hX =>
      rw [hX.st] at x0
      have HA := hand_any h1
      obtain ⟨q1, hq1⟩ : ∃ q1, q1 = c1.q := ⟨_, rfl⟩
      have his := hX.is
      have e2 : c1.l2 = l.drop pre.length := by rw [hX.ll, List.drop_left]
      have hz := handed_is c1
      rw [e2] at hz
      have hsub := G1.sub
      have one := fun (fv : Value) (hf : ∃ o n k, fv = .slice o n k) => rq_one (q := c1.q) hf
      clear hX h1 e2
      go_wp2_with fail
      refine HA.mono ?_
      rintro e w2 ⟨fv, rfl, hfv, Z2, h2, G2, F2, D2⟩
      clear HA
      have A2 : At w2 w.heap.size 36 zR := A1.same (G2.block _ A1.lt nB)
      have nB2 : ¬ Z2 w.heap.size := fun hz => by
        rcases G2.sub _ hz with x | x
        · exact nB x
        · have := A1.lt; omega
      have S3 : Stores Tryz.prog w2 36 w.heap.size 0 (rqV c1.q fv) (w2.setRow w.heap.size (rqV c1.q fv)) := A2.stores (by rw [rqV_size]; kernel_rfl) rfl (one fv hfv)
      have L3 : Loads Tryz.prog (w2.setRow w.heap.size (rqV c1.q fv)) 36 ⟨w.heap.size, 0, none⟩ (rqV c1.q fv) := (A2.row (rqV c1.q fv)).loads (by kernel_rfl) (by rw [rqV_size]; kernel_rfl)
      have P3 : ∃ Z', Has (w2.setRow w.heap.size (rqV c1.q fv)) p Z' (handed c1) ∧ Goes w (w2.setRow w.heap.size (rqV c1.q fv)) Z Z' ∧ FdsAt (w2.setRow w.heap.size (rqV c1.q fv)) fv c1.q.fs ∧ ∀ b, FB fv c1.q.fs b → ¬ Z' b ∧ (Z b ∨ w.heap.size ≤ b) := by
        have ho : ∀ b, b ≠ w.heap.size → (w2.setRow w.heap.size (rqV c1.q fv)).heap[b]? = w2.heap[b]? := fun b hb => heap_setRow_other hb
        have sz : (w2.setRow w.heap.size (rqV c1.q fv)).heap.size = w2.heap.size := by simp
        have g := G1.trans G2
        refine ⟨Z2, h2.kept (by omega) fun b hb => ho b fun e => nB2 (by rw [← e]; exact hb), ⟨g.os, g.tape, g.output, by rw [sz]; exact g.size, fun b x1 x2 => (ho b (by omega)).trans (g.block b x1 x2), g.sub⟩, fds_kept F2 (by omega) fun b hb => ho b fun e => nB (by rw [← e]; exact (D2 b hb).2), fun b hb => ⟨(D2 b hb).1, hsub b (D2 b hb).2⟩⟩
      have P := Lib.hid P3
      clear P3 h2 G2 F2 D2 A2 nB2 G1 A1 nB hsub one hq1
      generalize w2.setRow w.heap.size (rqV c1.q fv) = w3 at S3 L3 P
      go_wp2_with (refine wpl_store S3 rfl rfl rfl rfl rfl ?_)
      rw [Exit.noGoto_ret]
      exact bodyPost_ret (Fi.results_cell_tmp Tryz.results9 _ rfl rfl L3) rfl (.inr ⟨c1.q, pre.length, fv, handed c1, his, rfl, hz, hfv, P.out⟩)
/-- what was wrong is told again -/
theorem next_wrong {w : World} {p : Nat} {Z : Nat → Prop} {c : I} (h : Has w p Z c) (hw : c.wr ≠ 0) :
    Calls Tryz.prog 9 #[.pointer (some ⟨p, 0, none⟩)] w fun e w' => e = .returned (.tuple #[.agg zR, .int .i64 c.wr]) ∧ Post w w' p Z c := by
  have B0 : Below w.heap.size w (w.alloc (.cells zR 36)) := (Below.refl _ _).alloc (Nat.le_refl _) _
  have FN0 : Finl w (w.alloc (.cells zR 36)) p w.heap.size Z Z c c.wr := ⟨h.old B0, Goes.of_below B0 Z, At.new w _ _, fun hz => by have := h.lt _ hz; omega, rfl⟩
  clear B0 h
  unfold zR at FN0
  obtain ⟨st, hst⟩ : ∃ st, c.wr = st := ⟨_, rfl⟩
  rw [hst] at FN0 hw ⊢
  clear hst
  have g : (st == 0) = false := by rw [beq_eq_false_iff_ne]; exact hw
  obtain ⟨c2, hc2⟩ : ∃ c2, c2 = c := ⟨_, rfl⟩
  rw [← hc2] at FN0 ⊢
  clear hc2 hw
  go_enter Tryz.func9, Tryz.ntmps9
  go_upto_region 1 with (fail)
  generalize w.alloc (.cells #[.string ⟨#[]⟩, .string ⟨#[]⟩, .slice none 0 0, .bool false] 36) = w0 at FN0 ⊢
  go_wp2_with fail
  go_step3
  go_wp2_with fail
  go_step3
  go_wp2_with fail
  go_loopw [] (fun wr => Finl w wr p w.heap.size Z Z c2 st) (fun _ => 0)
  case atStart => exact FN0
  case round =>
    clear FN0
    have x10 := hrel.cell
    have FN := hrel
    clear hrel
    go_upto_region 13 with (fail)
    refine wp_region_held (S := fun u => Finl w u p w.heap.size Z Z c2 st) (by kernel_rfl) ?_
    change wpAnyH _ _ _ _ _ _ _ _ wr.drew
    have j0 := FN.drew
    clear FN
    generalize wr.drew = W at j0 ⊢
    have j2 := j0.store (Nat.le_refl _)
    have S2 := j0.stores
    unfold zR at j2 S2
    generalize W.setRow w.heap.size #[.string ⟨#[]⟩, .string ⟨#[]⟩, .slice none 0 0, .bool false] = W2 at j2 S2
    refine held_take 0 (.agg #[.string ⟨#[]⟩, .string ⟨#[]⟩, .slice none 0 0, .bool false]) rfl (by kernel_rfl) (by kernel_rfl) (by kernel_rfl) (fun _ _ _ h => h) (Or.inl ⟨by rfl, fun x j => by go_simp⟩) j0 (fun K hK => ?_)
    go_simp
    refine hK _ _ ?_
    clear hK K
    refine held_take 1 (.pointer (some ⟨p, 0, none⟩)) rfl (by kernel_rfl) (by kernel_rfl) (by kernel_rfl) (fun _ _ _ h => h) (Or.inl ⟨by rfl, fun x j => by go_simp⟩) j0 (fun K hK => ?_)
    go_simp
    refine hK _ _ ?_
    clear hK K
    refine held_take 2 (.pointer (some ⟨p, 0, none⟩)) rfl (by kernel_rfl) (by kernel_rfl) (by kernel_rfl) (fun _ _ _ h => h) (Or.inl ⟨by rfl, fun x j => by go_simp⟩) j0 (fun K hK => ?_)
    go_simp
    refine hK _ _ ?_
    clear hK K
    refine held_take 3 (.pointer (some ⟨p, 10, none⟩)) rfl (by kernel_rfl) (by kernel_rfl) (by kernel_rfl) (fun _ _ _ h => h) (Or.inl ⟨by rfl, fun x j => by go_simp⟩) j0 (fun K hK => ?_)
    go_simp
    refine hK _ _ ?_
    clear hK K
    refine held_take 4 (.int .i64 st) rfl (by kernel_rfl) (by kernel_rfl) (by kernel_rfl) (fun _ _ _ h => h) (Or.inl ⟨by rfl, fun x j => by have jc := j.cell; go_simp⟩) j0 (fun K hK => ?_)
    go_simp
    refine hK _ _ ?_
    clear hK K
    refine held_one 5 (by kernel_rfl) (fun K hK => wpOp_in rfl rfl ?_)
    refine wpo_store S2 rfl rfl rfl rfl ?_
    refine hK _ _ j2 ?_
    clear hK K
    refine held_take 6 (.int .i64 st) rfl (by kernel_rfl) (by kernel_rfl) (by kernel_rfl) (fun _ _ _ h => h) (Or.inl ⟨by rfl, fun x j => by go_simp⟩) j2 (fun K hK => ?_)
    go_simp
    refine hK _ _ ?_
    clear hK K
    refine wpAnyH_done (by kernel_rfl) ?_ _
    go_wp2
    rw [Exit.noGoto_ret]
    exact bodyPost_ret (Fi.results_cell_tmp Tryz.results9 _ rfl rfl j2.loads) rfl ⟨rfl, ⟨Z, j2.has, j2.goes⟩⟩
theorem next_nil (w : World) : Calls Tryz.prog 9 #[.pointer none] w fun e w' => e = .returned (.tuple #[.agg zR, .int .i64 0]) ∧ Below w.heap.size w w' := by
  have B0 : Below w.heap.size w (w.alloc (.cells zR 36)) := (Below.refl _ _).alloc (Nat.le_refl _) _
  have A0 := At.new w 36 zR
  have one : ∀ v ∈ zR.toList, v.oneCell' = true := by
    intro v hv
    simp [zR] at hv
    rcases hv with rfl | rfl | rfl <;> rfl
  have S0 : Stores Tryz.prog (w.alloc (.cells zR 36)) 36 w.heap.size 0 zR ((w.alloc (.cells zR 36)).setRow w.heap.size zR) := A0.stores (by kernel_rfl) rfl one
  have L0 : Loads Tryz.prog ((w.alloc (.cells zR 36)).setRow w.heap.size zR) 36 ⟨w.heap.size, 0, none⟩ zR := (A0.row zR).loads (by kernel_rfl) (by kernel_rfl)
  have B1 : Below w.heap.size w ((w.alloc (.cells zR 36)).setRow w.heap.size zR) := below_row B0 (Nat.le_refl _)
  clear A0 B0 one
  unfold zR at S0 L0 B1
  go_enter Tryz.func9, Tryz.ntmps9
  go_upto_region 1 with (fail)
  generalize World.setRow _ w.heap.size #[.string ⟨#[]⟩, .string ⟨#[]⟩, .slice none 0 0, .bool false] = w2 at S0 L0 B1
  generalize w.alloc _ = w1 at S0 ⊢
  go_wp2_with fail
  go_step3
  go_wp2_with (refine wpl_store S0 rfl rfl rfl rfl rfl ?_)
  rw [Exit.noGoto_ret]
  exact bodyPost_ret (Fi.results_cell_tmp Tryz.results9 _ rfl rfl L0) rfl ⟨rfl, B1⟩
end Go.Proofs.YtdldoklkenhopaaGreatDoor.In
