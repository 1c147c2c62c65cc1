/-
  The document's own answers: has, text, number, Framed, Body.
-/
import Derived.Test.YtdmgobffhpgjlaaSlAwake
namespace Go.Proofs.Ytdmgobffhpgjlaa.Sl
open Go.RowKit Go.PlainAid Go.Proofs.Ytdmgobffhpgjlaa.Cr
set_option linter.unusedVariables false
set_option maxRecDepth 20000
set_option linter.unusedSimpArgs false

set_option maxHeartbeats 1000000 in
theorem rhas_any (k : Int) (w : World) (hk : 1 ≤ k ∧ k ≤ 6) :
    Calls Try.prog 35 #[.int .i64 k] w fun e w' => e = .returned (.agg (layV k)) ∧ Below w.heap.size w w' := by
  have S1 : Stores Try.prog (w.alloc (.cells #[.bool false, .bool false, .bool false, .bool false] 79)) 79 w.heap.size 0 (layV k) ((w.alloc (.cells #[.bool false, .bool false, .bool false, .bool false] 79)).setRow w.heap.size (layV k)) := (At.new w _ _).stores (by kernel_rfl) rfl (lay_one k)
  have A1 := (At.new w 79 #[.bool false, .bool false, .bool false, .bool false]).row (layV k)
  have F1 : Below w.heap.size w ((w.alloc (.cells #[.bool false, .bool false, .bool false, .bool false] 79)).setRow w.heap.size (layV k)) := below_row ((Below.refl _ _).alloc (Nat.le_refl _) _) (Nat.le_refl _)
  generalize (w.alloc (.cells #[.bool false, .bool false, .bool false, .bool false] 79)).setRow w.heap.size (layV k) = X at S1 A1 F1
  have R : ∀ f : Func, f = Try.f35 → ∀ tmps : Array Value, tmps.getD 2 undef = .pointer (some ⟨w.heap.size, 0, none⟩) → (results f tmps).run Try.prog X = .ok (.agg (layV k)) X := fun f hf tmps ht => by
    subst hf
    exact results_cell_row Try.results35 _ _ w.heap.size 79 (layV k) (0, 0) _ ht A1.heap Try.underlying79 rfl (by kernel_rfl)
  have HR := Lib.hid R
  clear R A1
  have : k = 1 ∨ k = 2 ∨ k = 3 ∨ k = 4 ∨ k = 5 ∨ k = 6 := by omega
  clear hk
  rcases this with rfl | rfl | rfl | rfl | rfl | rfl
  all_goals
    go_enter Try.func35, Try.ntmps35
    go_wp2_with (refine wpl_store S1 rfl rfl rfl rfl rfl ?_)
    exact bodyPost_ret (HR.out _ rfl _ rfl) rfl ⟨rfl, F1⟩
theorem conv_bytes (w : World) (l : List Nat) (h : ∀ x ∈ l, x < 256) : (convert 73 9 (.slice (some ⟨w.heap.size, 0, none⟩) l.length l.length)).run Try.prog (w.alloc (.cells (dV l).toArray 5)) = .ok (.string (strOf l)) (w.alloc (.cells (dV l).toArray 5)) := by
  have := run_convert_bytes_back (P := Try.prog) (w.alloc (.cells (dV l).toArray 5)) 73 9 5 ⟨w.heap.size, 0, none⟩ l.length (l.map UInt8.ofNat) Try.underlying73 Try.underlying5 Try.underlying9 (fun j hj => by
    rw [add_at, Nat.zero_add, (At.new w _ _).cell]
    have hj' : j < l.length := by simpa using hj
    have := h l[j] (List.getElem_mem hj')
    simp [dV, hj', Nat.mod_eq_of_lt this])
  rw [List.length_map] at this
  exact this
theorem txt_text (s : ByteArray) : strOf (be 1 (s.size : Int)) ++ s = strOf (txt s) := by
  unfold txt
  rw [strOf_append, strOf_bl]
/-- what Body holds in memory -/
structure Bo (w0 w : World) (B L : Nat) (x : Sp) : Prop where
  sx : At w B 37 (slV x)
  ly : At w L 79 (layV x.k)
  bel : Below w0.heap.size w0 w
theorem Bo.below {w0 w w' : World} {B L : Nat} {x : Sp} (h : Bo w0 w B L x) (hb : Below w.heap.size w w') : Bo w0 w' B L x := ⟨h.sx.old hb, h.ly.old hb, h.bel.trans (hb.mono h.bel.size)⟩
theorem Bo.drew {w0 w : World} {B L : Nat} {x : Sp} (h : Bo w0 w B L x) : Bo w0 w.drew B L x := ⟨h.sx.drew, h.ly.drew, h.bel.drew⟩
theorem conv_dig {w : World} {B : Nat} {x : Sp} (h : At w B 37 (slV x)) (hd : Dig x.dig) : (convert 73 9 (.slice (some ⟨B, 3, none⟩) 32 32)).run Try.prog w = .ok (.string (strOf x.dig)) w := by
  have := run_convert_bytes_back (P := Try.prog) w 73 9 5 ⟨B, 3, none⟩ 32 (x.dig.map UInt8.ofNat) Try.underlying73 Try.underlying5 Try.underlying9 (fun j hj => by
    have hj' : j < x.dig.length := by simpa using hj
    have h2 := dig_cells h hd j (.int .u8 (x.dig[j] : Int)) (by simp [dV, hj'])
    rw [h2]
    have := hd.lt _ (List.getElem_mem hj')
    simp [Nat.mod_eq_of_lt this])
  rw [List.length_map, hd.len] at this
  exact this
end Go.Proofs.Ytdmgobffhpgjlaa.Sl
