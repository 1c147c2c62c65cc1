/-
  Arguments that are rows of fields, or two texts, opened; what the form's reach says of their texts.
-/
import Derived.Test.YtdldoklkenhopaaGreatDoorOuTabs
import Derived.WideKeyArr2
import Derived.WideShapes
import Derived.SizedLaws
import Derived.Deep.Slices
namespace Go.Proofs.YtdldoklkenhopaaGreatDoor.Fi
open Go.RowKit Go.PlainAid Go.ChangeShapes Go.ChangeAt Go.WideShapes Go.WideMaps
open Hx
set_option linter.unusedVariables false
set_option maxRecDepth 20000
set_option linter.unusedSimpArgs false

section
variable {H : Type} {enc : TypeId × Value → H} {w : World} {base : Nat} {spare : Nat → Bool} {held : Bool} {fuel : Nat} {x : DataW H × List MemPlace} {cs : List Value}
/-- a field's texts as data -/
def fdD (H : Type) (f : Fd) : DataW H := .agg [.lit (.string f.n.data.toList), .lit (.string f.v.data.toList)]
theorem take_at (l : List Value) (i : Nat) (v : Value) (h : (l.drop i).take 1 = [v]) : l[i]? = some v := by
  have := congrArg (fun q => q[0]?) h
  simpa using this
set_option maxRecDepth 100000 in
/-- a field, out of its cells -/
theorem open_cells (h : DataW.trod enc Tryz.prog w base spare held fuel 26 cs = some x) : ∃ y : Fd, cs = fdL y ∧ y.Ok ∧ x.1 = fdD H y := by
  obtain ⟨xs, n, _, hx, hl, hlen, hf⟩ := DataW.trod_struct Tryz.underlying26 h
  rw [show Tryz.prog.cellsOf 26 = 2 by kernel_rfl] at hl
  match xs, hlen, hx, hf with
  | [x0, x1], _, hx, hf =>
    have ks : Tryz.prog.cellsOf 9 = 1 := by kernel_rfl
    have g0 : DataW.trod enc Tryz.prog w base spare held n 9 ((cs.drop 0).take (Tryz.prog.cellsOf 9)) = some x0 := hf 0 _ rfl
    have g1 : DataW.trod enc Tryz.prog w base spare held n 9 ((cs.drop 1).take (Tryz.prog.cellsOf 9)) = some x1 := hf 1 _ rfl
    rw [ks] at g0 g1
    obtain ⟨y0, e0, d0, b0⟩ := DataW.trod_string Tryz.underlying9 g0
    obtain ⟨y1, e1, d1, b1⟩ := DataW.trod_string Tryz.underlying9 g1
    refine ⟨⟨y0, y1⟩, ?_, ⟨b0, b1⟩, by rw [hx, d0, d1]; rfl⟩
    have c0 := take_at _ _ _ e0
    have c1 := take_at _ _ _ e1
    match cs, hl with
    | [u, v], _ =>
      simp at c0 c1
      rw [c0, c1]; rfl
theorem weights_fd (y : Fd) : DataW.weights Tryz.prog 26 (fdD H y) = [y.n.size, y.v.size] := by
  have h1 : y.n.data.toList.length = y.n.size := by simp
  have h2 : y.v.data.toList.length = y.v.size := by simp
  simp only [fdD, DataW.weights, Tryz.underlying26]
  simp [DataW.weightsEach, DataW.weights, h1, h2]
theorem weights_all {e : TypeId} {d : DataW H} : ∀ {l : List (DataW H)}, d ∈ l → ∀ n ∈ DataW.weights Tryz.prog e d, n ∈ DataW.weightsAll Tryz.prog e l
  | [], h, n, hn => by cases h
  | a :: l, h, n, hn => by
    rw [DataW.weightsAll, List.mem_append]
    rcases List.mem_cons.1 h with rfl | h
    · exact .inl hn
    · exact .inr (weights_all h n hn)
theorem open_fds {b : Option Addr} {len cap : Nat} (h : DataW.trod enc Tryz.prog w base spare held fuel 23 [.slice b len cap] = some x) :
    ∃ l : List Fd, FdsAt w (.slice b len cap) l ∧ l.length ≤ 9223372036854775807 ∧ (∀ y ∈ l, y.Ok) ∧ ((∀ n ∈ DataW.weights Tryz.prog 23 x.1, n ≤ reachBytes) → Reach l) := by
  rcases Deep.open_slice Tryz.underlying23 h with ⟨hcs, _⟩ | ⟨a, len', cap', m, n, D, Pl, hcs, hb, hl, hm, hmm, hxx, hx⟩
  · simp at hcs
    obtain ⟨rfl, rfl, rfl⟩ := hcs
    exact ⟨[], none_fds w, by simp, by simp, fun _ => by intro x hx; cases hx⟩
  · simp at hcs
    obtain ⟨rfl, rfl, rfl⟩ := hcs
    rw [show Tryz.prog.cellsOf 26 = 2 by kernel_rfl] at hx
    have hlm : len ≤ m := by rw [hmm]; split <;> omega
    have hf : ∀ i, i < len → ∃ y : Fd, (∀ k c, (fdL y)[k]? = some c → w.cell? ((a.add (i * 2)).add k) = some c) ∧ y.Ok ∧ D i = fdD H y := by
      intro i hi
      obtain ⟨cs', h1, h2⟩ := hx i (by omega)
      obtain ⟨y, rfl, y1, y2⟩ := open_cells h2
      refine ⟨y, fun k c hk => ?_, y1, y2⟩
      obtain ⟨_, h3, h4⟩ := World.cells?_some h1
      have hk8 : k < 2 := (List.getElem?_eq_some_iff.1 hk).1
      rw [h4 k hk8]
      exact hk
    haveI : Inhabited Fd := ⟨Fd.zero⟩
    obtain ⟨Y, hY⟩ := Deep.choose_lt (α := Fd) (p := fun i y => (∀ k c, (fdL y)[k]? = some c → w.cell? ((a.add (i * 2)).add k) = some c) ∧ y.Ok ∧ D i = fdD H y) hf
    refine ⟨(List.range len).map Y, ⟨some a, cap, by simp, by simpa using hl, fun j y hj => ?_⟩, ?_, ?_, ?_⟩
    · have hlt : j < len := by
        have := (List.getElem?_eq_some_iff.1 hj).1
        simpa using this
      have : y = Y j := by simpa [hlt] using hj.symm
      subst this
      have hb := World.block_lt_of_cell? w _ ((hY j hlt).1 0 _ rfl)
      rw [add_block, add_block] at hb
      exact ⟨a, rfl, hb, (hY j hlt).1⟩
    · simp; unfold maxLen at hm; omega
    · intro y hy
      obtain ⟨i, hi, rfl⟩ := List.mem_map.1 hy
      exact (hY i (List.mem_range.1 hi)).2.1
    · intro hw y hy
      obtain ⟨i, hi, rfl⟩ := List.mem_map.1 hy
      have hD := (hY i (List.mem_range.1 hi)).2.2
      have key : ∀ n ∈ DataW.weights Tryz.prog 26 (D i), n ≤ reachBytes := fun n hn => by
        refine hw n ?_
        rw [hxx]
        simp only [DataW.weights, Tryz.underlying23]
        refine List.mem_cons_of_mem _ (List.mem_append_left _ ?_)
        exact weights_all (List.mem_map_of_mem hi) n hn
      rw [hD, weights_fd] at key
      have k1 := key (Y i).n.size (by simp)
      have k2 := key (Y i).v.size (by simp)
      unfold reachBytes at k1 k2
      omega
end
theorem reach_of {H : Type} {ts : List TypeId} {ds : List (DataW H)} (h : (DataW.weightsEach Tryz.prog ts ds).all (· ≤ reachBytes) = true) {j : Nat} {t : TypeId} {d : DataW H} (ht : ts[j]? = some t) (hd : ds[j]? = some d) : ∀ n ∈ DataW.weights Tryz.prog t d, n ≤ reachBytes := fun n hn => by
  have := List.all_eq_true.1 h _ (DataW.weights_mem_each ht hd n hn)
  simpa using this
theorem twos_cells {H : Type} {enc : TypeId × Value → H} {w : World} {base : Nat} {spare : Nat → Bool} {held : Bool} {fuel : Nat} {x : DataW H × List MemPlace} {c0 c1 : Value} (h : DataW.trod enc Tryz.prog w base spare held fuel 22 [c0, c1] = some x) :
    ∃ a b : ByteArray, c0 = .string a ∧ c1 = .string b ∧ x.1 = .agg [.lit (.string a.data.toList), .lit (.string b.data.toList)] := by
  have hce : Tryz.prog.cellsOf 9 = 1 := by kernel_rfl
  have ht : Tryz.prog.underlying 22 = some (.array 2 9) := by kernel_rfl
  cases fuel with
  | zero => simp [DataW.trod] at h
  | succ n =>
    unfold DataW.trod at h
    rw [ht] at h
    have r2 : List.range 2 = [0, 1] := rfl
    simp [r2, hce] at h
    obtain ⟨_, h⟩ := h
    cases h0 : DataW.trod enc Tryz.prog w base spare held n 9 [c0] with
    | none => simp [h0] at h
    | some y0 =>
      cases h1 : DataW.trod enc Tryz.prog w base spare held n 9 [c1] with
      | none => simp [h0, h1] at h
      | some y1 =>
        obtain ⟨a, e0, d0, _⟩ := DataW.trod_string Tryz.underlying9 h0
        obtain ⟨b, e1, d1, _⟩ := DataW.trod_string Tryz.underlying9 h1
        simp at e0 e1
        refine ⟨a, b, e0, e1, ?_⟩
        simp [h0, h1] at h
        rw [← h, d0, d1]
theorem weights_twos {H : Type} (a b : ByteArray) : DataW.weights Tryz.prog 22 (.agg [.lit (.string a.data.toList), .lit (.string b.data.toList)] : DataW H) = [a.size, b.size] := by
  have h1 : a.data.toList.length = a.size := by simp
  have h2 : b.data.toList.length = b.size := by simp
  have ht : Tryz.prog.underlying 22 = some (.array 2 9) := by kernel_rfl
  simp only [DataW.weights, ht]
  simp [DataW.weightsAll, DataW.weights, h1, h2]
theorem open_twos {H : Type} {enc : TypeId × Value → H} {W : World} {base : Nat} {v : Value} {dd : DataW H} {ps : List MemPlace} (hval : Value.okWide Tryz.prog W .any base 22 v) (h : DataW.Trod enc Tryz.prog W 0 (fun _ => true) true 22 v dd ps) :
    ∃ y : ByteArray × ByteArray, v = .agg #[.string y.1, .string y.2] ∧ ((∀ n ∈ DataW.weights Tryz.prog 22 dd, n ≤ reachBytes) → y.1.size ≤ 140737488355328 ∧ y.2.size ≤ 140737488355328) := by
  have ht : Tryz.prog.underlying 22 = some (.array 2 9) := by kernel_rfl
  have hc2 : Tryz.prog.cellsOf 22 = 2 := by kernel_rfl
  simp only [Value.okWide, ht] at hval
  obtain ⟨cs, rfl, hcs, _⟩ := hval
  rw [hc2] at hcs
  obtain ⟨fuel, hf⟩ := h
  have hf' : DataW.trod enc Tryz.prog W 0 (fun _ => true) true fuel 22 cs.toList = some (dd, ps) := hf
  match hq : cs.toList, hf' with
  | [c0, c1], hf' =>
    obtain ⟨a, b, e0, e1, hd⟩ := twos_cells hf'
    have hd' : dd = .agg [.lit (.string a.data.toList), .lit (.string b.data.toList)] := hd
    refine ⟨(a, b), ?_, fun hw => ?_⟩
    · have : cs = #[c0, c1] := by rw [← Array.toArray_toList (xs := cs), hq]
      rw [this, e0, e1]
    · rw [hd', weights_twos] at hw
      have k1 := hw a.size (by simp)
      have k2 := hw b.size (by simp)
      unfold reachBytes at k1 k2
      show a.size ≤ _ ∧ b.size ≤ _
      omega
  | [], _ => have := congrArg List.length hq; rw [Array.length_toList, hcs] at this; simp at this
  | [_], _ => have := congrArg List.length hq; rw [Array.length_toList, hcs] at this; simp at this
  | _ :: _ :: _ :: _, _ => have := congrArg List.length hq; rw [Array.length_toList, hcs] at this; simp at this
end Go.Proofs.YtdldoklkenhopaaGreatDoor.Fi
