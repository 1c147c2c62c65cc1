/-
  The document's own disk in memory: its struct and its row of files. Contracts of New, Used, Place.
-/
import Derived.Test.YtdmgobffhpgjlaaGreatPkFails
import Derived.Deep.AppendLies

namespace Go.Proofs.YtdmgobffhpgjlaaGreat.Pk
open Go.RowKit Go.PlainAid Go.Maps
set_option linter.unusedVariables false
set_option maxRecDepth 20000
set_option linter.unusedSimpArgs false

def nmB (b : Bs) : ByteArray := ⟨b.toArray⟩
theorem nmB_size (b : Bs) : (nmB b).size = b.length := by show b.toArray.size = _; simp
theorem kl_nmB (b : Bs) : kl (nmB b) = b := by simp [kl, nmB]
theorem nmB_kl (s : ByteArray) : nmB (kl s) = s := by simp [kl, nmB]
def fiV (f : Fi) : List Value := [.string (nmB f.nm), .string (nmB f.bs), .int .i64 (f.sf : Int)]
def rowF : List Fi → List Value
  | [] => []
  | f :: r => fiV f ++ rowF r
theorem rowF_len : ∀ l : List Fi, (rowF l).length = l.length * 3
  | [] => rfl
  | f :: r => by simp [rowF, fiV, rowF_len r]; omega
theorem rowF_app : ∀ a b : List Fi, rowF (a ++ b) = rowF a ++ rowF b
  | [], b => rfl
  | f :: r, b => by simp [rowF, rowF_app r b]
theorem rowF_get : ∀ {l : List Fi} {j : Nat} {f : Fi}, l[j]? = some f → ∀ c x, (fiV f)[c]? = some x → (rowF l)[j * 3 + c]? = some x
  | [], j, f, h, _, _, _ => by simp at h
  | g :: r, 0, f, h, c, x, hx => by
    simp at h
    subst h
    have hc := (List.getElem?_eq_some_iff.1 hx).1
    simp only [rowF, Nat.zero_mul, Nat.zero_add]
    rw [List.getElem?_append_left hc]
    exact hx
  | g :: r, j + 1, f, h, c, x, hx => by
    simp at h
    simp only [rowF]
    rw [List.getElem?_append_right (by simp [fiV]; omega)]
    have := rowF_get h c x hx
    rw [show (j + 1) * 3 + c - (fiV g).length = j * 3 + c by simp [fiV]; omega]
    exact this
theorem fiV_one (f : Fi) : ∀ u ∈ fiV f, u.oneCell' = true := by
  intro u hu
  simp [fiV] at hu
  rcases hu with rfl | rfl | rfl <;> rfl
theorem rowF_one : ∀ l : List Fi, ∀ u ∈ rowF l, u.oneCell' = true
  | [], u, h => by simp [rowF] at h
  | f :: r, u, h => by
    rcases List.mem_append.1 h with h | h
    · exact fiV_one f u h
    · exact rowF_one r u h
theorem app_used {l : List Fi} {j : Nat} {f : Fi} (h : l[j]? = some f) : usedF (l.take (j + 1)) = usedF (l.take j) + f.bs.length := by
  have app : ∀ a b : List Fi, usedF (a ++ b) = usedF a + usedF b := by
    intro a b
    induction a with
    | nil => simp [usedF]
    | cons x r ih => simp [usedF, ih]; omega
  rw [List.take_add_one, h, app]
  simp [usedF]
theorem app_used_le (l : List Fi) (j : Nat) : usedF (l.take j) ≤ usedF l := by
  have app : ∀ a b : List Fi, usedF (a ++ b) = usedF a + usedF b := by
    intro a b
    induction a with
    | nil => simp [usedF]
    | cons x r ih => simp [usedF, ih]; omega
  have := app (l.take j) (l.drop j)
  rw [List.take_append_drop] at this
  omega
def refV (v : Value) (a mo : Int) (D : Dk) : Array Value := #[v, .int .i64 D.room, .int .i64 D.ops, .int .i64 a, .int .i64 D.kd, .int .i64 mo, .bool D.off]
structure RefAt (w : World) (u : Nat) (v : Value) (a mo : Int) (D : Dk) : Prop where
  head : w.heap[u]? = some (.cells (refV v a mo D) 63 (0, 0))
  row : w.ownsRow 0 65 3 v D.L.length (rowF D.L)
  arm : D.kd ≠ 0 → a = D.fa ∧ max mo 0 = D.fm
  a0 : 0 ≤ a
  a1 : a ≤ 2199023255552
  m1 : mo ≤ 9223372036854775807
  ok : D.Ok
def rzone (u : Nat) (v : Value) (b : Nat) : Prop := b = u ∨ v.ownBlock = some b
theorem orow_same {w w' : World} {base : Nat} {e : TypeId} {size : Nat} {v : Value} {n : Nat} {xs : List Value} (h : w.ownsRow base e size v n xs) (hs : ∀ b, v.ownBlock = some b → w'.heap[b]? = w.heap[b]?) : w'.ownsRow base e size v n xs := by
  refine ⟨h.1, ?_⟩
  rcases h.2 with hn | ⟨g, cap, cur, rfl, hb, hg, rest⟩
  · exact .inl hn
  · exact .inr ⟨g, cap, cur, rfl, hb, by rw [hs g rfl]; exact hg, rest⟩
theorem orow_block {w : World} {base : Nat} {e : TypeId} {size : Nat} {v : Value} {n : Nat} {xs : List Value} (h : w.ownsRow base e size v n xs) {b : Nat} (hb : v.ownBlock = some b) : ∃ cur, w.heap[b]? = some (.cells cur e (0, 0)) := by
  rcases h.2 with ⟨rfl, _⟩ | ⟨g, cap, cur, rfl, _, hg, _⟩
  · simp [Value.ownBlock] at hb
  · simp [Value.ownBlock] at hb
    subst hb
    exact ⟨cur, hg⟩
section
variable {w w' : World} {u : Nat} {v : Value} {a mo : Int} {D : Dk}
theorem RefAt.lt (h : RefAt w u v a mo D) {b : Nat} (hb : rzone u v b) : b < w.heap.size := by
  rcases hb with rfl | hb
  · exact in_heap h.head
  · obtain ⟨cur, hc⟩ := orow_block h.row hb
    exact in_heap hc
theorem RefAt.ur (h : RefAt w u v a mo D) {b : Nat} (hb : v.ownBlock = some b) : u ≠ b := by
  obtain ⟨cur, hc⟩ := orow_block h.row hb
  exact kind_ne h.head hc (cells_ne (by decide))
theorem RefAt.kept (h : RefAt w u v a mo D) (hs : ∀ b, rzone u v b → w'.heap[b]? = w.heap[b]?) : RefAt w' u v a mo D :=
  ⟨by rw [hs u (.inl rfl)]; exact h.head, orow_same h.row fun b hb => hs b (.inr hb), h.arm, h.a0, h.a1, h.m1, h.ok⟩
theorem RefAt.alloc (h : RefAt w u v a mo D) (o : Obj) : RefAt (w.alloc o) u v a mo D := h.kept fun b hb => Below.heap_alloc _ _ _ (h.lt hb)
theorem RefAt.drewN (h : RefAt w u v a mo D) (n : Nat) : RefAt (w.drewN n) u v a mo D := h.kept fun _ _ => rfl
theorem RefAt.cell (h : RefAt w u v a mo D) (j : Nat) : w.cell? ⟨u, j, none⟩ = (refV v a mo D)[j]? := cell_of_row _ _ _ _ _ _ h.head
theorem RefAt.frozen (h : RefAt w u v a mo D) (j : Nat) : w.frozen? ⟨u, j, none⟩ = false := frozen_of_row _ _ _ _ _ h.head
/-- the slot of the row of files: its length, and what lies in it -/
theorem RefAt.form (h : RefAt w u v a mo D) : ∃ o cap, v = .slice o D.L.length cap ∧ ∀ j f, D.L[j]? = some f → ∃ g, o = some ⟨g, 0, none⟩ ∧ ∀ c x, (fiV f)[c]? = some x → w.cell? ⟨g, j * 3 + c, none⟩ = some x := by
  rcases h.row.2 with ⟨rfl, h0⟩ | ⟨g, cap, cur, rfl, _, hg, _⟩
  · have : D.L = [] := List.eq_nil_of_length_eq_zero h0
    rw [this]
    exact ⟨none, 0, rfl, by simp⟩
  · refine ⟨some ⟨g, 0, none⟩, cap, rfl, fun j f hj => ⟨g, rfl, fun c x hx => ?_⟩⟩
    have := h.row.cells (g := g) rfl (j * 3 + c) x (rowF_get hj c x hx)
    rw [add_addr, Nat.zero_add] at this
    exact this
theorem RefAt.turn (h : RefAt w u v a mo D) {v' : Value} {a' mo' : Int} {D' : Dk} (hp : w'.heap[u]? = some (.cells (refV v' a' mo' D') 63 (0, 0))) (hr : w'.ownsRow 0 65 3 v' D'.L.length (rowF D'.L))
    (harm : D'.kd ≠ 0 → a' = D'.fa ∧ max mo' 0 = D'.fm) (h0 : 0 ≤ a') (h1 : a' ≤ 2199023255552) (h2 : mo' ≤ 9223372036854775807) (ok : D'.Ok) : RefAt w' u v' a' mo' D' := ⟨hp, hr, harm, h0, h1, h2, ok⟩
set_option maxRecDepth 100000 in
theorem rnew_any (room : Int) (w : World) :
    Calls Tryz.prog 6 #[.int .i64 room] w fun e w' => e = .returned (.pointer (some ⟨w.heap.size, 0, none⟩)) ∧ w' = w.alloc (.cells (refV (.slice none 0 0) 0 0 (Dk.new room)) 63) := by
  go_enter Tryz.func6, Tryz.ntmps6
  go_wp2
  all_goals go_ret
  all_goals refine ⟨rfl, ?_⟩
  all_goals first | rfl | (rw [refV, Dk.new, show min (max room 0) 4194304 = 0 by omega]) | (rw [refV, Dk.new, show min (max room 0) 4194304 = 4194304 by omega]) | (rw [refV, Dk.new, show min (max room 0) 4194304 = room by omega])
set_option maxRecDepth 100000 in
set_option maxHeartbeats 1000000 in
theorem rused_any (h : RefAt w u v a mo D) : Calls Tryz.prog 51 #[.pointer (some ⟨u, 0, none⟩)] w fun e w' => e = .returned (.int .i64 (usedF D.L : Int)) ∧ w = w' := by
  obtain ⟨o, cap, rfl, hf⟩ := h.form
  have c0 := h.cell 0
  simp [refV] at c0
  have hus : usedF D.L ≤ 4194304 := by have := h.ok.used; have := h.ok.room1; omega
  have hcn := h.ok.cnt
  have HF := Lib.hid hf
  clear h hf
  go_enter Tryz.func51, Tryz.ntmps51
  go_wp2
  go_loopw [3, 4] (fun x i wr => ∃ k : Nat, k ≤ D.L.length ∧ i = .int .i64 k ∧ x = .int .i64 (usedF (D.L.take k) : Nat) ∧ w = wr) (fun _ i _ => D.L.length - (intOf i).toNat)
  case atStart => exact ⟨0, Nat.zero_le _, rfl, rfl, rfl⟩
  case round =>
    obtain ⟨k, hk, rfl, rfl, rfl⟩ := hrel
    by_cases hlt : k < D.L.length
    · obtain ⟨f, hf⟩ : ∃ f, D.L[k]? = some f := ⟨_, List.getElem?_eq_getElem hlt⟩
      obtain ⟨g, rfl, hc⟩ := HF.out k f hf
      have c1 := hc 1 _ rfl
      have us2 := app_used hf
      have us3 := app_used_le D.L (k + 1)
      have l1 : (k : Int) < (D.L.length : Int) := by omega
      have sz := nmB_size f.bs
      rw [us2] at us3
      clear hc
      go_wp2
      go_roundw
      case rel => exact ⟨k + 1, by omega, by go_num, by rw [us2]; go_num, trivial⟩
      case measure => simp [intOf]; omega
    · have et : D.L.take k = D.L := List.take_of_length_le (by omega)
      have l1 : ¬ (k : Int) < (D.L.length : Int) := by omega
      rw [et]
      go_wp2
      go_ret
      exact ⟨rfl, rfl⟩
def PlaceIs (k : Bs) (l : List Fi) (i : Int) : Prop := (i = -1 ∧ getF k l = none) ∨ ∃ (n : Nat) (f : Fi), i = (n : Int) ∧ l[n]? = some f ∧ f.nm = k ∧ getF k l = some f
set_option maxRecDepth 100000 in
set_option maxHeartbeats 1000000 in
theorem place_any (h : RefAt w u v a mo D) (s : ByteArray) : Calls Tryz.prog 39 #[.pointer (some ⟨u, 0, none⟩), .string s] w fun e w' => ∃ i, e = .returned (.int .i64 i) ∧ PlaceIs (kl s) D.L i ∧ w = w' := by
  obtain ⟨o, cap, rfl, hf⟩ := h.form
  have c0 := h.cell 0
  simp [refV] at c0
  have hcn := h.ok.cnt
  have HF := Lib.hid hf
  have UP := Lib.hid h.ok.up
  clear h hf
  go_enter Tryz.func39, Tryz.ntmps39
  go_wp2
  go_loopw [5] (fun i wr => ∃ k : Nat, k ≤ D.L.length ∧ i = .int .i64 k ∧ (∀ j g, j < k → D.L[j]? = some g → g.nm ≠ kl s) ∧ w = wr) (fun i _ => D.L.length - (intOf i).toNat)
  case atStart => exact ⟨0, Nat.zero_le _, rfl, fun j g hj => absurd hj (by omega), rfl⟩
  case round =>
    obtain ⟨k, hk, rfl, hno, rfl⟩ := hrel
    by_cases hlt : k < D.L.length
    · obtain ⟨f, hf⟩ : ∃ f, D.L[k]? = some f := ⟨_, List.getElem?_eq_getElem hlt⟩
      obtain ⟨g, rfl, hc⟩ := HF.out k f hf
      have c1 := hc 0 _ rfl
      simp only [Nat.add_zero] at c1
      have l1 : (k : Int) < (D.L.length : Int) := by omega
      clear hc
      have NO := Lib.hid hno
      clear hno
      by_cases e : f.nm = kl s
      · have t1 : ((nmB f.nm).toList == s.toList) = true := by
          rw [e, nmB_kl]
          simp
        have EH := Lib.hid e
        clear e
        go_wp2
        go_ret
        refine ⟨_, rfl, .inr ⟨k, f, rfl, hf, EH.out, ?_⟩, rfl⟩
        have := get_mem UP.out (List.mem_of_getElem? hf)
        rw [EH.out] at this
        exact this
      · have t1 : ((nmB f.nm).toList == s.toList) = false := by
          rw [beq_eq_false_iff_ne, ByteArray.toList_eq, ByteArray.toList_eq]
          intro c
          exact e (by rw [← kl_nmB f.nm]; exact c)
        go_wp2
        go_roundw
        case rel =>
          refine ⟨k + 1, by omega, by go_num, fun j g' hj hg => ?_, trivial⟩
          rcases Nat.lt_or_ge j k with c | c
          · exact NO.out j g' c hg
          · obtain rfl : j = k := by omega
            rw [hf] at hg
            injection hg with hg
            subst hg
            exact e
        case measure => simp [intOf]; omega
    · have l1 : ¬ (k : Int) < (D.L.length : Int) := by omega
      have NO := Lib.hid hno
      clear hno
      go_wp2
      go_ret
      refine ⟨_, rfl, .inl ⟨rfl, ?_⟩, rfl⟩
      cases hg : getF (kl s) D.L with
      | none => rfl
      | some f =>
        obtain ⟨h1, h2⟩ := get_some hg
        obtain ⟨j, hj⟩ := List.getElem?_of_mem h1
        have := (List.getElem?_eq_some_iff.1 hj).1
        exact absurd h2 (NO.out j f (by omega) hj)
end
end Go.Proofs.YtdmgobffhpgjlaaGreat.Pk
