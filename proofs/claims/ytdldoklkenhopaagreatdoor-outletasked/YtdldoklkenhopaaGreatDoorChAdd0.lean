/-
  Steps of Add of package chunk: the struct goes where the machine goes: data and its end.
-/
import Derived.Test.YtdldoklkenhopaaGreatDoorChSt
import Derived.WalkMore
namespace Go.Proofs.YtdldoklkenhopaaGreatDoor.Ch
open Go.RowKit Go.PlainAid
open Hx Fi
set_option linter.unusedVariables false
set_option maxRecDepth 20000
set_option linter.unusedSimpArgs false

theorem add_nil (s : ByteArray) (w : World) : Calls Tryz.prog 40 #[.pointer none, .string s] w fun e w' => e = .returned (.int .i64 2) ∧ w = w' := by
  go_enter Tryz.func40, Tryz.ntmps40
  go_wp2
  go_step3
  go_wp2
  rw [Exit.noGoto_ret]
  go_ret
  exact ⟨rfl, rfl⟩
/-- where the walk of Add stands: what is left to read is r; what readers answered, e, is not yet laid down -/
structure InvE (w wr : World) (p : Nat) (Z : Nat → Prop) (most : Nat) (s0 : CS) (l0 : List UInt8) (r : ByteArray) (e : Int) : Prop where
  is : ∃ (s : CS) (c : C) (Z' : Nat → Prop), Has wr p Z' c ∧ Goes w wr Z Z' ∧ St most s { c with wr := e } ∧ s.Ok most ∧ run most s (ls r) = run most s0 l0 ∧ s.u.length + r.size ≤ s0.u.length + l0.length ∧ s.md.rest.length + r.size ≤ s0.md.rest.length + l0.length
structure Inv (w wr : World) (p : Nat) (Z : Nat → Prop) (most : Nat) (s0 : CS) (l0 : List UInt8) (r : ByteArray) : Prop where
  is : ∃ (s : CS) (c : C) (Z' : Nat → Prop), Has wr p Z' c ∧ Goes w wr Z Z' ∧ St most s c ∧ s.Ok most ∧ run most s (ls r) = run most s0 l0 ∧ s.u.length + r.size ≤ s0.u.length + l0.length ∧ s.md.rest.length + r.size ≤ s0.md.rest.length + l0.length
section
variable {w wr : World} {p : Nat} {Z : Nat → Prop} {most : Nat} {s0 : CS} {l0 : List UInt8} {r : ByteArray} {e1 : Int}
theorem InvE.cell (h : InvE w wr p Z most s0 l0 r e1) : (∃ v, wr.cell? ⟨p, 8, none⟩ = some (.int .i64 v)) ∧ wr.frozen? ⟨p, 8, none⟩ = false := by
  obtain ⟨s, c, Z', ⟨x, y, z, H⟩, _⟩ := h.is
  exact ⟨⟨_, H.c8⟩, H.fz 8⟩
theorem InvE.store (h : InvE w wr p Z most s0 l0 r e1) : Inv w (wr.setCell ⟨p, 8, none⟩ (.int .i64 e1)) p Z most s0 l0 r := by
  obtain ⟨s, c, Z', ⟨x, y, z, H⟩, G, st, rest⟩ := h.is
  obtain ⟨H2, G2⟩ := H.num 8 (.int .i64 e1) (c' := { c with wr := e1 }) rfl rfl rfl rfl
  exact ⟨s, _, Z', ⟨x, y, z, H2⟩, G.trans G2, st, rest⟩
/-- all is read -/
def Fin (w wr : World) (p : Nat) (Z : Nat → Prop) (most : Nat) (s1 : CS) : Prop := ∃ (c : C) (Z' : Nat → Prop), Has wr p Z' c ∧ Goes w wr Z Z' ∧ St most s1 c
theorem Fin.cell (h : Fin w wr p Z most s0) : wr.cell? ⟨p, 8, none⟩ = some (.int .i64 s0.md.error) := by
  obtain ⟨c, Z', ⟨x, y, z, H⟩, _, st⟩ := h
  rw [H.c8, st.wr]
def AddPost (w : World) (p : Nat) (Z : Nat → Prop) (most : Nat) (s1 : CS) (e : Ending) (w' : World) : Prop := e = .returned (.int .i64 s1.md.error) ∧ Fin w w' p Z most s1
theorem Inv.over (h : Inv w wr p Z most s0 l0 r) (h0 : r.size = 0) : Fin w wr p Z most (run most s0 l0) := by
  obtain ⟨s, c, Z', H, G, st, ok, e, _⟩ := h.is
  rw [ls_empty h0, run_nil] at e
  exact ⟨c, Z', H, G, e ▸ st⟩

/-! ### data -/
theorem tx_le {l : List UInt8} {n : Nat} (h : l.length ≤ n) : (tx l).size ≤ n := by rw [tx_size]; exact h
theorem step_data {s : CS} {c : C} {Z' : Nat → Prop} {x y z : Value} (H : ChAt wr p x y z Z' c) (G : Goes w wr Z Z') (st : St most s c) (ok : s.Ok most) {k : Nat} (hmd : s.md = .data k) (he : run most s (ls r) = run most s0 l0) (hm : (most : Int) ≤ 9223372036854775807)
    (h0 : 0 < r.size) (hu : s.u.length + r.size ≤ s0.u.length + l0.length) (hr : s.md.rest.length + r.size ≤ s0.md.rest.length + l0.length) (hU : s0.u.length + l0.length ≤ 1099511627776) :
    Calls Tryz.prog 61 #[.pointer (some ⟨p, 0, none⟩), .string r] wr fun e w' => ∃ r' : ByteArray, e = .returned (.string r') ∧ r'.size < r.size ∧ Inv w w' p Z most s0 l0 r' := by
  obtain ⟨md, n, u⟩ := s
  simp only at hmd
  subst hmd
  obtain ⟨nx, ms, cn, due, part, data, fs, rest, wv⟩ := c
  obtain ⟨e1, e2, e3, a⟩ := st
  simp only [MdAt] at e1 e2 e3 a
  obtain ⟨rfl, rfl, hk, rfl, rfl, rfl, rfl⟩ := a
  subst e1 e2 e3
  have okn := ok.n
  have oku := ok.u
  simp only [Md.ahead] at okn oku
  simp only at hu oku
  by_cases c : r.size < k
  · refine (readData_few H r c (by omega) (by omega) (by omega) (by omega)).mono fun e w' ⟨h1, Z2, H2, G2⟩ => ⟨tx [], h1, h0, ?_⟩
    have hrun : run most ⟨.data k, n, data⟩ (ls r) = ⟨.data (k - r.size), n + r.size, data ++ ls r⟩ := by
      have := run_data (most := most) n data (ls r) n data k (by rw [ls_len]; exact c)
      rw [ls_len] at this; exact this
    rw [hrun] at he
    exact ⟨⟨.data (k - r.size), n + r.size, data ++ ls r⟩, _, Z2, H2, G.trans G2, ⟨by show (n : Int) + r.size = _; simp, rfl, rfl, rfl, rfl, by omega, rfl, rfl, rfl, rfl⟩, by rw [← hrun]; exact ok.run, by rw [ls_tx, run_nil]; exact he,
      by show (data ++ ls r).length + 0 ≤ _; rw [List.length_append, ls_len]; omega, by show 0 + 0 ≤ _; omega⟩
  · have hk2 : k ≤ r.size := by omega
    refine (readData_all H r hk2 (by omega) (by omega) (by omega) (by omega)).mono fun e w' ⟨h1, Z2, H2, G2⟩ => ⟨tx ((ls r).drop k), h1, by rw [tx_size, List.length_drop, ls_len]; omega, ?_⟩
    have hrun : run most ⟨.data k, n, data⟩ ((ls r).take k) = ⟨.cr, n + k, data ++ (ls r).take k⟩ :=
      run_data_all (most := most) ((ls r).take k) n data k (by rw [List.length_take, ls_len]; omega) hk
    have he2 : run most ⟨.cr, n + k, data ++ (ls r).take k⟩ ((ls r).drop k) = run most s0 l0 := by
      rw [← hrun, ← run_append, List.take_append_drop]; exact he
    refine ⟨⟨.cr, n + k, data ++ (ls r).take k⟩, _, Z2, H2, G.trans G2, ⟨by show (n : Int) + k = _; simp, rfl, rfl, rfl, rfl, rfl, rfl, rfl⟩, by rw [← hrun]; exact ok.run, by rw [ls_tx]; exact he2, ?_, ?_⟩
    · show (data ++ (ls r).take k).length + (tx ((ls r).drop k)).size ≤ _
      rw [List.length_append, tx_size, List.length_take, List.length_drop, ls_len]; omega
    · show 0 + (tx ((ls r).drop k)).size ≤ _
      rw [tx_size, List.length_drop, ls_len]
      have hr2 : 0 + r.size ≤ _ := hr
      omega
/-! ### the end of data -/
theorem ls_cons {r : ByteArray} (h0 : 0 < r.size) : ∃ b q, ls r = b :: q ∧ r.size = q.length + 1 := by
  cases h : ls r with
  | nil => have := ls_len r; rw [h] at this; simp at this; omega
  | cons b q => exact ⟨b, q, rfl, by rw [← ls_len, h]; rfl⟩
theorem step_end {s : CS} {c : C} {Z' : Nat → Prop} {x y z : Value} (H : ChAt wr p x y z Z' c) (G : Goes w wr Z Z') (st : St most s c) (ok : s.Ok most) (hmd : s.md = .cr ∨ s.md = .lf) (he : run most s (ls r) = run most s0 l0) 
    (h0 : 0 < r.size) (hz : r.size ≤ 549755813888) (hu : s.u.length + r.size ≤ s0.u.length + l0.length) (hr : s.md.rest.length + r.size ≤ s0.md.rest.length + l0.length) :
    Calls Tryz.prog 62 #[.pointer (some ⟨p, 0, none⟩), .string r] wr fun e w' => ∃ (r' : ByteArray) (e1 : Int), e = .returned (.tuple #[.string r', .int .i64 e1]) ∧ r'.size < r.size ∧ InvE w w' p Z most s0 l0 r' e1 := by
  obtain ⟨b, q, hq, hqz⟩ := ls_cons h0
  rw [hq, run_cons] at he
  have ok2 := ok.step b
  obtain ⟨md, n, u⟩ := s
  obtain ⟨nx, ms, cn, due, part, data, fs, rest, wv⟩ := c
  obtain ⟨e1, e2, e3, a⟩ := st
  simp only at hmd
  rcases hmd with rfl | rfl
  · simp only [MdAt] at e1 e2 e3 a
    obtain ⟨rfl, rfl, rfl, rfl, rfl⟩ := a
    subst e1 e2 e3
    simp only at hu
    by_cases hb : b = 13
    · subst hb
      refine (readEnd_cr (part := []) H r hz hq).mono fun e w' ⟨h1, Z2, H2, G2⟩ => ⟨tx q, 0, h1, by rw [tx_size]; omega, ?_⟩
      exact ⟨⟨.lf, n, data⟩, _, Z2, H2, G.trans G2, ⟨rfl, rfl, rfl, rfl, rfl, rfl, rfl, rfl⟩, ok2, by rw [ls_tx]; exact he, by show data.length + (tx q).size ≤ _; rw [tx_size]; omega, by show 0 + (tx q).size ≤ _; rw [tx_size]; have hr2 : 0 + r.size ≤ _ := hr; omega⟩
    · refine (readEnd_bad1 (part := []) H r hz hb hq).mono fun e w' ⟨h1, Z2, H2, G2⟩ => ⟨⟨#[]⟩, 3, h1, h0, ?_⟩
      have hst : stepB most ⟨.cr, n, data⟩ b = ⟨.err 3, n, data⟩ := by
        show (⟨if b = 13 then .lf else .err 3, n, data⟩ : CS) = _
        rw [if_neg hb]
      rw [hst] at he ok2
      rw [run_err] at he
      exact ⟨⟨.err 3, n, data⟩, _, Z2, H2, G.trans G2, ⟨rfl, rfl, rfl, .inr (.inl rfl), rfl, rfl, .inl rfl⟩, ok2, by rw [ls_nil, run_nil]; exact he, by show data.length + 0 ≤ _; omega, by show 0 + 0 ≤ _; omega⟩
  · simp only [MdAt] at e1 e2 e3 a
    obtain ⟨rfl, rfl, rfl, rfl, rfl⟩ := a
    subst e1 e2 e3
    simp only at hu
    by_cases hb : b = 10
    · subst hb
      refine (readEnd_lf (part := []) H r hz hq).mono fun e w' ⟨h1, Z2, H2, G2⟩ => ⟨tx q, 0, h1, by rw [tx_size]; omega, ?_⟩
      exact ⟨⟨.line [], n, data⟩, _, Z2, H2, G.trans G2, ⟨rfl, rfl, rfl, rfl, rfl, by decide, rfl, rfl, rfl⟩, ok2, by rw [ls_tx]; exact he, by show data.length + (tx q).size ≤ _; rw [tx_size]; omega, by show 0 + (tx q).size ≤ _; rw [tx_size]; have hr2 : 0 + r.size ≤ _ := hr; omega⟩
    · refine (readEnd_bad2 (part := []) H r hz hb hq).mono fun e w' ⟨h1, Z2, H2, G2⟩ => ⟨⟨#[]⟩, 3, h1, h0, ?_⟩
      have hst : stepB most ⟨.lf, n, data⟩ b = ⟨.err 3, n, data⟩ := by
        show (⟨if b = 10 then .line [] else .err 3, n, data⟩ : CS) = _
        rw [if_neg hb]
      rw [hst] at he ok2
      rw [run_err] at he
      exact ⟨⟨.err 3, n, data⟩, _, Z2, H2, G.trans G2, ⟨rfl, rfl, rfl, .inr (.inl rfl), rfl, rfl, .inl rfl⟩, ok2, by rw [ls_nil, run_nil]; exact he, by show data.length + 0 ≤ _; omega, by show 0 + 0 ≤ _; omega⟩
end
end Go.Proofs.YtdldoklkenhopaaGreatDoor.Ch
