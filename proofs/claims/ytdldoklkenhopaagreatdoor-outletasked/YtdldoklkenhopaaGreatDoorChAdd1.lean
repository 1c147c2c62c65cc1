/-
  Steps of Add of package chunk: lines.
-/
import Derived.Test.YtdldoklkenhopaaGreatDoorChAdd0
namespace Go.Proofs.YtdldoklkenhopaaGreatDoor.Ch
open Go.RowKit Go.PlainAid
open Hx Fi
set_option linter.unusedVariables false
set_option maxRecDepth 20000
set_option linter.unusedSimpArgs false

section
variable {w wr : World} {p : Nat} {Z : Nat → Prop} {most : Nat} {s0 : CS} {l0 : List UInt8} {r : ByteArray} {s : CS} {c : C} {Z' : Nat → Prop} {x y z : Value} {acc : List UInt8}
theorem step_wait (H : ChAt wr p x y z Z' c) (G : Goes w wr Z Z') (st : St most s c) (hmd : s.md = .line acc ∨ ∃ k, s.md = .trail acc k) (he : run most s (ls r) = run most s0 l0)
    (h0 : 0 < r.size) (hz : r.size ≤ 549755813888) (h10 : (10 : UInt8) ∉ ls r) (hl : acc.length + r.size < 256) :
    Calls Tryz.prog 63 #[.pointer (some ⟨p, 0, none⟩), .string r] wr fun e w' => e = .returned (.tuple #[.string ⟨#[]⟩, .string ⟨#[]⟩, .int .i64 17]) ∧ Fin w w' p Z most (run most s0 l0) := by
  have hll : (ls r).length = r.size := ls_len r
  obtain ⟨md, n, u⟩ := s
  obtain ⟨nx, ms, cn, due, part, data, fs, rest, wv⟩ := c
  obtain ⟨e1, e2, e3, a⟩ := st
  simp only at hmd
  rcases hmd with rfl | ⟨k, rfl⟩
  · simp only [MdAt] at e1 e2 e3 a
    obtain ⟨rfl, rfl, ha, rfl, rfl, rfl⟩ := a
    subst e1 e2 e3
    refine (gather_wait H r hz h0 hl h10).mono fun e w' ⟨h1, Z2, H2, G2⟩ => ⟨h1, ?_⟩
    rw [run_line n data (ls r) part h10 (by omega)] at he
    rw [← he]
    exact ⟨_, Z2, H2, G.trans G2, rfl, rfl, rfl, rfl, rfl, by rw [List.length_append]; omega, rfl, rfl, rfl⟩
  · simp only [MdAt] at e1 e2 e3 a
    obtain ⟨rfl, rfl, ha, rfl, hk, rfl, rfl⟩ := a
    subst e1 e2 e3
    refine (gather_wait H r hz h0 hl h10).mono fun e w' ⟨h1, Z2, H2, G2⟩ => ⟨h1, ?_⟩
    rw [run_trail n data k (ls r) part h10 (by omega)] at he
    rw [← he]
    exact ⟨_, Z2, H2, G.trans G2, rfl, rfl, rfl, rfl, rfl, by rw [List.length_append]; omega, rfl, hk, rfl, rfl⟩
theorem endL_bad {n : Nat} {a : List UInt8} (h : a.getLast? ≠ some 13) : endL most n a = .err 3 := by unfold endL; rw [if_neg h]
theorem endT_bad {k : Nat} {a : List UInt8} (h : a.getLast? ≠ some 13) : endT k a = .err 3 := by unfold endT; rw [if_neg h]
theorem step_fail (H : ChAt wr p x y z Z' c) (G : Goes w wr Z Z') (st : St most s c) (ok : s.Ok most) (hmd : s.md = .line acc ∨ ∃ k, s.md = .trail acc k) (he : run most s (ls r) = run most s0 l0)
    (h0 : 0 < r.size) (hz : r.size ≤ 549755813888) (hu : s.u.length + r.size ≤ s0.u.length + l0.length)
    (hf : ((10 : UInt8) ∉ (ls r).take (256 - acc.length) ∧ 256 ≤ acc.length + r.size) ∨ ∃ q t, ls r = q ++ 10 :: t ∧ (10 : UInt8) ∉ q ∧ acc.length + q.length ≤ 255 ∧ (acc ++ q).getLast? ≠ some 13) :
    Calls Tryz.prog 63 #[.pointer (some ⟨p, 0, none⟩), .string r] wr fun e w' => e = .returned (.tuple #[.string ⟨#[]⟩, .string ⟨#[]⟩, .int .i64 3]) ∧ InvE w w' p Z most s0 l0 ⟨#[]⟩ 3 := by
  have hll : (ls r).length = r.size := ls_len r
  have ok2 := ok.run (l := ls r)
  have fin : ∀ {c1 : C} {Z2 : Nat → Prop} {w' : World} {n : Nat} {u : List UInt8}, run most s (ls r) = ⟨.err 3, n, u⟩ → s.u = u → Has w' p Z2 c1 → Goes wr w' Z' Z2 → c1.n = n → c1.most = most → c1.data = u → c1.rest = [] → (c1.nx = 0 ∨ c1.nx = 2 ∨ c1.nx = 3) → InvE w w' p Z most s0 l0 ⟨#[]⟩ 3 := by
    intro c1 Z2 w' n u hr hu2 H2 G2 a1 a2 a3 a4 a5
    rw [hr] at he ok2
    refine ⟨⟨.err 3, n, u⟩, c1, Z2, H2, G.trans G2, ⟨a1, a2, a3, a5, a4, rfl, .inl rfl⟩, ok2, by rw [ls_nil, run_nil]; exact he, ?_, ?_⟩
    · show u.length + 0 ≤ _
      rw [← hu2]; omega
    · show 0 + 0 ≤ _
      omega
  obtain ⟨md, n, u⟩ := s
  obtain ⟨nx, ms, cn, due, part, data, fs, rest, wv⟩ := c
  obtain ⟨e1, e2, e3, a⟩ := st
  simp only at hmd
  rcases hmd with rfl | ⟨k, rfl⟩
  · simp only [MdAt] at e1 e2 e3 a
    obtain ⟨rfl, rfl, ha, rfl, rfl, rfl⟩ := a
    subst e1 e2 e3
    rcases hf with ⟨h10, hl⟩ | ⟨q, t, hq, h10, hl, h13⟩
    · exact (gather_long H r hz h0 hl h10 ha).mono fun e w' ⟨h1, Z2, H2, G2⟩ => ⟨h1, fin (run_line_long n data (ls r) part h10 ha (by omega)) rfl H2 G2 rfl rfl rfl rfl (.inl rfl)⟩
    · refine (gather_bad H r hz h0 hq h10 hl h13).mono fun e w' ⟨h1, Z2, H2, G2⟩ => ⟨h1, fin ?_ rfl H2 G2 rfl rfl rfl rfl (.inl rfl)⟩
      rw [hq, run_line_end n data q t part h10 hl, endL_bad h13, run_err]
  · simp only [MdAt] at e1 e2 e3 a
    obtain ⟨rfl, rfl, ha, rfl, hk, rfl, rfl⟩ := a
    subst e1 e2 e3
    rcases hf with ⟨h10, hl⟩ | ⟨q, t, hq, h10, hl, h13⟩
    · exact (gather_long H r hz h0 hl h10 ha).mono fun e w' ⟨h1, Z2, H2, G2⟩ => ⟨h1, fin (run_trail_long n data k (ls r) part h10 ha (by omega)) rfl H2 G2 rfl rfl rfl rfl (.inr (.inr rfl))⟩
    · refine (gather_bad H r hz h0 hq h10 hl h13).mono fun e w' ⟨h1, Z2, H2, G2⟩ => ⟨h1, fin ?_ rfl H2 G2 rfl rfl rfl rfl (.inr (.inr rfl))⟩
      rw [hq, run_trail_end n data q t k part h10 hl, endT_bad h13, run_err]
theorem md_rest_line {n : Nat} {a : List UInt8} : (endL most n a).rest = [] := by
  unfold endL
  split
  · split <;> rfl
  · rfl
theorem step_line (H : ChAt wr p x y z Z' c) (G : Goes w wr Z Z') (st : St most s c) (ok : s.Ok most) (hmd : s.md = .line acc) (he : run most s (ls r) = run most s0 l0) (hm : (most : Int) ≤ 9223372036854775807)
    (h0 : 0 < r.size) (hz : r.size ≤ 549755813888) (hu : s.u.length + r.size ≤ s0.u.length + l0.length) (hr : s.md.rest.length + r.size ≤ s0.md.rest.length + l0.length) {q t : List UInt8} (hq : ls r = q ++ 10 :: t) (h10 : (10 : UInt8) ∉ q) (hl : acc.length + q.length ≤ 255) {ln : List UInt8} (h13 : acc ++ q = ln ++ [13]) :
    Calls Tryz.prog 63 #[.pointer (some ⟨p, 0, none⟩), .string r] wr fun e w1 => e = .returned (.tuple #[.string (tx ln), .string (tx t), .int .i64 0]) ∧ w1.cell? ⟨p, 0, none⟩ = some (.int .i64 0) ∧ (Calls Tryz.prog 64 #[.pointer (some ⟨p, 0, none⟩), .string (tx ln)] w1 fun e w2 => ∃ e1, e = .returned (.int .i64 e1) ∧ InvE w w2 p Z most s0 l0 (tx t) e1) := by
  have hll : (ls r).length = r.size := ls_len r
  have htz : t.length + q.length + 1 = r.size := by rw [← hll, hq]; simp; omega
  have hlz : ln.length ≤ 255 := by have := congrArg List.length h13; simp at this; omega
  obtain ⟨md, n, u⟩ := s
  obtain ⟨nx, ms, cn, due, part, data, fs, rest, wv⟩ := c
  obtain ⟨e1, e2, e3, a⟩ := st
  simp only at hmd
  subst hmd
  simp only [MdAt] at e1 e2 e3 a
  obtain ⟨rfl, rfl, ha, rfl, rfl, rfl⟩ := a
  subst e1 e2 e3
  have okn : n + 0 ≤ most := ok.n
  refine (gather_good H r hz h0 hq h10 hl h13).mono fun e w1 ⟨h1, Z2, ⟨x2, y2, z2, H2⟩, G2⟩ => ⟨h1, H2.c0, ?_⟩
  refine (readSize_st H2 hm (n := n) (by omega) rfl rfl rfl rfl rfl rfl rfl ln hlz).mono fun e w2 ⟨e1, c1, h2, ⟨Z3, H3, G3⟩, st3⟩ => ⟨e1, h2, ?_⟩
  have hrun := run_line_end (most := most) n data q t part h10 hl
  rw [hq, hrun, h13] at he
  have ok2 : CS.Ok most ⟨endL most n (ln ++ [13]), n, data⟩ := by
    have h := CS.Ok.run (most := most) (l := q ++ [10]) ok
    have h2 := run_line_end (most := most) n data q [] part h10 hl
    rw [run_nil, h13] at h2
    rwa [h2] at h
  exact ⟨⟨endL most n (ln ++ [13]), n, data⟩, c1, Z3, H3, G.trans (G2.trans G3), st3, ok2, by rw [ls_tx]; exact he, by show data.length + (tx t).size ≤ _; rw [tx_size]; have : data.length + r.size ≤ _ := hu; omega, by rw [md_rest_line, tx_size]; have : 0 + r.size ≤ _ := hr; show 0 + t.length ≤ _; omega⟩
theorem md_rest_trail {k : Nat} {a : List UInt8} : (endT k a).rest = [] := by
  unfold endT
  split
  · split
    · rfl
    · split
      · split <;> rfl
      · rfl
  · rfl
theorem step_trail {k : Nat} (H : ChAt wr p x y z Z' c) (G : Goes w wr Z Z') (st : St most s c) (ok : s.Ok most) (hmd : s.md = .trail acc k) (he : run most s (ls r) = run most s0 l0)
    (h0 : 0 < r.size) (hz : r.size ≤ 549755813888) (hu : s.u.length + r.size ≤ s0.u.length + l0.length) (hr : s.md.rest.length + r.size ≤ s0.md.rest.length + l0.length) {q t : List UInt8} (hq : ls r = q ++ 10 :: t) (h10 : (10 : UInt8) ∉ q) (hl : acc.length + q.length ≤ 255) {ln : List UInt8} (h13 : acc ++ q = ln ++ [13]) :
    Calls Tryz.prog 63 #[.pointer (some ⟨p, 0, none⟩), .string r] wr fun e w1 => e = .returned (.tuple #[.string (tx ln), .string (tx t), .int .i64 0]) ∧ w1.cell? ⟨p, 0, none⟩ = some (.int .i64 3) ∧ (Calls Tryz.prog 65 #[.pointer (some ⟨p, 0, none⟩), .string (tx ln)] w1 fun e w2 => ∃ e1, e = .returned (.int .i64 e1) ∧ InvE w w2 p Z most s0 l0 (tx t) e1) := by
  have hll : (ls r).length = r.size := ls_len r
  have htz : t.length + q.length + 1 = r.size := by rw [← hll, hq]; simp; omega
  have hlz : ln.length ≤ 255 := by have := congrArg List.length h13; simp at this; omega
  obtain ⟨md, n, u⟩ := s
  obtain ⟨nx, ms, cn, due, part, data, fs, rest, wv⟩ := c
  obtain ⟨e1, e2, e3, a⟩ := st
  simp only at hmd
  subst hmd
  simp only [MdAt] at e1 e2 e3 a
  obtain ⟨rfl, rfl, ha, rfl, hk, rfl, rfl⟩ := a
  subst e1 e2 e3
  refine (gather_good H r hz h0 hq h10 hl h13).mono fun e w1 ⟨h1, Z2, ⟨x2, y2, z2, H2⟩, G2⟩ => ⟨h1, H2.c0, ?_⟩
  refine (readField_st (n := n) H2 hk rfl rfl rfl rfl rfl rfl rfl ln hlz).mono fun e w2 ⟨e1, c1, h2, ⟨Z3, H3, G3⟩, st3⟩ => ⟨e1, h2, ?_⟩
  have hrun := run_trail_end (most := most) n data q t k part h10 hl
  rw [hq, hrun, h13] at he
  have ok2 : CS.Ok most ⟨endT k (ln ++ [13]), n, data⟩ := by
    have h := CS.Ok.run (most := most) (l := q ++ [10]) ok
    have h2 := run_trail_end (most := most) n data q [] k part h10 hl
    rw [run_nil, h13] at h2
    rwa [h2] at h
  exact ⟨⟨endT k (ln ++ [13]), n, data⟩, c1, Z3, H3, G.trans (G2.trans G3), st3, ok2, by rw [ls_tx]; exact he, by show data.length + (tx t).size ≤ _; rw [tx_size]; have : data.length + r.size ≤ _ := hu; omega, by rw [md_rest_trail, tx_size]; have : 0 + r.size ≤ _ := hr; show 0 + t.length ≤ _; omega⟩
end
end Go.Proofs.YtdldoklkenhopaaGreatDoor.Ch
