/-
  Rows of requests as things: begun, appended to, held against each other.
-/
import Derived.Test.YtbngfphiachnoaaGreatDoorInApi
import Derived.Test.YtbngfphiachnoaaGreatDoorInSame
import Derived.Maps.AppendAt
import Derived.Laws.OwnMore
namespace Go.Proofs.YtbngfphiachnoaaGreatDoor.In
open Go.RowKit Go.PlainAid
open Hx Fi Ch
set_option linter.unusedVariables false
set_option maxRecDepth 20000
set_option linter.unusedSimpArgs false

abbrev El := Rq × Value
def esL : List El → List Value
  | [] => []
  | e :: l => (rqV e.1 e.2).toList ++ esL l
theorem esL_len : ∀ es : List El, (esL es).length = es.length * 4
  | [] => rfl
  | e :: l => by
    have ih := esL_len l
    have : (rqV e.1 e.2).toList.length = 4 := rfl
    simp only [esL, List.length_append, List.length_cons, ih, this]; omega
theorem esL_append : ∀ a b : List El, esL (a ++ b) = esL a ++ esL b
  | [], b => rfl
  | e :: l, b => by simp [esL, esL_append l b]
def Sl (v : Value) : Prop := ∃ o n k, v = .slice o n k
theorem esL_one {es : List El} (h : ∀ e ∈ es, Sl e.2) : ∀ u ∈ esL es, u.oneCell' = true := by
  induction es with
  | nil => intro u hu; cases hu
  | cons e l ih =>
    intro u hu
    rcases List.mem_append.1 hu with hu | hu
    · exact rq_one (h e (by simp)) u hu
    · exact ih (fun x hx => h x (by simp [hx])) u hu
theorem esL_get : ∀ (es : List El) (k : Nat) (e : El), es[k]? = some e → ∀ i x, (rqV e.1 e.2)[i]? = some x → (esL es)[k * 4 + i]? = some x
  | [], k, e, h => by cases h
  | f :: l, k, e, h => by
    intro i x hx
    have h4 : (rqV f.1 f.2).toList.length = 4 := rfl
    cases k with
    | zero =>
      obtain rfl : f = e := Option.some.inj h
      have hi : i < 4 := (Array.getElem?_eq_some_iff.1 hx).1
      rw [Nat.zero_mul, Nat.zero_add, esL, List.getElem?_append_left (by omega)]
      simpa using hx
    | succ k =>
      rw [esL, List.getElem?_append_right (by omega), h4, show (k + 1) * 4 + i - 4 = k * 4 + i by omega]
      exact esL_get l k e (by simpa using h) i x hx
theorem owns_same {w w' : World} {T n : Nat} {v : Value} {xs : List Value} (h : w.ownsRow 0 T 4 v n xs) (hs : ∀ b, v.ownBlock = some b → w'.heap[b]? = w.heap[b]?) : w'.ownsRow 0 T 4 v n xs := by
  refine ⟨h.1, ?_⟩
  rcases h.2 with hn | ⟨g, cap, cur, rfl, hb, hg, r⟩
  · exact .inl hn
  · exact .inr ⟨g, cap, cur, rfl, hb, by rw [hs g rfl]; exact hg, r⟩
/-- a row of requests -/
def lsT (v : Value) (es : List El) : Thing :=
  ⟨fun w Z => w.ownsRow 0 30 4 v es.length (esL es) ∧ (∀ e ∈ es, FdsAt w e.2 e.1.fs ∧ Sl e.2) ∧ (∀ e ∈ es, ∀ b, FB e.2 e.1.fs b → v.ownBlock ≠ some b) ∧ ∀ b, Z b ↔ (v.ownBlock = some b ∨ ∃ e ∈ es, FB e.2 e.1.fs b),
   fun _ _ _ ⟨a, f, n, z⟩ hs hb => ⟨owns_same a fun b e => hb b ((z b).2 (.inl e)), fun e he => ⟨fds_kept (f e he).1 hs fun b x => hb b ((z b).2 (.inr ⟨e, he, x⟩)), (f e he).2⟩, n, z⟩,
   fun _ _ ⟨a, f, n, z⟩ b hb => by
    rcases (z b).1 hb with x | ⟨e, he, x⟩
    · exact (a.lt b x).2
    · exact fds_lt (f e he).1 x⟩
theorem infoRq : (Tryz.prog.info? 30).map (fun i => (i.zero, i.size, i.bytes)) = some (some (.agg zR), 4, 64) := by kernel_rfl
section
variable {w0 w : World} {Z0 : Nat → Prop} {L : List Thing}
theorem own_lnil (h : Owns w0 Z0 w L) (j : Nat) (hj : L[j]? = some noT) : Owns w0 Z0 (w.alloc (.cells #[] 30)) (L.set j (lsT (.slice (some ⟨w.heap.size, 0, none⟩) 0 0) [])) := by
  obtain ⟨Z, hZ, k⟩ := h.one j hj
  have B : Below w.heap.size w (w.alloc (.cells #[] 30)) := (Below.refl _ _).alloc (Nat.le_refl _) _
  refine k _ (lsT _ []) (fun b => b = w.heap.size) ⟨World.ownsRow_made w #[] 0 (Nat.zero_le _) (Nat.zero_le _) rfl, by simp, by simp, fun b => ?_⟩ ⟨B.os, B.tape, B.output, B.size, fun b x _ => B.block b x, fun b x => .inr (by omega)⟩
  simp [Value.ownBlock]
  exact ⟨fun e => e.symm, fun e => e.symm⟩
/-- what is appended lies at ad -/
theorem push_any (h : Owns w0 Z0 w L) (i j : Nat) (hij : i ≠ j) {v : Value} {es fs : List El} {T : Thing} (hi : L[i]? = some (lsT v es)) (hj : L[j]? = some T) {ad : Addr} {m c : Nat} (hm : fs.length = m)
    (hT : ∀ Y, T.P w Y → (∀ j u, (esL fs)[j]? = some u → w.cell? (ad.add j) = some u) ∧ (∀ e ∈ fs, FdsAt w e.2 e.1.fs ∧ Sl e.2) ∧ ∀ e ∈ fs, ∀ b, FB e.2 e.1.fs b → Y b) (hb : es.length + m ≤ 1000000) (ty : TypeId) :
    ∃ v' w', (Builtin.append_ #[42, 42] ty #[v, .slice (some ad) m c]).run Tryz.prog w = .ok v' w' ∧ Owns w0 Z0 w' ((L.set i (lsT v' (es ++ fs))).set j noT) := by
  obtain ⟨Z, Y, ⟨own, hf, hn, hZ⟩, hY, hd, k⟩ := h.two i j hij hi hj
  obtain ⟨hc, hg, hY2⟩ := hT Y hY
  obtain ⟨i0, hi0, hz0, hz1, hz2⟩ := info_parts infoRq
  obtain ⟨v', w', hr, o2, g2, _, l2⟩ := run_append_own_at (P := Tryz.prog) w 0 42 ty 30 i0 (.agg zR) 4 64 Tryz.underlying42 hi0 hz0 hz1 hz2 rfl (by decide) v es.length (esL es) own ad m c (esL fs) (by rw [esL_len, hm]) hc (esL_one fun e he => (hg e he).2) (by unfold maxLen; omega) (by omega) (Nat.zero_le _)
  have hsz := g2.size
  have vlt : ∀ b, v.ownBlock = some b → b < w.heap.size := fun b e => (own.lt b e).2
  have far : ∀ b, b < w.heap.size → v.ownBlock ≠ some b → w'.heap[b]? = w.heap[b]? := fun b h1 h2 => g2.block b h1 fun e => h2 e.symm
  have v'z : ∀ b, v'.ownBlock = some b → v.ownBlock = some b ∨ w.heap.size ≤ b := fun b e => by
    rcases l2 with x | x
    · exact .inl (by rw [← x]; exact e)
    · rw [x] at e; exact .inr (Nat.le_of_eq (Option.some.inj e))
  have fE : ∀ e ∈ es, ∀ b, FB e.2 e.1.fs b → b < w.heap.size ∧ v.ownBlock ≠ some b := fun e he b hb => ⟨fds_lt (hf e he).1 hb, hn e he b hb⟩
  have fF : ∀ e ∈ fs, ∀ b, FB e.2 e.1.fs b → b < w.heap.size ∧ v.ownBlock ≠ some b := fun e he b hb => ⟨fds_lt (hg e he).1 hb, fun x => hd b ((hZ b).2 (.inl x)) (hY2 e he b hb)⟩
  have fA : ∀ e ∈ es ++ fs, ∀ b, FB e.2 e.1.fs b → b < w.heap.size ∧ v.ownBlock ≠ some b := fun e he => by
    rcases List.mem_append.1 he with x | x
    · exact fE e x
    · exact fF e x
  refine ⟨v', w', hr, k w' (lsT v' (es ++ fs)) noT (fun b => v'.ownBlock = some b ∨ ∃ e ∈ es ++ fs, FB e.2 e.1.fs b) (fun _ => False) ⟨?_, fun e he => ?_, fun e he b hb => ?_, fun b => Iff.rfl⟩ (fun b x => x) (fun b _ x => x) ?_⟩
  · rw [List.length_append, hm, esL_append]; exact o2
  · have base : FdsAt w e.2 e.1.fs ∧ Sl e.2 := by
      rcases List.mem_append.1 he with x | x
      · exact hf e x
      · exact hg e x
    exact ⟨fds_kept base.1 hsz fun b hb => far b (fA e he b hb).1 (fA e he b hb).2, base.2⟩
  · intro e2
    rcases v'z b e2 with x | x
    · exact (fA e he b hb).2 x
    · have := (fA e he b hb).1; omega
  · refine ⟨g2.os, g2.tape, g2.output, hsz, fun b h1 h2 => far b h1 fun x => h2 (.inl ((hZ b).2 (.inl x))), ?_⟩
    rintro b ((x | ⟨e, he, x⟩) | x)
    · rcases v'z b x with y | y
      · exact .inl (.inl ((hZ b).2 (.inl y)))
      · exact .inr y
    · rcases List.mem_append.1 he with y | y
      · exact .inl (.inl ((hZ b).2 (.inr ⟨e, y, x⟩)))
      · exact .inl (.inr (hY2 e y b x))
    · exact x.elim
/-- append(row, x) -/
theorem own_push (h : Owns w0 Z0 w L) (i j : Nat) (hij : i ≠ j) {v : Value} {es : List El} {B : Nat} {q : Rq} {fv : Value} (hi : L[i]? = some (lsT v es)) (hj : L[j]? = some (xT B q fv)) (hf : Sl fv) (hb : es.length + 1 ≤ 1000000) (ty : TypeId) :
    ∃ v' w', (Builtin.append_ #[42, 42] ty #[v, .slice (some ⟨w.heap.size, 0, none⟩) 1 1]).run Tryz.prog (w.alloc (.cells (rqV q fv) 30)) = .ok v' w' ∧ Owns w0 Z0 w' ((L.set i (lsT v' (es ++ [(q, fv)]))).set j noT) := by
  have hB : Below w.heap.size w (w.alloc (.cells (rqV q fv) 30)) := (Below.refl _ _).alloc (Nat.le_refl _) _
  refine push_any (h.below hB) i j hij hi hj (fs := [(q, fv)]) rfl (fun Y hY => ?_) hb ty
  obtain ⟨a, f, nb, z⟩ := hY
  refine ⟨fun k u hk => ?_, fun e he => ?_, fun e he b hb => ?_⟩
  · rw [add_at, Nat.zero_add, (At.new w _ _).cell]
    simpa [esL] using hk
  · rw [List.mem_singleton] at he
    subst he
    exact ⟨f, hf⟩
  · rw [List.mem_singleton] at he
    subst he
    exact (z b).2 (.inr hb)
/-- append(row, row2...) -/
theorem own_join (h : Owns w0 Z0 w L) (i j : Nat) (hij : i ≠ j) {v u : Value} {es fs : List El} (hi : L[i]? = some (lsT v es)) (hj : L[j]? = some (lsT u fs)) (hb : es.length + fs.length ≤ 1000000) (ty : TypeId) :
    ∃ v' w', (Builtin.append_ #[42, 42] ty #[v, u]).run Tryz.prog w = .ok v' w' ∧ Owns w0 Z0 w' ((L.set i (lsT v' (es ++ fs))).set j noT) := by
  obtain ⟨Z, Y, ⟨own, hf, hn, hZ⟩, ⟨own2, hg, hn2, hY⟩, hd, k⟩ := h.two i j hij hi hj
  rcases own2.2 with ⟨rfl, h0⟩ | ⟨g, cap, cur, rfl, hbg, hgg, h1, h2, h3, h4⟩
  · have : fs = [] := List.eq_nil_of_length_eq_zero h0
    subst this
    obtain ⟨i0, hi0, hz0, hz1, hz2⟩ := info_parts infoRq
    refine ⟨v, w, run_append_owned_none (P := Tryz.prog) (w := w) 0 42 ty 30 i0 4 Tryz.underlying42 hi0 v es.length (esL es) own, ?_⟩
    rw [List.append_nil]
    exact k w (lsT v es) noT Z (fun _ => False) ⟨own, hf, hn, hZ⟩ (fun b x => x) (fun b _ x => x) ⟨rfl, rfl, rfl, Nat.le_refl _, fun _ _ _ => rfl, fun b x => by
      rcases x with x | x
      · exact .inl (.inl x)
      · exact x.elim⟩
  · refine push_any h i j hij hi hj (fs := fs) rfl (fun Y' hY' => ?_) hb ty
    obtain ⟨o, f, nb, z⟩ := hY'
    exact ⟨World.ownsRow.cells o rfl, f, fun e he b hb => (z b).2 (.inr ⟨e, he, hb⟩)⟩
/-- an element of a row -/
theorem own_at (h : Owns w0 Z0 w L) (i : Nat) {v : Value} {es : List El} (hi : L[i]? = some (lsT v es)) : ∃ o cap, v = .slice o es.length cap ∧ ∀ k e, es[k]? = some e → ∃ a : Addr, o = some a ∧ Loads Tryz.prog w 30 (a.add (k * 4)) (rqV e.1 e.2) ∧ FdsAt w e.2 e.1.fs ∧ a.block < w.heap.size ∧ w.cell? (a.add (k * 4)) = some (.string (tx e.1.m)) ∧ w.cell? (a.add (k * 4 + 1)) = some (.string (tx e.1.t)) := by
  obtain ⟨Z, ⟨own, hf, hn, hZ⟩, k⟩ := h.one i hi
  rcases own.2 with ⟨rfl, h0⟩ | ⟨g, cap, cur, rfl, hbg, hgg, h1, h2, h3, h4⟩
  · have : es = [] := List.eq_nil_of_length_eq_zero h0
    subst this
    exact ⟨none, 0, rfl, fun k e he => by cases he⟩
  · refine ⟨some ⟨g, 0, none⟩, cap, rfl, fun k e he => ⟨_, rfl, ?_, (hf e (List.mem_of_getElem? he)).1, (Array.getElem?_eq_some_iff.1 hgg).1, ?_, ?_⟩⟩
    · have hlt := (List.getElem?_eq_some_iff.1 he).1
      have hsz : k * 4 + 4 ≤ cur.size := by omega
      have hl := loads_part (P := Tryz.prog) (ty := 30) (off := k * 4) (n := 4) hgg (by kernel_rfl) (by kernel_rfl) hsz
      rw [add_at, Nat.zero_add]
      have e4 : cur.extract (k * 4) (k * 4 + 4) = rqV e.1 e.2 := by
        apply Array.ext
        · simp [rqV_size]; omega
        · intro i h5 h6
          rw [rqV_size] at h6
          have hx := esL_get es k e he i (rqV e.1 e.2)[i] (Array.getElem?_eq_getElem (by rw [rqV_size]; exact h6))
          rw [← h4, List.getElem?_take] at hx
          split at hx
          · rw [Array.getElem?_toList] at hx
            obtain ⟨hlt2, hx⟩ := Array.getElem?_eq_some_iff.1 hx
            rw [Array.getElem_extract]
            exact hx
          · cases hx
      rw [e4] at hl
      exact hl
    · exact World.ownsRow.cells own rfl _ _ (by have := esL_get es k e he 0 (.string (tx e.1.m)) rfl; simpa using this)
    · exact World.ownsRow.cells own rfl _ _ (esL_get es k e he 1 (.string (tx e.1.t)) rfl)
end
end Go.Proofs.YtbngfphiachnoaaGreatDoor.In
