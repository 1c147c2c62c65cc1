/-
  A digest's state as its bytes come: what block holds which bytes; what a piece more makes of it.
-/
import Derived.Test.YtmnkhcefdpcheaaDoorShWrite
namespace Go.Proofs.YtmnkhcefdpcheaaDoor.Sh
open Go.RowKit Go.PlainAid
set_option linter.unusedVariables false
set_option linter.unusedSimpArgs false

/-- the state behind the first k blocks -/
def hs (l : List Nat) : Nat → List Nat
  | 0 => start
  | k + 1 => mixL (hs l k) ((l.drop (64 * k)).take 64)
theorem hs_zero (l : List Nat) : hs l 0 = start := rfl
theorem hs_succ (l : List Nat) (k : Nat) : hs l (k + 1) = mixL (hs l k) ((l.drop (64 * k)).take 64) := rfl
theorem hs_len (l : List Nat) : ∀ k, (hs l k).length = 8
  | 0 => rfl
  | k + 1 => by rw [hs_succ]; exact mix_len _ _
theorem hs_lt (l : List Nat) : ∀ k, Lt 4294967296 (hs l k)
  | 0 => start_lt
  | k + 1 => by rw [hs_succ]; exact mix_lt _ _
theorem hs_append (l x : List Nat) : ∀ k, 64 * k ≤ l.length → hs (l ++ x) k = hs l k
  | 0, _ => rfl
  | k + 1, h => by
    rw [hs_succ, hs_succ, hs_append l x k (by omega)]
    congr 1
    rw [List.drop_append_of_le_length (by omega), List.take_append_of_le_length (by simp; omega)]
attribute [irreducible] hs

/-- block B of w is a digest of the bytes l -/
structure ShaIs (w : World) (B : Nat) (l blk : List Nat) : Prop where
  at_ : ShaAt w B (hs l (l.length / 64)) blk l.length
  lt : Lt 256 blk
  tail : blk.take (l.length % 64) = l.drop (64 * (l.length / 64))
theorem ShaIs.same {w w' : World} {B : Nat} {l blk : List Nat} (h : ShaIs w B l blk) (e : w'.heap[B]? = w.heap[B]?) : ShaIs w' B l blk := ⟨h.at_.same e, h.lt, h.tail⟩
theorem ShaIs.drew {w : World} {B : Nat} {l blk : List Nat} (h : ShaIs w B l blk) : ShaIs w.drew B l blk := ⟨h.at_.drew, h.lt, h.tail⟩
/-- the block with a piece more -/
def put (blk x : List Nat) (u : Nat) : List Nat := blk.take u ++ x ++ blk.drop (u + x.length)
theorem put_len {blk x : List Nat} {u : Nat} (h : blk.length = 64) (hx : u + x.length ≤ 64) : (put blk x u).length = 64 := by simp [put, h]; omega
theorem lt_drop {m : Nat} {a : List Nat} (ha : Lt m a) (k : Nat) : Lt m (a.drop k) := by
  intro i
  have h1 := ha (k + i)
  unfold at0 at *
  simpa only [List.getD_eq_getElem?_getD, List.getElem?_drop] using h1
theorem put_lt {blk x : List Nat} {u : Nat} (h : Lt 256 blk) (hx : ∀ y ∈ x, y < 256) : Lt 256 (put blk x u) := lt_append (lt_append (lt_take (by decide) h _) (lt_of_all (by decide) hx)) (lt_drop h _)
theorem put_take {blk x : List Nat} {u : Nat} (h : u ≤ blk.length) : (put blk x u).take (u + x.length) = blk.take u ++ x := by
  unfold put
  rw [List.take_append_of_le_length (by simp; omega), List.take_of_length_le (by simp; omega)]
theorem ShaIs.more {w w' : World} {B : Nat} {l blk x : List Nat} (h : ShaIs w B l blk) (hx : ∀ y ∈ x, y < 256) (hf : l.length % 64 + x.length < 64) (ha : ShaAt w' B (hs l (l.length / 64)) (put blk x (l.length % 64)) (l.length + x.length)) : ShaIs w' B (l ++ x) (put blk x (l.length % 64)) := by
  have e1 : (l ++ x).length / 64 = l.length / 64 := by simp; omega
  have e2 : (l ++ x).length % 64 = l.length % 64 + x.length := by simp; omega
  refine ⟨?_, put_lt h.lt hx, ?_⟩
  · rw [e1, hs_append l x _ (by omega), List.length_append]; exact ha
  · rw [e1, e2, put_take (by rw [h.at_.lb]; omega), h.tail, List.drop_append_of_le_length (by omega)]
theorem put_full {blk x : List Nat} {u : Nat} (hb : blk.length = 64) (h : u + x.length = 64) : put blk x u = blk.take u ++ x := by
  unfold put
  rw [List.drop_of_length_le (by omega), List.append_nil]
theorem ShaIs.full {w w' : World} {B : Nat} {l blk x : List Nat} (h : ShaIs w B l blk) (hx : ∀ y ∈ x, y < 256) (hf : l.length % 64 + x.length = 64) (ha : ShaAt w' B (mixL (hs l (l.length / 64)) (put blk x (l.length % 64))) (put blk x (l.length % 64)) (l.length + x.length)) : ShaIs w' B (l ++ x) (put blk x (l.length % 64)) := by
  have e1 : (l ++ x).length / 64 = l.length / 64 + 1 := by simp; omega
  have e2 : (l ++ x).length % 64 = 0 := by simp; omega
  have e3 : ((l ++ x).drop (64 * (l.length / 64))).take 64 = put blk x (l.length % 64) := by
    rw [put_full h.at_.lb hf, h.tail, List.drop_append_of_le_length (by omega), List.take_of_length_le (by simp; omega)]
  refine ⟨?_, put_lt h.lt hx, ?_⟩
  · rw [e1, hs_succ, e3, hs_append l x _ (by omega), List.length_append]; exact ha
  · rw [e1, e2, List.take_zero, List.drop_of_length_le (by simp; omega)]

/-- all that was there but block B is as it was -/
structure But (B : Nat) (w w' : World) : Prop where
  os : w'.os = w.os
  tape : w'.tape = w.tape
  output : w'.output = w.output
  size : w.heap.size ≤ w'.heap.size
  block : ∀ k, k < w.heap.size → k ≠ B → w'.heap[k]? = w.heap[k]?
theorem But.refl (B : Nat) (w : World) : But B w w := ⟨rfl, rfl, rfl, Nat.le_refl _, fun _ _ _ => rfl⟩
theorem But.trans {B : Nat} {a b c : World} (h : But B a b) (k : But B b c) : But B a c :=
  ⟨k.os.trans h.os, k.tape.trans h.tape, k.output.trans h.output, Nat.le_trans h.size k.size, fun i hi hn => (k.block i (Nat.lt_of_lt_of_le hi h.size) hn).trans (h.block i hi hn)⟩
theorem But.of_below {B : Nat} {w w' : World} (h : Below w.heap.size w w') : But B w w' := ⟨h.os, h.tape, h.output, h.size, fun k hk _ => h.block k hk⟩
theorem But.drew {B : Nat} {a w : World} (h : But B a w) : But B a w.drew := ⟨h.os, h.tape, h.output, h.size, h.block⟩
theorem But.row {B : Nat} {a w : World} {cs : Array Value} (h : But B a w) : But B a (w.setRow B cs) := h.trans ⟨rfl, rfl, rfl, by simp, fun k hk hn => heap_setRow_other hn⟩
theorem But.cell {B j : Nat} {a w : World} {v : Value} (h : But B a w) : But B a (w.setCell ⟨B, j, none⟩ v) := h.trans ⟨rfl, rfl, rfl, by simp [World.setCell], fun k hk hn => Below.heap_setCell _ _ _ _ hn⟩
theorem But.below {B N : Nat} {w w' : World} (h : But B w w') (hN : N ≤ B) (hs : N ≤ w.heap.size) : Below N w w' := ⟨h.os, h.tape, h.output, h.size, fun k hk => h.block k (by omega) (by omega)⟩

theorem wpl_copy {P : Program} {ops : Array Oper} {rest : List Oper} {o : Oper} {a : Act} {w w' : World} {Q : Exit → Act → World → Prop} {d x : Operand} {dT sT : TypeId} {v1 v2 v : Value} (hrun : ∀ ty, (Builtin.copy_ #[dT, sT] ty #[v1, v2]).run P w = .ok v w') (hgd : o.guard = none) (hop : o.op = Op.call { callee := Callee.builtin Builtin.copy, args := #[d, x], argTypes := #[dT, sT] })
    (hd : a.eval d = v1) (hx : a.eval x = v2) (h : wpList P ops Q rest (a.put o.dst v) w') : wpList P ops Q (o :: rest) a w :=
  wpList_plain hgd fun _ hK => by
    have hr := hrun o.type
    unfold Oper.wp
    simp [execOp, hop, resolve, invoke, builtin, hd, hx, hr, Result.andThen]
    exact hK _ _ h
/-- bytes of a text, copied into the block -/
theorem ShaAt.copyStr {P : Program} {w : World} {B : Nat} {st blk : List Nat} {n : Nat} (h : ShaAt w B st blk n) {dT sT e ty : TypeId} (hu : P.underlying dT = some (.slice e)) (hz : (P.info? e).map (·.size) = some 1) (u : Nat) (hul : u < 64) (r : ByteArray) :
    (Builtin.copy_ #[dT, sT] ty #[.slice (some ⟨B, 8 + u, none⟩) (64 - u) (64 - u), .string r]).run P w = .ok (goInt (min r.size (64 - u) : Nat)) (w.setRow B (shaV st (put blk ((bl r).take (min r.size (64 - u))) u) n).toArray) := by
  have hl : ((bl r).take (min r.size (64 - u))).length = min r.size (64 - u) := by simp [bl_len]
  have hst : (storeCells ⟨B, 8 + u, none⟩ (vals .u8 ((bl r).take (min r.size (64 - u)))) 0).run P w = .ok () (w.setRow B (shaV st (put blk ((bl r).take (min r.size (64 - u))) u) n).toArray) := h.storePart (P := P) u ((bl r).take (min r.size (64 - u))) (by rw [hl]; omega)
  have hs := size_of hz w
  have hm : Nat.min r.size (64 - u) = min r.size (64 - u) := rfl
  have hc : List.take (min r.size (64 - u)) (List.map (fun b => Value.int .u8 (b.toNat : Int)) r.data.toList) = vals .u8 ((bl r).take (min r.size (64 - u))) := by
    simp [bl, vals]; rfl
  simp [Builtin.copy_, run_underlying hu, Builtin.lenOf, Builtin.firstCells, hs, hm, hc, hst]
end Go.Proofs.YtmnkhcefdpcheaaDoor.Sh
