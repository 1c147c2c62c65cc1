/-
  What a law of this layer holds in memory: digests of its own, each in its block; and an argument that is a digest.
-/
import Derived.Test.YtmnkhcefdpcheaaDoorStAwake
import Derived.Test.YtmnkhcefdpcheaaDoorShTabs
import Derived.Carry
import Derived.WideKeyArr2
import Derived.OpenShut
namespace Go.Proofs.YtmnkhcefdpcheaaDoor.St
open Go.RowKit Go.PlainAid Go.Proofs.YtmnkhcefdpcheaaDoor.Sh
set_option linter.unusedVariables false

structure Has (w x : World) (L : List (Nat × List Nat)) : Prop where
  all : ∀ p ∈ L, Blk x p.1 .u8 23 p.2 ∧ Dig p.2
  bel : Below w.heap.size w x
theorem Has.below {w x y : World} {L : List (Nat × List Nat)} (i : Has w x L) (hb : Below x.heap.size x y) : Has w y L :=
  ⟨fun p hp => ⟨(i.all p hp).1.below hb (i.all p hp).1.lt, (i.all p hp).2⟩, i.bel.trans (hb.mono i.bel.size)⟩
theorem Has.drew {w x : World} {L : List (Nat × List Nat)} (i : Has w x L) : Has w x.drew L := i.below ((Below.refl _ _).drew)
theorem Has.loads {w x : World} {L : List (Nat × List Nat)} (i : Has w x L) {B : Nat} {d : List Nat} (h : (B, d) ∈ L) : Loads Tryd.prog x 23 B 0 (vals .u8 d).toArray :=
  Blk.dig_loads (i.all _ h).1 (i.all _ h).2
theorem Has.add {w x y : World} {L : List (Nat × List Nat)} (i : Has w x L) {d : List Nat} (hd : Dig d) (h : Blk y x.heap.size .u8 23 d) (hb : Below x.heap.size x y) : Has w y ((x.heap.size, d) :: L) := by
  have j := i.below hb
  refine ⟨fun p hp => ?_, j.bel⟩
  rcases List.mem_cons.1 hp with rfl | hp
  · exact ⟨h, hd⟩
  · exact j.all p hp
theorem Has.new (w : World) : Has w w [] := ⟨fun p hp => by simp at hp, Below.refl _ _⟩
theorem Has.box {w x : World} {L : List (Nat × List Nat)} (i : Has w x L) {d : List Nat} (hd : Dig d) : Has w (x.alloc (.cells (vals .u8 d).toArray 23)) ((x.heap.size, d) :: L) :=
  i.add hd (Blk.new _ _ _ _) ((Below.refl _ _).alloc (Nat.le_refl _) _)
theorem size_alloc (w : World) (o : Obj) : (w.alloc o).heap.size = w.heap.size + 1 := by simp
theorem has_two (w : World) {a b : List Nat} (ha : Dig a) (hb : Dig b) : Has w ((w.alloc (.cells (vals .u8 a).toArray 23)).alloc (.cells (vals .u8 b).toArray 23)) [(w.heap.size + 1, b), (w.heap.size, a)] := by
  have := ((Has.new w).box ha).box hb
  rw [size_alloc] at this
  exact this
theorem has_three (w : World) {a b c : List Nat} (ha : Dig a) (hb : Dig b) (hc : Dig c) : Has w (((w.alloc (.cells (vals .u8 a).toArray 23)).alloc (.cells (vals .u8 b).toArray 23)).alloc (.cells (vals .u8 c).toArray 23)) [(w.heap.size + 1 + 1, c), (w.heap.size + 1, b), (w.heap.size, a)] := by
  have := (has_two w ha hb).box hc
  rw [size_alloc, size_alloc] at this
  exact this
section
variable {P : Program} {ops : Array Oper} {rest : List Oper} {o : Oper} {a : Act} {w w' : World} {Q : Exit → Act → World → Prop} {ty : TypeId} {x y : Operand} {B off : Nat} {cs : Array Value}
theorem wpl_load_in (hl : Loads P w ty B off cs) (hw : Region.wanted o (yielded ops a.tmps) = true) (hop : o.op = .load ty x) (hx : a.eval x = .pointer (some ⟨B, off, none⟩)) (h : wpList P ops Q rest (a.put o.dst (.agg cs)) w) : wpList P ops Q (o :: rest) a w := by
  refine wpList_step fun K hK => ?_
  rw [if_pos hw]
  unfold Oper.wp execOp
  simp only [hop, hx, Instr.loadAt, Instr.sureAddr, Sem.run_bind, Sem.run_pure, Result.andThen_ok, show (loadVar ty ⟨B, off, none⟩).run P w = .ok (.agg cs) w from hl]
  exact hK _ _ h
end

/-! ### an argument that is a digest -/
theorem mapM_all {α β : Type} {f : α → Option β} : ∀ (L : List α) (ys : List β), L.mapM f = some ys → ∀ i ∈ L, ∃ y, f i = some y
  | [], ys, _, i, hi => by simp at hi
  | j :: L, ys, h, i, hi => by
    rw [List.mapM_cons] at h
    simp only [bind, Option.bind_eq_some_iff, pure, Option.some.injEq] at h
    obtain ⟨y, hy, zs, hzs, rfl⟩ := h
    rcases List.mem_cons.1 hi with rfl | hi
    · exact ⟨y, hy⟩
    · exact mapM_all L zs hzs i hi
def numOf : Value → Nat
  | .int _ a => a.toNat
  | _ => 0
open Go.ChangeShapes Go.WideShapes Go.ChangeAt Go.WideMaps in
theorem open_dig {H : Type} {enc : TypeId × Value → H} {W : World} {base : Nat} {v : Value} {dd : DataW H} {ps : List MemPlace} (hval : Value.okWide Tryd.prog W .any base 23 v) (h : DataW.Trod enc Tryd.prog W 0 (fun _ => true) true 23 v dd ps) :
    ∃ d, v = .agg (vals .u8 d).toArray ∧ Dig d := by
  have A : ArrKey Tryd.prog 23 5 32 := ⟨Tryd.underlying23, by kernel_rfl, by kernel_rfl, by kernel_rfl⟩
  obtain ⟨xs, rfl, hn⟩ := okWide_arr A hval
  obtain ⟨fuel, hf⟩ := h
  cases fuel with
  | zero => simp [DataW.trod] at hf
  | succ m =>
    rw [DataW.trod_step] at hf
    unfold DataW.trodStep at hf
    simp only [A.hu, Value.cells] at hf
    rw [if_pos (by rw [A.size]; simpa using hn)] at hf
    simp only [Option.map_eq_some_iff] at hf
    obtain ⟨ys, hy, e1⟩ := hf
    clear e1
    have h1 := mapM_all _ _ hy
    rw [A.one] at h1
    have h2 : ∀ i, i < 32 → ∃ a : Int, xs[i]? = some (.int .u8 a) ∧ 0 ≤ a ∧ a ≤ 255 := by
      intro i hi
      obtain ⟨y, hy⟩ := h1 i (by simpa using hi)
      obtain ⟨a, ea, _, wa⟩ := DataW.trod_int Tryd.underlying5 hy
      refine ⟨a, ?_, ?_⟩
      · have : (xs.toList.drop (i * 1)).take 1 = [.int .u8 a] := ea
        rw [Nat.mul_one] at this
        have h3 := congrArg (fun l => l[0]?) this
        simpa using h3
      · have := bounds_u8 wa
        omega
    refine ⟨xs.toList.map numOf, ?_, ⟨by simpa using hn, ?_⟩⟩
    · congr 1
      apply Array.ext
      · simp [vals]
      · intro i hi1 hi2
        obtain ⟨a, ha, h0, _⟩ := h2 i (by omega)
        have e : xs[i] = .int .u8 a := by
          rw [Array.getElem?_eq_getElem hi1] at ha
          exact Option.some.inj ha
        simp [vals, e, numOf, Int.toNat_of_nonneg h0]
    · intro x hx
      simp only [List.mem_map] at hx
      obtain ⟨v, hv, rfl⟩ := hx
      obtain ⟨i, hi, rfl⟩ := List.getElem_of_mem hv
      obtain ⟨a, ha, h0, h3⟩ := h2 i (by simp at hi; omega)
      have e : xs.toList[i] = .int .u8 a := by
        rw [Array.getElem_toList]
        rw [Array.getElem?_eq_getElem (by simpa using hi)] at ha
        exact Option.some.inj ha
      rw [e]
      simp [numOf]; omega
end Go.Proofs.YtmnkhcefdpcheaaDoor.St
