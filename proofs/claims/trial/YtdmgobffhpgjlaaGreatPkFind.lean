/-
  Contracts of find, reach, Arm, Ops, Down, Size, Safe.
-/
import Derived.Test.YtdmgobffhpgjlaaGreatPkHead
namespace Go.Proofs.YtdmgobffhpgjlaaGreat.Pk
open Go.RowKit Go.PlainAid Go.Maps
set_option linter.unusedVariables false
set_option maxRecDepth 20000
set_option linter.unusedSimpArgs false

def fp (G : Gs) (o : Option Fi) : Value := .pointer (o.map fun f => ⟨(G f.nm).1, 0, none⟩)
theorem zfile : ∀ w, (zeroValue 86).run Tryz.prog w = .ok (.pointer none) w := fun w => by kernel_rfl
section
variable {w : World} {p m : Nat} {G : Gs} {D : Dk}
theorem DiskAt.alloc (h : DiskAt w p m G D) (o : Obj) : DiskAt (w.alloc o) p m G D := h.kept fun b hb => Below.heap_alloc _ _ _ (h.lt hb)
theorem Goes.alloc (w : World) (o : Obj) (Z : Nat → Prop) : Goes w (w.alloc o) Z Z := ⟨rfl, rfl, rfl, by simp, fun b hb _ => Below.heap_alloc _ _ _ hb, fun _ h => .inl h⟩
theorem DiskAt.look (h : DiskAt w p m G D) {s : ByteArray} (hs : s.size ≤ 9223372036854775807) : (Instr.lookup 70 (.map (some m)) (.string s) false).run Tryz.prog w = .ok (fp G (getF (kl s) D.L)) w := by
  obtain ⟨v, ps, hr, hv⟩ := h.map.lookup kname Tryz.underlying70 (zfile w) (show RF (.pointer none) = some (.nil, []) from rfl) (keyN hs)
  rw [hr]
  rw [datum_at] at hv
  cases hg : getF (kl s) D.L with
  | none =>
    rw [hg] at hv
    rw [RF_nil hv]
    rfl
  | some f =>
    rw [hg] at hv
    rw [RF_inv hv]
    rfl
theorem DiskAt.hand (h : DiskAt w p m G D) : w.cell? ⟨p, 1, none⟩ = some (.map (some m)) := by
  have := h.cell 1
  simpa [headV] using this
set_option maxRecDepth 100000 in
set_option maxHeartbeats 1000000 in
theorem find_any (h : DiskAt w p m G D) {s : ByteArray} (hs : s.size ≤ 9223372036854775807) :
    Calls Tryz.prog 45 #[.pointer (some ⟨p, 0, none⟩), .string s] w fun e w' => e = .returned (fp G (getF (kl s) D.L)) ∧ w = w' := by
  have L := h.look hs
  have c1 := h.hand
  clear h
  generalize fp G (getF (kl s) D.L) = v at *
  go_enter Tryz.func45, Tryz.ntmps45
  go_wp2
  go_ret
  exact ⟨rfl, rfl⟩
set_option maxRecDepth 100000 in
set_option maxHeartbeats 1000000 in
theorem reach_no (h : DiskAt w p m G D) (ho : D.ops ≤ 1099511627776) {s : ByteArray} (hs : s.size ≤ 9223372036854775807) (good : Bool) (hr : (D.beg good).1 ≠ 0) :
    Calls Tryz.prog 47 #[.pointer (some ⟨p, 0, none⟩), .string s, .bool good] w fun e w' => e = .returned (.tuple #[.pointer none, .int .i64 (D.beg good).1]) ∧ DiskAt w' p m G (D.beg good).2 ∧ Goes w w' (zone p m G D.L) (zone p m G D.L) := by
  have B := begin_any h ho good
  clear h
  generalize (D.beg good) = r at *
  obtain ⟨r1, r2⟩ := r
  simp only at hr B ⊢
  go_enter Tryz.func47, Tryz.ntmps47
  go_wp2_with fail
  refine B.mono ?_
  rintro e w' ⟨rfl, h3, g3⟩
  have H3 := Lib.hid h3
  have G3 := Lib.hid g3
  clear h3 g3 B
  go_wp2
  go_ret2
  exact ⟨rfl, H3.out, G3.out⟩
set_option maxRecDepth 100000 in
set_option maxHeartbeats 1000000 in
theorem reach_none (h : DiskAt w p m G D) (ho : D.ops ≤ 1099511627776) {s : ByteArray} (hs : s.size ≤ 9223372036854775807) (good : Bool) (hr : (D.beg good).1 = 0) (hg : getF (kl s) (D.beg good).2.L = none) :
    Calls Tryz.prog 47 #[.pointer (some ⟨p, 0, none⟩), .string s, .bool good] w fun e w' => e = .returned (.tuple #[.pointer none, .int .i64 7]) ∧ DiskAt w' p m G (D.beg good).2 ∧ Goes w w' (zone p m G D.L) (zone p m G D.L) := by
  have B := begin_any h ho good
  clear h
  rw [hr] at B
  generalize (D.beg good).2 = r at *
  have FD := Lib.hid fun w' (h' : DiskAt w' p m G r) => find_any h' hs
  rw [hg] at FD
  go_enter Tryz.func47, Tryz.ntmps47
  go_wp2_with fail
  refine B.mono ?_
  rintro e w' ⟨rfl, h3, g3⟩
  have FF := FD.out w' h3
  unfold fp at FF
  simp only [Option.map_none] at FF
  have H3 := Lib.hid h3
  have G3 := Lib.hid g3
  clear h3 g3 B FD
  go_wp2_with fail
  refine FF.mono ?_
  rintro e w' ⟨rfl, rfl⟩
  clear FF
  go_wp2
  go_ret2
  exact ⟨rfl, H3.out, G3.out⟩
set_option maxRecDepth 100000 in
set_option maxHeartbeats 1000000 in
theorem reach_some (h : DiskAt w p m G D) (ho : D.ops ≤ 1099511627776) {s : ByteArray} (hs : s.size ≤ 9223372036854775807) (good : Bool) (hr : (D.beg good).1 = 0) {f : Fi} (hg : getF (kl s) (D.beg good).2.L = some f) :
    Calls Tryz.prog 47 #[.pointer (some ⟨p, 0, none⟩), .string s, .bool good] w fun e w' => e = .returned (.tuple #[.pointer (some ⟨(G f.nm).1, 0, none⟩), .int .i64 0]) ∧ DiskAt w' p m G (D.beg good).2 ∧ Goes w w' (zone p m G D.L) (zone p m G D.L) := by
  have B := begin_any h ho good
  clear h
  rw [hr] at B
  generalize (D.beg good).2 = r at *
  have FD := Lib.hid fun w' (h' : DiskAt w' p m G r) => find_any h' hs
  rw [hg] at FD
  simp only [fp, Option.map_some] at FD
  generalize (G f.nm).1 = g at *
  go_enter Tryz.func47, Tryz.ntmps47
  go_wp2_with fail
  refine B.mono ?_
  rintro e w' ⟨rfl, h3, g3⟩
  have FF := FD.out w' h3
  have H3 := Lib.hid h3
  have G3 := Lib.hid g3
  clear h3 g3 B FD
  go_wp2_with fail
  refine FF.mono ?_
  rintro e w' ⟨rfl, rfl⟩
  clear FF
  go_wp2
  go_ret2
  exact ⟨rfl, H3.out, G3.out⟩
set_option maxRecDepth 100000 in
theorem ops_any (h : DiskAt w p m G D) : Calls Tryz.prog 32 #[.pointer (some ⟨p, 0, none⟩)] w fun e w' => e = .returned (.int .i64 D.ops) ∧ w = w' := by
  have c := h.cell 2
  simp [headV] at c
  clear h
  go_enter Tryz.func32, Tryz.ntmps32
  go_wp2
  go_ret
  exact ⟨rfl, rfl⟩
end
end Go.Proofs.YtdmgobffhpgjlaaGreat.Pk
