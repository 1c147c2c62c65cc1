/-
  Contracts of digits, Print and File: a digest's text and name; nothing that was there is changed.
-/
import Derived.Test.YtmnkhcefdpcheaaDoorStMath
import Derived.Test.YtmnkhcefdpcheaaDoorHxHex
namespace Go.Proofs.YtmnkhcefdpcheaaDoor.St
open Go.RowKit Go.PlainAid Go.Proofs.YtmnkhcefdpcheaaDoor.Sh
set_option linter.unusedVariables false

theorem u8s_get {d : List Nat} (h : Dig d) (j : Nat) (hj : j < (u8s d).length) : (((u8s d)[j].toNat : Nat) : Int) = ((at0 d j : Nat) : Int) := by
  have hj' : j < d.length := by rw [u8s_len] at hj; exact hj
  have hx := h.lt d[j] (List.getElem_mem hj')
  rw [at0_lt hj']
  simp only [u8s, List.getElem_map, UInt8.toNat_ofNat']
  omega
/-- a digest's bytes as a text -/
theorem conv_dig {w : World} {B : Nat} {d : List Nat} (h : Blk w B .u8 23 d) (hd : Dig d) :
    (convert 44 9 (.slice (some ⟨B, 0, none⟩) 32 32)).run Tryd.prog w = .ok (.string ⟨(u8s d).toArray⟩) w := by
  have := run_convert_bytes_back w 44 9 5 ⟨B, 0, none⟩ 32 (u8s d) Tryd.underlying44 Tryd.underlying5 Tryd.underlying9 (fun j hj => by
    rw [add_addr, Nat.zero_add, h.cell (by rw [u8s_len] at hj; exact hj), u8s_get hd j hj])
  rw [u8s_len, hd.len] at this
  exact this

set_option maxRecDepth 100000 in
theorem digits_any {d : List Nat} (hd : Dig d) (w : World) :
    Calls Tryd.prog 20 #[.agg (vals .u8 d).toArray] w fun e w' => e = .returned (.string (hexD d)) ∧ Below w.heap.size w w' := by
  have HD := Lib.hid hd
  have R := Blk.new w .u8 23 d
  have F : Below w.heap.size w (w.alloc (.cells (vals .u8 d).toArray 23)) := (Below.refl _ _).alloc (Nat.le_refl _) _
  clear hd
  go_enter Tryd.func20, Tryd.ntmps20
  go_upto_region 1 with (fail)
  generalize w.alloc (.cells (vals .u8 d).toArray 23) = X at R F ⊢
  have hcv := conv_dig R HD.out
  go_wp2_with fail
  refine (Hx.hex_any _ _ (by rw [Hx.size_mk, u8s_len, HD.out.len]; decide)).mono ?_
  rintro e w' ⟨rfl, hb⟩
  have F2 := F.trans (hb.mono F.size)
  clear hcv hb R F
  go_wp2
  go_ret
  exact ⟨rfl, F2⟩

set_option maxRecDepth 100000 in
theorem print_any {d : List Nat} (hd : Dig d) (w : World) :
    Calls Tryd.prog 10 #[.agg (vals .u8 d).toArray] w fun e w' => e = .returned (.string (txt ⟨#[115, 104, 97, 50, 53, 54, 58]⟩ d)) ∧ Below w.heap.size w w' := by
  have HD := Lib.hid hd
  have R := Blk.new w .u8 23 d
  have F : Below w.heap.size w (w.alloc (.cells (vals .u8 d).toArray 23)) := (Below.refl _ _).alloc (Nat.le_refl _) _
  have hz := hexD_size hd
  have L1 := R.loads (P := Tryd.prog) (ty := 23) (by kernel_rfl) (by rw [hd.len]; kernel_rfl)
  clear hd
  go_enter Tryd.func10, Tryd.ntmps10
  go_upto_region 1 with (fail)
  generalize w.alloc (.cells (vals .u8 d).toArray 23) = X at R F L1 ⊢
  go_wp2_with (refine wpl_load L1 rfl rfl rfl ?_)
  refine (digits_any HD.out _).mono ?_
  rintro e w' ⟨rfl, hb⟩
  have F2 := F.trans (hb.mono F.size)
  clear L1 hb R F
  go_wp2
  go_ret
  exact ⟨rfl, F2⟩
set_option maxRecDepth 100000 in
theorem file_any {d : List Nat} (hd : Dig d) (w : World) :
    Calls Tryd.prog 12 #[.agg (vals .u8 d).toArray] w fun e w' => e = .returned (.string (txt ⟨#[98, 108, 111, 98, 45]⟩ d)) ∧ Below w.heap.size w w' := by
  have HD := Lib.hid hd
  have R := Blk.new w .u8 23 d
  have F : Below w.heap.size w (w.alloc (.cells (vals .u8 d).toArray 23)) := (Below.refl _ _).alloc (Nat.le_refl _) _
  have hz := hexD_size hd
  have L1 := R.loads (P := Tryd.prog) (ty := 23) (by kernel_rfl) (by rw [hd.len]; kernel_rfl)
  clear hd
  go_enter Tryd.func12, Tryd.ntmps12
  go_upto_region 1 with (fail)
  generalize w.alloc (.cells (vals .u8 d).toArray 23) = X at R F L1 ⊢
  go_wp2_with (refine wpl_load L1 rfl rfl rfl ?_)
  refine (digits_any HD.out _).mono ?_
  rintro e w' ⟨rfl, hb⟩
  have F2 := F.trans (hb.mono F.size)
  clear L1 hb R F
  go_wp2
  go_ret
  exact ⟨rfl, F2⟩
end Go.Proofs.YtmnkhcefdpcheaaDoor.St
