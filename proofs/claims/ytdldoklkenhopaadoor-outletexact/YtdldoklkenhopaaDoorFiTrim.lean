/-
  Contracts of the library's strings.Trim at a blank and a tab, of trim of package field, and of Trim of the document's answers.
-/
import Derived.Test.YtdldoklkenhopaaDoorFiMem
import Derived.Lib.AsciiSet
import Derived.Deep.DeepCutAuto
namespace Go.Proofs.YtdldoklkenhopaaDoor.Fi
open Go.RowKit Go.PlainAid
open Hx
set_option linter.unusedVariables false
set_option maxRecDepth 20000
set_option linter.unusedSimpArgs false

def wsN (c : Int) : Bool := c == 32 || c == 9
theorem ws_is (c : UInt8) : ([32, 9] : List UInt8).contains c = wsN (c.toNat : Int) := by
  have : ∀ m : Fin 256, ([32, 9] : List UInt8).contains (UInt8.ofNat m.val) = wsN (m.val : Int) := by decide +kernel
  have h := this ⟨c.toNat, c.toNat_lt⟩
  simp only at h
  rwa [UInt8.ofNat_toNat] at h
theorem results_cell_tmp {P : Program} {fn : Func} {p q : Tmp} {ty : TypeId} (h : fn.results = #[.cell p ty, .tmp q]) (tmps : Array Value) {w : World} {g : Nat} {cs : Array Value} {v : Value}
    (hp : tmps.getD p undef = .pointer (some ⟨g, 0, none⟩)) (hq : tmps.getD q undef = v) (hl : Loads P w ty ⟨g, 0, none⟩ cs) :
    (results fn tmps).run P w = .ok (.tuple #[.agg cs, v]) w := by
  have hp' : tmps[p]?.getD undef = .pointer (some ⟨g, 0, none⟩) := by simpa using hp
  have hq' : tmps[q]?.getD undef = v := by simpa using hq
  have hl' : (loadVar ty ⟨g, 0, none⟩).run P w = .ok (.agg cs) w := hl
  simp [results, h, hp', hq', asAddr, hl']
def setW : Array Value := Lib.setCells [32, 9]
theorem setW_size : setW.size = 256 := Lib.setCells_size _
theorem setW_one : ∀ v ∈ setW.toList, v.oneCell' = true := by
  have := Lib.setCells_one [32, 9]
  rw [Array.all_eq_true_iff_forall_mem] at this
  intro v hv
  exact this v (Array.mem_toList_iff.1 hv)
theorem set_cell {w : World} {B : Nat} (h : At w B 88 setW) (n : Nat) (hn : n < 256) : w.cell? ⟨B, n, none⟩ = some (.bool (wsN (n : Int))) := by
  rw [h.cell]
  have := Lib.setCells_at [32, 9] (UInt8.ofNat n)
  have e : (UInt8.ofNat n).toNat = n := by rw [UInt8.toNat_ofNat']; omega
  rw [ws_is, e] at this
  exact this
theorem contains_any {w : World} {B : Nat} (h : At w B 88 setW) (c : Int) (h0 : 0 ≤ c) (h1 : c ≤ 255) :
    Calls Tryd.prog 74 #[.pointer (some ⟨B, 0, none⟩), .int .u8 c] w fun e w' => e = .returned (.bool (wsN c)) ∧ w = w' := by
  obtain ⟨n, rfl⟩ := Int.eq_ofNat_of_zero_le h0
  have hc := set_cell h n (by omega)
  have hn : n < 256 := by omega
  have hn2 : (n : Int) < 256 := by omega
  generalize wsN (n : Int) = b at *
  clear h h1 h0
  go_enter Tryd.func74, Tryd.ntmps74
  go_wp2
  go_ret
  exact ⟨rfl, rfl⟩
set_option maxRecDepth 100000 in
theorem zero_set : Tryd.zeroCells88 = Lib.setCells [] := by kernel_rfl
theorem set_loads {w : World} {B : Nat} {l : List UInt8} (h : At w B 88 (Lib.setCells l)) : Loads Tryd.prog w 88 ⟨B, 0, none⟩ (Lib.setCells l) :=
  h.loads (by kernel_rfl) (by rw [Lib.setCells_size]; kernel_rfl)
theorem set_stores {w : World} {B : Nat} {l m : List UInt8} (h : At w B 88 (Lib.setCells m)) : Stores Tryd.prog w 88 B 0 (Lib.setCells l) (w.setRow B (Lib.setCells l)) :=
  h.stores (by rw [Lib.setCells_size]; kernel_rfl) (by rw [Lib.setCells_size, Lib.setCells_size]) (by
    have := Lib.setCells_one l
    rw [Array.all_eq_true_iff_forall_mem] at this
    intro v hv
    exact this v (Array.mem_toList_iff.1 hv))
set_option maxRecDepth 100000 in
set_option maxHeartbeats 2000000 in
theorem makeSet_any (w : World) :
    Calls Tryd.prog 67 #[.string ⟨#[32, 9]⟩] w fun e w' => e = .returned (.tuple #[.agg setW, .bool true]) ∧ Below w.heap.size w w' := by
  have A0 := At.new w 88 Tryd.zeroCells88
  have F0 : Below w.heap.size w (w.alloc (.cells Tryd.zeroCells88 88)) := (Below.refl _ _).alloc (Nat.le_refl _) _
  go_enter Tryd.func67, Tryd.ntmps67
  go_wp2
  generalize w.alloc (.cells Tryd.zeroCells88 88) = w0 at A0 F0 ⊢
  rw [zero_set] at A0
  go_loopw [4] (fun i wr => ∃ k : Nat, k ≤ 2 ∧ i = .int .i64 k ∧ At wr w.heap.size 88 (Lib.setCells ([32, 9].take k)) ∧ Below w.heap.size w wr) (fun i _ => 2 - (intOf i).toNat)
  case atStart => exact ⟨0, Nat.zero_le _, rfl, A0, F0⟩
  case round =>
    clear A0 F0
    obtain ⟨k, hk, rfl, A1, F1⟩ := hrel
    have g0 : ∀ h, ((⟨#[32, 9]⟩ : ByteArray)[0]'h).toNat = 32 := fun _ => rfl
    have g1 : ∀ h, ((⟨#[32, 9]⟩ : ByteArray)[1]'h).toNat = 9 := fun _ => rfl
    have hk3 : k = 0 ∨ k = 1 ∨ k = 2 := by omega
    rcases hk3 with rfl | rfl | rfl
    · have c1 : wr.cell? ⟨w.heap.size, 32, none⟩ = some (.bool false) := by
        rw [A1.cell]; have := Lib.setCells_at [] 32; exact this
      have f1 := A1.frozen 32
      have A2 := A1.set 32 (.bool true)
      rw [show (Lib.setCells ([32, 9].take 0)).setIfInBounds 32 (.bool true) = Lib.setCells ([32, 9].take 1) from (Lib.setCells_snoc [] 32).symm] at A2
      have F2 := below_set F1 32 (.bool true)
      go_wp2
      go_roundw
      case rel => exact ⟨1, by omega, rfl, A2, F2⟩
      case measure => decide
    · have c1 : wr.cell? ⟨w.heap.size, 9, none⟩ = some (.bool false) := by
        rw [A1.cell]; have := Lib.setCells_at [32] 9; exact this
      have f1 := A1.frozen 9
      have A2 := A1.set 9 (.bool true)
      rw [show (Lib.setCells ([32, 9].take 1)).setIfInBounds 9 (.bool true) = Lib.setCells ([32, 9].take 2) from (Lib.setCells_snoc [32] 9).symm] at A2
      have F2 := below_set F1 9 (.bool true)
      go_wp2
      go_roundw
      case rel => exact ⟨2, by omega, rfl, A2, F2⟩
      case measure => decide
    · have L1 := set_loads A1
      have S1 := set_stores (l := [32, 9].take 2) A1
      have A2 := A1.row (Lib.setCells ([32, 9].take 2))
      have F2 : Below w.heap.size w (wr.setRow w.heap.size (Lib.setCells ([32, 9].take 2))) := below_row F1 (Nat.le_refl _)
      generalize wr.setRow w.heap.size (Lib.setCells ([32, 9].take 2)) = w2 at S1 A2 F2
      go_wp2_with (first | refine wpl_load L1 rfl rfl rfl ?_ | refine wpl_store S1 rfl rfl rfl rfl rfl ?_)
      exact bodyPost_ret (results_cell_tmp Tryd.results67 _ rfl rfl (set_loads A2)) rfl ⟨rfl, F2⟩

/-! ### from the left, from the right -/
theorem trimLeft_any {w : World} {B : Nat} (h : At w B 88 setW) (s : ByteArray) (hs : s.size ≤ 4611686018427387904) :
    Calls Tryd.prog 68 #[.string s, .pointer (some ⟨B, 0, none⟩)] w fun e w' => e = .returned (.string (tx (Lib.trimLeftS (ls s) [32, 9]))) ∧ w = w' := by
  have H := Lib.hid h
  clear h
  go_enter Tryd.func68, Tryd.ntmps68
  go_wp2
  go_loop [0] (fun v => ∃ (k : Nat) (t : ByteArray), k ≤ s.size ∧ v = .string t ∧ ls t = (ls s).drop k ∧ ∀ (j : Nat) b, j < k → (ls s)[j]? = some b → ([32, 9] : List UInt8).contains b = true) (fun v => Lib.strSize v)
  case atStart => exact ⟨0, s, Nat.zero_le _, rfl, rfl, fun j b hj => absurd hj (Nat.not_lt_zero _)⟩
  case round =>
    obtain ⟨k, t, hk, rfl, ht, hc⟩ := hrel
    have hz : t.size + k = s.size := by
      have := congrArg List.length ht
      rw [ls_len, List.length_drop, ls_len] at this
      omega
    have HT := Lib.hid ht
    have HC := Lib.hid hc
    clear ht hc
    have HZ := Lib.hid hz
    clear hz
    have hg := get_bt t
    have hts : t.size ≤ 4611686018427387904 := by have := HZ.out; omega
    by_cases h0 : 0 < t.size
    · obtain ⟨c, gc, ec, _, _, dc⟩ := get_ls h0
      have gs : (ls s)[k]? = some c := by
        have := HT.out
        rw [this, List.getElem?_drop] at gc
        simpa using gc
      have b0 := bt_nonneg t 0
      have b1 := bt_le t 0
      cases hw : wsN (bt t 0) with
      | true =>
        have HW := Lib.hid hw
        have e1 : ls (t.extract 1 t.size) = (ls s).drop (k + 1) := by
          rw [ls_extract, HT.out, List.drop_drop, List.take_of_length_le (by rw [List.length_drop, ls_len]; have := HZ.out; omega)]
        have HE := Lib.hid e1
        have GS := Lib.hid gs
        have EC := Lib.hid ec
        clear e1 hw gs ec gc dc
        have l0 : (0 : Int) < (t.size : Int) := by omega
        have l1 : (1 : Int) ≤ (t.size : Int) := by omega
        go_wp2_with fail
        refine (contains_any H.out _ b0 b1).mono ?_
        rintro e w' ⟨rfl, rfl⟩
        rw [HW.out]
        go_wp2
        go_round
        case rel =>
          refine ⟨k + 1, _, by have := HZ.out; omega, rfl, HE.out, fun j b hj hb => ?_⟩
          by_cases e : j = k
          · subst e
            rw [GS.out] at hb
            rw [← Option.some.inj hb, ws_is, ← EC.out]
            exact HW.out
          · exact HC.out j b (by omega) hb
        case measure => simp [Lib.strSize, ByteArray.size_extract]; omega
      | false =>
        have HW := Lib.hid hw
        have GS := Lib.hid gs
        have EC := Lib.hid ec
        clear hw gs ec gc dc
        have l0 : (0 : Int) < (t.size : Int) := by omega
        go_wp2_with fail
        refine (contains_any H.out _ b0 b1).mono ?_
        rintro e w' ⟨rfl, rfl⟩
        rw [HW.out]
        go_wp2
        go_ret
        refine ⟨?_, rfl⟩
        rw [Lib.trimLeftS_drop (ls s) [32, 9] k (by rw [ls_len]; exact hk) HC.out (fun b hb => by
          rw [GS.out] at hb
          rw [← Option.some.inj hb, ws_is, ← EC.out]
          exact HW.out), ← HT.out, tx_ls]
        rfl
    · have l0 : ¬ (0 : Int) < (t.size : Int) := by omega
      go_wp2
      go_ret
      refine ⟨?_, rfl⟩
      have hk2 : s.size ≤ k := by have := HZ.out; omega
      rw [Lib.trimLeftS_drop (ls s) [32, 9] k (by rw [ls_len]; exact hk) HC.out (fun b hb => by
          rw [List.getElem?_eq_none (by rw [ls_len]; exact hk2)] at hb; cases hb), ← HT.out, tx_ls]
      rfl
end Go.Proofs.YtdldoklkenhopaaDoor.Fi
