/-
  Contracts of consists, IsToken and same of package field, and of IsToken, Text and Find of the document's answers.
-/
import Derived.Test.YtdldoklkenhopaaDoorFiLeaf
import Derived.BigQuiet
namespace Go.Proofs.YtdldoklkenhopaaDoor.Fi
open Go.RowKit Go.PlainAid
open Hx
set_option linter.unusedVariables false
set_option maxRecDepth 20000
set_option linter.unusedSimpArgs false

/-! ### all bytes of a text -/
def allN (p : Int → Bool) (l : List UInt8) : Bool := l.all fun c => p (c.toNat : Int)
def AllTo (p : Int → Bool) (s : ByteArray) (k : Nat) : Prop := allN p ((ls s).take k) = true
theorem AllTo.zero (p : Int → Bool) (s : ByteArray) : AllTo p s 0 := by unfold AllTo; simp [allN]
theorem AllTo.succ {p : Int → Bool} {s : ByteArray} {k : Nat} (h : AllTo p s k) (hk : k < s.size) (hp : p (bt s k) = true) : AllTo p s (k + 1) := by
  obtain ⟨c, _, e, _, ht, _⟩ := get_ls hk
  unfold AllTo allN at h ⊢
  rw [ht, List.all_append, h]
  rw [e] at hp
  simp [hp]
theorem AllTo.whole {p : Int → Bool} {s : ByteArray} {k : Nat} (h : AllTo p s k) (hk : s.size ≤ k) : allN p (ls s) = true := by
  unfold AllTo at h
  rwa [List.take_of_length_le (by rw [ls_len]; exact hk)] at h
theorem all_not {p : Int → Bool} {s : ByteArray} {k : Nat} (hk : k < s.size) (hp : p (bt s k) = false) : allN p (ls s) = false := by
  obtain ⟨c, _, e, hl, _, _⟩ := get_ls hk
  rw [e] at hp
  rw [hl, allN, List.all_append, List.all_cons, hp]
  simp
theorem tok_is (l : List UInt8) : allN tokN l = l.all tokB := rfl
theorem txt_is (l : List UInt8) : allN txtN l = isTxt l := rfl
theorem isTok_ne {s : ByteArray} (h : 0 < s.size) : isTok (ls s) = allN tokN (ls s) := by
  unfold isTok
  have : (ls s).isEmpty = false := by
    cases hq : ls s with
    | nil => exact absurd hq (ls_ne h)
    | cons a b => rfl
  rw [this, tok_is]; rfl
theorem isTok_nil {s : ByteArray} (h : s.size = 0) : isTok (ls s) = false := by rw [ls_empty h]; rfl

theorem bel_draws {N : Nat} {w w2 : World} (n : Nat) (h : Below N w w2) : Below N w (w2.drewN n) := h.trans ⟨rfl, rfl, rfl, Nat.le_refl _, fun _ _ => rfl⟩
theorem flipC {f : FuncId} {args : Array Value} {v : Value} {w : World} (h : Calls Tryd.prog f args w fun e w' => e = .returned v ∧ w = w') : Calls Tryd.prog f args w fun e w' => e = .returned v ∧ w' = w :=
  h.mono fun _ _ x => ⟨x.1, x.2.symm⟩
theorem enters_of {f : FuncId} {fn : Func} {c : Code} (hf : Tryd.prog.funcs[f]? = some fn) (hname : (fn.name == "runtime.NumGoroutine") = false) (hb : fn.body = some c) (v : Value) (w : World) : (callFunc f #[v]).run Tryd.prog w = .ok (.enter f #[v]) w := by
  have h1 : fn.name ≠ "runtime.NumGoroutine" := by simpa using hname
  simp [callFunc, hf, h1, hb, mark]
theorem consists_any (s : ByteArray) (f : Nat) (p : Int → Bool) (w : World) (hs : s.size ≤ 4611686018427387904)
    (he : ∀ (v : Value) (w : World), (callFunc f #[v]).run Tryd.prog w = .ok (.enter f #[v]) w)
    (hf : ∀ (c : Int) (w : World), 0 ≤ c → c ≤ 255 → Calls Tryd.prog f #[.int .u8 c] w fun e w' => e = .returned (.bool (p c)) ∧ w = w') :
    Calls Tryd.prog 44 #[.string s, .func (.func f) #[] #[]] w fun e w' => e = .returned (.bool (allN p (ls s))) ∧ w = w' := by
  have hb := get_bt s
  have HF := Lib.hid hf
  clear hf
  go_enter Tryd.func44, Tryd.ntmps44
  go_wp2
  go_loop [8] (fun i => ∃ k : Nat, k ≤ s.size ∧ i = .int .i64 k ∧ AllTo p s k) (fun i => s.size - (intOf i).toNat)
  case atStart => exact ⟨0, Nat.zero_le _, rfl, AllTo.zero p s⟩
  case round =>
    obtain ⟨k, hk, rfl, hd⟩ := hrel
    have b0 := bt_nonneg s k
    have b1 := bt_le s k
    by_cases hlt : k < s.size
    · have l1 : (k : Int) < (s.size : Int) := by omega
      cases hp : p (bt s k) with
      | true =>
        have HP := Lib.hid hp
        go_wp2_with fail
        refine (HF.out _ _ b0 b1).mono ?_
        rintro e w' ⟨rfl, rfl⟩
        rw [HP.out]
        clear hp
        go_wp2
        go_round
        case rel => exact ⟨k + 1, by omega, by go_num, hd.succ hlt HP.out⟩
        case measure => simp [intOf]; omega
      | false =>
        have HP := Lib.hid hp
        have E := Lib.hid (all_not hlt hp)
        clear hp
        go_wp2_with fail
        refine (HF.out _ _ b0 b1).mono ?_
        rintro e w' ⟨rfl, rfl⟩
        rw [HP.out]
        go_wp2
        go_ret
        exact ⟨by rw [E.out]; rfl, rfl⟩
    · have E := Lib.hid (hd.whole (by omega))
      have l1 : ¬ (k : Int) < (s.size : Int) := by omega
      go_wp2
      go_ret
      exact ⟨by rw [E.out]; rfl, rfl⟩
theorem tokens_any (s : ByteArray) (w : World) (hs : s.size ≤ 4611686018427387904) :
    Calls Tryd.prog 44 #[.string s, .func (.func 45) #[] #[]] w fun e w' => e = .returned (.bool (allN tokN (ls s))) ∧ w = w' :=
  consists_any s _ tokN w hs (fun v w => enters_of Tryd.func45 (by kernel_rfl) rfl v w) (fun c w h0 h1 => isTokenByte_any c w h0 h1)
theorem texts_any (s : ByteArray) (w : World) (hs : s.size ≤ 4611686018427387904) :
    Calls Tryd.prog 44 #[.string s, .func (.func 50) #[] #[]] w fun e w' => e = .returned (.bool (isTxt (ls s))) ∧ w = w' :=
  consists_any s _ txtN w hs (fun v w => enters_of Tryd.func50 (by kernel_rfl) rfl v w) (fun c w h0 h1 => isTextByte_any c w h0 h1)
theorem isToken_any (s : ByteArray) (w : World) (hs : s.size ≤ 4611686018427387904) :
    Calls Tryd.prog 26 #[.string s] w fun e w' => e = .returned (.bool (isTok (ls s))) ∧ w = w' := by
  by_cases h : s.size = 0
  · rw [isTok_nil h]
    have h1 := toList_nil s h
    clear h
    go_enter Tryd.func26, Tryd.ntmps26
    go_wp2
    all_goals go_ret
    all_goals exact ⟨rfl, rfl⟩
  · have h1 := toList_ne s (by omega)
    have h2 := toList_ne' s (by omega)
    rw [isTok_ne (by omega)]
    have r := tokens_any s w hs
    generalize allN tokN (ls s) = b at *
    clear h
    go_enter Tryd.func26, Tryd.ntmps26
    go_wp2_with fail
    refine r.mono ?_
    rintro e w' ⟨rfl, rfl⟩
    clear r
    go_wp2
    all_goals go_ret
    all_goals exact ⟨rfl, rfl⟩

/-! ### two names -/
def SameTo (a b : ByteArray) (k : Nat) : Prop := low ((ls a).take k) = low ((ls b).take k)
theorem SameTo.zero (a b : ByteArray) : SameTo a b 0 := by unfold SameTo; simp
theorem lowB_eq (c d : UInt8) : (lowN (c.toNat : Int) = lowN (d.toNat : Int)) ↔ lowB c = lowB d := by
  rw [← lowB_nat, ← lowB_nat, byte_eq]
theorem SameTo.succ {a b : ByteArray} {k : Nat} (h : SameTo a b k) (ha : k < a.size) (hb : k < b.size) (e : lowN (bt a k) = lowN (bt b k)) : SameTo a b (k + 1) := by
  obtain ⟨c, _, ec, _, tc, _⟩ := get_ls ha
  obtain ⟨d, _, ed, _, td, _⟩ := get_ls hb
  unfold SameTo at h ⊢
  rw [ec, ed, lowB_eq] at e
  rw [tc, td, low, List.map_append, ← low, h]
  simp [low, e]
theorem SameTo.whole {a b : ByteArray} {k : Nat} (h : SameTo a b k) (ha : a.size ≤ k) (hb : b.size ≤ k) : sameL (ls a) (ls b) = true := by
  unfold SameTo at h
  rw [List.take_of_length_le (by rw [ls_len]; exact ha), List.take_of_length_le (by rw [ls_len]; exact hb)] at h
  exact (sameL_iff _ _).2 h
theorem same_len {a b : ByteArray} (h : a.size ≠ b.size) : sameL (ls a) (ls b) = false := by
  rw [Bool.eq_false_iff]
  intro e
  have := congrArg List.length ((sameL_iff _ _).1 e)
  simp [low, ls_len] at this
  exact h this
theorem same_not {a b : ByteArray} {k : Nat} (ha : k < a.size) (hb : k < b.size) (e : lowN (bt a k) ≠ lowN (bt b k)) : sameL (ls a) (ls b) = false := by
  rw [Bool.eq_false_iff]
  intro e2
  have e3 := (sameL_iff _ _).1 e2
  obtain ⟨c, gc, ec, _, _, _⟩ := get_ls ha
  obtain ⟨d, gd, ed, _, _, _⟩ := get_ls hb
  have := congrArg (fun l => l[k]?) e3
  simp [low, gc, gd] at this
  rw [ec, ed] at e
  exact e ((lowB_eq c d).2 this)
theorem lowN_bd (c : Int) (h0 : 0 ≤ c) (h1 : c ≤ 255) : 0 ≤ lowN c ∧ lowN c ≤ 255 := by unfold lowN; split <;> omega
end Go.Proofs.YtdldoklkenhopaaDoor.Fi
