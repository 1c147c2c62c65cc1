/-
  PlankKeeps: texts are appended to a file, and synced now and then; wherever the power goes, whatever of the rest is kept: the file is a beginning of all that was appended, with all that was synced.
-/
import Derived.Test.YtkhlcmponfkccaaPkKeeps
import Derived.OpenShut
import Derived.ProofKit
import Derived.ShutString
import Derived.Deep.Cut
namespace Go.Proofs.Ytkhlcmponfkccaa.PkLawKeeps
open Go.ChangeShapes Go.WideShapes Go.ChangeAt Go.RowKit Go.PlainAid Go.Proofs.Ytkhlcmponfkccaa.Pk
open Go.ChangeMaps (open_string shut_string)
set_option linter.unusedVariables false
set_option linter.unusedSimpArgs false

/-- where the law stands: all that was appended, and how much of it is safe -/
structure At (w0 w : World) (p : Nat) (A : ByteArray) (sf : Nat) (k : Nat) : Prop where
  is : ∃ D, HasD w0 w p D [] ∧ D.L = oneF (kl A) sf ∧ D.room = 16384 ∧ D.ops ≤ 2 * k + 1
  safe : sf ≤ A.size
  size : A.size ≤ 100 * k
theorem at_append {w0 w : World} {p : Nat} {A : ByteArray} {sf k : Nat} (h : At w0 w p A sf k) (hk : k < 60) {t : ByteArray} (ht : t.size ≤ 100) :
    ∃ e : Int, Calls Try.prog 13 #[.pointer (some ⟨p, 0, none⟩), .string ⟨#[102]⟩, .string t] w fun en w' => en = .returned (.int .i64 e) ∧
      (e = 0 ∧ (∃ D, HasD w0 w' p D [] ∧ D.L = oneF (kl (A ++ t)) sf ∧ D.room = 16384 ∧ D.ops ≤ 2 * k + 2) ∨ e ≠ 0 ∧ ∃ D, HasD w0 w' p D [] ∧ D.L = oneF (kl A) sf ∧ D.ops ≤ 2 * k + 2) := by
  obtain ⟨D, hd, hL, hr, ho⟩ := h.is
  have hA := kl_len A
  have hT := kl_len t
  have hs := h.size
  obtain ⟨c, c1, c2⟩ := append_one hL hr (t := kl t) (by omega)
  have hc := has_append hd (by omega) (s := ⟨#[102]⟩) (t := t) (by decide) (by omega)
  rw [show kl ⟨#[102]⟩ = [102] from rfl] at hc
  refine ⟨(D.append [102] (kl t)).1, hc.mono fun en w' ⟨he, hd'⟩ => ⟨he, ?_⟩⟩
  rcases c with ⟨e1, e2⟩ | ⟨e1, e2⟩
  · exact .inl ⟨e1, _, hd', by rw [e2, kl_app], c1, by omega⟩
  · exact .inr ⟨e1, _, hd', e2, by omega⟩
theorem sync_call {w0 w : World} {p : Nat} {A : ByteArray} {sf : Nat} {n : Int} (h : ∃ D, HasD w0 w p D [] ∧ D.L = oneF (kl A) sf ∧ D.room = 16384 ∧ D.ops ≤ n) (hn : n ≤ 1000) :
    ∃ e : Int, Calls Try.prog 17 #[.pointer (some ⟨p, 0, none⟩), .string ⟨#[102]⟩] w fun en w' => en = .returned (.int .i64 e) ∧
      (e = 0 ∧ (∃ D, HasD w0 w' p D [] ∧ D.L = oneF (kl A) A.size ∧ D.room = 16384 ∧ D.ops ≤ n + 1) ∨ e ≠ 0 ∧ ∃ D, HasD w0 w' p D [] ∧ D.L = oneF (kl A) sf ∧ D.ops ≤ n + 1) := by
  obtain ⟨D, hd, hL, hr, ho⟩ := h
  have hA := kl_len A
  obtain ⟨c, c1, c2⟩ := sync_one hL hr
  have hc := has_sync hd (by omega) (s := ⟨#[102]⟩) (by decide)
  rw [show kl ⟨#[102]⟩ = [102] from rfl] at hc
  refine ⟨(D.sync [102]).1, hc.mono fun en w' ⟨he, hd'⟩ => ⟨he, ?_⟩⟩
  rcases c with ⟨e1, e2⟩ | ⟨e1, e2⟩
  · exact .inl ⟨e1, _, hd', by rw [e2, hA], c1, by omega⟩
  · exact .inr ⟨e1, _, hd', e2, by omega⟩
/-- all that the law's end calls, one by one -/
structure End (w0 w : World) (p : Nat) (A : ByteArray) (sf : Nat) : Prop where
  is : ∃ D, HasD w0 w p D [] ∧ D.L = oneF (kl A) sf ∧ D.ops ≤ 1000
  safe : sf ≤ A.size
structure Late (w0 w : World) (p : Nat) (A : ByteArray) (n : Nat) : Prop where
  is : ∃ D, HasD w0 w p D [] ∧ D.L = oneF ((kl A).take n) n ∧ D.off = false ∧ D.kd = 0 ∧ D.ops ≤ 1000
theorem end_off {w0 w : World} {p : Nat} {A : ByteArray} {sf : Nat} (h : End w0 w p A sf) (keep : Int) : ∃ n, sf ≤ n ∧ n ≤ A.size ∧
    Calls Try.prog 25 #[.pointer (some ⟨p, 0, none⟩)] w fun e w' => e = .returned (.tuple #[]) ∧
      Calls Try.prog 27 #[.pointer (some ⟨p, 0, none⟩), .slice (some ⟨w'.heap.size, 0, none⟩) 1 1] (w'.alloc (.cells #[.int .i64 keep] 3)) fun e w2 => e = .returned (.tuple #[]) ∧ Late w0 w2 p A n := by
  obtain ⟨D, hd, hL, ho⟩ := h.is
  have hA := kl_len A
  obtain ⟨n, n1, n2, n3, n4, n5, n6⟩ := back_one hL (by rw [hA]; exact h.safe) keep
  refine ⟨n, n1, by omega, (has_off hd).mono fun e w' ⟨he, h1⟩ => ⟨he, (has_on1 h1 keep).mono fun e w2 ⟨he, h2⟩ => ⟨he, ⟨_, h2, n3, n4, n5, by omega⟩⟩⟩⟩
theorem late_bytes {w0 w : World} {p : Nat} {A : ByteArray} {n : Nat} (h : Late w0 w p A n) : Calls Try.prog 38 #[.pointer (some ⟨p, 0, none⟩), .string ⟨#[102]⟩] w fun e w' => e = .returned (.string (A.extract 0 n)) ∧ w = w' := by
  obtain ⟨D, hd, hL, _⟩ := h.is
  have := has_bytes hd (s := ⟨#[102]⟩) (by decide)
  rw [show kl ⟨#[102]⟩ = [102] from rfl, (bytes_one hL).1, take_text] at this
  exact this
theorem late_safe {w0 w : World} {p : Nat} {A : ByteArray} {n : Nat} (h : Late w0 w p A n) : Calls Try.prog 40 #[.pointer (some ⟨p, 0, none⟩), .string ⟨#[102]⟩] w fun e w' => e = .returned (.int .i64 (n : Int)) ∧ w = w' := by
  obtain ⟨D, hd, hL, _⟩ := h.is
  have := has_safe hd (s := ⟨#[102]⟩) (by decide)
  rw [show kl ⟨#[102]⟩ = [102] from rfl, (bytes_one hL).2] at this
  exact this
theorem late_down {w0 w : World} {p : Nat} {A : ByteArray} {n : Nat} (h : Late w0 w p A n) : Calls Try.prog 36 #[.pointer (some ⟨p, 0, none⟩)] w fun e w' => e = .returned (.bool false) ∧ w = w' := by
  obtain ⟨D, hd, hL, ho, _⟩ := h.is
  have := has_down hd
  rw [ho] at this
  exact this
theorem late_read {w0 w : World} {p : Nat} {A : ByteArray} {n : Nat} (h : Late w0 w p A n) (hn : n ≤ A.size) (hA : A.size ≤ 1000000) : Calls Try.prog 15 #[.pointer (some ⟨p, 0, none⟩), .string ⟨#[102]⟩, .int .i64 0, .int .i64 (A.size : Int)] w fun e w' => e = .returned (.tuple #[.string (A.extract 0 n), .int .i64 0]) ∧ Below w0.heap.size w0 w' := by
  obtain ⟨D, hd, hL, ho, hk, hp⟩ := h.is
  have hl := kl_len A
  have := has_read hd (by omega) (s := ⟨#[102]⟩) (by decide) 0 (A.size : Int) (by decide) (by omega)
  obtain ⟨r1, r2⟩ := read_one hL (by omega) hl.symm ho hk
  rw [show kl ⟨#[102]⟩ = [102] from rfl, r1, r2, take_text] at this
  exact this.mono fun e w' ⟨he, hd'⟩ => ⟨he, hd'.below⟩
theorem start {w0 w : World} (hb : Below w0.heap.size w0 w) : Calls Try.prog 8 #[.int .i64 16384] w fun e w1 => ∃ p, e = .returned (.pointer (some ⟨p, 0, none⟩)) ∧
    Calls Try.prog 11 #[.pointer (some ⟨p, 0, none⟩), .string ⟨#[102]⟩] w1 fun e w2 => e = .returned (.int .i64 0) ∧
      ∀ pos : Int, Calls Try.prog 23 #[.pointer (some ⟨p, 0, none⟩), .int .i64 pos, .int .i64 2, .int .i64 0] w2 fun e w3 => e = .returned (.tuple #[]) ∧ At w0 w3 p ⟨#[]⟩ 0 0 := by
  have s1 : (Dk.new 16384).create [102] = (0, ⟨16384, 1, false, 0, 0, 0, oneF [] 0⟩) := rfl
  refine (has_new w0 hb 16384).mono fun e w1 ⟨p, he, h1⟩ => ⟨p, he, ?_⟩
  have c := has_create h1 (by decide) (s := ⟨#[102]⟩) (by decide)
  rw [show kl ⟨#[102]⟩ = [102] from rfl, s1] at c
  refine c.mono fun e w2 ⟨he, h2⟩ => ⟨he, fun pos => ?_⟩
  have := has_arm h2 (by simp) pos 2 0 (by decide)
  refine this.mono fun e w3 ⟨he, h3⟩ => ⟨he, ⟨⟨_, h3, ?_, ?_, ?_⟩, Nat.zero_le _, by decide⟩⟩
  · rw [arm_L]; rfl
  · unfold Dk.arm; split <;> rfl
  · unfold Dk.arm; split <;> simp
set_option maxRecDepth 100000 in
set_option maxHeartbeats 3000000 in
theorem walk {v0 v1 : Value} (ss : List ByteArray) (bs : List Bool) (pos keep : Int) {W : World} (hv : StrsAt W v0 ss) (hl : ss.length ≤ 9223372036854775807) (hz : ∀ s ∈ ss, s.size ≤ 9223372036854775807) (hb : BoolsAt W v1 bs) (hbl : bs.length ≤ 9223372036854775807) (w2 : (Lit.int .i64 pos).wf = true) (w3 : (Lit.int .i64 keep).wf = true) (W' : World) :
    Calls Try.prog 4 #[v0, v1, .int .i64 pos, .int .i64 keep] W fun e w' => e = .returned (.bool true) ∧ Below W.heap.size W w' := by
  have AW := awake_any W
  have ST := Lib.hid fun w (hb : Below W.heap.size W w) => start hb
  obtain ⟨tb, tc, rfl, hc⟩ := hv.is
  obtain ⟨sb, sc, rfl, hd⟩ := hb.is
  have HC : ∀ k s, ss[k]? = some s → ∃ a : Addr, tb = some a ∧ ∀ w, Below W.heap.size W w → w.cell? (a.add k) = some (.string s) := by
    intro k s hs
    obtain ⟨a, e, ha, hcell⟩ := hc k s hs
    exact ⟨a, e, fun w hb => by rw [hb.cell (by rw [add_block]; exact ha)]; exact hcell⟩
  have HD : ∀ k s, bs[k]? = some s → ∃ a : Addr, sb = some a ∧ ∀ w, Below W.heap.size W w → w.cell? (a.add k) = some (.bool s) := by
    intro k s hs
    obtain ⟨a, e, ha, hcell⟩ := hd k s hs
    exact ⟨a, e, fun w hb => by rw [hb.cell (by rw [add_block]; exact ha)]; exact hcell⟩
  have CH := Lib.hid HC
  have DH := Lib.hid HD
  clear hv hb hc hd HC HD hz w3
  go_enter Try.func4, Try.ntmps4
  go_wp2_with fail
  refine AW.mono ?_
  rintro e w1 ⟨rfl, hb1⟩
  have ST1 := ST.out w1 hb1
  clear AW ST hb1
  go_wp2_with fail
  refine ST1.mono ?_
  rintro e w2' ⟨p, rfl, ST2⟩
  clear ST1
  go_wp2_with fail
  refine ST2.mono ?_
  rintro e w3 ⟨rfl, ST3⟩
  clear ST2
  have ST4 := Lib.hid ST3
  clear ST3
  go_wp2_with fail
  refine (ST4.out _).mono ?_
  rintro e w4 ⟨rfl, A0⟩
  clear ST4
  go_wp2
  go_loopw [10, 11, 12] (fun x y i wr => ∃ (A : ByteArray) (sf k : Nat), k ≤ 60 ∧ x = .string A ∧ y = .int .i64 sf ∧ i = .int .i64 k ∧ At W wr p A sf k) (fun _ _ i _ => 60 - (intOf i).toNat)
  case atStart => exact ⟨⟨#[]⟩, 0, 0, by omega, rfl, rfl, rfl, A0⟩
  case round =>
    obtain ⟨A, sf, k, hk, rfl, rfl, rfl, AT⟩ := hrel
    clear A0
    have sz := AT.size
    have SZ := Lib.hid (show A.size ≤ 1000000 by omega)
    have E0 : End W wr p A sf := by
      obtain ⟨D, d1, d2, d3, d4⟩ := AT.is
      exact ⟨⟨D, d1, d2, by omega⟩, AT.safe⟩
    by_cases hlt : k < ss.length
    · have l1 : (k : Int) < (ss.length : Int) := by omega
      by_cases h60 : k < 60
      · have l2 : (k : Int) < 60 := by omega
        clear E0
        obtain ⟨s, hs⟩ : ∃ s, ss[k]? = some s := ⟨ss[k], List.getElem?_eq_getElem hlt⟩
        obtain ⟨a, rfl, ca⟩ := CH.out k s hs
        have bel : Below W.heap.size W wr := by
          obtain ⟨D, d1, _⟩ := AT.is
          exact d1.below
        have c1 := ca wr bel
        have CA := Lib.hid ca
        clear ca
        by_cases h100 : 100 < s.size
        · have l3 : (100 : Int) < (s.size : Int) := by omega
          clear AT
          go_wp2
          go_ret
          exact ⟨rfl, bel⟩
        · have l3 : ¬ (100 : Int) < (s.size : Int) := by omega
          obtain ⟨e, AC⟩ := at_append AT h60 (t := s) (by omega)
          have sfA := AT.safe
          clear AT bel
          go_wp2_with fail
          refine AC.mono ?_
          rintro en wa ⟨rfl, res⟩
          clear AC
          rcases res with ⟨rfl, res⟩ | ⟨ne, res⟩
          · have bel2 : Below W.heap.size W wa := by
              obtain ⟨D, d1, _⟩ := res
              exact d1.below
            have c2 := CA.out wa bel2
            have NEXT : ∀ wz sf', (∃ D, HasD W wz p D [] ∧ D.L = oneF (kl (A ++ s)) sf' ∧ D.room = 16384 ∧ D.ops ≤ 2 * (k : Int) + 3) → sf' ≤ A.size + s.size → At W wz p (A ++ s) sf' (k + 1) := by
              rintro wz sf' ⟨D, d1, d2, d3, d4⟩ h
              exact ⟨⟨D, d1, d2, d3, by omega⟩, by simpa using h, by simp; omega⟩
            have NX := Lib.hid NEXT
            have RS := Lib.hid res
            have q9 : IntKind.i64.wrap ((A.size : Int) + (s.size : Int)) = (A.size : Int) + (s.size : Int) := IntWalk.i64_in _ (by omega)
            clear NEXT res
            have AZ := Lib.hid (show (A ++ s).size = A.size + s.size by simp)
            go_upto_region 16 with (fail)
            generalize A ++ s = A2 at *
            by_cases hb1 : k < bs.length
            · have l4 : (k : Int) < (bs.length : Int) := by omega
              obtain ⟨b, hbb⟩ : ∃ b, bs[k]? = some b := ⟨bs[k], List.getElem?_eq_getElem hb1⟩
              obtain ⟨a2, rfl, cb⟩ := DH.out k b hbb
              have c3 := cb wa bel2
              clear cb hbb
              cases b with
              | false =>
                go_wp2
                go_roundw
                case rel => exact ⟨A2, sf, k + 1, by omega, rfl, rfl, by go_num, NX.out _ _ (by obtain ⟨D, d1, d2, d3, d4⟩ := RS.out; exact ⟨D, d1, d2, d3, by omega⟩) (by omega)⟩
                case measure => simp [intOf]; omega
              | true =>
                obtain ⟨e2, SC⟩ := sync_call RS.out (by omega)
                go_wp2_with fail
                refine SC.mono ?_
                rintro en wb ⟨rfl, res⟩
                clear SC
                rcases res with ⟨rfl, res⟩ | ⟨ne, res⟩
                · have RS2 := Lib.hid res
                  clear res
                  go_wp2
                  go_roundw
                  case rel => exact ⟨A2, A2.size, k + 1, by omega, rfl, rfl, by go_num, NX.out _ _ (by obtain ⟨D, d1, d2, d3, d4⟩ := RS2.out; exact ⟨D, d1, d2, d3, by omega⟩) (by rw [AZ.out]; omega)⟩
                  case measure => simp [intOf]; omega
                · have E : End W wb p A2 sf := by
                    obtain ⟨D, d1, d2, d3⟩ := res
                    exact ⟨⟨D, d1, d2, by omega⟩, by rw [AZ.out]; omega⟩
                  have SZ := Lib.hid (show A2.size ≤ 1000000 by rw [AZ.out]; omega)
                  clear res
                  generalize A2 = A at *
                  have ne' : (e2 != 0) = true := by simpa using ne
                  obtain ⟨n, n1, n2, OF⟩ := end_off E keep
                  have AS : A.size ≤ 1000000 := SZ.out
                  have hx : (A.extract 0 n).size = n := by simp; omega
                  have a1 : ¬ (n : Int) < (sf : Int) := by omega
                  have a2 : ¬ (A.size : Int) < (n : Int) := by omega
                  have a3 : (n : Int) ≤ (A.size : Int) := by omega
                  clear E
                  go_wp2_with fail
                  refine OF.mono ?_
                  rintro e wa ⟨rfl, ON⟩
                  clear OF
                  go_wp2_with fail
                  refine ON.mono ?_
                  rintro e wb ⟨rfl, L⟩
                  clear ON
                  have L1 := late_bytes L
                  have L2 := late_safe L
                  have L3 := late_down L
                  have L4 := late_read L n2 AS
                  clear L
                  go_wp2_with fail
                  refine L1.mono ?_
                  rintro e w' ⟨rfl, rfl⟩
                  clear L1
                  go_wp2_with fail
                  refine L2.mono ?_
                  rintro e w' ⟨rfl, rfl⟩
                  clear L2
                  go_wp2_with fail
                  refine L3.mono ?_
                  rintro e w' ⟨rfl, rfl⟩
                  clear L3
                  go_wp2_with fail
                  refine L4.mono ?_
                  rintro e wc ⟨rfl, bl⟩
                  clear L4
                  go_wp2
                  go_ret
                  exact ⟨rfl, bl⟩
            · have l4 : ¬ (k : Int) < (bs.length : Int) := by omega
              go_wp2
              go_roundw
              case rel => exact ⟨A2, sf, k + 1, by omega, rfl, rfl, by go_num, NX.out _ _ (by obtain ⟨D, d1, d2, d3, d4⟩ := RS.out; exact ⟨D, d1, d2, d3, by omega⟩) (by omega)⟩
              case measure => simp [intOf]; omega
          · have E : End W wa p A sf := by
              obtain ⟨D, d1, d2, d3⟩ := res
              exact ⟨⟨D, d1, d2, by omega⟩, sfA⟩
            clear res CA
            have ne' : (e != 0) = true := by simpa using ne
            obtain ⟨n, n1, n2, OF⟩ := end_off E keep
            have AS : A.size ≤ 1000000 := SZ.out
            have hx : (A.extract 0 n).size = n := by simp; omega
            have a1 : ¬ (n : Int) < (sf : Int) := by omega
            have a2 : ¬ (A.size : Int) < (n : Int) := by omega
            have a3 : (n : Int) ≤ (A.size : Int) := by omega
            clear E
            go_wp2_with fail
            refine OF.mono ?_
            rintro e wa ⟨rfl, ON⟩
            clear OF
            go_wp2_with fail
            refine ON.mono ?_
            rintro e wb ⟨rfl, L⟩
            clear ON
            have L1 := late_bytes L
            have L2 := late_safe L
            have L3 := late_down L
            have L4 := late_read L n2 AS
            clear L
            go_wp2_with fail
            refine L1.mono ?_
            rintro e w' ⟨rfl, rfl⟩
            clear L1
            go_wp2_with fail
            refine L2.mono ?_
            rintro e w' ⟨rfl, rfl⟩
            clear L2
            go_wp2_with fail
            refine L3.mono ?_
            rintro e w' ⟨rfl, rfl⟩
            clear L3
            go_wp2_with fail
            refine L4.mono ?_
            rintro e wc ⟨rfl, bl⟩
            clear L4
            go_wp2
            go_ret
            exact ⟨rfl, bl⟩
      · have l2 : ¬ (k : Int) < 60 := by omega
        have E := E0
        clear E0 AT
        obtain ⟨n, n1, n2, OF⟩ := end_off E keep
        have AS : A.size ≤ 1000000 := SZ.out
        have hx : (A.extract 0 n).size = n := by simp; omega
        have a1 : ¬ (n : Int) < (sf : Int) := by omega
        have a2 : ¬ (A.size : Int) < (n : Int) := by omega
        have a3 : (n : Int) ≤ (A.size : Int) := by omega
        clear E
        go_wp2_with fail
        refine OF.mono ?_
        rintro e wa ⟨rfl, ON⟩
        clear OF
        go_wp2_with fail
        refine ON.mono ?_
        rintro e wb ⟨rfl, L⟩
        clear ON
        have L1 := late_bytes L
        have L2 := late_safe L
        have L3 := late_down L
        have L4 := late_read L n2 AS
        clear L
        go_wp2_with fail
        refine L1.mono ?_
        rintro e w' ⟨rfl, rfl⟩
        clear L1
        go_wp2_with fail
        refine L2.mono ?_
        rintro e w' ⟨rfl, rfl⟩
        clear L2
        go_wp2_with fail
        refine L3.mono ?_
        rintro e w' ⟨rfl, rfl⟩
        clear L3
        go_wp2_with fail
        refine L4.mono ?_
        rintro e wc ⟨rfl, bl⟩
        clear L4
        go_wp2
        go_ret
        exact ⟨rfl, bl⟩
    · have l1 : ¬ (k : Int) < (ss.length : Int) := by omega
      have E := E0
      clear E0 AT
      obtain ⟨n, n1, n2, OF⟩ := end_off E keep
      have AS : A.size ≤ 1000000 := SZ.out
      have hx : (A.extract 0 n).size = n := by simp; omega
      have a1 : ¬ (n : Int) < (sf : Int) := by omega
      have a2 : ¬ (A.size : Int) < (n : Int) := by omega
      have a3 : (n : Int) ≤ (A.size : Int) := by omega
      clear E
      go_wp2_with fail
      refine OF.mono ?_
      rintro e wa ⟨rfl, ON⟩
      clear OF
      go_wp2_with fail
      refine ON.mono ?_
      rintro e wb ⟨rfl, L⟩
      clear ON
      have L1 := late_bytes L
      have L2 := late_safe L
      have L3 := late_down L
      have L4 := late_read L n2 AS
      clear L
      go_wp2_with fail
      refine L1.mono ?_
      rintro e w' ⟨rfl, rfl⟩
      clear L1
      go_wp2_with fail
      refine L2.mono ?_
      rintro e w' ⟨rfl, rfl⟩
      clear L2
      go_wp2_with fail
      refine L3.mono ?_
      rintro e w' ⟨rfl, rfl⟩
      clear L3
      go_wp2_with fail
      refine L4.mono ?_
      rintro e wc ⟨rfl, bl⟩
      clear L4
      go_wp2
      go_ret
      exact ⟨rfl, bl⟩
theorem own : ownKnob Try.prog.godebug = none := by kernel_rfl

theorem laidOut : laidOutB Try.prog = true := by kernel_rfl
set_option maxRecDepth 100000 in
theorem lifted (os : Os) (started : os.Started) (H : Type) (enc : TypeId × Value → H) :
    ReturnsInHanded {} Try.checked os 4 .any (Rows.plankKeepsSpec.pre6 enc Try.prog Try.f4 Rows.plankKeepsRow.domain false) (Rows.plankKeepsSpec.post enc Try.prog Try.f4 false true false false) := by
  refine returnsInHanded_of_change (C := Try.checked) own started (by kernel_rfl) Try.func4
    (ChangeSpec.witness6 (enc := enc) (C := Try.checked) false ⟨#[], #[.slice none 0 0, .slice none 0 0, .int .i64 0, .int .i64 0], []⟩ 8 (by kernel_rfl) (by kernel_rfl) (by kernel_rfl) (by kernel_rfl)) ?_
  intro W base args ds gs before hval0 hW hcnd _
  have hval : ∀ (j : Nat) t v, Try.f4.params[j]? = some t → args[j]? = some v → Value.okWide Try.prog W .any base t v := hval0
  have hW' := hW
  obtain ⟨p, q, hA0, hV, rfl, hfz, hnd⟩ := hW
  have hA : DataW.TrodAll enc Try.prog W 0 (fun _ => true) true Try.f4.params.toList args.toList ds p := hA0
  rw [Try.params4] at hA hval
  obtain ⟨v0, vs0, d0, ds0, p0, q0, hargs, rfl, rfl, h0, r0⟩ := trodAll_cons hA
  obtain ⟨v1, vs1, d1, ds1, p1, q1, rfl, rfl, rfl, h1, r1⟩ := trodAll_cons r0
  obtain ⟨v2, vs2, d2, ds2, p2, q2, rfl, rfl, rfl, h2, r2⟩ := trodAll_cons r1
  obtain ⟨v3, vs3, d3, ds3, p3, q3, rfl, rfl, rfl, h3, r3⟩ := trodAll_cons r2
  obtain ⟨rfl, rfl, rfl⟩ := trodAll_nil r3
  obtain rfl : args = #[v0, v1, v2, v3] := by cases args; simp_all
  obtain ⟨rfl, rfl⟩ := trodVars_none hV
  obtain ⟨b0, len0, cap0, rfl⟩ := okWide_slice Try.underlying49 (hval 0 49 v0 rfl rfl)
  have hlt0 : ∀ x ∈ p0, x.block < W.heap.size := fun x hx => by simpa using hW'.lt x (by simp [hx])
  have hS0 : ∃ ss : List ByteArray, StrsAt W (.slice b0 len0 cap0) ss ∧ ss.length ≤ 9223372036854775807 ∧ ∀ s ∈ ss, s.size ≤ 9223372036854775807 := by
    obtain ⟨fuel, hf⟩ := h0
    rcases open_strings Try.underlying49 Try.underlying9 (by kernel_rfl) hf with ⟨hcs, hx⟩ | ⟨a, len', cap', ss, hcs, _, hl, hm, hz, hx, hcell, hsz⟩
    · simp [Value.cells] at hcs
      obtain ⟨rfl, rfl, rfl⟩ := hcs
      exact ⟨[], none_strs W, by simp, by simp⟩
    · simp [Value.cells] at hcs
      obtain ⟨rfl, rfl, rfl⟩ := hcs
      simp only [if_true] at hz
      refine ⟨ss.take len0, ⟨some a, cap0, by rw [List.length_take, hz, Nat.min_eq_left hl], ?_⟩, ?_, ?_⟩
      · intro j s hs
        have hj : j < ss.length := by
          have := (List.getElem?_eq_some_iff.1 hs).1
          simp at this; omega
        have hc := hcell j hj
        have e : ss.getD j ByteArray.empty = s := by
          rw [List.getElem?_take] at hs
          split at hs
          · simp [List.getD, hs]
          · cases hs
        rw [e] at hc
        have hb := World.block_lt_of_cell? W _ hc
        rw [show (a.add j).block = a.block by unfold Addr.add; split <;> rfl] at hb
        exact ⟨a, rfl, hb, hc⟩
      · rw [List.length_take]; unfold maxLen at hm; omega
      · intro s hs
        have := hsz s (List.mem_of_mem_take hs)
        unfold maxLen at this; omega
  obtain ⟨a0, w0, y0, z0⟩ := hS0
  obtain ⟨b1, len1, cap1, rfl⟩ := okWide_slice Try.underlying55 (hval 1 55 v1 rfl rfl)
  have hlt1 : ∀ x ∈ p1, x.block < W.heap.size := fun x hx => by simpa using hW'.lt x (by simp [hx])
  have hS1 : ∃ l : List Bool, BoolsAt W (.slice b1 len1 cap1) l ∧ l.length ≤ 9223372036854775807 := by
    obtain ⟨fuel, hf⟩ := h1
    exact open_bools Try.underlying55 Try.underlying4 (by kernel_rfl) hf
  obtain ⟨a1, w1, y1⟩ := hS1
  obtain ⟨a2, rfl, rfl, rfl, w2⟩ := open_int Try.underlying3 (hval 2 3 v2 rfl rfl) h2
  obtain ⟨a3, rfl, rfl, rfl, w3⟩ := open_int Try.underlying3 (hval 3 3 v3 rfl rfl) h3
  clear hA0 hval0
  simp only [List.append_nil] at hW'
  refine (walk a0 a1 a2 a3 w0 y0 z0 w1 y1 w2 w3 W).mono fun e W' ⟨he, bel⟩ => ?_
  subst he
  exact ⟨_, rfl, _, _, _, [], _, [], hW', trodAll_mk1 (shut_bool Try.underlying4 _), (trodAll_cons_mk (Below.trod laidOut (by kernel_rfl) (of_decide_eq_true (by kernel_rfl)) h0 bel hlt0) (trodAll_cons_mk (Below.trod laidOut (by kernel_rfl) (of_decide_eq_true (by kernel_rfl)) h1 bel hlt1) (trodAll_cons_mk (shut_int Try.underlying3 w2) (trodAll_cons_mk (shut_int Try.underlying3 w3) trodAll_mk0)))), rfl, bel.frame _, fun h => by cases h⟩

theorem over : Rows.plankKeepsRow.holds Try.pinned (OpenSpec.ofChange Rows.plankKeepsSpec) :=
  OpenClaim.holds_of_wide 4 Try.f4 rfl rfl rfl rfl rfl rfl rfl ⟨rfl, rfl, rfl, rfl, rfl⟩ rfl rfl rfl rfl rfl (by kernel_rfl) Try.func4 (by kernel_rfl)
    (of_decide_eq_true (by kernel_rfl)) (by unfold Func.isWrapper; first | (rw [if_pos (by decide +kernel)]; kernel_rfl) | (rw [if_neg (by decide +kernel)]; exact ⟨rfl, rfl⟩))
    (fun os started H enc _ => lifted os started H enc)

theorem proved : Rows.PlankKeepsSaid :=
  over
#print axioms proved
end Go.Proofs.Ytkhlcmponfkccaa.PkLawKeeps
