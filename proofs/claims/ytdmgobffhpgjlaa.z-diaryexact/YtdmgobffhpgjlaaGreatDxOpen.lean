/-
  The document's Open of a log.
-/
import Derived.Test.YtdmgobffhpgjlaaGreatDxA
import Derived.Deep.QuietTactic
import Derived.BigQuiet

namespace Go.Proofs.YtdmgobffhpgjlaaGreat.Sl.Dg
open Go.RowKit Go.PlainAid Go.Proofs.YtdmgobffhpgjlaaGreat.Cr
open Go.Proofs.YtdmgobffhpgjlaaGreat.Pk (Bs Fi Dk kl usedF delF insF updF getF PlaceIs isName)
set_option linter.unusedVariables false
set_option maxRecDepth 20000
set_option linter.unusedSimpArgs false

section
variable {w0 w w' : World} {u r : Nat} {E : Dk} {X : List (Nat × Obj)}
/-- what the document's Open answers -/
def ROpenRaw (w0 : World) (u : Nat) (E : Dk) (X : List (Nat × Obj)) (e : Ending) (w' : World) : Prop :=
  ((load E).2.1 ≠ 0 ∧ e = .returned (.tuple #[.pointer none, .int .i64 (load E).2.1]) ∧ HasR w0 w' u (load E).2.2 X) ∨
  ((load E).2.1 = 0 ∧ ∃ (r : Nat) (v : Value) (xs : List Sp) (n : Nat), e = .returned (.tuple #[.pointer (some ⟨r, 0, none⟩), .int .i64 0]) ∧ Reads (nb (load E).1) xs n ∧ (∀ x ∈ xs, Okay x) ∧ w'.ownsRow w0.heap.size 39 38 v xs.length (slsL xs) ∧
    HasQ w0 w' u r (load E).2.2 v ⟨(xs.length : Int), (n : Int), (xs.length : Int), decide (n < (load E).1.length)⟩ X)
def ROpenPost (w0 w : World) (u : Nat) (E : Dk) (X : List (Nat × Obj)) (e : Ending) (w' : World) : Prop := ROpenRaw w0 u E X e w' ∧ Kp w w'
set_option maxHeartbeats 4000000 in
theorem ropen_raw (h : HasR w0 w u E X) (pw : E.Pw) (ho : E.ops + 5 ≤ 1099511627776) (hu : usedF E.L ≤ 1000000) :
    Calls Tryz.prog 8 #[.pointer (some ⟨u, 0, none⟩)] w fun e w' => ROpenRaw w0 u E X e w' := by
  cases hD : disc E with
  | mk e1 E1 =>
  cases hM : make E1 with
  | mk e2 E2 =>
  cases hR : E2.read dN 0 (E2.size dN) with
  | mk t r3 =>
  obtain ⟨e3, E3⟩ := r3
  cases hS : E3.sync dN with
  | mk e4 E4 =>
  have LE := Lib.hid (load_eq hD hM hR hS)
  have o1 : E1.ops ≤ E.ops + 1 := by have := disc_ops E; rw [hD] at this; exact this.2
  have o2 : E2.ops ≤ E1.ops + 1 := by have := make_ops E1; rw [hM] at this; exact this.2
  have o3 : E3.ops ≤ E2.ops + 1 := by have := read_ops E2 dN 0 (E2.size dN); rw [hR] at this; exact this.2
  have p1 : E1.Pw := by have := disc_pw pw h.ok; rw [hD] at this; exact this
  cases hg1 : getF nN E.L with
  | none =>
    as_aux_lemma =>
      have hD2 := hD
      rw [disc_none hg1] at hD2
      injection hD2 with hD2 hD3
      subst hD2
      subst hD3
      have P1 := place_no h nS hg1
      clear hg1
      go_enter Tryz.func8, Tryz.ntmps8
      go_wp2_with fail
      refine P1.mono ?_
      rintro e w' ⟨rfl, rfl⟩
      clear P1
      cases hg2 : getF dN E.L with
      | none =>
        have hM2 := hM
        rw [make_none hg2] at hM2
        have P2 := place_no h dS hg2
        have CC := Lib.hid fun z (h : HasR w0 z u E X) => rh_create h p1 (by omega) (s := dS) (by decide)
        rw [kl_dS, hM2] at CC
        have p2x : E2.Pw := by have := make_pw p1 h.ok; rw [hM] at this; exact this
        clear hg2 hM2
        go_wp2_with fail
        refine P2.mono ?_
        rintro e w' ⟨rfl, rfl⟩
        clear P2
        go_wp2_with fail
        refine (CC.out _ h).mono ?_
        rintro e w2 ⟨rfl, h⟩
        clear CC
        by_cases c2 : e2 = 0
        rotate_left
        · have n2 : (e2 != 0) = true := by simpa using c2
          go_wp2
          go_ret2
          have LE := LE.out
          rw [if_neg (by simp), if_pos c2] at LE
          exact .inl ⟨by rw [LE]; exact c2, by rw [LE]; rfl, by rw [LE]; exact h⟩
        subst c2
        have p2 := p2x
        clear p2x
        obtain ⟨f2, hf2⟩ := make_has hM
        obtain ⟨n2, hn2⟩ := place_at hf2
        have hz : E2.size dN = ((⟨f2.bs.toArray⟩ : ByteArray).size : Int) := by rw [size_some hf2, mk_size]
        have hsz : (f2.bs.length : Int) ≤ 9223372036854775807 := by
          have a1 := Pk.mem_used (Pk.get_some hf2).1
          have a2 := h.ok.used
          have a3 := h.ok.room1
          omega
        have hsz2 : ((⟨f2.bs.toArray⟩ : ByteArray).size : Int) ≤ 9223372036854775807 := by rw [mk_size]; exact hsz
        have TW := Lib.hid (fun (c : e3 = 0) => read_whole (D := E2) (t := t) (D1 := E3) (by rw [hR, c]))
        have TL := Lib.hid (load_one_of (e4 := e4) (D4 := E4) hD hM hR hu)
        obtain ⟨g2, cap2, cu, cf⟩ := h.file hn2
        have p3 : E3.Pw := by have := (Pk.steps_read p2 h.ok dN 0 (E2.size dN)).1; rw [hR] at this; exact this
        have C3 := Lib.hid fun z (h : HasR w0 z u E2 X) => rh_read h p2 (by omega) (s := dS) (by decide) 0 ((⟨f2.bs.toArray⟩ : ByteArray).size : Int) (by decide) hsz2
        rw [kl_dS, ← hz, hR] at C3
        have C4 := Lib.hid fun z (h : HasR w0 z u E3 X) => rh_sync h p3 (by omega) (s := dS) (by decide)
        rw [kl_dS, hS] at C4
        have lt2 : (n2 : Int) < (E2.L.length : Int) := by have := (List.getElem?_eq_some_iff.1 hn2).1; omega
        have lt3 : (0 : Int) ≤ (n2 : Int) := by omega
        have PQ := Lib.hid fun z (h : HasR w0 z u E2 X) => place_is h dS hn2 hf2
        have HZ := Lib.hid hz
        rw [hz] at C3 TW
        clear hz hsz hD hM hR hS hf2 hn2 o1 o2 o3
        have hc2 := h.ok.cnt
        generalize E2.L.length = len2 at cu lt2 hc2
        generalize (⟨f2.bs.toArray⟩ : ByteArray) = s2 at C3 TW HZ hsz2 cf
        go_upto_region 9 with (fail)
        go_quiet ((go_at_call 39; exact Calls.quiet_of_same (PQ.out _ (h.drewN _))))
        replace h := h.drewN nq
        clear cu cf PQ
        generalize World.drewN _ nq = wq at h ⊢
        go_wp2_with fail
        refine (C3.out _ h).mono ?_
        rintro e w3 ⟨rfl, h⟩
        clear C3
        by_cases c3 : e3 = 0
        rotate_left
        · have n3 : (e3 != 0) = true := by simpa using c3
          go_wp2
          go_ret2
          have LE := LE.out
          rw [if_neg (by simp), if_neg (by simp), if_pos c3] at LE
          exact .inl ⟨by rw [LE]; exact c3, by rw [LE]; rfl, by rw [LE]; exact h⟩
        subst c3
        replace TW := Lib.hid (TW.out rfl)
        go_wp2_with fail
        refine (C4.out _ h).mono ?_
        rintro e w4 ⟨rfl, h⟩
        clear C4
        by_cases c4 : e4 = 0
        rotate_left
        · have n4 : (e4 != 0) = true := by simpa using c4
          go_wp2
          go_ret2
          have LE := LE.out
          rw [if_neg (by simp), if_neg (by simp), if_neg (by simp), if_pos c4] at LE
          exact .inl ⟨by rw [LE]; exact c4, by rw [LE]; rfl, by rw [LE]; exact h⟩
        subst c4
        have C5 := rall_own ⟨t.toArray⟩ w4 (by rw [mk_size]; exact TL.out)
        rw [bl_mk] at C5
        have hst : (⟨t.toArray⟩ : ByteArray).size = s2.size := by
          have := TW.out
          rw [mk_size]
          omega
        have hs2 : s2.size ≤ 1000000 := by rw [← hst, mk_size]; exact TL.out
        have HD : Hid (t.length = s2.size) := Lib.hid (by rw [← hst, mk_size])
        clear hst
        go_wp2_with fail
        refine C5.mono ?_
        rintro e w5 ⟨xs, n, v, rfl, own, ok, rd, G⟩
        clear C5
        replace own := owns_mono own h.below.size
        replace h := h.kept G
        have OK := Lib.hid ok
        have RD := Lib.hid rd
        obtain ⟨l1, l2⟩ := reads_le rd
        rw [nb_len] at l1
        have l3 : n ≤ 1000000 := by have := TL.out; omega
        clear rd ok G l1
        obtain ⟨g, cap, rfl⟩ : ∃ g cap, v = .slice g xs.length cap := by
          rcases own.2 with ⟨rfl, e⟩ | ⟨g, cap, cur, rfl, _⟩
          · exact ⟨none, 0, by rw [e]⟩
          · exact ⟨_, cap, rfl⟩
        have l4 : xs.length ≤ 1000000 := by omega
        have Z := At.new w5 45 #[.pointer (some ⟨u, 0, none⟩), .slice g xs.length cap, .int .i64 (xs.length : Int), .int .i64 (n : Int), .bool (decide (n < s2.size))]
        have F : Below w5.heap.size w5 (w5.alloc (.cells #[.pointer (some ⟨u, 0, none⟩), .slice g xs.length cap, .int .i64 (xs.length : Int), .int .i64 (n : Int), .bool (decide (n < s2.size))] 45)) := (Below.refl _ _).alloc (Nat.le_refl _) _
        have hl := has_rlog (L := ⟨(xs.length : Int), (n : Int), (xs.length : Int), decide (n < s2.size)⟩) h F (Nat.le_refl _) Z.heap
        replace own := (Kp.of_below F).owns own
        clear Z F h l2
        go_wp2
        go_ret2
        have LE := LE.out
        rw [if_neg (by simp), if_neg (by simp), if_neg (by simp), if_neg (by simp)] at LE
        exact .inr ⟨by rw [LE], _, _, xs, n, rfl, by rw [LE]; exact RD.out, OK.out, own, by rw [LE]; simp only; rw [HD.out]; exact hl⟩
      | some fd =>
        have hM2 := hM
        rw [make_some hg2] at hM2
        injection hM2 with hM2 hM3
        subst hM2
        subst hM3
        obtain ⟨nd, hnd⟩ := place_at hg2
        have P2 := place_is h dS hnd hg2
        have n1 : ¬ (nd : Int) < 0 := by omega
        have p2x := p1
        clear hg2 hnd
        go_wp2_with fail
        refine P2.mono ?_
        rintro e w' ⟨rfl, rfl⟩
        clear P2
        have p2 := p2x
        clear p2x
        obtain ⟨f2, hf2⟩ := make_has hM
        obtain ⟨n2, hn2⟩ := place_at hf2
        have hz : E.size dN = ((⟨f2.bs.toArray⟩ : ByteArray).size : Int) := by rw [size_some hf2, mk_size]
        have hsz : (f2.bs.length : Int) ≤ 9223372036854775807 := by
          have a1 := Pk.mem_used (Pk.get_some hf2).1
          have a2 := h.ok.used
          have a3 := h.ok.room1
          omega
        have hsz2 : ((⟨f2.bs.toArray⟩ : ByteArray).size : Int) ≤ 9223372036854775807 := by rw [mk_size]; exact hsz
        have TW := Lib.hid (fun (c : e3 = 0) => read_whole (D := E) (t := t) (D1 := E3) (by rw [hR, c]))
        have TL := Lib.hid (load_one_of (e4 := e4) (D4 := E4) hD hM hR hu)
        obtain ⟨g2, cap2, cu, cf⟩ := h.file hn2
        have p3 : E3.Pw := by have := (Pk.steps_read p2 h.ok dN 0 (E.size dN)).1; rw [hR] at this; exact this
        have C3 := Lib.hid fun z (h : HasR w0 z u E X) => rh_read h p2 (by omega) (s := dS) (by decide) 0 ((⟨f2.bs.toArray⟩ : ByteArray).size : Int) (by decide) hsz2
        rw [kl_dS, ← hz, hR] at C3
        have C4 := Lib.hid fun z (h : HasR w0 z u E3 X) => rh_sync h p3 (by omega) (s := dS) (by decide)
        rw [kl_dS, hS] at C4
        have lt2 : (n2 : Int) < (E.L.length : Int) := by have := (List.getElem?_eq_some_iff.1 hn2).1; omega
        have lt3 : (0 : Int) ≤ (n2 : Int) := by omega
        have PQ := Lib.hid fun z (h : HasR w0 z u E X) => place_is h dS hn2 hf2
        have HZ := Lib.hid hz
        rw [hz] at C3 TW
        clear hz hsz hD hM hR hS hf2 hn2 o1 o2 o3
        have hc2 := h.ok.cnt
        generalize E.L.length = len2 at cu lt2 hc2
        generalize (⟨f2.bs.toArray⟩ : ByteArray) = s2 at C3 TW HZ hsz2 cf
        go_upto_region 9 with (fail)
        go_quiet ((go_at_call 39; exact Calls.quiet_of_same (PQ.out _ (h.drewN _))))
        replace h := h.drewN nq
        clear cu cf PQ
        generalize World.drewN _ nq = wq at h ⊢
        go_wp2_with fail
        refine (C3.out _ h).mono ?_
        rintro e w3 ⟨rfl, h⟩
        clear C3
        by_cases c3 : e3 = 0
        rotate_left
        · have n3 : (e3 != 0) = true := by simpa using c3
          go_wp2
          go_ret2
          have LE := LE.out
          rw [if_neg (by simp), if_neg (by simp), if_pos c3] at LE
          exact .inl ⟨by rw [LE]; exact c3, by rw [LE]; rfl, by rw [LE]; exact h⟩
        subst c3
        replace TW := Lib.hid (TW.out rfl)
        go_wp2_with fail
        refine (C4.out _ h).mono ?_
        rintro e w4 ⟨rfl, h⟩
        clear C4
        by_cases c4 : e4 = 0
        rotate_left
        · have n4 : (e4 != 0) = true := by simpa using c4
          go_wp2
          go_ret2
          have LE := LE.out
          rw [if_neg (by simp), if_neg (by simp), if_neg (by simp), if_pos c4] at LE
          exact .inl ⟨by rw [LE]; exact c4, by rw [LE]; rfl, by rw [LE]; exact h⟩
        subst c4
        have C5 := rall_own ⟨t.toArray⟩ w4 (by rw [mk_size]; exact TL.out)
        rw [bl_mk] at C5
        have hst : (⟨t.toArray⟩ : ByteArray).size = s2.size := by
          have := TW.out
          rw [mk_size]
          omega
        have hs2 : s2.size ≤ 1000000 := by rw [← hst, mk_size]; exact TL.out
        have HD : Hid (t.length = s2.size) := Lib.hid (by rw [← hst, mk_size])
        clear hst
        go_wp2_with fail
        refine C5.mono ?_
        rintro e w5 ⟨xs, n, v, rfl, own, ok, rd, G⟩
        clear C5
        replace own := owns_mono own h.below.size
        replace h := h.kept G
        have OK := Lib.hid ok
        have RD := Lib.hid rd
        obtain ⟨l1, l2⟩ := reads_le rd
        rw [nb_len] at l1
        have l3 : n ≤ 1000000 := by have := TL.out; omega
        clear rd ok G l1
        obtain ⟨g, cap, rfl⟩ : ∃ g cap, v = .slice g xs.length cap := by
          rcases own.2 with ⟨rfl, e⟩ | ⟨g, cap, cur, rfl, _⟩
          · exact ⟨none, 0, by rw [e]⟩
          · exact ⟨_, cap, rfl⟩
        have l4 : xs.length ≤ 1000000 := by omega
        have Z := At.new w5 45 #[.pointer (some ⟨u, 0, none⟩), .slice g xs.length cap, .int .i64 (xs.length : Int), .int .i64 (n : Int), .bool (decide (n < s2.size))]
        have F : Below w5.heap.size w5 (w5.alloc (.cells #[.pointer (some ⟨u, 0, none⟩), .slice g xs.length cap, .int .i64 (xs.length : Int), .int .i64 (n : Int), .bool (decide (n < s2.size))] 45)) := (Below.refl _ _).alloc (Nat.le_refl _) _
        have hl := has_rlog (L := ⟨(xs.length : Int), (n : Int), (xs.length : Int), decide (n < s2.size)⟩) h F (Nat.le_refl _) Z.heap
        replace own := (Kp.of_below F).owns own
        clear Z F h l2
        go_wp2
        go_ret2
        have LE := LE.out
        rw [if_neg (by simp), if_neg (by simp), if_neg (by simp), if_neg (by simp)] at LE
        exact .inr ⟨by rw [LE], _, _, xs, n, rfl, by rw [LE]; exact RD.out, OK.out, own, by rw [LE]; simp only; rw [HD.out]; exact hl⟩
  | some fn =>
    as_aux_lemma =>
      have hD2 := hD
      rw [disc_some hg1] at hD2
      obtain ⟨nn, hnn⟩ := place_at hg1
      have P1 := place_is h nS hnn hg1
      have CD := Lib.hid fun z (h : HasR w0 z u E X) => rh_delete h pw (by omega) (s := nS) (by decide)
      rw [kl_nS, hD2] at CD
      have n0 : (0 : Int) ≤ (nn : Int) := by omega
      clear hg1 hnn hD2
      go_enter Tryz.func8, Tryz.ntmps8
      go_wp2_with fail
      refine P1.mono ?_
      rintro e w' ⟨rfl, rfl⟩
      clear P1
      go_wp2_with fail
      refine (CD.out _ h).mono ?_
      rintro e w1 ⟨rfl, h⟩
      clear CD
      by_cases c1 : e1 = 0
      rotate_left
      · have n1 : (e1 != 0) = true := by simpa using c1
        go_wp2
        go_ret2
        have LE := LE.out
        rw [if_pos c1] at LE
        exact .inl ⟨by rw [LE]; exact c1, by rw [LE]; rfl, by rw [LE]; exact h⟩
      subst c1
      cases hg2 : getF dN E1.L with
      | none =>
        have hM2 := hM
        rw [make_none hg2] at hM2
        have P2 := place_no h dS hg2
        have CC := Lib.hid fun z (h : HasR w0 z u E1 X) => rh_create h p1 (by omega) (s := dS) (by decide)
        rw [kl_dS, hM2] at CC
        have p2x : E2.Pw := by have := make_pw p1 h.ok; rw [hM] at this; exact this
        clear hg2 hM2
        go_wp2_with fail
        refine P2.mono ?_
        rintro e w' ⟨rfl, rfl⟩
        clear P2
        go_wp2_with fail
        refine (CC.out _ h).mono ?_
        rintro e w2 ⟨rfl, h⟩
        clear CC
        by_cases c2 : e2 = 0
        rotate_left
        · have n2 : (e2 != 0) = true := by simpa using c2
          go_wp2
          go_ret2
          have LE := LE.out
          rw [if_neg (by simp), if_pos c2] at LE
          exact .inl ⟨by rw [LE]; exact c2, by rw [LE]; rfl, by rw [LE]; exact h⟩
        subst c2
        have p2 := p2x
        clear p2x
        obtain ⟨f2, hf2⟩ := make_has hM
        obtain ⟨n2, hn2⟩ := place_at hf2
        have hz : E2.size dN = ((⟨f2.bs.toArray⟩ : ByteArray).size : Int) := by rw [size_some hf2, mk_size]
        have hsz : (f2.bs.length : Int) ≤ 9223372036854775807 := by
          have a1 := Pk.mem_used (Pk.get_some hf2).1
          have a2 := h.ok.used
          have a3 := h.ok.room1
          omega
        have hsz2 : ((⟨f2.bs.toArray⟩ : ByteArray).size : Int) ≤ 9223372036854775807 := by rw [mk_size]; exact hsz
        have TW := Lib.hid (fun (c : e3 = 0) => read_whole (D := E2) (t := t) (D1 := E3) (by rw [hR, c]))
        have TL := Lib.hid (load_one_of (e4 := e4) (D4 := E4) hD hM hR hu)
        obtain ⟨g2, cap2, cu, cf⟩ := h.file hn2
        have p3 : E3.Pw := by have := (Pk.steps_read p2 h.ok dN 0 (E2.size dN)).1; rw [hR] at this; exact this
        have C3 := Lib.hid fun z (h : HasR w0 z u E2 X) => rh_read h p2 (by omega) (s := dS) (by decide) 0 ((⟨f2.bs.toArray⟩ : ByteArray).size : Int) (by decide) hsz2
        rw [kl_dS, ← hz, hR] at C3
        have C4 := Lib.hid fun z (h : HasR w0 z u E3 X) => rh_sync h p3 (by omega) (s := dS) (by decide)
        rw [kl_dS, hS] at C4
        have lt2 : (n2 : Int) < (E2.L.length : Int) := by have := (List.getElem?_eq_some_iff.1 hn2).1; omega
        have lt3 : (0 : Int) ≤ (n2 : Int) := by omega
        have PQ := Lib.hid fun z (h : HasR w0 z u E2 X) => place_is h dS hn2 hf2
        have HZ := Lib.hid hz
        rw [hz] at C3 TW
        clear hz hsz hD hM hR hS hf2 hn2 o1 o2 o3
        have hc2 := h.ok.cnt
        generalize E2.L.length = len2 at cu lt2 hc2
        generalize (⟨f2.bs.toArray⟩ : ByteArray) = s2 at C3 TW HZ hsz2 cf
        go_upto_region 9 with (fail)
        go_quiet ((go_at_call 39; exact Calls.quiet_of_same (PQ.out _ (h.drewN _))))
        replace h := h.drewN nq
        clear cu cf PQ
        generalize World.drewN _ nq = wq at h ⊢
        go_wp2_with fail
        refine (C3.out _ h).mono ?_
        rintro e w3 ⟨rfl, h⟩
        clear C3
        by_cases c3 : e3 = 0
        rotate_left
        · have n3 : (e3 != 0) = true := by simpa using c3
          go_wp2
          go_ret2
          have LE := LE.out
          rw [if_neg (by simp), if_neg (by simp), if_pos c3] at LE
          exact .inl ⟨by rw [LE]; exact c3, by rw [LE]; rfl, by rw [LE]; exact h⟩
        subst c3
        replace TW := Lib.hid (TW.out rfl)
        go_wp2_with fail
        refine (C4.out _ h).mono ?_
        rintro e w4 ⟨rfl, h⟩
        clear C4
        by_cases c4 : e4 = 0
        rotate_left
        · have n4 : (e4 != 0) = true := by simpa using c4
          go_wp2
          go_ret2
          have LE := LE.out
          rw [if_neg (by simp), if_neg (by simp), if_neg (by simp), if_pos c4] at LE
          exact .inl ⟨by rw [LE]; exact c4, by rw [LE]; rfl, by rw [LE]; exact h⟩
        subst c4
        have C5 := rall_own ⟨t.toArray⟩ w4 (by rw [mk_size]; exact TL.out)
        rw [bl_mk] at C5
        have hst : (⟨t.toArray⟩ : ByteArray).size = s2.size := by
          have := TW.out
          rw [mk_size]
          omega
        have hs2 : s2.size ≤ 1000000 := by rw [← hst, mk_size]; exact TL.out
        have HD : Hid (t.length = s2.size) := Lib.hid (by rw [← hst, mk_size])
        clear hst
        go_wp2_with fail
        refine C5.mono ?_
        rintro e w5 ⟨xs, n, v, rfl, own, ok, rd, G⟩
        clear C5
        replace own := owns_mono own h.below.size
        replace h := h.kept G
        have OK := Lib.hid ok
        have RD := Lib.hid rd
        obtain ⟨l1, l2⟩ := reads_le rd
        rw [nb_len] at l1
        have l3 : n ≤ 1000000 := by have := TL.out; omega
        clear rd ok G l1
        obtain ⟨g, cap, rfl⟩ : ∃ g cap, v = .slice g xs.length cap := by
          rcases own.2 with ⟨rfl, e⟩ | ⟨g, cap, cur, rfl, _⟩
          · exact ⟨none, 0, by rw [e]⟩
          · exact ⟨_, cap, rfl⟩
        have l4 : xs.length ≤ 1000000 := by omega
        have Z := At.new w5 45 #[.pointer (some ⟨u, 0, none⟩), .slice g xs.length cap, .int .i64 (xs.length : Int), .int .i64 (n : Int), .bool (decide (n < s2.size))]
        have F : Below w5.heap.size w5 (w5.alloc (.cells #[.pointer (some ⟨u, 0, none⟩), .slice g xs.length cap, .int .i64 (xs.length : Int), .int .i64 (n : Int), .bool (decide (n < s2.size))] 45)) := (Below.refl _ _).alloc (Nat.le_refl _) _
        have hl := has_rlog (L := ⟨(xs.length : Int), (n : Int), (xs.length : Int), decide (n < s2.size)⟩) h F (Nat.le_refl _) Z.heap
        replace own := (Kp.of_below F).owns own
        clear Z F h l2
        go_wp2
        go_ret2
        have LE := LE.out
        rw [if_neg (by simp), if_neg (by simp), if_neg (by simp), if_neg (by simp)] at LE
        exact .inr ⟨by rw [LE], _, _, xs, n, rfl, by rw [LE]; exact RD.out, OK.out, own, by rw [LE]; simp only; rw [HD.out]; exact hl⟩
      | some fd =>
        have hM2 := hM
        rw [make_some hg2] at hM2
        injection hM2 with hM2 hM3
        subst hM2
        subst hM3
        obtain ⟨nd, hnd⟩ := place_at hg2
        have P2 := place_is h dS hnd hg2
        have n1 : ¬ (nd : Int) < 0 := by omega
        have p2x := p1
        clear hg2 hnd
        go_wp2_with fail
        refine P2.mono ?_
        rintro e w' ⟨rfl, rfl⟩
        clear P2
        have p2 := p2x
        clear p2x
        obtain ⟨f2, hf2⟩ := make_has hM
        obtain ⟨n2, hn2⟩ := place_at hf2
        have hz : E1.size dN = ((⟨f2.bs.toArray⟩ : ByteArray).size : Int) := by rw [size_some hf2, mk_size]
        have hsz : (f2.bs.length : Int) ≤ 9223372036854775807 := by
          have a1 := Pk.mem_used (Pk.get_some hf2).1
          have a2 := h.ok.used
          have a3 := h.ok.room1
          omega
        have hsz2 : ((⟨f2.bs.toArray⟩ : ByteArray).size : Int) ≤ 9223372036854775807 := by rw [mk_size]; exact hsz
        have TW := Lib.hid (fun (c : e3 = 0) => read_whole (D := E1) (t := t) (D1 := E3) (by rw [hR, c]))
        have TL := Lib.hid (load_one_of (e4 := e4) (D4 := E4) hD hM hR hu)
        obtain ⟨g2, cap2, cu, cf⟩ := h.file hn2
        have p3 : E3.Pw := by have := (Pk.steps_read p2 h.ok dN 0 (E1.size dN)).1; rw [hR] at this; exact this
        have C3 := Lib.hid fun z (h : HasR w0 z u E1 X) => rh_read h p2 (by omega) (s := dS) (by decide) 0 ((⟨f2.bs.toArray⟩ : ByteArray).size : Int) (by decide) hsz2
        rw [kl_dS, ← hz, hR] at C3
        have C4 := Lib.hid fun z (h : HasR w0 z u E3 X) => rh_sync h p3 (by omega) (s := dS) (by decide)
        rw [kl_dS, hS] at C4
        have lt2 : (n2 : Int) < (E1.L.length : Int) := by have := (List.getElem?_eq_some_iff.1 hn2).1; omega
        have lt3 : (0 : Int) ≤ (n2 : Int) := by omega
        have PQ := Lib.hid fun z (h : HasR w0 z u E1 X) => place_is h dS hn2 hf2
        have HZ := Lib.hid hz
        rw [hz] at C3 TW
        clear hz hsz hD hM hR hS hf2 hn2 o1 o2 o3
        have hc2 := h.ok.cnt
        generalize E1.L.length = len2 at cu lt2 hc2
        generalize (⟨f2.bs.toArray⟩ : ByteArray) = s2 at C3 TW HZ hsz2 cf
        go_upto_region 9 with (fail)
        go_quiet ((go_at_call 39; exact Calls.quiet_of_same (PQ.out _ (h.drewN _))))
        replace h := h.drewN nq
        clear cu cf PQ
        generalize World.drewN _ nq = wq at h ⊢
        go_wp2_with fail
        refine (C3.out _ h).mono ?_
        rintro e w3 ⟨rfl, h⟩
        clear C3
        by_cases c3 : e3 = 0
        rotate_left
        · have n3 : (e3 != 0) = true := by simpa using c3
          go_wp2
          go_ret2
          have LE := LE.out
          rw [if_neg (by simp), if_neg (by simp), if_pos c3] at LE
          exact .inl ⟨by rw [LE]; exact c3, by rw [LE]; rfl, by rw [LE]; exact h⟩
        subst c3
        replace TW := Lib.hid (TW.out rfl)
        go_wp2_with fail
        refine (C4.out _ h).mono ?_
        rintro e w4 ⟨rfl, h⟩
        clear C4
        by_cases c4 : e4 = 0
        rotate_left
        · have n4 : (e4 != 0) = true := by simpa using c4
          go_wp2
          go_ret2
          have LE := LE.out
          rw [if_neg (by simp), if_neg (by simp), if_neg (by simp), if_pos c4] at LE
          exact .inl ⟨by rw [LE]; exact c4, by rw [LE]; rfl, by rw [LE]; exact h⟩
        subst c4
        have C5 := rall_own ⟨t.toArray⟩ w4 (by rw [mk_size]; exact TL.out)
        rw [bl_mk] at C5
        have hst : (⟨t.toArray⟩ : ByteArray).size = s2.size := by
          have := TW.out
          rw [mk_size]
          omega
        have hs2 : s2.size ≤ 1000000 := by rw [← hst, mk_size]; exact TL.out
        have HD : Hid (t.length = s2.size) := Lib.hid (by rw [← hst, mk_size])
        clear hst
        go_wp2_with fail
        refine C5.mono ?_
        rintro e w5 ⟨xs, n, v, rfl, own, ok, rd, G⟩
        clear C5
        replace own := owns_mono own h.below.size
        replace h := h.kept G
        have OK := Lib.hid ok
        have RD := Lib.hid rd
        obtain ⟨l1, l2⟩ := reads_le rd
        rw [nb_len] at l1
        have l3 : n ≤ 1000000 := by have := TL.out; omega
        clear rd ok G l1
        obtain ⟨g, cap, rfl⟩ : ∃ g cap, v = .slice g xs.length cap := by
          rcases own.2 with ⟨rfl, e⟩ | ⟨g, cap, cur, rfl, _⟩
          · exact ⟨none, 0, by rw [e]⟩
          · exact ⟨_, cap, rfl⟩
        have l4 : xs.length ≤ 1000000 := by omega
        have Z := At.new w5 45 #[.pointer (some ⟨u, 0, none⟩), .slice g xs.length cap, .int .i64 (xs.length : Int), .int .i64 (n : Int), .bool (decide (n < s2.size))]
        have F : Below w5.heap.size w5 (w5.alloc (.cells #[.pointer (some ⟨u, 0, none⟩), .slice g xs.length cap, .int .i64 (xs.length : Int), .int .i64 (n : Int), .bool (decide (n < s2.size))] 45)) := (Below.refl _ _).alloc (Nat.le_refl _) _
        have hl := has_rlog (L := ⟨(xs.length : Int), (n : Int), (xs.length : Int), decide (n < s2.size)⟩) h F (Nat.le_refl _) Z.heap
        replace own := (Kp.of_below F).owns own
        clear Z F h l2
        go_wp2
        go_ret2
        have LE := LE.out
        rw [if_neg (by simp), if_neg (by simp), if_neg (by simp), if_neg (by simp)] at LE
        exact .inr ⟨by rw [LE], _, _, xs, n, rfl, by rw [LE]; exact RD.out, OK.out, own, by rw [LE]; simp only; rw [HD.out]; exact hl⟩
theorem ropen_any (h : HasR w0 w u E X) (pw : E.Pw) (ho : E.ops + 5 ≤ 1099511627776) (hu : usedF E.L ≤ 1000000) :
    Calls Tryz.prog 8 #[.pointer (some ⟨u, 0, none⟩)] w fun e w' => ROpenPost w0 w u E X e w' := by
  refine (ropen_raw h.slips pw ho hu).mono ?_
  rintro e w' (⟨a, b, h'⟩ | ⟨a, r, v, xs, n, b, rd, ok, own, h'⟩)
  · exact ⟨.inl ⟨a, b, h'.less fun x hx => List.mem_append_right _ hx⟩, rkp_of h'⟩
  · exact ⟨.inr ⟨a, r, v, xs, n, b, rd, ok, own, h'.less fun x hx => List.mem_append_right _ hx⟩, rkp_of h'.disk⟩
end
end Go.Proofs.YtdmgobffhpgjlaaGreat.Sl.Dg
