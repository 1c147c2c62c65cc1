/-
  The walk of ChunkReads.
-/
import Derived.Test.YtjdfninaccaagaaDoorChRread
import Derived.Test.YtjdfninaccaagaaDoorChAwake
import Derived.Test.YtjdfninaccaagaaDoorChCuts
namespace Go.Proofs.YtjdfninaccaagaaDoor.Ch
open Go.RowKit Go.PlainAid
open Hx Fi
set_option linter.unusedVariables false
set_option maxRecDepth 20000
set_option linter.unusedSimpArgs false

/-- one body that is read, beside boxes of the call's own -/
structure Sole (w0 w : World) (p M : Nat) (s : CS) (X : List (Nat × Array Value)) : Prop where
  bel : Below w0.heap.size w0 w
  is : ∃ Z, Of w p Z M s ∧ ∀ b, Z b → w0.heap.size ≤ b ∧ ∀ x ∈ X, b ≠ x.1
  at_ : ∀ x ∈ X, At w x.1 27 x.2
section
variable {w0 w : World} {p M : Nat} {s : CS} {X : List (Nat × Array Value)}
theorem Sole.below {w' : World} (h : Sole w0 w p M s X) (hb : Below w.heap.size w w') : Sole w0 w' p M s X := by
  obtain ⟨b, ⟨Z, h1, h2⟩, h3⟩ := h
  exact ⟨b.trans (hb.mono b.size), ⟨Z, h1.old hb, h2⟩, fun x hx => (h3 x hx).old hb⟩
theorem Sole.call {o : Ending} {w' : World} {s' : CS} {Z : Nat → Prop} (bel : Below w0.heap.size w0 w) (h2 : ∀ b, Z b → w0.heap.size ≤ b ∧ ∀ x ∈ X, b ≠ x.1) (at_ : ∀ x ∈ X, At w x.1 27 x.2) (hp : OfPost w w' p Z M s') : Sole w0 w' p M s' X := by
  obtain ⟨Z', h3, g⟩ := hp
  refine ⟨g.below bel bel.size fun b hb => (h2 b hb).1, ⟨Z', h3, fun b hb => ?_⟩, fun x hx => (at_ x hx).same (g.block _ (at_ x hx).lt fun hz => (h2 _ hz).2 x hx rfl)⟩
  rcases g.sub b hb with e | e
  · exact h2 b e
  · exact ⟨Nat.le_trans bel.size e, fun x hx hne => by have := (at_ x hx).lt; omega⟩
theorem Sole.drop (h : Sole w0 w p M s X) : Sole w0 w p M s [] := by
  obtain ⟨b, ⟨Z, h1, h2⟩, h3⟩ := h
  exact ⟨b, ⟨Z, h1, fun k hk => ⟨(h2 k hk).1, by simp⟩⟩, by simp⟩
theorem Sole.box (h : Sole w0 w p M s X) (cs ds : Array Value) : Sole w0 ((w.alloc (.cells cs 27)).setRow w.heap.size ds) p M s ((w.heap.size, ds) :: X) := by
  have hb : Below w.heap.size w ((w.alloc (.cells cs 27)).setRow w.heap.size ds) := below_row ((Below.refl _ _).alloc (Nat.le_refl _) _) (Nat.le_refl _)
  have lt := fun Z (h1 : Of w p Z M s) => h1.lt
  obtain ⟨b, ⟨Z, h1, h2⟩, h3⟩ := h
  refine ⟨b.trans (hb.mono b.size), ⟨Z, h1.old hb, fun k hk => ⟨(h2 k hk).1, ?_⟩⟩, ?_⟩
  · intro x hx
    rcases List.mem_cons.1 hx with e | e
    · have := lt Z h1 k hk
      rw [e]; show k ≠ w.heap.size; omega
    · exact (h2 k hk).2 x e
  · intro x hx
    rcases List.mem_cons.1 hx with e | e
    · rw [e]; exact (At.new w _ _).row ds
    · exact (h3 x e).old hb
theorem Sole.drew (h : Sole w0 w p M s X) : Sole w0 w.drew p M s X := h.below ((Below.refl _ _).drew)
theorem sole_add (h : Sole w0 w p M s X) (ok : s.Ok M) (hm : (M : Int) ≤ 9223372036854775807) (t : ByteArray) (hz : t.size ≤ 549755813888) (hu : s.u.length + t.size ≤ 1099511627776) (hr : s.md.rest.length + t.size ≤ 1099511627776) :
    Calls Tryd.prog 10 #[.pointer (some ⟨p, 0, none⟩), .string t] w fun e w' => e = .returned (.int .i64 (run M s (ls t)).md.error) ∧ Sole w0 w' p M (run M s (ls t)) X := by
  obtain ⟨b, ⟨Z, h1, h2⟩, h3⟩ := h
  exact (add_of h1 ok hm t hz hu hr).mono fun e w' ⟨a, hp⟩ => ⟨a, Sole.call (o := e) b h2 h3 hp⟩
theorem sole_take (h : Sole w0 w p M s X) :
    Calls Tryd.prog 11 #[.pointer (some ⟨p, 0, none⟩)] w fun e w' => e = .returned (.string (tx s.u)) ∧ Sole w0 w' p M (taken s) X := by
  obtain ⟨b, ⟨Z, h1, h2⟩, h3⟩ := h
  exact (take_of h1).mono fun e w' ⟨a, hp⟩ => ⟨a, Sole.call (o := e) b h2 h3 hp⟩
theorem sole_done (h : Sole w0 w p M s X) : Calls Tryd.prog 12 #[.pointer (some ⟨p, 0, none⟩)] w fun e w' => e = .returned (.bool s.md.isDone) ∧ w = w' := by
  obtain ⟨b, ⟨Z, h1, h2⟩, h3⟩ := h
  exact done_of h1
theorem sole_rest (h : Sole w0 w p M s X) : Calls Tryd.prog 13 #[.pointer (some ⟨p, 0, none⟩)] w fun e w' => e = .returned (.string (tx s.md.rest)) ∧ w = w' := by
  obtain ⟨b, ⟨Z, h1, h2⟩, h3⟩ := h
  exact rest_of h1
theorem sole_size (h : Sole w0 w p M s X) : Calls Tryd.prog 14 #[.pointer (some ⟨p, 0, none⟩)] w fun e w' => e = .returned (.int .i64 (s.n : Int)) ∧ w = w' := by
  obtain ⟨b, ⟨Z, h1, h2⟩, h3⟩ := h
  exact size_of' h1
theorem sole_new {wa : World} (ba : Below w.heap.size w wa) (m : Int) (h1 : -9223372036854775808 ≤ m) (h2 : m ≤ 9223372036854775807) :
    Calls Tryd.prog 8 #[.int .i64 m] wa fun e w' => ∃ p, e = .returned (.pointer (some ⟨p, 0, none⟩)) ∧ Sole w w' p m.toNat init [] :=
  (new_of m wa h1 h2).mono fun e w' ⟨a, b, c⟩ => ⟨_, a, ba.trans (b.mono ba.size), ⟨_, c, fun k hk => ⟨by rw [hk]; exact ba.size, by simp⟩⟩, by simp⟩
end
theorem taken_ok {M : Nat} {s : CS} (h : s.Ok M) : (taken s).Ok M := ⟨h.n, Nat.zero_le _, h.g⟩
/-- a piece behind what was taken -/
theorem taken_run (M : Nat) (R : CS) (l : List UInt8) : run M R l = ⟨(run M (taken R) l).md, (run M (taken R) l).n, R.u ++ (run M (taken R) l).u⟩ := by
  have h := run_shift (most := M) R.u l (taken R)
  rw [← h]
  show run M R l = run M ⟨R.md, R.n, R.u ++ []⟩ l
  rw [List.append_nil]
/-- what is behind the end is the end of what came -/
theorem rest_suffix (M : Nat) : ∀ (l : List UInt8) (s : CS), s.md.rest = [] → (run M s l).md.isDone = true → ∃ q, l = q ++ (run M s l).md.rest
  | [], s, h, _ => ⟨[], by rw [run_nil, h]; rfl⟩
  | b :: l, s, h, hd => by
    rw [run_cons] at hd ⊢
    by_cases hr : (stepB M s b).md.rest = []
    · obtain ⟨q, hq⟩ := rest_suffix M l (stepB M s b) hr hd
      exact ⟨b :: q, by rw [List.cons_append, ← hq]⟩
    · obtain ⟨md, n, u⟩ := s
      cases md with
      | done r =>
        obtain rfl : r = [] := h
        refine ⟨[], ?_⟩
        show b :: l = (run M ⟨.done [b], n, u⟩ l).md.rest
        rw [run_done]; rfl
      | line a =>
        exfalso; apply hr
        unfold stepB
        simp only
        split
        · exact md_rest_line
        · split <;> rfl
      | data k =>
        exfalso; apply hr
        unfold stepB
        simp only
        split <;> rfl
      | cr =>
        exfalso; apply hr
        unfold stepB
        simp only
        split <;> rfl
      | lf =>
        exfalso; apply hr
        unfold stepB
        simp only
        split <;> rfl
      | trail a k =>
        exfalso; apply hr
        unfold stepB
        simp only
        split
        · unfold endT
          split
          · split
            · rfl
            · split
              · split <;> rfl
              · rfl
          · rfl
        · split <;> rfl
      | err e => exact absurd rfl hr
theorem err_md {R : CS} {M : Nat} (h : R.Ok M) (he : R.md.error ≠ 0) : ∃ e, R.md = .err e := by
  obtain ⟨md, n, u⟩ := R
  cases md with
  | err e => exact ⟨e, rfl⟩
  | _ => exact absurd rfl he
theorem strs_at {w : World} {base : Option Addr} {n cap : Nat} {ss : List ByteArray} (h : StrsAt w (.slice base n cap) ss) {j : Nat} {s : ByteArray} (hj : ss[j]? = some s) : ∃ a : Addr, base = some a ∧ a.block < w.heap.size ∧ w.cell? (a.add j) = some (.string s) := by
  obtain ⟨base', cap', e, hl, hc⟩ := h.is
  injection e with e1 e2 e3
  subst e1
  exact hc j s hj
/-- where the walk of ChunkReads stands: what was read, in pieces, is what all that came is -/
structure DInv (w wr : World) (n pc M k : Nat) (all data : ByteArray) : Prop where
  hk : k ≤ n
  sz : all.size ≤ 8192
  u : ls data = (run M init (ls all)).u
  own : Sole w wr pc M (taken (run M init (ls all))) []
set_option maxRecDepth 100000 in
set_option maxHeartbeats 8000000 in
theorem walkReads (v : Value) (ps : List ByteArray) (most : Int) (w : World) (hv : StrsAt w v ps) (hl : ps.length ≤ 9223372036854775807) (hz : ∀ s ∈ ps, s.size ≤ 9223372036854775807) (w2 : (Lit.int .i64 most).wf = true) :
    Calls Tryd.prog 3 #[v, .int .i64 most] w fun e w' => e = .returned (.bool true) ∧ Below w.heap.size w w' := by
  obtain ⟨m1, m2⟩ : -9223372036854775808 ≤ most ∧ most ≤ 9223372036854775807 := int_bd w2
  clear w2
  obtain ⟨base, cap, rfl, _, _⟩ := hv.is
  have HV := Lib.hid hv
  clear hv hz
  obtain ⟨n, hn⟩ : ∃ n, n = ps.length := ⟨_, rfl⟩
  rw [← hn] at HV hl ⊢
  have HN := Lib.hid hn
  clear hn
  obtain ⟨M, hM⟩ : ∃ M, M = most.toNat := ⟨_, rfl⟩
  have hMb : (M : Int) ≤ 9223372036854775807 := by omega
  have rd : ∀ (t : ByteArray) (w : World), t.size ≤ 8192 → Calls Tryd.prog 9 #[.string t, .int .i64 most] w fun x w' => x = .returned (.agg (bodyOf (tx (run M init (ls t)).u) (run M init (ls t)) t)) ∧ Below w.heap.size w w' := fun t w h => by rw [hM]; exact rread_any t most (by omega) m1 m2 w
  have HRD := Lib.hid rd
  have nw : ∀ (wa : World), Below w.heap.size w wa → Calls Tryd.prog 8 #[.int .i64 most] wa fun e w' => ∃ p, e = .returned (.pointer (some ⟨p, 0, none⟩)) ∧ Sole w w' p M init [] := fun wa ba => by rw [hM]; exact sole_new ba most m1 m2
  have HNW := Lib.hid nw
  have HMB := Lib.hid hMb
  clear nw rd hM hMb m1 m2
  go_enter Tryd.func3, Tryd.ntmps3
  go_wp2_with fail
  refine (awake_any _).mono ?_
  rintro e wa ⟨rfl, ba⟩
  go_wp2_with fail
  refine (HNW.out _ ba).mono ?_
  rintro e w1 ⟨pc, rfl, O1⟩
  have I0 : Hid (DInv w w1 n pc M 0 ⟨#[]⟩ ⟨#[]⟩) := Lib.hid ⟨Nat.zero_le _, by decide, rfl, O1⟩
  clear O1 HNW ba
  go_wp2_with fail
  go_loopw [6, 7, 8] (fun a d i wr => ∃ (all data : ByteArray) (k : Nat), a = .string all ∧ d = .string data ∧ i = .int .i64 k ∧ DInv w wr n pc M k all data) (fun _ _ i _ => n - (intOf i).toNat)
  case atStart => exact ⟨⟨#[]⟩, ⟨#[]⟩, 0, rfl, rfl, rfl, I0.out⟩
  case round =>
    clear I0
    obtain ⟨all, data, k, rfl, rfl, rfl, I⟩ := hrel
    by_cases hkn : k < n
    · have l1 : (k : Int) < (n : Int) := by omega
      by_cases hk30 : k < 30
      · have l2 : (k : Int) < 30 := by omega
        obtain ⟨q, hq⟩ : ∃ q, ps[k]? = some q := ⟨ps[k]'(by have := HN.out; omega), List.getElem?_eq_getElem _⟩
        obtain ⟨a, rfl, ha, hcell⟩ := strs_at (HV.out.below I.own.bel) hq
        have HQ := Lib.hid hq
        clear hq
        by_cases hp : 4096 < q.size
        · have g1 : (4096 : Int) < (q.size : Int) := by omega
          clear HRD
          go_wp2
          go_ret
          exact ⟨rfl, I.own.bel⟩
        · have g1 : ¬ (4096 : Int) < (q.size : Int) := by omega
          by_cases ha2 : 4096 < all.size
          · have g2 : (4096 : Int) < (all.size : Int) := by omega
            clear HRD
            go_wp2
            go_ret
            exact ⟨rfl, I.own.bel⟩
          · have g2 : ¬ (4096 : Int) < (all.size : Int) := by omega
            have ok0 : (run M init (ls all)).Ok M := (init_ok M).run
            have rd1 := HRD.out all wr (by omega)
            have sm := (run_small M (ls all) init).2
            have hu := I.u
            have O := I.own
            clear I
            obtain ⟨R, hR⟩ : ∃ R, run M init (ls all) = R := ⟨_, rfl⟩
            rw [hR] at rd1 ok0 hu O sm
            have sm2 : R.md.rest.length ≤ 4096 := by
              rw [ls_len] at sm
              have : R.md.rest.length ≤ 0 + all.size := sm
              omega
            clear sm
            obtain ⟨b1, s1, hb1⟩ : ∃ b1 s1, bodyOf (tx R.u) R all = bdV (tx R.u) b1 s1 R.md.error := ⟨_, _, rfl⟩
            rw [hb1] at rd1
            clear hb1
            generalize tx R.u = D1 at rd1
            obtain ⟨er1, her⟩ : ∃ er1, R.md.error = er1 := ⟨_, rfl⟩
            rw [her] at rd1
            have HER := Lib.hid her
            have HU := Lib.hid hu
            have HRR := Lib.hid hR
            clear her hu hR
            go_wp2_with fail
            refine rd1.mono ?_
            rintro e w2 ⟨rfl, f2⟩
            have O2 := O.below f2
            clear O f2 rd1 hcell ha
            have A3 := At.new w2 27 (bdV ⟨#[]⟩ false 0 0)
            have S3 := bd_stores (d' := D1) (dn' := b1) (sz' := s1) (er' := er1) A3
            have P3 := O2.box (bdV ⟨#[]⟩ false 0 0) (bdV D1 b1 s1 er1)
            unfold bdV at A3 S3
            clear A3
            generalize hw3 : World.setRow _ w2.heap.size (bdV D1 b1 s1 er1) = w3 at P3
            unfold bdV at hw3
            rw [hw3] at S3
            clear hw3 O2
            go_upto_region 12 with (refine wpl_store S3 rfl rfl rfl rfl rfl ?_)
            clear S3
            generalize w2.heap.size = p1 at P3 ⊢
            obtain ⟨a3, ea, ha3, hcell3⟩ := strs_at (HV.out.below P3.bel) HQ.out
            obtain rfl := Option.some.inj ea
            clear ea
            have ca := sole_add P3 (taken_ok ok0) HMB.out q (by omega) (by show 0 + q.size ≤ _; omega) (by show R.md.rest.length + q.size ≤ _; omega)
            obtain ⟨T, hT⟩ : ∃ T, run M (taken R) (ls q) = T := ⟨_, rfl⟩
            rw [hT] at ca
            obtain ⟨eT, heT⟩ : ∃ eT, T.md.error = eT := ⟨_, rfl⟩
            rw [heT] at ca
            have HET := Lib.hid heT
            have HT := Lib.hid hT
            clear heT hT sm2
            go_wp2_with fail
            refine ca.mono ?_
            rintro e w4 ⟨rfl, O4⟩
            clear ca P3 hcell3 ha3
            have A4 := O4.at_ _ (List.mem_cons_self)
            have c4 : w4.cell? ⟨p1, 3, none⟩ = some (.int .i64 er1) := A4.cell 3
            clear A4
            replace O4 := O4
            by_cases he : er1 = 0
            · subst he
              obtain ⟨a4, ea, ha4, hcell4⟩ := strs_at (HV.out.below O4.bel) HQ.out
              obtain rfl := Option.some.inj ea
              clear ea
              have hsum : all.size + q.size ≤ 9223372036854775807 := by omega
              go_upto_region 15 with (fail)
              replace O4 := O4.drop
              clear hcell4 ha4 c4 hsum
              have hAs : (all ++ q).size ≤ 8192 := by rw [ByteArray.size_append]; omega
              have hAr : run M init (ls (all ++ q)) = ⟨T.md, T.n, R.u ++ T.u⟩ := by rw [show ls (all ++ q) = ls all ++ ls q by simp [ls], run_append, HRR.out, taken_run, HT.out]
              have hu := HU.out
              generalize all ++ q = A at hAs hAr ⊢
              clear ok0 g1 g2 hp ha2
              have rd2 := HRD.out A w4 hAs
              rw [hAr] at rd2
              have hDz : T.n = (tx (R.u ++ T.u)).size := by
                have h := run_un M (ls A)
                rw [hAr] at h
                rw [tx_size]; exact h.symm
              have hTu : T.u.length ≤ 8192 := by
                have h := (run_small M (ls A) init).1
                rw [hAr, ls_len] at h
                have h2 : (R.u ++ T.u).length ≤ 0 + A.size := h
                rw [List.length_append] at h2; omega
              have hdz : data.size ≤ 8192 := by
                have h := (run_small M (ls A) init).1
                rw [hAr, ls_len] at h
                have h2 : (R.u ++ T.u).length ≤ 0 + A.size := h
                rw [List.length_append, ← hu, ls_len] at h2; omega
              have hD0 : data ++ tx T.u = tx (R.u ++ T.u) := ls_inj (by rw [ls_tx, ← hu]; simp [ls, tx])
              have hDu0 : ls (tx (R.u ++ T.u)) = (run M init (ls A)).u := by rw [ls_tx, hAr]
              obtain ⟨D2, hD2⟩ : ∃ D2, tx (R.u ++ T.u) = D2 := ⟨_, rfl⟩
              rw [hD2] at hDz hD0 hDu0
              have hDu := hDu0
              obtain ⟨U, hU⟩ : ∃ U, tx T.u = U := ⟨_, rfl⟩
              have hD := hD0
              rw [hU] at hD
              have hsum2 : data.size + U.size ≤ 9223372036854775807 := by rw [← hU, tx_size]; omega
              clear hDu0 hD0 hTu hdz
              cases hdn : T.md.isDone with
              | true =>
                obtain ⟨z, hzz⟩ : ∃ z, z = A.size - T.md.rest.length := ⟨_, rfl⟩
                have hsf := rest_suffix M (ls A) init rfl (by rw [hAr]; exact hdn)
                rw [hAr] at hsf
                have hex : A.extract z A.size = tx T.md.rest := by
                  obtain ⟨x, hx⟩ := hsf
                  have hx : ls A = x ++ T.md.rest := hx
                  have hl : A.size = x.length + T.md.rest.length := by rw [← ls_len, hx, List.length_append]
                  refine ls_inj ?_
                  rw [ls_extract, ls_tx, List.take_of_length_le (by rw [List.length_drop, ls_len]; exact Nat.le_refl _), hx, show z = x.length by omega, List.drop_left]
                have hzA : z ≤ A.size := by omega
                obtain ⟨U2, hrest⟩ : ∃ U2, tx T.md.rest = U2 := ⟨_, rfl⟩
                rw [hrest] at hex
                have sl : ∀ w, (Instr.slice 9 (.string A) (some (.int .i64 (z : Int))) none none).run Tryd.prog w = .ok (.string U2) w := fun w => by
                  have h := run_slice_string_from_if (P := Tryd.prog) (w := w) 9 A .i64 (z : Int) Tryd.underlying9
                  rw [if_pos ⟨by omega, by omega⟩, show ((z : Int)).toNat = z by omega, hex] at h
                  exact h
                clear hsf hex
                have hb2 : bodyOf (tx (R.u ++ T.u)) ⟨T.md, T.n, R.u ++ T.u⟩ A = bdV D2 true (z : Int) eT := by
                  show bdV (tx (R.u ++ T.u)) T.md.isDone (if T.md.isDone = true then ((A.size - T.md.rest.length : Nat) : Int) else 0) T.md.error = _
                  rw [hdn, hD2, HET.out, if_pos rfl, ← hzz]
                rw [hb2] at rd2
                clear hb2 hzz
                go_wp2_with fail
                refine rd2.mono ?_
                rintro e w5 ⟨rfl, f5⟩
                have O5 := O4.below f5
                clear O4 f5 rd2
                have A6 := At.new w5 27 (bdV ⟨#[]⟩ false 0 0)
                have S6 := bd_stores (d' := D2) (dn' := true) (sz' := (z : Int)) (er' := eT) A6
                have P6 := O5.box (bdV ⟨#[]⟩ false 0 0) (bdV D2 true (z : Int) eT)
                unfold bdV at A6 S6
                clear A6
                generalize hw6 : World.setRow _ w5.heap.size (bdV D2 true (z : Int) eT) = w6 at P6
                unfold bdV at hw6
                rw [hw6] at S6
                clear hw6 O5
                go_upto_region 16 with (refine wpl_store S6 rfl rfl rfl rfl rfl ?_)
                clear S6
                generalize w5.heap.size = p2 at P6 ⊢
                have tk := sole_take P6
                rw [hU] at tk
                go_wp2_with fail
                refine tk.mono ?_
                rintro e w7 ⟨rfl, O7⟩
                clear tk P6
                have A7 := O7.at_ _ (List.mem_cons_self)
                have c0 : w7.cell? ⟨p2, 0, none⟩ = some (.string D2) := A7.cell 0
                have c1 : w7.cell? ⟨p2, 1, none⟩ = some (.bool true) := A7.cell 1
                have c2 : w7.cell? ⟨p2, 2, none⟩ = some (.int .i64 (z : Int)) := A7.cell 2
                have c3 : w7.cell? ⟨p2, 3, none⟩ = some (.int .i64 eT) := A7.cell 3
                clear A7
                go_upto_region 20 with (fail)
                clear hsum2 hD c2 sl
                have O8 := O7.drew.drop
                have dC := sole_done O8
                have rC := sole_rest O8
                have sC := sole_size O8
                rw [show (taken T).md = T.md from rfl, hdn] at dC
                rw [show (taken T).md = T.md from rfl, hrest] at rC
                rw [show (taken T).n = T.n from rfl, hDz] at sC
                have q1 : (eT != eT) = false := by simp
                have q3 : ((D2.size : Int) != (D2.size : Int)) = false := by simp
                have sD := str_eq D2
                have sU := str_eq U2
                replace c0 : w7.drew.cell? ⟨p2, 0, none⟩ = some (.string D2) := c0
                replace c1 : w7.drew.cell? ⟨p2, 1, none⟩ = some (.bool true) := c1
                replace c3 : w7.drew.cell? ⟨p2, 3, none⟩ = some (.int .i64 eT) := c3
                refine wp_region_held (S := fun u => u = w7.drew) (by kernel_rfl) ?_
                change wpAnyH _ _ _ _ _ _ _ _ w7.drew
                clear O7
                generalize w7.drew = W at O8 dC rC sC c0 c1 c3 ⊢
                refine held_take 0 (.int .i64 eT) rfl (by kernel_rfl) (by kernel_rfl) (by kernel_rfl) (fun _ _ _ h => h) (Or.inl ⟨by rfl, fun x j => by go_simp⟩) rfl (fun K hK => ?_)
                go_simp
                refine hK _ _ ?_
                clear hK K
                refine held_take 1 (.pointer (some ⟨p2, 3, none⟩)) rfl (by kernel_rfl) (by kernel_rfl) (by kernel_rfl) (fun _ _ _ h => h) (Or.inl ⟨by rfl, fun x j => by go_simp⟩) rfl (fun K hK => ?_)
                go_simp
                refine hK _ _ ?_
                clear hK K
                refine held_take 2 (.int .i64 eT) rfl (by kernel_rfl) (by kernel_rfl) (by kernel_rfl) (fun _ _ _ h => h) (Or.inl ⟨by rfl, fun x j => by rw [j]; go_simp⟩) rfl (fun K hK => ?_)
                go_simp
                refine hK _ _ ?_
                clear hK K
                refine held_take 3 (.bool false) rfl (by kernel_rfl) (by kernel_rfl) (by kernel_rfl) (fun _ _ _ h => h) (Or.inl ⟨by rfl, fun x j => by go_simp⟩) rfl (fun K hK => ?_)
                go_simp
                refine hK _ _ ?_
                clear hK K
                refine held_take 4 (.bool false) rfl (by kernel_rfl) (by kernel_rfl) (by kernel_rfl) (fun _ _ _ h => h) (Or.inl ⟨by rfl, fun x j => by go_simp⟩) rfl (fun K hK => ?_)
                go_simp
                refine hK _ _ ?_
                clear hK K
                refine held_take 5 (.string D2) rfl (by kernel_rfl) (by kernel_rfl) (by kernel_rfl) (fun _ _ _ h => h) (Or.inl ⟨by rfl, fun x j => by go_simp⟩) rfl (fun K hK => ?_)
                go_simp
                refine hK _ _ ?_
                clear hK K
                refine held_take 6 (.pointer (some ⟨p2, 0, none⟩)) rfl (by kernel_rfl) (by kernel_rfl) (by kernel_rfl) (fun _ _ _ h => h) (Or.inl ⟨by rfl, fun x j => by go_simp⟩) rfl (fun K hK => ?_)
                go_simp
                refine hK _ _ ?_
                clear hK K
                refine held_take 7 (.string D2) rfl (by kernel_rfl) (by kernel_rfl) (by kernel_rfl) (fun _ _ _ h => h) (Or.inl ⟨by rfl, fun x j => by rw [j]; go_simp⟩) rfl (fun K hK => ?_)
                go_simp
                refine hK _ _ ?_
                clear hK K
                refine held_take 8 (.bool false) rfl (by kernel_rfl) (by kernel_rfl) (by kernel_rfl) (fun _ _ _ h => h) (Or.inl ⟨by rfl, fun x j => by go_simp⟩) rfl (fun K hK => ?_)
                go_simp
                refine hK _ _ ?_
                clear hK K
                refine held_take 9 (.bool false) rfl (by kernel_rfl) (by kernel_rfl) (by kernel_rfl) (fun _ _ _ h => h) (Or.inl ⟨by rfl, fun x j => by go_simp⟩) rfl (fun K hK => ?_)
                go_simp
                refine hK _ _ ?_
                clear hK K
                refine held_take 10 (.bool false) rfl (by kernel_rfl) (by kernel_rfl) (by kernel_rfl) (fun _ _ _ h => h) (Or.inl ⟨by rfl, fun x j => by go_simp⟩) rfl (fun K hK => ?_)
                go_simp
                refine hK _ _ ?_
                clear hK K
                refine held_take 11 (.pointer (some ⟨pc, 0, none⟩)) rfl (by kernel_rfl) (by kernel_rfl) (by kernel_rfl) (fun _ _ _ h => h) (Or.inl ⟨by rfl, fun x j => by go_simp⟩) rfl (fun K hK => ?_)
                go_simp
                refine hK _ _ ?_
                clear hK K
                refine held_take 13 (.pointer (some ⟨p2, 1, none⟩)) rfl (by kernel_rfl) (by kernel_rfl) (by kernel_rfl) (fun _ _ _ h => h) (Or.inl ⟨by rfl, fun x j => by go_simp⟩) rfl (fun K hK => ?_)
                go_simp
                refine hK _ _ ?_
                clear hK K
                refine held_take 14 (.bool true) rfl (by kernel_rfl) (by kernel_rfl) (by kernel_rfl) (fun _ _ _ h => h) (Or.inl ⟨by rfl, fun x j => by rw [j]; go_simp⟩) rfl (fun K hK => ?_)
                go_simp
                refine hK _ _ ?_
                clear hK K
                refine held_one 12 (by kernel_rfl) (fun K hK => wpOp_in rfl rfl ?_)
                go_simp
                refine dC.mono ?_
                rintro e wc ⟨rfl, rfl⟩
                refine hK _ _ rfl ?_
                clear hK K
                refine held_take 15 (.bool false) rfl (by kernel_rfl) (by kernel_rfl) (by kernel_rfl) (fun _ _ _ h => h) (Or.inl ⟨by rfl, fun x j => by go_simp⟩) rfl (fun K hK => ?_)
                go_simp
                refine hK _ _ ?_
                clear hK K
                refine held_take 16 (.bool false) rfl (by kernel_rfl) (by kernel_rfl) (by kernel_rfl) (fun _ _ _ h => h) (Or.inl ⟨by rfl, fun x j => by go_simp⟩) rfl (fun K hK => ?_)
                go_simp
                refine hK _ _ ?_
                clear hK K
                refine held_take 17 (.bool false) rfl (by kernel_rfl) (by kernel_rfl) (by kernel_rfl) (fun _ _ _ h => h) (Or.inl ⟨by rfl, fun x j => by go_simp⟩) rfl (fun K hK => ?_)
                go_simp
                refine hK _ _ ?_
                clear hK K
                refine held_take 18 (.pointer (some ⟨pc, 0, none⟩)) rfl (by kernel_rfl) (by kernel_rfl) (by kernel_rfl) (fun _ _ _ h => h) (Or.inl ⟨by rfl, fun x j => by go_simp⟩) rfl (fun K hK => ?_)
                go_simp
                refine hK _ _ ?_
                clear hK K
                refine held_take 20 (.string U2) rfl (by kernel_rfl) (by kernel_rfl) (by kernel_rfl) (fun _ _ _ h => h) (Or.inl ⟨by rfl, fun x j => by go_simp⟩) rfl (fun K hK => ?_)
                go_simp
                refine hK _ _ ?_
                clear hK K
                refine held_one 19 (by kernel_rfl) (fun K hK => wpOp_in rfl rfl ?_)
                go_simp
                refine rC.mono ?_
                rintro e wc ⟨rfl, rfl⟩
                refine hK _ _ rfl ?_
                clear hK K
                refine held_take 21 (.bool false) rfl (by kernel_rfl) (by kernel_rfl) (by kernel_rfl) (fun _ _ _ h => h) (Or.inl ⟨by rfl, fun x j => by go_simp⟩) rfl (fun K hK => ?_)
                go_simp
                refine hK _ _ ?_
                clear hK K
                refine held_take 22 (.bool false) rfl (by kernel_rfl) (by kernel_rfl) (by kernel_rfl) (fun _ _ _ h => h) (Or.inl ⟨by rfl, fun x j => by go_simp⟩) rfl (fun K hK => ?_)
                go_simp
                refine hK _ _ ?_
                clear hK K
                refine held_take 23 (.bool false) rfl (by kernel_rfl) (by kernel_rfl) (by kernel_rfl) (fun _ _ _ h => h) (Or.inl ⟨by rfl, fun x j => by go_simp⟩) rfl (fun K hK => ?_)
                go_simp
                refine hK _ _ ?_
                clear hK K
                refine held_take 24 (.pointer (some ⟨pc, 0, none⟩)) rfl (by kernel_rfl) (by kernel_rfl) (by kernel_rfl) (fun _ _ _ h => h) (Or.inl ⟨by rfl, fun x j => by go_simp⟩) rfl (fun K hK => ?_)
                go_simp
                refine hK _ _ ?_
                clear hK K
                refine held_take 26 (.pointer (some ⟨p2, 0, none⟩)) rfl (by kernel_rfl) (by kernel_rfl) (by kernel_rfl) (fun _ _ _ h => h) (Or.inl ⟨by rfl, fun x j => by go_simp⟩) rfl (fun K hK => ?_)
                go_simp
                refine hK _ _ ?_
                clear hK K
                refine held_take 27 (.string D2) rfl (by kernel_rfl) (by kernel_rfl) (by kernel_rfl) (fun _ _ _ h => h) (Or.inl ⟨by rfl, fun x j => by rw [j]; go_simp⟩) rfl (fun K hK => ?_)
                go_simp
                refine hK _ _ ?_
                clear hK K
                refine held_take 28 (.int .i64 (D2.size : Int)) rfl (by kernel_rfl) (by kernel_rfl) (by kernel_rfl) (fun _ _ _ h => h) (Or.inl ⟨by rfl, fun x j => by go_simp⟩) rfl (fun K hK => ?_)
                go_simp
                refine hK _ _ ?_
                clear hK K
                refine held_one 25 (by kernel_rfl) (fun K hK => wpOp_in rfl rfl ?_)
                go_simp
                refine sC.mono ?_
                rintro e wc ⟨rfl, rfl⟩
                refine hK _ _ rfl ?_
                clear hK K
                refine held_take 29 (.bool false) rfl (by kernel_rfl) (by kernel_rfl) (by kernel_rfl) (fun _ _ _ h => h) (Or.inl ⟨by rfl, fun x j => by go_simp⟩) rfl (fun K hK => ?_)
                go_simp
                refine hK _ _ ?_
                clear hK K
                refine held_take 30 (.bool false) rfl (by kernel_rfl) (by kernel_rfl) (by kernel_rfl) (fun _ _ _ h => h) (Or.inl ⟨by rfl, fun x j => by go_simp⟩) rfl (fun K hK => ?_)
                go_simp
                refine hK _ _ ?_
                clear hK K
                refine wpAnyH_done (by kernel_rfl) ?_ _
                clear dC rC sC c0 c1 c3
                go_wp2
                go_roundw
                case rel => exact ⟨A, D2, k + 1, rfl, rfl, by go_num, ⟨by omega, hAs, hDu, by rw [hAr]; exact O8⟩⟩
                case measure => simp [intOf]; omega
              | false =>
                have hrest : tx T.md.rest = ⟨#[]⟩ := by
                  have h : T.md.rest = [] := by
                    revert hdn
                    cases T.md <;> intro h <;> first | rfl | (cases h)
                  rw [h]; rfl
                have hb2 : bodyOf (tx (R.u ++ T.u)) ⟨T.md, T.n, R.u ++ T.u⟩ A = bdV D2 false 0 eT := by
                  show bdV (tx (R.u ++ T.u)) T.md.isDone (if T.md.isDone = true then ((A.size - T.md.rest.length : Nat) : Int) else 0) T.md.error = _
                  rw [hdn, hD2, HET.out]
                  rfl
                rw [hb2] at rd2
                clear hb2
                go_wp2_with fail
                refine rd2.mono ?_
                rintro e w5 ⟨rfl, f5⟩
                have O5 := O4.below f5
                clear O4 f5 rd2
                have A6 := At.new w5 27 (bdV ⟨#[]⟩ false 0 0)
                have S6 := bd_stores (d' := D2) (dn' := false) (sz' := 0) (er' := eT) A6
                have P6 := O5.box (bdV ⟨#[]⟩ false 0 0) (bdV D2 false 0 eT)
                unfold bdV at A6 S6
                clear A6
                generalize hw6 : World.setRow _ w5.heap.size (bdV D2 false 0 eT) = w6 at P6
                unfold bdV at hw6
                rw [hw6] at S6
                clear hw6 O5
                go_upto_region 16 with (refine wpl_store S6 rfl rfl rfl rfl rfl ?_)
                clear S6
                generalize w5.heap.size = p2 at P6 ⊢
                have tk := sole_take P6
                rw [hU] at tk
                go_wp2_with fail
                refine tk.mono ?_
                rintro e w7 ⟨rfl, O7⟩
                clear tk P6
                have A7 := O7.at_ _ (List.mem_cons_self)
                have c0 : w7.cell? ⟨p2, 0, none⟩ = some (.string D2) := A7.cell 0
                have c1 : w7.cell? ⟨p2, 1, none⟩ = some (.bool false) := A7.cell 1
                have c2 : w7.cell? ⟨p2, 2, none⟩ = some (.int .i64 0) := A7.cell 2
                have c3 : w7.cell? ⟨p2, 3, none⟩ = some (.int .i64 eT) := A7.cell 3
                clear A7
                go_upto_region 20 with (fail)
                clear hsum2 hD c2
                have O8 := O7.drew.drop
                have dC := sole_done O8
                have rC := sole_rest O8
                have sC := sole_size O8
                rw [show (taken T).md = T.md from rfl, hdn] at dC
                rw [show (taken T).md = T.md from rfl, hrest] at rC
                rw [show (taken T).n = T.n from rfl, hDz] at sC
                have q1 : (eT != eT) = false := by simp
                have q3 : ((D2.size : Int) != (D2.size : Int)) = false := by simp
                have sD := str_eq D2
                have sU : True := trivial
                replace c0 : w7.drew.cell? ⟨p2, 0, none⟩ = some (.string D2) := c0
                replace c1 : w7.drew.cell? ⟨p2, 1, none⟩ = some (.bool false) := c1
                replace c3 : w7.drew.cell? ⟨p2, 3, none⟩ = some (.int .i64 eT) := c3
                refine wp_region_held (S := fun u => u = w7.drew) (by kernel_rfl) ?_
                change wpAnyH _ _ _ _ _ _ _ _ w7.drew
                clear O7
                generalize w7.drew = W at O8 dC rC sC c0 c1 c3 ⊢
                refine held_take 0 (.int .i64 eT) rfl (by kernel_rfl) (by kernel_rfl) (by kernel_rfl) (fun _ _ _ h => h) (Or.inl ⟨by rfl, fun x j => by go_simp⟩) rfl (fun K hK => ?_)
                go_simp
                refine hK _ _ ?_
                clear hK K
                refine held_take 1 (.pointer (some ⟨p2, 3, none⟩)) rfl (by kernel_rfl) (by kernel_rfl) (by kernel_rfl) (fun _ _ _ h => h) (Or.inl ⟨by rfl, fun x j => by go_simp⟩) rfl (fun K hK => ?_)
                go_simp
                refine hK _ _ ?_
                clear hK K
                refine held_take 2 (.int .i64 eT) rfl (by kernel_rfl) (by kernel_rfl) (by kernel_rfl) (fun _ _ _ h => h) (Or.inl ⟨by rfl, fun x j => by rw [j]; go_simp⟩) rfl (fun K hK => ?_)
                go_simp
                refine hK _ _ ?_
                clear hK K
                refine held_take 3 (.bool false) rfl (by kernel_rfl) (by kernel_rfl) (by kernel_rfl) (fun _ _ _ h => h) (Or.inl ⟨by rfl, fun x j => by go_simp⟩) rfl (fun K hK => ?_)
                go_simp
                refine hK _ _ ?_
                clear hK K
                refine held_take 4 (.bool false) rfl (by kernel_rfl) (by kernel_rfl) (by kernel_rfl) (fun _ _ _ h => h) (Or.inl ⟨by rfl, fun x j => by go_simp⟩) rfl (fun K hK => ?_)
                go_simp
                refine hK _ _ ?_
                clear hK K
                refine held_take 5 (.string D2) rfl (by kernel_rfl) (by kernel_rfl) (by kernel_rfl) (fun _ _ _ h => h) (Or.inl ⟨by rfl, fun x j => by go_simp⟩) rfl (fun K hK => ?_)
                go_simp
                refine hK _ _ ?_
                clear hK K
                refine held_take 6 (.pointer (some ⟨p2, 0, none⟩)) rfl (by kernel_rfl) (by kernel_rfl) (by kernel_rfl) (fun _ _ _ h => h) (Or.inl ⟨by rfl, fun x j => by go_simp⟩) rfl (fun K hK => ?_)
                go_simp
                refine hK _ _ ?_
                clear hK K
                refine held_take 7 (.string D2) rfl (by kernel_rfl) (by kernel_rfl) (by kernel_rfl) (fun _ _ _ h => h) (Or.inl ⟨by rfl, fun x j => by rw [j]; go_simp⟩) rfl (fun K hK => ?_)
                go_simp
                refine hK _ _ ?_
                clear hK K
                refine held_take 8 (.bool false) rfl (by kernel_rfl) (by kernel_rfl) (by kernel_rfl) (fun _ _ _ h => h) (Or.inl ⟨by rfl, fun x j => by go_simp⟩) rfl (fun K hK => ?_)
                go_simp
                refine hK _ _ ?_
                clear hK K
                refine held_take 9 (.bool false) rfl (by kernel_rfl) (by kernel_rfl) (by kernel_rfl) (fun _ _ _ h => h) (Or.inl ⟨by rfl, fun x j => by go_simp⟩) rfl (fun K hK => ?_)
                go_simp
                refine hK _ _ ?_
                clear hK K
                refine held_take 10 (.bool false) rfl (by kernel_rfl) (by kernel_rfl) (by kernel_rfl) (fun _ _ _ h => h) (Or.inl ⟨by rfl, fun x j => by go_simp⟩) rfl (fun K hK => ?_)
                go_simp
                refine hK _ _ ?_
                clear hK K
                refine held_take 11 (.pointer (some ⟨pc, 0, none⟩)) rfl (by kernel_rfl) (by kernel_rfl) (by kernel_rfl) (fun _ _ _ h => h) (Or.inl ⟨by rfl, fun x j => by go_simp⟩) rfl (fun K hK => ?_)
                go_simp
                refine hK _ _ ?_
                clear hK K
                refine held_take 13 (.pointer (some ⟨p2, 1, none⟩)) rfl (by kernel_rfl) (by kernel_rfl) (by kernel_rfl) (fun _ _ _ h => h) (Or.inl ⟨by rfl, fun x j => by go_simp⟩) rfl (fun K hK => ?_)
                go_simp
                refine hK _ _ ?_
                clear hK K
                refine held_take 14 (.bool false) rfl (by kernel_rfl) (by kernel_rfl) (by kernel_rfl) (fun _ _ _ h => h) (Or.inl ⟨by rfl, fun x j => by rw [j]; go_simp⟩) rfl (fun K hK => ?_)
                go_simp
                refine hK _ _ ?_
                clear hK K
                refine held_one 12 (by kernel_rfl) (fun K hK => wpOp_in rfl rfl ?_)
                go_simp
                refine dC.mono ?_
                rintro e wc ⟨rfl, rfl⟩
                refine hK _ _ rfl ?_
                clear hK K
                refine held_take 15 (.bool false) rfl (by kernel_rfl) (by kernel_rfl) (by kernel_rfl) (fun _ _ _ h => h) (Or.inl ⟨by rfl, fun x j => by go_simp⟩) rfl (fun K hK => ?_)
                go_simp
                refine hK _ _ ?_
                clear hK K
                refine held_take 16 (.bool false) rfl (by kernel_rfl) (by kernel_rfl) (by kernel_rfl) (fun _ _ _ h => h) (Or.inl ⟨by rfl, fun x j => by go_simp⟩) rfl (fun K hK => ?_)
                go_simp
                refine hK _ _ ?_
                clear hK K
                refine held_take 17 (.bool false) rfl (by kernel_rfl) (by kernel_rfl) (by kernel_rfl) (fun _ _ _ h => h) (Or.inl ⟨by rfl, fun x j => by go_simp⟩) rfl (fun K hK => ?_)
                go_simp
                refine hK _ _ ?_
                clear hK K
                refine held_take 18 (.pointer (some ⟨pc, 0, none⟩)) rfl (by kernel_rfl) (by kernel_rfl) (by kernel_rfl) (fun _ _ _ h => h) (Or.inl ⟨by rfl, fun x j => by go_simp⟩) rfl (fun K hK => ?_)
                go_simp
                refine hK _ _ ?_
                clear hK K
                refine held_take 20 (.string ⟨#[]⟩) rfl (by kernel_rfl) (by kernel_rfl) (by kernel_rfl) (fun _ _ _ h => h) (Or.inl ⟨by rfl, fun x j => by go_simp⟩) rfl (fun K hK => ?_)
                go_simp
                refine hK _ _ ?_
                clear hK K
                refine held_one 19 (by kernel_rfl) (fun K hK => wpOp_in rfl rfl ?_)
                go_simp
                refine rC.mono ?_
                rintro e wc ⟨rfl, rfl⟩
                refine hK _ _ rfl ?_
                clear hK K
                refine held_take 21 (.bool false) rfl (by kernel_rfl) (by kernel_rfl) (by kernel_rfl) (fun _ _ _ h => h) (Or.inl ⟨by rfl, fun x j => by go_simp⟩) rfl (fun K hK => ?_)
                go_simp
                refine hK _ _ ?_
                clear hK K
                refine held_take 22 (.bool false) rfl (by kernel_rfl) (by kernel_rfl) (by kernel_rfl) (fun _ _ _ h => h) (Or.inl ⟨by rfl, fun x j => by go_simp⟩) rfl (fun K hK => ?_)
                go_simp
                refine hK _ _ ?_
                clear hK K
                refine held_take 23 (.bool false) rfl (by kernel_rfl) (by kernel_rfl) (by kernel_rfl) (fun _ _ _ h => h) (Or.inl ⟨by rfl, fun x j => by go_simp⟩) rfl (fun K hK => ?_)
                go_simp
                refine hK _ _ ?_
                clear hK K
                refine held_take 24 (.pointer (some ⟨pc, 0, none⟩)) rfl (by kernel_rfl) (by kernel_rfl) (by kernel_rfl) (fun _ _ _ h => h) (Or.inl ⟨by rfl, fun x j => by go_simp⟩) rfl (fun K hK => ?_)
                go_simp
                refine hK _ _ ?_
                clear hK K
                refine held_take 26 (.pointer (some ⟨p2, 0, none⟩)) rfl (by kernel_rfl) (by kernel_rfl) (by kernel_rfl) (fun _ _ _ h => h) (Or.inl ⟨by rfl, fun x j => by go_simp⟩) rfl (fun K hK => ?_)
                go_simp
                refine hK _ _ ?_
                clear hK K
                refine held_take 27 (.string D2) rfl (by kernel_rfl) (by kernel_rfl) (by kernel_rfl) (fun _ _ _ h => h) (Or.inl ⟨by rfl, fun x j => by rw [j]; go_simp⟩) rfl (fun K hK => ?_)
                go_simp
                refine hK _ _ ?_
                clear hK K
                refine held_take 28 (.int .i64 (D2.size : Int)) rfl (by kernel_rfl) (by kernel_rfl) (by kernel_rfl) (fun _ _ _ h => h) (Or.inl ⟨by rfl, fun x j => by go_simp⟩) rfl (fun K hK => ?_)
                go_simp
                refine hK _ _ ?_
                clear hK K
                refine held_one 25 (by kernel_rfl) (fun K hK => wpOp_in rfl rfl ?_)
                go_simp
                refine sC.mono ?_
                rintro e wc ⟨rfl, rfl⟩
                refine hK _ _ rfl ?_
                clear hK K
                refine held_take 29 (.bool false) rfl (by kernel_rfl) (by kernel_rfl) (by kernel_rfl) (fun _ _ _ h => h) (Or.inl ⟨by rfl, fun x j => by go_simp⟩) rfl (fun K hK => ?_)
                go_simp
                refine hK _ _ ?_
                clear hK K
                refine held_take 30 (.bool false) rfl (by kernel_rfl) (by kernel_rfl) (by kernel_rfl) (fun _ _ _ h => h) (Or.inl ⟨by rfl, fun x j => by go_simp⟩) rfl (fun K hK => ?_)
                go_simp
                refine hK _ _ ?_
                clear hK K
                refine wpAnyH_done (by kernel_rfl) ?_ _
                clear dC rC sC c0 c1 c3
                go_wp2
                go_roundw
                case rel => exact ⟨A, D2, k + 1, rfl, rfl, by go_num, ⟨by omega, hAs, hDu, by rw [hAr]; exact O8⟩⟩
                case measure => simp [intOf]; omega
            · have g3 : (er1 == 0) = false := by rw [beq_eq_false_iff_ne]; exact he
              go_upto_region 15 with (fail)
              replace O4 := O4.drop
              clear c4 g3
              obtain ⟨x, hx⟩ := err_md ok0 (by rw [HER.out]; exact he)
              have hTt : T = taken R := by
                rw [← HT.out]
                unfold taken
                rw [hx, run_err]
              have hAs : all.size ≤ 8192 := by omega
              have hAr : run M init (ls all) = ⟨T.md, T.n, R.u ++ T.u⟩ := by rw [HRR.out, hTt]; show R = ⟨R.md, R.n, R.u ++ []⟩; rw [List.append_nil]
              have hu := HU.out
              obtain ⟨A, hA⟩ : ∃ A, all = A := ⟨_, rfl⟩
              subst hA
              clear hTt hx he ok0 g1 g2 hp ha2
              have rd2 := HRD.out all w4 hAs
              rw [hAr] at rd2
              have hDz : T.n = (tx (R.u ++ T.u)).size := by
                have h := run_un M (ls all)
                rw [hAr] at h
                rw [tx_size]; exact h.symm
              have hTu : T.u.length ≤ 8192 := by
                have h := (run_small M (ls all) init).1
                rw [hAr, ls_len] at h
                have h2 : (R.u ++ T.u).length ≤ 0 + all.size := h
                rw [List.length_append] at h2; omega
              have hdz : data.size ≤ 8192 := by
                have h := (run_small M (ls all) init).1
                rw [hAr, ls_len] at h
                have h2 : (R.u ++ T.u).length ≤ 0 + all.size := h
                rw [List.length_append, ← hu, ls_len] at h2; omega
              have hD0 : data ++ tx T.u = tx (R.u ++ T.u) := ls_inj (by rw [ls_tx, ← hu]; simp [ls, tx])
              have hDu0 : ls (tx (R.u ++ T.u)) = (run M init (ls all)).u := by rw [ls_tx, hAr]
              obtain ⟨D2, hD2⟩ : ∃ D2, tx (R.u ++ T.u) = D2 := ⟨_, rfl⟩
              rw [hD2] at hDz hD0 hDu0
              have hDu := hDu0
              obtain ⟨U, hU⟩ : ∃ U, tx T.u = U := ⟨_, rfl⟩
              have hD := hD0
              rw [hU] at hD
              have hsum2 : data.size + U.size ≤ 9223372036854775807 := by rw [← hU, tx_size]; omega
              clear hDu0 hD0 hTu hdz
              cases hdn : T.md.isDone with
              | true =>
                obtain ⟨z, hzz⟩ : ∃ z, z = all.size - T.md.rest.length := ⟨_, rfl⟩
                have hsf := rest_suffix M (ls all) init rfl (by rw [hAr]; exact hdn)
                rw [hAr] at hsf
                have hex : all.extract z all.size = tx T.md.rest := by
                  obtain ⟨x, hx⟩ := hsf
                  have hx : ls all = x ++ T.md.rest := hx
                  have hl : all.size = x.length + T.md.rest.length := by rw [← ls_len, hx, List.length_append]
                  refine ls_inj ?_
                  rw [ls_extract, ls_tx, List.take_of_length_le (by rw [List.length_drop, ls_len]; exact Nat.le_refl _), hx, show z = x.length by omega, List.drop_left]
                have hzA : z ≤ all.size := by omega
                obtain ⟨U2, hrest⟩ : ∃ U2, tx T.md.rest = U2 := ⟨_, rfl⟩
                rw [hrest] at hex
                have sl : ∀ w, (Instr.slice 9 (.string all) (some (.int .i64 (z : Int))) none none).run Tryd.prog w = .ok (.string U2) w := fun w => by
                  have h := run_slice_string_from_if (P := Tryd.prog) (w := w) 9 all .i64 (z : Int) Tryd.underlying9
                  rw [if_pos ⟨by omega, by omega⟩, show ((z : Int)).toNat = z by omega, hex] at h
                  exact h
                clear hsf hex
                have hb2 : bodyOf (tx (R.u ++ T.u)) ⟨T.md, T.n, R.u ++ T.u⟩ all = bdV D2 true (z : Int) eT := by
                  show bdV (tx (R.u ++ T.u)) T.md.isDone (if T.md.isDone = true then ((all.size - T.md.rest.length : Nat) : Int) else 0) T.md.error = _
                  rw [hdn, hD2, HET.out, if_pos rfl, ← hzz]
                rw [hb2] at rd2
                clear hb2 hzz
                go_wp2_with fail
                refine rd2.mono ?_
                rintro e w5 ⟨rfl, f5⟩
                have O5 := O4.below f5
                clear O4 f5 rd2
                have A6 := At.new w5 27 (bdV ⟨#[]⟩ false 0 0)
                have S6 := bd_stores (d' := D2) (dn' := true) (sz' := (z : Int)) (er' := eT) A6
                have P6 := O5.box (bdV ⟨#[]⟩ false 0 0) (bdV D2 true (z : Int) eT)
                unfold bdV at A6 S6
                clear A6
                generalize hw6 : World.setRow _ w5.heap.size (bdV D2 true (z : Int) eT) = w6 at P6
                unfold bdV at hw6
                rw [hw6] at S6
                clear hw6 O5
                go_upto_region 16 with (refine wpl_store S6 rfl rfl rfl rfl rfl ?_)
                clear S6
                generalize w5.heap.size = p2 at P6 ⊢
                have tk := sole_take P6
                rw [hU] at tk
                go_wp2_with fail
                refine tk.mono ?_
                rintro e w7 ⟨rfl, O7⟩
                clear tk P6
                have A7 := O7.at_ _ (List.mem_cons_self)
                have c0 : w7.cell? ⟨p2, 0, none⟩ = some (.string D2) := A7.cell 0
                have c1 : w7.cell? ⟨p2, 1, none⟩ = some (.bool true) := A7.cell 1
                have c2 : w7.cell? ⟨p2, 2, none⟩ = some (.int .i64 (z : Int)) := A7.cell 2
                have c3 : w7.cell? ⟨p2, 3, none⟩ = some (.int .i64 eT) := A7.cell 3
                clear A7
                go_upto_region 20 with (fail)
                clear hsum2 hD c2 sl
                have O8 := O7.drew.drop
                have dC := sole_done O8
                have rC := sole_rest O8
                have sC := sole_size O8
                rw [show (taken T).md = T.md from rfl, hdn] at dC
                rw [show (taken T).md = T.md from rfl, hrest] at rC
                rw [show (taken T).n = T.n from rfl, hDz] at sC
                have q1 : (eT != eT) = false := by simp
                have q3 : ((D2.size : Int) != (D2.size : Int)) = false := by simp
                have sD := str_eq D2
                have sU := str_eq U2
                replace c0 : w7.drew.cell? ⟨p2, 0, none⟩ = some (.string D2) := c0
                replace c1 : w7.drew.cell? ⟨p2, 1, none⟩ = some (.bool true) := c1
                replace c3 : w7.drew.cell? ⟨p2, 3, none⟩ = some (.int .i64 eT) := c3
                refine wp_region_held (S := fun u => u = w7.drew) (by kernel_rfl) ?_
                change wpAnyH _ _ _ _ _ _ _ _ w7.drew
                clear O7
                generalize w7.drew = W at O8 dC rC sC c0 c1 c3 ⊢
                refine held_take 0 (.int .i64 eT) rfl (by kernel_rfl) (by kernel_rfl) (by kernel_rfl) (fun _ _ _ h => h) (Or.inl ⟨by rfl, fun x j => by go_simp⟩) rfl (fun K hK => ?_)
                go_simp
                refine hK _ _ ?_
                clear hK K
                refine held_take 1 (.pointer (some ⟨p2, 3, none⟩)) rfl (by kernel_rfl) (by kernel_rfl) (by kernel_rfl) (fun _ _ _ h => h) (Or.inl ⟨by rfl, fun x j => by go_simp⟩) rfl (fun K hK => ?_)
                go_simp
                refine hK _ _ ?_
                clear hK K
                refine held_take 2 (.int .i64 eT) rfl (by kernel_rfl) (by kernel_rfl) (by kernel_rfl) (fun _ _ _ h => h) (Or.inl ⟨by rfl, fun x j => by rw [j]; go_simp⟩) rfl (fun K hK => ?_)
                go_simp
                refine hK _ _ ?_
                clear hK K
                refine held_take 3 (.bool false) rfl (by kernel_rfl) (by kernel_rfl) (by kernel_rfl) (fun _ _ _ h => h) (Or.inl ⟨by rfl, fun x j => by go_simp⟩) rfl (fun K hK => ?_)
                go_simp
                refine hK _ _ ?_
                clear hK K
                refine held_take 4 (.bool false) rfl (by kernel_rfl) (by kernel_rfl) (by kernel_rfl) (fun _ _ _ h => h) (Or.inl ⟨by rfl, fun x j => by go_simp⟩) rfl (fun K hK => ?_)
                go_simp
                refine hK _ _ ?_
                clear hK K
                refine held_take 5 (.string D2) rfl (by kernel_rfl) (by kernel_rfl) (by kernel_rfl) (fun _ _ _ h => h) (Or.inl ⟨by rfl, fun x j => by go_simp⟩) rfl (fun K hK => ?_)
                go_simp
                refine hK _ _ ?_
                clear hK K
                refine held_take 6 (.pointer (some ⟨p2, 0, none⟩)) rfl (by kernel_rfl) (by kernel_rfl) (by kernel_rfl) (fun _ _ _ h => h) (Or.inl ⟨by rfl, fun x j => by go_simp⟩) rfl (fun K hK => ?_)
                go_simp
                refine hK _ _ ?_
                clear hK K
                refine held_take 7 (.string D2) rfl (by kernel_rfl) (by kernel_rfl) (by kernel_rfl) (fun _ _ _ h => h) (Or.inl ⟨by rfl, fun x j => by rw [j]; go_simp⟩) rfl (fun K hK => ?_)
                go_simp
                refine hK _ _ ?_
                clear hK K
                refine held_take 8 (.bool false) rfl (by kernel_rfl) (by kernel_rfl) (by kernel_rfl) (fun _ _ _ h => h) (Or.inl ⟨by rfl, fun x j => by go_simp⟩) rfl (fun K hK => ?_)
                go_simp
                refine hK _ _ ?_
                clear hK K
                refine held_take 9 (.bool false) rfl (by kernel_rfl) (by kernel_rfl) (by kernel_rfl) (fun _ _ _ h => h) (Or.inl ⟨by rfl, fun x j => by go_simp⟩) rfl (fun K hK => ?_)
                go_simp
                refine hK _ _ ?_
                clear hK K
                refine held_take 10 (.bool false) rfl (by kernel_rfl) (by kernel_rfl) (by kernel_rfl) (fun _ _ _ h => h) (Or.inl ⟨by rfl, fun x j => by go_simp⟩) rfl (fun K hK => ?_)
                go_simp
                refine hK _ _ ?_
                clear hK K
                refine held_take 11 (.pointer (some ⟨pc, 0, none⟩)) rfl (by kernel_rfl) (by kernel_rfl) (by kernel_rfl) (fun _ _ _ h => h) (Or.inl ⟨by rfl, fun x j => by go_simp⟩) rfl (fun K hK => ?_)
                go_simp
                refine hK _ _ ?_
                clear hK K
                refine held_take 13 (.pointer (some ⟨p2, 1, none⟩)) rfl (by kernel_rfl) (by kernel_rfl) (by kernel_rfl) (fun _ _ _ h => h) (Or.inl ⟨by rfl, fun x j => by go_simp⟩) rfl (fun K hK => ?_)
                go_simp
                refine hK _ _ ?_
                clear hK K
                refine held_take 14 (.bool true) rfl (by kernel_rfl) (by kernel_rfl) (by kernel_rfl) (fun _ _ _ h => h) (Or.inl ⟨by rfl, fun x j => by rw [j]; go_simp⟩) rfl (fun K hK => ?_)
                go_simp
                refine hK _ _ ?_
                clear hK K
                refine held_one 12 (by kernel_rfl) (fun K hK => wpOp_in rfl rfl ?_)
                go_simp
                refine dC.mono ?_
                rintro e wc ⟨rfl, rfl⟩
                refine hK _ _ rfl ?_
                clear hK K
                refine held_take 15 (.bool false) rfl (by kernel_rfl) (by kernel_rfl) (by kernel_rfl) (fun _ _ _ h => h) (Or.inl ⟨by rfl, fun x j => by go_simp⟩) rfl (fun K hK => ?_)
                go_simp
                refine hK _ _ ?_
                clear hK K
                refine held_take 16 (.bool false) rfl (by kernel_rfl) (by kernel_rfl) (by kernel_rfl) (fun _ _ _ h => h) (Or.inl ⟨by rfl, fun x j => by go_simp⟩) rfl (fun K hK => ?_)
                go_simp
                refine hK _ _ ?_
                clear hK K
                refine held_take 17 (.bool false) rfl (by kernel_rfl) (by kernel_rfl) (by kernel_rfl) (fun _ _ _ h => h) (Or.inl ⟨by rfl, fun x j => by go_simp⟩) rfl (fun K hK => ?_)
                go_simp
                refine hK _ _ ?_
                clear hK K
                refine held_take 18 (.pointer (some ⟨pc, 0, none⟩)) rfl (by kernel_rfl) (by kernel_rfl) (by kernel_rfl) (fun _ _ _ h => h) (Or.inl ⟨by rfl, fun x j => by go_simp⟩) rfl (fun K hK => ?_)
                go_simp
                refine hK _ _ ?_
                clear hK K
                refine held_take 20 (.string U2) rfl (by kernel_rfl) (by kernel_rfl) (by kernel_rfl) (fun _ _ _ h => h) (Or.inl ⟨by rfl, fun x j => by go_simp⟩) rfl (fun K hK => ?_)
                go_simp
                refine hK _ _ ?_
                clear hK K
                refine held_one 19 (by kernel_rfl) (fun K hK => wpOp_in rfl rfl ?_)
                go_simp
                refine rC.mono ?_
                rintro e wc ⟨rfl, rfl⟩
                refine hK _ _ rfl ?_
                clear hK K
                refine held_take 21 (.bool false) rfl (by kernel_rfl) (by kernel_rfl) (by kernel_rfl) (fun _ _ _ h => h) (Or.inl ⟨by rfl, fun x j => by go_simp⟩) rfl (fun K hK => ?_)
                go_simp
                refine hK _ _ ?_
                clear hK K
                refine held_take 22 (.bool false) rfl (by kernel_rfl) (by kernel_rfl) (by kernel_rfl) (fun _ _ _ h => h) (Or.inl ⟨by rfl, fun x j => by go_simp⟩) rfl (fun K hK => ?_)
                go_simp
                refine hK _ _ ?_
                clear hK K
                refine held_take 23 (.bool false) rfl (by kernel_rfl) (by kernel_rfl) (by kernel_rfl) (fun _ _ _ h => h) (Or.inl ⟨by rfl, fun x j => by go_simp⟩) rfl (fun K hK => ?_)
                go_simp
                refine hK _ _ ?_
                clear hK K
                refine held_take 24 (.pointer (some ⟨pc, 0, none⟩)) rfl (by kernel_rfl) (by kernel_rfl) (by kernel_rfl) (fun _ _ _ h => h) (Or.inl ⟨by rfl, fun x j => by go_simp⟩) rfl (fun K hK => ?_)
                go_simp
                refine hK _ _ ?_
                clear hK K
                refine held_take 26 (.pointer (some ⟨p2, 0, none⟩)) rfl (by kernel_rfl) (by kernel_rfl) (by kernel_rfl) (fun _ _ _ h => h) (Or.inl ⟨by rfl, fun x j => by go_simp⟩) rfl (fun K hK => ?_)
                go_simp
                refine hK _ _ ?_
                clear hK K
                refine held_take 27 (.string D2) rfl (by kernel_rfl) (by kernel_rfl) (by kernel_rfl) (fun _ _ _ h => h) (Or.inl ⟨by rfl, fun x j => by rw [j]; go_simp⟩) rfl (fun K hK => ?_)
                go_simp
                refine hK _ _ ?_
                clear hK K
                refine held_take 28 (.int .i64 (D2.size : Int)) rfl (by kernel_rfl) (by kernel_rfl) (by kernel_rfl) (fun _ _ _ h => h) (Or.inl ⟨by rfl, fun x j => by go_simp⟩) rfl (fun K hK => ?_)
                go_simp
                refine hK _ _ ?_
                clear hK K
                refine held_one 25 (by kernel_rfl) (fun K hK => wpOp_in rfl rfl ?_)
                go_simp
                refine sC.mono ?_
                rintro e wc ⟨rfl, rfl⟩
                refine hK _ _ rfl ?_
                clear hK K
                refine held_take 29 (.bool false) rfl (by kernel_rfl) (by kernel_rfl) (by kernel_rfl) (fun _ _ _ h => h) (Or.inl ⟨by rfl, fun x j => by go_simp⟩) rfl (fun K hK => ?_)
                go_simp
                refine hK _ _ ?_
                clear hK K
                refine held_take 30 (.bool false) rfl (by kernel_rfl) (by kernel_rfl) (by kernel_rfl) (fun _ _ _ h => h) (Or.inl ⟨by rfl, fun x j => by go_simp⟩) rfl (fun K hK => ?_)
                go_simp
                refine hK _ _ ?_
                clear hK K
                refine wpAnyH_done (by kernel_rfl) ?_ _
                clear dC rC sC c0 c1 c3
                go_wp2
                go_roundw
                case rel => exact ⟨all, D2, k + 1, rfl, rfl, by go_num, ⟨by omega, hAs, hDu, by rw [hAr]; exact O8⟩⟩
                case measure => simp [intOf]; omega
              | false =>
                have hrest : tx T.md.rest = ⟨#[]⟩ := by
                  have h : T.md.rest = [] := by
                    revert hdn
                    cases T.md <;> intro h <;> first | rfl | (cases h)
                  rw [h]; rfl
                have hb2 : bodyOf (tx (R.u ++ T.u)) ⟨T.md, T.n, R.u ++ T.u⟩ all = bdV D2 false 0 eT := by
                  show bdV (tx (R.u ++ T.u)) T.md.isDone (if T.md.isDone = true then ((all.size - T.md.rest.length : Nat) : Int) else 0) T.md.error = _
                  rw [hdn, hD2, HET.out]
                  rfl
                rw [hb2] at rd2
                clear hb2
                go_wp2_with fail
                refine rd2.mono ?_
                rintro e w5 ⟨rfl, f5⟩
                have O5 := O4.below f5
                clear O4 f5 rd2
                have A6 := At.new w5 27 (bdV ⟨#[]⟩ false 0 0)
                have S6 := bd_stores (d' := D2) (dn' := false) (sz' := 0) (er' := eT) A6
                have P6 := O5.box (bdV ⟨#[]⟩ false 0 0) (bdV D2 false 0 eT)
                unfold bdV at A6 S6
                clear A6
                generalize hw6 : World.setRow _ w5.heap.size (bdV D2 false 0 eT) = w6 at P6
                unfold bdV at hw6
                rw [hw6] at S6
                clear hw6 O5
                go_upto_region 16 with (refine wpl_store S6 rfl rfl rfl rfl rfl ?_)
                clear S6
                generalize w5.heap.size = p2 at P6 ⊢
                have tk := sole_take P6
                rw [hU] at tk
                go_wp2_with fail
                refine tk.mono ?_
                rintro e w7 ⟨rfl, O7⟩
                clear tk P6
                have A7 := O7.at_ _ (List.mem_cons_self)
                have c0 : w7.cell? ⟨p2, 0, none⟩ = some (.string D2) := A7.cell 0
                have c1 : w7.cell? ⟨p2, 1, none⟩ = some (.bool false) := A7.cell 1
                have c2 : w7.cell? ⟨p2, 2, none⟩ = some (.int .i64 0) := A7.cell 2
                have c3 : w7.cell? ⟨p2, 3, none⟩ = some (.int .i64 eT) := A7.cell 3
                clear A7
                go_upto_region 20 with (fail)
                clear hsum2 hD c2
                have O8 := O7.drew.drop
                have dC := sole_done O8
                have rC := sole_rest O8
                have sC := sole_size O8
                rw [show (taken T).md = T.md from rfl, hdn] at dC
                rw [show (taken T).md = T.md from rfl, hrest] at rC
                rw [show (taken T).n = T.n from rfl, hDz] at sC
                have q1 : (eT != eT) = false := by simp
                have q3 : ((D2.size : Int) != (D2.size : Int)) = false := by simp
                have sD := str_eq D2
                have sU : True := trivial
                replace c0 : w7.drew.cell? ⟨p2, 0, none⟩ = some (.string D2) := c0
                replace c1 : w7.drew.cell? ⟨p2, 1, none⟩ = some (.bool false) := c1
                replace c3 : w7.drew.cell? ⟨p2, 3, none⟩ = some (.int .i64 eT) := c3
                refine wp_region_held (S := fun u => u = w7.drew) (by kernel_rfl) ?_
                change wpAnyH _ _ _ _ _ _ _ _ w7.drew
                clear O7
                generalize w7.drew = W at O8 dC rC sC c0 c1 c3 ⊢
                refine held_take 0 (.int .i64 eT) rfl (by kernel_rfl) (by kernel_rfl) (by kernel_rfl) (fun _ _ _ h => h) (Or.inl ⟨by rfl, fun x j => by go_simp⟩) rfl (fun K hK => ?_)
                go_simp
                refine hK _ _ ?_
                clear hK K
                refine held_take 1 (.pointer (some ⟨p2, 3, none⟩)) rfl (by kernel_rfl) (by kernel_rfl) (by kernel_rfl) (fun _ _ _ h => h) (Or.inl ⟨by rfl, fun x j => by go_simp⟩) rfl (fun K hK => ?_)
                go_simp
                refine hK _ _ ?_
                clear hK K
                refine held_take 2 (.int .i64 eT) rfl (by kernel_rfl) (by kernel_rfl) (by kernel_rfl) (fun _ _ _ h => h) (Or.inl ⟨by rfl, fun x j => by rw [j]; go_simp⟩) rfl (fun K hK => ?_)
                go_simp
                refine hK _ _ ?_
                clear hK K
                refine held_take 3 (.bool false) rfl (by kernel_rfl) (by kernel_rfl) (by kernel_rfl) (fun _ _ _ h => h) (Or.inl ⟨by rfl, fun x j => by go_simp⟩) rfl (fun K hK => ?_)
                go_simp
                refine hK _ _ ?_
                clear hK K
                refine held_take 4 (.bool false) rfl (by kernel_rfl) (by kernel_rfl) (by kernel_rfl) (fun _ _ _ h => h) (Or.inl ⟨by rfl, fun x j => by go_simp⟩) rfl (fun K hK => ?_)
                go_simp
                refine hK _ _ ?_
                clear hK K
                refine held_take 5 (.string D2) rfl (by kernel_rfl) (by kernel_rfl) (by kernel_rfl) (fun _ _ _ h => h) (Or.inl ⟨by rfl, fun x j => by go_simp⟩) rfl (fun K hK => ?_)
                go_simp
                refine hK _ _ ?_
                clear hK K
                refine held_take 6 (.pointer (some ⟨p2, 0, none⟩)) rfl (by kernel_rfl) (by kernel_rfl) (by kernel_rfl) (fun _ _ _ h => h) (Or.inl ⟨by rfl, fun x j => by go_simp⟩) rfl (fun K hK => ?_)
                go_simp
                refine hK _ _ ?_
                clear hK K
                refine held_take 7 (.string D2) rfl (by kernel_rfl) (by kernel_rfl) (by kernel_rfl) (fun _ _ _ h => h) (Or.inl ⟨by rfl, fun x j => by rw [j]; go_simp⟩) rfl (fun K hK => ?_)
                go_simp
                refine hK _ _ ?_
                clear hK K
                refine held_take 8 (.bool false) rfl (by kernel_rfl) (by kernel_rfl) (by kernel_rfl) (fun _ _ _ h => h) (Or.inl ⟨by rfl, fun x j => by go_simp⟩) rfl (fun K hK => ?_)
                go_simp
                refine hK _ _ ?_
                clear hK K
                refine held_take 9 (.bool false) rfl (by kernel_rfl) (by kernel_rfl) (by kernel_rfl) (fun _ _ _ h => h) (Or.inl ⟨by rfl, fun x j => by go_simp⟩) rfl (fun K hK => ?_)
                go_simp
                refine hK _ _ ?_
                clear hK K
                refine held_take 10 (.bool false) rfl (by kernel_rfl) (by kernel_rfl) (by kernel_rfl) (fun _ _ _ h => h) (Or.inl ⟨by rfl, fun x j => by go_simp⟩) rfl (fun K hK => ?_)
                go_simp
                refine hK _ _ ?_
                clear hK K
                refine held_take 11 (.pointer (some ⟨pc, 0, none⟩)) rfl (by kernel_rfl) (by kernel_rfl) (by kernel_rfl) (fun _ _ _ h => h) (Or.inl ⟨by rfl, fun x j => by go_simp⟩) rfl (fun K hK => ?_)
                go_simp
                refine hK _ _ ?_
                clear hK K
                refine held_take 13 (.pointer (some ⟨p2, 1, none⟩)) rfl (by kernel_rfl) (by kernel_rfl) (by kernel_rfl) (fun _ _ _ h => h) (Or.inl ⟨by rfl, fun x j => by go_simp⟩) rfl (fun K hK => ?_)
                go_simp
                refine hK _ _ ?_
                clear hK K
                refine held_take 14 (.bool false) rfl (by kernel_rfl) (by kernel_rfl) (by kernel_rfl) (fun _ _ _ h => h) (Or.inl ⟨by rfl, fun x j => by rw [j]; go_simp⟩) rfl (fun K hK => ?_)
                go_simp
                refine hK _ _ ?_
                clear hK K
                refine held_one 12 (by kernel_rfl) (fun K hK => wpOp_in rfl rfl ?_)
                go_simp
                refine dC.mono ?_
                rintro e wc ⟨rfl, rfl⟩
                refine hK _ _ rfl ?_
                clear hK K
                refine held_take 15 (.bool false) rfl (by kernel_rfl) (by kernel_rfl) (by kernel_rfl) (fun _ _ _ h => h) (Or.inl ⟨by rfl, fun x j => by go_simp⟩) rfl (fun K hK => ?_)
                go_simp
                refine hK _ _ ?_
                clear hK K
                refine held_take 16 (.bool false) rfl (by kernel_rfl) (by kernel_rfl) (by kernel_rfl) (fun _ _ _ h => h) (Or.inl ⟨by rfl, fun x j => by go_simp⟩) rfl (fun K hK => ?_)
                go_simp
                refine hK _ _ ?_
                clear hK K
                refine held_take 17 (.bool false) rfl (by kernel_rfl) (by kernel_rfl) (by kernel_rfl) (fun _ _ _ h => h) (Or.inl ⟨by rfl, fun x j => by go_simp⟩) rfl (fun K hK => ?_)
                go_simp
                refine hK _ _ ?_
                clear hK K
                refine held_take 18 (.pointer (some ⟨pc, 0, none⟩)) rfl (by kernel_rfl) (by kernel_rfl) (by kernel_rfl) (fun _ _ _ h => h) (Or.inl ⟨by rfl, fun x j => by go_simp⟩) rfl (fun K hK => ?_)
                go_simp
                refine hK _ _ ?_
                clear hK K
                refine held_take 20 (.string ⟨#[]⟩) rfl (by kernel_rfl) (by kernel_rfl) (by kernel_rfl) (fun _ _ _ h => h) (Or.inl ⟨by rfl, fun x j => by go_simp⟩) rfl (fun K hK => ?_)
                go_simp
                refine hK _ _ ?_
                clear hK K
                refine held_one 19 (by kernel_rfl) (fun K hK => wpOp_in rfl rfl ?_)
                go_simp
                refine rC.mono ?_
                rintro e wc ⟨rfl, rfl⟩
                refine hK _ _ rfl ?_
                clear hK K
                refine held_take 21 (.bool false) rfl (by kernel_rfl) (by kernel_rfl) (by kernel_rfl) (fun _ _ _ h => h) (Or.inl ⟨by rfl, fun x j => by go_simp⟩) rfl (fun K hK => ?_)
                go_simp
                refine hK _ _ ?_
                clear hK K
                refine held_take 22 (.bool false) rfl (by kernel_rfl) (by kernel_rfl) (by kernel_rfl) (fun _ _ _ h => h) (Or.inl ⟨by rfl, fun x j => by go_simp⟩) rfl (fun K hK => ?_)
                go_simp
                refine hK _ _ ?_
                clear hK K
                refine held_take 23 (.bool false) rfl (by kernel_rfl) (by kernel_rfl) (by kernel_rfl) (fun _ _ _ h => h) (Or.inl ⟨by rfl, fun x j => by go_simp⟩) rfl (fun K hK => ?_)
                go_simp
                refine hK _ _ ?_
                clear hK K
                refine held_take 24 (.pointer (some ⟨pc, 0, none⟩)) rfl (by kernel_rfl) (by kernel_rfl) (by kernel_rfl) (fun _ _ _ h => h) (Or.inl ⟨by rfl, fun x j => by go_simp⟩) rfl (fun K hK => ?_)
                go_simp
                refine hK _ _ ?_
                clear hK K
                refine held_take 26 (.pointer (some ⟨p2, 0, none⟩)) rfl (by kernel_rfl) (by kernel_rfl) (by kernel_rfl) (fun _ _ _ h => h) (Or.inl ⟨by rfl, fun x j => by go_simp⟩) rfl (fun K hK => ?_)
                go_simp
                refine hK _ _ ?_
                clear hK K
                refine held_take 27 (.string D2) rfl (by kernel_rfl) (by kernel_rfl) (by kernel_rfl) (fun _ _ _ h => h) (Or.inl ⟨by rfl, fun x j => by rw [j]; go_simp⟩) rfl (fun K hK => ?_)
                go_simp
                refine hK _ _ ?_
                clear hK K
                refine held_take 28 (.int .i64 (D2.size : Int)) rfl (by kernel_rfl) (by kernel_rfl) (by kernel_rfl) (fun _ _ _ h => h) (Or.inl ⟨by rfl, fun x j => by go_simp⟩) rfl (fun K hK => ?_)
                go_simp
                refine hK _ _ ?_
                clear hK K
                refine held_one 25 (by kernel_rfl) (fun K hK => wpOp_in rfl rfl ?_)
                go_simp
                refine sC.mono ?_
                rintro e wc ⟨rfl, rfl⟩
                refine hK _ _ rfl ?_
                clear hK K
                refine held_take 29 (.bool false) rfl (by kernel_rfl) (by kernel_rfl) (by kernel_rfl) (fun _ _ _ h => h) (Or.inl ⟨by rfl, fun x j => by go_simp⟩) rfl (fun K hK => ?_)
                go_simp
                refine hK _ _ ?_
                clear hK K
                refine held_take 30 (.bool false) rfl (by kernel_rfl) (by kernel_rfl) (by kernel_rfl) (fun _ _ _ h => h) (Or.inl ⟨by rfl, fun x j => by go_simp⟩) rfl (fun K hK => ?_)
                go_simp
                refine hK _ _ ?_
                clear hK K
                refine wpAnyH_done (by kernel_rfl) ?_ _
                clear dC rC sC c0 c1 c3
                go_wp2
                go_roundw
                case rel => exact ⟨all, D2, k + 1, rfl, rfl, by go_num, ⟨by omega, hAs, hDu, by rw [hAr]; exact O8⟩⟩
                case measure => simp [intOf]; omega
      · have l2 : ¬ (k : Int) < 30 := by omega
        go_wp2
        go_ret
        exact ⟨rfl, I.own.bel⟩
    · have l1 : ¬ (k : Int) < (n : Int) := by omega
      go_wp2
      go_ret
      exact ⟨rfl, I.own.bel⟩
end Go.Proofs.YtjdfninaccaagaaDoor.Ch
