/-
  PlankRoom: behind every row of calls all files together have no more bytes than there is room for; as many as are told; a nil disk answers as the document says.
-/
import Derived.Test.YtkhlcmponfkccaaPkRoom
import Derived.OpenShut
import Derived.ProofKit
import Derived.ShutString
import Derived.Deep.Cut
import Derived.Laws.Bits64
import Derived.Laws.Cover1
import Derived.Laws.Strings
namespace Go.Proofs.Ytkhlcmponfkccaa.PkLawRoom
open Go.ChangeShapes Go.WideShapes Go.ChangeAt Go.RowKit Go.PlainAid Go.Proofs.Ytkhlcmponfkccaa.Pk
open Go.ChangeMaps (open_string shut_string)
set_option linter.unusedVariables false
set_option linter.unusedSimpArgs false

theorem rr_range (room : Int) : 0 ≤ wrap64 ((IntKind.u64.wrap room).tmod 3000) ∧ wrap64 ((IntKind.u64.wrap room).tmod 3000) < 3000 := by
  rw [IntKind.wrap_u64, Int.tmod_eq_emod_of_nonneg (by omega)]
  unfold wrap64
  omega
theorem less_before : ∀ x y : List UInt8, Op.bytesLess x y = bytesBefore x y
  | [], [] => rfl
  | [], _ :: _ => rfl
  | _ :: _, [] => rfl
  | a :: x, b :: y => by simp [Op.bytesLess, bytesBefore, less_before x y]
def Calm (W w : World) (p k : Nat) (r : Int) : Prop := ∃ D, HasD W w p D [] ∧ D.kd = 0 ∧ D.off = false ∧ D.ops ≤ (k : Int) ∧ D.room = r
theorem Calm.below {W w : World} {p k : Nat} {r : Int} (h : Calm W w p k r) : Below W.heap.size W w := by
  obtain ⟨D, hd, _⟩ := h
  exact hd.below
set_option maxRecDepth 100000 in
set_option maxHeartbeats 3000000 in
theorem walk {v1 : Value} (room : Int) (xs : List Ac) {W : World} (w0 : (Lit.int .i64 room).wf = true) (hv : ActsAt W v1 xs) (hl : xs.length ≤ 9223372036854775807) (W' : World) :
    Calls Try.prog 6 #[.int .i64 room, v1] W fun e w' => e = .returned (.bool true) ∧ Below W.heap.size W w' := by
  have AW := awake_any W
  have ST := Lib.hid fun w (hb : Below W.heap.size W w) r => has_new W hb r
  have TA : ∀ w, Below W.heap.size W w → True := fun _ _ => trivial
  obtain ⟨tb, tc, rfl, hc⟩ := hv.is
  have HC : ∀ k x, xs[k]? = some x → ∃ a : Addr, tb = some a ∧ ∀ w, Below W.heap.size W w → LoadsA Try.prog w 30 (a.add (k * 8)) x.cells := by
    intro k x hs
    obtain ⟨a, e, ha, hcell⟩ := hc k x hs
    exact ⟨a, e, fun w hb => loads_act fun i c hi => by rw [hb.cell (by rw [add_block, add_block]; exact ha)]; exact hcell i c hi⟩
  have CH := Lib.hid HC
  have OK := Lib.hid hv.ok
  have hz := zact
  have RR := rr_range room
  clear hv hc HC TA
  go_enter Try.func6, Try.ntmps6
  go_wp2_with fail
  refine AW.mono ?_
  rintro e w1 ⟨rfl, hb1⟩
  have ST1 := Lib.hid (ST.out w1 hb1)
  clear AW ST hb1
  go_wp2_with fail
  generalize wrap64 ((IntKind.u64.wrap room).tmod 3000) = rr at RR ⊢
  refine (ST1.out rr).mono ?_
  rintro e w2 ⟨p, rfl, h2⟩
  have C0 : Calm W w2 p 0 rr := ⟨_, h2, rfl, rfl, by simp [Dk.new], by simp [Dk.new]; omega⟩
  clear ST1 h2
  go_wp2
  go_loopw [7] (fun i wr => ∃ k : Nat, k ≤ 150 ∧ i = .int .i64 k ∧ Calm W wr p k rr) (fun i _ => 150 - (intOf i).toNat)
  case atStart => exact ⟨0, by omega, rfl, C0⟩
  case round =>
    obtain ⟨k, hk, rfl, CM⟩ := hrel
    clear C0
    have bel := CM.below
    by_cases hlt : k < xs.length
    · have l1 : (k : Int) < (xs.length : Int) := by omega
      by_cases h150 : k < 150
      · have l2 : (k : Int) < 150 := by omega
        obtain ⟨x, hs⟩ : ∃ x, xs[k]? = some x := ⟨xs[k], List.getElem?_eq_getElem hlt⟩
        obtain ⟨a, rfl, ca⟩ := CH.out k x hs
        have LA := ca wr bel
        have hx := OK.out x (List.mem_of_getElem? hs)
        obtain ⟨D, hd, d1, d2, d3, d4⟩ := CM
        obtain ⟨Y, S, hY, bY⟩ := box_act hd x
        have LB := act_loads (hY.at (List.mem_cons_self))
        have GR := Lib.hid fun w => great_any x w
        clear ca hs
        go_upto_region 9 with (first | refine wpl_loadA LA rfl rfl rfl ?_ | refine wpl_store S rfl rfl rfl rfl rfl ?_)
        clear S LA hd bY
        generalize wr.heap.size = B at *
        have GY := GR.out Y
        clear GR
        go_wp2_with (first | refine wpl_load LB rfl rfl rfl ?_)
        refine GY.mono ?_
        rintro e w3 ⟨rfl, hb3⟩
        clear GY LB
        have h3 := hY.kept hb3
        clear hY hb3
        cases hgr : x.great with
        | true =>
          have bel3 := h3.below
          clear h3
          go_wp2
          go_ret
          exact ⟨rfl, bel3⟩
        | false =>
          have LB := act_loads (h3.at (List.mem_cons_self))
          have DN := done_any h3 (by omega) x hx hgr
          obtain ⟨_, _, q3, q4, q5, q6⟩ := done_calm d1 d2 x
          generalize D.doneA x = r at *
          obtain ⟨r1, D7⟩ := r
          simp only at q3 q4 q5 q6 DN
          clear h3
          go_wp2_with (first | refine wpl_load LB rfl rfl rfl ?_)
          refine DN.mono ?_
          rintro e w7 ⟨rfl, h7⟩
          clear DN LB
          have LI := has_list h7
          go_wp2_with fail
          refine LI.mono ?_
          rintro e w8 ⟨v8, rfl, ⟨o8, c8, rfl, hnm⟩, h8, b8⟩
          clear LI h7
          have hok := h8.ok
          have us := hok.used
          have cn := hok.cnt
          have up := Lib.hid hok.up
          have nms := Lib.hid hok.names
          have CM : ∀ w, HasD W w p D7 [] → Calm W w p (k + 1) rr := fun w h => ⟨D7, h, q3, q4, by omega, by omega⟩
          have CMH := Lib.hid CM
          have NM := Lib.hid hnm
          have h9 := h8.none
          clear h8 CM hok q3 q4 hnm
          have b9 : Below w8.heap.size w8 w8 := Below.refl _ _
          go_wp2
          go_loopw [9, 11] (fun sm j wi => ∃ m : Nat, m ≤ D7.L.length ∧ j = .int .i64 m ∧ sm = .int .i64 (usedF (D7.L.take m) : Nat) ∧ HasD W wi p D7 [] ∧ Below w8.heap.size w8 wi) (fun _ j _ => D7.L.length - (intOf j).toNat)
          case atStart => exact ⟨0, Nat.zero_le _, rfl, rfl, h9, b9⟩
          case round =>
            obtain ⟨m, hm, rfl, rfl, hw, bw⟩ := hrel
            clear h9 b9
            by_cases hml : m < D7.L.length
            · have l3 : (m : Int) < (D7.L.length : Int) := by omega
              obtain ⟨f, hf⟩ : ∃ f, D7.L[m]? = some f := ⟨_, List.getElem?_eq_getElem hml⟩
              obtain ⟨g, rfl, gl, gs, gc⟩ := NM.out m f hf
              have fm : f ∈ D7.L := List.mem_of_getElem? hf
              obtain ⟨s1, s2, _⟩ := size_at up.out fm
              have nl : (⟨f.nm.toArray⟩ : ByteArray).size ≤ 9223372036854775807 := by
                have := nms.out f fm
                simp [isName] at this
                show f.nm.toArray.size ≤ _
                simp
                omega
              have CELL : ∀ x : World, Below w8.heap.size w8 x → x.cell? ⟨g, m, none⟩ = some (.string ⟨f.nm.toArray⟩) := fun x b => by
                rw [b.cell (by simpa using gs)]
                exact gc
              have SZ : ∀ x : World, HasD W x p D7 [] → Calls Try.prog 39 #[.pointer (some ⟨p, 0, none⟩), .string ⟨f.nm.toArray⟩] x fun e w' => e = .returned (.int .i64 (f.bs.length : Int)) ∧ x = w' := fun x h => by
                have := has_size h nl
                rw [show kl ⟨f.nm.toArray⟩ = f.nm from rfl, s1] at this
                exact this
              have BY : ∀ x : World, HasD W x p D7 [] → Calls Try.prog 38 #[.pointer (some ⟨p, 0, none⟩), .string ⟨f.nm.toArray⟩] x fun e w' => e = .returned (.string ⟨f.bs.toArray⟩) ∧ x = w' := fun x h => by
                have := has_bytes h nl
                rw [show kl ⟨f.nm.toArray⟩ = f.nm from rfl, s2] at this
                exact this
              have CELL := Lib.hid CELL
              have SZ := Lib.hid SZ
              have BY := Lib.hid BY
              have BSZ := Lib.hid (show (⟨f.bs.toArray⟩ : ByteArray).size = f.bs.length by show f.bs.toArray.size = _; simp)
              have us2 := used_take hf
              have us3 := used_take_le D7.L (m + 1)
              have us4 := hw.ok.room1
              have flt : f.bs.length ≤ usedF D7.L := mem_used fm
              have q1 : IntKind.i64.wrap ((usedF (D7.L.take m) : Int) + (f.bs.length : Int)) = (usedF (D7.L.take m) : Int) + (f.bs.length : Int) := IntWalk.i64_in _ (by omega)
              clear gc s1 s2 nl
              rcases m with _ | m0
              · clear us4
                go_upto_region 17 with (fail)
                refine wp_region_held (S := fun x => HasD W x p D7 [] ∧ Below w8.heap.size w8 x) (by kernel_rfl) ?_
                change wpAnyH _ _ _ _ _ _ _ _ wr.drew
                have j0 : HasD W wr.drew p D7 [] ∧ Below w8.heap.size w8 wr.drew := ⟨hw.drew, bw.drew⟩
                clear hw bw
                generalize wr.drew = wd at j0 ⊢
                refine held_take 0 (.int .i64 (0 : Int)) rfl (by kernel_rfl) (by kernel_rfl) (by kernel_rfl) (fun _ _ _ h => h) (Or.inl ⟨by rfl, fun x j => by go_simp⟩) j0 (fun K hK => ?_)
                go_simp
                refine hK _ _ ?_
                clear hK K
                refine held_take 1 (.bool false) rfl (by kernel_rfl) (by kernel_rfl) (by kernel_rfl) (fun _ _ _ h => h) (Or.inl ⟨by rfl, fun x j => by go_simp⟩) j0 (fun K hK => ?_)
                go_simp
                refine hK _ _ ?_
                clear hK K
                refine held_take 2 (.bool false) rfl (by kernel_rfl) (by kernel_rfl) (by kernel_rfl) (fun _ _ _ h => h) (Or.inl ⟨by rfl, fun x j => by go_simp⟩) j0 (fun K hK => ?_)
                go_simp
                refine hK _ _ ?_
                clear hK K
                refine held_take 3 (undef) rfl (by kernel_rfl) (by kernel_rfl) (by kernel_rfl) (fun _ _ _ h => h) (Or.inr ⟨by rfl, rfl⟩) j0 (fun K hK => ?_)
                go_simp
                refine hK _ _ ?_
                clear hK K
                refine held_take 4 (undef) rfl (by kernel_rfl) (by kernel_rfl) (by kernel_rfl) (fun _ _ _ h => h) (Or.inr ⟨by rfl, rfl⟩) j0 (fun K hK => ?_)
                go_simp
                refine hK _ _ ?_
                clear hK K
                refine held_take 5 (undef) rfl (by kernel_rfl) (by kernel_rfl) (by kernel_rfl) (fun _ _ _ h => h) (Or.inr ⟨by rfl, rfl⟩) j0 (fun K hK => ?_)
                go_simp
                refine hK _ _ ?_
                clear hK K
                refine held_take 6 (undef) rfl (by kernel_rfl) (by kernel_rfl) (by kernel_rfl) (fun _ _ _ h => h) (Or.inr ⟨by rfl, rfl⟩) j0 (fun K hK => ?_)
                go_simp
                refine hK _ _ ?_
                clear hK K
                refine held_take 7 (undef) rfl (by kernel_rfl) (by kernel_rfl) (by kernel_rfl) (fun _ _ _ h => h) (Or.inr ⟨by rfl, rfl⟩) j0 (fun K hK => ?_)
                go_simp
                refine hK _ _ ?_
                clear hK K
                refine held_take 8 (undef) rfl (by kernel_rfl) (by kernel_rfl) (by kernel_rfl) (fun _ _ _ h => h) (Or.inr ⟨by rfl, rfl⟩) j0 (fun K hK => ?_)
                go_simp
                refine hK _ _ ?_
                clear hK K
                refine held_take 9 (undef) rfl (by kernel_rfl) (by kernel_rfl) (by kernel_rfl) (fun _ _ _ h => h) (Or.inr ⟨by rfl, rfl⟩) j0 (fun K hK => ?_)
                go_simp
                refine hK _ _ ?_
                clear hK K
                refine held_take 10 (undef) rfl (by kernel_rfl) (by kernel_rfl) (by kernel_rfl) (fun _ _ _ h => h) (Or.inr ⟨by rfl, rfl⟩) j0 (fun K hK => ?_)
                go_simp
                refine hK _ _ ?_
                clear hK K
                refine held_take 11 (undef) rfl (by kernel_rfl) (by kernel_rfl) (by kernel_rfl) (fun _ _ _ h => h) (Or.inr ⟨by rfl, rfl⟩) j0 (fun K hK => ?_)
                go_simp
                refine hK _ _ ?_
                clear hK K
                refine held_take 12 (undef) rfl (by kernel_rfl) (by kernel_rfl) (by kernel_rfl) (fun _ _ _ h => h) (Or.inr ⟨by rfl, rfl⟩) j0 (fun K hK => ?_)
                go_simp
                refine hK _ _ ?_
                clear hK K
                refine held_take 13 (.bool false) rfl (by kernel_rfl) (by kernel_rfl) (by kernel_rfl) (fun _ _ _ h => h) (Or.inl ⟨by rfl, fun x j => by go_simp⟩) j0 (fun K hK => ?_)
                go_simp
                refine hK _ _ ?_
                clear hK K
                refine held_take 14 (.bool false) rfl (by kernel_rfl) (by kernel_rfl) (by kernel_rfl) (fun _ _ _ h => h) (Or.inl ⟨by rfl, fun x j => by go_simp⟩) j0 (fun K hK => ?_)
                go_simp
                refine hK _ _ ?_
                clear hK K
                refine held_take 15 (.pointer (some ⟨p, 0, none⟩)) rfl (by kernel_rfl) (by kernel_rfl) (by kernel_rfl) (fun _ _ _ h => h) (Or.inl ⟨by rfl, fun x j => by go_simp⟩) j0 (fun K hK => ?_)
                go_simp
                refine hK _ _ ?_
                clear hK K
                refine held_take 16 (.slice (some ⟨g, 0, none⟩) D7.L.length c8) rfl (by kernel_rfl) (by kernel_rfl) (by kernel_rfl) (fun _ _ _ h => h) (Or.inl ⟨by rfl, fun x j => by go_simp⟩) j0 (fun K hK => ?_)
                go_simp
                refine hK _ _ ?_
                clear hK K
                refine held_take 17 (.int .i64 (0 : Int)) rfl (by kernel_rfl) (by kernel_rfl) (by kernel_rfl) (fun _ _ _ h => h) (Or.inl ⟨by rfl, fun x j => by go_simp⟩) j0 (fun K hK => ?_)
                go_simp
                refine hK _ _ ?_
                clear hK K
                refine held_take 18 (.pointer (some ⟨g, 0, none⟩)) rfl (by kernel_rfl) (by kernel_rfl) (by kernel_rfl) (fun _ _ _ h => h) (Or.inl ⟨by rfl, fun x j => by go_simp⟩) j0 (fun K hK => ?_)
                go_simp
                refine hK _ _ ?_
                clear hK K
                refine held_take 19 (.string ⟨f.nm.toArray⟩) rfl (by kernel_rfl) (by kernel_rfl) (by kernel_rfl) (fun _ _ _ h => h) (Or.inl ⟨by rfl, fun x j => by have c0 := CELL.out x j.2; go_simp⟩) j0 (fun K hK => ?_)
                go_simp
                refine hK _ _ ?_
                clear hK K
                refine held_take 21 (.pointer (some ⟨p, 0, none⟩)) rfl (by kernel_rfl) (by kernel_rfl) (by kernel_rfl) (fun _ _ _ h => h) (Or.inl ⟨by rfl, fun x j => by go_simp⟩) j0 (fun K hK => ?_)
                go_simp
                refine hK _ _ ?_
                clear hK K
                refine held_take 22 (.slice (some ⟨g, 0, none⟩) D7.L.length c8) rfl (by kernel_rfl) (by kernel_rfl) (by kernel_rfl) (fun _ _ _ h => h) (Or.inl ⟨by rfl, fun x j => by go_simp⟩) j0 (fun K hK => ?_)
                go_simp
                refine hK _ _ ?_
                clear hK K
                refine held_take 23 (.int .i64 (0 : Int)) rfl (by kernel_rfl) (by kernel_rfl) (by kernel_rfl) (fun _ _ _ h => h) (Or.inl ⟨by rfl, fun x j => by go_simp⟩) j0 (fun K hK => ?_)
                go_simp
                refine hK _ _ ?_
                clear hK K
                refine held_take 24 (.pointer (some ⟨g, 0, none⟩)) rfl (by kernel_rfl) (by kernel_rfl) (by kernel_rfl) (fun _ _ _ h => h) (Or.inl ⟨by rfl, fun x j => by go_simp⟩) j0 (fun K hK => ?_)
                go_simp
                refine hK _ _ ?_
                clear hK K
                refine held_take 25 (.string ⟨f.nm.toArray⟩) rfl (by kernel_rfl) (by kernel_rfl) (by kernel_rfl) (fun _ _ _ h => h) (Or.inl ⟨by rfl, fun x j => by have c0 := CELL.out x j.2; go_simp⟩) j0 (fun K hK => ?_)
                go_simp
                refine hK _ _ ?_
                clear hK K
                refine held_one 20 (by kernel_rfl) (fun K hK => wpOp_in rfl rfl ?_)
                go_simp
                refine (SZ.out _ j0.1).mono ?_
                rintro e w' ⟨rfl, rfl⟩
                refine hK _ _ j0 ?_
                clear hK K
                refine held_one 26 (by kernel_rfl) (fun K hK => wpOp_in rfl rfl ?_)
                go_simp
                refine (BY.out _ j0.1).mono ?_
                rintro e w' ⟨rfl, rfl⟩
                refine hK _ _ j0 ?_
                clear hK K
                refine held_take 27 (.int .i64 (f.bs.length : Int)) rfl (by kernel_rfl) (by kernel_rfl) (by kernel_rfl) (fun _ _ _ h => h) (Or.inl ⟨by rfl, fun x j => by have z0 := BSZ.out; go_simp⟩) j0 (fun K hK => ?_)
                go_simp
                refine hK _ _ ?_
                clear hK K
                refine held_take 28 (.bool false) rfl (by kernel_rfl) (by kernel_rfl) (by kernel_rfl) (fun _ _ _ h => h) (Or.inl ⟨by rfl, fun x j => by go_simp⟩) j0 (fun K hK => ?_)
                go_simp
                refine hK _ _ ?_
                clear hK K
                refine held_take 29 (.bool false) rfl (by kernel_rfl) (by kernel_rfl) (by kernel_rfl) (fun _ _ _ h => h) (Or.inl ⟨by rfl, fun x j => by go_simp⟩) j0 (fun K hK => ?_)
                go_simp
                refine hK _ _ ?_
                clear hK K
                refine wpAnyH_done (by kernel_rfl) ?_ _
                go_upto_region 19 with (fail)
                have cw := CELL.out wd j0.2
                have SZ2 := SZ.out wd j0.1
                go_wp2_with fail
                refine SZ2.mono ?_
                rintro e w' ⟨rfl, rfl⟩
                clear SZ2
                go_wp2
                go_roundw
                case rel => exact ⟨0 + 1, by omega, by go_num, by rw [us2]; first | go_num | (simp; exact IntWalk.wrap64_in _ (by simp only [usedF]; omega)), j0.1, j0.2⟩
                case measure => simp [intOf]; omega
              · have f0 : ∃ f0, D7.L[m0]? = some f0 := ⟨_, List.getElem?_eq_getElem (by omega)⟩
                obtain ⟨f0, hf0⟩ := f0
                obtain ⟨g', e', _, _, gc0⟩ := NM.out m0 f0 hf0
                obtain rfl : g = g' := by injection e' with e'; injection e'
                have CEL0 : ∀ x : World, Below w8.heap.size w8 x → x.cell? ⟨g, m0, none⟩ = some (.string ⟨f0.nm.toArray⟩) := fun x b => by
                  rw [b.cell (by simpa using gs)]
                  exact gc0
                have CEL0 := Lib.hid CEL0
                have lss : Op.bytesLess (ByteArray.toList ⟨f0.nm.toArray⟩) (ByteArray.toList ⟨f.nm.toArray⟩) = true := by
                  rw [ByteArray.toList_eq, ByteArray.toList_eq, less_before]
                  exact up_at up.out hf0 hf
                have l4 : (0 : Int) < ((m0 + 1 : Nat) : Int) := by omega
                have l5 : ((m0 + 1 : Nat) : Int) - 1 = (m0 : Int) := by omega
                have l6 : (m0 : Int) < (D7.L.length : Int) := by omega
                have l7 : IntKind.i64.wrap (m0 : Int) = (m0 : Int) := IntWalk.i64_in _ (by omega)
                have l8 : ¬ (m0 : Int) + 1 < 0 := by omega
                have lss2 : Op.bytesLess f0.nm f.nm = true := by
                  rw [less_before]
                  exact up_at up.out hf0 hf
                clear us4 gc0 e'
                go_upto_region 17 with (fail)
                refine wp_region_held (S := fun x => HasD W x p D7 [] ∧ Below w8.heap.size w8 x) (by kernel_rfl) ?_
                change wpAnyH _ _ _ _ _ _ _ _ wr.drew
                have j0 : HasD W wr.drew p D7 [] ∧ Below w8.heap.size w8 wr.drew := ⟨hw.drew, bw.drew⟩
                clear hw bw
                generalize wr.drew = wd at j0 ⊢
                refine held_take 0 (.int .i64 ((m0 + 1 : Nat) : Int)) rfl (by kernel_rfl) (by kernel_rfl) (by kernel_rfl) (fun _ _ _ h => h) (Or.inl ⟨by rfl, fun x j => by go_simp⟩) j0 (fun K hK => ?_)
                go_simp
                refine hK _ _ ?_
                clear hK K
                refine held_take 1 (.bool true) rfl (by kernel_rfl) (by kernel_rfl) (by kernel_rfl) (fun _ _ _ h => h) (Or.inl ⟨by rfl, fun x j => by go_simp⟩) j0 (fun K hK => ?_)
                go_simp
                refine hK _ _ ?_
                clear hK K
                refine held_take 2 (.bool true) rfl (by kernel_rfl) (by kernel_rfl) (by kernel_rfl) (fun _ _ _ h => h) (Or.inl ⟨by rfl, fun x j => by go_simp⟩) j0 (fun K hK => ?_)
                go_simp
                refine hK _ _ ?_
                clear hK K
                refine held_take 3 (.slice (some ⟨g, 0, none⟩) D7.L.length c8) rfl (by kernel_rfl) (by kernel_rfl) (by kernel_rfl) (fun _ _ _ h => h) (Or.inl ⟨by rfl, fun x j => by go_simp⟩) j0 (fun K hK => ?_)
                go_simp
                refine hK _ _ ?_
                clear hK K
                refine held_take 4 (.int .i64 ((m0 + 1 : Nat) : Int)) rfl (by kernel_rfl) (by kernel_rfl) (by kernel_rfl) (fun _ _ _ h => h) (Or.inl ⟨by rfl, fun x j => by go_simp⟩) j0 (fun K hK => ?_)
                go_simp
                refine hK _ _ ?_
                clear hK K
                refine held_take 5 (.int .i64 (m0 : Int)) rfl (by kernel_rfl) (by kernel_rfl) (by kernel_rfl) (fun _ _ _ h => h) (Or.inl ⟨by rfl, fun x j => by go_simp⟩) j0 (fun K hK => ?_)
                go_simp
                refine hK _ _ ?_
                clear hK K
                refine held_take 6 (.pointer (some ⟨g, m0, none⟩)) rfl (by kernel_rfl) (by kernel_rfl) (by kernel_rfl) (fun _ _ _ h => h) (Or.inl ⟨by rfl, fun x j => by go_simp⟩) j0 (fun K hK => ?_)
                go_simp
                refine hK _ _ ?_
                clear hK K
                refine held_take 7 (.string ⟨f0.nm.toArray⟩) rfl (by kernel_rfl) (by kernel_rfl) (by kernel_rfl) (fun _ _ _ h => h) (Or.inl ⟨by rfl, fun x j => by have c0 := CEL0.out x j.2; go_simp⟩) j0 (fun K hK => ?_)
                go_simp
                refine hK _ _ ?_
                clear hK K
                refine held_take 8 (.slice (some ⟨g, 0, none⟩) D7.L.length c8) rfl (by kernel_rfl) (by kernel_rfl) (by kernel_rfl) (fun _ _ _ h => h) (Or.inl ⟨by rfl, fun x j => by go_simp⟩) j0 (fun K hK => ?_)
                go_simp
                refine hK _ _ ?_
                clear hK K
                refine held_take 9 (.int .i64 ((m0 + 1 : Nat) : Int)) rfl (by kernel_rfl) (by kernel_rfl) (by kernel_rfl) (fun _ _ _ h => h) (Or.inl ⟨by rfl, fun x j => by go_simp⟩) j0 (fun K hK => ?_)
                go_simp
                refine hK _ _ ?_
                clear hK K
                refine held_take 10 (.pointer (some ⟨g, m0 + 1, none⟩)) rfl (by kernel_rfl) (by kernel_rfl) (by kernel_rfl) (fun _ _ _ h => h) (Or.inl ⟨by rfl, fun x j => by go_simp⟩) j0 (fun K hK => ?_)
                go_simp
                refine hK _ _ ?_
                clear hK K
                refine held_take 11 (.string ⟨f.nm.toArray⟩) rfl (by kernel_rfl) (by kernel_rfl) (by kernel_rfl) (fun _ _ _ h => h) (Or.inl ⟨by rfl, fun x j => by have c0 := CELL.out x j.2; go_simp⟩) j0 (fun K hK => ?_)
                go_simp
                refine hK _ _ ?_
                clear hK K
                refine held_take 12 (.bool false) rfl (by kernel_rfl) (by kernel_rfl) (by kernel_rfl) (fun _ _ _ h => h) (Or.inl ⟨by rfl, fun x j => by go_simp⟩) j0 (fun K hK => ?_)
                go_simp
                refine hK _ _ ?_
                clear hK K
                refine held_take 13 (.bool false) rfl (by kernel_rfl) (by kernel_rfl) (by kernel_rfl) (fun _ _ _ h => h) (Or.inl ⟨by rfl, fun x j => by go_simp⟩) j0 (fun K hK => ?_)
                go_simp
                refine hK _ _ ?_
                clear hK K
                refine held_take 14 (.bool false) rfl (by kernel_rfl) (by kernel_rfl) (by kernel_rfl) (fun _ _ _ h => h) (Or.inl ⟨by rfl, fun x j => by go_simp⟩) j0 (fun K hK => ?_)
                go_simp
                refine hK _ _ ?_
                clear hK K
                refine held_take 15 (.pointer (some ⟨p, 0, none⟩)) rfl (by kernel_rfl) (by kernel_rfl) (by kernel_rfl) (fun _ _ _ h => h) (Or.inl ⟨by rfl, fun x j => by go_simp⟩) j0 (fun K hK => ?_)
                go_simp
                refine hK _ _ ?_
                clear hK K
                refine held_take 16 (.slice (some ⟨g, 0, none⟩) D7.L.length c8) rfl (by kernel_rfl) (by kernel_rfl) (by kernel_rfl) (fun _ _ _ h => h) (Or.inl ⟨by rfl, fun x j => by go_simp⟩) j0 (fun K hK => ?_)
                go_simp
                refine hK _ _ ?_
                clear hK K
                refine held_take 17 (.int .i64 ((m0 + 1 : Nat) : Int)) rfl (by kernel_rfl) (by kernel_rfl) (by kernel_rfl) (fun _ _ _ h => h) (Or.inl ⟨by rfl, fun x j => by go_simp⟩) j0 (fun K hK => ?_)
                go_simp
                refine hK _ _ ?_
                clear hK K
                refine held_take 18 (.pointer (some ⟨g, m0 + 1, none⟩)) rfl (by kernel_rfl) (by kernel_rfl) (by kernel_rfl) (fun _ _ _ h => h) (Or.inl ⟨by rfl, fun x j => by go_simp⟩) j0 (fun K hK => ?_)
                go_simp
                refine hK _ _ ?_
                clear hK K
                refine held_take 19 (.string ⟨f.nm.toArray⟩) rfl (by kernel_rfl) (by kernel_rfl) (by kernel_rfl) (fun _ _ _ h => h) (Or.inl ⟨by rfl, fun x j => by have c0 := CELL.out x j.2; go_simp⟩) j0 (fun K hK => ?_)
                go_simp
                refine hK _ _ ?_
                clear hK K
                refine held_take 21 (.pointer (some ⟨p, 0, none⟩)) rfl (by kernel_rfl) (by kernel_rfl) (by kernel_rfl) (fun _ _ _ h => h) (Or.inl ⟨by rfl, fun x j => by go_simp⟩) j0 (fun K hK => ?_)
                go_simp
                refine hK _ _ ?_
                clear hK K
                refine held_take 22 (.slice (some ⟨g, 0, none⟩) D7.L.length c8) rfl (by kernel_rfl) (by kernel_rfl) (by kernel_rfl) (fun _ _ _ h => h) (Or.inl ⟨by rfl, fun x j => by go_simp⟩) j0 (fun K hK => ?_)
                go_simp
                refine hK _ _ ?_
                clear hK K
                refine held_take 23 (.int .i64 ((m0 + 1 : Nat) : Int)) rfl (by kernel_rfl) (by kernel_rfl) (by kernel_rfl) (fun _ _ _ h => h) (Or.inl ⟨by rfl, fun x j => by go_simp⟩) j0 (fun K hK => ?_)
                go_simp
                refine hK _ _ ?_
                clear hK K
                refine held_take 24 (.pointer (some ⟨g, m0 + 1, none⟩)) rfl (by kernel_rfl) (by kernel_rfl) (by kernel_rfl) (fun _ _ _ h => h) (Or.inl ⟨by rfl, fun x j => by go_simp⟩) j0 (fun K hK => ?_)
                go_simp
                refine hK _ _ ?_
                clear hK K
                refine held_take 25 (.string ⟨f.nm.toArray⟩) rfl (by kernel_rfl) (by kernel_rfl) (by kernel_rfl) (fun _ _ _ h => h) (Or.inl ⟨by rfl, fun x j => by have c0 := CELL.out x j.2; go_simp⟩) j0 (fun K hK => ?_)
                go_simp
                refine hK _ _ ?_
                clear hK K
                refine held_one 20 (by kernel_rfl) (fun K hK => wpOp_in rfl rfl ?_)
                go_simp
                refine (SZ.out _ j0.1).mono ?_
                rintro e w' ⟨rfl, rfl⟩
                refine hK _ _ j0 ?_
                clear hK K
                refine held_one 26 (by kernel_rfl) (fun K hK => wpOp_in rfl rfl ?_)
                go_simp
                refine (BY.out _ j0.1).mono ?_
                rintro e w' ⟨rfl, rfl⟩
                refine hK _ _ j0 ?_
                clear hK K
                refine held_take 27 (.int .i64 (f.bs.length : Int)) rfl (by kernel_rfl) (by kernel_rfl) (by kernel_rfl) (fun _ _ _ h => h) (Or.inl ⟨by rfl, fun x j => by have z0 := BSZ.out; go_simp⟩) j0 (fun K hK => ?_)
                go_simp
                refine hK _ _ ?_
                clear hK K
                refine held_take 28 (.bool false) rfl (by kernel_rfl) (by kernel_rfl) (by kernel_rfl) (fun _ _ _ h => h) (Or.inl ⟨by rfl, fun x j => by go_simp⟩) j0 (fun K hK => ?_)
                go_simp
                refine hK _ _ ?_
                clear hK K
                refine held_take 29 (.bool false) rfl (by kernel_rfl) (by kernel_rfl) (by kernel_rfl) (fun _ _ _ h => h) (Or.inl ⟨by rfl, fun x j => by go_simp⟩) j0 (fun K hK => ?_)
                go_simp
                refine hK _ _ ?_
                clear hK K
                refine wpAnyH_done (by kernel_rfl) ?_ _
                go_upto_region 19 with (fail)
                have cw := CELL.out wd j0.2
                have SZ2 := SZ.out wd j0.1
                go_wp2_with fail
                refine SZ2.mono ?_
                rintro e w' ⟨rfl, rfl⟩
                clear SZ2
                go_wp2
                go_roundw
                case rel => exact ⟨m0 + 1 + 1, by omega, by go_num, by rw [us2]; first | go_num | (simp; exact IntWalk.wrap64_in _ (by simp only [usedF]; omega)), j0.1, j0.2⟩
                case measure => simp [intOf]; omega
            · have l3 : ¬ (m : Int) < (D7.L.length : Int) := by omega
              have et : D7.L.take m = D7.L := List.take_of_length_le (by omega)
              rw [et]
              have US := has_used hw
              go_wp2_with fail
              refine US.mono ?_
              rintro e wz ⟨rfl, hz', _⟩
              clear US
              have l5 : ¬ rr < (usedF D7.L : Int) := by omega
              have l6 : ¬ (200 : Int) < (D7.L.length : Int) := by omega
              have CM := CMH.out wz hz'
              clear hw hz' bw
              go_wp2
              go_roundw
              case rel => exact ⟨k + 1, by omega, by go_num, CM⟩
              case measure => simp [intOf]; omega
      · have l2 : ¬ (k : Int) < 150 := by omega
        clear CM
        go_wp2_with fail
        refine (read_nil (s := ⟨#[102]⟩) (by decide) rfl _).mono ?_
        rintro e wn0 ⟨rfl, bn⟩
        have bel := bel.trans (bn.mono bel.size)
        clear bn
        go_wp2_with fail
        refine (create_nil (s := ⟨#[102]⟩) (by decide) _).mono ?_
        rintro e wn1 ⟨rfl, bn⟩
        have bel := bel.trans (bn.mono bel.size)
        clear bn
        go_wp2_with fail
        refine (lay_nil _ _ _).mono ?_
        rintro e w' ⟨rfl, rfl⟩
        go_wp2_with fail
        refine (down_nil _).mono ?_
        rintro e w' ⟨rfl, rfl⟩
        go_wp2_with fail
        refine (size_nil _ _).mono ?_
        rintro e w' ⟨rfl, rfl⟩
        go_wp2_with fail
        refine (used_nil _).mono ?_
        rintro e w' ⟨rfl, rfl⟩
        go_wp2_with fail
        refine (ops_nil _).mono ?_
        rintro e w' ⟨rfl, rfl⟩
        go_wp2_with fail
        refine (safe_nil _ _).mono ?_
        rintro e w' ⟨rfl, rfl⟩
        go_wp2_with fail
        refine (list_nil _).mono ?_
        rintro e w' ⟨rfl, rfl⟩
        go_wp2_with fail
        refine (flip_nil _ _ _ _).mono ?_
        rintro e w' ⟨rfl, rfl⟩
        go_wp2
        go_ret
        exact ⟨rfl, bel⟩
    · have l1 : ¬ (k : Int) < (xs.length : Int) := by omega
      clear CM
      go_wp2_with fail
      refine (read_nil (s := ⟨#[102]⟩) (by decide) rfl _).mono ?_
      rintro e wn0 ⟨rfl, bn⟩
      have bel := bel.trans (bn.mono bel.size)
      clear bn
      go_wp2_with fail
      refine (create_nil (s := ⟨#[102]⟩) (by decide) _).mono ?_
      rintro e wn1 ⟨rfl, bn⟩
      have bel := bel.trans (bn.mono bel.size)
      clear bn
      go_wp2_with fail
      refine (lay_nil _ _ _).mono ?_
      rintro e w' ⟨rfl, rfl⟩
      go_wp2_with fail
      refine (down_nil _).mono ?_
      rintro e w' ⟨rfl, rfl⟩
      go_wp2_with fail
      refine (size_nil _ _).mono ?_
      rintro e w' ⟨rfl, rfl⟩
      go_wp2_with fail
      refine (used_nil _).mono ?_
      rintro e w' ⟨rfl, rfl⟩
      go_wp2_with fail
      refine (ops_nil _).mono ?_
      rintro e w' ⟨rfl, rfl⟩
      go_wp2_with fail
      refine (safe_nil _ _).mono ?_
      rintro e w' ⟨rfl, rfl⟩
      go_wp2_with fail
      refine (list_nil _).mono ?_
      rintro e w' ⟨rfl, rfl⟩
      go_wp2_with fail
      refine (flip_nil _ _ _ _).mono ?_
      rintro e w' ⟨rfl, rfl⟩
      go_wp2
      go_ret
      exact ⟨rfl, bel⟩
theorem own : ownKnob Try.prog.godebug = none := by kernel_rfl

theorem laidOut : laidOutB Try.prog = true := by kernel_rfl
set_option maxRecDepth 100000 in
theorem lifted (os : Os) (started : os.Started) (H : Type) (enc : TypeId × Value → H) :
    ReturnsInHanded {} Try.checked os 6 .any (Rows.plankRoomSpec.pre6 enc Try.prog Try.f6 Rows.plankRoomRow.domain false) (Rows.plankRoomSpec.post enc Try.prog Try.f6 false true false false) := by
  refine returnsInHanded_of_change (C := Try.checked) own started (by kernel_rfl) Try.func6
    (ChangeSpec.witness6 (enc := enc) (C := Try.checked) false ⟨#[], #[.int .i64 0, .slice none 0 0], []⟩ 8 (by kernel_rfl) (by kernel_rfl) (by kernel_rfl) (by kernel_rfl)) ?_
  intro W base args ds gs before hval0 hW hcnd _
  have hval : ∀ (j : Nat) t v, Try.f6.params[j]? = some t → args[j]? = some v → Value.okWide Try.prog W .any base t v := hval0
  have hW' := hW
  obtain ⟨p, q, hA0, hV, rfl, hfz, hnd⟩ := hW
  have hA : DataW.TrodAll enc Try.prog W 0 (fun _ => true) true Try.f6.params.toList args.toList ds p := hA0
  rw [Try.params6] at hA hval
  obtain ⟨v0, vs0, d0, ds0, p0, q0, hargs, rfl, rfl, h0, r0⟩ := trodAll_cons hA
  obtain ⟨v1, vs1, d1, ds1, p1, q1, rfl, rfl, rfl, h1, r1⟩ := trodAll_cons r0
  obtain ⟨rfl, rfl, rfl⟩ := trodAll_nil r1
  obtain rfl : args = #[v0, v1] := by cases args; simp_all
  obtain ⟨rfl, rfl⟩ := trodVars_none hV
  obtain ⟨a0, rfl, rfl, rfl, w0⟩ := open_int Try.underlying3 (hval 0 3 v0 rfl rfl) h0
  obtain ⟨b1, len1, cap1, rfl⟩ := okWide_slice Try.underlying22 (hval 1 22 v1 rfl rfl)
  have hlt1 : ∀ x ∈ p1, x.block < W.heap.size := fun x hx => by simpa using hW'.lt x (by simp [hx])
  have hS1 : ∃ l : List Ac, ActsAt W (.slice b1 len1 cap1) l ∧ l.length ≤ 9223372036854775807 := by
    obtain ⟨fuel, hf⟩ := h1
    exact open_acts hf
  obtain ⟨a1, w1, y1⟩ := hS1
  clear hA0 hval0
  simp only [List.append_nil] at hW'
  refine (walk a0 a1 w0 w1 y1 W).mono fun e W' ⟨he, bel⟩ => ?_
  subst he
  exact ⟨_, rfl, _, _, _, [], _, [], hW', trodAll_mk1 (shut_bool Try.underlying4 _), (trodAll_cons_mk (shut_int Try.underlying3 w0) (trodAll_cons_mk (Below.trod laidOut (by kernel_rfl) (of_decide_eq_true (by kernel_rfl)) h1 bel hlt1) trodAll_mk0)), rfl, bel.frame _, fun h => by cases h⟩

theorem over : Rows.plankRoomRow.holds Try.pinned (OpenSpec.ofChange Rows.plankRoomSpec) :=
  OpenClaim.holds_of_wide 6 Try.f6 rfl rfl rfl rfl rfl rfl rfl ⟨rfl, rfl, rfl, rfl, rfl⟩ rfl rfl rfl rfl rfl (by kernel_rfl) Try.func6 (by kernel_rfl)
    (of_decide_eq_true (by kernel_rfl)) (by unfold Func.isWrapper; first | (rw [if_pos (by decide +kernel)]; kernel_rfl) | (rw [if_neg (by decide +kernel)]; exact ⟨rfl, rfl⟩))
    (fun os started H enc _ => lifted os started H enc)

theorem proved : Rows.PlankRoomSaid :=
  over
#print axioms proved
end Go.Proofs.Ytkhlcmponfkccaa.PkLawRoom
