/-
  ShaExact walked: of every row of texts the law answers true, where the tables lie as the program's text lays them.
-/
import Derived.Test.YtappjgeiaefcpaaDoorShEq
import Derived.Test.YtappjgeiaefcpaaDoorShNone
namespace Go.Proofs.YtappjgeiaefcpaaDoor.Sh
open Go.RowKit Go.PlainAid
set_option linter.unusedVariables false

theorem rof_sha (s : ByteArray) (w : World) (h : s.size ≤ 1048576) : Calls Tryd.prog 10 #[.string s] w fun e w' => e = .returned (.agg (vals .u8 (shaD (bl s))).toArray) ∧ Below w.heap.size w w' := by
  have := rof_any s w h
  rw [ref_eq] at this
  exact this
theorem bl_append (a b : ByteArray) : bl (a ++ b) = bl a ++ bl b := by simp [bl]
/-- what holds at each round: all is what came so far -/
structure XInv (w wr : World) (H : Nat) (ss : List ByteArray) (k : Nat) (all : ByteArray) : Prop where
  sha : ∃ blk, ShaIs wr H (bl all) blk
  eq : bl all = allB (ss.take k)
  size : all.size ≤ 8192
  bel : Below w.heap.size w wr

set_option maxRecDepth 100000 in
set_option maxHeartbeats 4000000 in
theorem exact_walk {w : World} {v : Value} {ss : List ByteArray} (hv : StrsAt w v ss) (ht : Tabs w) (hl : ss.length ≤ 9223372036854775807) (hz : ∀ s ∈ ss, s.size ≤ 9223372036854775807) :
    Calls Tryd.prog 3 #[v] w fun e w' => e = .returned (.bool true) ∧ Below w.heap.size w w' := by
  have HV := Lib.hid hv
  obtain ⟨base, cap, rfl, hc⟩ := hv.is
  clear hv
  have HC := Lib.hid hc
  have HT := Lib.hid ht
  have HZ := Lib.hid hz
  have t1 := ht.keys.lt
  clear ht hc hz
  go_enter Tryd.func3, Tryd.ntmps3
  go_wp2_with fail
  refine (awake_any _ HT.out).mono ?_
  rintro e w1 ⟨rfl, F1⟩
  have T1 := HT.out.below F1 t1
  go_wp2_with fail
  refine (new_any _ T1).mono ?_
  rintro e w2 ⟨rfl, rfl⟩
  have N := new_is w1
  have F2 := F1.alloc F1.size (.cells (shaV start (List.replicate 64 0) 0).toArray 42)
  generalize w1.alloc (.cells (shaV start (List.replicate 64 0) 0).toArray 42) = w2 at N F2 ⊢
  have hH : w.heap.size ≤ w1.heap.size := F1.size
  clear F1 T1
  generalize w1.heap.size = H at N hH ⊢
  go_wp2
  go_loopw [4, 5] (fun al i wr => ∃ (k : Nat) (all : ByteArray), k ≤ ss.length ∧ k ≤ 20 ∧ i = .int .i64 k ∧ al = .string all ∧ XInv w wr H ss k all) (fun _ i _ => ss.length - (intOf i).toNat)
  case atStart => exact ⟨0, ⟨#[]⟩, Nat.zero_le _, Nat.zero_le _, rfl, rfl, ⟨_, N⟩, by simp [bl, allB], by decide, F2⟩
  case round =>
    clear N F2
    obtain ⟨k, all, hk, hk2, rfl, rfl, J⟩ := hrel
    have js := J.size
    by_cases hlt : k < ss.length
    · obtain ⟨s, hs⟩ : ∃ s, ss[k]? = some s := ⟨ss[k], List.getElem?_eq_getElem hlt⟩
      obtain ⟨a, rfl, ha, hcell⟩ := HC.out k s hs
      have hsz := HZ.out s (List.mem_of_getElem? hs)
      have HS := Lib.hid hs
      clear hs
      have hab : (a.add k).block = a.block := by unfold Addr.add; split <;> rfl
      have c1 : wr.cell? (a.add k) = some (.string s) := by rw [J.bel.cell (by rw [hab]; exact ha)]; exact hcell
      have l1 : (k : Int) < (ss.length : Int) := by omega
      have HCELL := Lib.hid hcell
      have HAB := Lib.hid hab
      clear hcell hab
      by_cases h20 : k < 20
      · have d1 : decide ((20 : Int) ≤ (k : Int)) = false := by simp; omega
        by_cases hp : 4096 < s.size
        · have d2 : decide ((4096 : Int) < (s.size : Int)) = true := by simp; omega
          go_wp2
          go_ret
          exact ⟨rfl, J.bel⟩
        · have d2 : decide ((4096 : Int) < (s.size : Int)) = false := by simp; omega
          by_cases hq : 4096 < all.size
          · have d3 : decide ((4096 : Int) < (all.size : Int)) = true := by simp; omega
            go_wp2
            go_ret
            exact ⟨rfl, J.bel⟩
          · have d3 : decide ((4096 : Int) < (all.size : Int)) = false := by simp; omega
            obtain ⟨blk, I⟩ := J.sha
            have T := HT.out.below J.bel t1
            go_wp2_with fail
            refine (write_any s I T.keys (by omega) (by rw [bl_len]; omega)).mono ?_
            rintro e w3 ⟨rfl, ⟨blk3, I3⟩, hb⟩
            have F3 := below_but J.bel hb hH
            have T3 := HT.out.below F3 t1
            have c2 : w3.cell? (a.add k) = some (.string s) := by rw [F3.cell (by rw [HAB.out]; exact ha)]; exact HCELL.out
            rw [← bl_append] at I3
            have he : bl (all ++ s) = allB (ss.take (k + 1)) := by rw [bl_append, J.eq, allB_snoc ss k s HS.out]
            have HE := Lib.hid he
            have az : (all ++ s).size = all.size + s.size := by simp
            have AZ := Lib.hid az
            clear I T c1 hb he az
            go_upto_region 12 with (fail)
            have az2 : (all ++ s).size ≤ 8192 := by rw [AZ.out]; omega
            generalize all ++ s = al2 at I3 HE az2 AZ ⊢
            clear c2
            go_wp2_with fail
            refine (sum_any I3 T3.keys (by rw [bl_len]; omega)).mono ?_
            rintro e w4 ⟨rfl, hb⟩
            have I4 := I3.same (hb.block H I3.at_.lt)
            have F4 := F3.trans (hb.mono F3.size)
            clear I3 F3 T3 hb
            go_wp2_with fail
            refine (rof_sha al2 _ (by omega)).mono ?_
            rintro e w5 ⟨rfl, hb⟩
            have I5 := I4.same (hb.block H I4.at_.lt)
            have F5 := F4.trans (hb.mono F4.size)
            clear I4 F4 hb
            have q1 := eq_dig (bl al2)
            go_wp2_with fail
            refine (len_any I5.at_ (by rw [bl_len]; omega)).mono ?_
            rintro e w' ⟨rfl, rfl⟩
            rw [bl_len]
            go_wp2
            go_roundw
            case rel => exact ⟨k + 1, al2, by omega, by omega, by go_num, rfl, ⟨_, I5⟩, HE.out, az2, F5⟩
            case measure => simp [intOf]; omega
      · have d1 : decide ((20 : Int) ≤ (k : Int)) = true := by simp; omega
        go_wp2
        go_ret
        exact ⟨rfl, J.bel⟩
    · have l1 : ¬ (k : Int) < (ss.length : Int) := by omega
      have e1 : ss.take k = ss := List.take_of_length_le (by omega)
      have je := J.eq
      rw [e1] at je
      have HJE := Lib.hid je
      have T := HT.out.below J.bel t1
      have V2 : StrsAt wr (.slice base ss.length cap) ss := by
        refine ⟨base, cap, rfl, fun j s hs => ?_⟩
        obtain ⟨a, e, ha, hcell⟩ := HC.out j s hs
        refine ⟨a, e, Nat.lt_of_lt_of_le ha J.bel.size, ?_⟩
        rw [J.bel.cell (by have : (a.add j).block = a.block := by unfold Addr.add; split <;> rfl
                           rw [this]; exact ha)]
        exact hcell
      clear je e1
      go_wp2_with fail
      refine (of_any V2 T (by rw [← HJE.out, bl_len]; omega) (by omega)).mono ?_
      rintro e w3 ⟨rfl, hb⟩
      have F3 := J.bel.trans (hb.mono J.bel.size)
      clear hb V2 T
      rw [← HJE.out]
      go_wp2_with fail
      refine (rof_sha all _ (by omega)).mono ?_
      rintro e w4 ⟨rfl, hb⟩
      have F4 := F3.trans (hb.mono F3.size)
      clear hb F3
      have q1 := eq_dig (bl all)
      go_wp2
      go_ret
      exact ⟨rfl, F4⟩
end Go.Proofs.YtappjgeiaefcpaaDoor.Sh
