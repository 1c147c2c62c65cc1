/-
  StampBack is true for every two digests and every text: a digest's text and name are its own, and what is read would have been written so. The tables of package sha are tied to the program's text (the card). No conditions.
-/
import Derived.Test.YtmnkhcefdpcheaaDoorStHas
import Derived.OpenShut
import Derived.ShutString
import Derived.Deep.DeepRowAt
import Derived.Deep.DeepHandedRow
namespace Go.Proofs.YtmnkhcefdpcheaaDoor.stampBack
open Go.RowKit Go.PlainAid Go.ChangeShapes Go.WideShapes Go.ChangeAt Go.Proofs.YtmnkhcefdpcheaaDoor.Sh Go.Proofs.YtmnkhcefdpcheaaDoor.St
open Go.ChangeMaps (open_string shut_string)
open Go.Proofs.YtmnkhcefdpcheaaDoor
set_option linter.unusedVariables false

theorem txt_eq (h : ByteArray) {a b : List Nat} (ha : Dig a) (hb : Dig b) : ((txt h a).toList == (txt h b).toList) = decide (a = b) := by
  by_cases e : a = b
  · simp [e]
  · have : ¬ (txt h a).toList = (txt h b).toList := fun h' => e (txt_inj ha hb (ba_ext (by rw [← toList_data, ← toList_data]; exact h')))
    simp [e, this]
theorem heads_differ {a b : List Nat} : txt ⟨#[115, 104, 97, 50, 53, 54, 58]⟩ a ≠ txt ⟨#[98, 108, 111, 98, 45]⟩ b := by
  intro h
  have h1 : (txt ⟨#[115, 104, 97, 50, 53, 54, 58]⟩ a).data.toList = (txt ⟨#[98, 108, 111, 98, 45]⟩ b).data.toList := by rw [h]
  rw [txt_data, txt_data] at h1
  have h2 := congrArg (fun l => l[0]?) h1
  simp at h2

set_option maxRecDepth 100000 in
set_option maxHeartbeats 4000000 in
theorem walk (a b : List Nat) (s : ByteArray) (ha : Dig a) (hb : Dig b) (hs : s.size ≤ maxLen) (w : World) (ht : Tabs w) :
    Calls Tryd.prog 4 #[.agg (vals .u8 a).toArray, .agg (vals .u8 b).toArray, .string s] w fun e w' => e = .returned (.bool true) ∧ Below w.heap.size w w' := by
  have HT := Lib.hid ht
  have t1 := ht.keys.lt
  clear ht
  have HA := Lib.hid ha
  have HB := Lib.hid hb
  have J := has_two w ha hb
  have HE := Lib.hid (eq_any ha hb)
  have HAA := Lib.hid (eq_any ha ha)
  have HS1 := Lib.hid (txt_eq ⟨#[115, 104, 97, 50, 53, 54, 58]⟩ ha hb)
  have HS2 := Lib.hid (txt_eq ⟨#[98, 108, 111, 98, 45]⟩ ha hb)
  clear ha hb
  unfold maxLen at hs
  go_enter Tryd.func4, Tryd.ntmps4
  go_upto_region 1 with (fail)
  generalize ((w.alloc (.cells (vals .u8 a).toArray 23)).alloc (.cells (vals .u8 b).toArray 23)) = X at J ⊢
  generalize w.heap.size + 1 = B1 at J ⊢
  go_wp2_with fail
  refine (awake_any _ (HT.out.below J.bel t1)).mono ?_
  rintro e w1 ⟨rfl, F1⟩
  have J1 := J.below F1
  clear F1 J
  by_cases h200 : 200 < s.size
  · have d1 : decide ((200 : Int) < (s.size : Int)) = true := by simp; omega
    go_wp2
    go_ret
    exact ⟨rfl, J1.bel⟩
  have d1 : decide ((200 : Int) < (s.size : Int)) = false := by simp; omega
  have hs2 : s.size ≤ 1099511627776 := by omega
  have L1 := J1.loads (.tail _ (.head _))
  go_wp2_with (refine wpl_load_in L1 rfl rfl rfl ?_)
  refine (print_any HA.out _).mono ?_
  rintro e w2 ⟨rfl, F2⟩
  have J2 := J1.below F2
  clear F2 J1 L1
  go_wp2_with fail
  refine (parse_any _ _ (by rw [txt_size HA.out]; decide)).mono ?_
  rintro e w3 hp
  obtain ⟨rfl, F3⟩ := read_yes HA.out hp
  have J3 := J2.below F3
  clear F3 J2 hp
  obtain ⟨w4, S4, D4, G4, Z4⟩ := keep_dig w3 a HA.out.len
  have J4 := J3.add HA.out D4 G4
  clear J3 D4 G4 Z4
  go_upto_region 6 with (refine wpl_store S4 rfl rfl rfl rfl rfl ?_)
  clear S4
  generalize w3.heap.size = B7 at J4 ⊢
  have L1 := J4.loads (.tail _ (.tail _ (.head _)))
  go_wp2_with (refine wpl_load_in L1 rfl rfl rfl ?_)
  refine (file_any HA.out _).mono ?_
  rintro e w5 ⟨rfl, F5⟩
  have J5 := J4.below F5
  clear F5 J4 L1
  go_wp2_with fail
  refine (named_any _ _ (by rw [txt_size HA.out]; decide)).mono ?_
  rintro e w6 hp
  obtain ⟨rfl, F6⟩ := read_yes HA.out hp
  have J6 := J5.below F6
  clear F6 J5 hp
  obtain ⟨w7, S7, D7, G7, Z7⟩ := keep_dig w6 a HA.out.len
  have J7 := J6.add HA.out D7 G7
  clear J6 D7 G7 Z7
  go_upto_region 7 with (refine wpl_store S7 rfl rfl rfl rfl rfl ?_)
  clear S7
  generalize w6.heap.size = B9 at J7 ⊢
  refine wp_region_held (S := fun x => Has w x [(B9, a), (B7, a), (B1, b), (w.heap.size, a)]) (by kernel_rfl) ?_
  change wpAnyH _ _ _ _ _ _ _ _ w7.drew
  have J8 := J7.drew
  clear J7
  generalize w7.drew = w8 at J8 ⊢
  have LA : Hid (∀ x, Has w x [(B9, a), (B7, a), (B1, b), (w.heap.size, a)] → Loads Tryd.prog x 23 w.heap.size 0 (vals .u8 a).toArray) := Lib.hid fun x j => j.loads (.tail _ (.tail _ (.tail _ (.head _))))
  have LB : Hid (∀ x, Has w x [(B9, a), (B7, a), (B1, b), (w.heap.size, a)] → Loads Tryd.prog x 23 B1 0 (vals .u8 b).toArray) := Lib.hid fun x j => j.loads (.tail _ (.tail _ (.head _)))
  have L7 : Hid (∀ x, Has w x [(B9, a), (B7, a), (B1, b), (w.heap.size, a)] → Loads Tryd.prog x 23 B7 0 (vals .u8 a).toArray) := Lib.hid fun x j => j.loads (.tail _ (.head _))
  have L9 : Hid (∀ x, Has w x [(B9, a), (B7, a), (B1, b), (w.heap.size, a)] → Loads Tryd.prog x 23 B9 0 (vals .u8 a).toArray) := Lib.hid fun x j => j.loads (.head _)
  have q1 : ∀ x, (Op.equalIn 10000 23 (.agg (vals .u8 a).toArray) (.agg (vals .u8 a).toArray)).run Tryd.prog x = .ok true x := fun x => by
    have := HAA.out x
    simpa using this
  have q2 := HE.out
  have s1 := HS1.out
  have s2 := HS2.out
  generalize decide (a = b) = q at q2 s1 s2
  refine held_take 0 (.agg (vals .u8 a).toArray) rfl (by kernel_rfl) (by kernel_rfl) (by kernel_rfl) (fun _ _ _ h => h) (yields_load L7.out rfl rfl rfl) J8 (fun K hK => ?_)
  go_simp
  refine hK _ _ ?_
  clear hK K
  refine held_take 1 (.agg (vals .u8 a).toArray) rfl (by kernel_rfl) (by kernel_rfl) (by kernel_rfl) (fun _ _ _ h => h) (yields_load LA.out rfl rfl rfl) J8 (fun K hK => ?_)
  go_simp
  refine hK _ _ ?_
  clear hK K
  refine held_take 2 (.bool false) rfl (by kernel_rfl) (by kernel_rfl) (by kernel_rfl) (fun _ _ _ h => h) (Or.inl ⟨by rfl, fun x j => by go_simp⟩) J8 (fun K hK => ?_)
  go_simp
  refine hK _ _ ?_
  clear hK K
  refine held_take 3 (.bool false) rfl (by kernel_rfl) (by kernel_rfl) (by kernel_rfl) (fun _ _ _ h => h) (Or.inl ⟨by rfl, fun x j => by go_simp⟩) J8 (fun K hK => ?_)
  go_simp
  refine hK _ _ ?_
  clear hK K
  refine held_take 4 (.int .i64 0) rfl (by kernel_rfl) (by kernel_rfl) (by kernel_rfl) (fun _ _ _ h => h) (Or.inl ⟨by rfl, fun x j => by go_simp⟩) J8 (fun K hK => ?_)
  go_simp
  refine hK _ _ ?_
  clear hK K
  refine held_take 5 (.bool false) rfl (by kernel_rfl) (by kernel_rfl) (by kernel_rfl) (fun _ _ _ h => h) (Or.inl ⟨by rfl, fun x j => by go_simp⟩) J8 (fun K hK => ?_)
  go_simp
  refine hK _ _ ?_
  clear hK K
  refine held_take 6 (.bool false) rfl (by kernel_rfl) (by kernel_rfl) (by kernel_rfl) (fun _ _ _ h => h) (Or.inl ⟨by rfl, fun x j => by go_simp⟩) J8 (fun K hK => ?_)
  go_simp
  refine hK _ _ ?_
  clear hK K
  refine held_take 7 (.bool false) rfl (by kernel_rfl) (by kernel_rfl) (by kernel_rfl) (fun _ _ _ h => h) (Or.inl ⟨by rfl, fun x j => by go_simp⟩) J8 (fun K hK => ?_)
  go_simp
  refine hK _ _ ?_
  clear hK K
  refine held_take 8 (.agg (vals .u8 a).toArray) rfl (by kernel_rfl) (by kernel_rfl) (by kernel_rfl) (fun _ _ _ h => h) (yields_load L9.out rfl rfl rfl) J8 (fun K hK => ?_)
  go_simp
  refine hK _ _ ?_
  clear hK K
  refine held_take 9 (.agg (vals .u8 a).toArray) rfl (by kernel_rfl) (by kernel_rfl) (by kernel_rfl) (fun _ _ _ h => h) (yields_load LA.out rfl rfl rfl) J8 (fun K hK => ?_)
  go_simp
  refine hK _ _ ?_
  clear hK K
  refine held_take 10 (.bool false) rfl (by kernel_rfl) (by kernel_rfl) (by kernel_rfl) (fun _ _ _ h => h) (Or.inl ⟨by rfl, fun x j => by go_simp⟩) J8 (fun K hK => ?_)
  go_simp
  refine hK _ _ ?_
  clear hK K
  refine held_take 11 (.bool false) rfl (by kernel_rfl) (by kernel_rfl) (by kernel_rfl) (fun _ _ _ h => h) (Or.inl ⟨by rfl, fun x j => by go_simp⟩) J8 (fun K hK => ?_)
  go_simp
  refine hK _ _ ?_
  clear hK K
  refine held_take 12 (.bool false) rfl (by kernel_rfl) (by kernel_rfl) (by kernel_rfl) (fun _ _ _ h => h) (Or.inl ⟨by rfl, fun x j => by go_simp⟩) J8 (fun K hK => ?_)
  go_simp
  refine hK _ _ ?_
  clear hK K
  refine held_take 13 (.bool true) rfl (by kernel_rfl) (by kernel_rfl) (by kernel_rfl) (fun _ _ _ h => h) (Or.inl ⟨by rfl, fun x j => by go_simp⟩) J8 (fun K hK => ?_)
  go_simp
  refine hK _ _ ?_
  clear hK K
  refine held_take 14 (.bool false) rfl (by kernel_rfl) (by kernel_rfl) (by kernel_rfl) (fun _ _ _ h => h) (Or.inl ⟨by rfl, fun x j => by go_simp⟩) J8 (fun K hK => ?_)
  go_simp
  refine hK _ _ ?_
  clear hK K
  refine held_take 15 (.bool false) rfl (by kernel_rfl) (by kernel_rfl) (by kernel_rfl) (fun _ _ _ h => h) (Or.inl ⟨by rfl, fun x j => by go_simp⟩) J8 (fun K hK => ?_)
  go_simp
  refine hK _ _ ?_
  clear hK K
  refine held_take 16 (.bool false) rfl (by kernel_rfl) (by kernel_rfl) (by kernel_rfl) (fun _ _ _ h => h) (Or.inl ⟨by rfl, fun x j => by go_simp⟩) J8 (fun K hK => ?_)
  go_simp
  refine hK _ _ ?_
  clear hK K
  refine held_take 17 (.agg (vals .u8 a).toArray) rfl (by kernel_rfl) (by kernel_rfl) (by kernel_rfl) (fun _ _ _ h => h) (yields_load LA.out rfl rfl rfl) J8 (fun K hK => ?_)
  go_simp
  refine hK _ _ ?_
  clear hK K
  refine held_take 19 (.agg (vals .u8 b).toArray) rfl (by kernel_rfl) (by kernel_rfl) (by kernel_rfl) (fun _ _ _ h => h) (yields_load LB.out rfl rfl rfl) J8 (fun K hK => ?_)
  go_simp
  refine hK _ _ ?_
  clear hK K
  refine held_take 22 (.agg (vals .u8 a).toArray) rfl (by kernel_rfl) (by kernel_rfl) (by kernel_rfl) (fun _ _ _ h => h) (yields_load LA.out rfl rfl rfl) J8 (fun K hK => ?_)
  go_simp
  refine hK _ _ ?_
  clear hK K
  refine held_take 23 (.agg (vals .u8 b).toArray) rfl (by kernel_rfl) (by kernel_rfl) (by kernel_rfl) (fun _ _ _ h => h) (yields_load LB.out rfl rfl rfl) J8 (fun K hK => ?_)
  go_simp
  refine hK _ _ ?_
  clear hK K
  refine held_take 24 (.bool q) rfl (by kernel_rfl) (by kernel_rfl) (by kernel_rfl) (fun _ _ _ h => h) (Or.inl ⟨by rfl, fun x j => by go_simp⟩) J8 (fun K hK => ?_)
  go_simp
  refine hK _ _ ?_
  clear hK K
  refine held_one 18 (by kernel_rfl) (fun K hK => wpOp_in rfl rfl ?_)
  go_simp
  refine (print_any HA.out _).mono ?_
  rintro e w9 ⟨rfl, hb⟩
  have J9 := J8.below hb
  refine hK _ _ J9 ?_
  clear hb J8
  clear hK K
  refine held_one 20 (by kernel_rfl) (fun K hK => wpOp_in rfl rfl ?_)
  go_simp
  refine (print_any HB.out _).mono ?_
  rintro e w10 ⟨rfl, hb⟩
  have J10 := J9.below hb
  refine hK _ _ J10 ?_
  clear hb J9
  clear hK K
  refine held_take 21 (.bool q) rfl (by kernel_rfl) (by kernel_rfl) (by kernel_rfl) (fun _ _ _ h => h) (Or.inl ⟨by rfl, fun x j => by go_simp⟩) J10 (fun K hK => ?_)
  go_simp
  refine hK _ _ ?_
  clear hK K
  refine held_take 25 (.bool false) rfl (by kernel_rfl) (by kernel_rfl) (by kernel_rfl) (fun _ _ _ h => h) (Or.inl ⟨by rfl, fun x j => by go_simp⟩) J10 (fun K hK => ?_)
  go_simp
  refine hK _ _ ?_
  clear hK K
  refine held_take 26 (.bool false) rfl (by kernel_rfl) (by kernel_rfl) (by kernel_rfl) (fun _ _ _ h => h) (Or.inl ⟨by rfl, fun x j => by go_simp⟩) J10 (fun K hK => ?_)
  go_simp
  refine hK _ _ ?_
  clear hK K
  refine held_take 27 (.bool false) rfl (by kernel_rfl) (by kernel_rfl) (by kernel_rfl) (fun _ _ _ h => h) (Or.inl ⟨by rfl, fun x j => by go_simp⟩) J10 (fun K hK => ?_)
  go_simp
  refine hK _ _ ?_
  clear hK K
  refine held_take 28 (.agg (vals .u8 a).toArray) rfl (by kernel_rfl) (by kernel_rfl) (by kernel_rfl) (fun _ _ _ h => h) (yields_load LA.out rfl rfl rfl) J10 (fun K hK => ?_)
  go_simp
  refine hK _ _ ?_
  clear hK K
  refine held_take 30 (.agg (vals .u8 b).toArray) rfl (by kernel_rfl) (by kernel_rfl) (by kernel_rfl) (fun _ _ _ h => h) (yields_load LB.out rfl rfl rfl) J10 (fun K hK => ?_)
  go_simp
  refine hK _ _ ?_
  clear hK K
  refine held_take 33 (.agg (vals .u8 a).toArray) rfl (by kernel_rfl) (by kernel_rfl) (by kernel_rfl) (fun _ _ _ h => h) (yields_load LA.out rfl rfl rfl) J10 (fun K hK => ?_)
  go_simp
  refine hK _ _ ?_
  clear hK K
  refine held_take 34 (.agg (vals .u8 b).toArray) rfl (by kernel_rfl) (by kernel_rfl) (by kernel_rfl) (fun _ _ _ h => h) (yields_load LB.out rfl rfl rfl) J10 (fun K hK => ?_)
  go_simp
  refine hK _ _ ?_
  clear hK K
  refine held_take 35 (.bool q) rfl (by kernel_rfl) (by kernel_rfl) (by kernel_rfl) (fun _ _ _ h => h) (Or.inl ⟨by rfl, fun x j => by go_simp⟩) J10 (fun K hK => ?_)
  go_simp
  refine hK _ _ ?_
  clear hK K
  refine held_one 29 (by kernel_rfl) (fun K hK => wpOp_in rfl rfl ?_)
  go_simp
  refine (file_any HA.out _).mono ?_
  rintro e w11 ⟨rfl, hb⟩
  have J11 := J10.below hb
  refine hK _ _ J11 ?_
  clear hb J10
  clear hK K
  refine held_one 31 (by kernel_rfl) (fun K hK => wpOp_in rfl rfl ?_)
  go_simp
  refine (file_any HB.out _).mono ?_
  rintro e w12 ⟨rfl, hb⟩
  have J12 := J11.below hb
  refine hK _ _ J12 ?_
  clear hb J11
  clear hK K
  refine held_take 32 (.bool q) rfl (by kernel_rfl) (by kernel_rfl) (by kernel_rfl) (fun _ _ _ h => h) (Or.inl ⟨by rfl, fun x j => by go_simp⟩) J12 (fun K hK => ?_)
  go_simp
  refine hK _ _ ?_
  clear hK K
  refine held_take 36 (.bool false) rfl (by kernel_rfl) (by kernel_rfl) (by kernel_rfl) (fun _ _ _ h => h) (Or.inl ⟨by rfl, fun x j => by go_simp⟩) J12 (fun K hK => ?_)
  go_simp
  refine hK _ _ ?_
  clear hK K
  refine held_take 37 (.bool false) rfl (by kernel_rfl) (by kernel_rfl) (by kernel_rfl) (fun _ _ _ h => h) (Or.inl ⟨by rfl, fun x j => by go_simp⟩) J12 (fun K hK => ?_)
  go_simp
  refine hK _ _ ?_
  clear hK K
  refine wpAnyH_done (by kernel_rfl) ?_ _
  clear q1 q2 s1 s2 LA LB L7 L9
  go_wp2_with fail
  refine (parse_any _ _ hs2).mono ?_
  rintro e w13 ⟨hp, F13⟩
  have J13 := J12.below F13
  clear F13 J12
  rcases hp with ⟨d, hd, he, rfl⟩ | ⟨hn, rfl⟩
  · have HD := Lib.hid hd
    have HN : Hid (¬ Is ⟨#[98, 108, 111, 98, 45]⟩ s) := Lib.hid fun ⟨d', _, h'⟩ => heads_differ (he.symm.trans h')
    have sq : ((txt ⟨#[115, 104, 97, 50, 53, 54, 58]⟩ d).toList == s.toList) = true := by rw [he]; simp
    clear hd he
    obtain ⟨w14, S14, D14, G14, Z14⟩ := keep_dig w13 d HD.out.len
    have J14 := J13.add HD.out D14 G14
    clear J13 D14 G14 Z14
    go_upto_region 10 with (refine wpl_store S14 rfl rfl rfl rfl rfl ?_)
    clear S14
    generalize w13.heap.size = B11 at J14 ⊢
    go_wp2_with fail
    refine (named_any _ _ hs2).mono ?_
    rintro e w15 hp
    obtain ⟨rfl, F15⟩ := read_no HN.out hp
    have J15 := J14.below F15
    clear F15 J14 hp
    obtain ⟨w16, S16, D16, G16, Z16⟩ := keep_dig w15 zeros zeros_dig.len
    have J16 := J15.add zeros_dig D16 G16
    clear J15 D16 G16 Z16
    go_upto_region 11 with (refine wpl_store S16 rfl rfl rfl rfl rfl ?_)
    clear S16
    generalize w15.heap.size = B13 at J16 ⊢
    have L1 := J16.loads (.tail _ (.head _))
    go_wp2_with (refine wpl_load_in L1 rfl rfl rfl ?_)
    refine (print_any HD.out _).mono ?_
    rintro e w17 ⟨rfl, F17⟩
    have J17 := J16.below F17
    clear F17 J16 L1
    go_wp2
    go_ret
    exact ⟨rfl, J17.bel⟩
  · obtain ⟨w14, S14, D14, G14, Z14⟩ := keep_dig w13 zeros zeros_dig.len
    have J14 := J13.add zeros_dig D14 G14
    clear J13 D14 G14 Z14 hn
    go_upto_region 10 with (refine wpl_store S14 rfl rfl rfl rfl rfl ?_)
    clear S14
    generalize w13.heap.size = B11 at J14 ⊢
    go_wp2_with fail
    refine (named_any _ _ hs2).mono ?_
    rintro e w15 ⟨hp, F15⟩
    have J15 := J14.below F15
    clear F15 J14
    rcases hp with ⟨d, hd, he, rfl⟩ | ⟨hn, rfl⟩
    · have HD := Lib.hid hd
      have sq : ((txt ⟨#[98, 108, 111, 98, 45]⟩ d).toList == s.toList) = true := by rw [he]; simp
      clear hd he
      obtain ⟨w16, S16, D16, G16, Z16⟩ := keep_dig w15 d HD.out.len
      have J16 := J15.add HD.out D16 G16
      clear J15 D16 G16 Z16
      go_upto_region 11 with (refine wpl_store S16 rfl rfl rfl rfl rfl ?_)
      clear S16
      generalize w15.heap.size = B13 at J16 ⊢
      have L1 := J16.loads (.head _)
      go_wp2_with (refine wpl_load_in L1 rfl rfl rfl ?_)
      refine (file_any HD.out _).mono ?_
      rintro e w17 ⟨rfl, F17⟩
      have J17 := J16.below F17
      clear F17 J16 L1
      go_wp2
      go_ret
      exact ⟨rfl, J17.bel⟩
    · clear hn
      obtain ⟨w16, S16, D16, G16, Z16⟩ := keep_dig w15 zeros zeros_dig.len
      have J16 := J15.add zeros_dig D16 G16
      clear J15 D16 G16 Z16
      go_upto_region 11 with (refine wpl_store S16 rfl rfl rfl rfl rfl ?_)
      clear S16
      generalize w15.heap.size = B13 at J16 ⊢
      go_wp2
      go_ret
      exact ⟨rfl, J16.bel⟩

theorem own : ownKnob Tryd.prog.godebug = none := by kernel_rfl
theorem laidOut : laidOutB Tryd.prog = true := by kernel_rfl
theorem contract (H : Type) (enc : TypeId × Value → H) (W : World) (base : Nat) (args : Array Value) (ds gs : List (DataW H)) (before : List MemPlace)
    (hval : ∀ (j : Nat) t v, Tryd.f4.params[j]? = some t → args[j]? = some v → Value.okWide Tryd.prog W .any base t v)
    (hW : DataW.Whole enc Tryd.prog Tryd.f4.params.toList Rows.stampBackSpec.vars false W args.toList ds gs before) (hL : laidMetH Tryd.prog Rows.stampBackRow.laid W) :
    Calls Tryd.prog 4 args W fun e W' => ∃ v, e = .returned v ∧ Rows.stampBackSpec.post enc Tryd.prog Tryd.f4 false true false false W args v W' := by
  have hW' := hW
  obtain ⟨p, q, hA0, hV, rfl, hfz, hnd⟩ := hW
  have hA : DataW.TrodAll enc Tryd.prog W 0 (fun _ => true) true Tryd.f4.params.toList args.toList ds p := hA0
  rw [Tryd.params4] at hA hval
  obtain ⟨v0, vs0, d0, ds0, p0, q0, hargs, rfl, rfl, h0, r0⟩ := trodAll_cons hA
  obtain ⟨v1, vs1, d1, ds1, p1, q1, rfl, rfl, rfl, h1, r1⟩ := trodAll_cons r0
  obtain ⟨v2, vs2, d2, ds2, p2, q2, rfl, rfl, rfl, h2, r2⟩ := trodAll_cons r1
  obtain ⟨rfl, rfl, rfl⟩ := trodAll_nil r2
  obtain rfl : args = #[v0, v1, v2] := by cases args; simp_all
  obtain ⟨rfl, rfl⟩ := trodVars_none hV
  have hlt0 : ∀ x ∈ p0, x.block < W.heap.size := fun x hx => by simpa using hW'.lt x (by simp [hx])
  obtain ⟨a0, rfl, w0⟩ := open_dig (hval 0 23 v0 rfl rfl) h0
  have hlt1 : ∀ x ∈ p1, x.block < W.heap.size := fun x hx => by simpa using hW'.lt x (by simp [hx])
  obtain ⟨a1, rfl, w1⟩ := open_dig (hval 1 23 v1 rfl rfl) h1
  obtain ⟨a2, rfl, rfl, rfl, w2⟩ := open_string Tryd.underlying9 (hval 2 9 v2 rfl rfl) h2
  have ht := tabs_of hL
  clear hA0
  simp only [List.append_nil] at hW'
  refine (walk a0 a1 a2 w0 w1 w2 W ht).mono fun e W' ⟨he, bel⟩ => ?_
  subst he
  exact ⟨_, rfl, _, _, _, [], _, [], hW', trodAll_mk1 (shut_bool Tryd.underlying4 _), (trodAll_cons_mk (Below.trod laidOut (by kernel_rfl) (of_decide_eq_true (by kernel_rfl)) h0 bel hlt0) (trodAll_cons_mk (Below.trod laidOut (by kernel_rfl) (of_decide_eq_true (by kernel_rfl)) h1 bel hlt1) (trodAll_cons_mk (shut_string Tryd.underlying9 w2) trodAll_mk0))), rfl, bel.frame _, fun h => by cases h⟩
theorem laid_met (os : Os) : laidMet Tryd.prog Rows.stampBackRow.laid ((laidWorld os).forCall (fun _ _ => 0) ⟨#[], #[.agg #[.int .u8 0, .int .u8 0, .int .u8 0, .int .u8 0, .int .u8 0, .int .u8 0, .int .u8 0, .int .u8 0, .int .u8 0, .int .u8 0, .int .u8 0, .int .u8 0, .int .u8 0, .int .u8 0, .int .u8 0, .int .u8 0, .int .u8 0, .int .u8 0, .int .u8 0, .int .u8 0, .int .u8 0, .int .u8 0, .int .u8 0, .int .u8 0, .int .u8 0, .int .u8 0, .int .u8 0, .int .u8 0, .int .u8 0, .int .u8 0, .int .u8 0, .int .u8 0], .agg #[.int .u8 0, .int .u8 0, .int .u8 0, .int .u8 0, .int .u8 0, .int .u8 0, .int .u8 0, .int .u8 0, .int .u8 0, .int .u8 0, .int .u8 0, .int .u8 0, .int .u8 0, .int .u8 0, .int .u8 0, .int .u8 0, .int .u8 0, .int .u8 0, .int .u8 0, .int .u8 0, .int .u8 0, .int .u8 0, .int .u8 0, .int .u8 0, .int .u8 0, .int .u8 0, .int .u8 0, .int .u8 0, .int .u8 0, .int .u8 0, .int .u8 0, .int .u8 0], .string ByteArray.empty], []⟩).memory :=
  laidMet_of_run' 8 (by kernel_rfl) (by kernel_rfl)
theorem reads (os : Os) {H : Type} (enc : TypeId × Value → H) : ∃ places, DataW.whole enc Tryd.prog ((laidWorld os).forCall (fun _ _ => 0) ⟨#[], #[.agg #[.int .u8 0, .int .u8 0, .int .u8 0, .int .u8 0, .int .u8 0, .int .u8 0, .int .u8 0, .int .u8 0, .int .u8 0, .int .u8 0, .int .u8 0, .int .u8 0, .int .u8 0, .int .u8 0, .int .u8 0, .int .u8 0, .int .u8 0, .int .u8 0, .int .u8 0, .int .u8 0, .int .u8 0, .int .u8 0, .int .u8 0, .int .u8 0, .int .u8 0, .int .u8 0, .int .u8 0, .int .u8 0, .int .u8 0, .int .u8 0, .int .u8 0, .int .u8 0], .agg #[.int .u8 0, .int .u8 0, .int .u8 0, .int .u8 0, .int .u8 0, .int .u8 0, .int .u8 0, .int .u8 0, .int .u8 0, .int .u8 0, .int .u8 0, .int .u8 0, .int .u8 0, .int .u8 0, .int .u8 0, .int .u8 0, .int .u8 0, .int .u8 0, .int .u8 0, .int .u8 0, .int .u8 0, .int .u8 0, .int .u8 0, .int .u8 0, .int .u8 0, .int .u8 0, .int .u8 0, .int .u8 0, .int .u8 0, .int .u8 0, .int .u8 0, .int .u8 0], .string ByteArray.empty], []⟩).memory Tryd.f4.params.toList Rows.stampBackSpec.vars false (#[.agg #[.int .u8 0, .int .u8 0, .int .u8 0, .int .u8 0, .int .u8 0, .int .u8 0, .int .u8 0, .int .u8 0, .int .u8 0, .int .u8 0, .int .u8 0, .int .u8 0, .int .u8 0, .int .u8 0, .int .u8 0, .int .u8 0, .int .u8 0, .int .u8 0, .int .u8 0, .int .u8 0, .int .u8 0, .int .u8 0, .int .u8 0, .int .u8 0, .int .u8 0, .int .u8 0, .int .u8 0, .int .u8 0, .int .u8 0, .int .u8 0, .int .u8 0, .int .u8 0], .agg #[.int .u8 0, .int .u8 0, .int .u8 0, .int .u8 0, .int .u8 0, .int .u8 0, .int .u8 0, .int .u8 0, .int .u8 0, .int .u8 0, .int .u8 0, .int .u8 0, .int .u8 0, .int .u8 0, .int .u8 0, .int .u8 0, .int .u8 0, .int .u8 0, .int .u8 0, .int .u8 0, .int .u8 0, .int .u8 0, .int .u8 0, .int .u8 0, .int .u8 0, .int .u8 0, .int .u8 0, .int .u8 0, .int .u8 0, .int .u8 0, .int .u8 0, .int .u8 0], .string ByteArray.empty] : Array Value).toList 8 = some ([.agg [.lit (.int .u8 0), .lit (.int .u8 0), .lit (.int .u8 0), .lit (.int .u8 0), .lit (.int .u8 0), .lit (.int .u8 0), .lit (.int .u8 0), .lit (.int .u8 0), .lit (.int .u8 0), .lit (.int .u8 0), .lit (.int .u8 0), .lit (.int .u8 0), .lit (.int .u8 0), .lit (.int .u8 0), .lit (.int .u8 0), .lit (.int .u8 0), .lit (.int .u8 0), .lit (.int .u8 0), .lit (.int .u8 0), .lit (.int .u8 0), .lit (.int .u8 0), .lit (.int .u8 0), .lit (.int .u8 0), .lit (.int .u8 0), .lit (.int .u8 0), .lit (.int .u8 0), .lit (.int .u8 0), .lit (.int .u8 0), .lit (.int .u8 0), .lit (.int .u8 0), .lit (.int .u8 0), .lit (.int .u8 0)], .agg [.lit (.int .u8 0), .lit (.int .u8 0), .lit (.int .u8 0), .lit (.int .u8 0), .lit (.int .u8 0), .lit (.int .u8 0), .lit (.int .u8 0), .lit (.int .u8 0), .lit (.int .u8 0), .lit (.int .u8 0), .lit (.int .u8 0), .lit (.int .u8 0), .lit (.int .u8 0), .lit (.int .u8 0), .lit (.int .u8 0), .lit (.int .u8 0), .lit (.int .u8 0), .lit (.int .u8 0), .lit (.int .u8 0), .lit (.int .u8 0), .lit (.int .u8 0), .lit (.int .u8 0), .lit (.int .u8 0), .lit (.int .u8 0), .lit (.int .u8 0), .lit (.int .u8 0), .lit (.int .u8 0), .lit (.int .u8 0), .lit (.int .u8 0), .lit (.int .u8 0), .lit (.int .u8 0), .lit (.int .u8 0)], .lit (.string [])], [], places) :=
  ⟨[], by kernel_rfl⟩
set_option maxRecDepth 100000 in
theorem lifted (os : Os) (started : os.Started) (H : Type) (enc : TypeId × Value → H) (F : Stop.Interp) :
    ReturnsInHanded {} Tryd.checked os 4 .any ((OpenSpec.ofChange Rows.stampBackSpec).preRow enc Tryd.prog Tryd.f4 Rows.stampBackRow.domain false Rows.stampBackRow.laid) (((OpenSpec.ofChange Rows.stampBackSpec).at F).post enc Tryd.prog Tryd.f4 false true false false) := by
  obtain ⟨places, hx⟩ := reads os enc
  refine returnsInHanded_of_row (C := Tryd.checked) (s := OpenSpec.ofChange Rows.stampBackSpec) own started (by kernel_rfl) Tryd.func4
    (witness_row_at (enc := enc) (C := Tryd.checked) false (laidWorld os) #[.agg #[.int .u8 0, .int .u8 0, .int .u8 0, .int .u8 0, .int .u8 0, .int .u8 0, .int .u8 0, .int .u8 0, .int .u8 0, .int .u8 0, .int .u8 0, .int .u8 0, .int .u8 0, .int .u8 0, .int .u8 0, .int .u8 0, .int .u8 0, .int .u8 0, .int .u8 0, .int .u8 0, .int .u8 0, .int .u8 0, .int .u8 0, .int .u8 0, .int .u8 0, .int .u8 0, .int .u8 0, .int .u8 0, .int .u8 0, .int .u8 0, .int .u8 0, .int .u8 0], .agg #[.int .u8 0, .int .u8 0, .int .u8 0, .int .u8 0, .int .u8 0, .int .u8 0, .int .u8 0, .int .u8 0, .int .u8 0, .int .u8 0, .int .u8 0, .int .u8 0, .int .u8 0, .int .u8 0, .int .u8 0, .int .u8 0, .int .u8 0, .int .u8 0, .int .u8 0, .int .u8 0, .int .u8 0, .int .u8 0, .int .u8 0, .int .u8 0, .int .u8 0, .int .u8 0, .int .u8 0, .int .u8 0, .int .u8 0, .int .u8 0, .int .u8 0, .int .u8 0], .string ByteArray.empty] rfl (by kernel_rfl) (by kernel_rfl) (by kernel_rfl)
      (OpenSpec.preRow_of_cond 8 hx (by kernel_rfl) (fun k hk => by cases hk) (by kernel_rfl) (laid_met os))) ?_
  intro W base args ds gs before hval hW _ _ _ hL _ _
  exact contract H enc W base args ds gs before hval hW hL
theorem said : Rows.StampBackSaid :=
  OpenClaim.holds_of_cond 4 Tryd.f4 rfl rfl rfl rfl rfl rfl rfl ⟨rfl, rfl, rfl, rfl, rfl⟩ rfl rfl rfl rfl rfl (by kernel_rfl) Tryd.func4 (by kernel_rfl)
    (of_decide_eq_true (by kernel_rfl)) (by unfold Func.isWrapper; first | (rw [if_pos (by decide +kernel)]; kernel_rfl) | (rw [if_neg (by decide +kernel)]; exact ⟨rfl, rfl⟩))
    (fun os started H enc _ F => by rw [OpenClaim.pre_eq_preRow]; exact lifted os started H enc F)
theorem plain (f : FuncId) (fn : Func) (hf : Tryd.pinned.checked.prog.funcNamed "manciple/manciplelaw04.StampBack" = some f) (hfn : Tryd.pinned.checked.prog.funcs[f]? = some fn) :
    false = Tryd.pinned.checked.prog.looks [] ∧ ∀ (j : Nat) t, fn.params[j]? = some t → Tryd.pinned.checked.prog.wantsStandIn t = false := by
  obtain rfl : f = 4 := Option.some.inj ((show Tryd.prog.funcNamed "manciple/manciplelaw04.StampBack" = some 4 by kernel_rfl).symm.trans hf) |>.symm
  obtain rfl : fn = Tryd.f4 := (Option.some.inj (Tryd.func4.symm.trans hfn)).symm
  refine ⟨by kernel_rfl, fun j t ht => ?_⟩
  rw [Tryd.params4] at ht
  have hm : t ∈ [23, 23, 9] := by simpa using Array.mem_of_getElem? ht
  have hall : ([23, 23, 9].all fun u => !Tryd.prog.wantsStandIn u) = true := by kernel_rfl
  exact (show Tryd.prog.wantsStandIn t = false by simpa using List.all_eq_true.1 hall t hm)
theorem proved : Rows.StampBackCardSaid :=
  Claim7.holds_tied_plain_at .later [] _ _ _ _ said (fun _ h => by cases h) (by kernel_rfl) (fun _ h => by cases h) stampBack_row_tie rfl ⟨rfl, rfl⟩ (by kernel_rfl) rfl plain (by kernel_rfl)
#print axioms proved
end Go.Proofs.YtmnkhcefdpcheaaDoor.stampBack
