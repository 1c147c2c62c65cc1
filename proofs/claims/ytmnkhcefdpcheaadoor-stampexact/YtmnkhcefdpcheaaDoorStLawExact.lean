/-
  StampExact is true for every two digests and every text: what is written, read and compared is what the document says. The tables of package sha are tied to the program's text (the card). No conditions.
-/
import Derived.Test.YtmnkhcefdpcheaaDoorStHas
import Derived.Test.YtmnkhcefdpcheaaDoorStRef
import Derived.OpenShut
import Derived.ShutString
import Derived.Deep.DeepRowAt
import Derived.Deep.DeepHandedRow
namespace Go.Proofs.YtmnkhcefdpcheaaDoor.stampExact
open Go.RowKit Go.PlainAid Go.ChangeShapes Go.WideShapes Go.ChangeAt Go.Proofs.YtmnkhcefdpcheaaDoor.Sh Go.Proofs.YtmnkhcefdpcheaaDoor.St
open Go.ChangeMaps (open_string shut_string)
open Go.Proofs.YtmnkhcefdpcheaaDoor
set_option linter.unusedVariables false

/-- the one answer of reading: the digest, and whether there is one -/
def Ans (h s : ByteArray) (D : List Nat) (v : Bool) : Prop := (v = true ∧ s = txt h D) ∨ (v = false ∧ ¬ Is h s ∧ D = zeros)
theorem ans_one {h s : ByteArray} {D D' : List Nat} {v v' : Bool} (hd : Dig D) (hd' : Dig D') (a : Ans h s D v) (a' : Ans h s D' v') : D' = D ∧ v' = v := by
  rcases a with ⟨rfl, e⟩ | ⟨rfl, n, rfl⟩ <;> rcases a' with ⟨rfl, e'⟩ | ⟨rfl, n', rfl⟩
  · exact ⟨txt_inj hd' hd (e'.symm.trans e), rfl⟩
  · exact absurd ⟨D, hd, e⟩ n'
  · exact absurd ⟨D', hd', e'⟩ n
  · exact ⟨rfl, rfl⟩
/-- the error's number -/
def eN (v : Bool) : Int := if v = true then 0 else 3
theorem eN_true : eN true = 0 := rfl
theorem eN_false : eN false = 3 := rfl
theorem parse_ans {h s : ByteArray} {w w' : World} {e : Ending} (hp : ReadPost h s (.int .i64 0) (.int .i64 3) w e w') : ∃ D v, Dig D ∧ Ans h s D v ∧ e = .returned (.tuple #[.agg (vals .u8 D).toArray, .int .i64 (eN v)]) ∧ Below w.heap.size w w' := by
  obtain ⟨⟨d, hd, he, rfl⟩ | ⟨hn, rfl⟩, hb⟩ := hp
  · exact ⟨d, true, hd, .inl ⟨rfl, he⟩, rfl, hb⟩
  · exact ⟨zeros, false, zeros_dig, .inr ⟨rfl, hn, rfl⟩, rfl, hb⟩
theorem named_ans {h s : ByteArray} {w w' : World} {e : Ending} (hp : ReadPost h s (.bool true) (.bool false) w e w') : ∃ D v, Dig D ∧ Ans h s D v ∧ e = .returned (.tuple #[.agg (vals .u8 D).toArray, .bool v]) ∧ Below w.heap.size w w' := by
  obtain ⟨⟨d, hd, he, rfl⟩ | ⟨hn, rfl⟩, hb⟩ := hp
  · exact ⟨d, true, hd, .inl ⟨rfl, he⟩, rfl, hb⟩
  · exact ⟨zeros, false, zeros_dig, .inr ⟨rfl, hn, rfl⟩, rfl, hb⟩
theorem behind_ans {h s : ByteArray} {D : List Nat} {v : Bool} {w w' : World} {e : Ending} (hd : Dig D) (ha : Ans h s D v) (hp : BehindPost h s w e w') : e = .returned (.tuple #[.agg (vals .u8 D).toArray, .bool v]) ∧ Below w.heap.size w w' := by
  obtain ⟨D', v', hd', ha', he, hb⟩ := named_ans hp
  obtain ⟨rfl, rfl⟩ := ans_one hd hd' ha ha'
  exact ⟨he, hb⟩
attribute [irreducible] eN

theorem heads_differ {a b : List Nat} : txt ⟨#[115, 104, 97, 50, 53, 54, 58]⟩ a ≠ txt ⟨#[98, 108, 111, 98, 45]⟩ b := by
  intro h
  have h1 : (txt ⟨#[115, 104, 97, 50, 53, 54, 58]⟩ a).data.toList = (txt ⟨#[98, 108, 111, 98, 45]⟩ b).data.toList := by rw [h]
  rw [txt_data, txt_data] at h1
  have h2 := congrArg (fun l => l[0]?) h1
  simp at h2
theorem not_both {s : ByteArray} {D N : List Nat} (a : Ans ⟨#[115, 104, 97, 50, 53, 54, 58]⟩ s D true) (b : Ans ⟨#[98, 108, 111, 98, 45]⟩ s N true) : False := by
  rcases a with ⟨_, e⟩ | ⟨h, _⟩
  · rcases b with ⟨_, e'⟩ | ⟨h, _⟩
    · exact heads_differ (e.symm.trans e')
    · cases h
  · cases h

set_option maxRecDepth 100000 in
set_option maxHeartbeats 8000000 in
theorem walk (a b : List Nat) (s : ByteArray) (ha : Dig a) (hb : Dig b) (hs : s.size ≤ maxLen) (w : World) (ht : Tabs w) :
    Calls Tryd.prog 3 #[.agg (vals .u8 a).toArray, .agg (vals .u8 b).toArray, .string s] w fun e w' => e = .returned (.bool true) ∧ Below w.heap.size w w' := by
  have HT := Lib.hid ht
  have t1 := ht.keys.lt
  clear ht
  have HA := Lib.hid ha
  have HB := Lib.hid hb
  have J := has_two w ha hb
  clear ha hb
  unfold maxLen at hs
  go_enter Tryd.func3, Tryd.ntmps3
  go_upto_region 1 with (fail)
  generalize ((w.alloc (.cells (vals .u8 a).toArray 23)).alloc (.cells (vals .u8 b).toArray 23)) = X at J ⊢
  generalize w.heap.size + 1 = B1 at J ⊢
  go_wp2_with fail
  refine (awake_any _ (HT.out.below J.bel t1)).mono ?_
  rintro e w1 ⟨rfl, F1⟩
  have J1 := J.below F1
  clear F1 J
  by_cases h200 : 200 < s.size
  · have d1 : decide ((200 : Int) < (s.size : Int)) = true := by simp; omega
    go_wp2
    go_ret
    exact ⟨rfl, J1.bel⟩
  have d1 : decide ((200 : Int) < (s.size : Int)) = false := by simp; omega
  have hs2 : s.size ≤ 1099511627776 := by omega
  have hs3 : s.size ≤ 1048576 := by omega
  go_wp2_with fail
  refine (parse_any _ _ hs2).mono ?_
  rintro e w2 hp
  obtain ⟨D, v, hd, hav, rfl, F2⟩ := parse_ans hp
  have HD := Lib.hid hd
  have HV := Lib.hid hav
  have J2 := J1.below F2
  clear hp hd hav F2 J1
  obtain ⟨w3, S3, D3, G3, Z3⟩ := keep_dig w2 D HD.out.len
  have J3 := J2.add HD.out D3 G3
  clear J2 D3 G3 Z3
  go_upto_region 6 with (refine wpl_store S3 rfl rfl rfl rfl rfl ?_)
  clear S3
  generalize w2.heap.size = B7 at J3 ⊢
  go_wp2_with fail
  refine (rbehind_any _ _ _ hs2 (by decide)).mono ?_
  rintro e w4 hp
  obtain ⟨rfl, F4⟩ := behind_ans HD.out HV.out hp
  have J4 := J3.below F4
  clear hp F4 J3
  obtain ⟨w5, S5, D5, G5, Z5⟩ := keep_dig w4 D HD.out.len
  have J5 := J4.add HD.out D5 G5
  clear J4 D5 G5 Z5
  go_upto_region 7 with (refine wpl_store S5 rfl rfl rfl rfl rfl ?_)
  clear S5
  generalize w4.heap.size = B9 at J5 ⊢
  go_wp2_with fail
  refine (named_any _ _ hs2).mono ?_
  rintro e w6 hp
  obtain ⟨N, u, hn, hau, rfl, F6⟩ := named_ans hp
  have HN := Lib.hid hn
  have HU := Lib.hid hau
  have J6 := J5.below F6
  clear hp hn hau F6 J5
  obtain ⟨w7, S7, D7, G7, Z7⟩ := keep_dig w6 N HN.out.len
  have J7 := J6.add HN.out D7 G7
  clear J6 D7 G7 Z7
  go_upto_region 8 with (refine wpl_store S7 rfl rfl rfl rfl rfl ?_)
  clear S7
  generalize w6.heap.size = B11 at J7 ⊢
  go_wp2_with fail
  refine (rbehind_any _ _ _ hs2 (by decide)).mono ?_
  rintro e w8 hp
  obtain ⟨rfl, F8⟩ := behind_ans HN.out HU.out hp
  have J8 := J7.below F8
  clear hp F8 J7
  obtain ⟨w9, S9, D9, G9, Z9⟩ := keep_dig w8 N HN.out.len
  have J9 := J8.add HN.out D9 G9
  clear J8 D9 G9 Z9
  go_upto_region 9 with (refine wpl_store S9 rfl rfl rfl rfl rfl ?_)
  clear S9
  generalize w8.heap.size = B13 at J9 ⊢
  have LN13 := J9.loads (.head _)
  have LN11 := J9.loads (.tail _ (.head _))
  have LD9 := J9.loads (.tail _ (.tail _ (.head _)))
  have LD7 := J9.loads (.tail _ (.tail _ (.tail _ (.head _))))
  have qD : ∀ x, (Op.equalIn 10000 23 (.agg (vals .u8 D).toArray) (.agg (vals .u8 D).toArray)).run Tryd.prog x = .ok true x := fun x => by
    have := eq_any HD.out HD.out x
    simpa using this
  have qN : ∀ x, (Op.equalIn 10000 23 (.agg (vals .u8 N).toArray) (.agg (vals .u8 N).toArray)).run Tryd.prog x = .ok true x := fun x => by
    have := eq_any HN.out HN.out x
    simpa using this
  have e0 := eN_true
  have e3 := eN_false
  cases v with
  | true =>
    cases u with
    | true =>
      exact absurd HU.out (fun h => not_both HV.out h)
    | false =>
      go_upto_region 11 with (first | refine wpl_load_in LN13 rfl rfl rfl ?_ | refine wpl_load_in LN11 rfl rfl rfl ?_ | refine wpl_load_in LD9 rfl rfl rfl ?_ | refine wpl_load_in LD7 rfl rfl rfl ?_)
      clear LN13 LN11 LD9 LD7 qD qN e0 e3
      refine wp_region_held (S := fun x => Has w x [(B13, N), (B11, N), (B9, D), (B7, D), (B1, b), (w.heap.size, a)]) (by kernel_rfl) ?_
      change wpAnyH _ _ _ _ _ _ _ _ w9.drew
      have J10 := J9.drew
      clear J9
      generalize w9.drew = w10 at J10 ⊢
      have LA : Hid (∀ x, Has w x [(B13, N), (B11, N), (B9, D), (B7, D), (B1, b), (w.heap.size, a)] → Loads Tryd.prog x 23 w.heap.size 0 (vals .u8 a).toArray) := Lib.hid fun x j => j.loads (.tail _ (.tail _ (.tail _ (.tail _ (.tail _ (.head _))))))
      have LB : Hid (∀ x, Has w x [(B13, N), (B11, N), (B9, D), (B7, D), (B1, b), (w.heap.size, a)] → Loads Tryd.prog x 23 B1 0 (vals .u8 b).toArray) := Lib.hid fun x j => j.loads (.tail _ (.tail _ (.tail _ (.tail _ (.head _)))))
      have qS := eq_dig (bl s)
      refine held_take 0 (.agg (vals .u8 a).toArray) rfl (by kernel_rfl) (by kernel_rfl) (by kernel_rfl) (fun _ _ _ h => h) (yields_load LA.out rfl rfl rfl) J10 (fun K hK => ?_)
      go_simp
      refine hK _ _ ?_
      clear hK K
      refine held_take 2 (.agg (vals .u8 a).toArray) rfl (by kernel_rfl) (by kernel_rfl) (by kernel_rfl) (fun _ _ _ h => h) (yields_load LA.out rfl rfl rfl) J10 (fun K hK => ?_)
      go_simp
      refine hK _ _ ?_
      clear hK K
      refine held_one 1 (by kernel_rfl) (fun K hK => wpOp_in rfl rfl ?_)
      go_simp
      refine (print_any HA.out _).mono ?_
      rintro e w11 ⟨rfl, hb⟩
      have J11 := J10.below hb
      refine hK _ _ J11 ?_
      clear hb J10
      clear hK K
      refine held_one 3 (by kernel_rfl) (fun K hK => wpOp_in rfl rfl ?_)
      go_simp
      refine (rprint_any HA.out _).mono ?_
      rintro e w12 ⟨rfl, hb⟩
      have J12 := J11.below hb
      refine hK _ _ J12 ?_
      clear hb J11
      clear hK K
      refine held_take 4 (.bool true) rfl (by kernel_rfl) (by kernel_rfl) (by kernel_rfl) (fun _ _ _ h => h) (Or.inl ⟨by rfl, fun x j => by go_simp⟩) J12 (fun K hK => ?_)
      go_simp
      refine hK _ _ ?_
      clear hK K
      refine held_take 5 (.bool true) rfl (by kernel_rfl) (by kernel_rfl) (by kernel_rfl) (fun _ _ _ h => h) (Or.inl ⟨by rfl, fun x j => by go_simp⟩) J12 (fun K hK => ?_)
      go_simp
      refine hK _ _ ?_
      clear hK K
      refine held_take 6 (.agg (vals .u8 a).toArray) rfl (by kernel_rfl) (by kernel_rfl) (by kernel_rfl) (fun _ _ _ h => h) (yields_load LA.out rfl rfl rfl) J12 (fun K hK => ?_)
      go_simp
      refine hK _ _ ?_
      clear hK K
      refine held_take 8 (.agg (vals .u8 a).toArray) rfl (by kernel_rfl) (by kernel_rfl) (by kernel_rfl) (fun _ _ _ h => h) (yields_load LA.out rfl rfl rfl) J12 (fun K hK => ?_)
      go_simp
      refine hK _ _ ?_
      clear hK K
      refine held_one 7 (by kernel_rfl) (fun K hK => wpOp_in rfl rfl ?_)
      go_simp
      refine (file_any HA.out _).mono ?_
      rintro e w13 ⟨rfl, hb⟩
      have J13 := J12.below hb
      refine hK _ _ J13 ?_
      clear hb J12
      clear hK K
      refine held_one 9 (by kernel_rfl) (fun K hK => wpOp_in rfl rfl ?_)
      go_simp
      refine (rfile_any HA.out _).mono ?_
      rintro e w14 ⟨rfl, hb⟩
      have J14 := J13.below hb
      refine hK _ _ J14 ?_
      clear hb J13
      clear hK K
      refine held_take 10 (.bool true) rfl (by kernel_rfl) (by kernel_rfl) (by kernel_rfl) (fun _ _ _ h => h) (Or.inl ⟨by rfl, fun x j => by go_simp⟩) J14 (fun K hK => ?_)
      go_simp
      refine hK _ _ ?_
      clear hK K
      refine held_take 11 (.bool true) rfl (by kernel_rfl) (by kernel_rfl) (by kernel_rfl) (fun _ _ _ h => h) (Or.inl ⟨by rfl, fun x j => by go_simp⟩) J14 (fun K hK => ?_)
      go_simp
      refine hK _ _ ?_
      clear hK K
      refine held_take 12 (.bool true) rfl (by kernel_rfl) (by kernel_rfl) (by kernel_rfl) (fun _ _ _ h => h) (Or.inl ⟨by rfl, fun x j => by go_simp⟩) J14 (fun K hK => ?_)
      go_simp
      refine hK _ _ ?_
      clear hK K
      refine held_take 13 (.agg (vals .u8 a).toArray) rfl (by kernel_rfl) (by kernel_rfl) (by kernel_rfl) (fun _ _ _ h => h) (yields_load LA.out rfl rfl rfl) J14 (fun K hK => ?_)
      go_simp
      refine hK _ _ ?_
      clear hK K
      refine held_take 14 (.agg (vals .u8 b).toArray) rfl (by kernel_rfl) (by kernel_rfl) (by kernel_rfl) (fun _ _ _ h => h) (yields_load LB.out rfl rfl rfl) J14 (fun K hK => ?_)
      go_simp
      refine hK _ _ ?_
      clear hK K
      refine held_take 16 (.agg (vals .u8 a).toArray) rfl (by kernel_rfl) (by kernel_rfl) (by kernel_rfl) (fun _ _ _ h => h) (yields_load LA.out rfl rfl rfl) J14 (fun K hK => ?_)
      go_simp
      refine hK _ _ ?_
      clear hK K
      refine held_take 17 (.agg (vals .u8 b).toArray) rfl (by kernel_rfl) (by kernel_rfl) (by kernel_rfl) (fun _ _ _ h => h) (yields_load LB.out rfl rfl rfl) J14 (fun K hK => ?_)
      go_simp
      refine hK _ _ ?_
      clear hK K
      refine held_one 15 (by kernel_rfl) (fun K hK => wpOp_in rfl rfl ?_)
      go_simp
      refine (less_any HA.out HB.out _).mono ?_
      rintro e w15 ⟨rfl, hb⟩
      have J15 := J14.below hb
      refine hK _ _ J15 ?_
      clear hb J14
      clear hK K
      refine held_one 18 (by kernel_rfl) (fun K hK => wpOp_in rfl rfl ?_)
      go_simp
      refine (rless_any HA.out HB.out _).mono ?_
      rintro e w16 ⟨rfl, hb⟩
      have J16 := J15.below hb
      refine hK _ _ J16 ?_
      clear hb J15
      clear hK K
      refine held_take 19 (.bool true) rfl (by kernel_rfl) (by kernel_rfl) (by kernel_rfl) (fun _ _ _ h => h) (Or.inl ⟨by rfl, fun x j => by go_simp⟩) J16 (fun K hK => ?_)
      go_simp
      refine hK _ _ ?_
      clear hK K
      refine held_take 20 (.bool true) rfl (by kernel_rfl) (by kernel_rfl) (by kernel_rfl) (fun _ _ _ h => h) (Or.inl ⟨by rfl, fun x j => by go_simp⟩) J16 (fun K hK => ?_)
      go_simp
      refine hK _ _ ?_
      clear hK K
      refine held_take 21 (.bool true) rfl (by kernel_rfl) (by kernel_rfl) (by kernel_rfl) (fun _ _ _ h => h) (Or.inl ⟨by rfl, fun x j => by go_simp⟩) J16 (fun K hK => ?_)
      go_simp
      refine hK _ _ ?_
      clear hK K
      refine held_take 22 (.string s) rfl (by kernel_rfl) (by kernel_rfl) (by kernel_rfl) (fun _ _ _ h => h) (Or.inl ⟨by rfl, fun x j => by go_simp⟩) J16 (fun K hK => ?_)
      go_simp
      refine hK _ _ ?_
      clear hK K
      refine held_take 24 (.string s) rfl (by kernel_rfl) (by kernel_rfl) (by kernel_rfl) (fun _ _ _ h => h) (Or.inl ⟨by rfl, fun x j => by go_simp⟩) J16 (fun K hK => ?_)
      go_simp
      refine hK _ _ ?_
      clear hK K
      refine held_one 23 (by kernel_rfl) (fun K hK => wpOp_in rfl rfl ?_)
      go_simp
      refine (of_one _ _ (HT.out.below J16.bel t1) hs2).mono ?_
      rintro e w17 ⟨rfl, hb⟩
      have J17 := J16.below hb
      refine hK _ _ J17 ?_
      clear hb J16
      clear hK K
      refine held_one 25 (by kernel_rfl) (fun K hK => wpOp_in rfl rfl ?_)
      go_simp
      refine (rof_one _ _ hs3).mono ?_
      rintro e w18 ⟨rfl, hb⟩
      have J18 := J17.below hb
      refine hK _ _ J18 ?_
      clear hb J17
      clear hK K
      refine held_take 26 (.bool true) rfl (by kernel_rfl) (by kernel_rfl) (by kernel_rfl) (fun _ _ _ h => h) (Or.inl ⟨by rfl, fun x j => by go_simp⟩) J18 (fun K hK => ?_)
      go_simp
      refine hK _ _ ?_
      clear hK K
      refine held_take 27 (.bool true) rfl (by kernel_rfl) (by kernel_rfl) (by kernel_rfl) (fun _ _ _ h => h) (Or.inl ⟨by rfl, fun x j => by go_simp⟩) J18 (fun K hK => ?_)
      go_simp
      refine hK _ _ ?_
      clear hK K
      refine held_take 28 (.bool true) rfl (by kernel_rfl) (by kernel_rfl) (by kernel_rfl) (fun _ _ _ h => h) (Or.inl ⟨by rfl, fun x j => by go_simp⟩) J18 (fun K hK => ?_)
      go_simp
      refine hK _ _ ?_
      clear hK K
      refine wpAnyH_done (by kernel_rfl) ?_ _
      go_wp2
      go_ret
      exact ⟨rfl, J18.bel⟩
  | false =>
    cases u with
    | true =>
      go_upto_region 11 with (first | refine wpl_load_in LN13 rfl rfl rfl ?_ | refine wpl_load_in LN11 rfl rfl rfl ?_ | refine wpl_load_in LD9 rfl rfl rfl ?_ | refine wpl_load_in LD7 rfl rfl rfl ?_)
      clear LN13 LN11 LD9 LD7 qD qN e0 e3
      refine wp_region_held (S := fun x => Has w x [(B13, N), (B11, N), (B9, D), (B7, D), (B1, b), (w.heap.size, a)]) (by kernel_rfl) ?_
      change wpAnyH _ _ _ _ _ _ _ _ w9.drew
      have J10 := J9.drew
      clear J9
      generalize w9.drew = w10 at J10 ⊢
      have LA : Hid (∀ x, Has w x [(B13, N), (B11, N), (B9, D), (B7, D), (B1, b), (w.heap.size, a)] → Loads Tryd.prog x 23 w.heap.size 0 (vals .u8 a).toArray) := Lib.hid fun x j => j.loads (.tail _ (.tail _ (.tail _ (.tail _ (.tail _ (.head _))))))
      have LB : Hid (∀ x, Has w x [(B13, N), (B11, N), (B9, D), (B7, D), (B1, b), (w.heap.size, a)] → Loads Tryd.prog x 23 B1 0 (vals .u8 b).toArray) := Lib.hid fun x j => j.loads (.tail _ (.tail _ (.tail _ (.tail _ (.head _)))))
      have qS := eq_dig (bl s)
      refine held_take 0 (.agg (vals .u8 a).toArray) rfl (by kernel_rfl) (by kernel_rfl) (by kernel_rfl) (fun _ _ _ h => h) (yields_load LA.out rfl rfl rfl) J10 (fun K hK => ?_)
      go_simp
      refine hK _ _ ?_
      clear hK K
      refine held_take 2 (.agg (vals .u8 a).toArray) rfl (by kernel_rfl) (by kernel_rfl) (by kernel_rfl) (fun _ _ _ h => h) (yields_load LA.out rfl rfl rfl) J10 (fun K hK => ?_)
      go_simp
      refine hK _ _ ?_
      clear hK K
      refine held_one 1 (by kernel_rfl) (fun K hK => wpOp_in rfl rfl ?_)
      go_simp
      refine (print_any HA.out _).mono ?_
      rintro e w11 ⟨rfl, hb⟩
      have J11 := J10.below hb
      refine hK _ _ J11 ?_
      clear hb J10
      clear hK K
      refine held_one 3 (by kernel_rfl) (fun K hK => wpOp_in rfl rfl ?_)
      go_simp
      refine (rprint_any HA.out _).mono ?_
      rintro e w12 ⟨rfl, hb⟩
      have J12 := J11.below hb
      refine hK _ _ J12 ?_
      clear hb J11
      clear hK K
      refine held_take 4 (.bool true) rfl (by kernel_rfl) (by kernel_rfl) (by kernel_rfl) (fun _ _ _ h => h) (Or.inl ⟨by rfl, fun x j => by go_simp⟩) J12 (fun K hK => ?_)
      go_simp
      refine hK _ _ ?_
      clear hK K
      refine held_take 5 (.bool true) rfl (by kernel_rfl) (by kernel_rfl) (by kernel_rfl) (fun _ _ _ h => h) (Or.inl ⟨by rfl, fun x j => by go_simp⟩) J12 (fun K hK => ?_)
      go_simp
      refine hK _ _ ?_
      clear hK K
      refine held_take 6 (.agg (vals .u8 a).toArray) rfl (by kernel_rfl) (by kernel_rfl) (by kernel_rfl) (fun _ _ _ h => h) (yields_load LA.out rfl rfl rfl) J12 (fun K hK => ?_)
      go_simp
      refine hK _ _ ?_
      clear hK K
      refine held_take 8 (.agg (vals .u8 a).toArray) rfl (by kernel_rfl) (by kernel_rfl) (by kernel_rfl) (fun _ _ _ h => h) (yields_load LA.out rfl rfl rfl) J12 (fun K hK => ?_)
      go_simp
      refine hK _ _ ?_
      clear hK K
      refine held_one 7 (by kernel_rfl) (fun K hK => wpOp_in rfl rfl ?_)
      go_simp
      refine (file_any HA.out _).mono ?_
      rintro e w13 ⟨rfl, hb⟩
      have J13 := J12.below hb
      refine hK _ _ J13 ?_
      clear hb J12
      clear hK K
      refine held_one 9 (by kernel_rfl) (fun K hK => wpOp_in rfl rfl ?_)
      go_simp
      refine (rfile_any HA.out _).mono ?_
      rintro e w14 ⟨rfl, hb⟩
      have J14 := J13.below hb
      refine hK _ _ J14 ?_
      clear hb J13
      clear hK K
      refine held_take 10 (.bool true) rfl (by kernel_rfl) (by kernel_rfl) (by kernel_rfl) (fun _ _ _ h => h) (Or.inl ⟨by rfl, fun x j => by go_simp⟩) J14 (fun K hK => ?_)
      go_simp
      refine hK _ _ ?_
      clear hK K
      refine held_take 11 (.bool true) rfl (by kernel_rfl) (by kernel_rfl) (by kernel_rfl) (fun _ _ _ h => h) (Or.inl ⟨by rfl, fun x j => by go_simp⟩) J14 (fun K hK => ?_)
      go_simp
      refine hK _ _ ?_
      clear hK K
      refine held_take 12 (.bool true) rfl (by kernel_rfl) (by kernel_rfl) (by kernel_rfl) (fun _ _ _ h => h) (Or.inl ⟨by rfl, fun x j => by go_simp⟩) J14 (fun K hK => ?_)
      go_simp
      refine hK _ _ ?_
      clear hK K
      refine held_take 13 (.agg (vals .u8 a).toArray) rfl (by kernel_rfl) (by kernel_rfl) (by kernel_rfl) (fun _ _ _ h => h) (yields_load LA.out rfl rfl rfl) J14 (fun K hK => ?_)
      go_simp
      refine hK _ _ ?_
      clear hK K
      refine held_take 14 (.agg (vals .u8 b).toArray) rfl (by kernel_rfl) (by kernel_rfl) (by kernel_rfl) (fun _ _ _ h => h) (yields_load LB.out rfl rfl rfl) J14 (fun K hK => ?_)
      go_simp
      refine hK _ _ ?_
      clear hK K
      refine held_take 16 (.agg (vals .u8 a).toArray) rfl (by kernel_rfl) (by kernel_rfl) (by kernel_rfl) (fun _ _ _ h => h) (yields_load LA.out rfl rfl rfl) J14 (fun K hK => ?_)
      go_simp
      refine hK _ _ ?_
      clear hK K
      refine held_take 17 (.agg (vals .u8 b).toArray) rfl (by kernel_rfl) (by kernel_rfl) (by kernel_rfl) (fun _ _ _ h => h) (yields_load LB.out rfl rfl rfl) J14 (fun K hK => ?_)
      go_simp
      refine hK _ _ ?_
      clear hK K
      refine held_one 15 (by kernel_rfl) (fun K hK => wpOp_in rfl rfl ?_)
      go_simp
      refine (less_any HA.out HB.out _).mono ?_
      rintro e w15 ⟨rfl, hb⟩
      have J15 := J14.below hb
      refine hK _ _ J15 ?_
      clear hb J14
      clear hK K
      refine held_one 18 (by kernel_rfl) (fun K hK => wpOp_in rfl rfl ?_)
      go_simp
      refine (rless_any HA.out HB.out _).mono ?_
      rintro e w16 ⟨rfl, hb⟩
      have J16 := J15.below hb
      refine hK _ _ J16 ?_
      clear hb J15
      clear hK K
      refine held_take 19 (.bool true) rfl (by kernel_rfl) (by kernel_rfl) (by kernel_rfl) (fun _ _ _ h => h) (Or.inl ⟨by rfl, fun x j => by go_simp⟩) J16 (fun K hK => ?_)
      go_simp
      refine hK _ _ ?_
      clear hK K
      refine held_take 20 (.bool true) rfl (by kernel_rfl) (by kernel_rfl) (by kernel_rfl) (fun _ _ _ h => h) (Or.inl ⟨by rfl, fun x j => by go_simp⟩) J16 (fun K hK => ?_)
      go_simp
      refine hK _ _ ?_
      clear hK K
      refine held_take 21 (.bool true) rfl (by kernel_rfl) (by kernel_rfl) (by kernel_rfl) (fun _ _ _ h => h) (Or.inl ⟨by rfl, fun x j => by go_simp⟩) J16 (fun K hK => ?_)
      go_simp
      refine hK _ _ ?_
      clear hK K
      refine held_take 22 (.string s) rfl (by kernel_rfl) (by kernel_rfl) (by kernel_rfl) (fun _ _ _ h => h) (Or.inl ⟨by rfl, fun x j => by go_simp⟩) J16 (fun K hK => ?_)
      go_simp
      refine hK _ _ ?_
      clear hK K
      refine held_take 24 (.string s) rfl (by kernel_rfl) (by kernel_rfl) (by kernel_rfl) (fun _ _ _ h => h) (Or.inl ⟨by rfl, fun x j => by go_simp⟩) J16 (fun K hK => ?_)
      go_simp
      refine hK _ _ ?_
      clear hK K
      refine held_one 23 (by kernel_rfl) (fun K hK => wpOp_in rfl rfl ?_)
      go_simp
      refine (of_one _ _ (HT.out.below J16.bel t1) hs2).mono ?_
      rintro e w17 ⟨rfl, hb⟩
      have J17 := J16.below hb
      refine hK _ _ J17 ?_
      clear hb J16
      clear hK K
      refine held_one 25 (by kernel_rfl) (fun K hK => wpOp_in rfl rfl ?_)
      go_simp
      refine (rof_one _ _ hs3).mono ?_
      rintro e w18 ⟨rfl, hb⟩
      have J18 := J17.below hb
      refine hK _ _ J18 ?_
      clear hb J17
      clear hK K
      refine held_take 26 (.bool true) rfl (by kernel_rfl) (by kernel_rfl) (by kernel_rfl) (fun _ _ _ h => h) (Or.inl ⟨by rfl, fun x j => by go_simp⟩) J18 (fun K hK => ?_)
      go_simp
      refine hK _ _ ?_
      clear hK K
      refine held_take 27 (.bool true) rfl (by kernel_rfl) (by kernel_rfl) (by kernel_rfl) (fun _ _ _ h => h) (Or.inl ⟨by rfl, fun x j => by go_simp⟩) J18 (fun K hK => ?_)
      go_simp
      refine hK _ _ ?_
      clear hK K
      refine held_take 28 (.bool true) rfl (by kernel_rfl) (by kernel_rfl) (by kernel_rfl) (fun _ _ _ h => h) (Or.inl ⟨by rfl, fun x j => by go_simp⟩) J18 (fun K hK => ?_)
      go_simp
      refine hK _ _ ?_
      clear hK K
      refine wpAnyH_done (by kernel_rfl) ?_ _
      go_wp2
      go_ret
      exact ⟨rfl, J18.bel⟩
    | false =>
      go_upto_region 11 with (first | refine wpl_load_in LN13 rfl rfl rfl ?_ | refine wpl_load_in LN11 rfl rfl rfl ?_ | refine wpl_load_in LD9 rfl rfl rfl ?_ | refine wpl_load_in LD7 rfl rfl rfl ?_)
      clear LN13 LN11 LD9 LD7 qD qN e0 e3
      refine wp_region_held (S := fun x => Has w x [(B13, N), (B11, N), (B9, D), (B7, D), (B1, b), (w.heap.size, a)]) (by kernel_rfl) ?_
      change wpAnyH _ _ _ _ _ _ _ _ w9.drew
      have J10 := J9.drew
      clear J9
      generalize w9.drew = w10 at J10 ⊢
      have LA : Hid (∀ x, Has w x [(B13, N), (B11, N), (B9, D), (B7, D), (B1, b), (w.heap.size, a)] → Loads Tryd.prog x 23 w.heap.size 0 (vals .u8 a).toArray) := Lib.hid fun x j => j.loads (.tail _ (.tail _ (.tail _ (.tail _ (.tail _ (.head _))))))
      have LB : Hid (∀ x, Has w x [(B13, N), (B11, N), (B9, D), (B7, D), (B1, b), (w.heap.size, a)] → Loads Tryd.prog x 23 B1 0 (vals .u8 b).toArray) := Lib.hid fun x j => j.loads (.tail _ (.tail _ (.tail _ (.tail _ (.head _)))))
      have qS := eq_dig (bl s)
      refine held_take 0 (.agg (vals .u8 a).toArray) rfl (by kernel_rfl) (by kernel_rfl) (by kernel_rfl) (fun _ _ _ h => h) (yields_load LA.out rfl rfl rfl) J10 (fun K hK => ?_)
      go_simp
      refine hK _ _ ?_
      clear hK K
      refine held_take 2 (.agg (vals .u8 a).toArray) rfl (by kernel_rfl) (by kernel_rfl) (by kernel_rfl) (fun _ _ _ h => h) (yields_load LA.out rfl rfl rfl) J10 (fun K hK => ?_)
      go_simp
      refine hK _ _ ?_
      clear hK K
      refine held_one 1 (by kernel_rfl) (fun K hK => wpOp_in rfl rfl ?_)
      go_simp
      refine (print_any HA.out _).mono ?_
      rintro e w11 ⟨rfl, hb⟩
      have J11 := J10.below hb
      refine hK _ _ J11 ?_
      clear hb J10
      clear hK K
      refine held_one 3 (by kernel_rfl) (fun K hK => wpOp_in rfl rfl ?_)
      go_simp
      refine (rprint_any HA.out _).mono ?_
      rintro e w12 ⟨rfl, hb⟩
      have J12 := J11.below hb
      refine hK _ _ J12 ?_
      clear hb J11
      clear hK K
      refine held_take 4 (.bool true) rfl (by kernel_rfl) (by kernel_rfl) (by kernel_rfl) (fun _ _ _ h => h) (Or.inl ⟨by rfl, fun x j => by go_simp⟩) J12 (fun K hK => ?_)
      go_simp
      refine hK _ _ ?_
      clear hK K
      refine held_take 5 (.bool true) rfl (by kernel_rfl) (by kernel_rfl) (by kernel_rfl) (fun _ _ _ h => h) (Or.inl ⟨by rfl, fun x j => by go_simp⟩) J12 (fun K hK => ?_)
      go_simp
      refine hK _ _ ?_
      clear hK K
      refine held_take 6 (.agg (vals .u8 a).toArray) rfl (by kernel_rfl) (by kernel_rfl) (by kernel_rfl) (fun _ _ _ h => h) (yields_load LA.out rfl rfl rfl) J12 (fun K hK => ?_)
      go_simp
      refine hK _ _ ?_
      clear hK K
      refine held_take 8 (.agg (vals .u8 a).toArray) rfl (by kernel_rfl) (by kernel_rfl) (by kernel_rfl) (fun _ _ _ h => h) (yields_load LA.out rfl rfl rfl) J12 (fun K hK => ?_)
      go_simp
      refine hK _ _ ?_
      clear hK K
      refine held_one 7 (by kernel_rfl) (fun K hK => wpOp_in rfl rfl ?_)
      go_simp
      refine (file_any HA.out _).mono ?_
      rintro e w13 ⟨rfl, hb⟩
      have J13 := J12.below hb
      refine hK _ _ J13 ?_
      clear hb J12
      clear hK K
      refine held_one 9 (by kernel_rfl) (fun K hK => wpOp_in rfl rfl ?_)
      go_simp
      refine (rfile_any HA.out _).mono ?_
      rintro e w14 ⟨rfl, hb⟩
      have J14 := J13.below hb
      refine hK _ _ J14 ?_
      clear hb J13
      clear hK K
      refine held_take 10 (.bool true) rfl (by kernel_rfl) (by kernel_rfl) (by kernel_rfl) (fun _ _ _ h => h) (Or.inl ⟨by rfl, fun x j => by go_simp⟩) J14 (fun K hK => ?_)
      go_simp
      refine hK _ _ ?_
      clear hK K
      refine held_take 11 (.bool true) rfl (by kernel_rfl) (by kernel_rfl) (by kernel_rfl) (fun _ _ _ h => h) (Or.inl ⟨by rfl, fun x j => by go_simp⟩) J14 (fun K hK => ?_)
      go_simp
      refine hK _ _ ?_
      clear hK K
      refine held_take 12 (.bool true) rfl (by kernel_rfl) (by kernel_rfl) (by kernel_rfl) (fun _ _ _ h => h) (Or.inl ⟨by rfl, fun x j => by go_simp⟩) J14 (fun K hK => ?_)
      go_simp
      refine hK _ _ ?_
      clear hK K
      refine held_take 13 (.agg (vals .u8 a).toArray) rfl (by kernel_rfl) (by kernel_rfl) (by kernel_rfl) (fun _ _ _ h => h) (yields_load LA.out rfl rfl rfl) J14 (fun K hK => ?_)
      go_simp
      refine hK _ _ ?_
      clear hK K
      refine held_take 14 (.agg (vals .u8 b).toArray) rfl (by kernel_rfl) (by kernel_rfl) (by kernel_rfl) (fun _ _ _ h => h) (yields_load LB.out rfl rfl rfl) J14 (fun K hK => ?_)
      go_simp
      refine hK _ _ ?_
      clear hK K
      refine held_take 16 (.agg (vals .u8 a).toArray) rfl (by kernel_rfl) (by kernel_rfl) (by kernel_rfl) (fun _ _ _ h => h) (yields_load LA.out rfl rfl rfl) J14 (fun K hK => ?_)
      go_simp
      refine hK _ _ ?_
      clear hK K
      refine held_take 17 (.agg (vals .u8 b).toArray) rfl (by kernel_rfl) (by kernel_rfl) (by kernel_rfl) (fun _ _ _ h => h) (yields_load LB.out rfl rfl rfl) J14 (fun K hK => ?_)
      go_simp
      refine hK _ _ ?_
      clear hK K
      refine held_one 15 (by kernel_rfl) (fun K hK => wpOp_in rfl rfl ?_)
      go_simp
      refine (less_any HA.out HB.out _).mono ?_
      rintro e w15 ⟨rfl, hb⟩
      have J15 := J14.below hb
      refine hK _ _ J15 ?_
      clear hb J14
      clear hK K
      refine held_one 18 (by kernel_rfl) (fun K hK => wpOp_in rfl rfl ?_)
      go_simp
      refine (rless_any HA.out HB.out _).mono ?_
      rintro e w16 ⟨rfl, hb⟩
      have J16 := J15.below hb
      refine hK _ _ J16 ?_
      clear hb J15
      clear hK K
      refine held_take 19 (.bool true) rfl (by kernel_rfl) (by kernel_rfl) (by kernel_rfl) (fun _ _ _ h => h) (Or.inl ⟨by rfl, fun x j => by go_simp⟩) J16 (fun K hK => ?_)
      go_simp
      refine hK _ _ ?_
      clear hK K
      refine held_take 20 (.bool true) rfl (by kernel_rfl) (by kernel_rfl) (by kernel_rfl) (fun _ _ _ h => h) (Or.inl ⟨by rfl, fun x j => by go_simp⟩) J16 (fun K hK => ?_)
      go_simp
      refine hK _ _ ?_
      clear hK K
      refine held_take 21 (.bool true) rfl (by kernel_rfl) (by kernel_rfl) (by kernel_rfl) (fun _ _ _ h => h) (Or.inl ⟨by rfl, fun x j => by go_simp⟩) J16 (fun K hK => ?_)
      go_simp
      refine hK _ _ ?_
      clear hK K
      refine held_take 22 (.string s) rfl (by kernel_rfl) (by kernel_rfl) (by kernel_rfl) (fun _ _ _ h => h) (Or.inl ⟨by rfl, fun x j => by go_simp⟩) J16 (fun K hK => ?_)
      go_simp
      refine hK _ _ ?_
      clear hK K
      refine held_take 24 (.string s) rfl (by kernel_rfl) (by kernel_rfl) (by kernel_rfl) (fun _ _ _ h => h) (Or.inl ⟨by rfl, fun x j => by go_simp⟩) J16 (fun K hK => ?_)
      go_simp
      refine hK _ _ ?_
      clear hK K
      refine held_one 23 (by kernel_rfl) (fun K hK => wpOp_in rfl rfl ?_)
      go_simp
      refine (of_one _ _ (HT.out.below J16.bel t1) hs2).mono ?_
      rintro e w17 ⟨rfl, hb⟩
      have J17 := J16.below hb
      refine hK _ _ J17 ?_
      clear hb J16
      clear hK K
      refine held_one 25 (by kernel_rfl) (fun K hK => wpOp_in rfl rfl ?_)
      go_simp
      refine (rof_one _ _ hs3).mono ?_
      rintro e w18 ⟨rfl, hb⟩
      have J18 := J17.below hb
      refine hK _ _ J18 ?_
      clear hb J17
      clear hK K
      refine held_take 26 (.bool true) rfl (by kernel_rfl) (by kernel_rfl) (by kernel_rfl) (fun _ _ _ h => h) (Or.inl ⟨by rfl, fun x j => by go_simp⟩) J18 (fun K hK => ?_)
      go_simp
      refine hK _ _ ?_
      clear hK K
      refine held_take 27 (.bool true) rfl (by kernel_rfl) (by kernel_rfl) (by kernel_rfl) (fun _ _ _ h => h) (Or.inl ⟨by rfl, fun x j => by go_simp⟩) J18 (fun K hK => ?_)
      go_simp
      refine hK _ _ ?_
      clear hK K
      refine held_take 28 (.bool true) rfl (by kernel_rfl) (by kernel_rfl) (by kernel_rfl) (fun _ _ _ h => h) (Or.inl ⟨by rfl, fun x j => by go_simp⟩) J18 (fun K hK => ?_)
      go_simp
      refine hK _ _ ?_
      clear hK K
      refine wpAnyH_done (by kernel_rfl) ?_ _
      go_wp2
      go_ret
      exact ⟨rfl, J18.bel⟩

theorem own : ownKnob Tryd.prog.godebug = none := by kernel_rfl
theorem laidOut : laidOutB Tryd.prog = true := by kernel_rfl
theorem contract (H : Type) (enc : TypeId × Value → H) (W : World) (base : Nat) (args : Array Value) (ds gs : List (DataW H)) (before : List MemPlace)
    (hval : ∀ (j : Nat) t v, Tryd.f3.params[j]? = some t → args[j]? = some v → Value.okWide Tryd.prog W .any base t v)
    (hW : DataW.Whole enc Tryd.prog Tryd.f3.params.toList Rows.stampExactSpec.vars false W args.toList ds gs before) (hL : laidMetH Tryd.prog Rows.stampExactRow.laid W) :
    Calls Tryd.prog 3 args W fun e W' => ∃ v, e = .returned v ∧ Rows.stampExactSpec.post enc Tryd.prog Tryd.f3 false true false false W args v W' := by
  have hW' := hW
  obtain ⟨p, q, hA0, hV, rfl, hfz, hnd⟩ := hW
  have hA : DataW.TrodAll enc Tryd.prog W 0 (fun _ => true) true Tryd.f3.params.toList args.toList ds p := hA0
  rw [Tryd.params3] at hA hval
  obtain ⟨v0, vs0, d0, ds0, p0, q0, hargs, rfl, rfl, h0, r0⟩ := trodAll_cons hA
  obtain ⟨v1, vs1, d1, ds1, p1, q1, rfl, rfl, rfl, h1, r1⟩ := trodAll_cons r0
  obtain ⟨v2, vs2, d2, ds2, p2, q2, rfl, rfl, rfl, h2, r2⟩ := trodAll_cons r1
  obtain ⟨rfl, rfl, rfl⟩ := trodAll_nil r2
  obtain rfl : args = #[v0, v1, v2] := by cases args; simp_all
  obtain ⟨rfl, rfl⟩ := trodVars_none hV
  have hlt0 : ∀ x ∈ p0, x.block < W.heap.size := fun x hx => by simpa using hW'.lt x (by simp [hx])
  obtain ⟨a0, rfl, w0⟩ := open_dig (hval 0 23 v0 rfl rfl) h0
  have hlt1 : ∀ x ∈ p1, x.block < W.heap.size := fun x hx => by simpa using hW'.lt x (by simp [hx])
  obtain ⟨a1, rfl, w1⟩ := open_dig (hval 1 23 v1 rfl rfl) h1
  obtain ⟨a2, rfl, rfl, rfl, w2⟩ := open_string Tryd.underlying9 (hval 2 9 v2 rfl rfl) h2
  have ht := tabs_of hL
  clear hA0
  simp only [List.append_nil] at hW'
  refine (walk a0 a1 a2 w0 w1 w2 W ht).mono fun e W' ⟨he, bel⟩ => ?_
  subst he
  exact ⟨_, rfl, _, _, _, [], _, [], hW', trodAll_mk1 (shut_bool Tryd.underlying4 _), (trodAll_cons_mk (Below.trod laidOut (by kernel_rfl) (of_decide_eq_true (by kernel_rfl)) h0 bel hlt0) (trodAll_cons_mk (Below.trod laidOut (by kernel_rfl) (of_decide_eq_true (by kernel_rfl)) h1 bel hlt1) (trodAll_cons_mk (shut_string Tryd.underlying9 w2) trodAll_mk0))), rfl, bel.frame _, fun h => by cases h⟩
theorem laid_met (os : Os) : laidMet Tryd.prog Rows.stampExactRow.laid ((laidWorld os).forCall (fun _ _ => 0) ⟨#[], #[.agg #[.int .u8 0, .int .u8 0, .int .u8 0, .int .u8 0, .int .u8 0, .int .u8 0, .int .u8 0, .int .u8 0, .int .u8 0, .int .u8 0, .int .u8 0, .int .u8 0, .int .u8 0, .int .u8 0, .int .u8 0, .int .u8 0, .int .u8 0, .int .u8 0, .int .u8 0, .int .u8 0, .int .u8 0, .int .u8 0, .int .u8 0, .int .u8 0, .int .u8 0, .int .u8 0, .int .u8 0, .int .u8 0, .int .u8 0, .int .u8 0, .int .u8 0, .int .u8 0], .agg #[.int .u8 0, .int .u8 0, .int .u8 0, .int .u8 0, .int .u8 0, .int .u8 0, .int .u8 0, .int .u8 0, .int .u8 0, .int .u8 0, .int .u8 0, .int .u8 0, .int .u8 0, .int .u8 0, .int .u8 0, .int .u8 0, .int .u8 0, .int .u8 0, .int .u8 0, .int .u8 0, .int .u8 0, .int .u8 0, .int .u8 0, .int .u8 0, .int .u8 0, .int .u8 0, .int .u8 0, .int .u8 0, .int .u8 0, .int .u8 0, .int .u8 0, .int .u8 0], .string ByteArray.empty], []⟩).memory :=
  laidMet_of_run' 8 (by kernel_rfl) (by kernel_rfl)
theorem reads (os : Os) {H : Type} (enc : TypeId × Value → H) : ∃ places, DataW.whole enc Tryd.prog ((laidWorld os).forCall (fun _ _ => 0) ⟨#[], #[.agg #[.int .u8 0, .int .u8 0, .int .u8 0, .int .u8 0, .int .u8 0, .int .u8 0, .int .u8 0, .int .u8 0, .int .u8 0, .int .u8 0, .int .u8 0, .int .u8 0, .int .u8 0, .int .u8 0, .int .u8 0, .int .u8 0, .int .u8 0, .int .u8 0, .int .u8 0, .int .u8 0, .int .u8 0, .int .u8 0, .int .u8 0, .int .u8 0, .int .u8 0, .int .u8 0, .int .u8 0, .int .u8 0, .int .u8 0, .int .u8 0, .int .u8 0, .int .u8 0], .agg #[.int .u8 0, .int .u8 0, .int .u8 0, .int .u8 0, .int .u8 0, .int .u8 0, .int .u8 0, .int .u8 0, .int .u8 0, .int .u8 0, .int .u8 0, .int .u8 0, .int .u8 0, .int .u8 0, .int .u8 0, .int .u8 0, .int .u8 0, .int .u8 0, .int .u8 0, .int .u8 0, .int .u8 0, .int .u8 0, .int .u8 0, .int .u8 0, .int .u8 0, .int .u8 0, .int .u8 0, .int .u8 0, .int .u8 0, .int .u8 0, .int .u8 0, .int .u8 0], .string ByteArray.empty], []⟩).memory Tryd.f3.params.toList Rows.stampExactSpec.vars false (#[.agg #[.int .u8 0, .int .u8 0, .int .u8 0, .int .u8 0, .int .u8 0, .int .u8 0, .int .u8 0, .int .u8 0, .int .u8 0, .int .u8 0, .int .u8 0, .int .u8 0, .int .u8 0, .int .u8 0, .int .u8 0, .int .u8 0, .int .u8 0, .int .u8 0, .int .u8 0, .int .u8 0, .int .u8 0, .int .u8 0, .int .u8 0, .int .u8 0, .int .u8 0, .int .u8 0, .int .u8 0, .int .u8 0, .int .u8 0, .int .u8 0, .int .u8 0, .int .u8 0], .agg #[.int .u8 0, .int .u8 0, .int .u8 0, .int .u8 0, .int .u8 0, .int .u8 0, .int .u8 0, .int .u8 0, .int .u8 0, .int .u8 0, .int .u8 0, .int .u8 0, .int .u8 0, .int .u8 0, .int .u8 0, .int .u8 0, .int .u8 0, .int .u8 0, .int .u8 0, .int .u8 0, .int .u8 0, .int .u8 0, .int .u8 0, .int .u8 0, .int .u8 0, .int .u8 0, .int .u8 0, .int .u8 0, .int .u8 0, .int .u8 0, .int .u8 0, .int .u8 0], .string ByteArray.empty] : Array Value).toList 8 = some ([.agg [.lit (.int .u8 0), .lit (.int .u8 0), .lit (.int .u8 0), .lit (.int .u8 0), .lit (.int .u8 0), .lit (.int .u8 0), .lit (.int .u8 0), .lit (.int .u8 0), .lit (.int .u8 0), .lit (.int .u8 0), .lit (.int .u8 0), .lit (.int .u8 0), .lit (.int .u8 0), .lit (.int .u8 0), .lit (.int .u8 0), .lit (.int .u8 0), .lit (.int .u8 0), .lit (.int .u8 0), .lit (.int .u8 0), .lit (.int .u8 0), .lit (.int .u8 0), .lit (.int .u8 0), .lit (.int .u8 0), .lit (.int .u8 0), .lit (.int .u8 0), .lit (.int .u8 0), .lit (.int .u8 0), .lit (.int .u8 0), .lit (.int .u8 0), .lit (.int .u8 0), .lit (.int .u8 0), .lit (.int .u8 0)], .agg [.lit (.int .u8 0), .lit (.int .u8 0), .lit (.int .u8 0), .lit (.int .u8 0), .lit (.int .u8 0), .lit (.int .u8 0), .lit (.int .u8 0), .lit (.int .u8 0), .lit (.int .u8 0), .lit (.int .u8 0), .lit (.int .u8 0), .lit (.int .u8 0), .lit (.int .u8 0), .lit (.int .u8 0), .lit (.int .u8 0), .lit (.int .u8 0), .lit (.int .u8 0), .lit (.int .u8 0), .lit (.int .u8 0), .lit (.int .u8 0), .lit (.int .u8 0), .lit (.int .u8 0), .lit (.int .u8 0), .lit (.int .u8 0), .lit (.int .u8 0), .lit (.int .u8 0), .lit (.int .u8 0), .lit (.int .u8 0), .lit (.int .u8 0), .lit (.int .u8 0), .lit (.int .u8 0), .lit (.int .u8 0)], .lit (.string [])], [], places) :=
  ⟨[], by kernel_rfl⟩
set_option maxRecDepth 100000 in
theorem lifted (os : Os) (started : os.Started) (H : Type) (enc : TypeId × Value → H) (F : Stop.Interp) :
    ReturnsInHanded {} Tryd.checked os 3 .any ((OpenSpec.ofChange Rows.stampExactSpec).preRow enc Tryd.prog Tryd.f3 Rows.stampExactRow.domain false Rows.stampExactRow.laid) (((OpenSpec.ofChange Rows.stampExactSpec).at F).post enc Tryd.prog Tryd.f3 false true false false) := by
  obtain ⟨places, hx⟩ := reads os enc
  refine returnsInHanded_of_row (C := Tryd.checked) (s := OpenSpec.ofChange Rows.stampExactSpec) own started (by kernel_rfl) Tryd.func3
    (witness_row_at (enc := enc) (C := Tryd.checked) false (laidWorld os) #[.agg #[.int .u8 0, .int .u8 0, .int .u8 0, .int .u8 0, .int .u8 0, .int .u8 0, .int .u8 0, .int .u8 0, .int .u8 0, .int .u8 0, .int .u8 0, .int .u8 0, .int .u8 0, .int .u8 0, .int .u8 0, .int .u8 0, .int .u8 0, .int .u8 0, .int .u8 0, .int .u8 0, .int .u8 0, .int .u8 0, .int .u8 0, .int .u8 0, .int .u8 0, .int .u8 0, .int .u8 0, .int .u8 0, .int .u8 0, .int .u8 0, .int .u8 0, .int .u8 0], .agg #[.int .u8 0, .int .u8 0, .int .u8 0, .int .u8 0, .int .u8 0, .int .u8 0, .int .u8 0, .int .u8 0, .int .u8 0, .int .u8 0, .int .u8 0, .int .u8 0, .int .u8 0, .int .u8 0, .int .u8 0, .int .u8 0, .int .u8 0, .int .u8 0, .int .u8 0, .int .u8 0, .int .u8 0, .int .u8 0, .int .u8 0, .int .u8 0, .int .u8 0, .int .u8 0, .int .u8 0, .int .u8 0, .int .u8 0, .int .u8 0, .int .u8 0, .int .u8 0], .string ByteArray.empty] rfl (by kernel_rfl) (by kernel_rfl) (by kernel_rfl)
      (OpenSpec.preRow_of_cond 8 hx (by kernel_rfl) (fun k hk => by cases hk) (by kernel_rfl) (laid_met os))) ?_
  intro W base args ds gs before hval hW _ _ _ hL _ _
  exact contract H enc W base args ds gs before hval hW hL
theorem said : Rows.StampExactSaid :=
  OpenClaim.holds_of_cond 3 Tryd.f3 rfl rfl rfl rfl rfl rfl rfl ⟨rfl, rfl, rfl, rfl, rfl⟩ rfl rfl rfl rfl rfl (by kernel_rfl) Tryd.func3 (by kernel_rfl)
    (of_decide_eq_true (by kernel_rfl)) (by unfold Func.isWrapper; first | (rw [if_pos (by decide +kernel)]; kernel_rfl) | (rw [if_neg (by decide +kernel)]; exact ⟨rfl, rfl⟩))
    (fun os started H enc _ F => by rw [OpenClaim.pre_eq_preRow]; exact lifted os started H enc F)
theorem plain (f : FuncId) (fn : Func) (hf : Tryd.pinned.checked.prog.funcNamed "manciple/manciplelaw04.StampExact" = some f) (hfn : Tryd.pinned.checked.prog.funcs[f]? = some fn) :
    false = Tryd.pinned.checked.prog.looks [] ∧ ∀ (j : Nat) t, fn.params[j]? = some t → Tryd.pinned.checked.prog.wantsStandIn t = false := by
  obtain rfl : f = 3 := Option.some.inj ((show Tryd.prog.funcNamed "manciple/manciplelaw04.StampExact" = some 3 by kernel_rfl).symm.trans hf) |>.symm
  obtain rfl : fn = Tryd.f3 := (Option.some.inj (Tryd.func3.symm.trans hfn)).symm
  refine ⟨by kernel_rfl, fun j t ht => ?_⟩
  rw [Tryd.params3] at ht
  have hm : t ∈ [23, 23, 9] := by simpa using Array.mem_of_getElem? ht
  have hall : ([23, 23, 9].all fun u => !Tryd.prog.wantsStandIn u) = true := by kernel_rfl
  exact (show Tryd.prog.wantsStandIn t = false by simpa using List.all_eq_true.1 hall t hm)
theorem proved : Rows.StampExactCardSaid :=
  Claim7.holds_tied_plain_at .later [] _ _ _ _ said (fun _ h => by cases h) (by kernel_rfl) (fun _ h => by cases h) stampExact_row_tie rfl ⟨rfl, rfl⟩ (by kernel_rfl) rfl plain (by kernel_rfl)
#print axioms proved
end Go.Proofs.YtmnkhcefdpcheaaDoor.stampExact
