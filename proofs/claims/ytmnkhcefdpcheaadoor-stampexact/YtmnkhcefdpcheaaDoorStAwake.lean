/-
  The document's examples of layer 4: awake answers true.
-/
import Derived.Test.YtmnkhcefdpcheaaDoorStBehind
import Derived.Test.YtmnkhcefdpcheaaDoorShParts
namespace Go.Proofs.YtmnkhcefdpcheaaDoor.St
open Go.RowKit Go.PlainAid Go.Proofs.YtmnkhcefdpcheaaDoor.Sh
set_option linter.unusedVariables false

def lit1 : ByteArray := ⟨#[115, 104, 97, 50, 53, 54, 58, 101, 51, 98, 48, 99, 52, 52, 50, 57, 56, 102, 99, 49, 99, 49, 52, 57, 97, 102, 98, 102, 52, 99, 56, 57, 57, 54, 102, 98, 57, 50, 52, 50, 55, 97, 101, 52, 49, 101, 52, 54, 52, 57, 98, 57, 51, 52, 99, 97, 52, 57, 53, 57, 57, 49, 98, 55, 56, 53, 50, 98, 56, 53, 53]⟩
def lit2 : ByteArray := ⟨#[115, 104, 97, 50, 53, 54, 58, 69, 51, 98, 48, 99, 52, 52, 50, 57, 56, 102, 99, 49, 99, 49, 52, 57, 97, 102, 98, 102, 52, 99, 56, 57, 57, 54, 102, 98, 57, 50, 52, 50, 55, 97, 101, 52, 49, 101, 52, 54, 52, 57, 98, 57, 51, 52, 99, 97, 52, 57, 53, 57, 57, 49, 98, 55, 56, 53, 50, 98, 56, 53, 53]⟩
set_option maxRecDepth 100000 in
theorem lit1_is : ∃ d, Dig d ∧ shaD [] = d ∧ lessL zeros d = true ∧ lit1 = txt ⟨#[115, 104, 97, 50, 53, 54, 58]⟩ d :=
  ⟨shaD [], ⟨shaD_len _, shaD_lt _⟩, rfl, by rw [val_none]; decide +kernel, by rw [val_none]; decide +kernel⟩
set_option maxRecDepth 100000 in
theorem lit2_not : ¬ Is ⟨#[115, 104, 97, 50, 53, 54, 58]⟩ lit2 := by
  rintro ⟨d, hd, he⟩
  have h1 := cut_txt ⟨#[115, 104, 97, 50, 53, 54, 58]⟩ hd
  rw [← he] at h1
  have h2 := (hexD_form d).2 0 (by rw [hexD_size hd]; decide)
  rw [← h1] at h2
  have h3 : Hx.sok (bt (cut lit2 ⟨#[115, 104, 97, 50, 53, 54, 58]⟩) 0) = false := by decide +kernel
  rw [h3] at h2
  cases h2
theorem parse_lit1 {d : List Nat} (hd : Dig d) (he : lit1 = txt ⟨#[115, 104, 97, 50, 53, 54, 58]⟩ d) (w : World) : Calls Tryd.prog 7 #[.string ⟨#[115, 104, 97, 50, 53, 54, 58, 101, 51, 98, 48, 99, 52, 52, 50, 57, 56, 102, 99, 49, 99, 49, 52, 57, 97, 102, 98, 102, 52, 99, 56, 57, 57, 54, 102, 98, 57, 50, 52, 50, 55, 97, 101, 52, 49, 101, 52, 54, 52, 57, 98, 57, 51, 52, 99, 97, 52, 57, 53, 57, 57, 49, 98, 55, 56, 53, 50, 98, 56, 53, 53]⟩] w fun e w' => e = .returned (.tuple #[.agg (vals .u8 d).toArray, .int .i64 0]) ∧ Below w.heap.size w w' := by
  refine (parse_any lit1 w (by decide)).mono fun e w' hp => ?_
  rw [he] at hp
  exact read_yes hd hp
theorem parse_lit2 (w : World) : Calls Tryd.prog 7 #[.string ⟨#[115, 104, 97, 50, 53, 54, 58, 69, 51, 98, 48, 99, 52, 52, 50, 57, 56, 102, 99, 49, 99, 49, 52, 57, 97, 102, 98, 102, 52, 99, 56, 57, 57, 54, 102, 98, 57, 50, 52, 50, 55, 97, 101, 52, 49, 101, 52, 54, 52, 57, 98, 57, 51, 52, 99, 97, 52, 57, 53, 57, 57, 49, 98, 55, 56, 53, 50, 98, 56, 53, 53]⟩] w fun e w' => e = .returned (.tuple #[.agg (vals .u8 zeros).toArray, .int .i64 3]) ∧ Below w.heap.size w w' :=
  (parse_any lit2 w (by decide)).mono fun e w' hp => read_no lit2_not hp
/-- one digest of the call's own -/
structure One (w x : World) (B : Nat) (d : List Nat) : Prop where
  a : Blk x B .u8 23 d
  bel : Below w.heap.size w x
theorem One.below {w x y : World} {B : Nat} {d : List Nat} (i : One w x B d) (hb : Below x.heap.size x y) : One w y B d := ⟨i.a.below hb i.a.lt, i.bel.trans (hb.mono i.bel.size)⟩
theorem One.drew {w x : World} {B : Nat} {d : List Nat} (i : One w x B d) : One w x.drew B d := i.below ((Below.refl _ _).drew)

set_option maxRecDepth 100000 in
set_option maxHeartbeats 4000000 in
theorem awake_any (w : World) (ht : Tabs w) : Calls Tryd.prog 6 #[] w fun e w' => e = .returned (.bool true) ∧ Below w.heap.size w w' := by
  have HT := Lib.hid ht
  have t1 := ht.keys.lt
  clear ht
  obtain ⟨d, hd, hs, hl, he⟩ := lit1_is
  have HD := Lib.hid hd
  have HS := Lib.hid hs
  have HL := Lib.hid hl
  have HE := Lib.hid he
  clear hd hs hl he
  go_enter Tryd.func6, Tryd.ntmps6
  go_wp2_with fail
  refine (parse_lit1 HD.out HE.out _).mono ?_
  rintro e w1 ⟨rfl, F1⟩
  obtain ⟨X, S1, D1, G1, Z1⟩ := keep_dig w1 d HD.out.len
  go_upto_region 2 with (refine wpl_store S1 rfl rfl rfl rfl rfl ?_)
  have J1 : One w X w1.heap.size d := ⟨D1, F1.trans (G1.mono F1.size)⟩
  clear S1 D1 G1 Z1 F1
  generalize w1.heap.size = B at J1 ⊢
  go_wp2_with fail
  refine (parse_lit2 _).mono ?_
  rintro e w2 ⟨rfl, F2⟩
  have J2 := J1.below F2
  clear J1 F2
  obtain ⟨Y, S2, D2, G2, Z2⟩ := keep_dig w2 zeros zeros_dig.len
  go_upto_region 3 with (refine wpl_store S2 rfl rfl rfl rfl rfl ?_)
  have J3 := J2.below G2
  clear S2 D2 G2 Z2 J2
  refine wp_region_held (S := fun x => One w x B d) (by kernel_rfl) ?_
  change wpAnyH _ _ _ _ _ _ _ _ Y.drew
  have J4 := J3.drew
  clear J3
  generalize Y.drew = w4 at J4 ⊢
  have LD : Hid (∀ x, One w x B d → Loads Tryd.prog x 23 B 0 (vals .u8 d).toArray) := Lib.hid fun x j => Blk.dig_loads j.a HD.out
  have q1 : ∀ x, (Op.equalIn 10000 23 (.agg (vals .u8 d).toArray) (.agg (vals .u8 d).toArray)).run Tryd.prog x = .ok true x := fun x => by
    have := eq_any HD.out HD.out x
    simpa using this
  have hz : (txt ⟨#[98, 108, 111, 98, 45]⟩ d).size = 69 := txt_size HD.out
  refine held_take 0 (.int .i64 0) rfl (by kernel_rfl) (by kernel_rfl) (by kernel_rfl) (fun _ _ _ h => h) (Or.inl ⟨by rfl, fun x j => by go_simp⟩) J4 (fun K hK => ?_)
  go_simp
  refine hK _ _ ?_
  clear hK K
  refine held_take 1 (.bool true) rfl (by kernel_rfl) (by kernel_rfl) (by kernel_rfl) (fun _ _ _ h => h) (Or.inl ⟨by rfl, fun x j => by go_simp⟩) J4 (fun K hK => ?_)
  go_simp
  refine hK _ _ ?_
  clear hK K
  refine held_take 2 (.bool true) rfl (by kernel_rfl) (by kernel_rfl) (by kernel_rfl) (fun _ _ _ h => h) (Or.inl ⟨by rfl, fun x j => by go_simp⟩) J4 (fun K hK => ?_)
  go_simp
  refine hK _ _ ?_
  clear hK K
  refine held_take 3 (.agg (vals .u8 d).toArray) rfl (by kernel_rfl) (by kernel_rfl) (by kernel_rfl) (fun _ _ _ h => h) (yields_load LD.out rfl rfl rfl) J4 (fun K hK => ?_)
  go_simp
  refine hK _ _ ?_
  clear hK K
  refine held_one 4 (by kernel_rfl) (fun K hK => wpOp_in rfl rfl ?_)
  go_simp
  refine (of_one ⟨#[]⟩ _ (HT.out.below J4.bel t1) (by decide)).mono ?_
  rintro e w5 ⟨rfl, hb⟩
  rw [bl_empty, HS.out]
  have J5 := J4.below hb
  refine hK _ _ J5 ?_
  clear J4 hb
  clear hK K
  refine held_take 5 (.bool true) rfl (by kernel_rfl) (by kernel_rfl) (by kernel_rfl) (fun _ _ _ h => h) (Or.inl ⟨by rfl, fun x j => by go_simp⟩) J5 (fun K hK => ?_)
  go_simp
  refine hK _ _ ?_
  clear hK K
  refine held_take 6 (.bool true) rfl (by kernel_rfl) (by kernel_rfl) (by kernel_rfl) (fun _ _ _ h => h) (Or.inl ⟨by rfl, fun x j => by go_simp⟩) J5 (fun K hK => ?_)
  go_simp
  refine hK _ _ ?_
  clear hK K
  refine held_take 7 (.bool true) rfl (by kernel_rfl) (by kernel_rfl) (by kernel_rfl) (fun _ _ _ h => h) (Or.inl ⟨by rfl, fun x j => by go_simp⟩) J5 (fun K hK => ?_)
  go_simp
  refine hK _ _ ?_
  clear hK K
  refine held_take 8 (.int .i64 3) rfl (by kernel_rfl) (by kernel_rfl) (by kernel_rfl) (fun _ _ _ h => h) (Or.inl ⟨by rfl, fun x j => by go_simp⟩) J5 (fun K hK => ?_)
  go_simp
  refine hK _ _ ?_
  clear hK K
  refine held_take 9 (.bool true) rfl (by kernel_rfl) (by kernel_rfl) (by kernel_rfl) (fun _ _ _ h => h) (Or.inl ⟨by rfl, fun x j => by go_simp⟩) J5 (fun K hK => ?_)
  go_simp
  refine hK _ _ ?_
  clear hK K
  refine held_take 10 (.bool true) rfl (by kernel_rfl) (by kernel_rfl) (by kernel_rfl) (fun _ _ _ h => h) (Or.inl ⟨by rfl, fun x j => by go_simp⟩) J5 (fun K hK => ?_)
  go_simp
  refine hK _ _ ?_
  clear hK K
  refine held_take 11 (.bool true) rfl (by kernel_rfl) (by kernel_rfl) (by kernel_rfl) (fun _ _ _ h => h) (Or.inl ⟨by rfl, fun x j => by go_simp⟩) J5 (fun K hK => ?_)
  go_simp
  refine hK _ _ ?_
  clear hK K
  refine held_take 12 (.agg (vals .u8 d).toArray) rfl (by kernel_rfl) (by kernel_rfl) (by kernel_rfl) (fun _ _ _ h => h) (yields_load LD.out rfl rfl rfl) J5 (fun K hK => ?_)
  go_simp
  refine hK _ _ ?_
  clear hK K
  refine held_one 13 (by kernel_rfl) (fun K hK => wpOp_in rfl rfl ?_)
  go_simp
  refine (file_any HD.out _).mono ?_
  rintro e w6 ⟨rfl, hb⟩
  have J6 := J5.below hb
  refine hK _ _ J6 ?_
  clear J5 hb
  clear hK K
  refine held_take 14 (.int .i64 69) rfl (by kernel_rfl) (by kernel_rfl) (by kernel_rfl) (fun _ _ _ h => h) (Or.inl ⟨by rfl, fun x j => by go_simp⟩) J6 (fun K hK => ?_)
  go_simp
  refine hK _ _ ?_
  clear hK K
  refine held_take 15 (.bool true) rfl (by kernel_rfl) (by kernel_rfl) (by kernel_rfl) (fun _ _ _ h => h) (Or.inl ⟨by rfl, fun x j => by go_simp⟩) J6 (fun K hK => ?_)
  go_simp
  refine hK _ _ ?_
  clear hK K
  refine held_take 16 (.bool true) rfl (by kernel_rfl) (by kernel_rfl) (by kernel_rfl) (fun _ _ _ h => h) (Or.inl ⟨by rfl, fun x j => by go_simp⟩) J6 (fun K hK => ?_)
  go_simp
  refine hK _ _ ?_
  clear hK K
  refine held_take 17 (.bool true) rfl (by kernel_rfl) (by kernel_rfl) (by kernel_rfl) (fun _ _ _ h => h) (Or.inl ⟨by rfl, fun x j => by go_simp⟩) J6 (fun K hK => ?_)
  go_simp
  refine hK _ _ ?_
  clear hK K
  refine held_take 18 (.agg #[.int .u8 0, .int .u8 0, .int .u8 0, .int .u8 0, .int .u8 0, .int .u8 0, .int .u8 0, .int .u8 0, .int .u8 0, .int .u8 0, .int .u8 0, .int .u8 0, .int .u8 0, .int .u8 0, .int .u8 0, .int .u8 0, .int .u8 0, .int .u8 0, .int .u8 0, .int .u8 0, .int .u8 0, .int .u8 0, .int .u8 0, .int .u8 0, .int .u8 0, .int .u8 0, .int .u8 0, .int .u8 0, .int .u8 0, .int .u8 0, .int .u8 0, .int .u8 0]) rfl (by kernel_rfl) (by kernel_rfl) (by kernel_rfl) (fun _ _ _ h => h) (Or.inl ⟨by rfl, fun x j => by go_simp⟩) J6 (fun K hK => ?_)
  go_simp
  refine hK _ _ ?_
  clear hK K
  refine held_take 19 (.agg (vals .u8 d).toArray) rfl (by kernel_rfl) (by kernel_rfl) (by kernel_rfl) (fun _ _ _ h => h) (yields_load LD.out rfl rfl rfl) J6 (fun K hK => ?_)
  go_simp
  refine hK _ _ ?_
  clear hK K
  refine held_one 20 (by kernel_rfl) (fun K hK => wpOp_in rfl rfl ?_)
  go_simp
  rw [← zeros_vals]
  refine (less_any zeros_dig HD.out _).mono ?_
  rintro e w7 ⟨rfl, hb⟩
  rw [HL.out]
  have J7 := J6.below hb
  refine hK _ _ J7 ?_
  clear J6 hb
  clear hK K
  refine held_take 21 (.bool true) rfl (by kernel_rfl) (by kernel_rfl) (by kernel_rfl) (fun _ _ _ h => h) (Or.inl ⟨by rfl, fun x j => by go_simp⟩) J7 (fun K hK => ?_)
  go_simp
  refine hK _ _ ?_
  clear hK K
  refine held_take 22 (.bool true) rfl (by kernel_rfl) (by kernel_rfl) (by kernel_rfl) (fun _ _ _ h => h) (Or.inl ⟨by rfl, fun x j => by go_simp⟩) J7 (fun K hK => ?_)
  go_simp
  refine hK _ _ ?_
  clear hK K
  refine wpAnyH_done (by kernel_rfl) ?_ _
  go_wp2
  go_ret
  exact ⟨rfl, J7.bel⟩
end Go.Proofs.YtmnkhcefdpcheaaDoor.St
